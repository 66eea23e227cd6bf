import PyProof.Rows.All
import Wide.All
import OpenK.AllK
import Wide.FinOn
import PyProof.EqAt
import PyProof.EqKinds
import PyProof.TupleCall
import KE.BitLaws
import KE.KSortTupG
import PyProof.Rows.SortShellAny
import KE.KItemsList
import PyProof.ExcArgsOwn
import PyProof.ExcAttrAll.ValueError
import OpenK.KOwn
import PyProof.NsDelKeeps
import PyProof.P3Eq
import PyProof.NeKinds
import PySem.Challenge.RW_bookcuts_k54_texts_that_write_no_book
set_option Elab.async false
set_option linter.all false
set_option maxRecDepth 100000
/-! THE HAND LAYER, for ints, bools, texts, own classes, lists, tuples, dicts, comprehensions, walks over dicts, enumerate, zip, reversed, texts, calls, loops. Paste it whole ahead of your own text; what your proof does not reach may be deleted. -/
namespace L2
open PySem PySem.Spec PyProof.Rows

/-- a key: an int or a str -/
abbrev Key := Sum Int Str
def keyIs : Key → Value → Bool
  | .inl k, v => Value.isInt k v
  | .inr x, v => Value.isStrOf x v
def keyH (w : World) : Key → Int
  | .inl k => hashInt k
  | .inr x => hashStr w x
theorem keyIs_shape : ∀ {k : Key} {v : Value}, keyIs k v = true → (∃ i t, k = Sum.inl i ∧ v = Value.int i t) ∨ (∃ x t, k = Sum.inr x ∧ v = Value.str x t)
  | .inl i, v, h => by
    obtain ⟨t, e⟩ := Value.isInt_shape (k := i) (v := v) h
    exact .inl ⟨i, t, rfl, e⟩
  | .inr x, v, h => by
    obtain ⟨t, e⟩ := Value.isStrOf_shape (x := x) (v := v) h
    exact .inr ⟨x, t, rfl, e⟩
theorem keyIs_int (i : Int) (t : Tok) : keyIs (.inl i) (.int i t) = true := by simp [keyIs, Value.isInt]
theorem keyIs_str (x : Str) (t : Tok) : keyIs (.inr x) (.str x t) = true := by simp [keyIs, Value.isStrOf]
theorem key_ll (a b : Int) : decide ((Sum.inl a : Key) = Sum.inl b) = (a == b) := by
  by_cases e : a = b
  · subst e; simp
  · have h : ¬ (Sum.inl a : Key) = Sum.inl b := fun q => e (Sum.inl.inj q)
    rw [decide_eq_false h]
    exact (beq_eq_false_iff_ne.mpr e).symm
theorem key_rr (a b : Str) : decide ((Sum.inr a : Key) = Sum.inr b) = decide (a = b) := by
  by_cases e : a = b
  · subst e; simp
  · have h : ¬ (Sum.inr a : Key) = Sum.inr b := fun q => e (Sum.inr.inj q)
    rw [decide_eq_false h, decide_eq_false e]
theorem key_lr (a : Int) (b : Str) : decide ((Sum.inl a : Key) = Sum.inr b) = false := decide_eq_false (fun q => nomatch q)
theorem key_rl (a : Str) (b : Int) : decide ((Sum.inr a : Key) = Sum.inl b) = false := decide_eq_false (fun q => nomatch q)

def mixKind (prog : Program) (w : World) : PySem.KeyKind prog w Key where
  is := keyIs
  hash := keyH w
  inj := fun v a b ha hb => by
    rcases keyIs_shape ha with ⟨i, t, rfl, rfl⟩ | ⟨x, t, rfl, rfl⟩
    · rcases keyIs_shape hb with ⟨j, u, rfl, e⟩ | ⟨y, u, rfl, e⟩
      · injection e with e1 _; rw [e1]
      · exact nomatch e
    · rcases keyIs_shape hb with ⟨j, u, rfl, e⟩ | ⟨y, u, rfl, e⟩
      · exact nomatch e
      · injection e with e1 _; rw [e1]
  byValue := fun k v h => by
    rcases keyIs_shape h with ⟨i, t, rfl, rfl⟩ | ⟨x, t, rfl, rfl⟩ <;> rfl
  pyHash := fun hv h => by
    rcases keyIs_shape hv with ⟨i, t, rfl, rfl⟩ | ⟨x, t, rfl, rfl⟩
    · exact wpAny_pyHash_int h
    · exact wpAny_pyHash_str h
  eqBool := fun hu hv h => by
    rcases keyIs_shape hu with ⟨i, t, rfl, rfl⟩ | ⟨x, t, rfl, rfl⟩
    · rcases keyIs_shape hv with ⟨j, u, rfl, rfl⟩ | ⟨y, u, rfl, rfl⟩
      · rw [key_ll] at h; exact wpAny_eqBool_int h
      · rw [key_lr] at h; exact SeqAt.EqAt.int_str i t y u _ _ _ _ h
    · rcases keyIs_shape hv with ⟨j, u, rfl, rfl⟩ | ⟨y, u, rfl, rfl⟩
      · rw [key_rl] at h; exact SeqAt.EqAt.str_int x t j u _ _ _ _ h
      · rw [key_rr] at h; exact wpAny_eqBool_str h
  «strs» := fun k x t v h => by
    rcases keyIs_shape h with ⟨i, u, rfl, e⟩ | ⟨y, u, rfl, e⟩
    · exact nomatch e
    · injection e with e1 _
      subst e1
      cases v <;> rfl

def boolI (b : Bool) : Int := if b = true then 1 else 0
def keyIsB : Key → Value → Bool
  | k, .bool b => decide (k = Sum.inl (boolI b))
  | k, v => keyIs k v
theorem keyIsB_shape : ∀ {k : Key} {v : Value}, keyIsB k v = true → (∃ i t, k = Sum.inl i ∧ v = Value.int i t) ∨ (∃ x t, k = Sum.inr x ∧ v = Value.str x t) ∨ ∃ b, k = Sum.inl (boolI b) ∧ v = Value.bool b := by
  intro k v h
  cases v with
  | bool b => exact .inr (.inr ⟨b, of_decide_eq_true h, rfl⟩)
  | _ =>
    rcases keyIs_shape (k := k) h with h | h
    · exact .inl h
    · exact .inr (.inl h)
theorem wpAny_pyHash_bool {prog : Program} {w : World} {A : Around} {E : Value → Shared → Prop} {s : Shared} {b : Bool} {Q : Int → Shared → Prop} (h : Q (hashInt (boolI b)) { s with toks := s.toks + 1 }) : wpAny (model prog w) A (PySem.pyHash (.bool b)) Q E s := by
  refine PySem.W.pyHash_slot (T := "bool") rfl F.slot_bool_hash entry_int_hash (args_int_hash _) (beq_builtin_none _) (.inl rfl) ?_
  cases b
  · exact (show wpAny _ _ (do ret (← mkInt 0)) _ _ s from wpAny_bind (wpAny_mkInt (wpAny_pure ⟨_, _, rfl, h⟩)))
  · exact (show wpAny _ _ (do ret (← mkInt 1)) _ _ s from wpAny_bind (wpAny_mkInt (wpAny_pure ⟨_, _, rfl, h⟩)))
theorem boolI_inj (a b : Bool) : (boolI a == boolI b) = (a == b) := by cases a <;> cases b <;> rfl
/-- keys that are ints, texts and bools (True is 1, False 0) -/
def mixKindB (prog : Program) (w : World) : PySem.KeyKind prog w Key where
  is := keyIsB
  hash := keyH w
  inj := fun v a b ha hb => by
    rcases keyIsB_shape ha with ⟨i, t, rfl, rfl⟩ | ⟨x, t, rfl, rfl⟩ | ⟨c, rfl, rfl⟩
    · rcases keyIsB_shape hb with ⟨j, u, rfl, e⟩ | ⟨y, u, rfl, e⟩ | ⟨d, rfl, e⟩
      · injection e with e1 _; rw [e1]
      · exact nomatch e
      · exact nomatch e
    · rcases keyIsB_shape hb with ⟨j, u, rfl, e⟩ | ⟨y, u, rfl, e⟩ | ⟨d, rfl, e⟩
      · exact nomatch e
      · injection e with e1 _; rw [e1]
      · exact nomatch e
    · rcases keyIsB_shape hb with ⟨j, u, rfl, e⟩ | ⟨y, u, rfl, e⟩ | ⟨d, rfl, e⟩
      · exact nomatch e
      · exact nomatch e
      · injection e with e1; rw [e1]
  byValue := fun k v h => by
    rcases keyIsB_shape h with ⟨i, t, rfl, rfl⟩ | ⟨x, t, rfl, rfl⟩ | ⟨c, rfl, rfl⟩ <;> rfl
  pyHash := fun hv h => by
    rcases keyIsB_shape hv with ⟨i, t, rfl, rfl⟩ | ⟨x, t, rfl, rfl⟩ | ⟨c, rfl, rfl⟩
    · exact wpAny_pyHash_int h
    · exact wpAny_pyHash_str h
    · exact wpAny_pyHash_bool h
  eqBool := fun hu hv h => by
    rcases keyIsB_shape hu with ⟨i, t, rfl, rfl⟩ | ⟨x, t, rfl, rfl⟩ | ⟨c, rfl, rfl⟩
    · rcases keyIsB_shape hv with ⟨j, u, rfl, rfl⟩ | ⟨y, u, rfl, rfl⟩ | ⟨d, rfl, rfl⟩
      · rw [key_ll] at h; exact wpAny_eqBool_int h
      · rw [key_lr] at h; exact SeqAt.EqAt.int_str i t y u _ _ _ _ h
      · rw [key_ll] at h; exact SeqAt.EqAt.int_bool i t d _ _ _ _ h
    · rcases keyIsB_shape hv with ⟨j, u, rfl, rfl⟩ | ⟨y, u, rfl, rfl⟩ | ⟨d, rfl, rfl⟩
      · rw [key_rl] at h; exact SeqAt.EqAt.str_int x t j u _ _ _ _ h
      · rw [key_rr] at h; exact wpAny_eqBool_str h
      · rw [key_rl] at h; exact SeqAt.EqAt.str_bool x t d _ _ _ _ h
    · rcases keyIsB_shape hv with ⟨j, u, rfl, rfl⟩ | ⟨y, u, rfl, rfl⟩ | ⟨d, rfl, rfl⟩
      · rw [key_ll] at h; exact SeqAt.EqAt.bool_int c j u _ _ _ _ h
      · rw [key_lr] at h; exact SeqAt.EqAt.bool_str c y u _ _ _ _ h
      · rw [key_ll, boolI_inj] at h; exact SeqAt.EqAt.bool_bool c d _ _ _ _ h
  «strs» := fun k x t v h => by
    rcases keyIsB_shape h with ⟨i, u, rfl, e⟩ | ⟨y, u, rfl, e⟩ | ⟨c, rfl, e⟩
    · exact nomatch e
    · injection e with e1 _
      subst e1
      cases v with
      | bool b =>
        show decide ((Sum.inr x : Key) = Sum.inl (boolI b)) = false
        exact key_rl x (boolI b)
      | _ => rfl
    · exact nomatch e
theorem mixKind_int (prog : Program) (w : World) (i : Int) (t : Tok) : (mixKind prog w).is (.inl i) (.int i t) = true := keyIs_int i t
theorem mixKind_str (prog : Program) (w : World) (x : Str) (t : Tok) : (mixKind prog w).is (.inr x) (.str x t) = true := keyIs_str x t
end L2

namespace L2
open PySem PySem.Spec PyProof.Rows

/-- a value, without the heap -/
inductive V where
  | non | bl (b : Bool) | int (i : Int) | str (x : Str) | byt (b : Array UInt8) | flt (b : UInt64) | ref (a : Addr) | ty (n : String)
  deriving DecidableEq

def RelV : V → Value → Prop
  | .non, u => u = Value.none
  | .bl b, u => u = Value.bool b
  | .int i, u => ∃ t, u = Value.int i t
  | .str x, u => ∃ t, u = Value.str x t
  | .byt b, u => ∃ t, u = Value.bytes b t
  | .flt b, u => ∃ t, u = Value.float b t
  | .ref a, u => u = Value.ref a
  | .ty n, u => u = Value.type n

abbrev Vals : List V → List Value → Prop := Paired RelV
theorem Vals.length {xs : List V} {us : List Value} (r : Vals xs us) : xs.length = us.length := Paired.length r
theorem Vals.get : ∀ {xs : List V} {us : List Value} {i : Nat} {x : V}, Vals xs us → xs[i]? = some x → ∃ u, us[i]? = some u ∧ RelV x u
  | _, _, _, _, .nil, e => by simp at e
  | _, _, 0, _, .cons r _, e => by simp at e; subst e; exact ⟨_, rfl, r⟩
  | _, _, i + 1, x, .cons _ t, e => by
    obtain ⟨u, h1, h2⟩ := Vals.get (i := i) (x := x) t (by simpa using e)
    exact ⟨u, by simpa using h1, h2⟩
theorem Vals.set {x : V} {u : Value} (r : RelV x u) : ∀ {xs : List V} {us : List Value} (i : Nat), Vals xs us → Vals (xs.set i x) (us.set i u)
  | _, _, _, .nil => .nil
  | _, _, 0, .cons _ t => .cons r t
  | _, _, i + 1, .cons q t => .cons q (Vals.set r i t)
theorem Vals.append : ∀ {xs ys : List V} {us ws : List Value}, Vals xs us → Vals ys ws → Vals (xs ++ ys) (us ++ ws)
  | _, _, _, _, .nil, s => s
  | _, _, _, _, .cons r t, s => .cons r (Vals.append t s)
theorem Vals.take : ∀ {xs : List V} {us : List Value} (n : Nat), Vals xs us → Vals (xs.take n) (us.take n)
  | _, _, 0, _ => .nil
  | _, _, _ + 1, .nil => .nil
  | _, _, n + 1, .cons r t => .cons r (Vals.take n t)
theorem Vals.drop : ∀ {xs : List V} {us : List Value} (n : Nat), Vals xs us → Vals (xs.drop n) (us.drop n)
  | _, _, 0, r => r
  | _, _, _ + 1, .nil => .nil
  | _, _, n + 1, .cons _ t => Vals.drop n t
def RelO : Option V → Option Value → Prop
  | some v, some u => RelV v u
  | none, none => True
  | _, _ => False
def KV {κ : Type} : List (κ × V) → List (κ × Value) → Prop := Paired fun (p : κ × V) (q : κ × Value) => p.1 = q.1 ∧ RelV p.2 q.2

/-- a key of a dict (00_mix): an int or a text -/
def kV : Key → V
  | .inl i => .int i
  | .inr x => .str x

/-- the key that a value is, if it is one -/
def vKey : V → Option Key
  | .int i => some (.inl i)
  | .str x => some (.inr x)
  | .bl b => some (.inl (boolI b))
  | _ => none
theorem vKey_kV (k : Key) : vKey (kV k) = some k := by cases k <;> rfl
/-- what stands at a tracked address -/
inductive HO where
  /-- a list -/
  | lst (xs : List V)
  /-- a tuple (never changes) -/
  | tup (xs : List V)
  /-- a dict whose keys are ints and texts; one whose keys are tuples of ints and texts (the empty one is both) -/
  | dK (kvs : List (Key × V)) | dT (kvs : List (List Key × V))
  /-- a set of ints: its members, its size -/
  | set (S : Int → Bool) (n : Nat)
  /-- an instance of the class at C, its dict at dx, its attributes -/
  | ins (C dx : Addr) (fs : List (Str × V))
  /-- the dict of the instance at x -/
  | own (x : Addr)
  /-- the dict of an exception -/
  | xd (fs : List (Str × V))
  /-- a bound method, f of x -/
  | met (f x : Addr)
  /-- a range object lo, lo + 1, .. below hi -/
  | rng (lo hi : Int)
  /-- a thing that is known to the object (the script; a dict while a loop walks it): read, never written while it is so -/
  | frz (o : Obj) (u : HO)
  /-- a code object's table -/
  | tbl (ps : Array Value)
  /-- any other thing, by what is true of its one object (a def of one's own: SetO a S n := HO.ext fun h => ..) -/
  | ext (φ : Heap → Prop)

abbrev Hp := Addr → Option HO
def upd (H : Hp) (a : Addr) (o : HO) : Hp := fun b => if b = a then some o else H b
theorem upd_same {H : Hp} {a : Addr} {o : HO} : upd H a o a = some o := by unfold upd; rw [if_pos rfl]
theorem upd_ne {H : Hp} {a b : Addr} {o : HO} (h : b ≠ a) : upd H a o b = H b := by unfold upd; rw [if_neg h]
/-- two objects of different content stand apart -/
theorem ne_of {H : Hp} {a b : Addr} {o u : HO} (h : H a = some o) (h' : H b = some u) (d : o ≠ u) : a ≠ b := by
  intro e; subst e; rw [h] at h'; exact d (Option.some.inj h')
theorem ne_of_none {H : Hp} {a b : Addr} {o : HO} (h : H a = some o) (h' : H b = none) : a ≠ b := by
  intro e; subst e; rw [h] at h'; cases h'

section
variable (P : Program) (w : World)
def ObjOk (H : Hp) (h : Heap) (a : Addr) : HO → Prop
  | .lst xs => xs.length ≤ sizeLine ∧ ∃ (its : List Value) (n : Nat), Vals xs its ∧ h.get? a = some { cls := .type "list", data := .seq its.toArray n }
  | .tup xs => xs.length ≤ sizeLine ∧ ∃ its : List Value, Vals xs its ∧ IsTup h a its.toArray
  | .dK kvs => kvs.length ≤ sizeLine ∧ (a == sysModules) = false ∧ ∃ vs, KV kvs vs ∧ h.DictOf (mixKind P w) a vs
  | .dT kvs => kvs.length ≤ sizeLine ∧ (a == sysModules) = false ∧ ∃ xs : List (List Key × Addr × Value),
      Paired (fun (p : List Key × V) (q : List Key × Addr × Value) => p.1 = q.1 ∧ (∃ zs, H q.2.1 = some (.tup zs) ∧ zs.map vKey = p.1.map some) ∧ RelV p.2 q.2.2) kvs xs ∧
      ∃ o es ep, h.get? a = some o ∧ o.ExactDict ∧ o.data = .dict es ep ∧ es.toList = xs.map (entryOfKey (tupleKind (mixKindB P w))) ∧ (xs.map (·.1)).Nodup
  | .set S n => h.SetOf (intKind P w) a S n
  | .ins C dx fs => H dx = some (.own a) ∧ fs.length ≤ 1000 ∧ dx ≠ a ∧ h.get? a = some (PySem.W.instObj C dx) ∧
      ∃ mA, h.Ns1 dx mA ∧ (∀ f, RelO (fs.lookup f) (mA f)) ∧ PySem.Within mA (fs.map (·.1))
  | .own _ => ∃ o, h.get? a = some o
  | .xd fs => ∃ mA, h.Ns1 a mA ∧ ∀ f, RelO (fs.lookup f) (mA f)
  | .rng lo hi => ∃ t u v, h.get? a = some { cls := .type "range", data := .fields #[.int lo t, .int hi u, .int 1 v] }
  | .frz o u => h.get? a = some o ∧ ObjOk H h a u
  | .tbl ps => h.get? a = some { cls := .none, data := .fields ps }
  | .met f x => h.get? a = some (PySem.W.methodObj (.ref f) (.ref x))
  | .ext φ => φ h ∧ (∃ o, h.get? a = some o) ∧ ∀ h1 h2 : Heap, φ h1 → (∀ o, h1.get? a = some o → h2.get? a = some o) → φ h2
/-- the abstract heap is held -/
def HOk (H : Hp) (h : Heap) : Prop := ∀ a o, H a = some o → ObjOk P w H h a o
end

section
variable {P : Program} {w : World} {H H' : Hp} {h h' : Heap} {a : Addr} {o : HO}
theorem ObjOk.lt (x : ObjOk P w H h a o) : a < h.objs.size := by
  cases o with
  | lst xs => obtain ⟨_, _, _, _, e⟩ := x; exact Heap.lt_size e
  | tup xs => obtain ⟨_, _, _, p⟩ := x; exact p.lt
  | dK kvs => obtain ⟨_, _, _, _, o, _, _, e, _⟩ := x; exact Heap.lt_size e
  | dT kvs => obtain ⟨_, _, _, _, o, _, _, e, _⟩ := x; exact Heap.lt_size e
  | set S n => obtain ⟨o, _, _, _, e, _⟩ := x; exact Heap.lt_size e
  | ins C dx fs => obtain ⟨_, _, _, e, _⟩ := x; exact Heap.lt_size e
  | own y => obtain ⟨_, e⟩ := x; exact Heap.lt_size e
  | xd fs => obtain ⟨_, ⟨_, _, _, e, _⟩, _⟩ := x; exact Heap.lt_size e
  | rng lo hi => obtain ⟨_, _, _, e⟩ := x; exact Heap.lt_size e
  | frz ob u => obtain ⟨e, _⟩ := x; exact Heap.lt_size e
  | tbl ps => exact Heap.lt_size (show h.get? a = some _ from x)
  | met f y => exact Heap.lt_size (show h.get? a = some _ from x)
  | ext φ => obtain ⟨_, ⟨_, e⟩, _⟩ := x; exact Heap.lt_size e
theorem Paired.mapP {α β : Type} {F G : α → β → Prop} : ∀ {l₁ : List α} {l₂ : List β}, Paired F l₁ l₂ → (∀ a b, F a b → G a b) → Paired G l₁ l₂
  | _, _, .nil, _ => .nil
  | _, _, .cons r t, f => .cons (f _ _ r) (Paired.mapP t f)
theorem Paired.imp' {α β : Type} {F G : α → β → Prop} (f : ∀ a b, F a b → G a b) {l₁ : List α} {l₂ : List β} (r : Paired F l₁ l₂) : Paired G l₁ l₂ := Paired.mapP r f
/-- what an object's description leans on: its own object, its own dict, the tuples -/
theorem ObjOk.stay (x : ObjOk P w H h a o) (k : ∀ b u, (b = a ∨ H b = some (.own a)) → h.get? b = some u → h'.get? b = some u)
    (ho : ∀ b, H b = some (.own a) → H' b = some (.own a)) (ht : ∀ b xs, H b = some (.tup xs) → H' b = some (.tup xs)) : ObjOk P w H' h' a o := by
  induction o with
  | lst xs => obtain ⟨z, its, n, r, e⟩ := x; exact ⟨z, its, n, r, k _ _ (.inl rfl) e⟩
  | tup xs => obtain ⟨z, its, r, ob, e, c⟩ := x; exact ⟨z, its, r, ob, k _ _ (.inl rfl) e, c⟩
  | dK kvs => obtain ⟨z, y, vs, r, ob, es, ep, e, c⟩ := x; exact ⟨z, y, vs, r, ob, es, ep, k _ _ (.inl rfl) e, c⟩
  | dT kvs =>
    obtain ⟨z, y, xs, r, ob, es, ep, e, c⟩ := x
    exact ⟨z, y, xs, Paired.mapP r fun p q z => ⟨z.1, z.2.1.imp fun _ g => ⟨ht _ _ g.1, g.2⟩, z.2.2⟩, ob, es, ep, k _ _ (.inl rfl) e, c⟩
  | set S n => obtain ⟨ob, es, ep, t, e, c⟩ := x; exact ⟨ob, es, ep, t, k _ _ (.inl rfl) e, c⟩
  | ins C dx fs =>
    obtain ⟨d, z, ne, e, mA, ⟨od, es, ep, e2, c⟩, r⟩ := x
    exact ⟨ho _ d, z, ne, k _ _ (.inl rfl) e, mA, ⟨od, es, ep, k _ _ (.inr d) e2, c⟩, r⟩
  | own y => obtain ⟨ob, e⟩ := x; exact ⟨ob, k _ _ (.inl rfl) e⟩
  | xd fs => obtain ⟨mA, ⟨od, es, ep, e, c⟩, r⟩ := x; exact ⟨mA, ⟨od, es, ep, k _ _ (.inl rfl) e, c⟩, r⟩
  | rng lo hi => obtain ⟨t, u, v, e⟩ := x; exact ⟨t, u, v, k _ _ (.inl rfl) e⟩
  | frz ob u ih => obtain ⟨e, q⟩ := x; exact ⟨k _ _ (.inl rfl) e, ih q⟩
  | tbl ps =>
    have e : h.get? a = some { cls := .none, data := .fields ps } := x
    show h'.get? a = some { cls := .none, data := .fields ps }
    exact k a _ (.inl rfl) e
  | met f y =>
    have e : h.get? a = some (PySem.W.methodObj (.ref f) (.ref y)) := x
    show h'.get? a = some (PySem.W.methodObj (.ref f) (.ref y))
    exact k a _ (.inl rfl) e
  | ext φ => obtain ⟨p, ⟨o, e⟩, st⟩ := x; exact ⟨st _ _ p fun o q => k _ _ (.inl rfl) q, ⟨o, k _ _ (.inl rfl) e⟩, st⟩
theorem HOk.lt (x : HOk P w H h) (e : H a = some o) : a < h.objs.size := (x a o e).lt
theorem HOk.fresh (x : HOk P w H h) (e : h.objs.size ≤ a) : H a = none := by
  cases q : H a with
  | none => rfl
  | some u => exact absurd (Nat.lt_of_lt_of_le (x.lt q) e) (Nat.lt_irrefl _)
/-- every object of the heap is kept -/
theorem HOk.kept (x : HOk P w H h) (k : ∀ b u, h.get? b = some u → h'.get? b = some u) : HOk P w H h' := fun a o e =>
  (x a o e).stay (fun b u _ q => k b u q) (fun _ q => q) fun _ _ q => q
/-- a new object is laid and tracked -/
theorem HOk.laid (x : HOk P w H h) (k : ∀ b u, h.get? b = some u → h'.get? b = some u) (hp : h.objs.size ≤ a) (new : ObjOk P w (upd H a o) h' a o) : HOk P w (upd H a o) h' := fun b u e => by
  have hn := x.fresh hp
  by_cases hb : b = a
  · subst hb; rw [upd_same] at e; cases e; exact new
  · rw [upd_ne hb] at e
    exact (x b u e).stay (fun c v _ q => k c v q) (fun c q => by rw [upd_ne (ne_of_none q hn)]; exact q) fun c xs q => by rw [upd_ne (ne_of_none q hn)]; exact q
end

/-- what may be read as u: it is u, or a known u -/
def Rd (H : Hp) (a : Addr) (u : HO) : Prop := H a = some u ∨ ∃ o, H a = some (.frz o u)
theorem Rd.of {H : Hp} {a : Addr} {u : HO} (h : H a = some u) : Rd H a u := .inl h
theorem Rd.ok {P : Program} {w : World} {H : Hp} {h : Heap} {a : Addr} {u : HO} (r : Rd H a u) (x : HOk P w H h) : ObjOk P w H h a u := by
  rcases r with r | ⟨o, r⟩
  · exact x a u r
  · obtain ⟨_, q⟩ := x a _ r
    exact q
/-- what may be written -/
def Mut : Option HO → Prop
  | some (.lst _) => True
  | some (.dK _) => True
  | some (.dT _) => True
  | some (.set _ _) => True
  | some (.ins _ _ _) => True
  | some (.ext _) => True
  | _ => False
section
variable {P : Program} {w : World} {H : Hp} {h h' : Heap} {x e : Addr} {o' : HO}
/-- the object at e is changed: x itself, or the dict of the instance x -/
theorem HOk.write (ok : HOk P w H h) (mu : Mut (H x)) (he : e = x ∨ H e = some (.own x)) (k : ∀ b u, b ≠ e → h.get? b = some u → h'.get? b = some u) (heo : ∃ u, h'.get? e = some u)
    (new : ObjOk P w (upd H x o') h' x o') : HOk P w (upd H x o') h' := fun b u q => by
  have nown : ∀ c y, H c = some (.own y) → c ≠ x := fun c y r z => by subst z; rw [r] at mu; exact mu
  have ntup : ∀ c xs, H c = some (.tup xs) → c ≠ x := fun c xs r z => by subst z; rw [r] at mu; exact mu
  by_cases hb : b = x
  · subst hb; rw [upd_same] at q; cases q; exact new
  · rw [upd_ne hb] at q
    by_cases hbe : b = e
    · have q' : H b = some (.own x) := by
        rcases he with z | z
        · exact absurd (hbe.trans z) hb
        · rw [hbe]; exact z
      rw [q] at q'; cases q'
      obtain ⟨v, hv⟩ := heo
      exact ⟨v, by rw [hbe]; exact hv⟩
    · refine (ok b u q).stay (fun c v hc r => k c v ?_ r) (fun c r => by rw [upd_ne (nown c b r)]; exact r) fun c xs r => by rw [upd_ne (ntup c xs r)]; exact r
      rcases hc with rfl | hc
      · exact hbe
      · rintro rfl
        rcases he with z | z
        · exact nown c b hc z
        · rw [hc] at z; cases z; exact hb rfl
end

/-! ### kept unless tracked; of the frames at fs (the callers') the slots may change (an exception that passes writes there); of the records at ex (iterators) nothing is said -/
structure Un (fs ex : List Addr) (H H' : Hp) (h h' : Heap) : Prop where
  keep : ∀ b o, h.get? b = some o → H b = none → b ∉ fs → b ∉ ex → h'.get? b = some o
  slot : ∀ b o, h.get? b = some o → H b = none → b ∈ fs → b ∉ ex → ∃ sl, h'.get? b = some { o with slots := sl }
  free : ∀ b o, h.get? b = some o → H b = none → b ∉ ex → H' b = none
  there : ∀ b o, h.get? b = some o → b ∉ ex → ∃ o', h'.get? b = some o'
  tups : ∀ b xs, H b = some (.tup xs) → H' b = some (.tup xs)
  frzs : ∀ b o u, H b = some (.frz o u) → H' b = some (.frz o u)
  tbls : ∀ b ps, H b = some (.tbl ps) → ∃ more, H' b = some (.tbl (ps ++ more))
section
variable {fs fs' ex ex' : List Addr} {H H1 H2 : Hp} {h h1 h2 h' : Heap} {a x e : Addr} {o : HO}
theorem Un.any (u : Un fs ex H H1 h h1) {b : Addr} {ob : Obj} (q : h.get? b = some ob) (n : H b = none) (hx : b ∉ ex) : ∃ sl, h1.get? b = some { ob with slots := sl } := by
  by_cases hb : b ∈ fs
  · exact u.slot b ob q n hb hx
  · exact ⟨ob.slots, u.keep b ob q n hb hx⟩
theorem Un.trans (a : Un fs ex H H1 h h1) (b : Un fs ex H1 H2 h1 h2) : Un fs ex H H2 h h2 where
  keep := fun c ob q n hc hx => b.keep c ob (a.keep c ob q n hc hx) (a.free c ob q n hx) hc hx
  slot := fun c ob q n hc hx => by
    obtain ⟨sl, e1⟩ := a.slot c ob q n hc hx
    obtain ⟨sl', e2⟩ := b.slot c _ e1 (a.free c ob q n hx) hc hx
    exact ⟨sl', e2⟩
  free := fun c ob q n hx => by
    obtain ⟨o', e1⟩ := a.there c ob q hx
    exact b.free c o' e1 (a.free c ob q n hx) hx
  there := fun c ob q hx => by
    obtain ⟨o', e1⟩ := a.there c ob q hx
    exact b.there c o' e1 hx
  tups := fun c xs q => b.tups c xs (a.tups c xs q)
  frzs := fun c ob xs q => b.frzs c ob xs (a.frzs c ob xs q)
  tbls := fun c ps q => by
    obtain ⟨m1, e1⟩ := a.tbls c ps q
    obtain ⟨m2, e2⟩ := b.tbls c _ e1
    exact ⟨m1 ++ m2, by rw [e2, Array.append_assoc]⟩
theorem Un.kept (k : ∀ b u, h.get? b = some u → h'.get? b = some u) : Un fs ex H H h h' :=
  ⟨fun b ob q _ _ _ => k b ob q, fun b ob q _ _ _ => ⟨ob.slots, k b ob q⟩, fun _ _ _ n _ => n, fun b ob q _ => ⟨ob, k b ob q⟩, fun _ _ q => q, fun _ _ _ q => q, fun _ ps q => ⟨#[], by rw [q]; simp⟩⟩
theorem Un.refl : Un fs ex H H h h := Un.kept fun _ _ q => q
theorem Un.laid (k : ∀ b u, h.get? b = some u → h'.get? b = some u) (hp : h.objs.size ≤ a) (hn : H a = none) : Un fs ex H (upd H a o) h h' where
  keep := fun b u q _ _ _ => k b u q
  slot := fun b u q _ _ _ => ⟨u.slots, k b u q⟩
  free := fun b u q n _ => by rw [upd_ne (Nat.ne_of_lt (Nat.lt_of_lt_of_le (Heap.lt_size q) hp))]; exact n
  there := fun b u q _ => ⟨u, k b u q⟩
  tups := fun b xs q => by rw [upd_ne (ne_of_none q hn)]; exact q
  frzs := fun b u xs q => by rw [upd_ne (ne_of_none q hn)]; exact q
  tbls := fun b ps q => ⟨#[], by rw [upd_ne (ne_of_none q hn), q]; simp⟩
theorem Un.write (mu : Mut (H x)) (he : e = x ∨ H e = some (.own x)) (k : ∀ b u, b ≠ e → h.get? b = some u → h'.get? b = some u) (heo : ∃ u, h'.get? e = some u) : Un fs ex H (upd H x o) h h' := by
  have hx : ∀ b, H b = none → b ≠ x := fun b n z => by subst z; rw [n] at mu; exact mu
  have hb : ∀ b, H b = none → b ≠ e := fun b n z => by
    subst z
    rcases he with r | r
    · exact hx b n r
    · rw [n] at r; cases r
  have hm : ∀ b u, H b = some u → ¬ Mut (some u) → b ≠ x := fun b u q nm z => by subst z; rw [q] at mu; exact nm mu
  refine ⟨fun b u q n _ _ => k b u (hb b n) q, fun b u q n _ _ => ⟨u.slots, k b u (hb b n) q⟩, fun b u q n _ => by rw [upd_ne (hx b n)]; exact n, fun b u q _ => ?_,
    fun b xs q => by rw [upd_ne (hm b _ q fun z => z)]; exact q, fun b u xs q => by rw [upd_ne (hm b _ q fun z => z)]; exact q, fun b ps q => ⟨#[], by rw [upd_ne (hm b _ q fun z => z), q]; simp⟩⟩
  by_cases hbe : b = e
  · subst hbe; exact heo
  · exact ⟨u, k b u hbe q⟩
theorem Un.mono (u : Un fs ex H H1 h h1) (hs : ∀ b ∈ fs, b ∈ fs') (hx : ∀ b ∈ ex, b ∈ ex') : Un fs' ex' H H1 h h1 :=
  ⟨fun b ob q n hb he => u.keep b ob q n (fun z => hb (hs b z)) fun z => he (hx b z), fun _ _ q n _ he => u.any q n fun z => he (hx _ z), fun b ob q n he => u.free b ob q n fun z => he (hx b z), fun b ob q he => u.there b ob q fun z => he (hx b z), u.tups, u.frzs, u.tbls⟩
end

/-! ### the heap without what is tracked -/
def trk (h : Heap) (H : Hp) : List Addr := (List.range h.objs.size).filter fun a => (H a).isSome
def hidT (h : Heap) (H : Hp) : Heap := PySem.W.hideAll h (trk h H)
theorem hidT_size (h : Heap) (H : Hp) : (hidT h H).objs.size = h.objs.size := PySem.W.hideAll_size _ _
theorem hidT_get {h : Heap} {H : Hp} {b : Addr} {o : Obj} (e : h.get? b = some o) (n : H b = none) : (hidT h H).get? b = some o :=
  PySem.W.hideAll_get _ e fun hm => by
    have q : (H b).isSome = true := (List.mem_filter.mp hm).2
    rw [n] at q; simp at q
theorem of_hidT {h : Heap} {H : Hp} {b : Addr} {o : Obj} (e : (hidT h H).get? b = some o) : h.get? b = some o ∧ H b = none := by
  have e' : h.get? b = some o := PySem.W.of_hideAll (trk h H) e
  refine ⟨e', ?_⟩
  cases q : H b with
  | none => rfl
  | some x =>
    have hm : b ∈ trk h H := List.mem_filter.mpr ⟨List.mem_range.mpr (Heap.lt_size e'), by simp [q]⟩
    have z : (hidT h H).get? b = none := PySem.W.hideAll_none (trk h H) hm
    rw [z] at e; cases e

/-! ### OpenK's ledger, filled with every new object but one -/
def allNews (g h : Heap) (L : Addr) : List (Addr × Obj) := (List.range h.objs.size).filterMap fun a => if a = L ∨ (g.get? a).isSome = true then none else (h.get? a).map fun o => (a, o)
def rest (g h : Heap) (L d : Addr) : List (Addr × Obj) := (allNews g h L).filter fun p => decide (p.1 ≠ d)
end L2

namespace L2
open PySem PySem.Spec PyProof.Rows

/-- the module's facts, over the base: the heap at the law's entry without what is tracked there -/
structure Mod (K : PySem.W.Frag) (mg : Str → Option Value) (base : Heap) : Prop where
  kin : K.In base
  glob : base.Ns mainGlobals mg
  blt : ∃ mb, base.Ns builtinsNs mb ∧ ∀ x : Str, x ≠ "__name__" → mb x = bootBuiltins x
  nolimit : base.NoLimit

/-- the context: a def's body (or a comprehension's block) running. base: fixed through the whole law; s₀, H₀: the entry; outer: the frames whose slots others may change (a def's callers); stack: all frames that run;
   ex: iterators that were made ahead of the entry and are walked here (a comprehension's); fn: the names whose cells were made at the entry (a def: all; a comprehension's block: its own); calm: not within an except suite; pn: pins that every state bears; xe: what is wanted of an exception that leaves the code -/
structure Cx where
  prog : Program
  w : World
  K : PySem.W.Frag
  mg : Str → Option Value
  base : Heap
  A : Around
  N : List Str
  s_0 : Shared
  H_0 : Hp
  env : Env
  outer : List Env
  stack : List Env
  ex : List Addr
  fn : Str → Bool
  calm : Bool
  pn : List (Addr × Obj)
  xe : Value → Shared → Prop
/-- the callers' frames -/
def frs (l : List Env) : List Addr := l.filterMap (·.frame)
abbrev Cx.fs (X : Cx) : List Addr := frs X.outer

def Vis (sc : Scope) (x : Str) : Prop := sc.names.lookup x = some .local ∨ sc.names.lookup x = some .cell ∨ sc.names.lookup x = some .free
def Loc (sc : Scope) (x : Str) : Prop := sc.names.lookup x = some .local ∨ sc.names.lookup x = some .cell
def Look (env : Env) (h : Heap) (m : Str → Option Value) (x : Str) (u : Value) : Prop :=
  (env.kindOf x = some .local ∧ m x = some u) ∨ ((env.kindOf x = some .cell ∨ env.kindOf x = some .free) ∧ ∃ c, env.cells.lookup x = some c ∧ h.IsCell c (some u))

structure Cx.Ok (X : Cx) : Prop where
  mod : Mod X.K X.mg X.base
  kind : X.env.scope.kind = .function
  glob : X.env.globals = mainGlobals
  blt : X.env.builtins = builtinsNs
  above : X.s_0.heap.objs.size ≤ X.env.locals
  inj : ∀ x y c, X.env.cells.lookup x = some c → X.env.cells.lookup y = some c → x = y
  has : ∀ x, (X.env.kindOf x = some .cell ∨ X.env.kindOf x = some .free) → ∃ c, X.env.cells.lookup x = some c
  cab : ∀ x c, X.fn x = true → X.env.cells.lookup x = some c → X.s_0.heap.objs.size ≤ c
  hd : X.calm = true → X.A.handled = none
  frames : X.A.frames = some X.stack
  stk : X.stack = X.outer ∨ (X.stack = X.env :: X.outer ∧ X.env.frame = some X.env.locals)
  exf : ∀ b ∈ X.ex, b ≠ X.env.locals ∧ ∀ x c, X.env.cells.lookup x = some c → c ≠ b
  bs : ∀ b o, X.base.get? b = some o → X.s_0.heap.get? b = some o ∧ X.H_0 b = none
  bsz : X.base.objs.size ≤ X.s_0.heap.objs.size
  noex : ∀ b o, X.base.get? b = some o → b ∉ X.ex
  exfs : ∀ b ∈ X.ex, b ∉ X.fs
  funs : X.s_0.heap.FunFrames X.base X.outer
  frf : ∀ b ∈ X.fs, X.H_0 b = none

structure Inv (X : Cx) (pins : List (Addr × Obj)) (σ : List (Option V)) (H : Hp) (s : Shared) : Prop where
  ok : X.Ok
  os : s.os = X.s_0.os
  bare : AllBare s.gens
  base : Un X.fs X.ex X.H_0 H X.s_0.heap s.heap
  loc : ∃ m, s.heap.Ns X.env.locals m ∧ ∀ (i : Nat) (x : Str) (v : V), X.N[i]? = some x → σ[i]? = some (some v) → Vis X.env.scope x → ∃ u, RelV v u ∧ Look X.env s.heap m x u
  cell : ∀ x c, X.env.cells.lookup x = some c → ∃ v, s.heap.IsCell c v
  free : H X.env.locals = none
  freeC : ∀ x c, X.env.cells.lookup x = some c → H c = none
  pin : ∀ p ∈ X.pn ++ pins, s.heap.get? p.1 = some p.2 ∧ H p.1 = none ∧ p.1 ≠ X.env.locals ∧ p.1 ∉ X.fs ∧ ∀ v, p.2.data ≠ .cell v
  hok : HOk X.prog X.w H s.heap
  len : σ.length = X.N.length

section
variable {X : Cx} {pins : List (Addr × Obj)} {σ : List (Option V)} {H H' : Hp} {s : Shared} {h' : Heap}

theorem Cx.Ok.nofr (ok : X.Ok) {b : Addr} {o : Obj} (e : X.base.get? b = some o) : b ∉ X.fs := fun hb => by
  have := (ok.funs.mem hb).1
  rw [e] at this; cases this
theorem Inv.bs (I : Inv X pins σ H s) : ∀ b o, X.base.get? b = some o → s.heap.get? b = some o ∧ H b = none := fun b o e =>
  ⟨I.base.keep b o (I.ok.bs b o e).1 (I.ok.bs b o e).2 (I.ok.nofr e) (I.ok.noex b o e), I.base.free b o (I.ok.bs b o e).1 (I.ok.bs b o e).2 (I.ok.noex b o e)⟩
theorem Inv.bk (I : Inv X pins σ H s) : ∀ b o, X.base.get? b = some o → s.heap.get? b = some o := fun b o e => (I.bs b o e).1
theorem Inv.mod (I : Inv X pins σ H s) : Mod X.K X.mg X.base := I.ok.mod
theorem Inv.kIn (I : Inv X pins σ H s) : X.K.In s.heap := I.ok.mod.kin.keeps I.bk
theorem Inv.nolimit (I : Inv X pins σ H s) : s.heap.NoLimit := I.ok.mod.nolimit.keeps I.bk
/-- the frame over the base: for OpenK's rules (K.In X.base is I.mod.kin) -/
theorem Inv.fr (I : Inv X pins σ H s) : ∃ m, Fr X.base X.env.locals s.heap m :=
  let ⟨m, hn, _⟩ := I.loc
  ⟨m, hn, I.bk, Nat.le_trans I.ok.bsz I.ok.above⟩
theorem Inv.lt (I : Inv X pins σ H s) : X.env.locals < s.heap.objs.size := let ⟨_, hn, _⟩ := I.loc; hn.lt
theorem Inv.sz (I : Inv X pins σ H s) : X.s_0.heap.objs.size ≤ s.heap.objs.size := Nat.le_trans I.ok.above (Nat.le_of_lt I.lt)
theorem Inv.nofs (I : Inv X pins σ H s) {a : Addr} (h : s.heap.objs.size ≤ a) : a ∉ X.fs := fun hb => by
  obtain ⟨_, o, ho, _⟩ := I.ok.funs.mem hb
  exact absurd (Nat.lt_of_lt_of_le (Heap.lt_size ho) (Nat.le_trans I.sz h)) (Nat.lt_irrefl _)
theorem Inv.cne (I : Inv X pins σ H s) : ∀ x c, X.env.cells.lookup x = some c → c ≠ X.env.locals := fun x c e z => by
  obtain ⟨v, o, ho, hd⟩ := I.cell x c e
  obtain ⟨m, ⟨o', es, ep, ho', hd', _⟩, _⟩ := I.loc
  rw [z, ho'] at ho; cases ho; rw [hd'] at hd; cases hd
theorem Inv.funs (I : Inv X pins σ H s) : s.heap.FunFrames X.base X.outer := by
  have all : ∀ (l : List Env), (∀ b ∈ frs l, b ∈ X.fs) → X.s_0.heap.FunFrames X.base l → s.heap.FunFrames X.base l := by
    intro l
    induction l with
    | nil => intro _ _; trivial
    | cons env r ih =>
      intro hs hl
      obtain ⟨hk, ⟨L, o, hf, hn, ho, hd⟩, hr⟩ := hl
      have hL : L ∈ X.fs := hs L (by unfold frs; rw [List.filterMap_cons, hf]; exact List.mem_cons_self)
      obtain ⟨sl, e⟩ := I.base.slot L o ho (I.ok.frf L hL) hL fun z => I.ok.exfs L z hL
      exact ⟨hk, ⟨L, _, hf, hn, e, hd⟩, ih (fun b hb => hs b (by unfold frs; rw [List.filterMap_cons, hf]; exact List.mem_cons_of_mem _ hb)) hr⟩
  exact all X.outer (fun _ hb => hb) I.ok.funs

/-- the frames that run, for a call -/
theorem Inv.stack (I : Inv X pins σ H s) : s.heap.FunFrames X.base X.stack := by
  rcases I.ok.stk with e | ⟨e, hf⟩
  · rw [e]; exact I.funs
  · rw [e]
    obtain ⟨m, hn, _⟩ := I.loc
    refine .cons (by rw [I.ok.kind]; decide) hf hn ?_ I.funs
    exact Heap.get?_none_of_le (Nat.le_trans I.ok.bsz I.ok.above)
theorem Inv.stkSub (I : Inv X pins σ H s) : ∀ b ∈ frs X.stack, b ∈ X.env.locals :: X.fs := fun b hb => by
  rcases I.ok.stk with e | ⟨e, hf⟩
  · rw [e] at hb; exact List.mem_cons_of_mem _ hb
  · rw [e] at hb
    unfold frs at hb
    rw [List.filterMap_cons, hf] at hb
    exact hb
theorem Inv.stkFree (I : Inv X pins σ H s) : ∀ b ∈ frs X.stack, H b = none := fun b hb => by
  rcases List.mem_cons.mp (I.stkSub b hb) with e | hb
  · rw [e]; exact I.free
  · obtain ⟨_, o, ho, _⟩ := I.ok.funs.mem hb
    exact I.base.free b o ho (I.ok.frf b hb) fun z => I.ok.exfs b z hb

/-- THE STEP: the untracked objects but the frame and the records at ch are kept (the callers' frames up to slots), the frame's map is kept, the new abstract heap is held -/
theorem Inv.step {g' : Array GenState} {t' : Nat} {d' : Drawn} {ch : List Addr} (I : Inv X pins σ H s)
    (hch : ∀ b ∈ ch, (b ∈ X.ex ∨ X.s_0.heap.objs.size ≤ b) ∧ b ≠ X.env.locals ∧ (∀ x c, X.env.cells.lookup x = some c → c ≠ b) ∧ ∀ p ∈ X.pn ++ pins, p.1 ≠ b)
    (keep : ∀ b o, b ≠ X.env.locals → b ∉ X.fs → b ∉ ch → s.heap.get? b = some o → H b = none → h'.get? b = some o)
    (slot : ∀ b o, b ≠ X.env.locals → b ∈ X.fs → b ∉ ch → s.heap.get? b = some o → H b = none → ∃ sl, h'.get? b = some { o with slots := sl }) (free : ∀ b o, b ∉ ch → s.heap.get? b = some o → H b = none → H' b = none)
    (there : ∀ b o, b ∉ ch → s.heap.get? b = some o → ∃ o', h'.get? b = some o')
    (tups : ∀ b xs, H b = some (.tup xs) → H' b = some (.tup xs)) (frzs : ∀ b o u, H b = some (.frz o u) → H' b = some (.frz o u)) (tbls : ∀ b ps, H b = some (.tbl ps) → ∃ more, H' b = some (.tbl (ps ++ more)))
    (ns : ∀ m, s.heap.Ns X.env.locals m → h'.Ns X.env.locals m) (hok : HOk X.prog X.w H' h') (hg : AllBare g') :
    Inv X pins σ H' { s with heap := h', gens := g', drawn := d', toks := t' } := by
  have neL : ∀ b o, X.s_0.heap.get? b = some o → b ≠ X.env.locals := fun b o e => Nat.ne_of_lt (Nat.lt_of_lt_of_le (Heap.lt_size e) I.ok.above)
  have neC : ∀ b o, X.s_0.heap.get? b = some o → b ∉ X.ex → b ∉ ch := fun b o e hx hb => by
    rcases (hch b hb).1 with z | z
    · exact hx z
    · exact absurd (Nat.lt_of_lt_of_le (Heap.lt_size e) z) (Nat.lt_irrefl _)
  have cellK : ∀ x c, X.env.cells.lookup x = some c → ∀ v, s.heap.IsCell c v → h'.IsCell c v := fun x c e v ⟨o, ho, hd⟩ => by
    have nch : c ∉ ch := fun z => (hch c z).2.2.1 x c e rfl
    by_cases hc : c ∈ X.fs
    · obtain ⟨sl, q⟩ := slot c o (I.cne x c e) hc nch ho (I.freeC x c e)
      exact ⟨_, q, hd⟩
    · exact ⟨o, keep c o (I.cne x c e) hc nch ho (I.freeC x c e), hd⟩
  refine ⟨I.ok, I.os, hg, ⟨fun b o e n hb hx => ?_, fun b o e n hb hx => ?_, fun b o e n hx => ?_, fun b o e hx => ?_, fun b xs e => tups b xs (I.base.tups b xs e), fun b o xs e => frzs b o xs (I.base.frzs b o xs e), fun b ps e => ?_⟩, ?_, fun x c e => ?_, ?_, fun x c e => ?_, fun p hp => ?_, hok, I.len⟩
  · exact keep b o (neL b o e) hb (neC b o e hx) (I.base.keep b o e n hb hx) (I.base.free b o e n hx)
  · obtain ⟨sl, e1⟩ := I.base.slot b o e n hb hx
    obtain ⟨sl', e2⟩ := slot b _ (neL b o e) hb (neC b o e hx) e1 (I.base.free b o e n hx)
    exact ⟨sl', e2⟩
  · obtain ⟨o', e1⟩ := I.base.there b o e hx
    exact free b o' (neC b o e hx) e1 (I.base.free b o e n hx)
  · obtain ⟨o', e1⟩ := I.base.there b o e hx
    exact there b o' (neC b o e hx) e1
  · obtain ⟨m1, e1⟩ := I.base.tbls b ps e
    obtain ⟨m2, e2⟩ := tbls b _ e1
    exact ⟨m1 ++ m2, by rw [e2, Array.append_assoc]⟩
  · obtain ⟨m, hn, hl⟩ := I.loc
    refine ⟨m, ns m hn, fun i x v e1 e2 e3 => ?_⟩
    obtain ⟨u, r, l⟩ := hl i x v e1 e2 e3
    refine ⟨u, r, ?_⟩
    rcases l with l | ⟨k, c, e, z⟩
    · exact .inl l
    · exact .inr ⟨k, c, e, cellK x c e _ z⟩
  · obtain ⟨v, z⟩ := I.cell x c e
    exact ⟨v, cellK x c e v z⟩
  · obtain ⟨m, ⟨o, _, _, ho, _⟩, _⟩ := I.loc
    exact free _ o (fun z => (hch _ z).2.1 rfl) ho I.free
  · obtain ⟨v, o, ho, hd⟩ := I.cell x c e
    exact free c o (fun z => (hch c z).2.2.1 x c e rfl) ho (I.freeC x c e)
  · obtain ⟨e, n, ne, nf, d⟩ := I.pin p hp
    have nch : p.1 ∉ ch := fun z => (hch p.1 z).2.2.2 p hp rfl
    exact ⟨keep p.1 p.2 ne nf nch e n, free p.1 p.2 nch e n, ne, nf, d⟩
/-- .. where the frame's own object is kept too -/
theorem Inv.un {t' : Nat} (I : Inv X pins σ H s) (u : Un X.fs [] H H' s.heap h') (hok : HOk X.prog X.w H' h') : Inv X pins σ H' { s with heap := h', toks := t' } := by
  obtain ⟨m, ⟨o, es, ep, ho, r⟩, _⟩ := id I.loc
  obtain ⟨sl, hL⟩ := u.any ho I.free (by simp)
  exact I.step (g' := s.gens) (d' := s.drawn) (ch := []) (fun _ z => nomatch z) (fun b o _ hb _ e n => u.keep b o e n hb (by simp)) (fun b o _ hb _ e n => u.slot b o e n hb (by simp)) (fun b o _ e n => u.free b o e n (by simp)) (fun b o _ e => u.there b o e (by simp)) u.tups u.frzs u.tbls (fun m' hm => by
    obtain ⟨o', es', ep', ho', r'⟩ := hm
    rw [ho] at ho'; cases ho'
    exact ⟨_, es', ep', hL, r'⟩) hok I.bare
/-- behind a call (or a comprehension's block): the slots of this frame may have changed too, the records at ch may have turned -/
theorem Inv.call {g' : Array GenState} {t' : Nat} {d' : Drawn} {ch : List Addr} (I : Inv X pins σ H s) (u : Un (frs X.stack) ch H H' s.heap h') (hok : HOk X.prog X.w H' h') (hg : AllBare g')
    (hch : ∀ b ∈ ch, (b ∈ X.ex ∨ X.s_0.heap.objs.size ≤ b) ∧ b ≠ X.env.locals ∧ (∀ x c, X.env.cells.lookup x = some c → c ≠ b) ∧ ∀ p ∈ X.pn ++ pins, p.1 ≠ b) :
    Inv X pins σ H' { s with heap := h', gens := g', drawn := d', toks := t' } := by
  obtain ⟨m, ⟨o, es, ep, ho, r⟩, _⟩ := id I.loc
  obtain ⟨sl, hL⟩ := u.any ho I.free fun z => (hch _ z).2.1 rfl
  exact I.step (ch := ch) hch (fun b o hL hb hc e n => u.keep b o e n (fun z => (List.mem_cons.mp (I.stkSub b z)).elim hL hb) hc) (fun b o _ _ hc e n => u.any e n hc) (fun b o hc e n => u.free b o e n hc) (fun b o hc e => u.there b o e hc) u.tups u.frzs u.tbls (fun m' hm => by
    obtain ⟨o', es', ep', ho', r'⟩ := hm
    rw [ho] at ho'; cases ho'
    exact ⟨_, es', ep', hL, r'⟩) hok hg
/-- an untracked record of ours (an iterator) has turned -/
theorem Inv.turned {t' : Nat} {it : Addr} (I : Inv X pins σ H s) (k : ∀ b o, b ≠ it → s.heap.get? b = some o → h'.get? b = some o) (hn : H it = none) (hL : it ≠ X.env.locals)
    (h1 : it ∈ X.ex ∨ X.s_0.heap.objs.size ≤ it) (h2 : ∀ x c, X.env.cells.lookup x = some c → c ≠ it) (h3 : ∀ p ∈ X.pn ++ pins, p.1 ≠ it) : Inv X pins σ H { s with heap := h', toks := t' } := by
  have nit : ∀ b u, H b = some u → b ≠ it := fun b u e z => by rw [z, hn] at e; cases e
  refine I.step (g' := s.gens) (d' := s.drawn) (ch := [it]) (fun b hb => ?_) (fun b o _ _ hc e _ => k b o (fun z => hc (by simp [z])) e) (fun b o _ _ hc e _ => ⟨o.slots, k b o (fun z => hc (by simp [z])) e⟩) (fun _ _ _ _ n => n)
    (fun b o hc e => ⟨o, k b o (fun z => hc (by simp [z])) e⟩) (fun _ _ e => e) (fun _ _ _ e => e) (fun b ps e => ⟨#[], by rw [e]; simp⟩) (fun m hm => ?_) (fun b u e => ?_) I.bare
  · have e : b = it := by simpa using hb
    subst e
    exact ⟨h1, hL, h2, h3⟩
  · obtain ⟨o, es, ep, ho, r⟩ := hm
    exact ⟨o, es, ep, k _ o (Ne.symm hL) ho, r⟩
  · refine (I.hok b u e).stay (fun c v hc q => k c v ?_ q) (fun _ q => q) fun _ _ q => q
    rcases hc with z | z
    · rw [z]; exact nit b u e
    · exact nit c _ z
theorem Inv.tok (I : Inv X pins σ H s) (t : Nat) : Inv X pins σ H { s with toks := t } := I.un (h' := s.heap) (t' := t) Un.refl I.hok
/-- all objects kept -/
theorem Inv.kept {t' : Nat} (I : Inv X pins σ H s) (k : ∀ b u, s.heap.get? b = some u → h'.get? b = some u) : Inv X pins σ H { s with heap := h', toks := t' } := I.un (Un.kept k) (I.hok.kept k)
/-- a new object laid and tracked -/
theorem Inv.laid {a : Addr} {o : HO} {t' : Nat} (I : Inv X pins σ H s) (k : ∀ b u, s.heap.get? b = some u → h'.get? b = some u) (hp : s.heap.objs.size ≤ a) (new : ObjOk X.prog X.w (upd H a o) h' a o) :
    Inv X pins σ (upd H a o) { s with heap := h', toks := t' } := I.un (Un.laid k hp (I.hok.fresh hp)) (I.hok.laid k hp new)
/-- an object written -/
theorem Inv.write {x e : Addr} {o : HO} {t' : Nat} (I : Inv X pins σ H s) (mu : Mut (H x)) (he : e = x ∨ H e = some (.own x)) (k : ∀ b u, b ≠ e → s.heap.get? b = some u → h'.get? b = some u) (heo : ∃ u, h'.get? e = some u)
    (new : ObjOk X.prog X.w (upd H x o) h' x o) : Inv X pins σ (upd H x o) { s with heap := h', toks := t' } := I.un (Un.write mu he k heo) (I.hok.write mu he k heo new)
/-- forgetting slots, pins -/
theorem Inv.weak {σ' : List (Option V)} (I : Inv X pins σ H s) (hl : σ'.length = σ.length) (w : ∀ (i : Nat) v, σ'[i]? = some (some v) → σ[i]? = some (some v)) : Inv X pins σ' H s :=
  ⟨I.ok, I.os, I.bare, I.base, let ⟨m, hn, hl'⟩ := I.loc; ⟨m, hn, fun i x v e1 e2 e3 => hl' i x v e1 (w i v e2) e3⟩, I.cell, I.free, I.freeC, I.pin, I.hok, hl.trans I.len⟩
theorem Inv.pins_of {pins' : List (Addr × Obj)} (I : Inv X pins σ H s) (h : ∀ p ∈ pins', s.heap.get? p.1 = some p.2 ∧ H p.1 = none ∧ p.1 ≠ X.env.locals ∧ p.1 ∉ X.fs ∧ ∀ v, p.2.data ≠ .cell v) : Inv X pins' σ H s :=
  ⟨I.ok, I.os, I.bare, I.base, I.loc, I.cell, I.free, I.freeC, fun p hp => (List.mem_append.mp hp).elim (fun z => I.pin p (List.mem_append_left _ z)) (h p), I.hok, I.len⟩

theorem nodup_ix {N : List Str} (hN : N.Nodup) {i j : Nat} {x : Str} (a : N[i]? = some x) (b : N[j]? = some x) : i = j := by
  obtain ⟨h1, e1⟩ := List.getElem?_eq_some_iff.mp a
  obtain ⟨h2, e2⟩ := List.getElem?_eq_some_iff.mp b
  exact (List.getElem_inj hN).mp (e1.trans e2.symm)

/-- a name is stored; what changed -/
theorem store_ok2 {M : Model} {A : Around} {E : Value → Shared → Prop} {i : Nat} {x : Str} {v : V} {u : Value} {Q : Unit → Shared → Prop} (I : Inv X pins σ H s) (hN : X.N.Nodup) (hi : X.N[i]? = some x) (hx : Loc X.env.scope x) (r : RelV v u)
    (h : ∀ s', Inv X pins (σ.set i (some v)) H s' → (∃ a, Heap.SameBut a s.heap s'.heap ∧ (a = X.env.locals ∨ X.env.cells.lookup x = some a)) → Q () s') (hf : X.fn x = true ∨ X.env.scope.names.lookup x = some .local := by first | exact .inl rfl | exact .inr rfl | assumption) : wpAny M A (storeName X.env x u) Q E s := by
  obtain ⟨m, hn, hl⟩ := id I.loc
  have hcls : (X.env.scope.kind == .class || (X.env.scope.kind == .module && X.env.locals != X.env.globals)) = false := by rw [I.ok.kind]; rfl
  have hiσ : i < σ.length := by rw [I.len]; exact (List.getElem?_eq_some_iff.mp hi).1
  have cne := I.cne
  have tracked : ∀ {a : Addr} {h' : Heap}, (∃ o, s.heap.get? a = some o ∧ H a = none) → Heap.SameBut a s.heap h' → HOk X.prog X.w H h' := fun {a h'} ha hs b ob e => by
    obtain ⟨_, _, hfree⟩ := ha
    refine (I.hok b ob e).stay (fun c w' hc q => (hs.2 c ?_).trans q) (fun _ q => q) fun _ _ q => q
    rintro rfl
    rcases hc with rfl | hc
    · rw [hfree] at e; cases e
    · rw [hfree] at hc; cases hc
  rcases hx with hk | hk
  · refine wpAny_storeName_local hk hn (fun h' hn' hs => ?_) hcls
    obtain ⟨oL, _, _, hoL, _⟩ := id hn
    refine h _ ⟨I.ok, I.os, I.bare, ⟨fun b o e n hb hx => ?_, fun b o e n hb hx => ?_, I.base.free, fun b o e hx => ?_, I.base.tups, I.base.frzs, I.base.tbls⟩, ⟨_, hn', fun j y v' e1 e2 e3 => ?_⟩, fun y c e => ?_, I.free, I.freeC, fun p hp => ?_, tracked ⟨oL, hoL, I.free⟩ hs, by simpa using I.len⟩ ⟨_, hs, .inl rfl⟩
    · exact (hs.2 b (Nat.ne_of_lt (Nat.lt_of_lt_of_le (Heap.lt_size e) I.ok.above))).trans (I.base.keep b o e n hb hx)
    · obtain ⟨sl, e1⟩ := I.base.slot b o e n hb hx
      exact ⟨sl, (hs.2 b (Nat.ne_of_lt (Nat.lt_of_lt_of_le (Heap.lt_size e) I.ok.above))).trans e1⟩
    · obtain ⟨o', e1⟩ := I.base.there b o e hx
      exact ⟨o', (hs.2 b (Nat.ne_of_lt (Nat.lt_of_lt_of_le (Heap.lt_size e) I.ok.above))).trans e1⟩
    · by_cases hj : j = i
      · subst hj
        rw [hi] at e1; cases e1
        rw [List.getElem?_set_self hiσ] at e2
        cases e2
        exact ⟨u, r, .inl ⟨hk, by simp⟩⟩
      · rw [List.getElem?_set_ne (Ne.symm hj)] at e2
        obtain ⟨u', r', q⟩ := hl j y v' e1 e2 e3
        refine ⟨u', r', ?_⟩
        rcases q with ⟨k, e⟩ | ⟨k, c, e, z⟩
        · refine .inl ⟨k, ?_⟩
          have : y ≠ x := fun e => hj (nodup_ix hN e1 (e ▸ hi))
          simp [this, e]
        · exact .inr ⟨k, c, e, z.sameBut hs (cne y c e)⟩
    · obtain ⟨w', z⟩ := I.cell y c e
      exact ⟨w', z.sameBut hs (cne y c e)⟩
    · obtain ⟨e, n, ne, nf, d⟩ := I.pin p hp
      exact ⟨(hs.2 p.1 ne).trans e, n, ne, nf, d⟩
  · have hfn : X.fn x = true := by
      rcases hf with z | z
      · exact z
      · rw [z] at hk; cases hk
    obtain ⟨c, hc⟩ := I.ok.has x (.inl hk)
    obtain ⟨w', z⟩ := I.cell x c hc
    refine wpAny_storeName_cell I.ok.kind hk hc z (fun h' hc' hs => ?_)
    obtain ⟨oc, hoc, hocd⟩ := id z
    refine h { s with heap := h' } ⟨I.ok, I.os, I.bare, ⟨fun b o e n hb hx => ?_, fun b o e n hb hx => ?_, I.base.free, fun b o e hx => ?_, I.base.tups, I.base.frzs, I.base.tbls⟩, ⟨m, hn.sameBut hs (Ne.symm (cne x c hc)), fun j y v' e1 e2 e3 => ?_⟩, fun y c' e => ?_, I.free, I.freeC, fun p hp => ?_, tracked ⟨oc, hoc, I.freeC x c hc⟩ hs, by simpa using I.len⟩ ⟨c, hs, .inr hc⟩
    · exact (hs.2 b (Nat.ne_of_lt (Nat.lt_of_lt_of_le (Heap.lt_size e) (I.ok.cab x c hfn hc)))).trans (I.base.keep b o e n hb hx)
    · obtain ⟨sl, e1⟩ := I.base.slot b o e n hb hx
      exact ⟨sl, (hs.2 b (Nat.ne_of_lt (Nat.lt_of_lt_of_le (Heap.lt_size e) (I.ok.cab x c hfn hc)))).trans e1⟩
    · obtain ⟨o', e1⟩ := I.base.there b o e hx
      exact ⟨o', (hs.2 b (Nat.ne_of_lt (Nat.lt_of_lt_of_le (Heap.lt_size e) (I.ok.cab x c hfn hc)))).trans e1⟩
    · by_cases hj : j = i
      · subst hj
        rw [hi] at e1; cases e1
        rw [List.getElem?_set_self hiσ] at e2
        cases e2
        exact ⟨u, r, .inr ⟨.inl hk, c, hc, hc'⟩⟩
      · rw [List.getElem?_set_ne (Ne.symm hj)] at e2
        obtain ⟨u', r', q⟩ := hl j y v' e1 e2 e3
        refine ⟨u', r', ?_⟩
        rcases q with q | ⟨k, c', e, z'⟩
        · exact .inl q
        · refine .inr ⟨k, c', e, z'.sameBut hs ?_⟩
          rintro rfl
          exact hj (nodup_ix hN e1 (I.ok.inj _ _ _ e hc ▸ hi))
    · by_cases hcc : c' = c
      · subst hcc; exact ⟨_, hc'⟩
      · obtain ⟨w2, z2⟩ := I.cell y c' e
        exact ⟨w2, z2.sameBut hs hcc⟩
    · obtain ⟨e, n, ne, nf, d⟩ := I.pin p hp
      refine ⟨(hs.2 p.1 ?_).trans e, n, ne, nf, d⟩
      intro q
      rw [q, hoc] at e
      have q' : oc = p.2 := Option.some.inj e
      exact d w' (by rw [← q']; exact hocd)
theorem store_ok {M : Model} {A : Around} {E : Value → Shared → Prop} {i : Nat} {x : Str} {v : V} {u : Value} {Q : Unit → Shared → Prop} (I : Inv X pins σ H s) (hN : X.N.Nodup) (hi : X.N[i]? = some x) (hx : Loc X.env.scope x) (r : RelV v u)
    (h : ∀ s', Inv X pins (σ.set i (some v)) H s' → Q () s') (hf : X.fn x = true ∨ X.env.scope.names.lookup x = some .local := by first | exact .inl rfl | exact .inr rfl | assumption) : wpAny M A (storeName X.env x u) Q E s :=
  store_ok2 I hN hi hx r (fun s' I' _ => h s' I') hf
/-- behind a call or a block, the state as it is -/
theorem Inv.call' {s' : Shared} {ch : List Addr} (I : Inv X pins σ H s) (ho : s'.os = s.os) (u : Un (frs X.stack) ch H H' s.heap s'.heap) (hok : HOk X.prog X.w H' s'.heap) (hg : AllBare s'.gens)
    (hch : ∀ b ∈ ch, (b ∈ X.ex ∨ X.s_0.heap.objs.size ≤ b) ∧ b ≠ X.env.locals ∧ (∀ x c, X.env.cells.lookup x = some c → c ≠ b) ∧ ∀ p ∈ X.pn ++ pins, p.1 ≠ b) : Inv X pins σ H' s' := by
  obtain ⟨h', g', d', t', o'⟩ := s'
  have e : o' = s.os := ho
  subst e
  exact I.call (g' := g') (t' := t') (d' := d') u hok hg hch
end

/-! ### the judgements -/
/-- an exception: its class, its own dict's address (where it has one), the abstract heap behind it -/
abbrev XK := Value → Option Addr → Hp → Prop
abbrev St := List (Option V)
abbrev VK := V → Hp → Prop
/-- an expression's reading; a test's; an argument list's -/
abbrev TE := St → Hp → VK → Prop
abbrev TT := St → Hp → (Bool → Hp → Prop) → Prop
abbrev TA := St → Hp → (List V → Hp → Prop) → Prop
/-- what is wanted behind a statement -/
structure Ends where
  nx : St → Hp → Prop
  rt : VK
  bk : St → Hp → Prop := fun _ _ => False
  ct : St → Hp → Prop := fun _ _ => False
abbrev TS := Ends → St → Hp → Prop

def EP (X : Cx) (pins : List (Addr × Obj)) (σ : St) (Q : VK) (u : Value) (s' : Shared) : Prop := ∃ v H', Inv X pins σ H' s' ∧ RelV v u ∧ Q v H'
def TP (X : Cx) (pins : List (Addr × Obj)) (σ : St) (Q : Bool → Hp → Prop) (b : Bool) (s' : Shared) : Prop := ∃ H', Inv X pins σ H' s' ∧ Q b H'
def AP (X : Cx) (pins : List (Addr × Obj)) (σ : St) (Q : List V → Hp → Prop) (us : List Value) (s' : Shared) : Prop := ∃ vs H', Inv X pins σ H' s' ∧ Vals vs us ∧ Q vs H'
def SP (X : Cx) (pins : List (Addr × Obj)) (D : Ends) (f : Flow) (s' : Shared) : Prop :=
  match f with
  | .next => ∃ σ' H', Inv X pins σ' H' s' ∧ D.nx σ' H'
  | .brk => ∃ σ' H', Inv X pins σ' H' s' ∧ D.bk σ' H'
  | .cont => ∃ σ' H', Inv X pins σ' H' s' ∧ D.ct σ' H'
  | .ret u => ∃ v σ' H', Inv X pins σ' H' s' ∧ RelV v u ∧ D.rt v H'

def PE (X : Cx) (e : Expr) (t : TE) : Prop :=
  ∀ (pins : List (Addr × Obj)) (s : Shared) (σ : St) (H : Hp) (Q : VK), Inv X pins σ H s → t σ H Q → wpAny (model X.prog X.w) X.A (eval e X.env) (EP X pins σ Q) X.xe s
def PT (X : Cx) (e : Expr) (t : TT) : Prop :=
  ∀ (pins : List (Addr × Obj)) (s : Shared) (σ : St) (H : Hp) (Q : Bool → Hp → Prop), Inv X pins σ H s → t σ H Q → wpAny (model X.prog X.w) X.A (isTrue e X.env (eval e X.env)) (TP X pins σ Q) X.xe s
/-- a test whatever its 'whole' is (and, or) -/
def PW (X : Cx) (e : Expr) (t : TT) : Prop :=
  ∀ (whole : Sem Value) (pins : List (Addr × Obj)) (s : Shared) (σ : St) (H : Hp) (Q : Bool → Hp → Prop), Inv X pins σ H s → t σ H Q → wpAny (model X.prog X.w) X.A (isTrue e X.env whole) (TP X pins σ Q) X.xe s
theorem PW.pt {X : Cx} {e : Expr} {t : TT} (h : PW X e t) : PT X e t := h _
/-- an argument list (no star), from the left -/
def PA (X : Cx) (es : List Expr) (t : TA) : Prop :=
  ∀ (pos : Pos) (pins : List (Addr × Obj)) (s : Shared) (σ : St) (H : Hp) (Q : List V → Hp → Prop), Inv X pins σ H s → t σ H Q → wpAny (model X.prog X.w) X.A (spliced (backTo pos (starEach es X.env))) (AP X pins σ Q) X.xe s
def PS (X : Cx) (st : Stmt) (t : TS) : Prop :=
  ∀ (pins : List (Addr × Obj)) (s : Shared) (σ : St) (H : Hp) (D : Ends), Inv X pins σ H s → t D σ H → wpAny (model X.prog X.w) X.A (exec st X.env) (SP X pins D) X.xe s
def PSs (X : Cx) (st : List Stmt) (t : TS) : Prop :=
  ∀ (pins : List (Addr × Obj)) (s : Shared) (σ : St) (H : Hp) (D : Ends), Inv X pins σ H s → t D σ H → wpAny (model X.prog X.w) X.A (execs st X.env) (SP X pins D) X.xe s
/-- weaken the end -/
theorem thn {α : Type} {t : Sem α} {Q Q' : α → Shared → Prop} {M : Model} {A : Around} {E : Value → Shared → Prop} {s : Shared} (h : wpAny M A t Q E s) (hQ : ∀ a s, Q a s → Q' a s) : wpAny M A t Q' E s := wpAny_mono h hQ fun _ _ x => x
end L2

namespace L2
open PySem PySem.Spec PyProof.Rows
section
variable {X : Cx}

/-! ### names and constants -/
def tVar (i : Nat) : TE := fun σ H Q => ∃ v, σ[i]? = some (some v) ∧ Q v H
def tC (v : V) : TE := fun _ H Q => Q v H
theorem pe_var {i : Nat} {x : Str} {pos : Pos} (hN : X.N[i]? = some x) (hv : Vis X.env.scope x) (hd : (x == ("__debug__" : Str)) = false := by decide) (hcd : (x == ("__classdict__" : Str)) = false := by decide) : PE X (.Name x pos) (tVar i) := by
  intro pins s σ H Q I h
  obtain ⟨v, e, h⟩ := h
  obtain ⟨m, hn, hl⟩ := I.loc
  obtain ⟨u, r, l⟩ := hl i x v hN e hv
  have fin : EP X pins σ Q u s := ⟨v, H, I, r, h⟩
  rcases l with ⟨hk, hm⟩ | ⟨hk, c, hc, hcell⟩
  · exact wpAny_Name (wpAny_loadName_local I.ok.kind hk hn hm fin) hd
  · rcases hk with hk | hk
    · exact wpAny_Name (wpAny_loadName_cell I.ok.kind hk hc hcell fin) hd
    · exact wpAny_Name (wpAny_loadName_free I.ok.kind hk hc hcell fin hcd) hd
theorem pe_int {i j pos} : PE X (.Constant (.int i) j pos) (tC (.int i)) := fun _ _ _ H _ I h => wpAny_Constant_int ⟨.int i, H, I.tok _, ⟨_, rfl⟩, h⟩
theorem pe_bl {b j pos} : PE X (.Constant (.bool b) j pos) (tC (.bl b)) := fun _ _ _ H _ I h => Constant_bool ⟨.bl b, H, I, rfl, h⟩
theorem pe_non {j pos} : PE X (.Constant .none j pos) (tC .non) := fun _ _ _ H _ I h => Constant_none ⟨.non, H, I, rfl, h⟩
theorem pe_str {x j pos} : PE X (.Constant (.str x) j pos) (tC (.str x)) := fun _ _ _ H _ I h => Calls.Constant_str ⟨.str x, H, I.tok _, ⟨_, rfl⟩, h⟩

/-- a global name of the def -/
def Gl (X : Cx) (x : Str) : Prop := X.env.kindOf x = some .globalImplicit
theorem ld_glob {E : Value → Shared → Prop} {pins : List (Addr × Obj)} {s : Shared} {σ : St} {H : Hp} {x : Str} {u : Value} {pos : Pos} {Q : Value → Shared → Prop} (I : Inv X pins σ H s) (hg : Gl X x) (hm : X.mg x = some u) (h : Q u s)
    (hd : (x == ("__debug__" : Str)) = false := by decide) : wpAny (model X.prog X.w) X.A (eval (.Name x pos) X.env) Q E s :=
  Calls.Name_function_global I.ok.kind hg (Calls.loadGlobal_global (by rw [I.ok.glob]; exact I.mod.glob.keeps I.bk) hm h) hd
theorem ld_blt {E : Value → Shared → Prop} {pins : List (Addr × Obj)} {s : Shared} {σ : St} {H : Hp} {x : Str} {u : Value} {pos : Pos} {Q : Value → Shared → Prop} (I : Inv X pins σ H s) (hg : Gl X x) (hm : X.mg x = none) (hv : bootBuiltins x = some u) (h : Q u s)
    (hn : x ≠ "__name__" := by decide) (hd : (x == ("__debug__" : Str)) = false := by decide) : wpAny (model X.prog X.w) X.A (eval (.Name x pos) X.env) Q E s := by
  obtain ⟨mb, h1, h2⟩ := I.mod.blt
  exact Calls.Name_function_global I.ok.kind hg (Calls.loadGlobal_builtin (by rw [I.ok.glob]; exact I.mod.glob.keeps I.bk) hm (by rw [I.ok.blt]; exact h1.keeps I.bk) ((h2 x hn).trans hv) h) hd
/-- a module's constant, a class, a function, as a value -/
theorem pe_glob {x : Str} {v : V} {u : Value} {pos : Pos} (hg : Gl X x) (hm : X.mg x = some u) (r : RelV v u) (hd : (x == ("__debug__" : Str)) = false := by decide) : PE X (.Name x pos) (tC v) :=
  fun _ _ _ H _ I h => ld_glob I hg hm ⟨v, H, I, r, h⟩ hd
theorem pe_bltn {x : Str} {v : V} {u : Value} {pos : Pos} (hg : Gl X x) (hm : X.mg x = none) (hv : bootBuiltins x = some u) (r : RelV v u) (hn : x ≠ "__name__" := by decide) (hd : (x == ("__debug__" : Str)) = false := by decide) : PE X (.Name x pos) (tC v) :=
  fun _ _ _ H _ I h => ld_blt I hg hm hv ⟨v, H, I, r, h⟩ hn hd

/-! ### arithmetic -/
/-- two ints -/
def t2I (ta tb : TE) (k : Int → Int → Hp → Prop) : St → Hp → Prop := fun σ H => ta σ H fun x H1 => tb σ H1 fun y H2 => ∃ i j, x = .int i ∧ y = .int j ∧ k i j H2
def tAdd (ta tb : TE) : TE := fun σ H Q => t2I ta tb (fun i j H2 => Q (.int (i + j)) H2) σ H
def tSub (ta tb : TE) : TE := fun σ H Q => t2I ta tb (fun i j H2 => Q (.int (i - j)) H2) σ H
/-- the left factor below 2^64 -/
def tMul (ta tb : TE) : TE := fun σ H Q => t2I ta tb (fun i j H2 => (-(2 ^ 64) < i ∧ i < 2 ^ 64) ∧ Q (.int (i * j)) H2) σ H
variable {a b : Expr} {ta tb : TE} {pos : Pos}
/-! ### comparisons -/
def PC (X : Cx) (op : CmpOp) (a b : Expr) (t : TE) : Prop :=
  ∀ (pins : List (Addr × Obj)) (s : Shared) (σ : St) (H : Hp) (Q : VK), Inv X pins σ H s → t σ H Q →
    wpAny (model X.prog X.w) X.A (eval a X.env) (fun v s₁ => wpAny (model X.prog X.w) X.A (eval b X.env) (fun u s₂ => wpAny (model X.prog X.w) X.A (compareOp op v u) (EP X pins σ Q) X.xe s₂) X.xe s₁) X.xe s
def tCmp (p : Int → Int → Bool) (ta tb : TE) : TE := fun σ H Q => t2I ta tb (fun i j H2 => Q (.bl (p i j)) H2) σ H
abbrev tLt : TE → TE → TE := tCmp fun i j => decide (i < j)
abbrev tLe : TE → TE → TE := tCmp fun i j => decide (i ≤ j)
abbrev tGt : TE → TE → TE := tCmp fun i j => decide (j < i)
abbrev tGe : TE → TE → TE := tCmp fun i j => decide (j ≤ i)
abbrev tEqI : TE → TE → TE := tCmp fun i j => decide (i = j)
abbrev tNeI : TE → TE → TE := tCmp fun i j => !decide (i = j)
/-- is None -/
def tIsN (ta : TE) : TE := fun σ H Q => ta σ H fun x H1 => Q (.bl (decide (x = .non))) H1
def tNotN (ta : TE) : TE := fun σ H Q => ta σ H fun x H1 => Q (.bl (!decide (x = .non))) H1
/-- a comparison as a value, as a test -/
def tB (t : TE) : TT := fun σ H Q => t σ H fun x H1 => ∃ c, x = .bl c ∧ Q c H1
/-- an expression whose value is a bool, as a test -/
theorem pt_val {e : Expr} {t : TE} (h : PE X e t) (he : ∀ whole, isTrue e X.env whole = (do let v ← whole; standAt e.pos; holding [v] (truthy v)) := by intro _; rfl) : PT X e (tB t) := by
  intro pins s σ H Q I hw
  refine isTrue_plain (thn (h pins s σ H _ I hw) fun v s1 ⟨x, H1, I1, r1, q1⟩ => ?_) (he _)
  obtain ⟨d, rfl, q⟩ := q1
  cases r1
  exact wpAny_truthy_bool ⟨H1, I1, q⟩

/-! ### and, or, not -/
variable {tA tB' : TT} {rest : List Expr}
def tAnd (t u : TT) : TT := fun σ H Q => t σ H fun c H1 => if c = true then u σ H1 Q else Q false H1
def tOr (t u : TT) : TT := fun σ H Q => t σ H fun c H1 => if c = true then Q true H1 else u σ H1 Q
def tNot (t : TT) : TT := fun σ H Q => t σ H fun c H1 => Q (!c) H1
theorem pw_and1 (ha : PT X a tA) : PW X (.BoolOp .And [a] pos) tA := by
  intro wh pins s σ H Q I h
  refine isTrue_and (thn (ha pins s σ H Q I h) fun c s1 e => ?_)
  cases c with
  | true => exact isTrue_and_nil e
  | false => exact e
theorem pw_or1 (ha : PT X a tA) : PW X (.BoolOp .Or [a] pos) tA := by
  intro wh pins s σ H Q I h
  refine isTrue_or (thn (ha pins s σ H Q I h) fun c s1 e => ?_)
  cases c with
  | false => exact isTrue_or_nil e
  | true => exact e
theorem pw_and (ha : PT X a tA) (hb : PW X (.BoolOp .And (b :: rest) pos) tB') : PW X (.BoolOp .And (a :: b :: rest) pos) (tAnd tA tB') := by
  intro wh pins s σ H Q I h
  refine isTrue_and (thn (ha pins s σ H _ I h) fun c s1 ⟨H1, I1, q1⟩ => ?_)
  cases c with
  | true => exact hb wh pins s1 σ H1 Q I1 q1
  | false => exact ⟨H1, I1, q1⟩
theorem pw_or (ha : PT X a tA) (hb : PW X (.BoolOp .Or (b :: rest) pos) tB') : PW X (.BoolOp .Or (a :: b :: rest) pos) (tOr tA tB') := by
  intro wh pins s σ H Q I h
  refine isTrue_or (thn (ha pins s σ H _ I h) fun c s1 ⟨H1, I1, q1⟩ => ?_)
  cases c with
  | true => exact ⟨H1, I1, q1⟩
  | false => exact hb wh pins s1 σ H1 Q I1 q1
theorem pt_not (ha : PT X a tA) : PT X (.UnaryOp .Not a pos) (tNot tA) := by
  intro pins s σ H Q I h
  exact isTrue_not (ha pins s σ H (fun c H1 => Q (!c) H1) I h)
/-- .. as values (bools) -/
def tAndV (ta tb : TE) : TE := fun σ H Q => ta σ H fun x H1 => ∃ c, x = .bl c ∧ if c = true then tb σ H1 Q else Q (.bl false) H1
def tOrV (ta tb : TE) : TE := fun σ H Q => ta σ H fun x H1 => ∃ c, x = .bl c ∧ if c = true then Q (.bl true) H1 else tb σ H1 Q
def tNotV (ta : TE) : TE := fun σ H Q => ta σ H fun x H1 => ∃ c, x = .bl c ∧ Q (.bl (!c)) H1
theorem pe_one {op} {t : TE} (h : PE X a t) : PE X (.BoolOp op [a] pos) t := fun pins s σ H Q I hw => BoolOp_one (h pins s σ H Q I hw)
theorem pe_and (ha : PE X a ta) (hb : PE X (.BoolOp .And (b :: rest) pos) tb) : PE X (.BoolOp .And (a :: b :: rest) pos) (tAndV ta tb) := by
  intro pins s σ H Q I h
  refine BoolOp_and (thn (ha pins s σ H _ I h) fun v s1 ⟨x, H1, I1, r1, q1⟩ => ?_)
  obtain ⟨c, rfl, q1⟩ := q1
  cases r1
  refine wpAny_truthy_bool ?_
  cases c with
  | true => exact hb pins s1 σ H1 Q I1 q1
  | false => exact ⟨.bl false, H1, I1, rfl, q1⟩
theorem pe_or (ha : PE X a ta) (hb : PE X (.BoolOp .Or (b :: rest) pos) tb) : PE X (.BoolOp .Or (a :: b :: rest) pos) (tOrV ta tb) := by
  intro pins s σ H Q I h
  refine BoolOp_or (thn (ha pins s σ H _ I h) fun v s1 ⟨x, H1, I1, r1, q1⟩ => ?_)
  obtain ⟨c, rfl, q1⟩ := q1
  cases r1
  refine wpAny_truthy_bool ?_
  cases c with
  | false => exact hb pins s1 σ H1 Q I1 q1
  | true => exact ⟨.bl true, H1, I1, rfl, q1⟩
theorem pe_not (ha : PE X a ta) : PE X (.UnaryOp .Not a pos) (tNotV ta) := by
  intro pins s σ H Q I h
  refine UnaryOp_ (thn (ha pins s σ H _ I h) fun v s1 ⟨x, H1, I1, r1, q1⟩ => ?_)
  obtain ⟨c, rfl, q1⟩ := q1
  cases r1
  exact not_of (wpAny_truthy_bool ⟨.bl (!c), H1, I1, rfl, q1⟩)
/-- a if t else b -/
def tIf (t : TT) (ta tb : TE) : TE := fun σ H Q => t σ H fun c H1 => if c = true then ta σ H1 Q else tb σ H1 Q
end
end L2

namespace L2
open PySem PySem.Spec PyProof.Rows

/-! ### a list, a tuple that is read: tracked, frozen, or an object of the module -/
def SqL (K : PySem.W.Frag) (H : Hp) (a : Addr) (xs : List V) : Prop :=
  Rd H a (.lst xs) ∨
    ∃ (o : Obj) (its : Array Value) (n : Nat), K.lookup a = some o ∧ o.cls = .type "list" ∧ o.dict = none ∧ o.data = .seq its n ∧ its.size ≤ sizeLine ∧ Vals xs its.toList
def SqT (K : PySem.W.Frag) (H : Hp) (a : Addr) (xs : List V) : Prop :=
  Rd H a (.tup xs) ∨
    ∃ (o : Obj) (its : Array Value) (n : Nat), K.lookup a = some o ∧ o.cls = .type "tuple" ∧ o.data = .seq its n ∧ its.size ≤ sizeLine ∧ Vals xs its.toList
def absV : Value → Option V
  | .none => some .non
  | .bool b => some (.bl b)
  | .int i _ => some (.int i)
  | .str x _ => some (.str x)
  | .bytes b _ => some (.byt b)
  | .float b _ => some (.flt b)
  | .ref a => some (.ref a)
  | .type n => some (.ty n)
  | _ => none
theorem RelV.abs {x : V} {u : Value} (r : RelV x u) : absV u = some x := by
  cases x with
  | non => cases r; rfl
  | bl _ => cases r; rfl
  | int _ => obtain ⟨t, rfl⟩ := r; rfl
  | str _ => obtain ⟨t, rfl⟩ := r; rfl
  | byt _ => obtain ⟨t, rfl⟩ := r; rfl
  | flt _ => obtain ⟨t, rfl⟩ := r; rfl
  | ref _ => cases r; rfl
  | ty _ => cases r; rfl
theorem RelV.inj {x y : V} {u : Value} (r : RelV x u) (q : RelV y u) : x = y := Option.some.inj (r.abs.symm.trans q.abs)
theorem Vals.inj : ∀ {xs ys : List V} {us : List Value}, Vals xs us → Vals ys us → xs = ys
  | _, _, _, .nil, .nil => rfl
  | _, _, _, .cons r t, .cons r' t' => by rw [r.inj r', Vals.inj t t']
section
variable {X : Cx} {pins : List (Addr × Obj)} {σ : St} {H : Hp} {s : Shared} {a : Addr} {xs ys : List V}
theorem SqL.of {K : PySem.W.Frag} (h : H a = some (.lst xs)) : SqL K H a xs := .inl (.inl h)
theorem SqT.of {K : PySem.W.Frag} (h : H a = some (.tup xs)) : SqT K H a xs := .inl (.inl h)
theorem Inv.list (I : Inv X pins σ H s) (h : SqL X.K H a xs) : ∃ its : List Value, Vals xs its ∧ PlainL s.heap a its.toArray ∧ xs.length ≤ sizeLine := by
  rcases h with h | ⟨o, its, n, hk, hc, hd, hs, hz, r⟩
  · obtain ⟨z, its, n, r, e⟩ := h.ok I.hok
    exact ⟨its, r, ⟨_, n, e, rfl, rfl, rfl⟩, z⟩
  · refine ⟨its.toList, r, ⟨o, n, I.kIn a o hk, hc, hd, by simpa using hs⟩, ?_⟩
    have e := r.length
    simp only [Array.length_toList] at e
    omega
theorem Inv.tuple (I : Inv X pins σ H s) (h : SqT X.K H a xs) : ∃ its : List Value, Vals xs its ∧ IsTup s.heap a its.toArray ∧ xs.length ≤ sizeLine := by
  rcases h with h | ⟨o, its, n, hk, hc, hs, hz, r⟩
  · obtain ⟨z, its, r, p⟩ := h.ok I.hok
    exact ⟨its, r, p, z⟩
  · refine ⟨its.toList, r, ⟨o, I.kIn a o hk, hc, n, by simpa using hs⟩, ?_⟩
    have e := r.length
    simp only [Array.length_toList] at e
    omega
theorem Inv.list_inj (I : Inv X pins σ H s) (h : SqL X.K H a xs) (h' : SqL X.K H a ys) : xs = ys := by
  obtain ⟨its, r, ⟨o, n, e, _, _, d⟩, _⟩ := I.list h
  obtain ⟨its', r', ⟨o', n', e', _, _, d'⟩, _⟩ := I.list h'
  rw [e] at e'; cases e'
  rw [d] at d'
  injection d' with d1 _
  have : its = its' := by simpa using congrArg Array.toList d1
  subst this
  exact r.inj r'
end

/-! ### another wish about exceptions -/
abbrev Cx.wish (X : Cx) (E : Value → Shared → Prop) : Cx := { X with xe := E }
/-- no exception leaves -/
abbrev Cx.nox (X : Cx) : Cx := X.wish fun _ _ => False
theorem Cx.Ok.wish {X : Cx} (ok : X.Ok) (E : Value → Shared → Prop) : (X.wish E).Ok :=
  ⟨ok.mod, ok.kind, ok.glob, ok.blt, ok.above, ok.inj, ok.has, ok.cab, ok.hd, ok.frames, ok.stk, ok.exf, ok.bs, ok.bsz, ok.noex, ok.exfs, ok.funs, ok.frf⟩
theorem Cx.Ok.unwish {X : Cx} {E : Value → Shared → Prop} (ok : (X.wish E).Ok) : X.Ok :=
  ⟨ok.mod, ok.kind, ok.glob, ok.blt, ok.above, ok.inj, ok.has, ok.cab, ok.hd, ok.frames, ok.stk, ok.exf, ok.bs, ok.bsz, ok.noex, ok.exfs, ok.funs, ok.frf⟩
section
variable {X : Cx} {pins : List (Addr × Obj)} {σ : St} {H : Hp} {s : Shared} {E : Value → Shared → Prop}
theorem Inv.wish (I : Inv X pins σ H s) (E : Value → Shared → Prop) : Inv (X.wish E) pins σ H s := ⟨I.ok.wish E, I.os, I.bare, I.base, I.loc, I.cell, I.free, I.freeC, I.pin, I.hok, I.len⟩
theorem Inv.unwish (I : Inv (X.wish E) pins σ H s) : Inv X pins σ H s := ⟨I.ok.unwish, I.os, I.bare, I.base, I.loc, I.cell, I.free, I.freeC, I.pin, I.hok, I.len⟩
theorem SP.unwish {D : Ends} {f : Flow} {s' : Shared} (h : SP (X.wish E) pins D f s') : SP X pins D f s' := by
  cases f with
  | next => obtain ⟨σ', H', I, q⟩ := h; exact ⟨σ', H', I.unwish, q⟩
  | brk => obtain ⟨σ', H', I, q⟩ := h; exact ⟨σ', H', I.unwish, q⟩
  | cont => obtain ⟨σ', H', I, q⟩ := h; exact ⟨σ', H', I.unwish, q⟩
  | ret u => obtain ⟨v, σ', H', I, r, q⟩ := h; exact ⟨v, σ', H', I.unwish, r, q⟩
theorem PE.nox {e : Expr} {t : TE} (h : PE X.nox e t) : PE X e t := fun pins s σ H Q I hw =>
  wpAny_mono (h pins s σ H Q (I.wish _) hw) (fun _ _ ⟨v, H', I', r, q⟩ => ⟨v, H', I'.unwish, r, q⟩) fun _ _ z => False.elim z
theorem PT.nox {e : Expr} {t : TT} (h : PT X.nox e t) : PT X e t := fun pins s σ H Q I hw =>
  wpAny_mono (h pins s σ H Q (I.wish _) hw) (fun _ _ ⟨H', I', q⟩ => ⟨H', I'.unwish, q⟩) fun _ _ z => False.elim z
theorem PSs.nox {st : List Stmt} {t : TS} (h : PSs X.nox st t) : PSs X st t := fun pins s σ H D I hw =>
  wpAny_mono (h pins s σ H D (I.wish _) hw) (fun _ _ q => q.unwish) fun _ _ z => False.elim z
end

/-! ### blocks and small statements -/
section
variable {X : Cx} {st : Stmt} {rest : List Stmt} {t u : TS} {e : Expr} {te : TE} {pos : Pos}
def tNext : TS := fun D σ H => D.nx σ H
def tSeq (t u : TS) : TS := fun D σ H => t { D with nx := u D } σ H
theorem pss_nil : PSs X [] tNext := fun _ _ σ H _ I h => wpAny_execs_nil ⟨σ, H, I, h⟩
theorem pss_cons (h1 : PS X st t) (h2 : PSs X rest u) : PSs X (st :: rest) (tSeq t u) := by
  intro pins s σ H D I h
  refine wpAny_execs_cons (thn (h1 pins s σ H { D with nx := u D } I h) fun f s1 q => ?_)
  cases f with
  | next =>
    obtain ⟨σ', H', I', q⟩ := q
    exact h2 pins s1 σ' H' D I' q
  | ret v => exact q
  | brk => exact q
  | cont => exact q
theorem pss_one (h1 : PS X st t) : PSs X [st] t := by
  intro pins s σ H D I h
  refine wpAny_execs_cons (thn (h1 pins s σ H D I h) fun f s1 q => ?_)
  cases f with
  | next => exact wpAny_execs_nil q
  | ret v => exact q
  | brk => exact q
  | cont => exact q
def tBreak : TS := fun D σ H => D.bk σ H
def tCont : TS := fun D σ H => D.ct σ H
/-- an expression whose value is dropped -/
def tDrop (te : TE) : TS := fun D σ H => te σ H fun _ H1 => D.nx σ H1
def tRet (te : TE) : TS := fun D σ H => te σ H D.rt
theorem ps_ret (he : PE X e te) : PS X (.Return (some e) pos) (tRet te) := by
  intro pins s σ H D I h
  exact wpAny_Return_some (thn (he pins s σ H _ I h) fun v s1 ⟨x, H1, I1, r1, q1⟩ => ⟨x, σ, H1, I1, r1, q1⟩)
def tRetN : TS := fun D _ H => D.rt .non H
def tIfS (c : TT) (t u : TS) : TS := fun D σ H => c σ H fun b H1 => if b = true then t D σ H1 else u D σ H1
theorem ps_if {c : Expr} {a b : List Stmt} {tc : TT} (hc : PT X c tc) (ha : PSs X a t) (hb : PSs X b u) : PS X (.If c a b pos) (tIfS tc t u) := by
  intro pins s σ H D I h
  refine wpAny_If (thn (hc pins s σ H _ I h) fun d s1 ⟨H1, I1, q1⟩ => ?_)
  cases d with
  | true => exact ha pins s1 σ H1 D I1 q1
  | false => exact hb pins s1 σ H1 D I1 q1
/-- code that the proof never comes to -/
def tNever : TS := fun _ _ _ => False
end

/-! ### targets -/
abbrev TG := V → St → Hp → (St → Hp → Prop) → Prop
abbrev TGs := List V → St → Hp → (St → Hp → Prop) → Prop
def PG (X : Cx) (target : Expr) (t : TG) : Prop :=
  ∀ (pins : List (Addr × Obj)) (s : Shared) (σ : St) (H : Hp) (v : V) (u : Value) (Q : St → Hp → Prop), Inv X pins σ H s → RelV v u → t v σ H Q →
    wpAny (model X.prog X.w) X.A (assign target X.env u) (fun _ s' => ∃ σ' H', Inv X pins σ' H' s' ∧ Q σ' H') X.xe s
/-- several targets, one after another -/
def PGs (X : Cx) (ts : List Expr) (t : TGs) : Prop :=
  ∀ (pins : List (Addr × Obj)) (s : Shared) (σ : St) (H : Hp) (vs : List V) (us : List Value) (Q : St → Hp → Prop), Inv X pins σ H s → Vals vs us → t vs σ H Q →
    wpAny (model X.prog X.w) X.A (assignInOrder ((assignEach ts X.env).map (·.2)) us) (fun _ s' => ∃ σ' H', Inv X pins σ' H' s' ∧ Q σ' H') X.xe s
/-- o[i] = v, by values -/
abbrev TSet := V → V → V → Hp → (Hp → Prop) → Prop
def PSet (X : Cx) (t : TSet) : Prop :=
  ∀ (pins : List (Addr × Obj)) (s : Shared) (σ : St) (H : Hp) (o i v : V) (ov iv u : Value) (Q : Hp → Prop), Inv X pins σ H s → RelV o ov → RelV i iv → RelV v u → t o i v H Q →
    wpAny (model X.prog X.w) X.A (setItem ov iv u) (fun _ s' => ∃ H', Inv X pins σ H' s' ∧ Q H') X.xe s
/-- a op= b, by values -/
abbrev TIp := V → V → Hp → VK → Prop
def PIp (X : Cx) (op : Operator) (t : TIp) : Prop :=
  ∀ (pins : List (Addr × Obj)) (s : Shared) (σ : St) (H : Hp) (x y : V) (v u : Value) (Q : VK), Inv X pins σ H s → RelV x v → RelV y u → t x y H Q →
    wpAny (model X.prog X.w) X.A (inplaceOp op v u) (EP X pins σ Q) X.xe s
section
variable {X : Cx} {pos : Pos}
def gName (i : Nat) : TG := fun v σ H Q => Q (σ.set i (some v)) H
theorem pg_name {i : Nat} {x : Str} (hN : X.N.Nodup) (hi : X.N[i]? = some x) (hx : Loc X.env.scope x) (hf : X.fn x = true ∨ X.env.scope.names.lookup x = some .local := by first | exact .inl rfl | exact .inr rfl | assumption) : PG X (.Name x pos) (gName i) := by
  intro pins s σ H v u Q I r h
  exact wpAny_assign_Name (store_ok I hN hi hx r (fun s' I' => ⟨_, H, I', h⟩) hf)
def gNil : TGs := fun vs σ H Q => vs = [] ∧ Q σ H
def gCons (t : TG) (u : TGs) : TGs := fun vs σ H Q => ∃ v r, vs = v :: r ∧ t v σ H fun σ' H' => u r σ' H' Q
theorem pgs_nil : PGs X [] gNil := by
  intro pins s σ H vs us Q I r h
  obtain ⟨e, h⟩ := h
  subst e
  cases r
  exact assignInOrder_nil ⟨σ, H, I, h⟩
theorem pgs_cons {e : Expr} {es : List Expr} {t : TG} {u : TGs} (h1 : PG X e t) (h2 : PGs X es u)
    (hs : (assignEach (e :: es) X.env).map (·.2) = assign e X.env :: (assignEach es X.env).map (·.2) := by rfl) : PGs X (e :: es) (gCons t u) := by
  intro pins s σ H vs us Q I r h
  obtain ⟨v, vr, e1, h⟩ := h
  subst e1
  cases r with
  | cons r rr =>
    rw [hs]
    refine assignInOrder_cons (thn (h1 pins s σ H _ _ _ I r h) fun _ s1 ⟨σ1, H1, I1, q1⟩ => ?_)
    exact h2 pins s1 σ1 H1 _ _ Q I1 rr q1
/-- (a, b, ..) = a tuple of that length -/
def gTup (K : PySem.W.Frag) (n : Nat) (t : TGs) : TG := fun v σ H Q => ∃ a xs, v = .ref a ∧ SqT K H a xs ∧ xs.length = n ∧ t xs σ H Q
theorem pg_tup {es : List Expr} {k : Nat} {t : TGs} {n : Nat} (hc : X.calm = true) (h : PGs X es t)
    (hn : (assignEach es X.env).length = n := by rfl) (hst : (assignEach es X.env).findIdx? (·.1) = none := by rfl) : PG X (.Tuple es k pos) (gTup X.K n t) := by
  intro pins s σ H v u Q I r hw
  obtain ⟨a, xs, e1, hq, hl, hw⟩ := hw
  subst e1
  cases r
  obtain ⟨its, rv, ht, hz⟩ := I.tuple hq
  refine assign_Tuple_tuple (I.ok.hd hc) ht (by simp [hn, ← hl, rv.length]) hst fun h' hx => ?_
  have I1 : Inv X pins σ H { s with heap := h' } := I.kept (t' := s.toks) fun b o e => hx b o (Nat.ne_of_lt (Heap.lt_size e)) e
  exact h pins _ σ H xs _ Q I1 (by simpa using rv) hw
/-- o[i] = .. -/
def gSub (to ti : TE) (t : TSet) : TG := fun v σ H Q => to σ H fun o H1 => ti σ H1 fun i H2 => t o i v H2 fun H3 => Q σ H3
/-- target = value -/
def tAsg (te : TE) (g : TG) : TS := fun D σ H => te σ H fun x H1 => g x σ H1 D.nx
theorem ps_asg {tg e : Expr} {te : TE} {g : TG} (he : PE X e te) (hg : PG X tg g) (hs : swapsWithSole [tg] e pos.line X.env = pure false := by rfl) (hw : swappedStores [tg] e X.env = pure none := by rfl)
    (h1 : (assignEach [tg] X.env).map (·.2) = [assign tg X.env] := by rfl) : PS X (.Assign [tg] e pos) (tAsg te g) := by
  intro pins s σ H D I h
  refine wpAny_Assign_stores (thn (he pins s σ H _ I h) fun v s1 ⟨x, H1, I1, r1, q1⟩ => ?_) hs hw
  rw [h1]
  exact thn (hg pins s1 σ H1 x v _ I1 r1 q1) fun _ s2 q => q
/-- name = value -/
theorem ps_set {i : Nat} {x : Str} {e : Expr} {te : TE} {pos' : Pos} (hN : X.N.Nodup) (hi : X.N[i]? = some x) (hx : Loc X.env.scope x) (he : PE X e te) (hs : swapsWith e (some (.Name x pos')) pos.line X.env = pure false := by rfl) (hf : X.fn x = true ∨ X.env.scope.names.lookup x = some .local := by first | exact .inl rfl | exact .inr rfl | assumption) :
    PS X (.Assign [.Name x pos'] e pos) (tAsg te (gName i)) := by
  intro pins s σ H D I h
  refine wpAny_Assign_Name (thn (he pins s σ H _ I h) fun v s1 ⟨y, H1, I1, r1, q1⟩ => ?_) hs
  exact store_ok I1 hN hi hx r1 (fun s2 I2 => ⟨_, H1, I2, q1⟩) hf
/-- a, b = x, y with plain local names: stored from the right; the pair itself is not tracked (the opening rows as in PyProof/Rows/TupAssign.lean:23) -/
def tPar (i j : Nat) (ta : TA) : TS := fun D σ H => ta σ H fun vs H1 => ∃ v w, vs = [v, w] ∧ D.nx ((σ.set i (some v)).set j (some w)) H1
/-- name op= e -/
def tAug (i : Nat) (te : TE) (ti : TIp) : TS := fun D σ H => ∃ x, σ[i]? = some (some x) ∧ te σ H fun y H1 => ti x y H1 fun z H2 => D.nx (σ.set i (some z)) H2
/-- o[i] op= e -/
def tAugS (to ti te : TE) (tget : V → V → Hp → VK → Prop) (tip : TIp) (tset : TSet) : TS := fun D σ H => to σ H fun o H1 => ti σ H1 fun i H2 => tget o i H2 fun x H3 => te σ H3 fun y H4 => tip x y H4 fun z H5 => tset o i z H5 fun H6 => D.nx σ H6
/-- o[i], by values -/
def PGet (X : Cx) (t : V → V → Hp → VK → Prop) : Prop :=
  ∀ (pins : List (Addr × Obj)) (s : Shared) (σ : St) (H : Hp) (o i : V) (ov iv : Value) (Q : VK), Inv X pins σ H s → RelV o ov → RelV i iv → t o i H Q →
    wpAny (model X.prog X.w) X.A (getItem ov iv) (EP X pins σ Q) X.xe s
/-- ints -/
def ipI (f : Int → Int → Int) : TIp := fun x y H Q => ∃ i j, x = .int i ∧ y = .int j ∧ Q (.int (f i j)) H
end

/-! ### while -/
section
variable {X : Cx} {pos : Pos}
/-- the invariant W with its measure -/
def tWhile (c : TT) (tb : TS) : TS := fun D σ H => ∃ W : Nat → St → Hp → Prop, (∃ m, W m σ H) ∧ ∀ m σ H, W m σ H →
  c σ H fun b H1 => if b = true then ∃ N : St → Hp → Prop, (∀ σ' H', N σ' H' → ∃ m', m' < m ∧ W m' σ' H') ∧ tb { D with nx := N, ct := N, bk := D.nx } σ H1 else D.nx σ H1
end

/-! ### what a loop or a comprehension walks -/
/-- at turn i: it yields x (the heap may grow), or it stops -/
structure It where
  go : Nat → Hp → Prop
  yld : Nat → Hp → V → Hp → Prop
  stop : Nat → Hp → Prop
/-- the iterator's own objects may turn: they are not the frame's, not pinned, younger than the entry (or a comprehension's own) -/
def FpOk (X : Cx) (pins : List (Addr × Obj)) (H : Hp) (b : Addr) : Prop :=
  H b = none ∧ b ≠ X.env.locals ∧ b ∉ X.fs ∧ (b ∈ X.ex ∨ X.s_0.heap.objs.size ≤ b) ∧ (∀ x c, X.env.cells.lookup x = some c → c ≠ b) ∧ ∀ p ∈ X.pn ++ pins, p.1 ≠ b
theorem Inv.fpOk {X : Cx} {pins : List (Addr × Obj)} {σ : St} {H H' : Hp} {s : Shared} {b : Addr} (I : Inv X pins σ H s) (hb : s.heap.objs.size ≤ b) (hn : H' b = none) : FpOk X pins H' b := by
  refine ⟨hn, Nat.ne_of_gt (Nat.lt_of_lt_of_le I.lt hb), I.nofs hb, .inr (Nat.le_trans I.sz hb), fun x c e z => ?_, fun p hp z => ?_⟩
  · obtain ⟨v, q⟩ := I.cell x c e
    exact absurd (Nat.lt_of_lt_of_le q.lt (by rw [z]; exact hb)) (Nat.lt_irrefl _)
  · exact absurd (Nat.lt_of_lt_of_le (Heap.lt_size (I.pin p hp).1) (by rw [z]; exact hb)) (Nat.lt_irrefl _)
structure Turn (P : Program) (w : World) (K : PySem.W.Frag) (tg : Expr) (J : It) (fp : List Addr) (it : Addr) (tn : Nat → Heap → Prop) : Prop where
  mem : it ∈ fp
  obj : ∀ i h, tn i h → ∀ b ∈ fp, ∃ o, h.get? b = some o ∧ ∀ v, o.data ≠ .cell v
  keep : ∀ i h h', tn i h → (∀ b ∈ fp, ∀ o, h.get? b = some o → h'.get? b = some o) → tn i h'
  item : ∀ (X : Cx), X.prog = P → X.w = w → X.K = K → X.calm = true → ∀ (i : Nat) (pins : List (Addr × Obj)) (s : Shared) (σ : St) (H : Hp) (E : Value → Shared → Prop), Inv X pins σ H s → (∀ b ∈ fp, FpOk X pins H b) → tn i s.heap → J.go i H →
    wpAny (model P w) X.A (pyNext (.ref it)) (fun r s1 => ∃ u, r = some u ∧
      wpAny (model P w) X.A (letOwnedTupleGo tg (.ref it) u) (fun _ s2 => ∃ x H', Inv X pins σ H' s2 ∧ RelV x u ∧ J.yld i H x H' ∧ tn (i + 1) s2.heap ∧ ∀ b ∈ fp, H' b = none) E s1) E s
  done : ∀ (X : Cx), X.prog = P → X.w = w → X.K = K → X.calm = true → ∀ (i : Nat) (pins : List (Addr × Obj)) (s : Shared) (σ : St) (H : Hp) (E : Value → Shared → Prop), Inv X pins σ H s → (∀ b ∈ fp, FpOk X pins H b) → tn i s.heap → J.stop i H →
    wpAny (model P w) X.A (pyNext (.ref it)) (fun r s1 => r = none ∧ Inv X pins σ H s1) E s
  self : ∀ (A : Around) (i : Nat) (s : Shared) (Q : Value → Shared → Prop) (E : Value → Shared → Prop), tn i s.heap → Q (.ref it) s → wpAny (model P w) A (pyIter (.ref it)) Q E s
abbrev TI := St → Hp → (It → Hp → Prop) → Prop
/-- an iterator has come -/
def PIE (X : Cx) (pins : List (Addr × Obj)) (σ : St) (tg : Expr) (R : It → Hp → Prop) (itv : Value) (s2 : Shared) : Prop :=
  ∃ (it : Addr) (fp : List Addr) (tn : Nat → Heap → Prop) (J : It) (H' : Hp), itv = .ref it ∧ Inv X pins σ H' s2 ∧ Turn X.prog X.w X.K tg J fp it tn ∧ tn 0 s2.heap ∧ (∀ b ∈ fp, FpOk X pins H' b) ∧ R J H'
def PI (X : Cx) (tg iter : Expr) (wi : TI) : Prop :=
  ∀ (pins : List (Addr × Obj)) (s : Shared) (σ : St) (H : Hp) (R : It → Hp → Prop), Inv X pins σ H s → wi σ H R →
    wpAny (model X.prog X.w) X.A (eval iter X.env) (fun v s1 => wpAny (model X.prog X.w) X.A (pyIter v) (PIE X pins σ tg R) X.xe s1) X.xe s

/-- the step ahead of the store is nothing for an iterator that keeps no tuple -/
theorem go_of {M : Model} {A : Around} {E : Value → Shared → Prop} {s : Shared} {tg : Expr} {it : Addr} {u : Value} {o : Obj} {n : String} {vs : Array Value} {Q : Unit → Shared → Prop} (ho : s.heap.get? it = some o) (hc : o.cls = .type n) (hd : o.data = .fields vs)
    (hn : ["enumerate", "zip", "dict_itemiterator", "dict_reverseitemiterator", "odict_iterator", "itertools.zip_longest", "itertools.pairwise"].contains n = false) (hQ : Q () s) : wpAny M A (letOwnedTupleGo tg (.ref it) u) Q E s := by
  unfold letOwnedTupleGo
  cases tg <;> first
    | exact wpAny_pure hQ
    | (cases u <;> first
        | exact wpAny_pure hQ
        | (refine wpAny_bind (wpAny_load ho ?_)
           rw [hc, hd]
           show wpAny M A (if (["enumerate", "zip", "dict_itemiterator", "dict_reverseitemiterator", "odict_iterator", "itertools.zip_longest", "itertools.pairwise"].contains n && vs[0]? == some (rawInt _)) = true then _ else _) Q E s
           rw [if_neg (by intro h; rw [hn, Bool.false_and] at h; cases h)]
           exact wpAny_pure hQ))

/-- the list at a, as it stands at each turn (a loop may append to it) -/
def Itl (K : PySem.W.Frag) (a : Addr) : It :=
  ⟨fun i H => ∃ xs x, SqL K H a xs ∧ xs[i]? = some x, fun i H x H' => H' = H ∧ ∀ xs, SqL K H a xs → xs[i]? = some x, fun i H => ∃ xs, SqL K H a xs ∧ xs.length ≤ i⟩
def Itt (K : PySem.W.Frag) (a : Addr) : It :=
  ⟨fun i H => ∃ xs x, SqT K H a xs ∧ xs[i]? = some x, fun i H x H' => H' = H ∧ ∀ xs, SqT K H a xs → xs[i]? = some x, fun i H => ∃ xs, SqT K H a xs ∧ xs.length ≤ i⟩
/-- lo, lo + 1, .. (n of them) -/
def Itr (lo : Int) (n : Nat) : It := ⟨fun i _ => i < n, fun i H x H' => H' = H ∧ x = .int (lo + i), fun i _ => n ≤ i⟩
theorem turn_list {P : Program} {w : World} {K : PySem.W.Frag} {tg : Expr} (a it : Addr) : Turn P w K tg (Itl K a) [it] it (fun i h => h.IsListIter it a i) where
  mem := by simp
  obj := fun i h st b hb => by
    have e : b = it := by simpa using hb
    subst e
    obtain ⟨o, e, c, d⟩ := st
    exact ⟨o, e, fun v z => by rw [d] at z; cases z⟩
  keep := fun i h h' st k => st.at fun o e => k it (by simp) o e
  item := by
    intro X hP hw hK hc i pins s σ H E I hf st hg
    subst hP hw hK
    obtain ⟨xs, x, hq, hx⟩ := hg
    obtain ⟨its, rv, p, hz⟩ := I.list hq
    obtain ⟨u, hu, ru⟩ := rv.get hx
    obtain ⟨f0, f1, f2, f3, f4, f5⟩ := hf it (by simp)
    refine wpAny_pyNext_list_item st p.isList (x := u) (by simpa using hu) fun h' st' sb => ?_
    have I1 : Inv X pins σ H { s with heap := h' } := I.turned (t' := s.toks) (fun b o hb e => (sb.2 b hb).trans e) f0 f1 f3 f4 f5
    obtain ⟨o, e, c, d⟩ := id st'
    exact ⟨u, rfl, go_of (s := { s with heap := h' }) e c d (by decide) ⟨x, H, I1, ru, ⟨rfl, fun ys hy => by rw [I.list_inj hy hq]; exact hx⟩, st', fun b hb => (hf b hb).1⟩⟩
  done := by
    intro X hP hw hK hc i pins s σ H E I hf st hg
    subst hP hw hK
    obtain ⟨xs, hq, hx⟩ := hg
    obtain ⟨its, rv, p, hz⟩ := I.list hq
    obtain ⟨f0, f1, f2, f3, f4, f5⟩ := hf it (by simp)
    have hl := rv.length
    exact wpAny_pyNext_list_end (I.ok.hd hc) st p.isList (by simp; omega) fun h' eb => ⟨rfl, I.turned (t' := s.toks) (fun b o hb e => eb b o hb e) f0 f1 f3 f4 f5⟩
  self := fun _ _ _ _ _ st h => wpAny_pyIter_listiter st h
theorem turn_range {P : Program} {w : World} {K : PySem.W.Frag} {tg : Expr} (it : Addr) (lo : Int) (n : Nat) : Turn P w K tg (Itr lo n) [it] it (fun i h => IsRangeIter h it (lo + (i : Nat) * 1) ((n : Int) - (i : Nat)) 1) where
  mem := by simp
  obj := fun i h st b hb => by
    have e : b = it := by simpa using hb
    subst e
    exact ⟨_, st, fun v z => by
      have z' : Data.fields _ = Data.cell v := z
      cases z'⟩
  keep := fun i h h' st k => k it (by simp) _ st
  item := by
    intro X hP hw hK hc i pins s σ H E I hf st hg
    subst hP hw hK
    obtain ⟨f0, f1, f2, f3, f4, f5⟩ := hf it (by simp)
    have W := Walks.range (prog := X.prog) (w := X.w) (I.ok.hd hc) it lo 1 n
    refine W.item i s _ _ hg st fun v h' tk hv st' kk => ?_
    obtain ⟨t, rfl⟩ := hv
    have I1 : Inv X pins σ H { s with heap := h', toks := tk } := I.turned (fun b o hb e => kk b o (by simpa using hb) e) f0 f1 f3 f4 f5
    refine ⟨_, rfl, go_of (s := { s with heap := h', toks := tk }) (n := "range_iterator") st' rfl rfl (by decide) ⟨.int (lo + i), H, I1, ⟨t, ?_⟩, ⟨rfl, rfl⟩, st', fun b hb => (hf b hb).1⟩⟩
    rw [Int.mul_one]
  done := by
    intro X hP hw hK hc i pins s σ H E I hf st hg
    subst hP hw hK
    obtain ⟨f0, f1, f2, f3, f4, f5⟩ := hf it (by simp)
    exact wpAny_pyNext_range_end (I.ok.hd hc) st (by have : n ≤ i := hg; omega) fun h' eb => ⟨rfl, I.turned (t' := s.toks) (fun b o hb e => eb b o hb e) f0 f1 f3 f4 f5⟩
  self := fun _ _ _ _ _ st h => wpAny_pyIter_rangeiter st h
end L2

namespace L2
open PySem PySem.Spec PyProof.Rows
section
variable {X : Cx} {tg : Expr}
def iList (K : PySem.W.Frag) (tl : TE) : TI := fun σ H R => tl σ H fun x H1 => ∃ a, x = .ref a ∧ (∃ xs, SqL K H1 a xs) ∧ R (Itl K a) H1
def iTup (K : PySem.W.Frag) (tl : TE) : TI := fun σ H R => tl σ H fun x H1 => ∃ a, x = .ref a ∧ (∃ xs, SqT K H1 a xs) ∧ R (Itt K a) H1
theorem pi_list {l : Expr} {tl : TE} (hl : PE X l tl) : PI X tg l (iList X.K tl) := by
  intro pins s σ H R I h
  refine thn (hl pins s σ H _ I h) fun v s1 ⟨x, H1, I1, r1, q1⟩ => ?_
  obtain ⟨a, e, ⟨xs, hq⟩, q⟩ := q1
  subst e
  cases r1
  obtain ⟨its, rv, p, hz⟩ := I1.list hq
  refine wpAny_pyIter_list p.isList ?_
  refine ⟨s1.heap.objs.size, [s1.heap.objs.size], _, _, H1, rfl, I1.kept (t' := s1.toks) fun b o e => Heap.get?_push_of_some _ e, turn_list a _, ⟨_, Heap.get?_push_size _ rfl, rfl, rfl⟩, fun b hb => ?_, q⟩
  have e : b = s1.heap.objs.size := by simpa using hb
  subst e
  exact I1.fpOk (Nat.le_refl _) (I1.hok.fresh (Nat.le_refl _))
/-- a range object just made, walked -/
theorem range_it {pins : List (Addr × Obj)} {σ : St} {H : Hp} {s : Shared} {R : It → Hp → Prop} {E : Value → Shared → Prop} {lo hi : Int} {t u v : Tok} {tk : Nat} (I : Inv X pins σ H s) (h1 : -(2 ^ 62) ≤ lo) (h2 : lo < 2 ^ 62) (h3 : -(2 ^ 62) ≤ hi) (h4 : hi < 2 ^ 62)
    (q : R (Itr lo (hi - lo).toNat) H) : wpAny (model X.prog X.w) X.A (pyIter (.ref s.heap.objs.size)) (PIE X pins σ tg R) E { s with heap := s.heap.push { cls := .type "range", data := .fields #[.int lo t, .int hi u, .int 1 v] }, toks := tk } := by
  refine wpAny_pyIter_range (IsRange.new ..) (small_one h1 h2 h3 h4) ?_
  have I1 : Inv X pins σ H { s with heap := s.heap.push { cls := .type "range", data := .fields #[.int lo t, .int hi u, .int 1 v] }, toks := tk } := I.kept fun b o e => Heap.get?_push_of_some _ e
  refine ⟨(s.heap.push { cls := .type "range", data := .fields #[.int lo t, .int hi u, .int 1 v] }).objs.size, [(s.heap.push { cls := .type "range", data := .fields #[.int lo t, .int hi u, .int 1 v] }).objs.size], _, _, H, rfl,
    I1.kept (t' := tk) fun b o e => Heap.get?_push_of_some _ e, turn_range _ lo (hi - lo).toNat, ?_, fun b hb => ?_, q⟩
  · have e1 : lo + ((0 : Nat) : Int) * 1 = lo := by simp
    have e2 : (((hi - lo).toNat : Nat) : Int) - ((0 : Nat) : Int) = Builtin.Range.rangeSize lo hi 1 := by rw [rangeSize_one]; split <;> omega
    show IsRangeIter _ _ (lo + ((0 : Nat) : Int) * 1) ((((hi - lo).toNat : Nat) : Int) - ((0 : Nat) : Int)) 1
    rw [e1, e2]
    exact Heap.get?_push_size _ rfl
  · have e : b = (s.heap.push { cls := .type "range", data := .fields #[.int lo t, .int hi u, .int 1 v] }).objs.size := by simpa using hb
    subst e
    exact I1.fpOk (Nat.le_refl _) (I1.hok.fresh (Nat.le_refl _))
def iRng1 (ta : TA) : TI := fun σ H R => ta σ H fun vs H1 => ∃ j : Int, vs = [.int j] ∧ -(2 ^ 62) ≤ j ∧ j < 2 ^ 62 ∧ R (Itr 0 j.toNat) H1
def iRng2 (ta : TA) : TI := fun σ H R => ta σ H fun vs H1 => ∃ i j : Int, vs = [.int i, .int j] ∧ (-(2 ^ 62) ≤ i ∧ i < 2 ^ 62 ∧ -(2 ^ 62) ≤ j ∧ j < 2 ^ 62) ∧ R (Itr i (j - i).toNat) H1
theorem pi_range1 {a : Expr} {ta : TA} {p pos : Pos} (hg : Gl X "range") (hm : X.mg "range" = none) (ha : PA X [a] ta) (hs : starEach [a] X.env = [(false, eval a X.env)] := by rfl) : PI X tg (.Call (.Name "range" p) [a] [] pos) (iRng1 ta) := by
  intro pins s σ H R I h
  refine Call_ (ld_blt I hg hm boot_range (PyProof.Rows.callWith_type1 (thn (ha pos pins s σ H _ I h) fun us s1 ⟨vs, H1, I1, r1, q1⟩ => ?_) hs rfl))
  obtain ⟨j, e, q1, q2, q⟩ := q1
  subst e
  cases r1 with
  | cons r rr =>
    cases rr
    obtain ⟨t, rfl⟩ := r
    exact call_range_1 (range_it I1 (by omega) (by omega) q1 q2 (by simpa using q))
/-! ### for -/
/-- W: the invariant by the turn and a measure; N: what the body is to reach -/
def tFor (wi : TI) (g : TG) (tb : TS) : TS := fun D σ H => wi σ H fun J H1 => ∃ W : Nat → Nat → St → Hp → Prop, (∃ m, W 0 m σ H1) ∧ ∀ i m σ H, W i m σ H →
  (J.stop i H ∧ D.nx σ H) ∨ (J.go i H ∧ ∃ N : St → Hp → Prop, (∀ σ' H', N σ' H' → ∃ m', m' < m ∧ W (i + 1) m' σ' H') ∧ ∀ x H', J.yld i H x H' → g x σ H' fun σ2 H2 => tb { D with nx := N, ct := N, bk := D.nx } σ2 H2)
/-- the records at fp as they stand -/
def pinsAt (fp : List Addr) (h : Heap) : List (Addr × Obj) := fp.filterMap fun b => (h.get? b).map fun o => (b, o)
theorem mem_pinsAt {fp : List Addr} {h : Heap} {b : Addr} {o : Obj} (hb : b ∈ fp) (e : h.get? b = some o) : (b, o) ∈ pinsAt fp h := List.mem_filterMap.mpr ⟨b, hb, by rw [e]; rfl⟩
theorem of_pinsAt {fp : List Addr} {h : Heap} {p : Addr × Obj} (hp : p ∈ pinsAt fp h) : p.1 ∈ fp ∧ h.get? p.1 = some p.2 := by
  obtain ⟨b, hb, e⟩ := List.mem_filterMap.mp hp
  cases q : h.get? b with
  | none => rw [q] at e; cases e
  | some o =>
    rw [q] at e
    have e' : (b, o) = p := Option.some.inj e
    subst e'
    exact ⟨hb, q⟩
theorem Inv.pinned {pins : List (Addr × Obj)} {σ : St} {H : Hp} {s : Shared} {fp : List Addr} (I : Inv X pins σ H s) (hf : ∀ b ∈ fp, FpOk X pins H b) (ho : ∀ b ∈ fp, ∃ o, s.heap.get? b = some o ∧ ∀ v, o.data ≠ .cell v) : Inv X (pins ++ pinsAt fp s.heap) σ H s :=
  I.pins_of fun p hp => (List.mem_append.mp hp).elim (fun z => I.pin p (List.mem_append_right _ z)) fun z => by
    obtain ⟨hb, e⟩ := of_pinsAt z
    obtain ⟨f0, f1, f2, _⟩ := hf p.1 hb
    obtain ⟨o, e', d⟩ := ho p.1 hb
    rw [e] at e'; cases e'
    exact ⟨e, f0, f1, f2, d⟩
theorem Inv.unpinned {pins pl : List (Addr × Obj)} {σ : St} {H : Hp} {s : Shared} (I : Inv X (pins ++ pl) σ H s) : Inv X pins σ H s := I.pins_of fun p hp => I.pin p (List.mem_append_right _ (List.mem_append_left _ hp))
theorem ps_for {iter : Expr} {body : List Stmt} {wi : TI} {g : TG} {tb : TS} {pos : Pos} (hp : PassesOwn (model X.prog X.w) X.A X.env X.xe) (hc : X.calm = true) (hi : PI X tg iter wi) (hg : PG X tg g) (hb : PSs X body tb)
    (hs : ∀ x, foldedSetIterable iter X.env x = pure x := by intro _; rfl) : PS X (.For tg iter body [] pos) (tFor wi g tb) := by
  intro pins s σ H D I h
  refine wpAny_For (thn (hi pins s σ H _ I h) fun v s1 h1 => thn h1 fun itv s2 h2 => ?_) hs
  obtain ⟨it, fp, tn, J, H2, e, I2, T, st2, f2, W, ⟨m0, w0⟩, turn⟩ := h2
  subst e
  -- what stays true of the iterator's objects through the loop
  have stat : ∀ {H' : Hp}, (∀ b ∈ fp, H' b = none) → ∀ b ∈ fp, FpOk X pins H' b := fun hn b hb => ⟨hn b hb, (f2 b hb).2⟩
  refine codeAny_forLoop_any (fun n s' => ∃ i σ' H', Inv X pins σ' H' s' ∧ tn i s'.heap ∧ (∀ b ∈ fp, H' b = none) ∧ W i n σ' H') ?_ m0 ⟨0, σ, H2, I2, st2, fun b hb => (f2 b hb).1, w0⟩
  rintro n s3 ⟨i, σ3, H3, I3, st3, fr3, w3⟩
  rcases turn i n σ3 H3 w3 with ⟨stop, qn⟩ | ⟨go, N, hN, step⟩
  · refine wpAny_passesOwn hp (thn (T.done X rfl rfl rfl hc i pins s3 σ3 H3 X.xe I3 (stat fr3) st3 stop) fun r s4 ⟨hr, I4⟩ => ?_)
    subst hr
    exact wpAny_execs_nil ⟨σ3, H3, I4, qn⟩
  · refine wpAny_passesOwn hp (thn (T.item X rfl rfl rfl hc i pins s3 σ3 H3 X.xe I3 (stat fr3) st3 go) fun r s4 ⟨u, hr, h4⟩ => ?_)
    subst hr
    refine wpAny_passesOwn hp (thn h4 fun _ s5 ⟨x, H5, I5, r5, y5, st5, fr5⟩ => ?_)
    have I5' := I5.pinned (stat fr5) (T.obj _ _ st5)
    refine wpAny_passesOwn hp (thn (hg _ s5 σ3 H5 x u _ I5' r5 (step x H5 y5)) fun _ s6 ⟨σ6, H6, I6, q6⟩ => ?_)
    refine wpAny_passesOwn hp (thn (hb _ s6 σ6 H6 _ I6 q6) fun f s7 q7 => ?_)
    have again : ∀ {σ7 : St} {H7 : Hp}, Inv X (pins ++ pinsAt fp s5.heap) σ7 H7 s7 → N σ7 H7 → ∃ m, m < n ∧ ∃ i σ' H', Inv X pins σ' H' s7 ∧ tn i s7.heap ∧ (∀ b ∈ fp, H' b = none) ∧ W i m σ' H' := fun {σ7 H7} I7 n7 => by
      obtain ⟨m', hm, w7⟩ := hN σ7 H7 n7
      refine ⟨m', hm, i + 1, σ7, H7, I7.unpinned, T.keep _ _ _ st5 fun b hb o e => (I7.pin (b, o) (List.mem_append_right _ (List.mem_append_right _ (mem_pinsAt hb e)))).1, fun b hb => ?_, w7⟩
      obtain ⟨o, e, d⟩ := T.obj _ _ st5 b hb
      exact (I7.pin (b, o) (List.mem_append_right _ (List.mem_append_right _ (mem_pinsAt hb e)))).2.1
    cases f with
    | next => obtain ⟨σ7, H7, I7, n7⟩ := q7; exact again I7 n7
    | cont => obtain ⟨σ7, H7, I7, n7⟩ := q7; exact again I7 n7
    | brk => obtain ⟨σ7, H7, I7, q7⟩ := q7; exact ⟨σ7, H7, I7.unpinned, q7⟩
    | ret v => obtain ⟨x7, σ7, H7, I7, r7, q7⟩ := q7; exact ⟨x7, σ7, H7, I7.unpinned, r7, q7⟩
end

/-! ### the forms one uses -/
/-- over a list that the body leaves as it is -/
theorem for_list {K : PySem.W.Frag} {a : Addr} {xs : List V} {g : TG} {tb : TS} {D : Ends} {σ : St} {H : Hp} (Pv : Nat → St → Hp → Prop) (h0 : Pv 0 σ H) (hl : ∀ i σ H, i ≤ xs.length → Pv i σ H → SqL K H a xs)
    (hs : ∀ i x σ H, xs[i]? = some x → Pv i σ H → g x σ H fun σ2 H2 => tb { D with nx := Pv (i + 1), ct := Pv (i + 1), bk := D.nx } σ2 H2) (hd : ∀ σ H, Pv xs.length σ H → D.nx σ H) :
    ∃ W : Nat → Nat → St → Hp → Prop, (∃ m, W 0 m σ H) ∧ ∀ i m σ H, W i m σ H →
      ((Itl K a).stop i H ∧ D.nx σ H) ∨ ((Itl K a).go i H ∧ ∃ N : St → Hp → Prop, (∀ σ' H', N σ' H' → ∃ m', m' < m ∧ W (i + 1) m' σ' H') ∧ ∀ x H', (Itl K a).yld i H x H' → g x σ H' fun σ2 H2 => tb { D with nx := N, ct := N, bk := D.nx } σ2 H2) := by
  refine ⟨fun i m σ H => m = xs.length - i ∧ i ≤ xs.length ∧ Pv i σ H, ⟨xs.length, by simp, Nat.zero_le _, h0⟩, ?_⟩
  rintro i m σ H ⟨rfl, hi, p⟩
  have q := hl i σ H hi p
  by_cases hlt : i < xs.length
  · refine .inr ⟨⟨xs, xs[i], q, by simp [hlt]⟩, Pv (i + 1), fun σ' H' p' => ⟨xs.length - (i + 1), by omega, rfl, hlt, p'⟩, fun x H' y => ?_⟩
    obtain ⟨e, y⟩ := y
    subst e
    exact hs i x σ _ (y xs q) p
  · have e : i = xs.length := by omega
    subst e
    exact .inl ⟨⟨xs, q, Nat.le_refl _⟩, hd σ H p⟩
theorem for_range {lo : Int} {n : Nat} {g : TG} {tb : TS} {D : Ends} {σ : St} {H : Hp} (Pv : Nat → St → Hp → Prop) (h0 : Pv 0 σ H)
    (hs : ∀ i σ H, i < n → Pv i σ H → g (.int (lo + i)) σ H fun σ2 H2 => tb { D with nx := Pv (i + 1), ct := Pv (i + 1), bk := D.nx } σ2 H2) (hd : ∀ σ H, Pv n σ H → D.nx σ H) :
    ∃ W : Nat → Nat → St → Hp → Prop, (∃ m, W 0 m σ H) ∧ ∀ i m σ H, W i m σ H →
      ((Itr lo n).stop i H ∧ D.nx σ H) ∨ ((Itr lo n).go i H ∧ ∃ N : St → Hp → Prop, (∀ σ' H', N σ' H' → ∃ m', m' < m ∧ W (i + 1) m' σ' H') ∧ ∀ x H', (Itr lo n).yld i H x H' → g x σ H' fun σ2 H2 => tb { D with nx := N, ct := N, bk := D.nx } σ2 H2) := by
  refine ⟨fun i m σ H => m = n - i ∧ i ≤ n ∧ Pv i σ H, ⟨n, by simp, Nat.zero_le _, h0⟩, ?_⟩
  rintro i m σ H ⟨rfl, hi, p⟩
  by_cases hlt : i < n
  · refine .inr ⟨hlt, Pv (i + 1), fun σ' H' p' => ⟨n - (i + 1), by omega, rfl, hlt, p'⟩, fun x H' y => ?_⟩
    obtain ⟨e, y⟩ := y
    subst e y
    exact hs i σ _ hlt p
  · have e : i = n := by omega
    subst e
    exact .inl ⟨Nat.le_refl _, hd σ H p⟩
end L2

namespace L2
open PySem PySem.Spec PyProof.Rows

abbrev R2 := V → V → Hp → VK → Prop
/-- a two-place operation on values: f is binaryOp op, inplaceOp op or compareOp op -/
def OpR (X : Cx) (f : Value → Value → Sem Value) (r : R2) : Prop :=
  ∀ (pins : List (Addr × Obj)) (s : Shared) (σ : St) (H : Hp) (x y : V) (v u : Value) (Q : VK), Inv X pins σ H s → RelV x v → RelV y u → r x y H Q →
    wpAny (model X.prog X.w) X.A (f v u) (EP X pins σ Q) X.xe s
/-- a one-place operation -/
def UnR (X : Cx) (f : Value → Sem Value) (r : V → Hp → VK → Prop) : Prop :=
  ∀ (pins : List (Addr × Obj)) (s : Shared) (σ : St) (H : Hp) (x : V) (v : Value) (Q : VK), Inv X pins σ H s → RelV x v → r x H Q →
    wpAny (model X.prog X.w) X.A (f v) (EP X pins σ Q) X.xe s
/-- a call of a value that is known (a builtin, a type) with values -/
def CallR (X : Cx) (f : Value) (r : List V → Hp → VK → Prop) : Prop :=
  ∀ (pins : List (Addr × Obj)) (s : Shared) (σ : St) (H : Hp) (xs : List V) (us : List Value) (Q : VK), Inv X pins σ H s → Vals xs us → r xs H Q →
    wpAny (model X.prog X.w) X.A (call f us) (EP X pins σ Q) X.xe s
/-- a value's truth -/
def TruR (X : Cx) (r : V → Hp → (Bool → Hp → Prop) → Prop) : Prop :=
  ∀ (pins : List (Addr × Obj)) (s : Shared) (σ : St) (H : Hp) (x : V) (v : Value) (Q : Bool → Hp → Prop), Inv X pins σ H s → RelV x v → r x H Q →
    wpAny (model X.prog X.w) X.A (truthy v) (TP X pins σ Q) X.xe s

def tOp (r : R2) (ta tb : TE) : TE := fun σ H Q => ta σ H fun x H1 => tb σ H1 fun y H2 => r x y H2 Q
def tUn (r : V → Hp → VK → Prop) (ta : TE) : TE := fun σ H Q => ta σ H fun x H1 => r x H1 Q
/-- ints in, under C, and a value out -/
def rI (C : Int → Int → Prop) (g : Int → Int → V) : R2 := fun x y H Q => ∃ i j, x = .int i ∧ y = .int j ∧ C i j ∧ Q (g i j) H
def rI0 (g : Int → Int → V) : R2 := fun x y H Q => ∃ i j, x = .int i ∧ y = .int j ∧ Q (g i j) H
def rU (g : Int → V) : V → Hp → VK → Prop := fun x H Q => ∃ i, x = .int i ∧ Q (g i) H

section
variable {X : Cx} {a b c : Expr} {ta tb tc : TE} {pos : Pos}

theorem binT (ha : PE X a ta) (hb : PE X b tb) {pins : List (Addr × Obj)} {s : Shared} {σ : St} {H : Hp} {R : V → V → Hp → Prop} (I : Inv X pins σ H s)
    (h : ta σ H fun x H1 => tb σ H1 fun y H2 => R x y H2) {Q : Value → Shared → Prop} {f : Value → Value → Sem Value}
    (hf : ∀ v u s2 x y H2, Inv X pins σ H2 s2 → RelV x v → RelV y u → R x y H2 → wpAny (model X.prog X.w) X.A (f v u) Q X.xe s2) :
    wpAny (model X.prog X.w) X.A (eval a X.env) (fun v s₁ => wpAny (model X.prog X.w) X.A (eval b X.env) (fun u s₂ => wpAny (model X.prog X.w) X.A (f v u) Q X.xe s₂) X.xe s₁) X.xe s := by
  refine thn (ha pins s σ H _ I h) fun v s1 ⟨x, H1, I1, r1, q1⟩ => ?_
  refine thn (hb pins s1 σ H1 _ I1 q1) fun u s2 ⟨y, H2, I2, r2, q2⟩ => ?_
  exact hf v u s2 x y H2 I2 r1 r2 q2

theorem pe_op {op : Operator} {r : R2} (ho : OpR X (binaryOp op) r) (ha : PE X a ta) (hb : PE X b tb) : PE X (.BinOp a op b pos) (tOp r ta tb) := by
  intro pins s σ H Q I h
  exact wpAny_BinOp (binT ha hb I h fun v u s2 x y H2 I2 rx ry q => ho pins s2 σ H2 x y v u Q I2 rx ry q)
theorem pe_un {op : UnaryOp} {r : V → Hp → VK → Prop} (ho : UnR X (unaryOp op) r) (ha : PE X a ta) : PE X (.UnaryOp op a pos) (tUn r ta) := by
  intro pins s σ H Q I h
  exact UnaryOp_ (thn (ha pins s σ H _ I h) fun v s1 ⟨x, H1, I1, r1, q1⟩ => ho pins s1 σ H1 x v Q I1 r1 q1)
/-! ### ints -/
theorem opI {f : Value → Value → Sem Value} {C : Int → Int → Prop} {g : Int → Int → Int}
    (rule : ∀ (i j : Int) (t u : Tok) (s : Shared) (Q : Value → Shared → Prop) (E : Value → Shared → Prop), C i j → Q (.int (g i j) s.toks) { s with toks := s.toks + 1 } → wpAny (model X.prog X.w) X.A (f (.int i t) (.int j u)) Q E s) :
    OpR X f (rI C fun i j => .int (g i j)) := by
  intro pins s σ H x y v u Q I rx ry h
  obtain ⟨i, j, rfl, rfl, hc, q⟩ := h
  obtain ⟨t, rfl⟩ := rx
  obtain ⟨t', rfl⟩ := ry
  exact rule i j t t' s _ _ hc ⟨.int (g i j), H, I.tok _, ⟨_, rfl⟩, q⟩
theorem opI0 {f : Value → Value → Sem Value} {g : Int → Int → Int}
    (rule : ∀ (i j : Int) (t u : Tok) (s : Shared) (Q : Value → Shared → Prop) (E : Value → Shared → Prop), Q (.int (g i j) s.toks) { s with toks := s.toks + 1 } → wpAny (model X.prog X.w) X.A (f (.int i t) (.int j u)) Q E s) :
    OpR X f (rI0 fun i j => .int (g i j)) := by
  intro pins s σ H x y v u Q I rx ry h
  obtain ⟨i, j, rfl, rfl, q⟩ := h
  obtain ⟨t, rfl⟩ := rx
  obtain ⟨t', rfl⟩ := ry
  exact rule i j t t' s _ _ ⟨.int (g i j), H, I.tok _, ⟨_, rfl⟩, q⟩
theorem opB0 {f : Value → Value → Sem Value} {g : Int → Int → Bool}
    (rule : ∀ (i j : Int) (t u : Tok) (s : Shared) (Q : Value → Shared → Prop) (E : Value → Shared → Prop), Q (.bool (g i j)) s → wpAny (model X.prog X.w) X.A (f (.int i t) (.int j u)) Q E s) :
    OpR X f (rI0 fun i j => .bl (g i j)) := by
  intro pins s σ H x y v u Q I rx ry h
  obtain ⟨i, j, rfl, rfl, q⟩ := h
  obtain ⟨t, rfl⟩ := rx
  obtain ⟨t', rfl⟩ := ry
  exact rule i j t t' s _ _ ⟨.bl (g i j), H, I, rfl, q⟩

def CDiv (i j : Int) : Prop := 0 < j ∧ j < 1073741824
def CDivN (i j : Int) : Prop := j ≠ 0 ∧ j.natAbs < 1073741824
def CPow (i j : Int) : Prop := 0 ≤ j ∧ j ≤ 1000000 ∧ i.natAbs < 2 ^ 64
def CMul (i j : Int) : Prop := (-(2 ^ 64) < i ∧ i < 2 ^ 64) ∨ (-(2 ^ 64) < j ∧ j < 2 ^ 64)
theorem CMul.ok {i j : Int} (h : CMul i j) : IntMulOk i j := by
  rcases h with ⟨h1, h2⟩ | ⟨h1, h2⟩
  · exact .of_left (intBits_le_64 h1 h2)
  · exact .of_right (intBits_le_64 h1 h2)
theorem op_add : OpR X (binaryOp .Add) (rI0 fun i j => .int (i + j)) := opI0 fun _ _ _ _ _ _ _ q => add_int q
theorem op_sub : OpR X (binaryOp .Sub) (rI0 fun i j => .int (i - j)) := opI0 fun _ _ _ _ _ _ _ q => sub_int q
theorem op_mul : OpR X (binaryOp .Mult) (rI CMul fun i j => .int (i * j)) := opI fun _ _ _ _ _ _ _ hc q => mul_int q hc.ok
/-- // by a positive divisor -/
theorem op_fdiv : OpR X (binaryOp .FloorDiv) (rI CDiv fun i j => .int (i / j)) := opI fun i j _ _ _ _ _ hc q => by
  have h1 : (0 : Int) < j := hc.1
  have h2 : j < 1073741824 := hc.2
  exact floordiv_int (by omega) (by rw [Int.fdiv_eq_ediv_of_nonneg i (by omega)]; exact q) (.inl (PyProof.noPylong_small (by omega)))
/-- % by a positive divisor of any size -/
theorem op_mod : OpR X (binaryOp .Mod) (rI (fun _ j => 0 < j) fun i j => .int (i % j)) := opI fun i j _ _ _ _ _ hc q => by
  have h1 : (0 : Int) < j := hc
  exact mod_int' (by omega) (by rw [Int.fmod_eq_emod_of_nonneg i (by omega)]; exact q)
theorem unI {f : Value → Sem Value} {g : Int → Int}
    (rule : ∀ (i : Int) (t : Tok) (s : Shared) (Q : Value → Shared → Prop) (E : Value → Shared → Prop), Q (.int (g i) s.toks) { s with toks := s.toks + 1 } → wpAny (model X.prog X.w) X.A (f (.int i t)) Q E s) :
    UnR X f (rU fun i => .int (g i)) := by
  intro pins s σ H x v Q I rx h
  obtain ⟨i, rfl, q⟩ := h
  obtain ⟨t, rfl⟩ := rx
  exact rule i t s _ _ ⟨.int (g i), H, I.tok _, ⟨_, rfl⟩, q⟩
theorem un_neg : UnR X (unaryOp .USub) (rU fun i => .int (-i)) := unI fun _ _ _ _ _ q => neg_int q
/-! ### bools among ints: n += (a < b) -/
end

/-! ### comparisons -/
/-- the scalars that == tells apart as data does -/
def scal : V → V → Bool
  | .non, .non => true | .non, .int _ => true | .int _, .non => true | .non, .bl _ => true | .bl _, .non => true | .non, .str _ => true | .str _, .non => true
  | .int _, .int _ => true | .bl _, .bl _ => true | .str _, .str _ => true | .byt _, .byt _ => true
  | .int _, .str _ => true | .str _, .int _ => true | .bl _, .str _ => true | .str _, .bl _ => true
  | _, _ => false
def rEq : R2 := fun x y H Q => scal x y = true ∧ Q (.bl (decide (x = y))) H
def rNe : R2 := fun x y H Q => scal x y = true ∧ Q (.bl (!decide (x = y))) H

theorem dec_int {i j : Int} : decide (V.int i = V.int j) = (i == j) := by
  rw [Bool.eq_iff_iff]
  simp
theorem dec_bl {i j : Bool} : decide (V.bl i = V.bl j) = (i == j) := by
  rw [Bool.eq_iff_iff]
  simp
theorem dec_str {i j : Str} : decide (V.str i = V.str j) = (i == j) := by
  rw [Bool.eq_iff_iff]
  simp
theorem dec_byt {i j : Array UInt8} : decide (V.byt i = V.byt j) = (i.toList == j.toList) := by
  rw [Bool.eq_iff_iff]
  cases i
  cases j
  simp

section
variable {X : Cx} {a b c : Expr} {ta tb tc : TE} {pos : Pos}
theorem fin_bl {pins : List (Addr × Obj)} {σ : St} {H : Hp} {s : Shared} {Q : VK} {k k' : Bool} (I : Inv X pins σ H s) (q : Q (.bl k) H) (e : k = k') : EP X pins σ Q (.bool k') s := by
  subst e
  exact ⟨.bl k, H, I, rfl, q⟩
theorem op_eq : OpR X (compareOp .Eq) rEq := by
  intro pins s σ H x y v u Q I rx ry h
  obtain ⟨hs, q⟩ := h
  cases x with
  | non =>
    cases rx
    cases y with
    | non => cases ry; exact PySem.EqNone.eq_none_none (fin_bl I q (by simp))
    | bl j => cases ry; exact PySem.EqNone.eq_none_bool (fin_bl I q (by simp))
    | int j => obtain ⟨t', rfl⟩ := ry; exact PySem.EqNone.eq_none_int (fin_bl I q (by simp))
    | str j => obtain ⟨t', rfl⟩ := ry; exact PySem.EqNone.eq_none_str (fin_bl I q (by simp))
    | _ => exact absurd (show false = true from hs) Bool.false_ne_true
  | bl i =>
    cases rx
    cases y with
    | non => cases ry; exact PySem.EqNone.eq_bool_none (fin_bl I q (by simp))
    | bl j => cases ry; exact eq_bool (fin_bl I q dec_bl)
    | str j => obtain ⟨t', rfl⟩ := ry; exact PySem.EqMixed.eq_bool_str (fin_bl I q (by simp))
    | _ => exact absurd (show false = true from hs) Bool.false_ne_true
  | int i =>
    obtain ⟨t, rfl⟩ := rx
    cases y with
    | non => cases ry; exact PySem.EqNone.eq_int_none (fin_bl I q (by simp))
    | int j => obtain ⟨t', rfl⟩ := ry; exact eq_int (fin_bl I q dec_int)
    | str j => obtain ⟨t', rfl⟩ := ry; exact PySem.EqMixed.eq_int_str (fin_bl I q (by simp))
    | _ => exact absurd (show false = true from hs) Bool.false_ne_true
  | str i =>
    obtain ⟨t, rfl⟩ := rx
    cases y with
    | non => cases ry; exact PySem.EqNone.eq_str_none (fin_bl I q (by simp))
    | bl j => cases ry; exact PySem.EqMixed.eq_str_bool (fin_bl I q (by simp))
    | int j => obtain ⟨t', rfl⟩ := ry; exact PySem.EqMixed.eq_str_int (fin_bl I q (by simp))
    | str j => obtain ⟨t', rfl⟩ := ry; exact eq_str (fin_bl I q dec_str)
    | _ => exact absurd (show false = true from hs) Bool.false_ne_true
  | byt i =>
    obtain ⟨t, rfl⟩ := rx
    cases y with
    | byt j => obtain ⟨t', rfl⟩ := ry; exact PySem.W.eq_bytes (fin_bl I q dec_byt)
    | _ => exact absurd (show false = true from hs) Bool.false_ne_true
  | _ => cases y <;> exact absurd (show false = true from hs) Bool.false_ne_true
theorem op_ne : OpR X (compareOp .NotEq) rNe := by
  intro pins s σ H x y v u Q I rx ry h
  obtain ⟨hs, q⟩ := h
  cases x with
  | non =>
    cases rx
    cases y with
    | non => cases ry; exact PySem.EqNone.ne_none_none (fin_bl I q (by simp))
    | bl j => cases ry; exact PySem.EqNone.ne_none_bool (fin_bl I q (by simp))
    | int j => obtain ⟨t', rfl⟩ := ry; exact PySem.EqNone.ne_none_int (fin_bl I q (by simp))
    | str j => obtain ⟨t', rfl⟩ := ry; exact PySem.EqNone.ne_none_str (fin_bl I q (by simp))
    | _ => exact absurd (show false = true from hs) Bool.false_ne_true
  | bl i =>
    cases rx
    cases y with
    | non => cases ry; exact PySem.EqNone.ne_bool_none (fin_bl I q (by simp))
    | bl j => cases ry; exact ne_bool (fin_bl I q (congrArg not dec_bl))
    | str j => obtain ⟨t', rfl⟩ := ry; exact PySem.EqMixed.ne_bool_str (fin_bl I q (by simp))
    | _ => exact absurd (show false = true from hs) Bool.false_ne_true
  | int i =>
    obtain ⟨t, rfl⟩ := rx
    cases y with
    | non => cases ry; exact PySem.EqNone.ne_int_none (fin_bl I q (by simp))
    | int j => obtain ⟨t', rfl⟩ := ry; exact ne_int (fin_bl I q (congrArg not dec_int))
    | str j => obtain ⟨t', rfl⟩ := ry; exact PySem.EqMixed.ne_int_str (fin_bl I q (by simp))
    | _ => exact absurd (show false = true from hs) Bool.false_ne_true
  | str i =>
    obtain ⟨t, rfl⟩ := rx
    cases y with
    | non => cases ry; exact PySem.EqNone.ne_str_none (fin_bl I q (by simp))
    | bl j => cases ry; exact PySem.EqMixed.ne_str_bool (fin_bl I q (by simp))
    | int j => obtain ⟨t', rfl⟩ := ry; exact PySem.EqMixed.ne_str_int (fin_bl I q (by simp))
    | str j => obtain ⟨t', rfl⟩ := ry; exact ne_str (fin_bl I q (congrArg not dec_str))
    | _ => exact absurd (show false = true from hs) Bool.false_ne_true
  | byt i =>
    obtain ⟨t, rfl⟩ := rx
    cases y with
    | byt j => obtain ⟨t', rfl⟩ := ry; exact PySem.W.ne_bytes (fin_bl I q (congrArg not dec_byt))
    | _ => exact absurd (show false = true from hs) Bool.false_ne_true
  | _ => cases y <;> exact absurd (show false = true from hs) Bool.false_ne_true

theorem op_lt : OpR X (compareOp .Lt) (rI0 fun i j => .bl (decide (i < j))) := opB0 fun _ _ _ _ _ _ _ q => lt_int q
theorem op_le : OpR X (compareOp .LtE) (rI0 fun i j => .bl (decide (i ≤ j))) := opB0 fun _ _ _ _ _ _ _ q => le_int q
theorem op_gt : OpR X (compareOp .Gt) (rI0 fun i j => .bl (decide (j < i))) := opB0 fun _ _ _ _ _ _ _ q => gt_int q
theorem op_lt_str : OpR X (compareOp .Lt) (fun x y H Q => ∃ i j, x = .str i ∧ y = .str j ∧ Q (.bl (decide (i.cps.toList < j.cps.toList))) H) := by
  intro pins s σ H x y v u Q I rx ry h
  obtain ⟨i, j, rfl, rfl, q⟩ := h
  obtain ⟨t, rfl⟩ := rx
  obtain ⟨t', rfl⟩ := ry
  exact lt_str (fin_bl I q rfl)
/-- is, is not of two objects that are tracked lists or instances -/
def isObj : HO → Bool
  | .lst _ => true
  | .ins _ _ _ => true
  | _ => false
/-- two rules for one operation: by cases -/
theorem OpR.or {f : Value → Value → Sem Value} {r r' : R2} (h : OpR X f r) (h' : OpR X f r') : OpR X f (fun x y H Q => r x y H Q ∨ r' x y H Q) := by
  intro pins s σ H x y v u Q I rx ry q
  rcases q with q | q
  · exact h pins s σ H x y v u Q I rx ry q
  · exact h' pins s σ H x y v u Q I rx ry q

theorem nomark (b : Expr) {op : CmpOp} (h : op ≠ .In := by decide) (h2 : op ≠ .NotIn := by decide) : behindInMarks op b = false := by
  have e1 : (op == CmpOp.In) = false := by cases op <;> first | rfl | exact absurd rfl h
  have e2 : (op == CmpOp.NotIn) = false := by cases op <;> first | rfl | exact absurd rfl h2
  cases b <;> simp [behindInMarks, e1, e2]
/-- a comparison as a value; hm: nomark b, or (for in, not in) by with_unfolding_all rfl -/
theorem pe_cmpR {op : CmpOp} {r : R2} (ho : OpR X (compareOp op) r) (ha : PE X a ta) (hb : PE X b tb) (hm : behindInMarks op b = false) : PE X (.Compare a [op] [b] pos) (tOp r ta tb) := by
  intro pins s σ H Q I h
  exact wpAny_Compare1 (binT ha hb I h fun v u s2 x y H2 I2 rx ry q => ho pins s2 σ H2 x y v u Q I2 rx ry q) hm
/-- a reading of a value as a test -/
def tTest (t : TE) : TT := fun σ H Q => t σ H fun x H' => ∃ k, x = .bl k ∧ Q k H'
theorem pt_cmpR {op : CmpOp} {r : R2} (ho : OpR X (compareOp op) r) (ha : PE X a ta) (hb : PE X b tb) (hm : behindInMarks op b = false) : PT X (.Compare a [op] [b] pos) (tTest (tOp r ta tb)) := by
  intro pins s σ H Q I h
  refine wpAny_isTrue_Compare1 (thn (ha pins s σ H _ I h) fun v s1 ⟨x, H1, I1, r1, q1⟩ => thn (hb pins s1 σ H1 _ I1 q1) fun u s2 ⟨y, H2, I2, r2, q2⟩ =>
    thn (ho pins s2 σ H2 x y v u _ I2 r1 r2 q2) fun c s3 ⟨z, H3, I3, r3, k, e, q3⟩ => ?_) hm
  subst e
  cases r3
  exact wpAny_truthy_bool ⟨H3, I3, q3⟩
/-- a op1 b op2 c -/
def tChain (r r' : R2) (ta tb tc : TE) : TE := fun σ H Q => ta σ H fun x H1 => tb σ H1 fun y H2 => r x y H2 fun z H3 => ∃ k, z = .bl k ∧
  (if k = true then tc σ H3 fun w' H4 => r' y w' H4 Q else Q (.bl false) H3)
theorem pe_chain {op op' : CmpOp} {r r' : R2} (ho : OpR X (compareOp op) r) (ho' : OpR X (compareOp op') r') (ha : PE X a ta) (hb : PE X b tb) (hc : PE X c tc)
    (hm : lastMarks [op, op'] [b, c] = false := by with_unfolding_all rfl) : PE X (.Compare a [op, op'] [b, c] pos) (tChain r r' ta tb tc) := by
  intro pins s σ H Q I h
  refine Compare_chain (thn (ha pins s σ H _ I h) fun v s1 ⟨x, H1, I1, r1, q1⟩ => chain_link (thn (hb pins s1 σ H1 _ I1 q1) fun u s2 ⟨y, H2, I2, r2, q2⟩ =>
    thn (ho pins s2 σ H2 x y v u _ I2 r1 r2 q2) fun d s3 ⟨z, H3, I3, r3, k, e, q3⟩ => ?_)) hm
  subst e
  cases r3
  refine wpAny_truthy_bool ?_
  cases k with
  | false => exact ite_ff ⟨.bl false, H3, I3, rfl, q3⟩
  | true => exact ite_tt (chain_last (thn (hc pins s3 σ H3 _ I3 q3) fun w' s4 ⟨z', H4, I4, r4, q4⟩ => ho' pins s4 σ H4 y z' u w' Q I4 r2 r4 q4))
/-! ### truth -/
/-- a value's truth by the abstract heap -/
def TruV (K : PySem.W.Frag) (x : V) (H : Hp) (k : Bool) : Prop :=
  match x with
  | .non => k = false
  | .bl b => k = b
  | .int i => k = (i != 0)
  | .str y => y.length ≤ sizeLine ∧ k = ((y.length : Int) != 0)
  | .byt y => y.size ≤ sizeLine ∧ k = ((y.size : Int) != 0)
  | .ref p => (∃ xs, SqL K H p xs ∧ k = !xs.isEmpty) ∨ (∃ xs, SqT K H p xs ∧ k = !xs.isEmpty) ∨ ∃ kvs, H p = some (.dK kvs) ∧ k = !kvs.isEmpty
  | _ => False
theorem line63 : (sizeLine : Nat) < 2 ^ 63 := by rw [sizeLine_eq]; decide
/-! ### strs and bytes -/
theorem op_add_str : OpR X (binaryOp .Add) (fun x y H Q => ∃ i j, x = .str i ∧ y = .str j ∧ i.length + j.length ≤ sizeLine ∧ Q (.str (i ++ j)) H) := by
  intro pins s σ H x y v u Q I rx ry h
  obtain ⟨i, j, rfl, rfl, hz, q⟩ := h
  obtain ⟨t, rfl⟩ := rx
  obtain ⟨t', rfl⟩ := ry
  exact add_str (fun t' tk => ⟨.str (i ++ j), H, I.tok _, ⟨_, rfl⟩, q⟩) hz
def PlainIxT (b : Expr) : Prop := ∀ o i, subscripted b false o i = operate [o, i] (getItem o i)
/-! ### scalar builtins, by CallR -/
theorem vals1 {x : V} {us : List Value} (r : Vals [x] us) : ∃ u, us = [u] ∧ RelV x u := by
  cases r with
  | cons r1 r2 => cases r2; exact ⟨_, rfl, r1⟩
theorem vals2 {x y : V} {us : List Value} (r : Vals [x, y] us) : ∃ u w', us = [u, w'] ∧ RelV x u ∧ RelV y w' := by
  cases r with
  | cons r1 r2 =>
    cases r2 with
    | cons r3 r4 => cases r4; exact ⟨_, _, rfl, r1, r3⟩
theorem call_max2 (hc : X.calm = true) : CallR X (.builtin "max") (fun xs H Q => ∃ i j, xs = [.int i, .int j] ∧ Q (.int (if j > i then j else i)) H) := by
  intro pins s σ H xs us Q I r h
  obtain ⟨i, j, rfl, q⟩ := h
  obtain ⟨u, w', rfl, ⟨t, rfl⟩, ⟨t', rfl⟩⟩ := vals2 r
  refine max_two_ints (I.ok.hd hc) fun h' tk k => ⟨_, H, I.kept k, ?_, q⟩
  by_cases hj : j > i
  · rw [if_pos hj, if_pos hj]; exact ⟨_, rfl⟩
  · rw [if_neg hj, if_neg hj]; exact ⟨_, rfl⟩
theorem call_min2 (hc : X.calm = true) : CallR X (.builtin "min") (fun xs H Q => ∃ i j, xs = [.int i, .int j] ∧ Q (.int (if j < i then j else i)) H) := by
  intro pins s σ H xs us Q I r h
  obtain ⟨i, j, rfl, q⟩ := h
  obtain ⟨u, w', rfl, ⟨t, rfl⟩, ⟨t', rfl⟩⟩ := vals2 r
  refine min_two_ints (I.ok.hd hc) fun h' tk k => ⟨_, H, I.kept k, ?_, q⟩
  by_cases hj : j < i
  · rw [if_pos hj, if_pos hj]; exact ⟨_, rfl⟩
  · rw [if_neg hj, if_neg hj]; exact ⟨_, rfl⟩
theorem call_int1 : CallR X (.type "int") (fun xs H Q => (∃ i, xs = [.int i] ∧ Q (.int i) H) ∨ ∃ k, xs = [.bl k] ∧ Q (.int (if k then 1 else 0)) H) := by
  intro pins s σ H xs us Q I r h
  rcases h with ⟨i, rfl, q⟩ | ⟨k, rfl, q⟩
  · obtain ⟨u, rfl, t, rfl⟩ := vals1 r
    exact call_int_int ⟨.int i, H, I, ⟨_, rfl⟩, q⟩
  · obtain ⟨u, rfl, r1⟩ := vals1 r
    cases r1
    exact call_int_bool ⟨.int (if k then 1 else 0), H, I.tok _, ⟨_, rfl⟩, q⟩
theorem call_str_int : CallR X (.type "str") (fun xs H Q => ∃ i, xs = [.int i] ∧ i.natAbs.log2 < 1920 ∧ Q (.str (toString i)) H) := by
  intro pins s σ H xs us Q I r h
  obtain ⟨i, rfl, hz, q⟩ := h
  obtain ⟨u, rfl, t, rfl⟩ := vals1 r
  exact PySem.P.str_of_int hz ⟨.str _, H, I.tok _, ⟨_, rfl⟩, q⟩
/-- len of a str, a bytes, a list, a tuple -/
def LenV (K : PySem.W.Frag) (x : V) (H : Hp) (n : Nat) : Prop :=
  match x with
  | .str y => y.length ≤ sizeLine ∧ n = y.length
  | .byt y => y.size ≤ sizeLine ∧ n = y.size
  | .ref p => (∃ xs, SqL K H p xs ∧ n = xs.length) ∨ ∃ xs, SqT K H p xs ∧ n = xs.length
  | _ => False
end
end L2

namespace L2
open PySem PySem.Spec PyProof.Rows

/-! ### an instance, its attributes a map -/
structure ObjM (h : Heap) (x dx C : Addr) (mA : Str → Option Value) : Prop where
  obj : h.get? x = some (PySem.W.instObj C dx)
  ns : h.Ns1 dx mA
  ne : dx ≠ x

theorem lookIn_ns {h : Heap} {dx : Addr} {mA : Str → Option Value} (n : h.Ns1 dx mA) : ∃ od, h.get? dx = some od ∧ ∀ name, PySem.W.lookIn name od = some (mA name) := by
  obtain ⟨o, es, ep, ho, hd, hk, _, hm⟩ := n
  refine ⟨o, ho, fun name => ?_⟩
  have e := hm name
  unfold nsFind findBy at e
  rw [← Array.find?_toList] at e
  unfold PySem.W.lookIn
  rw [hd]
  dsimp only
  split
  · rename_i y q
    rw [q] at e
    exact congrArg some e
  · rename_i q
    rw [q] at e
    have a : es.toList.any (·.refKey) = false := by
      rw [List.any_eq_false]
      intro y hy
      obtain ⟨z, t, hkey⟩ := hk y (Array.mem_toList_iff.mp hy)
      simp [DictEntry.refKey, hkey]
    have a' : ¬ es.toList.any (·.refKey) = true := by rw [a]; exact Bool.false_ne_true
    rw [if_neg a']
    exact congrArg some e

theorem ObjM.look {h : Heap} {x dx C : Addr} {mA : Str → Option Value} (I : ObjM h x dx C mA) : ∃ od, PySem.W.InstAt h x (PySem.W.instObj C dx) C (some od) ∧ ∀ name, PySem.W.lookIn name od = some (mA name) :=
  let ⟨od, ho, hl⟩ := lookIn_ns I.ns
  ⟨od, ⟨I.obj, rfl, rfl, ho⟩, hl⟩

section
variable {prog : Program} {w : World} {A : Around} {E : Value → Shared → Prop} {s : Shared} {K : PySem.W.Frag} {x dx C f : Addr} {mA : Str → Option Value} {name : Str} {v : Value}

end

/-! ### the attributes as a list of pairs -/
def putF (f : Str) (v : V) : List (Str × V) → List (Str × V)
  | [] => [(f, v)]
  | (g, x) :: r => if g = f then (g, v) :: r else (g, x) :: putF f v r
theorem RelO.some_of {v : V} {o : Option Value} (r : RelO (some v) o) : ∃ u, o = some u ∧ RelV v u := by
  cases o with
  | none => exact (show False from r).elim
  | some u => exact ⟨u, rfl, r⟩
section
variable {P : Program} {w : World} {H H' : Hp} {h h' : Heap} {a C dx : Addr} {fs fs' : List (Str × V)}
theorem ins_get (hok : HOk P w H h) (e : H a = some (.ins C dx fs)) : ∃ mA, ObjM h a dx C mA ∧ (∀ f, RelO (fs.lookup f) (mA f)) ∧ PySem.Within mA (fs.map (·.1)) ∧ fs.length ≤ 1000 ∧ H dx = some (.own a) := by
  obtain ⟨d, z, ne, ob, mA, n, r, q⟩ := (show ObjOk P w H h a (.ins C dx fs) from hok a _ e)
  exact ⟨mA, ⟨ob, n, ne⟩, r, q, z, d⟩
end

/-! ### what of the text a class must have -/
structure Cls (K : PySem.W.Frag) (C : Addr) : Prop where
  pg : PySem.W.plainGet K C Str.empty = true
  hd : PySem.W.hasDictIn K C = true
  po : PySem.W.plainOver K C = true
  sa : PySem.W.findIn K (.ref C) "__setattr__" = some (some (.builtin "object.__setattr__"))
theorem Cls.get {K : PySem.W.Frag} {C : Addr} (c : Cls K C) (f : Str) : PySem.W.plainGet K C f = true := c.pg
/-- no class of it has the name -/
def NoAttr (K : PySem.W.Frag) (C : Addr) (f : Str) : Prop := PySem.W.findIn K (.ref C) f = some none
/-- a constant of the class -/
structure Con (K : PySem.W.Frag) (C : Addr) (f : Str) (v : V) (u : Value) : Prop where
  at_ : PySem.W.findIn K (.ref C) f = some (some u)
  rel : RelV v u
  get : PySem.W.specialIn K u "__get__" = some none
  cp : PySem.W.copiedNames.contains f = false
/-- a method: a plain def of the class or of one above it -/
structure Meth (K : PySem.W.Frag) (C : Addr) (m : Str) (f : Addr) : Prop where
  at_ : PySem.W.findIn K (.ref C) m = some (some (.ref f))
  fn : PySem.W.isFn K (.ref f) = true
  kp : PySem.W.keepIn K (.ref f) = true

section
variable {X : Cx} {pins : List (Addr × Obj)} {σ : St} {H : Hp} {s : Shared} {a C dx : Addr} {fs : List (Str × V)} {f : Str} {v : V} {A : Around} {E : Value → Shared → Prop}

/-- a new instance, tracked, without attributes -/
theorem Inv.made (I : Inv X pins σ H s) : Inv X pins σ (upd (upd H s.heap.objs.size (.own (s.heap.objs.size + 1))) (s.heap.objs.size + 1) (.ins C s.heap.objs.size []))
    { s with heap := (s.heap.push PySem.W.emptyDict).push (PySem.W.instObj C s.heap.objs.size) } := by
  have e1 : (s.heap.push PySem.W.emptyDict).get? s.heap.objs.size = some PySem.W.emptyDict := Heap.get?_push_size s.heap rfl
  have e2 : ((s.heap.push PySem.W.emptyDict).push (PySem.W.instObj C s.heap.objs.size)).get? (s.heap.objs.size + 1) = some (PySem.W.instObj C s.heap.objs.size) := by
    have := Heap.get?_push_size (s.heap.push PySem.W.emptyDict) (o := PySem.W.instObj C s.heap.objs.size) rfl
    rwa [Heap.size_push] at this
  have e3 : (s.heap.push PySem.W.emptyDict).Ns s.heap.objs.size (fun _ => none) := ⟨PySem.W.emptyDict, #[], _, e1, rfl, (fun e he => absurd he (by simp)), fun _ => rfl⟩
  have I1 := I.laid (a := s.heap.objs.size) (o := .own (s.heap.objs.size + 1)) (h' := s.heap.push PySem.W.emptyDict) (t' := s.toks) (fun b u q => Heap.get?_push_of_some _ q) (Nat.le_refl _) ⟨_, e1⟩
  refine I1.laid (a := s.heap.objs.size + 1) (o := .ins C s.heap.objs.size []) (t' := s.toks) (fun b u q => Heap.get?_push_of_some _ q) (Nat.le_of_eq (Heap.size_push _ _)) ?_
  have ne : s.heap.objs.size ≠ s.heap.objs.size + 1 := Nat.ne_of_lt (Nat.lt_succ_self _)
  refine ⟨by rw [upd_ne ne, upd_same], Nat.zero_le _, ne, e2, fun _ => none, (Heap.Ns1.of_empty e3).at fun o q => Heap.get?_push_of_some _ q, fun _ => True.intro, fun y hy => absurd rfl hy⟩

end

/-! ### readings and rules -/
/-- e.f, an attribute of the instance -/
def tFld (K : PySem.W.Frag) (ta : TE) (f : Str) : TE := fun σ H Q => ta σ H fun x H1 => ∃ a C dx fs v, x = .ref a ∧ H1 a = some (.ins C dx fs) ∧ Cls K C ∧ NoAttr K C f ∧ fs.lookup f = some v ∧ Q v H1
/-- e.f, a constant of the class -/
def tCon (K : PySem.W.Frag) (ta : TE) (f : Str) : TE := fun σ H Q => ta σ H fun x H1 => ∃ a C dx fs v u, x = .ref a ∧ H1 a = some (.ins C dx fs) ∧ Cls K C ∧ Con K C f v u ∧ fs.lookup f = none ∧ Q v H1
/-- e.f = value -/
def sFld (K : PySem.W.Frag) (ta tv : TE) (f : Str) : TS := fun D σ H => tv σ H fun y H1 => ta σ H1 fun x H2 => ∃ a C dx fs, x = .ref a ∧ H2 a = some (.ins C dx fs) ∧ Cls K C ∧ NoAttr K C f ∧ fs.length < 1000 ∧
  D.nx σ (upd H2 a (.ins C dx (putF f y fs)))
/-- an augmented operator on two values -/
def InOp (X : Cx) (op : Operator) (rd : V → V → Hp → VK → Prop) : Prop :=
  ∀ (pins : List (Addr × Obj)) (s : Shared) (σ : St) (H : Hp) (x y : V) (u v : Value) (Q : VK), Inv X pins σ H s → RelV x u → RelV y v → rd x y H Q → wpAny (model X.prog X.w) X.A (inplaceOp op u v) (EP X pins σ Q) X.xe s
/-- e.f op= value -/
def sFldAug (K : PySem.W.Frag) (ta tv : TE) (rd : V → V → Hp → VK → Prop) (f : Str) : TS := fun D σ H => ta σ H fun x H1 => ∃ a C dx fs v, x = .ref a ∧ H1 a = some (.ins C dx fs) ∧ Cls K C ∧ NoAttr K C f ∧ fs.lookup f = some v ∧
  tv σ H1 fun y H2 => rd v y H2 fun z H3 => ∃ dx' fs', H3 a = some (.ins C dx' fs') ∧ fs'.length < 1000 ∧ D.nx σ (upd H3 a (.ins C dx' (putF f z fs')))

section
variable {X : Cx} {o e value : Expr} {f : Str} {pos pos' tpos : Pos} {ta tv : TE}
def rAdd : V → V → Hp → VK → Prop := fun x y H Q => ∃ i j, x = .int i ∧ y = .int j ∧ Q (.int (i + j)) H
def rSub : V → V → Hp → VK → Prop := fun x y H Q => ∃ i j, x = .int i ∧ y = .int j ∧ Q (.int (i - j)) H
end

/-! ### isinstance -/
section
variable {X : Cx} {pins : List (Addr × Obj)} {σ : St} {H : Hp} {s : Shared} {A : Around} {E : Value → Shared → Prop} {Q : Value → Shared → Prop} {c : Value} {b : Bool}
/-- the type of a value, as the fragment's deciders take it; for an instance its class -/
inductive TyOf (K : PySem.W.Frag) (H : Hp) : V → Value → Prop where
  | non : TyOf K H .non (.type "NoneType")
  | bl (x : Bool) : TyOf K H (.bl x) (.type "bool")
  | int (i : Int) : TyOf K H (.int i) (.type "int")
  | str (x : Str) : TyOf K H (.str x) (.type "str")
  | flt (x : UInt64) : TyOf K H (.flt x) (.type "float")
  | lst {a : Addr} {xs : List V} (e : H a = some (.lst xs)) : TyOf K H (.ref a) (.type "list")
  | frz {a : Addr} {o : Obj} {xs : List V} (e : H a = some (.frz o (.lst xs))) : TyOf K H (.ref a) (.type "list")
  | tup {a : Addr} {xs : List V} (e : H a = some (.tup xs)) : TyOf K H (.ref a) (.type "tuple")
  | dK {a : Addr} {kvs : List (Key × V)} (e : H a = some (.dK kvs)) : TyOf K H (.ref a) (.type "dict")
  | dT {a : Addr} {kvs : List (List Key × V)} (e : H a = some (.dT kvs)) : TyOf K H (.ref a) (.type "dict")
  | ins {a C dx : Addr} {fs : List (Str × V)} (e : H a = some (.ins C dx fs)) (cl : Cls K C) (ha : PySem.W.findIn K (.ref C) "__class__" = some (some (.builtin "object.__class__")))
      (hn : PySem.W.specialIn K (.builtin "object.__class__") "__get__" = some (some (.builtin "getset_descriptor.__get__"))) (htk : PySem.W.takesIn K (.builtin "object.__class__") = some true)
      (hm : PySem.W.mroIn K C (.type "object") = some true) : TyOf K H (.ref a) (.ref C)
/-- isinstance(x, c) for one class c, a built-in or an own one: kitOne's answer -/
theorem isinst_ok {x : V} {u t : Value} (I : Inv X pins σ H s) (rx : RelV x u) (ty : TyOf X.K H x t) (e : PySem.W.kitOne X.K t c = some b) (h : ∀ tk, Q (.bool b) { s with toks := tk }) :
    wpAny (model X.prog X.w) A (call (.builtin "isinstance") [u, c]) Q E s := by
  cases ty with
  | non => cases (show u = Value.none from rx); exact PySem.W.kia_one PySem.W.kitx_none I.kIn True.intro e (fun z => nomatch z) h
  | bl y => cases (show u = Value.bool y from rx); exact PySem.W.kia_one PySem.W.kitx_bool I.kIn True.intro e (fun z => nomatch z) h
  | int i => obtain ⟨t, q⟩ := (show ∃ t, u = Value.int i t from rx); cases q; exact PySem.W.kia_one PySem.W.kitx_int I.kIn True.intro e (fun z => nomatch z) h
  | str y => obtain ⟨t, q⟩ := (show ∃ t, u = Value.str y t from rx); cases q; exact PySem.W.kia_one PySem.W.kitx_str I.kIn True.intro e (fun z => nomatch z) h
  | flt y => obtain ⟨t, q⟩ := (show ∃ t, u = Value.float y t from rx); cases q; exact PySem.W.kia_one PySem.W.kitx_float I.kIn True.intro e (fun z => nomatch z) h
  | @lst a xs ea =>
    cases (show u = Value.ref a from rx)
    obtain ⟨_, _, n, _, h1⟩ := (show ObjOk X.prog X.w H s.heap a (.lst xs) from I.hok a _ ea)
    exact PySem.W.kia_one PySem.W.kitx_list I.kIn ⟨_, h1, rfl⟩ e (fun z => nomatch z) h
  | @frz a ob xs ea =>
    cases (show u = Value.ref a from rx)
    obtain ⟨_, _, _, n, _, h1⟩ := (show ObjOk X.prog X.w H s.heap a (.frz ob (.lst xs)) from I.hok a _ ea)
    exact PySem.W.kia_one PySem.W.kitx_list I.kIn ⟨_, h1, rfl⟩ e (fun z => nomatch z) h
  | @tup a xs ea =>
    cases (show u = Value.ref a from rx)
    obtain ⟨_, _, _, p⟩ := (show ObjOk X.prog X.w H s.heap a (.tup xs) from I.hok a _ ea)
    obtain ⟨o, h1, h2, _⟩ := p
    exact PySem.W.kia_one PySem.W.kitx_tuple I.kIn ⟨o, h1, h2⟩ e (fun z => nomatch z) h
  | @dK a kvs ea =>
    cases (show u = Value.ref a from rx)
    obtain ⟨_, _, vs, _, p⟩ := (show ObjOk X.prog X.w H s.heap a (.dK kvs) from I.hok a _ ea)
    obtain ⟨o, es, ep, h1, h2, _⟩ := p
    exact PySem.W.kia_one PySem.W.kitx_dict I.kIn ⟨o, h1, h2.1⟩ e (fun z => nomatch z) h
  | @dT a kvs ea =>
    cases (show u = Value.ref a from rx)
    obtain ⟨_, _, xs, _, o, es, ep, h1, h2, _⟩ := (show ObjOk X.prog X.w H s.heap a (.dT kvs) from I.hok a _ ea)
    exact PySem.W.kia_one PySem.W.kitx_dict I.kIn ⟨o, h1, h2.1⟩ e (fun z => nomatch z) h
  | @ins a C dx fs ea cl ha hn htk hm =>
    cases (show u = Value.ref a from rx)
    obtain ⟨mA, O, _⟩ := ins_get I.hok ea
    obtain ⟨od, J, _⟩ := O.look
    exact PySem.W.kia_one (PySem.W.kitx_own (cl.get _) cl.hd ha hn htk hm) I.kIn J e (fun z => nomatch z) h
end
end L2

namespace L2
open PySem PySem.Spec PyProof.Rows

/-! ### room -/
structure Room (k : Nat) (A : Around) : Prop where
  hd : A.handled = none
  dp : A.depth + 3 * k + 5 < recursionLimit
  un : A.units + 16 * k + 200 < cLine
  gd : A.guards = some []
theorem Room.mono {j k : Nat} {A : Around} (r : Room k A) (h : j ≤ k) : Room j A := ⟨r.hd, by have := r.dp; omega, by have := r.un; omega, r.gd⟩
theorem Room.deeper {k : Nat} {A : Around} (r : Room (k + 1) A) (env : Env) : Room k (A.deeper env) :=
  ⟨r.hd, by have := r.dp; show A.depth + 1 + 3 * k + 5 < _; omega, by have := r.un; show A.units + 3 + 16 * k + 200 < _; omega, r.gd⟩
theorem Room.in1 {k : Nat} {A : Around} (r : Room (k + 1) A) : Room k A.in1 :=
  ⟨r.hd, by have := r.dp; show A.depth + 3 * k + 5 < _; omega, by have := r.un; show A.units + 1 + 16 * k + 200 < _; omega, r.gd⟩
theorem make_depth {A : Around} {C : Addr} {us : List Value} {kw : List (Str × Value)} : (A.under (.builtin "type.__call__" ⟨.ref C :: us, kw⟩)).depth = A.depth + 1 := by
  first | rfl | simp [Around.under, Code.weight, Code.isCreation, Code.isGuard, Code.isCaller, Code.frames, Code.isFrame, guardIds]
theorem make_units {A : Around} {C : Addr} {us : List Value} {kw : List (Str × Value)} : (A.under (.builtin "type.__call__" ⟨.ref C :: us, kw⟩)).units = A.units + 1 := by
  first | rfl | simp [Around.under, Code.cUnits, Code.frames, Code.isFrame]
theorem make_gd {A : Around} {C : Addr} {us : List Value} {kw : List (Str × Value)} (hA : A.guards = some []) : (A.under (.builtin "type.__call__" ⟨.ref C :: us, kw⟩)).guards = some [] := by
  have h : (Code.builtin "type.__call__" ⟨.ref C :: us, kw⟩).isGuard = false := by
    first | rfl | decide | simp [Code.isGuard, guardIds]
  simp [Around.under, Code.guards, h, hA, pushGuards]
theorem Room.make {k : Nat} {A : Around} (r : Room (k + 1) A) (C : Addr) (us : List Value) (kw : List (Str × Value)) : Room k (A.under (.builtin "type.__call__" ⟨.ref C :: us, kw⟩)) :=
  ⟨r.hd, by have := r.dp; rw [make_depth]; omega, by have := r.un; rw [make_units]; omega, make_gd r.gd⟩
theorem Room.depth {k : Nat} {A : Around} (r : Room k A) : A.depth < recursionLimit := by have := r.dp; omega
theorem Room.units {k : Nat} {A : Around} (r : Room k A) : A.units + 64 < cLine := by have := r.un; omega
theorem Room.units0 {k : Nat} {A : Around} (r : Room k A) : A.units < cLine := by have := r.un; omega

/-! ### argument lists and displays -/
def tNil : TA := fun _ H Q => Q [] H
def tCons (ta : TE) (tr : TA) : TA := fun σ H Q => ta σ H fun x H1 => tr σ H1 fun xs H2 => Q (x :: xs) H2
section
variable {X : Cx} {e : Expr} {es : List Expr} {te : TE} {t : TA} {pos : Pos}
theorem pa_nil : PA X [] tNil := fun _ _ _ _ H Q I h => Calls.spliced_nil ⟨[], H, I, .nil, h⟩
theorem pa_cons (ha : PE X e te) (hr : PA X es t) (hs : starEach (e :: es) X.env = (false, eval e X.env) :: starEach es X.env := by rfl) : PA X (e :: es) (tCons te t) := by
  intro pos pins s σ H Q I h
  rw [hs]
  show wpAny _ _ (spliced ((false, eval e X.env) :: backTo pos (starEach es X.env))) _ _ s
  refine Calls.spliced_cons (thn (ha pins s σ H _ I h) fun u s1 ⟨x, H1, I1, r1, q1⟩ => ?_)
  exact thn (hr pos pins s1 σ H1 _ I1 q1) fun us s2 ⟨xs, H2, I2, r2, q2⟩ => ⟨x :: xs, H2, I2, .cons r1 r2, q2⟩

/-- a tuple, a list of written items -/
def tTup (t : TA) : TE := fun σ H Q => t σ H fun xs H1 => xs.length ≤ sizeLine ∧ ∀ p, H1 p = none → Q (.ref p) (upd H1 p (.tup xs))
def tLst (t : TA) : TE := fun σ H Q => t σ H fun xs H1 => xs.length ≤ sizeLine ∧ ∀ p, H1 p = none → Q (.ref p) (upd H1 p (.lst xs))
theorem pe_tup {x1} (h : PA X es t) : PE X (.Tuple es x1 pos) (tTup t) := by
  intro pins s σ H Q I hq
  refine wpAny_Tuple_spliced (thn (h pos pins s σ H _ I hq) fun us s1 ⟨xs, H1, I1, r, z, q⟩ => ⟨by rw [← r.length]; exact z, ?_⟩)
  have hf : H1 s1.heap.objs.size = none := I1.hok.fresh (Nat.le_refl _)
  refine ⟨.ref s1.heap.objs.size, upd H1 s1.heap.objs.size (.tup xs), I1.laid (t' := s1.toks) (fun b u e => Heap.get?_push_of_some _ e) (Nat.le_refl _) ?_, rfl, q _ hf⟩
  exact ⟨z, us, r, ⟨_, Heap.get?_push_size _ rfl, rfl, _, rfl⟩⟩
theorem pe_lst (h : PA X es t) : PE X (.List es pos) (tLst t) := by
  intro pins s σ H Q I hq
  refine wpAny_List_spliced (thn (h pos pins s σ H _ I hq) fun us s1 ⟨xs, H1, I1, r, z, q⟩ => ⟨by rw [← r.length]; exact z, ?_⟩)
  have hf : H1 s1.heap.objs.size = none := I1.hok.fresh (Nat.le_refl _)
  refine ⟨.ref s1.heap.objs.size, upd H1 s1.heap.objs.size (.lst xs), I1.laid (t' := s1.toks) (fun b u e => Heap.get?_push_of_some _ e) (Nat.le_refl _) ?_, rfl, q _ hf⟩
  exact ⟨z, us, 0, r, Heap.get?_push_size _ rfl⟩
end

/-! ### what a def promises -/
/-- a def's promise: the bound arguments in the parameters' order, the heap, the wanted end, the wanted exception -/
abbrev Sp := List V → Hp → VK → XK → Prop
/-- how an exception lies behind a call (file 08 gives it): the callers' frames, abstract heap and state ahead of the call, the wish, the exception, the state -/
abbrev CXT := List Env → Hp → Shared → XK → Value → Shared → Prop

/-- the state at a call -/
structure Env0 (P : Program) (w : World) (K : PySem.W.Frag) (mg : Str → Option Value) (base : Heap) (A : Around) (outer : List Env) (s : Shared) (H : Hp) : Prop where
  frames : A.frames = some outer
  mod : Mod K mg base
  bs : ∀ b o, base.get? b = some o → s.heap.get? b = some o ∧ H b = none
  bsz : base.objs.size ≤ s.heap.objs.size
  funs : s.heap.FunFrames base outer
  frf : ∀ b ∈ frs outer, H b = none
  hok : HOk P w H s.heap
  bare : AllBare s.gens
/-- a call's end -/
def CE (outer : List Env) (P : Program) (w : World) (H : Hp) (s : Shared) (Q : VK) (u : Value) (s' : Shared) : Prop :=
  ∃ v H', s'.os = s.os ∧ AllBare s'.gens ∧ Un (frs outer) [] H H' s.heap s'.heap ∧ HOk P w H' s'.heap ∧ RelV v u ∧ Q v H'
def CR (CX : CXT) (outer : List Env) (P : Program) (w : World) (H : Hp) (s : Shared) (Q : VK) (E : XK) (r : Result) (s' : Shared) : Prop :=
  match r with
  | .ok (.ret u) => CE outer P w H s Q u s'
  | .ok _ => False
  | .error e => CX outer H s E e s'
structure FnOk (P : Program) (w : World) (K : PySem.W.Frag) (mg : Str → Option Value) (base : Heap) (CX : CXT) (k : Nat) (f : Addr) (fd : FuncData) (ps : List Str) (sp : Sp) : Prop where
  len : ∀ vs H Q E, sp vs H Q E → vs.length = ps.length
  run : ∀ (A : Around) (outer : List Env) (s : Shared) (H : Hp) (args : Args) (us : List Value) (vs : List V) (Q : VK) (E : XK), Room k A → Env0 P w K mg base A outer s H → BindsTo s fd args (ps.zip us) → Vals vs us → sp vs H Q E →
    codeAny (model P w) A (.call (.ref f) args) (CR CX outer P w H s Q E) s
theorem FnOk.mono {P : Program} {w : World} {K : PySem.W.Frag} {mg : Str → Option Value} {base : Heap} {CX : CXT} {j k : Nat} {f : Addr} {fd : FuncData} {ps : List Str} {sp : Sp} (F : FnOk P w K mg base CX j f fd ps sp) (h : j ≤ k) :
    FnOk P w K mg base CX k f fd ps sp := ⟨F.len, fun A outer s H args us vs Q E hr => F.run A outer s H args us vs Q E (hr.mono h)⟩
/-- a weaker promise -/
theorem FnOk.imp {P : Program} {w : World} {K : PySem.W.Frag} {mg : Str → Option Value} {base : Heap} {CX : CXT} {k : Nat} {f : Addr} {fd : FuncData} {ps : List Str} {sp sp' : Sp} (F : FnOk P w K mg base CX k f fd ps sp)
    (h : ∀ vs H Q E, sp' vs H Q E → sp vs H Q E) : FnOk P w K mg base CX k f fd ps sp' :=
  ⟨fun vs H Q E q => F.len vs H Q E (h _ _ _ _ q), fun A outer s H args us vs Q E hr he hb hv hs => F.run A outer s H args us vs Q E hr he hb hv (h _ _ _ _ hs)⟩

theorem Env0.make {P : Program} {w : World} {K : PySem.W.Frag} {mg : Str → Option Value} {base : Heap} {A : Around} {outer : List Env} {s : Shared} {H : Hp} (e : Env0 P w K mg base A outer s H) (C : Addr) (us : List Value) (kw : List (Str × Value)) :
    Env0 P w K mg base (A.under (.builtin "type.__call__" ⟨.ref C :: us, kw⟩)) outer s H := ⟨by first | exact e.frames | (simpa [Around.under, Code.envs, Code.isFrame, pushEnvs] using e.frames), e.mod, e.bs, e.bsz, e.funs, e.frf, e.hok, e.bare⟩
theorem Env0.in1 {P : Program} {w : World} {K : PySem.W.Frag} {mg : Str → Option Value} {base : Heap} {A : Around} {outer : List Env} {s : Shared} {H : Hp} (e : Env0 P w K mg base A outer s H) :
    Env0 P w K mg base A.in1 outer s H := ⟨e.frames, e.mod, e.bs, e.bsz, e.funs, e.frf, e.hok, e.bare⟩

section
variable {X : Cx} {pins : List (Addr × Obj)} {σ : St} {H : Hp} {s s' : Shared}
/-- from a body: what a callee wants -/
theorem Inv.env0 (I : Inv X pins σ H s) : Env0 X.prog X.w X.K X.mg X.base X.A X.stack s H :=
  ⟨I.ok.frames, I.ok.mod, I.bs, Nat.le_trans I.ok.bsz I.sz, I.stack, I.stkFree, I.hok, I.bare⟩
/-- behind a call -/
theorem Inv.after {Q : VK} {u : Value} (I : Inv X pins σ H s) (h : CE X.stack X.prog X.w H s Q u s') : EP X pins σ Q u s' := by
  obtain ⟨v, H', os, bare, un, hok, r, q⟩ := h
  obtain ⟨hh, g, d, t, os'⟩ := s'
  obtain rfl : os' = s.os := os
  exact ⟨v, H', I.call (h' := hh) (g' := g) (d' := d) (t' := t) (ch := []) un hok bare (fun b z => absurd z (by simp)), r, q⟩
end

/-! ### calls -/
/-- f(..): the written arguments, then the defaults dvs; E: what is wanted of an exception -/
def tCall (sp : Sp) (dvs : List V) (E : XK) (t : TA) : TE := fun σ H Q => t σ H fun vs H1 => sp (vs ++ dvs) H1 Q E
/-- o.m(..) of an instance of the class at C -/
def tMeth (C : Addr) (m : Str) (sp : Sp) (dvs : List V) (E : XK) (ta : TE) (t : TA) : TE := fun σ H Q => ta σ H fun x H1 => ∃ a dx fs, x = .ref a ∧ H1 a = some (.ins C dx fs) ∧ fs.lookup m = none ∧
  t σ H1 fun vs H2 => sp (x :: (vs ++ dvs)) H2 Q E
/-- C(..): a new instance and its dict, then __init__ -/
def tMake (C : Addr) (sp : Sp) (dvs : List V) (E : XK) (t : TA) : TE := fun σ H Q => t σ H fun vs H1 => ∀ x dx, H1 x = none → H1 dx = none → dx ≠ x →
  sp (.ref x :: (vs ++ dvs)) (upd (upd H1 dx (.own x)) x (.ins C dx [])) (fun v H2 => v = .non ∧ Q (.ref x) H2) E

/-- how the parameters are bound: us the positional arguments, kw the keywords' values by name, ds the defaults that fill up -/
def Binds (K : PySem.W.Frag) (fd : FuncData) (ps : List Str) (ds : List Value) : Prop :=
  ∀ (s : Shared) (us : List Value), K.In s.heap → (us ++ ds).length = ps.length → BindsTo s fd ⟨us, []⟩ (ps.zip (us ++ ds))
/-- every parameter is given -/
theorem Binds.all {K : PySem.W.Frag} {fd : FuncData} {ps : List Str} (h : ∀ us : List Value, us.length = ps.length → bindArgs fd ⟨us, []⟩ = pure (ps.zip us)) : Binds K fd ps [] := fun s us _ hl => by
  rw [List.append_nil] at hl ⊢
  exact .of_eq (h us hl)

/-- an exception of a callee reaches what this body wants of exceptions -/
def Passes (CX : CXT) (X : Cx) (E : XK) : Prop := ∀ (pins : List (Addr × Obj)) (σ : St) (H : Hp) (s : Shared) (e : Value) (s' : Shared), Inv X pins σ H s → CX X.stack H s E e s' → X.xe e s'

section
variable {X : Cx} {CX : CXT} {k : Nat} {f C : Addr} {fd : FuncData} {ps : List Str} {sp : Sp} {dvs : List V} {ds : List Value} {E : XK} {x m : Str} {p pos apos : Pos} {e o : Expr} {es : List Expr} {ta : TE} {t : TA}

/-- the callee runs -/
theorem run_fn {pins : List (Addr × Obj)} {σ : St} {H : Hp} {s : Shared} {Q : VK} {us : List Value} {vs : List V} (F : FnOk X.prog X.w X.K X.mg X.base CX k f fd ps sp) (hr : Room k X.A) (hb : Binds X.K fd ps ds) (hd : Vals dvs ds) (hx : Passes CX X E)
    (I : Inv X pins σ H s) (r : Vals vs us) (h : sp (vs ++ dvs) H Q E) : wpAny (model X.prog X.w) X.A (call (.ref f) us) (EP X pins σ Q) X.xe s := by
  have r2 : Vals (vs ++ dvs) (us ++ ds) := r.append hd
  have hl : (us ++ ds).length = ps.length := by rw [← r2.length]; exact F.len _ _ _ _ h
  refine wpAny_call (codeAny_mono (F.run X.A X.stack s H ⟨us, []⟩ (us ++ ds) (vs ++ dvs) Q E hr I.env0 (hb s us I.kIn hl) r2 h) fun r s' hq => ?_)
  cases r with
  | error e => exact hx pins σ H s e s' I hq
  | ok fl =>
    cases fl with
    | ret u => exact I.after hq
    | next => exact False.elim hq
    | brk => exact False.elim hq
    | cont => exact False.elim hq

theorem pe_call (F : FnOk X.prog X.w X.K X.mg X.base CX k f fd ps sp) (hr : Room k X.A) (hg : Gl X x) (hm : X.mg x = some (.ref f)) (hk : PySem.W.keepIn X.K (.ref f) = true) (hb : Binds X.K fd ps ds) (hd : Vals dvs ds) (hx : Passes CX X E)
    (ha : PA X (e :: es) t) (hdb : (x == ("__debug__" : Str)) = false := by decide) (he : starEach (e :: es) X.env = (false, eval e X.env) :: starEach es X.env := by rfl) (hpl : (backTo pos (starEach es X.env)).any (·.1) = false := by rfl) :
    PE X (.Call (.Name x p) (e :: es) [] pos) (tCall sp dvs E t) := by
  intro pins s σ H Q I h
  refine wpAny_Call_Name_kw (ld_glob I hg hm ?_ hdb)
  refine PySem.W.callWith_K (h₀ := X.base) I.ok.mod.kin hk (thn (ha pos pins s σ H _ I h) fun us s1 ⟨vs, H1, I1, r, q⟩ => ⟨I1.kIn, ?_⟩) he hpl
  exact run_fn F hr hb hd hx I1 r q
/-- what a class must have to be made -/
structure Mk (K : PySem.W.Frag) (C f : Addr) : Prop where
  makes : PySem.W.makesIn K C = true
  init : PySem.W.findIn K (.ref C) "__init__" = some (some (.ref f))
  fn : PySem.W.isFn K (.ref f) = true
  kp : PySem.W.keepIn K (.ref C) = true

end

/-! ### keywords -/
/-- the values of the keywords, from the left -/
def PK (X : Cx) (kws : List Keyword) (t : TA) : Prop :=
  ∀ (pos : Pos) (pins : List (Addr × Obj)) (s : Shared) (σ : St) (H : Hp) (Q : List V → Hp → Prop), Inv X pins σ H s → t σ H Q → wpAny (model X.prog X.w) X.A (evalAll ((backToKw pos (keywordEach kws X.env)).map (·.2))) (AP X pins σ Q) X.xe s
section
variable {X : Cx} {CX : CXT} {k : Nat} {f C : Addr} {fd : FuncData} {ps ks : List Str} {sp : Sp} {E : XK} {x m : Str} {p pos apos kpos : Pos} {e o : Expr} {es : List Expr} {kws : List Keyword} {te ta : TE} {t tk : TA} {nm : Option Str}
/-- how a call with keywords binds: g puts the positional values us and the keywords' values ws (names ks) in the parameters' order, defaults among them -/
structure KBinds (K : PySem.W.Frag) (fd : FuncData) (ps ks : List Str) (g : List Value → List Value → List Value) (gV : List V → List V → List V) : Prop where
  to : ∀ (s : Shared) (us ws : List Value), K.In s.heap → (g us ws).length = ps.length → BindsTo s fd ⟨us, ks.zip ws⟩ (ps.zip (g us ws))
  rel : ∀ {vs : List V} {us : List Value} {zs : List V} {ws : List Value}, Vals vs us → Vals zs ws → Vals (gV vs zs) (g us ws)
def tCallK (sp : Sp) (gV : List V → List V → List V) (E : XK) (t tk : TA) : TE := fun σ H Q => t σ H fun vs H1 => tk σ H1 fun zs H2 => sp (gV vs zs) H2 Q E
variable {g : List Value → List Value → List Value} {gV : List V → List V → List V}
end

/-! ### a def's body keeps its promise -/
/-- names: the parameters first -/
structure FnScope (N P : List Str) (sc : Scope) : Prop where
  kind : sc.kind = .function
  co : sc.isCoroutine = false
  gen : sc.isGenerator = false
  nd : N.Nodup
  pre : N.take P.length = P
  par : ∀ x ∈ P, sc.names.lookup x = some .local ∨ sc.names.lookup x = some .cell
  nofree : ∀ y ∈ sc.names, y.2 ≠ .free

theorem bindL_out {kindOf : Str → Option NameKind} {x : Str} : ∀ {binds : List (Str × Value)} {m : Str → Option Value}, (∀ v, (x, v) ∉ binds) → bindL kindOf binds m x = m x
  | [], _, _ => rfl
  | (n, v) :: r, m, h => by
    unfold bindL
    rw [bindL_out fun w hw => h w (List.mem_cons_of_mem _ hw)]
    split
    · have : x ≠ n := by rintro rfl; exact h v List.mem_cons_self
      simp [this]
    · rfl
theorem bindC_out {kindOf : Str → Option NameKind} {x : Str} : ∀ {binds : List (Str × Value)} {m : Str → Option Value}, (∀ v, (x, v) ∉ binds) → bindC kindOf binds m x = m x
  | [], _, _ => rfl
  | (n, v) :: r, m, h => by
    unfold bindC
    rw [bindC_out fun w hw => h w (List.mem_cons_of_mem _ hw)]
    split
    · rfl
    · have : x ≠ n := by rintro rfl; exact h v List.mem_cons_self
      simp [this]
theorem bindL_get {kindOf : Str → Option NameKind} {x : Str} {v : Value} : ∀ {P : List Str} {vs : List Value} {i : Nat} {m : Str → Option Value}, P.Nodup → P[i]? = some x → vs[i]? = some v → kindOf x = some .local →
    bindL kindOf (P.zip vs) m x = some v
  | [], _, _, _, _, h, _, _ => by simp at h
  | _ :: _, [], _, _, _, _, h, _ => by simp at h
  | p :: P, w :: vs, 0, m, nd, h1, h2, hk => by
    simp at h1 h2; subst h1; subst h2
    show bindL kindOf ((p, w) :: P.zip vs) m p = _
    unfold bindL
    rw [bindL_out fun v hv => (List.nodup_cons.mp nd).1 (List.of_mem_zip hv).1, if_pos hk]
    simp
  | p :: P, w :: vs, i + 1, m, nd, h1, h2, hk => by
    show bindL kindOf ((p, w) :: P.zip vs) m x = _
    unfold bindL
    exact bindL_get (i := i) (List.nodup_cons.mp nd).2 (by simpa using h1) (by simpa using h2) hk
theorem bindC_get {kindOf : Str → Option NameKind} {x : Str} {v : Value} : ∀ {P : List Str} {vs : List Value} {i : Nat} {m : Str → Option Value}, P.Nodup → P[i]? = some x → vs[i]? = some v → kindOf x ≠ some .local →
    bindC kindOf (P.zip vs) m x = some v
  | [], _, _, _, _, h, _, _ => by simp at h
  | _ :: _, [], _, _, _, _, h, _ => by simp at h
  | p :: P, w :: vs, 0, m, nd, h1, h2, hk => by
    simp at h1 h2; subst h1; subst h2
    show bindC kindOf ((p, w) :: P.zip vs) m p = _
    unfold bindC
    rw [bindC_out fun v hv => (List.nodup_cons.mp nd).1 (List.of_mem_zip hv).1, if_neg hk]
    simp
  | p :: P, w :: vs, i + 1, m, nd, h1, h2, hk => by
    show bindC kindOf ((p, w) :: P.zip vs) m x = _
    unfold bindC
    exact bindC_get (i := i) (List.nodup_cons.mp nd).2 (by simpa using h1) (by simpa using h2) hk

/-- the names' values at the entry -/
def start (N : List Str) (vs : List V) : St := vs.map some ++ List.replicate (N.length - vs.length) none

/-- the context of a def's body, at its entry; an exception leaves the frame, then lies as CX says -/
def cxOf (CX : CXT) (P : Program) (w : World) (K : PySem.W.Frag) (mg : Str → Option Value) (base : Heap) (N : List Str) (qual : Str) (scope : Scope) (f : Addr) (cd : Value) (A : Around) (outer : List Env) (s : Shared) (H : Hp) (E : XK) : Cx where
  prog := P
  w := w
  K := K
  mg := mg
  base := base
  A := A.deeper (envOfC qual scope s.heap.objs.size f cd)
  N := N
  s_0 := s
  H_0 := H
  env := envOfC qual scope s.heap.objs.size f cd
  outer := outer
  stack := envOfC qual scope s.heap.objs.size f cd :: outer
  ex := []
  calm := true
  fn := fun _ => true
  pn := []
  xe := fun e s' => wpAny (model P w) (A.deeper (envOfC qual scope s.heap.objs.size f cd)) (leaving (envOfC qual scope s.heap.objs.size f cd) e) (fun _ s'' => CX outer H s E e s'') (fun e' s'' => CX outer H s E e' s'') s'

theorem cell_has {sc : Scope} {n : Nat} {x : Str} (h : sc.names.lookup x = some .cell) : ∃ c, (cellsFrom n sc.names []).lookup x = some c := by
  have q := PySem.W.cellsFrom_some sc.names n [] (.inl h)
  exact Option.isSome_iff_exists.mp q

theorem inv_start {CX : CXT} {P : Program} {w : World} {K : PySem.W.Frag} {mg : Str → Option Value} {base : Heap} {N ps : List Str} {qual : Str} {scope : Scope} {f : Addr} {cd : Value} {A : Around} {outer : List Env} {s s1 : Shared} {H : Hp} {E : XK} {us : List Value} {vs : List V}
    (S : FnScope N ps scope) (hd : A.handled = none) (e0 : Env0 P w K mg base A outer s H) (hl : vs.length = ps.length) (r : Vals vs us)
    (x : InCallC s s.heap.objs.size (bindL (envOfC qual scope s.heap.objs.size f cd).kindOf (ps.zip us) fun _ => none) (cellsFrom (s.heap.objs.size + 1) scope.names []) (bindC (envOfC qual scope s.heap.objs.size f cd).kindOf (ps.zip us) fun _ => none) s1) :
    Inv (cxOf CX P w K mg base N qual scope f cd A outer s H E) [] (start N vs) H s1 := by
  have hpl : ps.length ≤ N.length := by have := congrArg List.length S.pre; rw [List.length_take] at this; omega
  obtain ⟨h1, tk, rfl, hk⟩ := x.done
  have noA : ∀ b : Addr, b ∉ (cxOf CX P w K mg base N qual scope f cd A outer s H E).ex := fun b z => absurd (show b ∈ ([] : List Addr) from z) (by simp)
  refine ⟨⟨e0.mod, S.kind, rfl, rfl, Nat.le_refl _, fun y z c h1 h2 => ?_, fun y hy => ?_, fun y c _ h => ?_, fun _ => hd, Around.frames_deeper e0.frames, .inr ⟨rfl, rfl⟩, fun b z => absurd z (noA b), e0.bs, e0.bsz, fun b _ _ => noA b, fun b z => absurd z (noA b), e0.funs, e0.frf⟩,
    rfl, e0.bare, Un.kept hk, ⟨_, x.toInCall.ns, fun i y v h1 h2 h3 => ?_⟩, fun y c h => ⟨_, x.cell y c h⟩, e0.hok.fresh (Nat.le_refl _), fun y c h => ?_, fun p hp => absurd (show p ∈ ([] : List (Addr × Obj)) from hp) (by simp), e0.hok.kept hk, ?_⟩
  · exact name_of_addr x.apart (PySem.mem_of_lookup h1) (PySem.mem_of_lookup h2)
  · have hy : scope.names.lookup y = some .cell ∨ scope.names.lookup y = some .free := hy
    rcases hy with hy | hy
    · exact cell_has hy
    · exact absurd rfl (S.nofree _ (PySem.mem_of_lookup hy))
  · exact Nat.le_of_lt (x.above y c (PySem.mem_of_lookup h))
  · have hi : i < vs.length := by
      unfold start at h2
      by_cases hi : i < vs.length
      · exact hi
      · rw [List.getElem?_append_right (by simpa using hi)] at h2
        rw [List.getElem?_replicate] at h2
        split at h2 <;> cases h2
    have ha : vs[i]? = some v := by
      unfold start at h2
      rw [List.getElem?_append_left (by simpa using hi), List.getElem?_map] at h2
      cases e : vs[i]? with
      | none => rw [e] at h2; cases h2
      | some a => rw [e] at h2; cases h2; rfl
    obtain ⟨u, hu, rv⟩ := r.get ha
    have hp : ps[i]? = some y := by
      rw [← S.pre, List.getElem?_take_of_lt (by omega)]; exact h1
    have ndP : ps.Nodup := by rw [← S.pre]; exact S.nd.sublist (List.take_sublist _ _)
    refine ⟨u, rv, ?_⟩
    rcases S.par y (List.mem_of_getElem? hp) with k | k
    · exact .inl ⟨k, bindL_get ndP hp hu k⟩
    · obtain ⟨c, e⟩ := cell_has (n := s.heap.objs.size + 1) k
      refine .inr ⟨.inl k, c, e, ?_⟩
      have q := x.cell y c e
      rw [bindC_get ndP hp hu (by show scope.names.lookup y ≠ _; rw [k]; decide)] at q
      exact q
  · exact e0.hok.fresh (Nat.le_of_lt (x.above y c (PySem.mem_of_lookup h)))
  · unfold start
    show _ = N.length
    rw [List.length_append, List.length_map, List.length_replicate]
    omega

/-- THE RULE: a def (or a method) of the text, by its body. The body's reading t is chosen for each entry; it is run at the parameters' values -/
theorem fn_of {CX : CXT} {P : Program} {w : World} {K : PySem.W.Frag} {mg : Str → Option Value} {base : Heap} {k : Nat} {f : Addr} {name qual : Str} {params : Arguments} {body : List Stmt} {scope : Scope} {dV kV doc pm cdv ct oc : Value} {an od : Option Addr}
    {osl : Array (Option Value)} {N ps : List Str} {sp : Sp} (lk : K.lookup f = some ⟨oc, od, .func (PySem.W.fnOf name qual params body scope dV kV doc pm an cdv ct), osl⟩) (hcd : PySem.W.codeIn K cdv qual = true) (S : FnScope N ps scope)
    (len : ∀ vs H Q E, sp vs H Q E → vs.length = ps.length)
    (hbody : ∀ (A : Around) (outer : List Env) (s : Shared) (H : Hp) (vs : List V) (Q : VK) (E : XK), Room k (A.deeper (envOfC qual scope s.heap.objs.size f cdv)) → sp vs H Q E →
      ∃ t, PSs (cxOf CX P w K mg base N qual scope f cdv A outer s H E) body t ∧ t { nx := fun _ H' => Q .non H', rt := Q } (start N vs) H) :
    FnOk P w K mg base CX (k + 1) f (PySem.W.fnOf name qual params body scope dV kV doc pm an cdv ct) ps sp := by
  refine ⟨len, fun A outer s H args us vs Q E hr e0 hb r hsp => ?_⟩
  have hl := len _ _ _ _ hsp
  have KX : K.In s.heap := e0.mod.kin.keeps fun b o e => (e0.bs b o e).1
  have lim : s.heap.NoLimit := e0.mod.nolimit.keeps fun b o e => (e0.bs b o e).1
  have hkind : ∀ y ∈ ps.zip us, scope.names.lookup y.1 = some .local ∨ (scope.names.lookup y.1 = some .cell ∧ ((cellsFrom (s.heap.objs.size + 1) scope.names []).lookup y.1).isSome = true) := fun ⟨n, v⟩ hy => by
    rcases S.par n (List.of_mem_zip hy).1 with q | q
    · exact .inl q
    · exact .inr ⟨q, PySem.W.cellsFrom_some _ _ _ (.inl q)⟩
  refine codeAny_call_function hr.depth (KX _ _ lk) rfl S.co S.gen rfl (PySem.W.codeRec_of KX hcd) (hb _ _ _ _ ?_)
  refine wpAny_newFunctionEnv_cells S.kind hkind fun env he s1 x => ?_
  subst he
  refine ⟨lim.keeps x.toInCall.keep, codeAny_func ?_⟩
  obtain ⟨t, ht, hq⟩ := hbody A outer s H vs Q E (hr.deeper _) hsp
  have I : Inv (cxOf CX P w K mg base N qual scope f cdv A outer s H E) [] (start N vs) H s1 := inv_start S hr.hd e0 hl r x
  refine wpAny_mono (ht [] s1 (start N vs) H _ I hq) (fun fl s' hs => ?_) fun e s' hs => hs
  have fin : ∀ {σ' : St} {H' : Hp} {v : V} {u : Value}, Inv (cxOf CX P w K mg base N qual scope f cdv A outer s H E) [] σ' H' s' → RelV v u → Q v H' → CE outer P w H s Q u s' :=
    fun {σ' H' v u} J rv q => ⟨v, H', J.os, J.bare, J.base, J.hok, rv, q⟩
  cases fl with
  | ret u =>
    obtain ⟨v, σ', H', J, rv, q⟩ := hs
    exact fin J rv q
  | next =>
    obtain ⟨σ', H', J, q⟩ := hs
    exact fin (v := V.non) (u := Value.none) J rfl q
  | brk =>
    obtain ⟨_, _, _, q⟩ := hs
    exact False.elim q
  | cont =>
    obtain ⟨_, _, _, q⟩ := hs
    exact False.elim q
end L2

namespace L2
open PySem PySem.Spec PyProof.Rows
section
variable {X : Cx} {x : Str} {p pos : Pos} {e : Expr} {es : List Expr} {t : TA} {id T : String} {r : List V → Hp → VK → Prop}

def tCB (r : List V → Hp → VK → Prop) (t : TA) : TE := fun σ H Q => t σ H fun vs H1 => r vs H1 Q
/-- f(e, ..), f a built-in function -/
theorem pe_callB (hc : CallR X (.builtin id) r) (hg : Gl X x) (hm : X.mg x = none) (hv : bootBuiltins x = some (.builtin id)) (ha : PA X (e :: es) t) (hn : x ≠ "__name__" := by decide) (hdb : (x == ("__debug__" : Str)) = false := by decide)
    (he : starEach (e :: es) X.env = (false, eval e X.env) :: starEach es X.env := by rfl) (hpl : (backTo pos (starEach es X.env)).any (·.1) = false := by rfl) : PE X (.Call (.Name x p) (e :: es) [] pos) (tCB r t) := by
  intro pins s σ H Q I h
  refine wpAny_Call_Name_kw (ld_blt I hg hm hv ?_ hn hdb)
  exact PyProof.Rows.callWith_builtin1 (thn (ha pos pins s σ H _ I h) fun us s1 ⟨vs, H1, I1, r1, q1⟩ => hc pins s1 σ H1 vs us Q I1 r1 q1) he hpl
/-- T(e, ..), T a built-in type -/
theorem pe_callTy (hc : CallR X (.type T) r) (hg : Gl X x) (hm : X.mg x = none) (hv : bootBuiltins x = some (.type T)) (ha : PA X (e :: es) t) (hn : x ≠ "__name__" := by decide) (hdb : (x == ("__debug__" : Str)) = false := by decide)
    (he : starEach (e :: es) X.env = (false, eval e X.env) :: starEach es X.env := by rfl) (hpl : (backTo pos (starEach es X.env)).any (·.1) = false := by rfl) : PE X (.Call (.Name x p) (e :: es) [] pos) (tCB r t) := by
  intro pins s σ H Q I h
  refine wpAny_Call_Name_kw (ld_blt I hg hm hv ?_ hn hdb)
  exact PyProof.Rows.callWith_type1 (thn (ha pos pins s σ H _ I h) fun us s1 ⟨vs, H1, I1, r1, q1⟩ => hc pins s1 σ H1 vs us Q I1 r1 q1) he hpl
end
end L2

namespace HT
open PySem PyProof.Rows

/-- t < u of tuples of ints -/
def lexLt : List Int → List Int → Bool
  | [], [] => false
  | [], _ :: _ => true
  | _ :: _, [] => false
  | x :: xs, y :: ys => if x = y then lexLt xs ys else decide (x < y)
section
open PySem.SeqAt
open PySem.AutoSeq1 (wpAny_loadPart')
open PySem.MeetsSeq PySem.MeetsSeq2 PySem.MeetsSeq3

end

section
variable {prog : Program} {w : World} {A : Around} {E : Value → Shared → Prop} {s : Shared}

/-! ### t[a:b], not the whole -/
/-- a slice's bound as a place among n (d where it is left out) -/
def sIx (n d : Nat) : Option Int → Nat
  | none => d
  | some v => if v < 0 then (v + (n : Int)).toNat else min v.toNat n
theorem sIx_nat (n d k : Nat) : sIx n d (some (k : Int)) = min k n := by
  show (if (k : Int) < 0 then ((k : Int) + (n : Int)).toNat else min (k : Int).toNat n) = min k n
  rw [if_neg (by omega), Int.toNat_natCast]
theorem sIx_le (n d : Nat) (hd : d ≤ n) (o : Option Int) : sIx n d o ≤ n := by
  cases o with
  | none => exact hd
  | some v =>
    show (if v < 0 then (v + (n : Int)).toNat else min v.toNat n) ≤ n
    by_cases hv : v < 0
    · rw [if_pos hv]; omega
    · rw [if_neg hv]; exact Nat.min_le_right _ _
end
end HT

namespace L2
open PySem PySem.Spec PyProof.Rows

/-! ### the parts of a slice -/
abbrev TO := St → Hp → (Option Int → Hp → Prop) → Prop
/-- a slice's part (left out, or an int) -/
def PO (X : Cx) (e : Option Expr) (t : TO) : Prop :=
  ∀ (pins : List (Addr × Obj)) (s : Shared) (σ : St) (H : Hp) (Q : Option Int → Hp → Prop), Inv X pins σ H s → t σ H Q →
    wpAny (model X.prog X.w) X.A (evalPart e X.env) (fun u s' => ∃ o H', Inv X pins σ H' s' ∧ IsPart u o ∧ Q o H') X.xe s
def tNoPart : TO := fun _ H Q => Q none H
def tPart (t : TE) : TO := fun σ H Q => t σ H fun x H1 => ∃ i, x = .int i ∧ Q (some i) H1

section
variable {X : Cx} {e : Expr} {te : TE} {lo hi : Option Expr} {tl th : TO} {pos p2 : Pos}

theorem po_none : PO X none tNoPart := by
  intro pins s σ H Q I h
  rw [evalPart_none]
  exact wpAny_pure ⟨none, H, I, .none, h⟩
theorem po_some (h : PE X e te) : PO X (some e) (tPart te) := by
  intro pins s σ H Q I hw
  rw [evalPart_some]
  refine thn (h pins s σ H _ I hw) fun u s1 ⟨x, H1, I1, r1, q1⟩ => ?_
  obtain ⟨i, rfl, q⟩ := q1
  obtain ⟨t, rfl⟩ := r1
  exact ⟨some i, H1, I1, .int i t, q⟩

/-- what a slice of a value is, by values: the slice object stands at sl -/
def SlR (X : Cx) (r : V → Option Int → Option Int → Hp → VK → Prop) : Prop :=
  ∀ (pins : List (Addr × Obj)) (s : Shared) (σ : St) (H : Hp) (x : V) (v vl vu : Value) (lo hi : Option Int) (sl : Addr) (Q : VK), Inv X pins σ H s → RelV x v → s.heap.IsSliceOf sl vl vu .none → IsPart vl lo → IsPart vu hi → r x lo hi H Q →
    ∃ T id, typeLookup (.type T) "__getitem__" = pure (some (.builtin id)) ∧ s.TypeIs v T ∧ wpAny (model X.prog X.w) X.A (getItem v (.ref sl)) (EP X pins σ Q) X.xe s
theorem SlR.or {r r' : V → Option Int → Option Int → Hp → VK → Prop} (h : SlR X r) (h' : SlR X r') : SlR X (fun x lo hi H Q => r x lo hi H Q ∨ r' x lo hi H Q) := by
  intro pins s σ H x v vl vu lo hi sl Q I rx hs pl pu q
  rcases q with q | q
  · exact h pins s σ H x v vl vu lo hi sl Q I rx hs pl pu q
  · exact h' pins s σ H x v vl vu lo hi sl Q I rx hs pl pu q
def tSl (r : V → Option Int → Option Int → Hp → VK → Prop) (te : TE) (tl th : TO) : TE := fun σ H Q => te σ H fun x H1 => tl σ H1 fun l H2 => th σ H2 fun u H3 => r x l u H3 Q
/-- a[lo:hi], any a -/
theorem pe_slice {r : V → Option Int → Option Int → Hp → VK → Prop} (hr : SlR X r) (he : PE X e te) (hl : PO X lo tl) (hu : PO X hi th) : PE X (.Subscript e (.Slice lo hi none p2) pos) (tSl r te tl th) := by
  intro pins s σ H Q I h
  refine Subscript_ (thn (he pins s σ H _ I h) fun v s1 ⟨x, H1, I1, r1, q1⟩ => ?_)
  refine wpAny_Slice (thn (hl pins s1 σ H1 _ I1 q1) fun vl s2 ⟨l, H2, I2, pl, q2⟩ => thn (hu pins s2 σ H2 _ I2 q2) fun vu s3 ⟨u, H3, I3, pu, q3⟩ => ?_)
  rw [evalPart_none]
  refine wpAny_pure ?_
  have I4 : Inv X pins σ H3 { s3 with heap := s3.heap.push { cls := .type "slice", data := .fields #[vl, vu, .none] } } := I3.kept (t' := s3.toks) fun b ob q => Heap.get?_push_of_some _ q
  obtain ⟨T, id, hT, ht, hg⟩ := hr pins { s3 with heap := s3.heap.push { cls := .type "slice", data := .fields #[vl, vu, .none] } } σ H3 x v vl vu l u s3.heap.objs.size Q I4 r1 (Heap.IsSliceOf.new ..) pl pu q3
  show wpAny (model X.prog X.w) X.A (subscriptTail e (.Slice lo hi none p2) v (.ref s3.heap.objs.size)) (EP X pins σ Q) X.xe { s3 with heap := s3.heap.push { cls := .type "slice", data := .fields #[vl, vu, .none] } }
  exact tail_any (ops := [.ref s3.heap.objs.size, v]) ht hT hg (by with_unfolding_all rfl)

/-- the items of xs[lo:hi] -/
def cutV (xs : List V) (lo hi : Option Int) : List V := (xs.drop (HT.sIx xs.length 0 lo)).take (HT.sIx xs.length xs.length hi - HT.sIx xs.length 0 lo)
theorem cutV_length (xs : List V) (lo hi : Option Int) : (cutV xs lo hi).length ≤ xs.length := by
  unfold cutV
  rw [List.length_take, List.length_drop]
  omega
/-- t[lo:hi], not the whole of it (the whole would be t itself) -/
def rSlT (K : PySem.W.Frag) : V → Option Int → Option Int → Hp → VK → Prop := fun x lo hi H Q => ∃ a xs, x = .ref a ∧ SqT K H a xs ∧
  ¬ (HT.sIx xs.length 0 lo = 0 ∧ HT.sIx xs.length xs.length hi = xs.length) ∧ ∀ p, H p = none → Q (.ref p) (upd H p (.tup (cutV xs lo hi)))
/-! ### t < u, t + u -/
def rLtT (K : PySem.W.Frag) : R2 := fun x y H Q => ∃ a b ns ms, x = .ref a ∧ y = .ref b ∧ SqT K H a (ns.map V.int) ∧ SqT K H b (ms.map V.int) ∧ Q (.bl (HT.lexLt ns ms)) H
/-- t + u, t not empty: u empty gives t itself -/
def rCatT (K : PySem.W.Frag) : R2 := fun x y H Q => ∃ a b xs ys, x = .ref a ∧ y = .ref b ∧ SqT K H a xs ∧ SqT K H b ys ∧ xs ≠ [] ∧ xs.length + ys.length ≤ sizeLine ∧
  (ys = [] → Q (.ref a) H) ∧ (ys ≠ [] → ∀ p, H p = none → Q (.ref p) (upd H p (.tup (xs ++ ys))))
end
end L2

namespace L2
open PySem PySem.Spec PyProof.Rows

/-! ### places -/
/-- the place that an index of any sign means -/
def ixN (n : Nat) (i : Int) : Option Nat := if 0 ≤ i then (if i < n then some i.toNat else none) else if -(n : Int) ≤ i then some (i + n).toNat else none
def atI {α : Type} (xs : List α) (i : Int) : Option α := (ixN xs.length i).bind fun j => xs[j]?
theorem ixN_seq {n : Nat} {i : Int} {j : Nat} (h : ixN n i = some j) : seqIndex? i n = some j ∧ j < n ∧ -(n : Int) ≤ i ∧ i < n := by
  unfold ixN at h
  by_cases h0 : 0 ≤ i
  · rw [if_pos h0] at h
    by_cases h1 : i < n
    · rw [if_pos h1] at h
      have e : i.toNat = j := Option.some.inj h
      exact ⟨by rw [seqIndex_of h0 h1, e], by omega, by omega, h1⟩
    · rw [if_neg h1] at h; cases h
  · rw [if_neg h0] at h
    by_cases h1 : -(n : Int) ≤ i
    · rw [if_pos h1] at h
      have e : (i + n).toNat = j := Option.some.inj h
      exact ⟨by rw [seqIndex_neg (by omega) h1, e], by omega, h1, by omega⟩
    · rw [if_neg h1] at h; cases h
theorem atI_get {α : Type} {xs : List α} {i : Int} {v : α} (h : atI xs i = some v) : ∃ j, seqIndex? i xs.length = some j ∧ xs[j]? = some v ∧ j < xs.length ∧ -(xs.length : Int) ≤ i ∧ i < xs.length := by
  unfold atI at h
  cases e : ixN xs.length i with
  | none => rw [e] at h; cases h
  | some j =>
    rw [e] at h
    obtain ⟨h1, h2, h3, h4⟩ := ixN_seq e
    exact ⟨j, h1, h, h2, h3, h4⟩
/-! ### what may be subscripted -/
/-- what stands as an index of a plain subscript -/
def PlainIx (b : Expr) : Prop := ∀ o i, subscripted b false o i = operate [o, i] (getItem o i)
/-- a subscript by values -/
def IxR (X : Cx) (r : R2) : Prop :=
  ∀ (value slice : Expr) (pins : List (Addr × Obj)) (s : Shared) (σ : St) (H : Hp) (x y : V) (v u : Value) (Q : VK), Inv X pins σ H s → RelV x v → RelV y u → r x y H Q →
    subscripted slice false v u = operate [v, u] (getItem v u) → wpAny (model X.prog X.w) X.A (subscriptTail value slice v u) (EP X pins σ Q) X.xe s
/-- a call of a builtin's method by values: the receiver, the arguments -/
def MtR (X : Cx) (id : String) (r : V → List V → Hp → VK → Prop) : Prop :=
  ∀ (pins : List (Addr × Obj)) (s : Shared) (σ : St) (H : Hp) (x : V) (xs : List V) (v : Value) (us : List Value) (Q : VK), Inv X pins σ H s → RelV x v → Vals xs us → r x xs H Q →
    wpAny (model X.prog X.w) X.A (call (.builtin id) (v :: us)) (EP X pins σ Q) X.xe s
section
variable {X : Cx} {a b : Expr} {ta tb : TE} {pos : Pos}
theorem IxR.or {r r' : R2} (h : IxR X r) (h' : IxR X r') : IxR X (fun x y H Q => r x y H Q ∨ r' x y H Q) := by
  intro value slice pins s σ H x y v u Q I rx ry q hs
  rcases q with q | q
  · exact h value slice pins s σ H x y v u Q I rx ry q hs
  · exact h' value slice pins s σ H x y v u Q I rx ry q hs
theorem MtR.or {id : String} {r r' : V → List V → Hp → VK → Prop} (h : MtR X id r) (h' : MtR X id r') : MtR X id (fun x xs H Q => r x xs H Q ∨ r' x xs H Q) := by
  intro pins s σ H x xs v us Q I rx rs q
  rcases q with q | q
  · exact h pins s σ H x xs v us Q I rx rs q
  · exact h' pins s σ H x xs v us Q I rx rs q
/-- a[b] -/
theorem pe_ix {r : R2} (hr : IxR X r) (ha : PE X a ta) (hb : PE X b tb) (hs : PlainIx b) : PE X (.Subscript a b pos) (tOp r ta tb) := by
  intro pins s σ H Q I h
  exact Subscript_ (binT ha hb I h fun v u s2 x y H2 I2 rx ry q => hr a b pins s2 σ H2 x y v u Q I2 rx ry q (hs _ _))

def rIxL (K : PySem.W.Frag) : R2 := fun x y H Q => ∃ p xs i v, x = .ref p ∧ y = .int i ∧ SqL K H p xs ∧ atI xs i = some v ∧ Q v H
def rIxT (K : PySem.W.Frag) : R2 := fun x y H Q => ∃ p xs i v, x = .ref p ∧ y = .int i ∧ SqT K H p xs ∧ atI xs i = some v ∧ Q v H
def rIxS : R2 := fun x y H Q => ∃ z i c, x = .str z ∧ y = .int i ∧ z.length ≤ sizeLine ∧ atI z.cps.toList i = some c ∧ Q (.str ⟨#[c]⟩) H
theorem ix_list : IxR X (rIxL X.K) := by
  intro value slice pins s σ H x y v u Q I rx ry h hs
  obtain ⟨p, xs, i, z, rfl, rfl, hq, he, q⟩ := h
  cases rx
  obtain ⟨t, rfl⟩ := ry
  obtain ⟨its, r, pl, hz⟩ := I.list hq
  obtain ⟨j, h1, h2, h3, h4, h5⟩ := atI_get he
  obtain ⟨w, ew, rw'⟩ := r.get h2
  have hl := r.length
  have hn := line63
  have fin : EP X pins σ Q w s := ⟨z, H, I, rw', q⟩
  by_cases h0 : 0 ≤ i
  · have hj : i.toNat = j := by
      rw [seqIndex_of h0 h5] at h1
      exact Option.some.inj h1
    exact item_listR pl.isList h0 (by omega) (by rw [hj]; simpa using ew) fin hs
  · have hj : (i + (its.toArray.size : Int)).toNat = j := by
      rw [seqIndex_neg (by omega) h4] at h1
      rw [List.size_toArray, ← hl]
      exact Option.some.inj h1
    exact subscriptTail_builtinR (x := w) pl.isList.typeIs slot_list_getitem.lookup
      (wpAny_getItem_list_neg (Q := fun r s' => r = w ∧ EP X pins σ Q r s') pl.isList (by omega) (by rw [List.size_toArray] <;> omega) (by omega) (by rw [hj]; simpa using ew) ⟨rfl, fin⟩) hs
theorem ix_tup : IxR X (rIxT X.K) := by
  intro value slice pins s σ H x y v u Q I rx ry h hs
  obtain ⟨p, xs, i, z, rfl, rfl, hq, he, q⟩ := h
  cases rx
  obtain ⟨t, rfl⟩ := ry
  obtain ⟨its, r, pl, hz⟩ := I.tuple hq
  obtain ⟨j, h1, h2, h3, h4, h5⟩ := atI_get he
  obtain ⟨w, ew, rw'⟩ := r.get h2
  have hl := r.length
  have hn := line63
  have fin : EP X pins σ Q w s := ⟨z, H, I, rw', q⟩
  exact subscriptTail_builtinR (x := w) pl.typeIs slot_tuple_getitem.lookup
    (getItem_tuple (j := j) (Q := fun r s' => r = w ∧ EP X pins σ Q r s') pl (by omega) (by omega) (by rw [List.size_toArray, ← hl]; exact h1) (by simpa using ew) ⟨rfl, fin⟩) hs
theorem ix_str : IxR X rIxS := by
  intro value slice pins s σ H x y v u Q I rx ry h hs
  obtain ⟨z, i, c, rfl, rfl, hz, he, q⟩ := h
  obtain ⟨t, rfl⟩ := rx
  obtain ⟨t', rfl⟩ := ry
  obtain ⟨j, h1, h2, h3, h4, h5⟩ := atI_get he
  have hl : z.cps.toList.length = z.length := by simp [Str.length]
  rw [hl] at h1 h4 h5
  have hn := line63
  exact tail_any (typeIs_str s z t) slot_str_getitem.lookup (getItem_str (c := c) (by
    have e1 : decide (i < -(2 ^ 63 : Int)) = false := decide_eq_false (by omega)
    have e2 : decide (i ≥ 2 ^ 63) = false := decide_eq_false (by omega)
    rw [e1, e2, Bool.or_false]) (by rw [h1]; simpa using h2) ⟨.str ⟨#[c]⟩, H, I.tok _, ⟨_, rfl⟩, q⟩) hs
/-- list, tuple or str -/
def rIx (K : PySem.W.Frag) : R2 := fun x y H Q => rIxL K x y H Q ∨ rIxT K x y H Q ∨ rIxS x y H Q
/-! ### xs[i] = v, any sign -/
theorem Inv.lst {pins : List (Addr × Obj)} {σ : St} {H : Hp} {s : Shared} {p : Addr} {xs : List V} (I : Inv X pins σ H s) (h : H p = some (.lst xs)) :
    ∃ (its : List Value) (n : Nat), Vals xs its ∧ s.heap.get? p = some { cls := .type "list", data := .seq its.toArray n } ∧ xs.length ≤ sizeLine := by
  obtain ⟨z, its, n, r, e⟩ := I.hok p _ h
  exact ⟨its, n, r, e, z⟩
def rSetL : V → V → V → Hp → (Hp → Prop) → Prop := fun o i v H Q => ∃ p xs k j, o = .ref p ∧ i = .int k ∧ H p = some (.lst xs) ∧ ixN xs.length k = some j ∧ Q (upd H p (.lst (xs.set j v)))
/-! ### slices -/
theorem slice_bounds (lo hi : Option Int) (n : Nat) : (sliceBounds lo hi none n).1 = ((HT.sIx n 0 lo : Nat) : Int) ∧ (sliceBounds lo hi none n).2.1 = ((HT.sIx n n hi : Nat) : Int) ∧ (sliceBounds lo hi none n).2.2 = 1 := by
  refine ⟨?_, ?_, rfl⟩
  · cases lo with
    | none => simp [sliceBounds, HT.sIx]
    | some i =>
      simp only [sliceBounds, HT.sIx, Option.getD_none, show (1 : Int) > 0 by decide, if_true]
      by_cases h : i < 0
      · simp only [h, if_true] <;> omega
      · simp only [h, if_false] <;> omega
  · cases hi with
    | none => simp [sliceBounds, HT.sIx]
    | some i =>
      simp only [sliceBounds, HT.sIx, Option.getD_none, show (1 : Int) > 0 by decide, if_true]
      by_cases h : i < 0
      · simp only [h, if_true] <;> omega
      · simp only [h, if_false] <;> omega
theorem slicePick_cut (its : List Value) (lo hi : Option Int) : slicePick its.toArray lo hi none = ((its.drop (HT.sIx its.length 0 lo)).take (HT.sIx its.length its.length hi - HT.sIx its.length 0 lo)).toArray := by
  obtain ⟨h1, h2, h3⟩ := slice_bounds lo hi its.toArray.size
  unfold slicePick
  rw [h1, h2, h3]
  simp only [sliceRange_one, pick_run, List.size_toArray] <;> rfl
/-- xs[lo:hi] of a list: a new list -/
def rSlL (K : PySem.W.Frag) : V → Option Int → Option Int → Hp → VK → Prop := fun x lo hi H Q => ∃ a xs, x = .ref a ∧ SqL K H a xs ∧ ∀ p, H p = none → Q (.ref p) (upd H p (.lst (cutV xs lo hi)))
theorem sl_list : SlR X (rSlL X.K) := by
  intro pins s σ H x v vl vu lo hi sl Q I rx hs pl pu h
  obtain ⟨a, xs, rfl, hx, q⟩ := h
  cases rx
  obtain ⟨its, r, ht, hz⟩ := I.list hx
  have hlen := r.length
  refine ⟨"list", _, slot_list_getitem.lookup, ht.isList.typeIs, ?_⟩
  refine wpAny_getItem_list_slice ht.isList hs pl pu .none (by simp) ?_ (by rw [List.size_toArray] <;> omega)
  rw [slicePick_cut, ← hlen]
  refine ⟨.ref s.heap.objs.size, _, I.laid (t' := s.toks) (o := .lst (cutV xs lo hi)) (fun b ob q => Heap.get?_push_of_some _ q) (Nat.le_refl _) ?_, rfl, q _ (I.hok.fresh (Nat.le_refl _))⟩
  exact ⟨Nat.le_trans (cutV_length xs lo hi) hz, _, 0, (r.drop (HT.sIx xs.length 0 lo)).take (HT.sIx xs.length xs.length hi - HT.sIx xs.length 0 lo), Heap.get?_push_size _ rfl⟩

/-! ### in, not in: flat items -/
def flatV : V → Bool
  | .non => true
  | .bl _ => true
  | .int _ => true
  | .str _ => true
  | _ => false
/-- == of flat values -/
def eqV : V → V → Bool
  | .non, .non => true
  | .bl a, .bl b => a == b
  | .bl a, .int b => (if a then 1 else 0) == b
  | .int a, .bl b => a == (if b then 1 else 0)
  | .int a, .int b => a == b
  | .str a, .str b => a == b
  | _, _ => false
/-- the items' answers, read off the values (a value's own answer does not lean on its token) -/
def eqU (x : V) (u : Value) : Bool := match u with
  | .none => eqV .non x
  | .bool b => eqV (.bl b) x
  | .int i _ => eqV (.int i) x
  | .str z _ => eqV (.str z) x
  | _ => false
def inV (x : V) (xs : List V) : Bool := xs.any fun y => eqV y x
/-- x in a list or tuple of flat items -/
def rIn (K : PySem.W.Frag) (neg : Bool) : R2 := fun x y H Q => ∃ p xs, y = .ref p ∧ (SqL K H p xs ∨ SqT K H p xs) ∧ flatV x = true ∧ xs.all flatV = true ∧ Q (.bl (if neg then !inV x xs else inV x xs)) H
/-! ### len, list(x), tuple(x) of any list or tuple that is read -/
theorem call_len_seq : CallR X (.builtin "len") (fun xs H Q => ∃ p ys, xs = [.ref p] ∧ (SqL X.K H p ys ∨ SqT X.K H p ys) ∧ Q (.int ys.length) H) := by
  intro pins s σ H xs us Q I r h
  obtain ⟨p, ys, rfl, hq, q⟩ := h
  obtain ⟨u, rfl, rx⟩ := vals1 r
  cases rx
  have hn := line63
  rcases hq with hq | hq
  · obtain ⟨its, r', pl, hz⟩ := I.list hq
    have hlen := r'.length
    exact Calls.call_len_list pl.isList (by simp only [List.size_toArray] <;> omega) ⟨.int ys.length, H, I.tok _, ⟨s.toks + 1, by rw [List.size_toArray, hlen]⟩, q⟩
  · obtain ⟨its, r', pl, hz⟩ := I.tuple hq
    have hlen := r'.length
    exact len_tuple pl (by simp only [List.size_toArray] <;> omega) ⟨.int ys.length, H, I.tok _, ⟨s.toks + 1, by rw [List.size_toArray, hlen]⟩, q⟩
theorem call_len_str : CallR X (.builtin "len") (fun xs H Q => ∃ z, xs = [.str z] ∧ z.length ≤ sizeLine ∧ Q (.int z.length) H) := by
  intro pins s σ H xs us Q I r h
  obtain ⟨z, rfl, hz, q⟩ := h
  obtain ⟨u, rfl, t, rfl⟩ := vals1 r
  have hn := line63
  exact len_str (by omega) ⟨.int z.length, H, I.tok _, ⟨_, rfl⟩, q⟩
theorem CallR.or {f : Value} {r r' : List V → Hp → VK → Prop} (h : CallR X f r) (h' : CallR X f r') : CallR X f (fun xs H Q => r xs H Q ∨ r' xs H Q) := by
  intro pins s σ H xs us Q I rs q
  rcases q with q | q
  · exact h pins s σ H xs us Q I rs q
  · exact h' pins s σ H xs us Q I rs q
/-! ### the call of a builtin's method: o.m(..) -/
/-- the value is of that builtin type -/
def tyV (K : PySem.W.Frag) (T : String) (x : V) (H : Hp) : Prop := match x with
  | .str _ => T = "str"
  | .int _ => T = "int"
  | .ref p => (T = "list" ∧ ∃ xs, SqL K H p xs) ∨ (T = "tuple" ∧ ∃ o, K.lookup p = some o ∧ o.cls = .type "tuple" ∧ o.dict = none) ∨
      (T = "dict" ∧ ((∃ kvs, H p = some (.dK kvs)) ∨ ∃ kvs, H p = some (.dT kvs))) ∨ (T = "set" ∧ ∃ S n, H p = some (.set S n))
  | _ => False
def tBM0 (K : PySem.W.Frag) (T : String) (r : V → List V → Hp → VK → Prop) (to : TE) : TE := fun σ H Q => to σ H fun x H1 => tyV K T x H1 ∧ r x [] H1 Q
def tBM (K : PySem.W.Frag) (T : String) (r : V → List V → Hp → VK → Prop) (to : TE) (t : TA) : TE := fun σ H Q => to σ H fun x H1 => tyV K T x H1 ∧ t σ H1 fun xs H2 => r x xs H2 Q
variable {o e : Expr} {es : List Expr} {to : TE} {t : TA} {name : Str} {apos cpos : Pos} {T id : String} {r : V → List V → Hp → VK → Prop}
/- xs.append(e), list.index on a module's tuple .. are MtR facts of 06m -/
end
end L2

namespace L2
open PySem PySem.Spec PyProof.Rows

def MtM (X : Cx) (id : String) (r : V → List V → Hp → VK → Prop) : Prop :=
  ∀ (pins : List (Addr × Obj)) (s : Shared) (σ : St) (H : Hp) (x : V) (xs : List V) (v : Value) (us : List Value) (Q : VK), Inv X pins σ H s → RelV x v → Vals xs us → r x xs H Q →
    wpAny (model X.prog X.w) X.A (call (.builtin id) (v :: us)) (EP X pins σ Q) X.xe s

/-! ### lists of values -/
theorem Vals.one : ∀ {x : V} {us : List Value}, Vals [x] us → ∃ u, us = [u] ∧ RelV x u
  | _, _, .cons r .nil => ⟨_, rfl, r⟩
theorem Vals.two : ∀ {x y : V} {us : List Value}, Vals [x, y] us → ∃ u v, us = [u, v] ∧ RelV x u ∧ RelV y v
  | _, _, _, .cons r (.cons q .nil) => ⟨_, _, rfl, r, q⟩
theorem Vals.zero : ∀ {us : List Value}, Vals [] us → us = []
  | _, .nil => rfl
theorem Vals.dropLast {xs : List V} {us : List Value} (h : Vals xs us) : Vals xs.dropLast us.dropLast := by
  induction h with
  | nil => exact .nil
  | cons r t ih =>
    cases t with
    | nil => exact .nil
    | cons q t' => exact .cons r ih
theorem Vals.eraseIdx : ∀ {xs : List V} {us : List Value} (i : Nat), Vals xs us → Vals (xs.eraseIdx i) (us.eraseIdx i)
  | _, _, _, .nil => .nil
  | _, _, 0, .cons _ t => t
  | _, _, i + 1, .cons r t => .cons r (Vals.eraseIdx i t)
theorem Vals.reverse {xs : List V} {us : List Value} (h : Vals xs us) : Vals xs.reverse us.reverse := by
  induction h with
  | nil => exact .nil
  | cons r t ih => rw [List.reverse_cons, List.reverse_cons]; exact Vals.append ih (.cons r .nil)
section
variable {X : Cx} {pins : List (Addr × Obj)} {σ : St} {H : Hp} {s : Shared} {l b : Addr} {xs ys zs : List V}

/-! ### the two steps: a tracked list is rewritten, a new list is laid -/
theorem Inv.lnew {its : List Value} {t' : Nat} (I : Inv X pins σ H s) (hv : Vals ys its) (hz : ys.length ≤ sizeLine) :
    Inv X pins σ (upd H s.heap.objs.size (.lst ys)) { s with heap := s.heap.push { cls := .type "list", data := .seq its.toArray }, toks := t' } :=
  I.laid (fun _ _ q => Heap.get?_push_of_some _ q) (Nat.le_refl _) ⟨hz, its, 0, hv, Heap.get?_push_size _ rfl⟩
theorem Inv.fresh (I : Inv X pins σ H s) : H s.heap.objs.size = none := I.hok.fresh (Nat.le_refl _)
theorem Inv.lstM (I : Inv X pins σ H s) (hH : H l = some (.lst xs)) : xs.length ≤ sizeLine ∧ ∃ (its : List Value) (n : Nat), Vals xs its ∧ xs.length = its.length ∧ s.heap.get? l = some { cls := .type "list", data := .seq its.toArray n } := by
  obtain ⟨z, its, n, r, e⟩ := I.hok l _ hH
  exact ⟨z, its, n, r, r.length, e⟩

end

section
variable {X : Cx}

/-! ### methods -/
def rAppend : V → List V → Hp → VK → Prop := fun x vs H Q => ∃ l xs y, x = .ref l ∧ vs = [y] ∧ H l = some (.lst xs) ∧ xs.length < sizeLine ∧ Q .non (upd H l (.lst (xs ++ [y])))
def rExtend : V → List V → Hp → VK → Prop := fun x vs H Q => ∃ l b xs zs, x = .ref l ∧ vs = [.ref b] ∧ H l = some (.lst xs) ∧ H b = some (.lst zs) ∧ xs.length + zs.length ≤ sizeLine ∧ Q .non (upd H l (.lst (xs ++ zs)))
def rPop : V → List V → Hp → VK → Prop := fun x vs H Q => ∃ l xs y, x = .ref l ∧ vs = [] ∧ H l = some (.lst xs) ∧ xs[xs.length - 1]? = some y ∧ Q y (upd H l (.lst xs.dropLast))
def rPopAt : V → List V → Hp → VK → Prop := fun x vs H Q => ∃ l xs i k y, x = .ref l ∧ vs = [.int i] ∧ H l = some (.lst xs) ∧ -(2 ^ 63) ≤ i ∧ i < 2 ^ 63 ∧ seqIndex? i xs.length = some k ∧ xs[k]? = some y ∧ Q y (upd H l (.lst (xs.eraseIdx k)))
def rReverse : V → List V → Hp → VK → Prop := fun x vs H Q => ∃ l xs, x = .ref l ∧ vs = [] ∧ H l = some (.lst xs) ∧ Q .non (upd H l (.lst xs.reverse))
def rClear : V → List V → Hp → VK → Prop := fun x vs H Q => ∃ l xs, x = .ref l ∧ vs = [] ∧ H l = some (.lst xs) ∧ Q .non (upd H l (.lst []))
/-! ### list + list, list += list, list * int -/
def rCat : R2 := fun x y H Q => ∃ l b xs zs, x = .ref l ∧ y = .ref b ∧ H l = some (.lst xs) ∧ H b = some (.lst zs) ∧ xs.length + zs.length ≤ sizeLine ∧ ∀ p, H p = none → Q (.ref p) (upd H p (.lst (xs ++ zs)))
theorem op_cat : OpR X (binaryOp .Add) rCat := by
  intro pins s σ H x y v u Q I rx ry h
  obtain ⟨l, b, xs, zs, rfl, rfl, hH, hB, hz, q⟩ := h
  cases rx
  cases ry
  obtain ⟨z, its, n, r, hl, e⟩ := I.lstM hH
  obtain ⟨z2, its2, n2, r2, hl2, e2⟩ := I.lstM hB
  refine PySem.P.add_list e e2 ?_ (by rw [List.size_toArray, List.size_toArray]; omega)
  have ea : its.toArray ++ its2.toArray = (its ++ its2).toArray := by simp
  rw [ea]
  exact ⟨.ref _, _, I.lnew (t' := s.toks) (r.append r2) (by rw [List.length_append]; omega), rfl, q _ I.fresh⟩
/-- a list times an int (a negative one is nothing) -/
def rRep : R2 := fun x y H Q => ∃ l k xs, x = .ref l ∧ y = .int k ∧ H l = some (.lst xs) ∧ -(2 ^ 63) ≤ k ∧ k < 2 ^ 63 ∧ xs.length * k.toNat ≤ sizeLine ∧
  ∀ p, H p = none → Q (.ref p) (upd H p (.lst (List.replicate k.toNat xs).flatten))
/-! ### del xs[i] -/
end

/-! ### xs[a:b] = ys -/
section
variable {prog : Program} {w : World} {A : Around} {E : Value → Shared → Prop} {s : Shared}
end

section
variable {X : Cx}
end
end L2

namespace L2
open PySem PySem.Spec PyProof.Rows

theorem Vals.ints : ∀ {ns : List Int} {us : List Value}, Vals (ns.map V.int) us → IntsAre us ns
  | [], us, h => by
    rw [List.map_nil] at h
    cases h
    exact IntsAre.nil
  | n :: ns, us, h => by
    rw [List.map_cons] at h
    cases h with
    | cons r t =>
      obtain ⟨k, rfl⟩ := r
      exact IntsAre.cons n k (Vals.ints t)
theorem Vals.strs : ∀ {xs : List Str} {us : List Value}, Vals (xs.map V.str) us → StrsAre us xs
  | [], us, h => by
    rw [List.map_nil] at h
    cases h
    exact StrsAre.nil
  | x :: xs, us, h => by
    rw [List.map_cons] at h
    cases h with
    | cons r t =>
      obtain ⟨k, rfl⟩ := r
      exact StrsAre.cons x k (Vals.strs t)
theorem vals_of_strs : ∀ {us : List Value} {xs : List Str}, StrsAre us xs → Vals (xs.map V.str) us
  | _, _, .nil => by rw [List.map_nil]; exact Paired.nil
  | _, _, .cons x t h => by rw [List.map_cons]; exact Paired.cons (show RelV (V.str x) (Value.str x t) from ⟨t, rfl⟩) (vals_of_strs h)
theorem Vals.ref1 {a : Addr} {us : List Value} (r : Vals [V.ref a] us) : us = [Value.ref a] := by
  cases r with
  | cons r t =>
    cases t
    cases r
    rfl
/-! ### the library's walks over a list of ints, kept objects alone -/
section
variable {prog : Program} {w : World} {A : Around} {E : Value → Shared → Prop} {s : Shared} {l : Addr} {its : List Value} {ns : List Int} {Q : Value → Shared → Prop}
end

/-! ### the calls, by values (CallR of 03t; MtR of 06l) -/
section
variable {X : Cx}
/-- sum(xs) of a list of ints -/
def rSum (K : PySem.W.Frag) : List V → Hp → VK → Prop := fun vs H Q => ∃ (a : Addr) (ns : List Int), vs = [V.ref a] ∧ SqL K H a (ns.map V.int) ∧ Q (.int ns.sum) H
/-- max(xs), min(xs) of a list of ints -/
def rMax (K : PySem.W.Frag) : List V → Hp → VK → Prop := fun vs H Q => ∃ (a : Addr) (ns : List Int), vs = [V.ref a] ∧ SqL K H a (ns.map V.int) ∧ 0 < ns.length ∧ ∀ m, m ∈ ns → (∀ y, y ∈ ns → y ≤ m) → Q (.int m) H
def rMin (K : PySem.W.Frag) : List V → Hp → VK → Prop := fun vs H Q => ∃ (a : Addr) (ns : List Int), vs = [V.ref a] ∧ SqL K H a (ns.map V.int) ∧ 0 < ns.length ∧ ∀ m, m ∈ ns → (∀ y, y ∈ ns → m ≤ y) → Q (.int m) H
/-! sorted, sort (fewer than 64 items: the library's own bound) -/
def rSorted (K : PySem.W.Frag) : List V → Hp → VK → Prop := fun vs H Q => ∃ (a : Addr) (ns : List Int), vs = [V.ref a] ∧ SqL K H a (ns.map V.int) ∧ ns.length < 64 ∧
  ∀ (ns' : List Int) (p : Addr), ns'.Perm ns → ns'.Pairwise (· ≤ ·) → H p = none → Q (.ref p) (upd H p (.lst (ns'.map V.int)))
def rSortedS (K : PySem.W.Frag) : List V → Hp → VK → Prop := fun vs H Q => ∃ (a : Addr) (xs : List Str), vs = [V.ref a] ∧ SqL K H a (xs.map V.str) ∧ xs.length < 64 ∧
  ∀ (ys : List Str) (p : Addr), ys.Perm xs → sortedS ys = true → H p = none → Q (.ref p) (upd H p (.lst (ys.map V.str)))
/-- xs.sort(), ints -/
def rSort : V → List V → Hp → VK → Prop := fun x xs H Q => ∃ (a : Addr) (ns : List Int), x = V.ref a ∧ xs = [] ∧ H a = some (.lst (ns.map V.int)) ∧ ns.length < 64 ∧
  ∀ ns' : List Int, ns'.Perm ns → ns'.Pairwise (· ≤ ·) → Q .non (upd H a (.lst (ns'.map V.int)))
end

/-! ### list.index, flat items -/
section
variable {X : Cx}
def rIndex (K : PySem.W.Frag) : V → List V → Hp → VK → Prop := fun x xs H Q => ∃ (a : Addr) (ys : List V) (y : V) (j : Nat) (z : V), x = V.ref a ∧ xs = [y] ∧ SqL K H a ys ∧ flatV y = true ∧ ys.all flatV = true ∧ ys[j]? = some z ∧ eqV z y = true ∧
  (∀ (m : Nat) (z' : V), m < j → ys[m]? = some z' → eqV z' y = false) ∧ Q (.int (j : Nat)) H
end

/-! ### type(x) of an own instance; is, is not of a module's class -/
section
variable {X : Cx}
end

/-! ### any(xs), all(xs) of a list of bools -/
section
variable {X : Cx}
def rAny (K : PySem.W.Frag) : List V → Hp → VK → Prop := fun vs H Q => ∃ (a : Addr) (bs : List Bool), vs = [V.ref a] ∧ SqL K H a (bs.map V.bl) ∧ Q (.bl (bs.any id)) H
def rAll (K : PySem.W.Frag) : List V → Hp → VK → Prop := fun vs H Q => ∃ (a : Addr) (bs : List Bool), vs = [V.ref a] ∧ SqL K H a (bs.map V.bl) ∧ Q (.bl (bs.all id)) H
end

/-! ### == and != of data at any depth: none, bools, ints, texts, lists, tuples -/
mutual
inductive Dp (K : PySem.W.Frag) (H : Hp) : V → PyData → Prop
  | non : Dp K H .non .none
  | bl (b : Bool) : Dp K H (.bl b) (.bool b)
  | int (i : Int) : Dp K H (.int i) (.int i)
  | str (x : Str) : Dp K H (.str x) (.str x)
  | lst {a : Addr} {xs : List V} {ds : List PyData} : SqL K H a xs → DpAll K H xs ds → Dp K H (.ref a) (.list ds)
  | tup {a : Addr} {xs : List V} {ds : List PyData} : SqT K H a xs → DpAll K H xs ds → Dp K H (.ref a) (.tuple ds)
inductive DpAll (K : PySem.W.Frag) (H : Hp) : List V → List PyData → Prop
  | nil : DpAll K H [] []
  | cons {v : V} {vs : List V} {d : PyData} {ds : List PyData} : Dp K H v d → DpAll K H vs ds → DpAll K H (v :: vs) (d :: ds)
end
section
variable {X : Cx} {pins : List (Addr × Obj)} {σ : St} {H : Hp} {s : Shared}
mutual
theorem Dp.reads (I : Inv X pins σ H s) : ∀ (d : PyData) (v : V) (u : Value), Dp X.K H v d → RelV v u → ∃ as, Reads s.heap u d as
  | .none, _, _, h, r => by
    cases h
    cases r
    exact ⟨_, Reads.none⟩
  | .bool b, _, _, h, r => by
    cases h
    cases r
    exact ⟨_, Reads.bool b⟩
  | .int i, _, _, h, r => by
    cases h
    obtain ⟨t, rfl⟩ := r
    exact ⟨_, Reads.int i t⟩
  | .str x, _, _, h, r => by
    cases h
    obtain ⟨t, rfl⟩ := r
    exact ⟨_, Reads.str x t⟩
  | .list ds, _, _, h, r => by
    cases h with
    | lst hs ha =>
      cases r
      obtain ⟨its, rv, ⟨o, n, ho, hc, _, hd⟩, _⟩ := I.list hs
      obtain ⟨as, hr⟩ := Dp.readsAll I ds _ its ha rv
      exact ⟨_, Reads.list ho hc hd hr⟩
  | .tuple ds, _, _, h, r => by
    cases h with
    | tup hs ha =>
      cases r
      obtain ⟨its, rv, ⟨o, ho, hc, n, hd⟩, _⟩ := I.tuple hs
      obtain ⟨as, hr⟩ := Dp.readsAll I ds _ its ha rv
      exact ⟨_, Reads.tuple ho hc hd hr⟩
  | .dict _, _, _, h, _ => by cases h
theorem Dp.readsAll (I : Inv X pins σ H s) : ∀ (ds : List PyData) (vs : List V) (us : List Value), DpAll X.K H vs ds → Vals vs us → ∃ as, ReadsAll s.heap us ds as
  | [], _, _, h, r => by
    cases h
    cases r
    exact ⟨_, ReadsAll.nil⟩
  | d :: ds, _, _, h, r => by
    cases h with
    | cons h1 h2 =>
      cases r with
      | cons r1 r2 =>
        obtain ⟨as, q1⟩ := Dp.reads I d _ _ h1 r1
        obtain ⟨bs, q2⟩ := Dp.readsAll I ds _ _ h2 r2
        exact ⟨_, ReadsAll.cons q1 q2⟩
end
end
section
variable {X : Cx}
def rEqD (K : PySem.W.Frag) : R2 := fun x y H Q => ∃ d e, Dp K H x d ∧ Dp K H y e ∧ SeqAt.shaped d = true ∧ SeqAt.shaped e = true ∧ Q (.bl (PyData.eqv d e)) H
def rNeD (K : PySem.W.Frag) : R2 := fun x y H Q => ∃ d e, Dp K H x d ∧ Dp K H y e ∧ SeqAt.shaped d = true ∧ SeqAt.shaped e = true ∧ Q (.bl (!PyData.eqv d e)) H
theorem op_eqD (hu : X.A.units + 64 < cLine) : OpR X (compareOp .Eq) (rEqD X.K) := by
  intro pins s σ H x y v u Q I rx ry h
  obtain ⟨d, e, hd, he, sd, se, q⟩ := h
  obtain ⟨as, r1⟩ := Dp.reads I d x v hd rx
  obtain ⟨bs, r2⟩ := Dp.reads I e y u he ry
  exact SeqAt.compareEq_shaped r1 r2 sd se hu ⟨.bl _, H, I, rfl, q⟩
theorem op_neD (hu : X.A.units + 64 < cLine) : OpR X (compareOp .NotEq) (rNeD X.K) := by
  intro pins s σ H x y v u Q I rx ry h
  obtain ⟨d, e, hd, he, sd, se, q⟩ := h
  obtain ⟨as, r1⟩ := Dp.reads I d x v hd rx
  obtain ⟨bs, r2⟩ := Dp.reads I e y u he ry
  exact SeqAt.compareNe_shaped r1 r2 sd se hu ⟨.bl _, H, I, rfl, q⟩
end
end L2

namespace L2
open PySem PySem.Spec PyProof.Rows
abbrev CellAt (h : Heap) (c : Addr) (v : Option Value) : Prop := h.IsCell c v
def relS (scope sc : Scope) : Scope :=
  { scope with names := scope.names.map fun (n, k) => if (k == .free && sc.kind == .function && sc.names.lookup n == some .cell) then (n, .cell) else (n, k) }

def cloFrom (cells : List (Str × Addr)) : List (Str × NameKind) → List (Str × Addr) → List (Str × Addr)
  | [], acc => acc
  | (n, k) :: r, acc => if k == .free then cloFrom cells r ((n, (cells.lookup n).getD 0) :: acc) else cloFrom cells r acc

theorem closure_loop (env : Env) (f : Str × NameKind → List (Str × Addr) → Sem (ForInStep (List (Str × Addr))))
    (hf : ∀ n k c, f (n, k) c = if k == .free then (do let a ← cellOf env n; pure (.yield ((n, a) :: c))) else pure (.yield c)) :
    ∀ (names : List (Str × NameKind)) (acc : List (Str × Addr)), (∀ y ∈ names, y.2 = .free → ∃ c, env.cells.lookup y.1 = some c) → forIn names acc f = pure (cloFrom env.cells names acc)
  | [], acc, _ => by rw [List.forIn_nil]; rfl
  | (n, k) :: r, acc, h => by
    rw [List.forIn_cons, hf]
    have ih := fun acc => closure_loop env f hf r acc fun y hy => h y (List.mem_cons_of_mem _ hy)
    unfold cloFrom
    by_cases hk : (k == NameKind.free) = true
    · rw [if_pos hk, if_pos hk]
      obtain ⟨c, hc⟩ := h (n, k) List.mem_cons_self (by simpa using hk)
      have e : cellOf env n = pure c := by unfold cellOf; rw [hc]
      rw [e]
      have e2 : (env.cells.lookup n).getD 0 = c := by rw [hc]; rfl
      rw [e2]
      exact ih _
    · rw [if_neg hk, if_neg hk]
      exact ih _
theorem closure_ok {scope : Scope} {env : Env} (h : ∀ y ∈ scope.names, y.2 = .free → ∃ c, env.cells.lookup y.1 = some c) : closureFor scope env = pure (cloFrom env.cells scope.names []) := by
  simp only [closureFor]
  rw [closure_loop env _ (fun n k c => rfl) scope.names [] h]
  rfl

theorem mem_lookup {α : Type} : ∀ {l : List (Str × α)} {n : Str} {c : α}, (n, c) ∈ l → ∃ c', l.lookup n = some c'
  | (k, v) :: r, n, c, h => by
    rw [List.lookup_cons]
    cases hb : n == k with
    | true => exact ⟨_, rfl⟩
    | false =>
      rcases List.mem_cons.mp h with e | h
      · cases e; simp at hb
      · exact mem_lookup h

theorem cloFrom_mem {cells : List (Str × Addr)} : ∀ {names : List (Str × NameKind)} {acc : List (Str × Addr)} {n : Str} {c : Addr}, (n, c) ∈ cloFrom cells names acc → (n, c) ∈ acc ∨ ((n, .free) ∈ names ∧ c = (cells.lookup n).getD 0)
  | [], _, _, _, h => .inl h
  | (m, k) :: r, acc, n, c, h => by
    unfold cloFrom at h
    split at h
    · rename_i hk
      have hk : k = .free := by simpa using hk
      rcases cloFrom_mem h with h | ⟨h1, h2⟩
      · rcases List.mem_cons.mp h with e | h
        · cases e; exact .inr ⟨hk ▸ List.mem_cons_self, rfl⟩
        · exact .inl h
      · exact .inr ⟨List.mem_cons_of_mem _ h1, h2⟩
    · rcases cloFrom_mem h with h | ⟨h1, h2⟩
      · exact .inl h
      · exact .inr ⟨List.mem_cons_of_mem _ h1, h2⟩
theorem cloFrom_acc {cells : List (Str × Addr)} : ∀ {names : List (Str × NameKind)} {acc : List (Str × Addr)} {p : Str × Addr}, p ∈ acc → p ∈ cloFrom cells names acc
  | [], _, _, h => h
  | (m, k) :: r, acc, p, h => by
    unfold cloFrom
    split
    · exact cloFrom_acc (List.mem_cons_of_mem _ h)
    · exact cloFrom_acc h
theorem cloFrom_has {cells : List (Str × Addr)} : ∀ {names : List (Str × NameKind)} {acc : List (Str × Addr)} {n : Str}, (n, .free) ∈ names → (n, (cells.lookup n).getD 0) ∈ cloFrom cells names acc
  | (m, k) :: r, acc, n, h => by
    unfold cloFrom
    rcases List.mem_cons.mp h with e | h
    · cases e
      exact cloFrom_acc List.mem_cons_self
    · split
      · exact cloFrom_has h
      · exact cloFrom_has h

theorem cells_mem : ∀ {names : List (Str × NameKind)} {h : Heap} {acc : List (Str × Addr)} {x : Str} {c : Addr}, (x, c) ∈ cellsFrom h.objs.size names acc →
    (x, c) ∈ acc ∨ ((x, .cell) ∈ names ∧ h.objs.size ≤ c ∧ CellAt (pushCells h names) c none)
  | [], _, _, _, _, h => .inl h
  | (n, k) :: r, h, acc, x, c, hm => by
    unfold cellsFrom at hm
    unfold pushCells
    split at hm
    · rename_i hk
      rw [if_pos hk]
      have hk : k = .cell := by simpa using hk
      rw [← Heap.size_push h { cls := .type "cell", data := .cell none }] at hm
      rcases cells_mem hm with hm | ⟨h1, h2, h3⟩
      · rcases List.mem_cons.mp hm with e | hm
        · cases e
          exact .inr ⟨hk ▸ List.mem_cons_self, Nat.le_refl _, _, pushCells_keeps r _ _ _ (Heap.get?_push_size _ rfl), rfl⟩
        · exact .inl hm
      · rw [Heap.size_push] at h2
        exact .inr ⟨List.mem_cons_of_mem _ h1, Nat.le_of_succ_le h2, h3⟩
    · rename_i hk
      rw [if_neg hk]
      rcases cells_mem hm with hm | ⟨h1, h2, h3⟩
      · exact .inl hm
      · exact .inr ⟨List.mem_cons_of_mem _ h1, h2, h3⟩
theorem cells_acc : ∀ {names : List (Str × NameKind)} {n : Nat} {acc : List (Str × Addr)} {p : Str × Addr}, p ∈ acc → p ∈ cellsFrom n names acc
  | [], _, _, _, h => h
  | (m, k) :: r, n, acc, p, h => by
    unfold cellsFrom
    split
    · exact cells_acc (List.mem_cons_of_mem _ h)
    · exact cells_acc h
theorem cells_has : ∀ {names : List (Str × NameKind)} {n : Nat} {acc : List (Str × Addr)} {x : Str}, (x, .cell) ∈ names → ∃ c, (x, c) ∈ cellsFrom n names acc
  | (m, k) :: r, n, acc, x, h => by
    unfold cellsFrom
    rcases List.mem_cons.mp h with e | h
    · cases e
      exact ⟨n, cells_acc List.mem_cons_self⟩
    · split
      · exact cells_has h
      · exact cells_has h
theorem cells_inj : ∀ {names : List (Str × NameKind)} {h : Heap} {acc : List (Str × Addr)} {x y : Str} {c : Addr}, (∀ p ∈ acc, p.2 < h.objs.size) → (∀ x y c, (x, c) ∈ acc → (y, c) ∈ acc → x = y) →
    (x, c) ∈ cellsFrom h.objs.size names acc → (y, c) ∈ cellsFrom h.objs.size names acc → x = y
  | [], _, _, _, _, _, _, hi, h1, h2 => hi _ _ _ h1 h2
  | (n, k) :: r, h, acc, x, y, c, hl, hi, h1, h2 => by
    unfold cellsFrom at h1 h2
    split at h1
    · rename_i hk
      rw [if_pos hk] at h2
      rw [← Heap.size_push h { cls := .type "cell", data := .cell none }] at h1 h2
      refine cells_inj (h := h.push _) (fun p hp => ?_) (fun x y c a b => ?_) h1 h2
      · rw [Heap.size_push]
        rcases List.mem_cons.mp hp with rfl | hp
        · exact Nat.lt_succ_self _
        · exact Nat.lt_succ_of_lt (hl p hp)
      · rcases List.mem_cons.mp a with e | a <;> rcases List.mem_cons.mp b with e' | b
        · cases e; cases e'; rfl
        · cases e; exact absurd (hl _ b) (Nat.lt_irrefl _)
        · cases e'; exact absurd (hl _ a) (Nat.lt_irrefl _)
        · exact hi _ _ _ a b
    · rename_i hk
      rw [if_neg hk] at h2
      exact cells_inj hl hi h1 h2

theorem newEnv_comp {M : Model} {A : Around} {E : Value → Shared → Prop} {s : Shared} {scope : Scope} {globals : Addr} {closure : List (Str × Addr)} {qual : Str} {func : Option Addr} {code : Value} {around : Env} {builtins : Addr} {Q : Env → Shared → Prop}
    (h : Q (newEnv scope s.heap.objs.size globals (cellsFrom (s.heap.objs.size + 1) scope.names closure) qual func code (some around) builtins)
      { s with heap := pushCells (s.heap.push { cls := .type "dict", data := .dict #[] }) scope.names }) :
    wpAny M A (newFunctionEnv scope globals closure [] qual func code (some around) builtins) Q E s := by
  simp only [newFunctionEnv, Option.isSome_some, if_true]
  refine wpAny_bind (wpAny_alloc ?_)
  refine wpAny_bind (wpAny_layCells _ (fun n k c => rfl) scope.names closure _ _ ?_)
  rw [show ({ s with heap := s.heap.push { cls := .type "dict", data := .dict #[] } } : Shared).heap.objs.size = s.heap.objs.size + 1 from Heap.size_push ..]
  rw [List.forIn_nil]
  exact wpAny_bind (wpAny_pure (wpAny_pure h))

/-- every name of the written scope, in the scope that runs -/
theorem lookup_relS {sc : Scope} : ∀ {names : List (Str × NameKind)} {x : Str} {k : NameKind},
    (names.map fun (n, k) => if (k == NameKind.free && sc.kind == .function && sc.names.lookup n == some .cell) then (n, NameKind.cell) else (n, k)).lookup x = some k →
    ∃ k', names.lookup x = some k' ∧ (k = k' ∨ (k' = .free ∧ k = .cell))
  | [], _, _, h => by simp at h
  | (n, k₀) :: r, x, k, h => by
    have ih := @lookup_relS sc r x k
    have h' : List.lookup x ((if (k₀ == NameKind.free && sc.kind == .function && sc.names.lookup n == some .cell) = true then (n, NameKind.cell) else (n, k₀)) :: (r.map _)) = some k := h
    cases hx : x == n with
    | true =>
      simp only [List.lookup_cons, hx]
      by_cases hc : (k₀ == NameKind.free && sc.kind == .function && sc.names.lookup n == some .cell) = true
      · rw [if_pos hc] at h'
        simp only [List.lookup_cons, hx] at h'
        cases h'
        simp only [Bool.and_eq_true, beq_iff_eq] at hc
        exact ⟨k₀, rfl, .inr ⟨hc.1.1, rfl⟩⟩
      · rw [if_neg hc] at h'
        simp only [List.lookup_cons, hx] at h'
        cases h'
        exact ⟨_, rfl, .inl rfl⟩
    | false =>
      simp only [List.lookup_cons, hx]
      by_cases hc : (k₀ == NameKind.free && sc.kind == .function && sc.names.lookup n == some .cell) = true
      · rw [if_pos hc] at h'
        simp only [List.lookup_cons, hx] at h'
        exact ih h'
      · rw [if_neg hc] at h'
        simp only [List.lookup_cons, hx] at h'
        exact ih h'
/-- the names of a comprehension's block: its own (with their places in N), or captured -/
structure BlkOk (N : List Str) (sc scope : Scope) (own : List (Str × Nat)) : Prop where
  kind : scope.kind = .function
  uniq : ∀ y ∈ scope.names, scope.names.lookup y.1 = some y.2
  ix : ∀ p ∈ own, N[p.2]? = some p.1
  free : ∀ y ∈ scope.names, y.2 = .free → sc.names.lookup y.1 = some .cell ∨ sc.names.lookup y.1 = some .free
  own : ∀ y ∈ scope.names, y.2 = .local ∨ y.2 = .cell → y.1 ∈ own.map (·.1) ∨ y.1 ∉ N
/-- the slots of the block's own names forgotten -/
def wipe (σ : St) : List Nat → St
  | [] => σ
  | v :: vs => (wipe σ vs).set v none
theorem wipe_length (σ : St) : ∀ vs : List Nat, (wipe σ vs).length = σ.length
  | [] => rfl
  | v :: vs => by unfold wipe; rw [List.length_set, wipe_length σ vs]
theorem wipe_some {σ : St} {i : Nat} {x : V} : ∀ {vs : List Nat}, (wipe σ vs)[i]? = some (some x) → σ[i]? = some (some x) ∧ i ∉ vs
  | [], h => ⟨h, by simp⟩
  | v :: vs, h => by
    unfold wipe at h
    by_cases hi : v = i
    · subst hi
      by_cases hv : v < (wipe σ vs).length
      · rw [List.getElem?_set_self hv] at h; cases h
      · rw [List.getElem?_eq_none (by simpa using hv)] at h; cases h
    · rw [List.getElem?_set_ne hi] at h
      obtain ⟨h1, h2⟩ := wipe_some h
      exact ⟨h1, by simp only [List.mem_cons, not_or]; exact ⟨fun e => hi e.symm, h2⟩⟩

/-- the context of a block that starts at s, its iterator's objects at fp -/
abbrev Cx.blk (X : Cx) (s : Shared) (H : Hp) (scope : Scope) (cenv : Env) (fp : List Addr) : Cx := { X with s_0 := s, H_0 := H, env := cenv, outer := X.stack, ex := fp, fn := fun x => scope.names.lookup x == some .cell, pn := [], xe := fun _ _ => False }
section
variable {X : Cx} {pins : List (Addr × Obj)} {σ : St} {H : Hp} {s : Shared}
theorem block_start {scope : Scope} {own : List (Str × Nat)} {fp : List Addr} (I : Inv X pins σ H s) (ok : BlkOk X.N X.env.scope scope own) (hN : X.N.Nodup) (hfp : ∀ b ∈ fp, FpOk X pins H b ∧ b < s.heap.objs.size) :
    Inv (X.blk s H scope (compEnvC scope (cellsFrom (s.heap.objs.size + 1) scope.names (cloFrom X.env.cells scope.names [])) s.heap.objs.size X.env) fp) [] (wipe σ (own.map (·.2))) H { s with heap := pushCells (s.heap.push { cls := .type "dict", data := .dict #[] }) scope.names } := by
  have hfree : ∀ y ∈ scope.names, y.2 = .free → ∃ c, X.env.cells.lookup y.1 = some c := fun y hy e => by
    rcases ok.free y hy e with k | k
    · exact I.ok.has _ (.inl k)
    · exact I.ok.has _ (.inr k)
  generalize hcenv : compEnvC scope (cellsFrom (s.heap.objs.size + 1) scope.names (cloFrom X.env.cells scope.names [])) s.heap.objs.size X.env = cenv
  have kp : ∀ b o, s.heap.get? b = some o → (pushCells (s.heap.push { cls := .type "dict", data := .dict #[] }) scope.names).get? b = some o := fun b o e => pushCells_keeps _ _ _ _ (Heap.get?_push_of_some _ e)
  have hL : cenv.locals = s.heap.objs.size := by rw [← hcenv]; rfl
  have hcl : cenv.cells = cellsFrom (s.heap.objs.size + 1) scope.names (cloFrom X.env.cells scope.names []) := by rw [← hcenv]; rfl
  have hsc : cenv.scope = relS scope X.env.scope := by rw [← hcenv]; rfl
  rw [← Heap.size_push s.heap { cls := .type "dict", data := .dict #[] }] at hcl
  have cm : ∀ {y c}, (y, c) ∈ cloFrom X.env.cells scope.names [] → X.env.cells.lookup y = some c ∧ c < s.heap.objs.size := fun {y c} hm => by
    rcases cloFrom_mem hm with hm | ⟨h1, rfl⟩
    · cases hm
    · obtain ⟨c, hc⟩ := hfree _ h1 rfl
      rw [hc]
      obtain ⟨w, z⟩ := I.cell _ _ hc
      exact ⟨rfl, z.lt⟩
  have mem : ∀ {y c}, cenv.cells.lookup y = some c → (X.env.cells.lookup y = some c ∧ c < s.heap.objs.size) ∨ (s.heap.objs.size + 1 ≤ c ∧ CellAt (pushCells (s.heap.push { cls := .type "dict", data := .dict #[] }) scope.names) c none) := fun {y c} e => by
    rw [hcl] at e
    rcases cells_mem (PySem.mem_of_lookup e) with hm | ⟨_, h2, h3⟩
    · exact .inl (cm hm)
    · rw [Heap.size_push] at h2; exact .inr ⟨h2, h3⟩
  have look : ∀ {y}, scope.names.lookup y = some .free → ∃ c, cenv.cells.lookup y = some c ∧ X.env.cells.lookup y = some c := fun {y} hl => by
    have hy : (y, NameKind.free) ∈ scope.names := PySem.mem_of_lookup hl
    obtain ⟨c', e'⟩ := mem_lookup (cells_acc (names := scope.names) (n := (s.heap.push { cls := .type "dict", data := .dict #[] }).objs.size) (cloFrom_has (cells := X.env.cells) (acc := []) hy))
    rw [← hcl] at e'
    refine ⟨c', e', ?_⟩
    rw [hcl] at e'
    rcases cells_mem (PySem.mem_of_lookup e') with hm | ⟨h1, _, _⟩
    · exact (cm hm).1
    · have := ok.uniq _ h1
      rw [hl] at this; cases this
  have okB : (X.blk s H scope cenv fp).Ok := by
    refine ⟨I.ok.mod, by show cenv.scope.kind = _; rw [hsc]; exact ok.kind, by show cenv.globals = _; rw [← hcenv]; exact I.ok.glob, by show cenv.builtins = _; rw [← hcenv]; exact I.ok.blt, by show s.heap.objs.size ≤ cenv.locals; rw [hL]; exact Nat.le_refl _,
      fun y z c e1 e2 => ?_, fun y hy => ?_, fun y c z e => ?_, I.ok.hd, I.ok.frames, .inl rfl, fun b hb => ⟨?_, fun y c e z => ?_⟩, I.bs, Nat.le_trans I.ok.bsz I.sz, fun b o e hb => ?_, fun b hb z => ?_, I.stack, I.stkFree⟩
    · have e1 : cenv.cells.lookup y = some c := e1
      have e2 : cenv.cells.lookup z = some c := e2
      rw [hcl] at e1 e2
      refine cells_inj (fun p hp => ?_) (fun y z c a b => I.ok.inj y z c (cm a).1 (cm b).1) (PySem.mem_of_lookup e1) (PySem.mem_of_lookup e2)
      rw [Heap.size_push]
      exact Nat.lt_succ_of_lt (cm (y := p.1) (c := p.2) hp).2
    · show ∃ c, cenv.cells.lookup y = some c
      have key : ∀ k, cenv.kindOf y = some k → (k = .cell ∨ k = .free) → ∃ c, cenv.cells.lookup y = some c := fun k hk hk' => by
        unfold Env.kindOf at hk
        rw [hsc] at hk
        obtain ⟨k', e, r⟩ := lookup_relS hk
        have : k' = .cell ∨ k' = .free := by
          rcases r with rfl | ⟨rfl, _⟩
          · exact hk'
          · exact .inr rfl
        rcases this with rfl | rfl
        · obtain ⟨c, hm⟩ := cells_has (n := (s.heap.push { cls := .type "dict", data := .dict #[] }).objs.size) (acc := cloFrom X.env.cells scope.names []) (PySem.mem_of_lookup e)
          obtain ⟨c', e'⟩ := mem_lookup hm
          exact ⟨c', by rw [hcl]; exact e'⟩
        · obtain ⟨c, h1, _⟩ := look e
          exact ⟨c, h1⟩
      rcases hy with hy | hy
      · exact key _ hy (.inl rfl)
      · exact key _ hy (.inr rfl)
    · have z : (scope.names.lookup y == some NameKind.cell) = true := z
      have z : scope.names.lookup y = some .cell := by simpa using z
      have e : cenv.cells.lookup y = some c := e
      rw [hcl] at e
      rcases cells_mem (PySem.mem_of_lookup e) with hm | ⟨_, h2, _⟩
      · rcases cloFrom_mem hm with hm | ⟨h1, _⟩
        · cases hm
        · have q := ok.uniq _ h1
          rw [z] at q; cases q
      · rw [Heap.size_push] at h2
        exact Nat.le_of_succ_le h2
    · show b ≠ cenv.locals
      rw [hL]; exact Nat.ne_of_lt (hfp b hb).2
    · have e : cenv.cells.lookup y = some c := e
      rcases mem e with ⟨h1, _⟩ | ⟨h1, _⟩
      · exact (hfp b hb).1.2.2.2.2.1 y c h1 z
      · have h2 : s.heap.objs.size + 1 ≤ b := by rw [← z]; exact h1
        exact absurd (Nat.lt_of_lt_of_le (hfp b hb).2 (Nat.le_of_succ_le h2)) (Nat.lt_irrefl _)
    · rcases (hfp b hb).1.2.2.2.1 with z | z
      · exact I.ok.noex b o e z
      · exact absurd (Nat.lt_of_lt_of_le (Heap.lt_size e) (Nat.le_trans I.ok.bsz z)) (Nat.lt_irrefl _)
    · rcases List.mem_cons.mp (I.stkSub b z) with z | z
      · exact (hfp b hb).1.2.1 z
      · exact (hfp b hb).1.2.2.1 z
  refine ⟨okB, rfl, I.bare, Un.kept kp, ⟨fun _ => none, ?_, fun i y av e1 e2 e3 => ?_⟩, fun y c e => ?_, ?_, fun y c e => ?_, fun p hp => ?_, I.hok.kept kp, by rw [wipe_length]; exact I.len⟩
  · show Heap.Ns _ cenv.locals _
    rw [hL]
    exact Heap.Ns.keeps (Heap.Ns.new ..) fun b o e => pushCells_keeps _ _ _ _ e
  · obtain ⟨e2, hne⟩ := wipe_some e2
    have hfr : scope.names.lookup y = some .free ∧ (cenv.kindOf y = some .cell ∨ cenv.kindOf y = some .free) := by
      have key : ∀ k, cenv.scope.names.lookup y = some k → k = .local ∨ k = .cell ∨ k = .free → scope.names.lookup y = some .free ∧ (cenv.kindOf y = some .cell ∨ cenv.kindOf y = some .free) := fun k hk hk' => by
        have hk0 := hk
        rw [hsc] at hk
        obtain ⟨k', e, r⟩ := lookup_relS hk
        have no : ¬ (k' = .local ∨ k' = .cell) := fun hh => by
          rcases ok.own _ (PySem.mem_of_lookup e) hh with e' | e'
          · obtain ⟨p, hp, hpy⟩ := List.mem_map.mp e'
            have e3 := ok.ix p hp
            have : p.1 = y := hpy
            rw [this] at e3
            exact hne (List.mem_map.mpr ⟨p, hp, nodup_ix hN e3 e1⟩)
          · exact e' (List.mem_of_getElem? e1)
        rcases r with rfl | ⟨rfl, rfl⟩
        · rcases hk' with rfl | rfl | rfl
          · exact absurd (.inl rfl) no
          · exact absurd (.inr rfl) no
          · exact ⟨e, .inr hk0⟩
        · exact ⟨e, .inl hk0⟩
      have e3 : Vis cenv.scope y := e3
      rcases e3 with e3 | e3 | e3
      · exact key _ e3 (.inl rfl)
      · exact key _ e3 (.inr (.inl rfl))
      · exact key _ e3 (.inr (.inr rfl))
    obtain ⟨m, hn, hl⟩ := I.loc
    have hvis : Vis X.env.scope y := (ok.free _ (PySem.mem_of_lookup hfr.1) rfl).elim (fun k => .inr (.inl k)) (fun k => .inr (.inr k))
    obtain ⟨w, r, q⟩ := hl i y av e1 e2 hvis
    refine ⟨w, r, .inr ⟨hfr.2, ?_⟩⟩
    obtain ⟨c, h1, h2⟩ := look hfr.1
    rcases q with ⟨k, _⟩ | ⟨_, c', e', z⟩
    · have k : X.env.scope.names.lookup y = some .local := k
      rcases ok.free _ (PySem.mem_of_lookup hfr.1) rfl with k' | k' <;> rw [show X.env.scope.names.lookup y = _ from k'] at k <;> cases k
    · rw [h2] at e'; cases e'
      exact ⟨c, h1, z.keeps kp⟩
  · have e : cenv.cells.lookup y = some c := e
    rcases mem e with ⟨h1, _⟩ | ⟨_, z⟩
    · obtain ⟨w, z⟩ := I.cell y c h1
      exact ⟨w, z.keeps kp⟩
    · exact ⟨_, z⟩
  · show H cenv.locals = none
    rw [hL]; exact I.hok.fresh (Nat.le_refl _)
  · have e : cenv.cells.lookup y = some c := e
    rcases mem e with ⟨h1, _⟩ | ⟨h1, _⟩
    · exact I.freeC y c h1
    · exact I.hok.fresh (Nat.le_of_succ_le h1)
  · exact absurd (show p ∈ ([] : List (Addr × Obj)) ++ [] from hp) (by simp)

/-- an item appended to a tracked list -/
theorem app_ok {E : Value → Shared → Prop} {D : Addr} {xs : List V} {y : V} {v : Value} {Q : Value → Shared → Prop} (I : Inv X pins σ H s) (hD : H D = some (.lst xs)) (hz : xs.length < sizeLine) (r : RelV y v)
    (h : ∀ s', Inv X pins σ (upd H D (.lst (xs ++ [y]))) s' → Q .none s') : wpAny (model X.prog X.w) X.A (call (.builtin "list.append") [.ref D, v]) Q E s := by
  obtain ⟨hz', its, n, ri, e⟩ := I.hok D _ hD
  have hl := ri.length
  refine append_at (hsz := by rw [List.size_toArray]; omega) e fun h' sb ho' => ?_
  refine h { s with heap := h' } (I.write (t' := s.toks) (by rw [hD]; trivial) (.inl rfl) (fun b u hb q => (sb.2 b hb).trans q) ⟨_, ho'⟩ ⟨by rw [List.length_append]; exact hz, its ++ [v], n + 1, ri.append (.cons r .nil), ?_⟩)
  rw [ho']
  simp

/-- a clause's tests -/
def PTs (X : Cx) (ifs : List Expr) (t : TT) : Prop :=
  ∀ (pins : List (Addr × Obj)) (s : Shared) (σ : St) (H : Hp) (Q : Bool → Hp → Prop), Inv X pins σ H s → t σ H Q →
    wpAny (model X.prog X.w) X.A (forIn ifs true fun c r => if r = true then do let ok ← isTrue c X.env (eval c X.env); pure (ForInStep.yield ok) else pure (ForInStep.yield r)) (TP X pins σ Q) X.xe s
def tYes : TT := fun _ H Q => Q true H
theorem pts_nil : PTs X [] tYes := fun _ _ _ H _ I h => wpAny_tests_nil ⟨H, I, h⟩
end

theorem thnF {α : Type} {t : Sem α} {Q Q' : α → Shared → Prop} {M : Model} {A : Around} {E : Value → Shared → Prop} {s : Shared} (h : wpAny M A t Q (fun _ _ => False) s) (hQ : ∀ a s, Q a s → Q' a s) : wpAny M A t Q' E s := wpAny_mono h hQ fun _ _ z => False.elim z

/-- the loop of a list comprehension's block, the target of any form (codeAny_compLoop_tests asks a target that no tuple goes to; statement and proof follow it, PyProof/CompMap.lean:41-61, with the step letOwnedTupleGo kept) -/
theorem compLoop_any {prog : Program} {w : World} {A : Around} {R : Result → Shared → Prop} {s : Shared} {elt target iter : Expr} {ifs : List Expr} {scope : Scope} {pos : Pos} {it acc : Value} {env : Env} (I : Nat → Shared → Prop)
    (turn : ∀ n s, I n s → wpAny (model prog w) A (pyNext it) (fun r s₁ => match r with
      | none => R (.ok .next) s₁
      | some v => wpAny (model prog w) A (letOwnedTupleGo target it v) (fun _ s₁' => wpAny (model prog w) A (assign target env v) (fun _ s₂ =>
          wpAny (model prog w) A (forIn ifs true fun c r => if r = true then do let ok ← isTrue c env (eval c env); pure (ForInStep.yield ok) else pure (ForInStep.yield r)) (fun ok s₃ =>
            if ok = true then wpAny (model prog w) A (eval elt env) (fun x s₄ =>
              wpAny (model prog w) A (call (.builtin "list.append") [acc, x]) (fun _ s₅ => ∃ m, m < n ∧ I m s₅) (notedBy (model prog w) A env fun e s' => R (.error e) s') s₄) (notedBy (model prog w) A env fun e s' => R (.error e) s') s₃
            else ∃ m, m < n ∧ I m s₃) (notedBy (model prog w) A env fun e s' => R (.error e) s') s₂) (notedBy (model prog w) A env fun e s' => R (.error e) s') s₁') (notedBy (model prog w) A env fun e s' => R (.error e) s') s₁) (notedBy (model prog w) A env fun e s' => R (.error e) s') s)
    (n : Nat) (h : I n s) :
    codeAny (model prog w) A (.compLoop (.ListComp elt [⟨target, iter, ifs, 0⟩] scope pos) 0 it acc env) R s := by
  refine codeAny_loop rfl I (fun n s hI => ?_) n h
  show wpAny _ A ((compTurn (.ListComp elt [⟨target, iter, ifs, 0⟩] scope pos) 0 it acc env).onRaise (fun x => do noteFrame x env; theTreesLotGoes x)) _ _ s
  refine wpAny_noted ?_
  rw [compTurn_list]
  refine wpAny_bind (wpAny_standAt (wpAny_bind (wpAny_mono (turn n s hI) (fun r s₁ h₁ => ?_) fun _ _ h' => h')))
  cases r with
  | none => exact wpAny_pure h₁
  | some v =>
    refine wpAny_bind (wpAny_mono h₁ (fun _ s₁' h₁' => ?_) fun _ _ h' => h')
    refine wpAny_bind (wpAny_mono h₁' (fun _ s₂ h₂ => wpAny_bind (wpAny_mono h₂ (fun ok s₃ h₃ => ?_) fun _ _ h' => h')) fun _ _ h' => h')
    cases ok with
    | false => exact wpAny_pure ⟨rfl, h₃⟩
    | true =>
      exact wpAny_bind (wpAny_bind (wpAny_mono h₃ (fun x s₄ h₄ => wpAny_bind (wpAny_mono h₄ (fun _ s₅ h₅ => wpAny_pure (wpAny_pure ⟨rfl, h₅⟩)) fun _ _ h' => h')) fun _ _ h' => h'))

section
variable {X : Cx}
/-- [elt for target in iter if ..]: D the new list; W by the turn and a measure, Nx what a turn is to reach -/
def tLc (wi : TI) (g : TG) (tt : TT) (te : TE) (vs : List Nat) : TE := fun σ H Q => wi σ H fun J H1 => ∀ D, H1 D = none → ∃ W : Nat → Nat → Hp → Prop, (∃ m, W 0 m (upd H1 D (.lst []))) ∧ ∀ i m H, W i m H →
  (J.stop i H ∧ Q (.ref D) H) ∨ (J.go i H ∧ ∃ Nx : Hp → Prop, (∀ H', Nx H' → ∃ m', m' < m ∧ W (i + 1) m' H') ∧ ∀ x H', J.yld i H x H' → g x (wipe σ vs) H' fun σ2 H2 => wipe σ2 vs = wipe σ vs ∧ tt σ2 H2 fun b H3 =>
    if b = true then te σ2 H3 fun y H4 => ∃ acc, H4 D = some (.lst acc) ∧ acc.length < sizeLine ∧ Nx (upd H4 D (.lst (acc ++ [y]))) else Nx H3)
theorem lc_core {pins : List (Addr × Obj)} {s : Shared} {σ : St} {H : Hp} {Q : VK} {elt tg iter : Expr} {ifs : List Expr} {scope : Scope} {own : List (Str × Nat)} {pos pos' : Pos} {wi : TI} {g : TG} {tt : TT} {te : TE} {use : Option (Value → Sem Unit)} {Qf : Value → Shared → Prop}
    (hc : X.calm = true) (hN : X.N.Nodup) (I : Inv X pins σ H s) (hi : PI X tg iter wi) (ok : BlkOk X.N X.env.scope scope own)
    (hg : ∀ (s : Shared) (H : Hp) (C : Addr) (cl : List (Str × Addr)) (fp : List Addr), PG (X.blk s H scope (compEnvC scope cl C X.env) fp) tg g) (ht : ∀ (s : Shared) (H : Hp) (C : Addr) (cl : List (Str × Addr)) (fp : List Addr), PTs (X.blk s H scope (compEnvC scope cl C X.env) fp) ifs tt)
    (he : ∀ (s : Shared) (H : Hp) (C : Addr) (cl : List (Str × Addr)) (fp : List Addr), PE (X.blk s H scope (compEnvC scope cl C X.env) fp) elt te) (hs : ∀ x, foldedSetIterable iter X.env x = pure x)
    (h : tLc wi g tt te (own.map (·.2)) σ H Q)
    (hRR : ∀ D C s' m H', Inv X pins σ H' s' → Q (.ref D) H' → s'.heap.Ns C m → FpOk X pins H' C → compPost (model X.prog X.w) X.A X.xe use Qf (.ref D) C (.ok .next) s') :
    wpAny (model X.prog X.w) X.A (comprehension (.ListComp elt [⟨tg, iter, ifs, 0⟩] scope pos) scope X.env pos' (newList []) false (eval iter X.env) use) Qf X.xe s := by
  have hfree : ∀ y ∈ scope.names, y.2 = .free → ∃ c, X.env.cells.lookup y.1 = some c := fun y hy e => by
    rcases ok.free y hy e with k | k
    · exact I.ok.has _ (.inl k)
    · exact I.ok.has _ (.inr k)
  refine wpAny_comprehension_free (use := use) rfl hs (closure_ok hfree) ok.kind (fun y hy e => by rw [ok.uniq y hy, e])
    (thn (hi pins s σ H _ I h) fun xv s1 hx => thn hx fun itv s2 h2 => ?_)
  obtain ⟨it, fp, tn, J, H2, e, I2, T, st2, f2, q⟩ := h2
  subst e
  refine wpAny_newObj_type (newEnv_comp ?_) (by show 0 ≤ sizeLine; decide)
  generalize hD : s2.heap.objs.size = D
  have hDn : H2 D = none := I2.hok.fresh (Nat.le_of_eq hD)
  obtain ⟨W, ⟨m0, w0⟩, turn⟩ := q D hDn
  -- the new list
  generalize hs3 : ({ s2 with heap := s2.heap.push { cls := .type "list", data := .seq ([] : List Value).toArray } } : Shared) = s3
  have I3 : Inv X pins σ (upd H2 D (.lst [])) s3 := by
    rw [← hs3]
    refine I2.laid (t' := s2.toks) (fun b o e => Heap.get?_push_of_some _ e) (Nat.le_of_eq hD) ⟨Nat.zero_le _, [], 0, .nil, ?_⟩
    rw [← hD]
    exact Heap.get?_push_size _ rfl
  have h3 : s3.heap = s2.heap.push { cls := .type "list", data := .seq ([] : List Value).toArray } := by rw [← hs3]
  have sz : ∀ b ∈ fp, b < s2.heap.objs.size := fun b hb => by
    obtain ⟨o, e, _⟩ := T.obj _ _ st2 b hb
    exact Heap.lt_size e
  have f3 : ∀ b ∈ fp, FpOk X pins (upd H2 D (.lst [])) b ∧ b < s3.heap.objs.size := fun b hb => by
    have hlt := sz b hb
    refine ⟨⟨?_, (f2 b hb).2⟩, by rw [h3, Heap.size_push]; exact Nat.lt_succ_of_lt hlt⟩
    rw [upd_ne (by rw [← hD]; exact Nat.ne_of_lt hlt)]
    exact (f2 b hb).1
  have st3 : tn 0 s3.heap := T.keep _ _ _ st2 fun b _ o e => by rw [h3]; exact Heap.get?_push_of_some _ e
  have I4 := block_start I3 ok hN f3
  have pg := hg s3 (upd H2 D (.lst [])) s3.heap.objs.size (cellsFrom (s3.heap.objs.size + 1) scope.names (cloFrom X.env.cells scope.names [])) fp
  have pt := ht s3 (upd H2 D (.lst [])) s3.heap.objs.size (cellsFrom (s3.heap.objs.size + 1) scope.names (cloFrom X.env.cells scope.names [])) fp
  have pe := he s3 (upd H2 D (.lst [])) s3.heap.objs.size (cellsFrom (s3.heap.objs.size + 1) scope.names (cloFrom X.env.cells scope.names [])) fp
  show codeAny _ _ (.compStart (.ListComp elt [⟨tg, iter, ifs, 0⟩] scope pos) 0 (.ref it) (.ref D) (compEnvC scope (cellsFrom (s3.heap.objs.size + 1) scope.names (cloFrom X.env.cells scope.names [])) s3.heap.objs.size X.env)) (compPost (model X.prog X.w) X.A X.xe use Qf (.ref D) s3.heap.objs.size) { s3 with heap := pushCells (s3.heap.push { cls := .type "dict", data := .dict #[] }) scope.names }
  have nfp : ∀ b ∈ fp, (upd H2 D (.lst [])) b = none := fun b hb => (f3 b hb).1.1
  generalize hce : compEnvC scope (cellsFrom (s3.heap.objs.size + 1) scope.names (cloFrom X.env.cells scope.names [])) s3.heap.objs.size X.env = ce at I4 pg pt pe ⊢
  have cL : ce.locals = s3.heap.objs.size := by subst hce; rfl
  generalize hH3 : upd H2 D (.lst []) = H3 at I3 I4 pg pt pe w0 nfp f3
  generalize hs4 : ({ s3 with heap := pushCells (s3.heap.push { cls := .type "dict", data := .dict #[] }) scope.names } : Shared) = s4 at I4 ⊢
  have st4 : tn 0 s4.heap := T.keep _ _ _ st3 fun b _ o e => by rw [← hs4]; exact pushCells_keeps _ _ _ _ (Heap.get?_push_of_some _ e)
  have stat : ∀ {σ' : St} {H' : Hp} {s' : Shared}, Inv (X.blk s3 H3 scope ce fp) [] σ' H' s' → (∀ b ∈ fp, H' b = none) → ∀ b ∈ fp, FpOk (X.blk s3 H3 scope ce fp) [] H' b := fun {σ' H' s'} I' hn b hb =>
    ⟨hn b hb, (I'.ok.exf b hb).1, I'.ok.exfs b hb, .inl hb, fun x c e => (I'.ok.exf b hb).2 x c e, fun p hp => absurd (show p ∈ ([] : List (Addr × Obj)) ++ [] from hp) (by simp)⟩
  have loop : codeAny (model X.prog X.w) X.A (.compLoop (.ListComp elt [⟨tg, iter, ifs, 0⟩] scope pos) 0 (.ref it) (.ref D) ce) (compPost (model X.prog X.w) X.A X.xe use Qf (.ref D) s3.heap.objs.size) s4 := by
    refine compLoop_any (fun n s' => ∃ i H', Inv (X.blk s3 H3 scope ce fp) [] (wipe σ (own.map (·.2))) H' s' ∧ tn i s'.heap ∧ (∀ b ∈ fp, H' b = none) ∧ W i n H') ?_ m0 ⟨0, H3, I4, st4, nfp, w0⟩
    rintro n s5 ⟨i, H5, I5, st5, n5, w5⟩
    rcases turn i n H5 w5 with ⟨stop, qq⟩ | ⟨go, Nx, hNx, step⟩
    · have td := T.done (X.blk s3 H3 scope ce fp) rfl rfl rfl hc i [] s5 _ H5 (fun _ _ => False) I5 (stat I5 n5) st5 stop
      refine thnF td fun r s6 ⟨hr, I6⟩ => ?_
      subst hr
      -- back in the def's context
      have I7 : Inv X pins σ H5 s6 := I3.call' (ch := fp) I6.os I6.base I6.hok I6.bare fun b hb => ⟨(f3 b hb).1.2.2.2.1, (f3 b hb).1.2.1, (f3 b hb).1.2.2.2.2.1, (f3 b hb).1.2.2.2.2.2⟩
      have nC : H5 s3.heap.objs.size = none := by
        have z : H5 ce.locals = none := I6.free
        rw [cL] at z
        exact z
      obtain ⟨m, hn, _⟩ := I6.loc
      have hn : s6.heap.Ns ce.locals m := hn
      rw [cL] at hn
      exact hRR D s3.heap.objs.size s6 m H5 I7 qq hn (I3.fpOk (Nat.le_refl _) nC)
    · have ti := T.item (X.blk s3 H3 scope ce fp) rfl rfl rfl hc i [] s5 _ H5 (fun _ _ => False) I5 (stat I5 n5) st5 go
      refine thnF ti fun r s6 ⟨u, hr, h6⟩ => ?_
      subst hr
      refine thnF h6 fun _ s7 ⟨x, H7, I7, r7, y7, st7, n7⟩ => ?_
      have I7' := I7.pinned (stat I7 n7) (T.obj _ _ st7)
      refine thnF (pg _ s7 _ H7 x u _ I7' r7 (step x H7 y7)) fun _ s8 ⟨σ8, H8, I8, hw8, q8⟩ => ?_
      refine thnF (pt _ s8 σ8 H8 _ I8 q8) fun b s9 ⟨H9, I9, q9⟩ => ?_
      -- the turn's end
      have fin : ∀ {s' : Shared} {H' : Hp}, Inv (X.blk s3 H3 scope ce fp) ([] ++ pinsAt fp s7.heap) σ8 H' s' → Nx H' → ∃ m, m < n ∧ ∃ i H', Inv (X.blk s3 H3 scope ce fp) [] (wipe σ (own.map (·.2))) H' s' ∧ tn i s'.heap ∧ (∀ b ∈ fp, H' b = none) ∧ W i m H' := fun {s' H'} I' nx => by
        obtain ⟨m', hm, w'⟩ := hNx H' nx
        have pin' : ∀ b ∈ fp, ∀ o, s7.heap.get? b = some o → s'.heap.get? b = some o ∧ H' b = none := fun b hb o e =>
          let z := I'.pin (b, o) (List.mem_append_right _ (List.mem_append_right _ (mem_pinsAt hb e)))
          ⟨z.1, z.2.1⟩
        have hl : (wipe σ (own.map (·.2))).length = σ8.length := by rw [← hw8, wipe_length]
        refine ⟨m', hm, i + 1, H', (I'.unpinned (pins := [])).weak hl (fun j v e => ?_), T.keep _ _ _ st7 fun b hb o e => (pin' b hb o e).1, fun b hb => ?_, w'⟩
        · rw [← hw8] at e
          exact (wipe_some e).1
        · obtain ⟨o, e, _⟩ := T.obj _ _ st7 b hb
          exact (pin' b hb o e).2
      cases b with
      | false =>
        simp only [Bool.false_eq_true, if_false] at q9 ⊢
        exact fin I9 q9
      | true =>
        simp only [if_true] at q9 ⊢
        refine thnF (pe _ s9 σ8 H9 _ I9 q9) fun z s10 ⟨yv, H10, I10, r10, acc, hD10, hz10, nx⟩ => ?_
        exact app_ok (X := X.blk s3 H3 scope ce fp) I10 hD10 hz10 r10 fun s11 I11 => fin I11 nx
  exact codeAny_compStart_list loop (T.self X.A 0 _ _ _ st4 loop)
/-- as a value -/
theorem pe_lc {elt tg iter : Expr} {ifs : List Expr} {scope : Scope} {own : List (Str × Nat)} {pos : Pos} {wi : TI} {g : TG} {tt : TT} {te : TE} (hc : X.calm = true) (hN : X.N.Nodup) (hi : PI X tg iter wi) (ok : BlkOk X.N X.env.scope scope own)
    (hg : ∀ (s : Shared) (H : Hp) (C : Addr) (cl : List (Str × Addr)) (fp : List Addr), PG (X.blk s H scope (compEnvC scope cl C X.env) fp) tg g) (ht : ∀ (s : Shared) (H : Hp) (C : Addr) (cl : List (Str × Addr)) (fp : List Addr), PTs (X.blk s H scope (compEnvC scope cl C X.env) fp) ifs tt)
    (he : ∀ (s : Shared) (H : Hp) (C : Addr) (cl : List (Str × Addr)) (fp : List Addr), PE (X.blk s H scope (compEnvC scope cl C X.env) fp) elt te) (hs : ∀ x, foldedSetIterable iter X.env x = pure x := by intro _; rfl) :
    PE X (.ListComp elt [⟨tg, iter, ifs, 0⟩] scope pos) (tLc wi g tt te (own.map (·.2))) := by
  intro pins s σ H Q I h
  rw [eval_ListComp]
  refine lc_core hc hN I hi ok hg ht he hs h fun D C s' m H' I' q hn f => ⟨m, hn, fun h'' sb => ?_⟩
  obtain ⟨f0, f1, f2, f3, f4, f5⟩ := f
  exact ⟨.ref D, H', I'.turned (t' := s'.toks) (fun b o hb e => (sb.2 b hb).trans e) f0 f1 f3 f4 f5, rfl, q⟩
end

/-! ### the forms one uses -/
/-- over a list that the block leaves as it is -/
theorem lc_list {K : PySem.W.Frag} {a : Addr} {xs : List V} {g : TG} {tt : TT} {te : TE} {vs : List Nat} {σ : St} {H1 : Hp} {D : Addr} {Qd : Hp → Prop} (Pv : Nat → Hp → Prop) (h0 : Pv 0 (upd H1 D (.lst []))) (hl : ∀ i H, i ≤ xs.length → Pv i H → SqL K H a xs)
    (hs : ∀ i x H, xs[i]? = some x → Pv i H → g x (wipe σ vs) H fun σ2 H2 => wipe σ2 vs = wipe σ vs ∧ tt σ2 H2 fun b H3 =>
      if b = true then te σ2 H3 fun y H4 => ∃ acc, H4 D = some (.lst acc) ∧ acc.length < sizeLine ∧ Pv (i + 1) (upd H4 D (.lst (acc ++ [y]))) else Pv (i + 1) H3) (hd : ∀ H, Pv xs.length H → Qd H) :
    ∃ W : Nat → Nat → Hp → Prop, (∃ m, W 0 m (upd H1 D (.lst []))) ∧ ∀ i m H, W i m H →
      ((Itl K a).stop i H ∧ Qd H) ∨ ((Itl K a).go i H ∧ ∃ Nx : Hp → Prop, (∀ H', Nx H' → ∃ m', m' < m ∧ W (i + 1) m' H') ∧ ∀ x H', (Itl K a).yld i H x H' → g x (wipe σ vs) H' fun σ2 H2 => wipe σ2 vs = wipe σ vs ∧ tt σ2 H2 fun b H3 =>
        if b = true then te σ2 H3 fun y H4 => ∃ acc, H4 D = some (.lst acc) ∧ acc.length < sizeLine ∧ Nx (upd H4 D (.lst (acc ++ [y]))) else Nx H3) := by
  refine ⟨fun i m H => m = xs.length - i ∧ i ≤ xs.length ∧ Pv i H, ⟨xs.length, by simp, Nat.zero_le _, h0⟩, ?_⟩
  rintro i m H ⟨rfl, hi, p⟩
  have q := hl i H hi p
  by_cases hlt : i < xs.length
  · refine .inr ⟨⟨xs, xs[i], q, by simp [hlt]⟩, Pv (i + 1), fun H' p' => ⟨xs.length - (i + 1), by omega, rfl, hlt, p'⟩, fun x H' y => ?_⟩
    obtain ⟨e, y⟩ := y
    subst e
    exact hs i x _ (y xs q) p
  · have e : i = xs.length := by omega
    subst e
    exact .inl ⟨⟨xs, q, Nat.le_refl _⟩, hd H p⟩
def blkC (N : List Str) (sc scope : Scope) (own : List (Str × Nat)) : Bool :=
  (match scope.kind with | .function => true | _ => false) && (scope.names.all fun y => decide (scope.names.lookup y.1 = some y.2)) && (own.all fun p => decide (N[p.2]? = some p.1)) &&
    (scope.names.all fun y => match y.2 with
      | .free => (match sc.names.lookup y.1 with | some .cell => true | some .free => true | _ => false)
      | .local => decide (y.1 ∈ own.map (·.1)) || decide (y.1 ∉ N)
      | .cell => decide (y.1 ∈ own.map (·.1)) || decide (y.1 ∉ N)
      | _ => true)
theorem blkOk_by {N : List Str} {sc scope : Scope} {own : List (Str × Nat)} (h : blkC N sc scope own = true) : BlkOk N sc scope own := by
  unfold blkC at h
  simp only [Bool.and_eq_true, List.all_eq_true, decide_eq_true_eq] at h
  obtain ⟨⟨⟨h1, h2⟩, h3⟩, h4⟩ := h
  refine ⟨?_, h2, h3, fun y hy e => ?_, fun y hy e => ?_⟩
  · split at h1
    · assumption
    · cases h1
  · have q := h4 y hy
    simp only [e] at q
    split at q <;> first | exact .inl (by assumption) | exact .inr (by assumption) | cases q
  · have q := h4 y hy
    rcases e with e | e <;> (simp only [e, Bool.or_eq_true, decide_eq_true_eq] at q; exact q)
end L2

namespace L2
open PySem PySem.Spec PyProof.Rows

section
variable {prog : Program} {w : World} {A : Around} {R : Result → Shared → Prop} {s : Shared} {elt t0 i0 t1 i1 : Expr} {ifs0 ifs1 : List Expr} {scope : Scope} {pos : Pos} {it acc : Value} {env : Env}
end

section
variable {X : Cx}
/-- [elt for tg in iter if .. for tg1 in iter1 if ..]: behind the first clause's store and tests the second source's own loop, from which Nx is reached. vs: the block's names; vs1: those of the second target -/
def tLc2 (wi : TI) (g : TG) (tt : TT) (wi1 : TI) (g1 : TG) (tt1 : TT) (te : TE) (vs vs1 : List Nat) : TE := fun σ H Q => wi σ H fun J H1 => ∀ D, H1 D = none → ∃ W : Nat → Nat → Hp → Prop, (∃ m, W 0 m (upd H1 D (.lst []))) ∧ ∀ i m H, W i m H →
  (J.stop i H ∧ Q (.ref D) H) ∨ (J.go i H ∧ ∃ Nx : Hp → Prop, (∀ H', Nx H' → ∃ m', m' < m ∧ W (i + 1) m' H') ∧ ∀ x H', J.yld i H x H' → g x (wipe σ vs) H' fun σ2 H2 => wipe σ2 vs = wipe σ vs ∧ tt σ2 H2 fun b H3 =>
    if b = true then wi1 σ2 H3 fun J1 H4 => ∃ W1 : Nat → Nat → Hp → Prop, (∃ m, W1 0 m H4) ∧ ∀ j k H, W1 j k H →
      (J1.stop j H ∧ Nx H) ∨ (J1.go j H ∧ ∃ Nx1 : Hp → Prop, (∀ H', Nx1 H' → ∃ k', k' < k ∧ W1 (j + 1) k' H') ∧ ∀ x H', J1.yld j H x H' → g1 x (wipe σ2 vs1) H' fun σ3 H5 => wipe σ3 vs1 = wipe σ2 vs1 ∧ tt1 σ3 H5 fun b H6 =>
        if b = true then te σ3 H6 fun y H7 => ∃ acc, H7 D = some (.lst acc) ∧ acc.length < sizeLine ∧ Nx1 (upd H7 D (.lst (acc ++ [y]))) else Nx1 H6)
    else Nx H3)
end
end L2

namespace L2
open PySem PySem.Spec PyProof.Rows

/-! ### lists of pairs as tables -/
section
variable {κ : Type} [DecidableEq κ]
def valV (kvs : List (κ × V)) (k : κ) : Option V := (kvs.find? fun kv => decide (kv.1 = k)).map (·.2)
/-- in its place, or at the end -/
def putK (kvs : List (κ × V)) (k : κ) (v : V) : List (κ × V) :=
  if (kvs.any fun kv => decide (kv.1 = k)) = true then kvs.map (fun kv => if kv.1 = k then (kv.1, v) else kv) else kvs ++ [(k, v)]
def dropK (kvs : List (κ × V)) (k : κ) : List (κ × V) := kvs.filter fun kv => decide (kv.1 ≠ k)

theorem valV_pos {p : κ × V} {r : List (κ × V)} {k : κ} (e : p.1 = k) : valV (p :: r) k = some p.2 := by simp [valV, List.find?_cons, e]
theorem valV_neg {p : κ × V} {r : List (κ × V)} {k : κ} (e : ¬ p.1 = k) : valV (p :: r) k = valV r k := by simp [valV, List.find?_cons, e]
theorem valV_any (k : κ) : ∀ kvs : List (κ × V), (kvs.any fun kv => decide (kv.1 = k)) = (valV kvs k).isSome
  | [] => rfl
  | p :: r => by
    rw [List.any_cons]
    by_cases e : p.1 = k
    · simp only [valV_pos e, decide_eq_true e, Bool.true_or, Option.isSome_some]
    · rw [valV_neg e, decide_eq_false e, Bool.false_or]; exact valV_any k r
theorem length_putK (kvs : List (κ × V)) (k : κ) (v : V) : (putK kvs k v).length ≤ kvs.length + 1 := by
  unfold putK
  split
  · rw [List.length_map]; omega
  · rw [List.length_append, List.length_cons, List.length_nil]; omega
theorem putK_new {kvs : List (κ × V)} {k : κ} (v : V) (h : valV kvs k = none) : putK kvs k v = kvs ++ [(k, v)] := by
  unfold putK
  rw [valV_any, h]
  exact if_neg (by decide)

theorem RelO.isSome_eq {o : Option V} {u : Option Value} (r : RelO o u) : o.isSome = u.isSome := by
  cases o with
  | none => cases u with
    | none => rfl
    | some _ => exact (show False from r).elim
  | some _ => cases u with
    | none => exact (show False from r).elim
    | some _ => rfl
theorem RelO.getD {o : Option V} {u : Option Value} {d : V} {d' : Value} (r : RelO o u) (rd : RelV d d') : RelV (o.getD d) (u.getD d') := by
  cases o with
  | none => cases u with
    | none => exact rd
    | some _ => exact (show False from r).elim
  | some _ => cases u with
    | none => exact (show False from r).elim
    | some _ => exact r

/-- raw tables of the same keys -/
theorem KV.val {kvs : List (κ × V)} {vs : List (κ × Value)} (r : KV kvs vs) (k : κ) : RelO (valV kvs k) (valueAt vs k) := by
  unfold KV at r
  induction r with
  | nil => exact True.intro
  | @cons p q ps qs h t ih =>
    obtain ⟨h1, h2⟩ := h
    by_cases e : p.1 = k
    · have e' : q.1 = k := h1.symm.trans e
      have b : valueAt (q :: qs) k = some q.2 := by simp [valueAt, List.find?_cons, e']
      rw [valV_pos e, b]; exact h2
    · have e' : ¬ q.1 = k := fun z => e (h1.trans z)
      have b : valueAt (q :: qs) k = valueAt qs k := by simp [valueAt, List.find?_cons, e']
      rw [valV_neg e, b]; exact ih
theorem KV.any {kvs : List (κ × V)} {vs : List (κ × Value)} (r : KV kvs vs) (k : κ) : (kvs.any fun kv => decide (kv.1 = k)) = vs.any fun kv => decide (kv.1 = k) := by
  unfold KV at r
  induction r with
  | nil => rfl
  | cons h t ih => rw [List.any_cons, List.any_cons, ih, h.1]
theorem KV.repl {kvs : List (κ × V)} {vs : List (κ × Value)} (r : KV kvs vs) (k : κ) {y : V} {u : Value} (ry : RelV y u) :
    KV (kvs.map fun kv => if kv.1 = k then (kv.1, y) else kv) (vs.map fun kv => if kv.1 = k then (kv.1, u) else kv) := by
  unfold KV at r ⊢
  induction r with
  | nil => exact .nil
  | @cons p q ps qs h t ih =>
    rw [List.map_cons, List.map_cons]
    refine .cons ?_ ih
    obtain ⟨h1, h2⟩ := h
    by_cases e : p.1 = k
    · rw [if_pos e, if_pos (h1.symm.trans e)]; exact ⟨h1, ry⟩
    · rw [if_neg e, if_neg (fun z => e (h1.trans z))]; exact ⟨h1, h2⟩
theorem KV.put {kvs : List (κ × V)} {vs : List (κ × Value)} (r : KV kvs vs) (k : κ) {y : V} {u : Value} (ry : RelV y u) : KV (putK kvs k y) (stored vs k u) := by
  unfold putK stored
  rw [r.any k]
  by_cases e : (vs.any fun kv => decide (kv.1 = k)) = true
  · rw [if_pos e, if_pos e]; exact r.repl k ry
  · rw [if_neg e, if_neg e]; exact Paired.snoc r ⟨rfl, ry⟩
theorem KV.drop {kvs : List (κ × V)} {vs : List (κ × Value)} (r : KV kvs vs) (k : κ) : KV (dropK kvs k) (without vs k) := by
  unfold KV at r ⊢
  unfold dropK without
  induction r with
  | nil => exact .nil
  | @cons p q ps qs h t ih =>
    obtain ⟨h1, h2⟩ := h
    rw [List.filter_cons, List.filter_cons]
    by_cases e : p.1 = k
    · have a : ¬ decide (p.1 ≠ k) = true := by simp [e]
      have b : ¬ decide (q.1 ≠ k) = true := by simp [h1.symm.trans e]
      rw [if_neg a, if_neg b]; exact ih
    · have e' : ¬ q.1 = k := fun z => e (h1.trans z)
      have a : decide (p.1 ≠ k) = true := by simp [e]
      have b : decide (q.1 ≠ k) = true := by simp [e']
      rw [if_pos a, if_pos b]; exact .cons ⟨h1, h2⟩ ih
theorem KV.keys {kvs : List (κ × V)} {vs : List (κ × Value)} (r : KV kvs vs) : kvs.map (·.1) = vs.map (·.1) := by
  unfold KV at r
  induction r with
  | nil => rfl
  | cons h t ih => rw [List.map_cons, List.map_cons, ih, h.1]
theorem KV.length {kvs : List (κ × V)} {vs : List (κ × Value)} (r : KV kvs vs) : kvs.length = vs.length := Paired.length r
end


/-! ### a tracked dict, its keys ints and texts or tuples of these -/
theorem kV_is {P : Program} {w : World} {k : Key} {u : Value} (r : RelV (kV k) u) : (mixKind P w).is k u = true := by
  cases k with
  | inl i => obtain ⟨t, e⟩ := (show ∃ t, u = Value.int i t from r); subst e; exact mixKind_int P w i t
  | inr x => obtain ⟨t, e⟩ := (show ∃ t, u = Value.str x t from r); subst e; exact mixKind_str P w x t
theorem vKey_is {P : Program} {w : World} {v : V} {k : Key} {u : Value} (e : vKey v = some k) (r : RelV v u) : (mixKindB P w).is k u = true := by
  cases v with
  | int i => cases e; obtain ⟨t, q⟩ := (show ∃ t, u = Value.int i t from r); subst q; exact keyIs_int i t
  | str x => cases e; obtain ⟨t, q⟩ := (show ∃ t, u = Value.str x t from r); subst q; exact keyIs_str x t
  | bl b => cases e; have q : u = Value.bool b := r; subst q; exact decide_eq_true rfl
  | _ => cases e
theorem items_areB {P : Program} {w : World} : ∀ {ks : List Key} {zs : List V} {us : List Value}, zs.map vKey = ks.map some → Vals zs us → ItemsAre (mixKindB P w) ks us
  | [], [], _, _, r => by cases r; exact .nil
  | [], _ :: _, _, e, _ => by simp at e
  | _ :: _, [], _, e, _ => by simp at e
  | k :: ks, z :: zs, _, e, r => by
    rw [List.map_cons, List.map_cons] at e
    injection e with e1 e2
    cases r with
    | cons h t => exact .cons (vKey_is e1 h) (items_areB e2 t)
/-- the tuple at b is the key k -/
def TupK (H : Hp) (b : Addr) (k : List Key) : Prop := ∃ zs, H b = some (.tup zs) ∧ zs.map vKey = k.map some
theorem TupK.of {H : Hp} {b : Addr} {k : List Key} (e : H b = some (.tup (k.map kV))) : TupK H b k := ⟨_, e, by rw [List.map_map]; exact List.map_congr_left fun x _ => vKey_kV x⟩
/-- raw entries of a dict with tuple keys -/
abbrev KT (H : Hp) : List (List Key × V) → List (List Key × Addr × Value) → Prop := Paired fun p q => p.1 = q.1 ∧ TupK H q.2.1 p.1 ∧ RelV p.2 q.2.2
theorem KT.val {H : Hp} {kvs : List (List Key × V)} {xs : List (List Key × Addr × Value)} (r : KT H kvs xs) (k : List Key) : RelO (valV kvs k) ((atKey xs k).map (·.2)) := by
  induction r with
  | nil => exact True.intro
  | @cons p q ps qs h t ih =>
    obtain ⟨h1, _, h2⟩ := h
    by_cases e : p.1 = k
    · have e' : q.1 = k := h1.symm.trans e
      have b : atKey (q :: qs) k = some q.2 := by simp [atKey, List.find?_cons, e']
      rw [valV_pos e, b]; exact h2
    · have e' : ¬ q.1 = k := fun z => e (h1.trans z)
      have b : atKey (q :: qs) k = atKey qs k := by simp [atKey, List.find?_cons, e']
      rw [valV_neg e, b]; exact ih
theorem KT.repl {H : Hp} {kvs : List (List Key × V)} {xs : List (List Key × Addr × Value)} (r : KT H kvs xs) (k : List Key) {y : V} {u : Value} (ry : RelV y u) :
    KT H (kvs.map fun kv => if kv.1 = k then (kv.1, y) else kv) (xs.map (putAt k u)) := by
  induction r with
  | nil => exact .nil
  | @cons p q ps qs h t ih =>
    rw [List.map_cons, List.map_cons]
    refine .cons ?_ ih
    obtain ⟨h1, h2, h3⟩ := h
    unfold putAt
    by_cases e : p.1 = k
    · rw [if_pos e, if_pos (h1.symm.trans e)]; exact ⟨h1, h2, ry⟩
    · rw [if_neg e, if_neg (fun z => e (h1.trans z))]; exact ⟨h1, h2, h3⟩
theorem KT.put {H : Hp} {kvs : List (List Key × V)} {xs : List (List Key × Addr × Value)} (r : KT H kvs xs) (k : List Key) {b : Addr} {y : V} {u : Value} (hb : TupK H b k) (ry : RelV y u) :
    KT H (putK kvs k y) (storedH xs k b u) := by
  have e : (kvs.any fun kv => decide (kv.1 = k)) = (atKey xs k).isSome := by
    rw [valV_any, (r.val k).isSome_eq, Option.isSome_map]
  unfold putK storedH
  rw [e]
  by_cases q : (atKey xs k).isSome = true
  · rw [if_pos q, if_pos q]; exact r.repl k ry
  · rw [if_neg q, if_neg q]; exact Paired.snoc r ⟨rfl, hb, ry⟩
theorem KT.keeps {H H' : Hp} {kvs : List (List Key × V)} {xs : List (List Key × Addr × Value)} (r : KT H kvs xs) (ht : ∀ b ys, H b = some (.tup ys) → H' b = some (.tup ys)) : KT H' kvs xs :=
  Paired.mapP r fun _ _ z => ⟨z.1, z.2.1.imp fun _ g => ⟨ht _ _ g.1, g.2⟩, z.2.2⟩

section
variable {P : Program} {w : World} {H : Hp} {h : Heap} {a : Addr}
theorem rd_of {u : HO} (ok : HOk P w H h) (e : Rd H a u) : ObjOk P w H h a u := e.ok ok
theorem dk_rd {kvs : List (Key × V)} (ok : HOk P w H h) (e : Rd H a (.dK kvs)) : kvs.length ≤ sizeLine ∧ (a == sysModules) = false ∧ ∃ vs, KV kvs vs ∧ h.DictOf (mixKind P w) a vs :=
  show ObjOk P w H h a (.dK kvs) from rd_of ok e
theorem dk_of {kvs : List (Key × V)} (ok : HOk P w H h) (e : H a = some (.dK kvs)) : kvs.length ≤ sizeLine ∧ (a == sysModules) = false ∧ ∃ vs, KV kvs vs ∧ h.DictOf (mixKind P w) a vs := dk_rd ok (.inl e)
/-- a tracked tuple of ints and texts is a key -/
theorem key_of {ks : List Key} (ok : HOk P w H h) (e : TupK H a ks) : (tupleKind (mixKindB P w)).is h ks a := by
  obtain ⟨zs, e, f⟩ := e
  obtain ⟨_, its, r, o, h1, h2, n, h3⟩ := (show ObjOk P w H h a (.tup zs) from ok a _ e)
  exact ⟨o, its.toArray, n, h1, h2, h3, by simpa using items_areB f r⟩
theorem dt_rd {kvs : List (List Key × V)} (ok : HOk P w H h) (e : Rd H a (.dT kvs)) : kvs.length ≤ sizeLine ∧ (a == sysModules) = false ∧
    ∃ xs, KT H kvs xs ∧ h.DictOfH (tupleKind (mixKindB P w)) a xs := by
  obtain ⟨z, y, xs, r, o, es, ep, h1, h2, h3, h4, h5⟩ := (show ObjOk P w H h a (.dT kvs) from rd_of ok e)
  refine ⟨z, y, xs, r, o, es, ep, h1, h2, h3, h4, fun x hx => ?_, h5⟩
  have all : ∀ {l : List (List Key × V)} {m : List (List Key × Addr × Value)}, KT H l m → ∀ x ∈ m, (tupleKind (mixKindB P w)).is h x.1 x.2.1 := by
    intro l m q
    induction q with
    | nil => intro x hx; exact nomatch hx
    | @cons p q ps qs hq t ih =>
      intro x hx
      rcases List.mem_cons.mp hx with e | hx
      · subst e
        exact key_of ok (by rw [← hq.1]; exact hq.2.1)
      · exact ih x hx
  exact all r x hx
theorem dt_of {kvs : List (List Key × V)} (ok : HOk P w H h) (e : H a = some (.dT kvs)) : kvs.length ≤ sizeLine ∧ (a == sysModules) = false ∧
    ∃ xs, KT H kvs xs ∧ h.DictOfH (tupleKind (mixKindB P w)) a xs := dt_rd ok (.inl e)
end

/-- what the dict at a holds at the key y -/
def DGet (H : Hp) (a : Addr) (y : V) (r : Option V) : Prop :=
  (∃ kvs k, Rd H a (.dK kvs) ∧ y = kV k ∧ r = valV kvs k) ∨ ∃ kvs k b, Rd H a (.dT kvs) ∧ y = .ref b ∧ TupK H b k ∧ r = valV kvs k
/-- the heap behind a[y] = v -/
def DPut (H : Hp) (a : Addr) (y v : V) (H' : Hp) : Prop :=
  (∃ kvs k, H a = some (.dK kvs) ∧ y = kV k ∧ kvs.length < sizeLine ∧ H' = upd H a (.dK (putK kvs k v))) ∨
  ∃ kvs k b, H a = some (.dT kvs) ∧ y = .ref b ∧ TupK H b k ∧ kvs.length < sizeLine ∧ H' = upd H a (.dT (putK kvs k v))
theorem DGet.k {H : Hp} {a : Addr} {kvs : List (Key × V)} {k : Key} (e : H a = some (.dK kvs)) : DGet H a (kV k) (valV kvs k) := .inl ⟨kvs, k, .inl e, rfl, rfl⟩
theorem DGet.t {H : Hp} {a b : Addr} {kvs : List (List Key × V)} {k : List Key} (e : H a = some (.dT kvs)) (eb : H b = some (.tup (k.map kV))) : DGet H a (.ref b) (valV kvs k) := .inr ⟨kvs, k, b, .inl e, rfl, .of eb, rfl⟩
theorem DGet.tb {H : Hp} {a b : Addr} {kvs : List (List Key × V)} {k : List Key} (e : Rd H a (.dT kvs)) (eb : TupK H b k) : DGet H a (.ref b) (valV kvs k) := .inr ⟨kvs, k, b, e, rfl, eb, rfl⟩
theorem DPut.k {H : Hp} {a : Addr} {kvs : List (Key × V)} {k : Key} {v : V} (e : H a = some (.dK kvs)) (hl : kvs.length < sizeLine) : DPut H a (kV k) v (upd H a (.dK (putK kvs k v))) := .inl ⟨kvs, k, e, rfl, hl, rfl⟩
theorem DPut.t {H : Hp} {a b : Addr} {kvs : List (List Key × V)} {k : List Key} {v : V} (e : H a = some (.dT kvs)) (eb : H b = some (.tup (k.map kV))) (hl : kvs.length < sizeLine) :
    DPut H a (.ref b) v (upd H a (.dT (putK kvs k v))) := .inr ⟨kvs, k, b, e, rfl, .of eb, hl, rfl⟩
theorem DPut.tb {H : Hp} {a b : Addr} {kvs : List (List Key × V)} {k : List Key} {v : V} (e : H a = some (.dT kvs)) (eb : TupK H b k) (hl : kvs.length < sizeLine) :
    DPut H a (.ref b) v (upd H a (.dT (putK kvs k v))) := .inr ⟨kvs, k, b, e, rfl, eb, hl, rfl⟩


section
variable {X : Cx} {pins : List (Addr × Obj)} {σ : St} {H : Hp} {s : Shared} {a : Addr} {y v : V} {u r : Value} {o : Option V} {A : Around} {E : Value → Shared → Prop}

theorem Inv.big (I : Inv X pins σ H s) : sysModules < s.heap.objs.size := by
  have h : mainGlobals < s.heap.objs.size := (I.mod.glob.keeps I.bk).lt
  exact Nat.lt_trans (by decide) h

/-- d[y], there -/
theorem d_getItem {Q : Value → Shared → Prop} (hu : A.units + 1 < cLine) (I : Inv X pins σ H s) (g : DGet H a y (some v)) (ry : RelV y u) (h : ∀ w' s', Inv X pins σ H s' → RelV v w' → Q w' s') :
    wpAny (model X.prog X.w) A (getItem (.ref a) u) Q E s := by
  rcases g with ⟨kvs, k, e, ey, l⟩ | ⟨kvs, k, b, e, ey, eb, l⟩
  · subst ey
    obtain ⟨z, hd, vs, rel, dd⟩ := dk_rd I.hok e
    obtain ⟨w', hw, rw'⟩ := RelO.some_of (v := v) (o := valueAt vs k) (by rw [l]; exact rel.val k)
    exact wpAny_getItem_of (kV_is ry) dd.mapOf hw (h w' _ (I.tok _) rw')
  · subst ey
    cases (show u = Value.ref b from ry)
    obtain ⟨z, hd, xs, rel, dd⟩ := dt_rd I.hok e
    obtain ⟨w', hw, rw'⟩ := RelO.some_of (v := v) (o := (atKey xs k).map (·.2)) (by rw [l]; exact rel.val k)
    obtain ⟨p, hp, hp2⟩ := Option.map_eq_some_iff.mp hw
    refine wpAny_getItem_heap (tupleKind_room_in1 hu) (key_of I.hok eb) dd hp ?_
    rw [hp2]
    exact h w' _ (I.tok _) rw'
/-- a dict's object is replaced -/
theorem d_write {h' : Heap} {t' : Nat} {ob : HO} (I : Inv X pins σ H s) (mu : Mut (H a)) (hs : Heap.SameBut a s.heap h') (he : ∃ q, h'.get? a = some q) (new : ObjOk X.prog X.w (upd H a ob) h' a ob) :
    Inv X pins σ (upd H a ob) { s with heap := h', toks := t' } :=
  I.write (x := a) (e := a) mu (.inl rfl) (fun b q hb z => (hs.2 b hb).trans z) he new
theorem dk_new {P : Program} {w : World} {H' : Hp} {h' : Heap} {kvs : List (Key × V)} {vs : List (Key × Value)} (z : kvs.length ≤ sizeLine) (hd : (a == sysModules) = false) (rel : KV kvs vs) (dd : h'.DictOf (mixKind P w) a vs) :
    ObjOk P w H' h' a (.dK kvs) := ⟨z, hd, vs, rel, dd⟩
/-- d[y] = v -/
theorem d_setItem {H' : Hp} {Q : Unit → Shared → Prop} (hu : A.units + 1 < cLine) (I : Inv X pins σ H s) (g : DPut H a y v H') (ry : RelV y u) (rv : RelV v r) (h : ∀ s', Inv X pins σ H' s' → Q () s') :
    wpAny (model X.prog X.w) A (setItem (.ref a) u r) Q E s := by
  rcases g with ⟨kvs, k, e, ey, l, eH⟩ | ⟨kvs, k, b, e, ey, eb, l, eH⟩
  · subst ey eH
    obtain ⟨z, hd, vs, rel, dd⟩ := dk_of I.hok e
    have hz : vs.length ≤ sizeLine := by rw [← rel.length]; exact z
    have hl : (putK kvs k v).length ≤ sizeLine := by have := length_putK kvs k v; omega
    refine wpAny_setItem_pairs (hsz := hz) (kV_is ry) dd fun h' dd' hs => h _ ?_
    have he : ∃ q, h'.get? a = some q := let ⟨q, _, _, hq, _⟩ := dd'; ⟨q, hq⟩
    exact d_write I (by rw [e]; exact True.intro) hs he (dk_new hl hd (rel.put k rv) dd')
  · subst ey eH
    cases (show u = Value.ref b from ry)
    obtain ⟨z, hd, xs, rel, dd⟩ := dt_of I.hok e
    have hz : xs.length ≤ sizeLine := by rw [← Paired.length rel]; exact z
    have hl : (putK kvs k v).length ≤ sizeLine := by have := length_putK kvs k v; omega
    refine wpAny_setItem_heap (hsz := hz) (tupleKind_room_in1 hu) (key_of I.hok eb) dd fun h' dd' hs => h _ ?_
    obtain ⟨q, es, ep, hq, h2, h3, h4, _, h5⟩ := dd'
    refine d_write I (by rw [e]; exact True.intro) hs ⟨q, hq⟩ ⟨hl, hd, _, (rel.put k eb rv).keeps fun c ys ec => ?_, q, es, ep, hq, h2, h3, h4, h5⟩
    rw [upd_ne (ne_of ec e (fun z => nomatch z))]
    exact ec
end

section
variable {X : Cx} {pins : List (Addr × Obj)} {σ : St} {H : Hp} {s : Shared} {a : Addr} {kvs : List (Key × V)} {k : Key} {u : Value} {A : Around} {E : Value → Shared → Prop}
end


/-! ### readings and rules -/
/-- the element of a subscription, not a slice -/
def NoSl (i : Expr) : Prop := ∀ ov iv, subscripted i false ov iv = operate [ov, iv] (getItem ov iv)
theorem subD_of {prog : Program} {w : World} {A : Around} {E : Value → Shared → Prop} {s : Shared} {env : Env} {value slice : Expr} {pos : Pos} {T id : String} {Q : Value → Shared → Prop}
    (hl : typeLookup (.type T) "__getitem__" = pure (some (.builtin id))) (hs : NoSl slice)
    (h : wpAny (model prog w) A (eval value env) (fun o s₁ => wpAny (model prog w) A (eval slice env) (fun i s₂ => s₂.TypeIs o T ∧ wpAny (model prog w) A (getItem o i) Q E s₂) E s₁) E s) :
    wpAny (model prog w) A (eval (.Subscript value slice pos) env) Q E s := by
  refine Subscript_ (wpAny_mono h (fun o s₁ h₁ => wpAny_mono h₁ (fun i s₂ h₂ => ?_) fun _ _ x => x) fun _ _ x => x)
  obtain ⟨hT, h₂⟩ := h₂
  unfold subscriptTail
  refine wpAny_bind ?_
  rw [getitemInPython_of_ne hT.not_modules]
  refine wpAny_bind (wpAny_specialOf hT hl ?_)
  have fin : wpAny (model prog w) A (subscripted slice false o i) (fun r s₃ => wpAny (model prog w) A (letTemporaryGo value o r >>= fun _ => pure r) Q E s₃) E s₂ := by
    rw [hs o i]
    exact wpAny_operating (wpAny_mono h₂ (fun r s₃ h₃ => wpAny_bind (wpAny_letTemporaryGo (wpAny_pure h₃))) fun _ _ x => x)
  first
    | exact wpAny_pure (wpAny_bind fin)
    | exact wpAny_bind (wpAny_pure (wpAny_bind fin))
    | exact wpAny_bind fin

theorem dict_typeIs {X : Cx} {pins : List (Addr × Obj)} {σ : St} {H : Hp} {s : Shared} {a : Addr} {y : V} {o : Option V} (I : Inv X pins σ H s) (g : DGet H a y o) : s.TypeIs (.ref a) "dict" := by
  rcases g with ⟨kvs, k, e, _, _⟩ | ⟨kvs, k, b, e, _, _, _⟩
  · obtain ⟨_, _, vs, _, dd⟩ := dk_rd I.hok e
    exact dd.typeIs
  · obtain ⟨_, _, xs, _, dd⟩ := dt_rd I.hok e
    exact dd.typeIs
/-- d[y] -/
def tDGet (td ty : TE) : TE := fun σ H Q => td σ H fun x H1 => ty σ H1 fun y H2 => ∃ a v, x = .ref a ∧ DGet H2 a y (some v) ∧ Q v H2
/-- y in d, y not in d -/
def tDIn (ty td : TE) : TE := fun σ H Q => ty σ H fun y H1 => td σ H1 fun x H2 => ∃ a o, x = .ref a ∧ DGet H2 a y o ∧ Q (.bl o.isSome) H2
def tDNotIn (ty td : TE) : TE := fun σ H Q => ty σ H fun y H1 => td σ H1 fun x H2 => ∃ a o, x = .ref a ∧ DGet H2 a y o ∧ Q (.bl (!o.isSome)) H2
/-- d[y] = v -/
def sDPut (td ty tv : TE) : TS := fun D σ H => tv σ H fun v H1 => td σ H1 fun x H2 => ty σ H2 fun y H3 => ∃ a H4, x = .ref a ∧ DPut H3 a y v H4 ∧ D.nx σ H4
/-- d[y] op= v -/
def sDAug (td ty tv : TE) (rd : V → V → Hp → VK → Prop) : TS := fun D σ H => td σ H fun x H1 => ty σ H1 fun y H2 => ∃ a v, x = .ref a ∧ DGet H2 a y (some v) ∧
  tv σ H2 fun y2 H3 => rd v y2 H3 fun z H4 => ∃ H5, DPut H4 a y z H5 ∧ D.nx σ H5
/-- del d[y] -/
def sDDel (td ty : TE) : TS := fun D σ H => td σ H fun x H1 => ty σ H1 fun y H2 => ∃ a kvs k, x = .ref a ∧ H2 a = some (.dK kvs) ∧ y = kV k ∧ (valV kvs k).isSome = true ∧ D.nx σ (upd H2 a (.dK (dropK kvs k)))

section
variable {X : Cx} {o i e value : Expr} {pos pos' tpos : Pos} {td ty tv : TE}
theorem pe_dget (hu : X.A.units + 1 < cLine) (ho : PE X o td) (hi : PE X i ty) (hs : NoSl i) : PE X (.Subscript o i pos) (tDGet td ty) := by
  intro pins s σ H Q I h
  refine subD_of PySem.F.slot_dict_getitem.lookup hs (thn (ho pins s σ H _ I h) fun u s1 ⟨x, H1, I1, rx, q1⟩ => thn (hi pins s1 σ H1 _ I1 q1) fun iv s2 ⟨y, H2, I2, ry, a, v, ex, g, q2⟩ => ?_)
  subst ex
  obtain rfl : u = Value.ref a := rx
  exact ⟨dict_typeIs I2 g, d_getItem hu I2 g ry fun w' s3 I3 rw' => ⟨v, H2, I3, rw', q2⟩⟩
theorem ps_dput (hu : X.A.units + 1 < cLine) (ho : PE X o td) (hi : PE X i ty) (hv : PE X value tv) (hs : swapsWith value (some (.Subscript o i pos')) pos.line X.env = pure false) :
    PS X (.Assign [.Subscript o i pos'] value pos) (sDPut td ty tv) := by
  intro pins s σ H D I h
  refine wpAny_Assign_Subscript (thn (hv pins s σ H _ I h) fun r s1 ⟨v, H1, I1, rv, q1⟩ => thn (ho pins s1 σ H1 _ I1 q1) fun u s2 ⟨x, H2, I2, rx, q2⟩ => thn (hi pins s2 σ H2 _ I2 q2) fun iv s3 ⟨y, H3, I3, ry, a, H4, ex, g, q3⟩ => ?_) hs
  subst ex
  obtain rfl : u = Value.ref a := rx
  exact d_setItem hu I3 g ry rv fun s4 I4 => ⟨σ, H4, I4, q3⟩
end


/-! ### displays -/
theorem dk_empty {P : Program} {w : World} {H : Hp} (h : Heap) (hb : sysModules < h.objs.size) : ObjOk P w H (h.push { cls := .type "dict", data := .dict #[] }) h.objs.size (.dK []) :=
  ⟨Nat.zero_le _, beq_eq_false_iff_ne.mpr (Ne.symm (Nat.ne_of_lt hb)), [], .nil, Heap.DictOf.new h⟩
/-- {}, to be a dict of the kind that is wanted -/
def tDNewK : TE := fun _ H Q => ∀ p, H p = none → Q (.ref p) (upd H p (.dK []))
def tDNewT : TE := fun _ H Q => ∀ p, H p = none → Q (.ref p) (upd H p (.dT []))
section
variable {X : Cx} {pos : Pos}
theorem pe_dnewK : PE X (.Dict [] [] pos) tDNewK := fun pins s σ H Q I h =>
  wpAny_Dict_empty ⟨.ref s.heap.objs.size, _, I.laid (a := s.heap.objs.size) (o := .dK []) (t' := s.toks) (fun _ _ q => Heap.get?_push_of_some _ q) (Nat.le_refl _) (dk_empty s.heap I.big), rfl, h _ (I.hok.fresh (Nat.le_refl _))⟩
end

/-- the pairs of a display, from the left -/
def tPairs : List (TE × TE) → St → Hp → (List (V × V) → Hp → Prop) → Prop
  | [], _, H, Q => Q [] H
  | (tk, tv) :: r, σ, H, Q => tk σ H fun x H1 => tv σ H1 fun y H2 => tPairs r σ H2 fun ps H3 => Q ((x, y) :: ps) H3
abbrev VV : List (V × V) → List (Value × Value) → Prop := Paired fun p q => RelV p.1 q.1 ∧ RelV p.2 q.2
def PPs (X : Cx) (pos : Pos) (keys : List (Option Expr)) (values : List Expr) (trs : List (TE × TE)) : Prop :=
  ∀ (pins : List (Addr × Obj)) (s : Shared) (σ : St) (H : Hp) (Q : List (V × V) → Hp → Prop), Inv X pins σ H s → tPairs trs σ H Q →
    wpAny (model X.prog X.w) X.A (evalPairs (pairTrees keys values X.env pos)) (fun vs s' => ∃ ps H', Inv X pins σ H' s' ∧ VV ps vs ∧ Q ps H') X.xe s
def mergeK (kvs more : List (Key × V)) : List (Key × V) := more.foldl (fun acc kv => putK acc kv.1 kv.2) kvs
/-- {k: v, ..} with keys ints and texts; the new dict stands empty while the pairs are made -/
def tDisp (trs : List (TE × TE)) : TE := fun σ H Q => ∀ p, H p = none → tPairs trs σ (upd H p (.dK [])) fun ps H2 => H2 p = some (.dK []) ∧ ∃ kvs : List (Key × V), ps = kvs.map (fun kv => (kV kv.1, kv.2)) ∧ kvs.length ≤ 15 ∧ Q (.ref p) (upd H2 p (.dK (mergeK [] kvs)))
/-! ### methods -/
/-- a method call o.m(e) of a built-in, with one argument: what must be seen of the text -/
structure M1 (X : Cx) (o : Expr) (m : Str) (apos : Pos) (e : Expr) (cpos : Pos) : Prop where
  base : attributeBase o m X.env (eval o X.env) = eval o X.env
  few : ((backTo cpos (starEach [e] X.env)).all (fun x => !x.1) && (backToKw cpos (keywordEach [] X.env)).all (fun x => x.1.isSome)
    && decide (([e] : List Expr).length + ([] : List Keyword).length + (if ([] : List Keyword).isEmpty then 0 else 1) < 30)) = true
  line : (apos.endLine == cpos.line) = true
  trees : backTo cpos (starEach [e] X.env) = [(false, eval e X.env)]
structure M2 (X : Cx) (o : Expr) (m : Str) (apos : Pos) (e f : Expr) (cpos : Pos) : Prop where
  base : attributeBase o m X.env (eval o X.env) = eval o X.env
  few : ((backTo cpos (starEach [e, f] X.env)).all (fun x => !x.1) && (backToKw cpos (keywordEach [] X.env)).all (fun x => x.1.isSome)
    && decide (([e, f] : List Expr).length + ([] : List Keyword).length + (if ([] : List Keyword).isEmpty then 0 else 1) < 30)) = true
  line : (apos.endLine == cpos.line) = true
  trees : backTo cpos (starEach [e, f] X.env) = [(false, eval e X.env), (false, eval f X.env)]

/-- a is a dict, whatever its keys -/
def IsD (H : Hp) (a : Addr) : Prop := (∃ kvs, Rd H a (.dK kvs)) ∨ ∃ kvs, Rd H a (.dT kvs)
section
variable {X : Cx} {pins : List (Addr × Obj)} {σ : St} {H : Hp} {s : Shared} {a : Addr} {y d : V} {u r : Value} {o : Option V} {A : Around} {E : Value → Shared → Prop}
end

def tDGet1 (td ty : TE) : TE := fun σ H Q => td σ H fun x H1 => ∃ a, x = .ref a ∧ IsD H1 a ∧ ty σ H1 fun y H2 => ∃ o, DGet H2 a y o ∧ Q (o.getD .non) H2
def tDGet2 (td ty tx : TE) : TE := fun σ H Q => td σ H fun x H1 => ∃ a, x = .ref a ∧ IsD H1 a ∧ ty σ H1 fun y H2 => tx σ H2 fun z H3 => ∃ o, DGet H3 a y o ∧ Q (o.getD z) H3
/-- d.pop(k): there; d.pop(k, x): there or not -/
def tDPop1 (td ty : TE) : TE := fun σ H Q => td σ H fun x H1 => ∃ a, x = .ref a ∧ IsD H1 a ∧ ty σ H1 fun y H2 => ∃ kvs k v, H2 a = some (.dK kvs) ∧ y = kV k ∧ valV kvs k = some v ∧ Q v (upd H2 a (.dK (dropK kvs k)))
def tDPop2 (td ty tx : TE) : TE := fun σ H Q => td σ H fun x H1 => ∃ a, x = .ref a ∧ IsD H1 a ∧ ty σ H1 fun y H2 => tx σ H2 fun z H3 => ∃ kvs k, H3 a = some (.dK kvs) ∧ y = kV k ∧
  (∀ v, valV kvs k = some v → Q v (upd H3 a (.dK (dropK kvs k)))) ∧ (valV kvs k = none → Q z H3)
section
variable {X : Cx} {o e f : Expr} {apos cpos : Pos} {td ty tx : TE}
end

/-! ### dict(d): a copy -/
section
variable {X : Cx} {pins : List (Addr × Obj)} {σ : St} {H : Hp} {s : Shared} {a : Addr} {kvs : List (Key × V)} {A : Around} {E : Value → Shared → Prop}
end


section
variable {X : Cx} {pins : List (Addr × Obj)} {σ : St} {H : Hp} {s : Shared} {a : Addr} {y : V} {u : Value} {A : Around} {E : Value → Shared → Prop}
end
end L2

namespace L2
open PySem PySem.Spec PyProof.Rows

section
variable {prog : Program} {w : World} {A : Around} {E : Value → Shared → Prop}
end

section
variable {X : Cx}
end
end L2

namespace L2
open PySem PySem.Spec PyProof.Rows

section
variable {X : Cx} {pins : List (Addr × Obj)} {σ : St} {H : Hp} {s : Shared} {h' : Heap}
/-- several records of ours have turned -/
theorem Inv.turnedL {t' : Nat} {ch : List Addr} (I : Inv X pins σ H s) (k : ∀ b o, b ∉ ch → s.heap.get? b = some o → h'.get? b = some o) (hf : ∀ b ∈ ch, FpOk X pins H b) : Inv X pins σ H { s with heap := h', toks := t' } := by
  have nit : ∀ b u, H b = some u → b ∉ ch := fun b u e z => by
    have q := (hf b z).1
    rw [q] at e; cases e
  refine I.step (g' := s.gens) (d' := s.drawn) (ch := ch) (fun b hb => ⟨(hf b hb).2.2.2.1, (hf b hb).2.1, (hf b hb).2.2.2.2.1, (hf b hb).2.2.2.2.2⟩) (fun b o _ _ hc e _ => k b o hc e) (fun b o _ _ hc e _ => ⟨o.slots, k b o hc e⟩)
    (fun _ _ _ _ n => n) (fun b o hc e => ⟨o, k b o hc e⟩) (fun _ _ e => e) (fun _ _ _ e => e) (fun b ps e => ⟨#[], by rw [e]; simp⟩) (fun m hm => ?_) (fun b u e => ?_) I.bare
  · obtain ⟨o, es, ep, ho, r⟩ := hm
    exact ⟨o, es, ep, k _ o (fun z => (hf _ z).2.1 rfl) ho, r⟩
  · refine (I.hok b u e).stay (fun c v hc q => k c v ?_ q) (fun _ q => q) fun _ _ q => q
    rcases hc with z | z
    · rw [z]; exact nit b u e
    · exact nit c _ z
/-- .. and one new object is laid -/
theorem Inv.turnedNew {t' : Nat} {ch : List Addr} {T : Addr} {ob : HO} (I : Inv X pins σ H s) (k : ∀ b o, b ∉ ch → s.heap.get? b = some o → h'.get? b = some o) (hf : ∀ b ∈ ch, FpOk X pins H b) (hT : s.heap.objs.size ≤ T)
    (new : ObjOk X.prog X.w (upd H T ob) h' T ob) : Inv X pins σ (upd H T ob) { s with heap := h', toks := t' } := by
  have hn : H T = none := I.hok.fresh hT
  have nit : ∀ b u, H b = some u → b ∉ ch := fun b u e z => by
    have q := (hf b z).1
    rw [q] at e; cases e
  refine I.step (g' := s.gens) (d' := s.drawn) (ch := ch) (fun b hb => ⟨(hf b hb).2.2.2.1, (hf b hb).2.1, (hf b hb).2.2.2.2.1, (hf b hb).2.2.2.2.2⟩) (fun b o _ _ hc e _ => k b o hc e) (fun b o _ _ hc e _ => ⟨o.slots, k b o hc e⟩)
    (fun b o _ e n => ?_) (fun b o hc e => ⟨o, k b o hc e⟩) (fun b xs e => ?_) (fun b o u e => ?_) (fun b ps e => ⟨#[], ?_⟩) (fun m hm => ?_) (fun b u e => ?_) I.bare
  · rw [upd_ne (Nat.ne_of_lt (Nat.lt_of_lt_of_le (Heap.lt_size e) hT))]; exact n
  · rw [upd_ne (ne_of_none e hn)]; exact e
  · rw [upd_ne (ne_of_none e hn)]; exact e
  · rw [upd_ne (ne_of_none e hn), e]; simp
  · obtain ⟨o, es, ep, ho, r⟩ := hm
    exact ⟨o, es, ep, k _ o (fun z => (hf _ z).2.1 rfl) ho, r⟩
  · by_cases hb : b = T
    · subst hb
      rw [upd_same] at e
      cases e
      exact new
    · rw [upd_ne hb] at e
      refine (I.hok b u e).stay (fun c v hc q => k c v ?_ q) (fun c q => by rw [upd_ne (ne_of_none q hn)]; exact q) fun c xs q => by rw [upd_ne (ne_of_none q hn)]; exact q
      rcases hc with z | z
      · rw [z]; exact nit b u e
      · exact nit c _ z

/-! ### locking a thing while a statement runs -/
end
/-- the statement runs while the thing at d is locked (read, not written); d and what stands there are the reading's choice -/
def tLock (t : TS) : TS := fun D σ H => ∃ d u, H d = some u ∧ Mut (some u) ∧ ∀ od, t ⟨fun σ' H' => H' d = some (.frz od u) ∧ D.nx σ' (upd H' d u), fun v H' => H' d = some (.frz od u) ∧ D.rt v (upd H' d u), fun σ' H' => H' d = some (.frz od u) ∧ D.bk σ' (upd H' d u), fun σ' H' => H' d = some (.frz od u) ∧ D.ct σ' (upd H' d u)⟩ σ (upd H d (.frz od u))
def tLockE (t : TE) : TE := fun σ H Q => ∃ d u, H d = some u ∧ Mut (some u) ∧ ∀ od, t σ (upd H d (.frz od u)) fun v H' => H' d = some (.frz od u) ∧ Q v (upd H' d u)
section
variable {X : Cx}
/-! ### one iterator just laid -/
end

/-! ### range with a step -/
/-- lo, lo + c, .. (n of them) -/
def Itc (lo c : Int) (n : Nat) : It := ⟨fun i _ => i < n, fun i H x H' => H' = H ∧ x = .int (lo + (i : Nat) * c), fun i _ => n ≤ i⟩
/-- range(i, j, c): small bounds, n items -/
def RgC (i j c : Int) (n : Nat) : Prop := c ≠ 0 ∧ c.natAbs < 1073741824 ∧ Builtin.Range.small i j c = true ∧ Builtin.Range.rangeSize i j c = n
theorem RgC.neg {i j : Int} (ha : -(2 ^ 62) ≤ i) (ha' : i < 2 ^ 62) (hb : -(2 ^ 62) ≤ j) (hb' : j < 2 ^ 62) : RgC i j (-1) (i - j).toNat :=
  ⟨by decide, by decide, PySem.W.small_down ha ha' hb hb', PySem.W.rangeSize_downNat i j⟩
def iRng3 (ta : TA) : TI := fun σ H R => ta σ H fun vs H1 => ∃ (i j c : Int) (n : Nat), vs = [.int i, .int j, .int c] ∧ RgC i j c n ∧ R (Itc i c n) H1
section
variable {X : Cx} {tg : Expr}
end
/-! ### reversed(list) -/
/-- the list at a (n items at the start, which the loop leaves there), from its end -/
def Itv (K : PySem.W.Frag) (a : Addr) (n : Nat) : It :=
  ⟨fun i H => i < n ∧ ∃ (xs : List V) (x : V), SqL K H a xs ∧ xs[n - 1 - i]? = some x, fun i H x H' => H' = H ∧ ∀ xs, SqL K H a xs → xs[n - 1 - i]? = some x, fun i _ => n ≤ i⟩
def iRev (K : PySem.W.Frag) (ta : TA) : TI := fun σ H R => ta σ H fun vs H1 => ∃ (a : Addr) (xs : List V), vs = [.ref a] ∧ SqL K H1 a xs ∧ R (Itv K a xs.length) H1
section
variable {X : Cx} {tg : Expr}
end

/-! ### a str -/
def Its (x : Str) : It := ⟨fun i _ => i < x.cps.size, fun i H v H' => H' = H ∧ ∃ c, x.cps[i]? = some c ∧ v = .str ⟨#[c]⟩, fun i _ => x.cps.size ≤ i⟩
def iStr (te : TE) : TI := fun σ H R => te σ H fun v H1 => ∃ x, v = .str x ∧ R (Its x) H1
/-! ### a dict's keys: any dict's entries -/
section
variable {prog : Program} {w : World} {A : Around} {E : Value → Shared → Prop} {s : Shared}
end

/-! ### a locked dict -/
theorem kv_get {κ : Type} {kvs : List (κ × V)} {vs : List (κ × Value)} (h : KV kvs vs) : ∀ {i : Nat} {k : κ} {v : V}, kvs[i]? = some (k, v) → ∃ u, vs[i]? = some (k, u) ∧ RelV v u := by
  unfold KV at h
  induction h with
  | nil => intro i k v e; simp at e
  | @cons a b l₁ l₂ r t ih =>
    intro i k v e
    cases i with
    | zero =>
      simp only [List.getElem?_cons_zero, Option.some.injEq] at e
      subst e
      refine ⟨b.2, ?_, r.2⟩
      simp only [List.getElem?_cons_zero]
      exact congrArg some (Prod.ext r.1.symm rfl)
    | succ j =>
      simp only [List.getElem?_cons_succ] at e ⊢
      exact ih e
theorem paired_get {α β : Type} {G : α → β → Prop} {l₁ : List α} {l₂ : List β} (h : Paired G l₁ l₂) : ∀ {i : Nat} {a : α}, l₁[i]? = some a → ∃ b, l₂[i]? = some b ∧ G a b := by
  induction h with
  | nil => intro i a e; simp at e
  | @cons a b l₁ l₂ r t ih =>
    intro i a' e
    cases i with
    | zero =>
      simp only [List.getElem?_cons_zero, Option.some.injEq] at e
      subst e
      exact ⟨b, rfl, r⟩
    | succ j =>
      simp only [List.getElem?_cons_succ] at e ⊢
      exact ih e
section
variable {X : Cx} {pins : List (Addr × Obj)} {σ : St} {H : Hp} {s : Shared} {d : Addr} {o : Obj}
end

/-- the keys of the locked dict at d, in their order -/
def Itk (d : Addr) (o : Obj) (kvs : List (Key × V)) : It :=
  ⟨fun i H => H d = some (.frz o (.dK kvs)) ∧ i < kvs.length, fun i H x H' => H' = H ∧ ∃ k v, kvs[i]? = some (k, v) ∧ x = kV k, fun i H => H d = some (.frz o (.dK kvs)) ∧ kvs.length ≤ i⟩
/-- .. of tuple keys: the key's own tuple -/
def Itkt (d : Addr) (o : Obj) (kvs : List (List Key × V)) : It :=
  ⟨fun i H => H d = some (.frz o (.dT kvs)) ∧ i < kvs.length, fun i H x H' => H' = H ∧ ∃ (k : List Key) (v : V) (q : Addr), kvs[i]? = some (k, v) ∧ x = .ref q ∧ TupK H q k, fun i H => H d = some (.frz o (.dT kvs)) ∧ kvs.length ≤ i⟩
/-- the values -/
def Itd (d : Addr) (o : Obj) (kvs : List (Key × V)) : It :=
  ⟨fun i H => H d = some (.frz o (.dK kvs)) ∧ i < kvs.length, fun i H x H' => H' = H ∧ ∃ k, kvs[i]? = some (k, x), fun i H => H d = some (.frz o (.dK kvs)) ∧ kvs.length ≤ i⟩
/-- the pairs, each a new tuple -/
def Iti (d : Addr) (o : Obj) (kvs : List (Key × V)) : It :=
  ⟨fun i H => H d = some (.frz o (.dK kvs)) ∧ i < kvs.length, fun i H x H' => ∃ T k v, kvs[i]? = some (k, v) ∧ x = .ref T ∧ H T = none ∧ H' = upd H T (.tup [kV k, v]), fun i H => H d = some (.frz o (.dK kvs)) ∧ kvs.length ≤ i⟩
section
variable {P : Program} {w : World} {K : PySem.W.Frag} {tg : Expr} {d : Addr} {o : Obj} {es : Array DictEntry} {ep : Nat}
end

/-! ### for k in d, d.keys(), d.values(), d.items() -/
/-- the dict is locked (tLock, or by the caller) -/
def iKeys (td : TE) : TI := fun σ H R => td σ H fun x H1 => ∃ d o, x = .ref d ∧ ((∃ kvs, H1 d = some (.frz o (.dK kvs)) ∧ R (Itk d o kvs) H1) ∨ ∃ kvs, H1 d = some (.frz o (.dT kvs)) ∧ R (Itkt d o kvs) H1)
def iVals (td : TE) : TI := fun σ H R => td σ H fun x H1 => ∃ d o kvs, x = .ref d ∧ H1 d = some (.frz o (.dK kvs)) ∧ R (Itd d o kvs) H1
def iItems (td : TE) : TI := fun σ H R => td σ H fun x H1 => ∃ d o kvs, x = .ref d ∧ H1 d = some (.frz o (.dK kvs)) ∧ R (Iti d o kvs) H1
def iKeysM (td : TE) : TI := fun σ H R => td σ H fun x H1 => ∃ d o kvs, x = .ref d ∧ H1 d = some (.frz o (.dK kvs)) ∧ R (Itk d o kvs) H1
section
variable {X : Cx} {tg e : Expr} {td : TE} {apos cpos : Pos}
end

/-! ### enumerate(list) -/
/-- the list at a as it stands at each turn, each item in a new pair -/
def Ite (K : PySem.W.Frag) (a : Addr) : It :=
  ⟨fun i H => ∃ (xs : List V) (x : V), SqL K H a xs ∧ xs[i]? = some x, fun i H v H' => ∃ T x, v = .ref T ∧ H T = none ∧ H' = upd H T (.tup [.int (i : Nat), x]) ∧ ∀ xs, SqL K H a xs → xs[i]? = some x, fun i H => ∃ xs : List V, SqL K H a xs ∧ xs.length ≤ i⟩
def iEnum (K : PySem.W.Frag) (ta : TA) : TI := fun σ H R => ta σ H fun vs H1 => ∃ a xs, vs = [.ref a] ∧ SqL K H1 a xs ∧ R (Ite K a) H1
/-! ### zip(list, list) -/
theorem boot_zip5 : bootBuiltins "zip" = some (.type "zip") := by decide +kernel
/-- the lists at a and b as they stand at each turn, the items in new pairs -/
def Itz (K : PySem.W.Frag) (a b : Addr) : It :=
  ⟨fun i H => ∃ (xs ys : List V) (x y : V), SqL K H a xs ∧ SqL K H b ys ∧ xs[i]? = some x ∧ ys[i]? = some y,
    fun i H v H' => ∃ T x y, v = .ref T ∧ H T = none ∧ H' = upd H T (.tup [x, y]) ∧ (∀ xs, SqL K H a xs → xs[i]? = some x) ∧ ∀ ys, SqL K H b ys → ys[i]? = some y,
    fun i H => ∃ xs ys : List V, SqL K H a xs ∧ SqL K H b ys ∧ (xs.length ≤ i ∨ ys.length ≤ i)⟩
theorem turn_zip {P : Program} {w : World} {K : PySem.W.Frag} {elts : List Expr} {kk : Nat} {tpos : Pos} {a b z TI TO i1 i2 : Addr} (D : ZipApart z TI TO i1 i2 a b) :
    Turn P w K (.Tuple elts kk tpos) (Itz K a b) [z, TI, TO, i1, i2] z (fun i h => IsZip h z TI TO .none ∧ IsPair h TI (.ref i1) (.ref i2) ∧ (∃ x y, IsPair h TO x y) ∧ h.IsListIter i1 a i ∧ h.IsListIter i2 b i) where
  mem := by simp
  obj := fun i h st c hc => by
    obtain ⟨hz, hTI, ⟨x, y, hTO⟩, ⟨o1, e1, _, d1⟩, ⟨o2, e2, _, d2⟩⟩ := st
    have e' : c = z ∨ c = TI ∨ c = TO ∨ c = i1 ∨ c = i2 := by simpa using hc
    rcases e' with q | q | q | q | q
    · rw [q]; exact ⟨_, hz, fun v q => nomatch q⟩
    · rw [q]; exact ⟨_, hTI, fun v q => nomatch q⟩
    · rw [q]; exact ⟨_, hTO, fun v q => nomatch q⟩
    · rw [q]; exact ⟨o1, e1, fun v q => by rw [d1] at q; cases q⟩
    · rw [q]; exact ⟨o2, e2, fun v q => by rw [d2] at q; cases q⟩
  keep := fun i h h' st k => by
    obtain ⟨hz, hTI, ⟨x, y, hTO⟩, h1, h2⟩ := st
    exact ⟨k z (by simp) _ hz, k TI (by simp) _ hTI, ⟨x, y, k TO (by simp) _ hTO⟩, h1.at fun o q => k i1 (by simp) o q, h2.at fun o q => k i2 (by simp) o q⟩
  item := by
    intro X hP hw hK hc i pins s σ H E I hf st hg
    subst hP hw hK
    obtain ⟨hz, hTI, ⟨x0, y0, hTO⟩, h1, h2⟩ := st
    obtain ⟨xs, ys, x, y, hqx, hqy, hx, hy⟩ := hg
    obtain ⟨its, rv, p, _⟩ := I.list hqx
    obtain ⟨its2, rv2, p2, _⟩ := I.list hqy
    obtain ⟨u, hu, ru⟩ := rv.get hx
    obtain ⟨u2, hu2, ru2⟩ := rv2.get hy
    have hzl : z < s.heap.objs.size := Heap.lt_size hz
    refine wpAny_pyNext_zip_item D hz hTI hTO h1 h2 p.isList p2.isList (x := u) (y := u2) (by simpa using hu) (by simpa using hu2) fun h' z' TO' h1' h2' hT hsz hk => ?_
    refine ⟨_, rfl, wpAny_letOwnedTupleGo_zip (s := { s with heap := h' }) z' fun h'' z'' sb => ?_⟩
    have hT2 : h''.get? s.heap.objs.size = some { cls := .type "tuple", data := .seq #[u, u2] } := (sb.2 _ (Nat.ne_of_gt hzl)).trans hT
    have new : ObjOk X.prog X.w (upd H s.heap.objs.size (.tup [x, y])) h'' s.heap.objs.size (.tup [x, y]) :=
      ⟨by show 2 ≤ sizeLine; decide, [u, u2], .cons ru (.cons ru2 .nil), ⟨_, hT2, rfl, _, rfl⟩⟩
    have I1 : Inv X pins σ (upd H s.heap.objs.size (.tup [x, y])) { s with heap := h'' } :=
      I.turnedNew (t' := s.toks) (ch := [z, TI, TO, i1, i2]) (fun c o hb q => (sb.2 c (fun q' => hb (by simp [q']))).trans (hk c o (fun q' => hb (by simp [q'])) (fun q' => hb (by simp [q'])) (fun q' => hb (by simp [q'])) (fun q' => hb (by simp [q'])) q)) hf (Nat.le_refl _) new
    refine ⟨.ref s.heap.objs.size, _, I1, rfl, ⟨_, x, y, rfl, I.hok.fresh (Nat.le_refl _), rfl, fun l hl => by rw [I.list_inj hl hqx]; exact hx, fun l hl => by rw [I.list_inj hl hqy]; exact hy⟩, ⟨z'', ?_, ⟨u, u2, ?_⟩, ?_, ?_⟩, fun c hcm => ?_⟩
    · exact (sb.2 _ D.TIz).trans (hk _ _ D.TIz D.TITO D.TIi1 D.TIi2 hTI)
    · exact (sb.2 _ D.TOz).trans TO'
    · exact h1'.at fun o q => (sb.2 _ D.i1z).trans q
    · exact h2'.at fun o q => (sb.2 _ D.i2z).trans q
    · have hlt : c < s.heap.objs.size := by
        have e' : c = z ∨ c = TI ∨ c = TO ∨ c = i1 ∨ c = i2 := by simpa using hcm
        rcases e' with q | q | q | q | q
        · rw [q]; exact hzl
        · rw [q]; exact Heap.lt_size hTI
        · rw [q]; exact Heap.lt_size hTO
        · rw [q]; obtain ⟨_, e1, _⟩ := h1; exact Heap.lt_size e1
        · rw [q]; obtain ⟨_, e2, _⟩ := h2; exact Heap.lt_size e2
      rw [upd_ne (Nat.ne_of_lt hlt)]
      exact (hf c hcm).1
  done := by
    intro X hP hw hK hc i pins s σ H E I hf st hg
    subst hP hw hK
    obtain ⟨hz, hTI, ⟨x0, y0, hTO⟩, h1, h2⟩ := st
    obtain ⟨xs, ys, hqx, hqy, hend⟩ := hg
    obtain ⟨its, rv, p, _⟩ := I.list hqx
    obtain ⟨its2, rv2, p2, _⟩ := I.list hqy
    have l1 := rv.length
    have l2 := rv2.length
    have he : its.toArray[i]? = none ∨ its2.toArray[i]? = none := by
      rcases hend with q | q
      · exact .inl (by simp; omega)
      · exact .inr (by simp; omega)
    exact wpAny_pyNext_zip_end (I.ok.hd hc) D hz hTI hTO h1 h2 p.isList p2.isList he fun h' hk => ⟨rfl, I.turnedL (t' := s.toks) (ch := [z, TI, TO, i1, i2]) (fun c o hb q =>
      hk c o (fun q' => hb (by simp [q'])) (fun q' => hb (by simp [q'])) (fun q' => hb (by simp [q'])) (fun q' => hb (by simp [q'])) q) hf⟩
  self := fun A i s Q E st h => wpAny_pyIter_zip st.1 h
def iZip (K : PySem.W.Frag) (ta : TA) : TI := fun σ H R => ta σ H fun vs H1 => ∃ a b xs ys, vs = [.ref a, .ref b] ∧ SqL K H1 a xs ∧ SqL K H1 b ys ∧ R (Itz K a b) H1
theorem pi_zip {X : Cx} {e e2 : Expr} {ta : TA} {p pos tpos : Pos} {elts : List Expr} {kk : Nat} (hg : Gl X "zip") (hm : X.mg "zip" = none) (ha : PA X [e, e2] ta)
    (hs : starEach [e, e2] X.env = (false, eval e X.env) :: starEach [e2] X.env := by rfl) (hpl : (backTo pos (starEach [e2] X.env)).any (·.1) = false := by rfl) :
    PI X (.Tuple elts kk tpos) (.Call (.Name "zip" p) [e, e2] [] pos) (iZip X.K ta) := by
  intro pins s σ H R I h
  refine Call_ (ld_blt I hg hm boot_zip5 (PyProof.Rows.callWith_type1 (thn (ha pos pins s σ H _ I h) fun us s1 ⟨vs, H1, I1, r1, q1⟩ => ?_) hs hpl))
  obtain ⟨a, b, xs, ys, ex, hqx, hqy, q⟩ := q1
  subst ex
  cases r1 with
  | cons r rr =>
    cases rr with
    | cons r' rr =>
      cases rr
      cases r
      cases r'
      obtain ⟨its, rv, p1, _⟩ := I1.list hqx
      obtain ⟨its2, rv2, p2, _⟩ := I1.list hqy
      have la : a < s1.heap.objs.size := p1.lt
      have lb : b < s1.heap.objs.size := p2.lt
      refine call_zip_2 p1.isList p2.isList fun h' hz hTI hTO h1 h2 hsz hk => wpAny_pyIter_zip hz ?_
      have I2 : Inv X pins σ H1 { s1 with heap := h' } := I1.kept (t' := s1.toks) hk
      refine ⟨s1.heap.objs.size + 4, [s1.heap.objs.size + 4, s1.heap.objs.size + 2, s1.heap.objs.size + 3, s1.heap.objs.size, s1.heap.objs.size + 1], _, _, H1, rfl, I2, turn_zip (PySem.W.ktu_apart s1.heap.objs.size a b la lb), ⟨hz, hTI, ⟨_, _, hTO⟩, h1, h2⟩, fun c hcm => ?_, q⟩
      have e' : c = s1.heap.objs.size + 4 ∨ c = s1.heap.objs.size + 2 ∨ c = s1.heap.objs.size + 3 ∨ c = s1.heap.objs.size ∨ c = s1.heap.objs.size + 1 := by simpa using hcm
      have hle : s1.heap.objs.size ≤ c := by
        rcases e' with z | z | z | z | z
        · rw [z]; exact Nat.le_add_right _ _
        · rw [z]; exact Nat.le_add_right _ _
        · rw [z]; exact Nat.le_add_right _ _
        · rw [z]; exact Nat.le_refl _
        · rw [z]; exact Nat.le_add_right _ _
      exact I1.fpOk hle (I1.hok.fresh hle)
end L2

section 
namespace Bits
open PySem PyProof.Rows

end Bits
end 

section 
namespace TL
open PySem PySem.Builtin PySem.Builtin.Str PySem.StrLaws

abbrev tl (x : Str) : List Nat := x.cps.toList
theorem len_tl (x : Str) : x.length = (tl x).length := by simp [tl, Str.length]
theorem ext_tl {x y : Str} (h : tl x = tl y) : x = y := Str.ext' (Array.toList_inj.mp h)
theorem tl_append (x y : Str) : tl (x ++ y) = tl x ++ tl y := by
  show (x ++ y).cps.toList = _
  rw [Str.cps_append, Array.toList_append]
theorem tl_mk (l : List Nat) : tl ⟨l.toArray⟩ = l := rfl
theorem mk_tl (x : Str) : (⟨(tl x).toArray⟩ : Str) = x := ext_tl rfl
theorem map_tl_inj : ∀ {l m : List Str}, l.map tl = m.map tl → l = m
  | [], [], _ => rfl
  | [], _ :: _, h => by simp at h
  | _ :: _, [], h => by simp at h
  | x :: l, y :: m, h => by
    rw [List.map_cons, List.map_cons] at h
    injection h with h1 h2
    rw [ext_tl h1, map_tl_inj h2]
theorem tl_ofString (s : String) : tl (Str.ofString s) = s.toList.map Char.toNat := PyProof.Rows.signs_ofString s

/-! ### the list functions -/
/-- S stands at the head of l -/
def pre (S l : List Nat) : Bool := l.take S.length == S
/-- l cut at each S from the left; k signs are still to be passed over -/
def spl (S : List Nat) : Nat → List Nat → List Nat → List (List Nat)
  | _, acc, [] => [acc]
  | 0, acc, c :: r => if pre S (c :: r) = true then acc :: spl S (S.length - 1) [] r else spl S 0 (acc ++ [c]) r
  | k + 1, acc, _ :: r => spl S k acc r
/-- what stands before the first S, and behind it -/
def par (S : List Nat) : List Nat → List Nat → Option (List Nat × List Nat)
  | _, [] => none
  | acc, c :: r => if pre S (c :: r) = true then some (acc, (c :: r).drop S.length) else par S (acc ++ [c]) r

theorem spl_nil (S : List Nat) (k : Nat) (acc : List Nat) : spl S k acc [] = [acc] := by cases k <;> rfl
theorem spl_hit {S acc r : List Nat} {c : Nat} (h : pre S (c :: r) = true) : spl S 0 acc (c :: r) = acc :: spl S (S.length - 1) [] r := by
  show (if pre S (c :: r) = true then acc :: spl S (S.length - 1) [] r else spl S 0 (acc ++ [c]) r) = _
  rw [if_pos h]
theorem spl_miss {S acc r : List Nat} {c : Nat} (h : pre S (c :: r) = false) : spl S 0 acc (c :: r) = spl S 0 (acc ++ [c]) r := by
  show (if pre S (c :: r) = true then acc :: spl S (S.length - 1) [] r else spl S 0 (acc ++ [c]) r) = _
  rw [if_neg (by rw [h]; exact Bool.false_ne_true)]
theorem spl_pass (S : List Nat) : ∀ (k : Nat) (acc l : List Nat), spl S k acc l = spl S 0 acc (l.drop k)
  | 0, _, _ => by rw [List.drop_zero]
  | k + 1, acc, [] => by rw [List.drop_nil, spl_nil, spl_nil]
  | k + 1, acc, c :: r => by
    show spl S k acc r = spl S 0 acc (r.drop k)
    exact spl_pass S k acc r
theorem par_hit {S acc r : List Nat} {c : Nat} (h : pre S (c :: r) = true) : par S acc (c :: r) = some (acc, (c :: r).drop S.length) := by
  show (if pre S (c :: r) = true then some (acc, (c :: r).drop S.length) else par S (acc ++ [c]) r) = _
  rw [if_pos h]
theorem par_miss {S acc r : List Nat} {c : Nat} (h : pre S (c :: r) = false) : par S acc (c :: r) = par S (acc ++ [c]) r := by
  show (if pre S (c :: r) = true then some (acc, (c :: r).drop S.length) else par S (acc ++ [c]) r) = _
  rw [if_neg (by rw [h]; exact Bool.false_ne_true)]

theorem pre_nil {S : List Nat} (hS : S ≠ []) : pre S [] = false := by
  cases S with
  | nil => exact absurd rfl hS
  | cons s S => rfl
theorem pre_of_head {s c : Nat} (S r : List Nat) (h : c ≠ s) : pre (s :: S) (c :: r) = false := by
  cases hp : pre (s :: S) (c :: r) with
  | false => rfl
  | true =>
    have e : (c :: r).take (s :: S).length = s :: S := eq_of_beq hp
    rw [List.length_cons, List.take_succ_cons] at e
    injection e with e1 e2
    exact absurd e1 h
theorem pre_self (S r : List Nat) : pre S (S ++ r) = true := by
  show ((S ++ r).take S.length == S) = true
  have e : (S ++ r).take S.length = S := List.take_left
  rw [e] <;> exact beq_self_eq_true S

theorem getElem_drop_cons {L : List Nat} {a : Nat} (h : a < L.length) : ∃ c, L.drop a = c :: L.drop (a + 1) := ⟨L[a], List.drop_eq_getElem_cons h⟩
theorem spl_run (S L : List Nat) : ∀ (m a : Nat) (acc : List Nat), a + m ≤ L.length → (∀ k, a ≤ k → k < a + m → pre S (L.drop k) = false) →
    spl S 0 acc (L.drop a) = spl S 0 (acc ++ (L.drop a).take m) (L.drop (a + m))
  | 0, a, acc, _, _ => by rw [List.take_zero, List.append_nil, Nat.add_zero]
  | m + 1, a, acc, h, hn => by
    have hlt : a < L.length := by omega
    obtain ⟨c, e⟩ := getElem_drop_cons hlt
    have h0 := hn a (Nat.le_refl _) (by omega)
    have ih := spl_run S L m (a + 1) (acc ++ [c]) (by omega) (fun k h1 h2 => hn k (by omega) (by omega))
    have e2 : a + 1 + m = a + (m + 1) := by omega
    rw [e2] at ih
    rw [e] at h0
    rw [e, spl_miss h0, ih, List.take_succ_cons, List.append_assoc] <;> rfl
theorem par_run (S L : List Nat) : ∀ (m a : Nat) (acc : List Nat), a + m ≤ L.length → (∀ k, a ≤ k → k < a + m → pre S (L.drop k) = false) →
    par S acc (L.drop a) = par S (acc ++ (L.drop a).take m) (L.drop (a + m))
  | 0, a, acc, _, _ => by rw [List.take_zero, List.append_nil, Nat.add_zero]
  | m + 1, a, acc, h, hn => by
    have hlt : a < L.length := by omega
    obtain ⟨c, e⟩ := getElem_drop_cons hlt
    have h0 := hn a (Nat.le_refl _) (by omega)
    have ih := par_run S L m (a + 1) (acc ++ [c]) (by omega) (fun k h1 h2 => hn k (by omega) (by omega))
    have e2 : a + 1 + m = a + (m + 1) := by omega
    rw [e2] at ih
    rw [e] at h0
    rw [e, par_miss h0, ih, List.take_succ_cons, List.append_assoc] <;> rfl
theorem drop_two (L : List Nat) (a b : Nat) : (L.drop a).drop b = L.drop (a + b) := by
  first
    | rw [List.drop_drop]
    | rw [List.drop_drop, Nat.add_comm]
theorem spl_at {S L : List Nat} (hS : S ≠ []) {c : Nat} {acc : List Nat} (h : pre S (L.drop c) = true) : spl S 0 acc (L.drop c) = acc :: spl S 0 [] (L.drop (c + S.length)) := by
  rw [← drop_two]
  cases e : L.drop c with
  | nil => rw [e, pre_nil hS] at h; cases h
  | cons d r =>
    rw [e] at h
    rw [spl_hit h, spl_pass]
    cases S with
    | nil => exact absurd rfl hS
    | cons s S => rfl
theorem par_at {S L : List Nat} (hS : S ≠ []) {c : Nat} {acc : List Nat} (h : pre S (L.drop c) = true) : par S acc (L.drop c) = some (acc, L.drop (c + S.length)) := by
  rw [← drop_two]
  cases e : L.drop c with
  | nil => rw [e, pre_nil hS] at h; cases h
  | cons d r =>
    rw [e] at h
    rw [par_hit h]

/-! ### the model's split and partition are these -/
theorem at_iff {x y : Str} (hy : tl y ≠ []) (i : Nat) : At x y x.length i ↔ pre (tl y) ((tl x).drop i) = true := by
  have hx := len_tl x
  have hl := len_tl y
  constructor
  · intro h
    have h2 := h.2
    rw [subAt_eq, hl] at h2
    exact h2
  · intro h
    have e : ((tl x).drop i).take (tl y).length = tl y := eq_of_beq h
    have e1 := congrArg List.length e
    rw [List.length_take, List.length_drop] at e1
    have e2 : 0 < (tl y).length := List.length_pos_iff.mpr hy
    refine ⟨by omega, ?_⟩
    rw [subAt_eq, hl]
    exact h
theorem no_at {x y : Str} (hy : tl y ≠ []) {i : Nat} (h : ¬ At x y x.length i) : pre (tl y) ((tl x).drop i) = false := by
  cases hp : pre (tl y) ((tl x).drop i) with
  | false => rfl
  | true => exact absurd ((at_iff hy i).mpr hp) h
theorem len1 {y : Str} (hy : tl y ≠ []) : 1 ≤ y.length := by
  have e2 : 0 < (tl y).length := List.length_pos_iff.mpr hy
  rw [len_tl y]
  exact e2
theorem tl_strSub (x : Str) (i j : Nat) : tl (strSub x i j) = ((tl x).drop i).take (j - i) := strSub_toList x i j
theorem tl_strSub_end (x : Str) (i : Nat) : tl (strSub x i x.length) = (tl x).drop i := by
  rw [tl_strSub, len_tl x]
  exact List.take_of_length_le (by rw [List.length_drop] <;> omega)

theorem parts_spl {x y : Str} (hy : tl y ≠ []) : ∀ (cuts : List Nat) (a f : Nat), a ≤ (tl x).length → ChainG x y x.length a cuts f → (∀ k, f ≤ k → ¬ At x y x.length k) →
    (partsFrom x y.length a cuts).map tl = spl (tl y) 0 [] ((tl x).drop a)
  | [], a, f, ha, h, hn => by
    have e : f = a := h
    subst e
    show [tl (strSub x f x.length)] = _
    have run := spl_run (tl y) (tl x) ((tl x).length - f) f [] (by omega) (fun k h1 _ => no_at hy (hn k h1))
    have e2 : f + ((tl x).length - f) = (tl x).length := by omega
    rw [e2, List.drop_length, spl_nil, List.nil_append, List.take_of_length_le (by rw [List.length_drop] <;> omega)] at run
    rw [run, tl_strSub_end]
  | c :: r, a, f, ha, h, hn => by
    obtain ⟨h1, h2, h3, h4⟩ := h
    have hc : c + y.length ≤ x.length := h2.1
    have hx := len_tl x
    have hl := len_tl y
    have ih := parts_spl hy r (c + y.length) f (by omega) h4 hn
    show tl (strSub x a c) :: (partsFrom x y.length (c + y.length) r).map tl = _
    have run := spl_run (tl y) (tl x) (c - a) a [] (by omega) (fun k k1 k2 => no_at hy (h3 k k1 (by omega)))
    have e2 : a + (c - a) = c := by omega
    rw [e2, List.nil_append, spl_at hy ((at_iff hy c).mp h2)] at run
    rw [run, ih, tl_strSub, hl]

/-- hk: by kind_ok where the separator is plain -/
theorem split_spl (x y : Str) (hy : tl y ≠ []) (hk : ¬ Builtin.Str.strKind x < Builtin.Str.strKind y) : (Txt.split x y).map tl = spl (tl y) 0 [] (tl x) := by
  obtain ⟨f, g, hn⟩ := occ_tight x y (len1 hy)
  have key := parts_spl hy _ 0 f (Nat.zero_le _) g hn
  rw [List.drop_zero] at key
  have none_case : occurrences x y 0 x.length (x.length + 1) = [] → [x].map tl = spl (tl y) 0 [] (tl x) := fun ho => by
    rw [ho] at key
    rw [← key]
    show [tl x] = [tl (strSub x 0 x.length)]
    rw [sub_whole]
  unfold Txt.split
  by_cases h1 : (decide (x.length < y.length) || decide (Builtin.Str.strKind x < Builtin.Str.strKind y)) = true
  · rw [if_pos h1]
    have hlt : x.length < y.length := by
      simp only [Bool.or_eq_true, decide_eq_true_eq] at h1
      rcases h1 with h | h
      · exact h
      · exact absurd h hk
    refine none_case ?_
    cases ho : occurrences x y 0 x.length (x.length + 1) with
    | nil => rfl
    | cons c r =>
      rw [ho] at g
      have hc : c + y.length ≤ x.length := g.2.1.1
      omega
  · rw [if_neg h1]
    by_cases h2 : (occurrences x y 0 x.length (x.length + 1)).isEmpty = true
    · rw [if_pos h2]
      exact none_case (List.isEmpty_iff.mp h2)
    · rw [if_neg h2, partsBetween_eq]
      exact key
theorem kind_ok {x y : Str} (h : y.cps.all (· < 256) = true) : ¬ Builtin.Str.strKind x < Builtin.Str.strKind y := by
  have e : Builtin.Str.strKind y = 1 := by unfold PySem.Builtin.Str.strKind; rw [if_pos h]
  rw [e]
  unfold PySem.Builtin.Str.strKind
  split
  · omega
  · split <;> omega

theorem partition_par (x y : Str) (hy : tl y ≠ []) :
    Txt.partition x y = (match par (tl y) [] (tl x) with | some (a, b) => (⟨a.toArray⟩, y, ⟨b.toArray⟩) | none => (x, Str.empty, Str.empty)) := by
  have hx := len_tl x
  have hl := len_tl y
  rcases PyProof.Rows.partition_whole x y with ⟨e, hn⟩ | ⟨i, e, hi, hn⟩
  · have run := par_run (tl y) (tl x) (tl x).length 0 [] (by omega) (fun k _ _ => no_at hy (hn k))
    rw [List.drop_zero, Nat.zero_add, List.drop_length] at run
    rw [e, run] <;> rfl
  · have hb : i + y.length ≤ x.length := hi.1
    have run := par_run (tl y) (tl x) i 0 [] (by omega) (fun k _ k2 => no_at hy (hn k (by omega)))
    rw [List.drop_zero, Nat.zero_add, List.nil_append, par_at hy ((at_iff hy i).mp hi)] at run
    rw [e, run]
    have e1 : strSub x 0 i = ⟨((tl x).take i).toArray⟩ := ext_tl (by rw [tl_strSub, List.drop_zero, Nat.sub_zero])
    have e2 : strSub x (i + y.length) x.length = ⟨((tl x).drop (i + (tl y).length)).toArray⟩ := ext_tl (by rw [tl_strSub_end, hl])
    rw [e1, e2] <;> rfl

/-! ### computing spl and par -/
/-- a part that the separator does not begin in, then the separator -/
theorem spl_part {S p rest acc : List Nat} (hS : S ≠ []) (h : ∀ i, i < p.length → pre S ((p ++ (S ++ rest)).drop i) = false) :
    spl S 0 acc (p ++ (S ++ rest)) = (acc ++ p) :: spl S 0 [] rest := by
  have run := spl_run S (p ++ (S ++ rest)) p.length 0 acc (by rw [List.length_append]; omega) (fun k _ k2 => h k (by omega))
  have ed : (p ++ (S ++ rest)).drop p.length = S ++ rest := List.drop_left
  rw [List.drop_zero, Nat.zero_add, List.take_left] at run
  rw [run, spl_at hS (by rw [ed]; exact pre_self S rest), ← drop_two, ed, List.drop_left]
theorem spl_last {S p acc : List Nat} (h : ∀ i, i < p.length → pre S (p.drop i) = false) : spl S 0 acc p = [acc ++ p] := by
  have run := spl_run S p p.length 0 acc (by omega) (fun k _ k2 => h k (by omega))
  rw [List.drop_zero, Nat.zero_add, List.drop_length, spl_nil, List.take_length] at run
  exact run
theorem par_part {S p rest acc : List Nat} (hS : S ≠ []) (h : ∀ i, i < p.length → pre S ((p ++ (S ++ rest)).drop i) = false) :
    par S acc (p ++ (S ++ rest)) = some (acc ++ p, rest) := by
  have run := par_run S (p ++ (S ++ rest)) p.length 0 acc (by rw [List.length_append]; omega) (fun k _ k2 => h k (by omega))
  have ed : (p ++ (S ++ rest)).drop p.length = S ++ rest := List.drop_left
  rw [List.drop_zero, Nat.zero_add, List.take_left] at run
  rw [run, par_at hS (by rw [ed]; exact pre_self S rest), ← drop_two, ed, List.drop_left]
theorem par_none {S p acc : List Nat} (h : ∀ i, i < p.length → pre S (p.drop i) = false) : par S acc p = none := by
  have run := par_run S p p.length 0 acc (by omega) (fun k _ k2 => h k (by omega))
  rw [List.drop_zero, Nat.zero_add, List.drop_length] at run
  exact run
/-- the separator's first sign is not in the part -/
theorem free_of {s : Nat} {S p q : List Nat} (h : s ∉ p) : ∀ i, i < p.length → pre (s :: S) ((p ++ q).drop i) = false := fun i hi => by
  have hlt : i < (p ++ q).length := by rw [List.length_append]; omega
  have e : (p ++ q).drop i = (p ++ q)[i] :: (p ++ q).drop (i + 1) := List.drop_eq_getElem_cons hlt
  rw [e]
  refine pre_of_head _ _ fun z => h ?_
  have e1 : (p ++ q)[i] = p[i] := List.getElem_append_left hi
  rw [← z, e1]
  exact List.getElem_mem hi
theorem spl_part1 {s : Nat} {S p rest acc : List Nat} (h : s ∉ p) : spl (s :: S) 0 acc (p ++ (s :: S ++ rest)) = (acc ++ p) :: spl (s :: S) 0 [] rest :=
  spl_part (by simp) (free_of h)
theorem spl_last1 {s : Nat} {S p acc : List Nat} (h : s ∉ p) : spl (s :: S) 0 acc p = [acc ++ p] := spl_last fun i hi => by
  have z := free_of (S := S) (q := []) h i hi
  rw [List.append_nil] at z
  exact z
theorem par_part1 {s : Nat} {S p rest acc : List Nat} (h : s ∉ p) : par (s :: S) acc (p ++ (s :: S ++ rest)) = some (acc ++ p, rest) := par_part (by simp) (free_of h)
theorem par_none1 {s : Nat} {S p acc : List Nat} (h : s ∉ p) : par (s :: S) acc p = none := par_none fun i hi => by
  have z := free_of (S := S) (q := []) h i hi
  rw [List.append_nil] at z
  exact z

/-- joined lists -/
def joinL (S : List Nat) : List (List Nat) → List Nat
  | [] => []
  | [p] => p
  | p :: q :: r => p ++ (S ++ joinL S (q :: r))
theorem tl_join (y : Str) : ∀ parts : List Str, tl (Str.join y parts) = joinL (tl y) (parts.map tl)
  | [] => rfl
  | [_] => rfl
  | x :: z :: r => by
    show tl (x ++ y ++ Str.join y (z :: r)) = tl x ++ (tl y ++ joinL (tl y) ((z :: r).map tl))
    rw [tl_append, tl_append, tl_join y (z :: r), List.append_assoc]
theorem spl_join {s : Nat} {S : List Nat} : ∀ {parts : List (List Nat)}, parts ≠ [] → (∀ p ∈ parts, s ∉ p) → spl (s :: S) 0 [] (joinL (s :: S) parts) = parts
  | [], h, _ => absurd rfl h
  | [p], _, hp => by
    show spl (s :: S) 0 [] p = [p]
    rw [spl_last1 (hp p (List.mem_singleton.mpr rfl)), List.nil_append]
  | p :: q :: r, _, hp => by
    show spl (s :: S) 0 [] (p ++ (s :: S ++ joinL (s :: S) (q :: r))) = p :: q :: r
    rw [spl_part1 (hp p (List.mem_cons_self ..)), List.nil_append, spl_join (by simp) fun z hz => hp z (List.mem_cons_of_mem _ hz)]
theorem join_eq (y : Str) (parts : List Str) : Txt.join y parts = Str.join y parts := glued_eq_join y parts
/-- THE READ-BACK: a joined text, split -/
theorem split_join {y : Str} {s : Nat} {S : List Nat} (ey : tl y = s :: S) (hk : y.cps.all (· < 256) = true) {parts : List Str} (hne : parts ≠ []) (hp : ∀ p ∈ parts, s ∉ tl p) :
    Txt.split (Txt.join y parts) y = parts := by
  refine map_tl_inj ?_
  rw [split_spl _ y (by rw [ey]; simp) (kind_ok hk), join_eq, tl_join, ey]
  refine spl_join (fun e => hne (List.map_eq_nil_iff.mp e)) fun p h => ?_
  obtain ⟨z, hz, rfl⟩ := List.mem_map.mp h
  exact hp z hz
/-- a text cut at its first separator -/
theorem partition_app {y : Str} {s : Nat} {S : List Nat} (ey : tl y = s :: S) {a b : Str} (h : s ∉ tl a) : Txt.partition (a ++ y ++ b) y = (a, y, b) := by
  rw [partition_par _ y (by rw [ey]; simp), tl_append, tl_append, List.append_assoc, ey, par_part1 h]
  show ((⟨([] ++ tl a).toArray⟩ : Str), y, (⟨(tl b).toArray⟩ : Str)) = _
  rw [List.nil_append, mk_tl, mk_tl]
theorem partition_none {y : Str} {s : Nat} {S : List Nat} (ey : tl y = s :: S) {a : Str} (h : s ∉ tl a) : Txt.partition a y = (a, Str.empty, Str.empty) := by
  rw [partition_par _ y (by rw [ey]; simp), ey, par_none1 h]

/-! ### digits -/
/-- the signs of a number -/
def numL (n : Nat) : List Nat := (Nat.toDigits 10 n).map Char.toNat
theorem tl_num (n : Nat) : tl (Str.ofString (toString ((n : Nat) : Int))) = numL n := PySem.W.KIN.signs_num n
theorem digitChar_nat : ∀ d : Nat, d < 10 → (Nat.digitChar d).toNat = 48 + d := by decide
theorem numL_lt {n : Nat} (h : n < 10) : numL n = [48 + n] := by
  unfold numL
  rw [Nat.toDigits_of_lt_base h]
  show [(Nat.digitChar n).toNat] = _
  rw [digitChar_nat n h]
theorem numL_step {n : Nat} (h : 10 ≤ n) : numL n = numL (n / 10) ++ [48 + n % 10] := by
  have hm : n % 10 < 10 := Nat.mod_lt n (by decide)
  have t : Nat.toDigits 10 (n / 10) ++ Nat.toDigits 10 (n % 10) = Nat.toDigits 10 (10 * (n / 10) + n % 10) := Nat.toDigits_append_toDigits (by decide) (by omega) hm
  rw [Nat.div_add_mod] at t
  show (Nat.toDigits 10 n).map Char.toNat = _
  rw [← t, List.map_append, Nat.toDigits_of_lt_base hm]
  show (Nat.toDigits 10 (n / 10)).map Char.toNat ++ [(Nat.digitChar (n % 10)).toNat] = _
  rw [digitChar_nat _ hm] <;> rfl
theorem numL_digits (n : Nat) : NumText.AllDigits (numL n) := by
  induction n using Nat.strongRecOn with
  | _ n ih =>
    by_cases h : n < 10
    · rw [numL_lt h]
      intro c hc
      rw [List.mem_singleton.mp hc]
      omega
    · rw [numL_step (by omega)]
      intro c hc
      rcases List.mem_append.mp hc with hc | hc
      · exact ih (n / 10) (by omega) c hc
      · have hm : n % 10 < 10 := Nat.mod_lt n (by decide)
        rw [List.mem_singleton.mp hc]
        omega
theorem numL_ne (n : Nat) : numL n ≠ [] := by
  by_cases h : n < 10
  · rw [numL_lt h]
    simp
  · rw [numL_step (by omega)]
    simp
theorem numL_free {n s : Nat} (h : s < 48 ∨ 57 < s) : s ∉ numL n := fun hm => by
  have r := numL_digits n s hm
  omega
theorem numL_val (n : Nat) : NumText.digitsVal (numL n) = n := PySem.W.KIN.val_back n
theorem numL_inj {m n : Nat} (h : numL m = numL n) : m = n := by
  have e := congrArg NumText.digitsVal h
  rw [numL_val, numL_val] at e
  exact e
theorem numL_len {n k : Nat} (hk : 0 < k) (h : n < 10 ^ k) : (numL n).length ≤ k := by
  have z := PyProof.Rows.toString_length_le (v := (n : Int)) (by omega) hk (by
    have e : ((10 : Int) ^ k) = ((10 ^ k : Nat) : Int) := by
      first
        | exact (Int.natCast_pow 10 k).symm
        | simp
    rw [e]
    first | exact Int.ofNat_lt.mpr h | omega)
  rw [len_tl, tl_num] at z
  exact z
/-- int(str(n)) -/
theorem int_num {n : Nat} (h : (numL n).length ≤ 4300) : intText? (Str.ofString (toString ((n : Nat) : Int))) = some (n : Int) := by
  have e := intText_digits (x := Str.ofString (toString ((n : Nat) : Int))) (by rw [show (Str.ofString (toString ((n : Nat) : Int))).cps.toList = numL n from tl_num n]; exact numL_digits n)
    (by rw [show (Str.ofString (toString ((n : Nat) : Int))).cps.toList = numL n from tl_num n]; exact numL_ne n) (by rw [len_tl, tl_num]; exact h)
  rw [show (Str.ofString (toString ((n : Nat) : Int))).cps.toList = numL n from tl_num n, numL_val] at e
  exact e
/-! ### words: x.split() -/
def wstep (st : List (List Nat) × List Nat) (c : Nat) : List (List Nat) × List Nat :=
  if Unicode.isSpace c = true then (if st.2 = [] then st else (st.1 ++ [st.2], [])) else (st.1, st.2 ++ [c])
def wfin (st : List (List Nat) × List Nat) : List (List Nat) := if st.2 = [] then st.1 else st.1 ++ [st.2]
end TL
end 

namespace L2
open PySem PySem.Spec PyProof.Rows

/-- a list of texts, of numbered texts -/
theorem vals_strs : ∀ l : List (Str × Tok), Vals ((l.map (·.1)).map V.str) (strValues l)
  | [] => .nil
  | p :: r => .cons ⟨p.2, rfl⟩ (vals_strs r)
theorem strs_of_vals : ∀ {ys : List Str} {us : List Value}, Vals (ys.map V.str) us → StrsAre us ys
  | [], _, .nil => .nil
  | y :: ys, _, .cons r t => by
    obtain ⟨k, rfl⟩ := r
    exact .cons y k (strs_of_vals t)

/-- a new list of texts, tracked -/
def rNewStrs (ys : List Str) : Hp → VK → Prop := fun H Q => ∀ p, H p = none → Q (.ref p) (upd H p (.lst (ys.map V.str)))

section
variable {X : Cx} {pins : List (Addr × Obj)} {σ : St} {H : Hp} {s : Shared} {Q : VK}
theorem laid_strs {l : List (Str × Tok)} {ys : List Str} {k : Nat} (I : Inv X pins σ H s) (e : l.map (·.1) = ys) (hz : ys.length ≤ sizeLine) (h : rNewStrs ys H Q) :
    EP X pins σ Q (.ref s.heap.objs.size) { s with toks := k, heap := s.heap.push { cls := .type "list", data := .seq (strValues l).toArray } } := by
  have hp := I.hok.fresh (Nat.le_refl _)
  refine ⟨.ref s.heap.objs.size, upd H s.heap.objs.size (.lst (ys.map V.str)), I.laid (fun b u q => Heap.get?_push_of_some _ q) (Nat.le_refl _) ⟨by rw [List.length_map]; exact hz, strValues l, _, ?_, Heap.get?_push_size _ rfl⟩, rfl, h _ hp⟩
  rw [← e]
  exact vals_strs l
theorem laid_parts {x y z : Str} {t u v : Tok} {k : Nat} (I : Inv X pins σ H s) (h : ∀ p, H p = none → Q (.ref p) (upd H p (.tup [.str x, .str y, .str z]))) :
    EP X pins σ Q (.ref s.heap.objs.size) { s with toks := k, heap := s.heap.push { cls := .type "tuple", data := .seq [Value.str x t, .str y u, .str z v].toArray } } := by
  have hp := I.hok.fresh (Nat.le_refl _)
  exact ⟨.ref s.heap.objs.size, upd H s.heap.objs.size (.tup [.str x, .str y, .str z]), I.laid (fun b u q => Heap.get?_push_of_some _ q) (Nat.le_refl _)
    ⟨by show 3 ≤ sizeLine; decide, [Value.str x t, .str y u, .str z v], .cons ⟨t, rfl⟩ (.cons ⟨u, rfl⟩ (.cons ⟨v, rfl⟩ .nil)), _, Heap.get?_push_size _ rfl, rfl, _, rfl⟩, rfl, h _ hp⟩
end

section
variable {X : Cx}

/-- x.split(sep) -/
theorem mt_split : MtR X "str.split" (fun x xs H Q => ∃ a b, x = .str a ∧ xs = [.str b] ∧ (b.length == 0) = false ∧ a.length + 2 ≤ sizeLine ∧ rNewStrs (Txt.split a b) H Q) := by
  intro pins s σ H x xs v us Q I rx rs h
  obtain ⟨a, b, rfl, rfl, hb, hz, h⟩ := h
  obtain ⟨t, rfl⟩ := rx
  cases rs with
  | cons r1 rs =>
    cases rs
    obtain ⟨u, rfl⟩ := r1
    have hl : (Txt.split a b).length ≤ sizeLine := Nat.le_trans (PyProof.Rows.split_le a b) hz
    have hn : (Builtin.Str.partsBetween a (Builtin.Str.occurrences a b 0 a.length (a.length + 1)) b.length).length ≤ sizeLine := by
      have e1 := StrLaws.occ_length_le a b 0 a.length (a.length + 1)
      rw [length_partsBetween]; omega
    cases h1 : (decide (a.length < b.length) || decide (Builtin.Str.strKind a < Builtin.Str.strKind b))
    · cases hf : (Builtin.Str.occurrences a b 0 a.length (a.length + 1)).isEmpty
      · refine call_meets F.slot_str_split (typeIs_str _ _ _) F.entry_str_split (F.args_str_split_2 _ _) (meets_str_split_sep a b t u h1 hb hf (by omega) hn) ?_
        show EP X pins σ Q (.ref s.heap.objs.size) { s with toks := _, heap := s.heap.push { cls := .type "list", data := .seq (strsFrom s.toks (Builtin.Str.partsBetween a (Builtin.Str.occurrences a b 0 a.length (a.length + 1)) b.length)).toArray } }
        rw [strsFrom_eq]
        exact laid_strs (ys := Txt.split a b) I ((numbered_texts _ _).trans ((if_neg (ne_true_of_eq_false h1)).trans (if_neg (ne_true_of_eq_false hf))).symm) hl h
      · refine call_meets F.slot_str_split (typeIs_str _ _ _) F.entry_str_split (F.args_str_split_2 _ _) (meets_str_split_not_found a b t u h1 hb hf) ?_
        exact laid_strs (l := [(a, t)]) (ys := Txt.split a b) (k := s.toks) I ((if_neg (ne_true_of_eq_false h1)).trans (if_pos hf)).symm hl h
    · refine call_meets F.slot_str_split (typeIs_str _ _ _) F.entry_str_split (F.args_str_split_2 _ _) (meets_str_split_cannot_occur a b t u h1) ?_
      exact laid_strs (l := [(a, t)]) (ys := Txt.split a b) (k := s.toks) I (if_pos h1).symm hl h

/-- x.partition(sep) -/
theorem mt_partition : MtR X "str.partition" (fun x xs H Q => ∃ a b, x = .str a ∧ xs = [.str b] ∧ (b.length == 0) = false ∧ a.length ≤ sizeLine ∧
    ∀ p, H p = none → Q (.ref p) (upd H p (.tup [.str (Txt.partition a b).1, .str (Txt.partition a b).2.1, .str (Txt.partition a b).2.2]))) := by
  intro pins s σ H x xs v us Q I rx rs h
  obtain ⟨a, b, rfl, rfl, hb, hz, h⟩ := h
  obtain ⟨t, rfl⟩ := rx
  cases rs with
  | cons r1 rs =>
    cases rs
    obtain ⟨u, rfl⟩ := r1
    refine call_meets F.slot_str_partition (typeIs_str _ _ _) F.entry_str_partition (F.args_str_partition_2 _ _) (meets_str_partition a b t u hb hz) ?_
    unfold Txt.partition at h
    revert h
    cases Builtin.Str.occurrences a b 0 a.length 1 with
    | nil => intro h; exact laid_parts I h
    | cons i r => intro h; exact laid_parts I h

/-- sep.join(a list | a tuple of texts) -/
theorem mt_join : MtR X "str.join" (fun x xs H Q => ∃ a p, ∃ ys : List Str, x = .str a ∧ xs = [.ref p] ∧ (SqL X.K H p (ys.map V.str) ∨ SqT X.K H p (ys.map V.str)) ∧
    (ys.map (·.length)).sum + ys.length * a.length ≤ 16777216 ∧ Q (.str (Txt.join a ys)) H) := by
  intro pins s σ H x xs v us Q I rx rs h
  obtain ⟨a, p, ys, rfl, rfl, hp, hz, h⟩ := h
  obtain ⟨t, rfl⟩ := rx
  cases rs with
  | cons r1 rs =>
    cases rs
    cases r1
    rcases hp with hp | hp
    · obtain ⟨its, r, ⟨o, n, ho, hc, _, hd⟩, _⟩ := I.list hp
      exact PyProof.Rows.join_list (items := its.toArray) ⟨o, ho, hc, n, hd⟩ (by rw [List.toList_toArray]; exact strs_of_vals r) hz fun t' k => ⟨.str _, H, I.tok k, ⟨t', rfl⟩, h⟩
    · obtain ⟨its, r, ht, _⟩ := I.tuple hp
      exact PyProof.Rows.join_tuple (items := its.toArray) ht (by rw [List.toList_toArray]; exact strs_of_vals r) hz fun t' k => ⟨.str _, H, I.tok k, ⟨t', rfl⟩, h⟩

/-! ### of a text alone -/
/-! ### of a text and a text -/
/-- int(text) -/
theorem call_int_str : CallR X (.type "int") (fun xs H Q => ∃ a n, xs = [.str a] ∧ PySem.intText? a = some n ∧ a.length ≤ 640 ∧ Q (.int n) H) := by
  intro pins s σ H xs us Q I rs h
  obtain ⟨a, n, rfl, hn, hl, h⟩ := h
  cases rs with
  | cons r1 rs =>
    cases rs
    obtain ⟨t, rfl⟩ := r1
    exact PySem.W.KIN.call_text hn hl ⟨.int n, H, I.tok _, ⟨_, rfl⟩, h⟩
end

section
variable {X : Cx} {o e : Expr} {to te : TE}
def tM0 (r : V → List V → Hp → VK → Prop) (to : TE) : TE := fun σ H Q => to σ H fun x H1 => (∃ a, x = .str a) ∧ r x [] H1 Q
def tM1 (r : V → List V → Hp → VK → Prop) (to te : TE) : TE := fun σ H Q => to σ H fun x H1 => (∃ a, x = .str a) ∧ te σ H1 fun y H2 => r x [y] H2 Q
theorem pe_m1 {id : String} {name : Str} {apos pos : Pos} {r : V → List V → Hp → VK → Prop} (slot : Slot "str" name id) (ty : typeOf (.builtin id) = pure (.type "method_descriptor")) (rule : MtR X id r) (ho : PE X o to) (he : PE X e te)
    (hs : starEach [e] X.env = [(false, eval e X.env)] := by rfl) (hbase : attributeBase o name X.env (eval o X.env) = eval o X.env := by rfl) (hline : (apos.endLine == pos.line) = true := by rfl) :
    PE X (.Call (.Attribute o name apos) [e] [] pos) (tM1 r to te) := by
  intro pins s σ H Q I h
  refine PySem.Call_method1 hbase hs hline (thn (ho pins s σ H _ I h) fun v s1 ⟨x, H1, I1, r1, q1⟩ => ?_)
  obtain ⟨⟨a, rfl⟩, q1⟩ := q1
  obtain ⟨t, rfl⟩ := _root_.id r1
  refine ⟨"str", _, F.plainAttrs_str, slot, ty, typeIs_str _ _ _, (fun _ e => nomatch e), Calls.callWith_builtin rfl (Calls.evalArgs_plain (Calls.spliced_cons ?_))⟩
  exact thn (he pins s1 σ H1 _ I1 q1) fun u s2 ⟨y, H2, I2, r2, q2⟩ => Calls.spliced_nil (rule pins s2 σ H2 _ [y] _ [u] Q I2 r1 (.cons r2 .nil) q2)

theorem pe_split {apos pos : Pos} (ho : PE X o to) (he : PE X e te) (hs : starEach [e] X.env = [(false, eval e X.env)] := by rfl) (hbase : attributeBase o "split" X.env (eval o X.env) = eval o X.env := by rfl) (hline : (apos.endLine == pos.line) = true := by rfl) :
    PE X (.Call (.Attribute o "split" apos) [e] [] pos) (tM1 (fun x xs H Q => ∃ a b, x = .str a ∧ xs = [.str b] ∧ (b.length == 0) = false ∧ a.length + 2 ≤ sizeLine ∧ rNewStrs (Txt.split a b) H Q) to te) :=
  pe_m1 F.slot_str_split F.type_str_split mt_split ho he hs hbase hline
theorem pe_partition {apos pos : Pos} (ho : PE X o to) (he : PE X e te) (hs : starEach [e] X.env = [(false, eval e X.env)] := by rfl) (hbase : attributeBase o "partition" X.env (eval o X.env) = eval o X.env := by rfl) (hline : (apos.endLine == pos.line) = true := by rfl) :
    PE X (.Call (.Attribute o "partition" apos) [e] [] pos) (tM1 (fun x xs H Q => ∃ a b, x = .str a ∧ xs = [.str b] ∧ (b.length == 0) = false ∧ a.length ≤ sizeLine ∧
      ∀ p, H p = none → Q (.ref p) (upd H p (.tup [.str (Txt.partition a b).1, .str (Txt.partition a b).2.1, .str (Txt.partition a b).2.2]))) to te) :=
  pe_m1 F.slot_str_partition F.type_str_partition mt_partition ho he hs hbase hline
theorem pe_join {apos pos : Pos} (ho : PE X o to) (he : PE X e te) (hs : starEach [e] X.env = [(false, eval e X.env)] := by rfl) (hbase : attributeBase o "join" X.env (eval o X.env) = eval o X.env := by rfl) (hline : (apos.endLine == pos.line) = true := by rfl) :
    PE X (.Call (.Attribute o "join" apos) [e] [] pos) (tM1 (fun x xs H Q => ∃ a p, ∃ ys : List Str, x = .str a ∧ xs = [.ref p] ∧ (SqL X.K H p (ys.map V.str) ∨ SqT X.K H p (ys.map V.str)) ∧
      (ys.map (·.length)).sum + ys.length * a.length ≤ 16777216 ∧ Q (.str (Txt.join a ys)) H) to te) :=
  pe_m1 F.slot_str_join F.type_str_join mt_join ho he hs hbase hline
end
end L2

namespace L2
open PySem PySem.Spec PyProof.Rows

section
variable {X : Cx}
end

/-! ### slices of a text -/
theorem IsPart.raw {v : Value} {o : Option Int} (p : IsPart v o) : ∃ l : Option (Int × Tok), v = partValue l ∧ l.map (·.1) = o := by
  cases p with
  | none => exact ⟨none, rfl, rfl⟩
  | int i t => exact ⟨some (i, t), rfl, rfl⟩

/-- a part, clipped, as the text's slice reckons it -/
def clipS (n d : Nat) : Option Int → Int
  | none => (d : Int)
  | some i => max 0 (min (if i < 0 then i + (n : Int) else i) (n : Int))
theorem clipS_eq (n d : Nat) (o : Option Int) : clipS n d o = ((HT.sIx n d o : Nat) : Int) := by
  cases o with
  | none => rfl
  | some v =>
    show max (0 : Int) (min (if v < 0 then v + (n : Int) else v) (n : Int)) = (((if v < 0 then (v + (n : Int)).toNat else min v.toNat n) : Nat) : Int)
    by_cases hv : v < 0
    · simp only [if_pos hv]
      omega
    · simp only [if_neg hv]
      omega
theorem sidx_clip (a b : Option Int) (n : Nat) : Builtin.Str.strSliceIndices a b 1 n = sliceRange (clipS n 0 a) (clipS n n b) 1 := by
  have h1 : ((1 : Int) > 0) = True := by simp
  cases a <;> cases b <;> first
    | rfl
    | (simp only [Builtin.Str.strSliceIndices, clipS, h1, if_true]; rfl)
    | simp [Builtin.Str.strSliceIndices, clipS]
theorem sidx (a b : Option Int) (n : Nat) : Builtin.Str.strSliceIndices a b 1 n = (List.range (HT.sIx n n b - HT.sIx n 0 a)).map (fun k => HT.sIx n 0 a + k) := by
  rw [sidx_clip, clipS_eq, clipS_eq]
  generalize HT.sIx n 0 a = p
  generalize HT.sIx n n b = q
  simp only [sliceRange, show ((1 : Int) > 0) = True from by simp, if_true]
  by_cases hlt : (p : Int) < q
  · have e3 : (((q : Int) - p + 1 - 1) / 1).toNat = q - p := by first | omega | (simp; done) | (simp; omega)
    simp only [hlt, if_true, e3]
    refine List.map_congr_left fun k _ => ?_
    omega
  · have : q - p = 0 := by omega
    simp [hlt, this]

/-- z[lo:hi] -/
def cutS (z : Str) (lo hi : Option Int) : Str :=
  ⟨((z.cps.toList.drop (HT.sIx z.length 0 lo)).take (HT.sIx z.length z.length hi - HT.sIx z.length 0 lo)).toArray⟩
theorem sliceText_cut (z : Str) (lo hi : Option Int) : PySem.StrLaws.sliceText z lo hi = cutS z lo hi := by
  have h1 : HT.sIx z.length 0 lo ≤ z.length := HT.sIx_le _ _ (Nat.zero_le _) _
  have h2 : HT.sIx z.length z.length hi ≤ z.length := HT.sIx_le _ _ (Nat.le_refl _) _
  have hp : HT.sIx z.length 0 lo ≤ max (HT.sIx z.length 0 lo) (HT.sIx z.length z.length hi) := Nat.le_max_left _ _
  have hq : max (HT.sIx z.length 0 lo) (HT.sIx z.length z.length hi) ≤ z.length := Nat.max_le.mpr ⟨h1, h2⟩
  have hd : max (HT.sIx z.length 0 lo) (HT.sIx z.length z.length hi) - HT.sIx z.length 0 lo = HT.sIx z.length z.length hi - HT.sIx z.length 0 lo := by omega
  have e : Builtin.Str.strSliceIndices lo hi 1 z.length =
      Builtin.Str.strSliceIndices (some ((HT.sIx z.length 0 lo : Nat) : Int)) (some ((max (HT.sIx z.length 0 lo) (HT.sIx z.length z.length hi) : Nat) : Int)) 1 z.length := by
    rw [PySem.StrLaws.strSliceIndices_plain hp hq, hd, sidx]
  have e2 : PySem.StrLaws.sliceText z lo hi =
      PySem.StrLaws.sliceText z (some ((HT.sIx z.length 0 lo : Nat) : Int)) (some ((max (HT.sIx z.length 0 lo) (HT.sIx z.length z.length hi) : Nat) : Int)) := by
    unfold PySem.StrLaws.sliceText
    rw [e]
  rw [e2, PySem.StrLaws.sliceText_nat z hp hq, hd]
  rfl
theorem cutS_length (z : Str) (lo hi : Option Int) : (cutS z lo hi).length ≤ z.length := by
  show (((z.cps.toList.drop (HT.sIx z.length 0 lo)).take (HT.sIx z.length z.length hi - HT.sIx z.length 0 lo)).toArray).size ≤ z.cps.size
  rw [List.size_toArray, List.length_take, List.length_drop, Array.length_toList]
  omega
def rSlS : V → Option Int → Option Int → Hp → VK → Prop := fun x lo hi H Q => ∃ z, x = .str z ∧ z.length ≤ sizeLine ∧ Q (.str (cutS z lo hi)) H
theorem sl_str {X : Cx} : SlR X rSlS := by
  intro pins s σ H x v vl vu lo hi sl Q I rx hs pl pu h
  obtain ⟨z, rfl, hz, q⟩ := h
  obtain ⟨t, rfl⟩ := rx
  obtain ⟨os, hos, hcs, hds⟩ := hs
  obtain ⟨l, rfl, rfl⟩ := IsPart.raw pl
  obtain ⟨u, rfl, rfl⟩ := IsPart.raw pu
  refine ⟨"str", _, F.slot_str_getitem.lookup, typeIs_str _ _ _, ?_⟩
  refine wpAny_getItem_str_slice (l := l) (u := u) (st := none) ⟨os, hos, hcs, hds⟩ rfl ?_
  have hl : (PySem.StrLaws.sliceText z (l.map (·.1)) (u.map (·.1))).length ≤ sizeLine := by
    rw [sliceText_cut]
    exact Nat.le_trans (cutS_length z _ _) hz
  rw [← sliceText_cut] at q
  unfold PySem.StrLaws.sliceText at q hl
  show Made.post (if ((1 : Int) == 1 && (Builtin.Str.strSliceIndices (l.map (·.1)) (u.map (·.1)) 1 z.length).length == z.length) = true then Made.val (.str z t)
    else Made.str ⟨((Builtin.Str.strSliceIndices (l.map (·.1)) (u.map (·.1)) 1 z.length).filterMap (z.cps[·]?)).toArray⟩) (EP X pins σ Q) s
  by_cases c : ((1 : Int) == 1 && (Builtin.Str.strSliceIndices (l.map (·.1)) (u.map (·.1)) 1 z.length).length == z.length) = true
  · rw [if_pos c] at q ⊢
    exact ⟨.str z, H, I, ⟨t, rfl⟩, q⟩
  · rw [if_neg c] at q hl ⊢
    exact ⟨hl, .str _, H, I.tok _, ⟨_, rfl⟩, q⟩
end L2

namespace Att
open PySem PySem.W PySem.Calls PyProof.Rows

/-! ### the script -/
theorem ints_of_wellAll {P : Params} {h : Heap} : ∀ (ns : List Int) (vs : List Value), WellAll P h vs (ns.map WData.int) → IntsAre vs ns := by
  intro ns
  induction ns with
  | nil =>
    intro vs w
    rw [List.map_nil] at w
    cases w
    exact .nil
  | cons n ns ih =>
    intro vs w
    rw [List.map_cons] at w
    cases w with
    | cons a b =>
      cases a
      exact .cons _ _ (ih _ b)

theorem script_of {l : OpenLaw} {n : Nat} (hn : l.most = some n) {P : Params} {h : Heap} {args : List WData} {vals : List Value}
    (hpre : l.row.toRowW.claim.pre args = true) (hwl : WellAll P h vals args) :
    ∃ a vs ns, vals = [Value.ref a] ∧ args = [WData.list (ns.map WData.int)] ∧ h.get? a = some { cls := .type "list", data := .seq vs.toArray } ∧ IntsAre vs ns ∧ ns.length ≤ n := by
  have hsh : WShape.hasAll [] args [.list .int] = true := (pre_splitW hpre).1
  have hc : l.pre.holds [] { args := args } = true := (pre_splitW hpre).2
  obtain ⟨d, r, rfl, h1, h2⟩ := hasAllW_cons hsh
  obtain rfl := hasAllW_nil h2
  obtain ⟨xs, rfl, h3⟩ := hasW_list h1
  obtain ⟨ns, rfl⟩ := items_int h3
  have hlen : ns.length ≤ n := by
    unfold OpenLaw.pre at hc
    have h4 : (WTm.not (.lt (.lit (.int (n : Int))) (.len (.arg 0)))).holds [] { args := [.list (ns.map .int)] } = true := by
      have h4 := (holds_andW hc).1
      rw [hn] at h4
      exact h4
    have h5 := condW_of h4 (w_not (w_lt w_lit (w_len_list (w_arg rfl))))
    rw [List.length_map] at h5
    refine Nat.le_of_not_lt fun q => ?_
    have q' : (n : Int) < ((ns.length : Nat) : Int) := by omega
    first
      | (rw [decide_eq_true q'] at h5; exact absurd h5 (by decide))
      | (simp at h5; omega)
  cases hwl with
  | cons w1 w2 =>
    cases w2
    cases w1 with
    | list ho hall => exact ⟨_, _, ns, rfl, rfl, ho, ints_of_wellAll ns _ hall, hlen⟩

theorem post_true (l : OpenLaw) (args : List WData) : l.row.toRowW.claim.post args (.bool true) args = true :=
  postW_of (r := l.row.toRowW) (X := (true == true))
    (show WShape.has [] (.bool true) .bool = true by first | rfl | decide | simp [WShape.has, WShape.arms, WShape.armsAll])
    (show (WTm.eq .res (.lit (.bool true))).value [] { args := args, res := some (.bool true), after := args } = some (.bool (true == true)) from w_eq_bool (w_res rfl) w_lit) rfl

/-! ### the attachment: holds_open's last premise (the goal 'hc' behind k_head) from a wpAny of the law's body -/
/-- the same from a codeAny of the CALL (for a layer whose function contracts speak of calls) -/
theorem attach_call {l : OpenLaw} {n : Nat} {q : Program} {loose : List Str} {XP : (Str → Option Value) → Heap → Prop} {YP : World → Heap → Prop} {d : DefRec}
    (hn : l.most = some n) (hdf : d.params.defaults = [])
    (call : ∀ (w : World) (s₀ s₁ : Shared) (mg mb : Str → Option Value) (fa : Addr) (o : Obj) (pm cd doc : Value) (a : Addr) (vs : List Value) (ns : List Int),
      Ground q loose [] XP w s₀ mg mb s₁.heap → YP w s₁.heap →
      s₁.heap.get? fa = some o → o.data = .func (docDef d.name d.params d.body d.scope pm cd doc) → s₁.heap.CodeRec cd d.name → mg d.name = some (.ref fa) →
      s₁.heap.get? a = some { cls := .type "list", data := .seq vs.toArray } → IntsAre vs ns → ns.length ≤ n → s₁.gens = #[] →
      codeAny (model l.prog w) callerA (.call (.ref fa) ⟨[.ref a], []⟩) (fun r s' => r = .ok (.ret (.bool true)) ∧ OldK s₁.heap s'.heap ∧ s'.os = s₁.os ∧ AllBare s'.gens) s₁) :
    WalkO q loose XP YP l.row.toRowW d [] (fun f vs => PySem.call f vs) := by
  intro w s₀ s₁ mg mb G Y fa o pm cd doc dV kV ho hd hcd hD hmg hg args vals as hpre hlay hrd hwl hlo
  obtain rfl : dV = .none := Dflts.none hD hdf
  obtain rfl : kV = .none := Dflts.noKw hD
  obtain ⟨a, vs, ns, rfl, rfl, hobj, hints, hlen⟩ := script_of hn hpre hwl
  refine enter_call (codeAny_mono (call w s₀ s₁ mg mb fa o pm cd doc a vs ns G Y ho (fd_plain hd) hcd hmg hobj hints hlen hg) fun r s' hq => ?_)
  obtain ⟨rfl, h2, h3, h4⟩ := hq
  exact ⟨.inl ⟨.bool true, .bool true, [], rfl, fun _ => rfl, .bool true, post_true l _, fun _ => ⟨List.Pairwise.nil, fun _ hm => (nomatch hm)⟩⟩, h2, h3, h4⟩

/-! ### rules over ANY heap (no ledger) from facts about the written part K: the library's own take a ledger (News) for what they write -/
section
variable {prog : Program} {w : World} {A : Around} {E : Value → Shared → Prop} {s : Shared} {K : Frag}

/-! the whole heap as the ledger: makes every rule that writes through a ledger a rule over any heap -/
def noObjs (h : Heap) : Heap := { h with objs := #[] }
def ledger (h : Heap) (L d : Addr) : List (Addr × Obj) := (List.range h.objs.size).filterMap fun a => if a = L ∨ a = d then none else (h.get? a).map fun o => (a, o)
end
end Att

namespace L2
open PySem PySem.Spec PyProof.Rows

theorem vals_ints : ∀ {vs : List Value} {ns : List Int}, IntsAre vs ns → Vals (ns.map V.int) vs
  | _, _, .nil => .nil
  | _, _, .cons n t h => .cons ⟨t, rfl⟩ (vals_ints h)

/-- nothing is tracked but the script, known to the object (or it is an object of the module) -/
def Only (H : Hp) : Prop := ∀ b, H b = none ∨ ∃ o xs, H b = some (.frz o (.lst xs))

/-- THE HEAD: the law's promise, at the heap behind the top. F, the promise of the law's def, may use that base is part of the heap (so K.In base, base.Ns mainGlobals mg stand in Mod) -/
theorem law_call {P : Program} {w : World} {K : PySem.W.Frag} {mg mb : Str → Option Value} {CX : CXT} {k : Nat} {fa a : Addr} {fd : FuncData} {x : Str} {sp : Sp} {s₁ : Shared} {vs : List Value} {ns : List Int}
    (KX : K.In s₁.heap) (hns : s₁.heap.Ns mainGlobals mg) (hb : s₁.heap.Ns builtinsNs mb) (hbb : ∀ x : Str, x ≠ "__name__" → mb x = bootBuiltins x) (hlim : s₁.heap.NoLimit) (hg : s₁.gens = #[])
    (ha : s₁.heap.get? a = some { cls := .type "list", data := .seq vs.toArray }) (hi : IntsAre vs ns) (hl : ns.length ≤ sizeLine) (hr : Room k callerA)
    (F : ∀ base : Heap, K.In base → base.Ns mainGlobals mg → FnOk P w K mg base CX k fa fd [x] sp) (hbind : ∀ (s : Shared) (u : Value), BindsTo s fd ⟨[u], []⟩ [(x, u)])
    (hsp : ∀ H : Hp, Only H → SqL K H a (ns.map V.int) → sp [.ref a] H (fun v _ => v = .bl true) fun _ _ _ => False)
    (hCX : ∀ H e s', CX [] H s₁ (fun _ _ _ => False) e s' → False) :
    codeAny (model P w) callerA (.call (.ref fa) ⟨[.ref a], []⟩) (fun r s' => r = .ok (.ret (.bool true)) ∧ OldK s₁.heap s'.heap ∧ s'.os = s₁.os ∧ AllBare s'.gens) s₁ := by
  have rv := vals_ints hi
  have lenV := hi.length
  -- from an abstract heap in which nothing but the script may be tracked
  have core : ∀ H : Hp, Only H → SqL K H a (ns.map V.int) → HOk P w H s₁.heap → (∀ b, H b ≠ none → b = a) → (H a ≠ none → K.lookup a = none) →
      codeAny (model P w) callerA (.call (.ref fa) ⟨[.ref a], []⟩) (fun r s' => r = .ok (.ret (.bool true)) ∧ OldK s₁.heap s'.heap ∧ s'.os = s₁.os ∧ AllBare s'.gens) s₁ := by
    intro H hO hS hok hA hK
    have base_of : ∀ {b : Addr} {o : Obj}, s₁.heap.get? b = some o → H b = none → (hidT s₁.heap H).get? b = some o := fun e n => hidT_get e n
    have noA : ∀ {b : Addr} {o : Obj} {es : Array DictEntry} {ep : Nat}, s₁.heap.get? b = some o → o.data = .dict es ep → H b = none := fun {b o es ep} e d => by
      cases q : H b with
      | none => rfl
      | some u =>
        have e' : b = a := hA b (by rw [q]; simp)
        subst e'
        rw [ha] at e; cases e
        have d' : Data.seq vs.toArray _ = Data.dict es ep := d
        cases d'
    have nsK : ∀ {b : Addr} {m : Str → Option Value}, s₁.heap.Ns b m → (hidT s₁.heap H).Ns b m := fun {b m} ⟨o, es, ep, e, d, r⟩ => ⟨o, es, ep, base_of e (noA e d), d, r⟩
    have hKb : K.In (hidT s₁.heap H) := fun b o e => base_of (KX b o e) (by
      cases q : H b with
      | none => rfl
      | some u =>
        have e' : b = a := hA b (by rw [q]; simp)
        subst e'
        rw [hK (by rw [q]; simp)] at e; cases e)
    have hM : Mod K mg (hidT s₁.heap H) := ⟨hKb, nsK hns, ⟨mb, nsK hb, hbb⟩, let ⟨mc, h1, h2⟩ := hlim; ⟨mc, nsK h1, h2⟩⟩
    have e0 : Env0 P w K mg (hidT s₁.heap H) callerA [] s₁ H := ⟨rfl, hM, fun b o e => of_hidT e, Nat.le_of_eq (hidT_size _ _), trivial, fun b hb => absurd (show b ∈ ([] : List Addr) from hb) (by simp), hok, .of_eq hg⟩
    refine codeAny_mono ((F _ hKb (nsK hns)).run callerA [] s₁ H ⟨[.ref a], []⟩ [.ref a] [.ref a] _ _ hr e0 (hbind s₁ (.ref a)) (.cons rfl .nil) (hsp H hO hS)) fun r s' h => ?_
    cases r with
    | error e => exact (hCX H e s' h).elim
    | ok fl =>
      cases fl with
      | next => exact False.elim h
      | brk => exact False.elim h
      | cont => exact False.elim h
      | ret u =>
        obtain ⟨v, H', os, bare, un, hok', r', q⟩ := h
        have q' : v = .bl true := q
        subst q'
        obtain rfl : u = Value.bool true := r'
        refine ⟨rfl, OldK.of_keep fun b o e => ?_, os, bare⟩
        cases q : H b with
        | none => exact un.keep b o e q (by intro z; exact absurd (show b ∈ ([] : List Addr) from z) (by simp)) (by simp)
        | some u =>
          rcases hO b with z | ⟨ob, xs, z⟩
          · rw [q] at z; cases z
          · have z2 := un.frzs b ob _ z
            obtain ⟨e1, _⟩ := hok b _ z
            obtain ⟨e2, _⟩ := hok' b _ z2
            rw [e] at e1; cases e1
            exact e2
  cases hk : K.lookup a with
  | some o =>
    -- the script is one of the module's own objects
    have e := KX a o hk
    rw [ha] at e
    cases e
    refine core (fun _ => none) (fun _ => .inl rfl) (.inr ⟨_, vs.toArray, _, hk, rfl, rfl, rfl, by rw [List.size_toArray, lenV]; exact hl, by simpa using rv⟩) (fun b u z => by have z' : (none : Option HO) = some u := z; cases z') (fun b z => absurd rfl z) fun z => absurd rfl z
  | none =>
    refine core (fun b => if b = a then some (.frz { cls := .type "list", data := .seq vs.toArray } (.lst (ns.map V.int))) else none) (fun b => ?_) (.inl (.inr ⟨{ cls := .type "list", data := .seq vs.toArray }, if_pos rfl⟩)) (fun b u z => ?_) (fun b z => ?_) fun _ => hk
    · by_cases hb : b = a
      · exact .inr ⟨_, _, if_pos hb⟩
      · exact .inl (if_neg hb)
    · by_cases hb : b = a
      · have z' := (if_pos hb).symm.trans z
        cases z'
        subst hb
        exact ⟨ha, by rw [List.length_map]; exact hl, vs, _, rv, ha⟩
      · have z' := (if_neg hb).symm.trans z
        cases z'
    · by_cases hb : b = a
      · exact hb
      · exact absurd (if_neg hb) z
end L2

namespace L2
open PySem PySem.Spec PyProof.Rows

abbrev KOf {K : PySem.W.Frag} {h : Heap} (_ : K.In h) : PySem.W.Frag := K

/-- the goal that k_head leaves (case hc), from the law's promise. F gives the function object fd (K's own) once, then the promise over every base -/
theorem walk_of {l : PySem.W.OpenLaw} {n k : Nat} {q : Program} {loose : List Str} {XP : (Str → Option Value) → Heap → Prop} {YP : World → Heap → Prop} {d : DefRec} {K : Params → PySem.W.Frag} {CX : World → CXT} {sp : World → Sp} {x : Str}
    (hn : l.most = some n) (hn2 : n ≤ sizeLine) (hdf : d.params.defaults = []) (hr : Room k callerA)
    (hY : ∀ (w : World) (h : Heap), YP w h → (K w.params).In h)
    (F : ∀ (w : World) (mg : Str → Option Value) (fa : Addr) (h : Heap), (K w.params).In h → h.Ns mainGlobals mg → mg d.name = some (.ref fa) →
      ∃ fd : FuncData, (∀ (s : Shared) (u : Value), BindsTo s fd ⟨[u], []⟩ [(x, u)]) ∧
        ∀ base : Heap, (K w.params).In base → base.Ns mainGlobals mg → FnOk l.prog w (K w.params) mg base (CX w) k fa fd [x] (sp w))
    (hsp : ∀ (w : World) (H : Hp) (a : Addr) (ns : List Int), ns.length ≤ n → Only H → SqL (K w.params) H a (ns.map V.int) → sp w [.ref a] H (fun v _ => v = .bl true) fun _ _ _ => False)
    (hCX : ∀ (w : World) (H : Hp) (s : Shared) (e : Value) (s' : Shared), CX w [] H s (fun _ _ _ => False) e s' → False) :
    PySem.W.WalkO q loose XP YP l.row.toRowW d [] (fun f vs => PySem.call f vs) := by
  refine Att.attach_call hn hdf fun w s₀ s₁ mg mb fa o pm cd doc a vs ns G Y ho hd hcd hmg hobj hints hlen hg => ?_
  have KX := hY w _ Y
  obtain ⟨fd, hb, hF⟩ := F w mg fa _ KX G.T.g hmg
  exact law_call KX G.T.g G.T.b G.T.builtins G.T.nolimit hg hobj hints (Nat.le_trans hlen hn2) hr hF hb (fun H hO hS => hsp w H a ns hlen hO hS) fun H e s' => hCX w H s₁ e s'
end L2

/- THE LAST THEOREM (shape; LID, My.* are yours):
   My.Adr: a structure of the addresses that your layer names (classes, functions); My.Txt K t: a structure (Prop) of the equations over K;
   My.txt_mk : {K} {implicit addresses ..} (e1 : nsIn K mainGlobals "law" = some (some (.ref f))) (e2 : K.lookup f = some ⟨oc, od, .func (fnOf "law" "law" params body scope dV kV doc pm an cdv ct), sl⟩) (e3 : codeIn K cdv "law" = true) .. : ∃ t, My.Txt K t

set_option maxRecDepth 100000 in
set_option maxHeartbeats 0 in
theorem PySem.Challenge.cw_LID_holds : PySem.Challenge.rw_LID.Holds := by
  w_on; o_law; k_head; (case hw => w_witness2)
  k_fill
  refine L2.walk_of (l := PySem.Challenge.rw_LID) (n := 63) (k := 40) (x := "script") (CX := fun w => ..) (sp := fun _ => My.sp_law) rfl (by decide) rfl ⟨rfl, by decide, by decide⟩ (fun w h Y => PySem.W.kIn_of Y) ?F ?S ?C
  case F =>
    intro w mg fa h KX G hmg
    have T : ∃ t, My.Txt (L2.KOf KX) t := by
      dsimp only [L2.KOf]                          -- K must stand as «<heap const> w.params» for k_is
      refine' My.txt_mk ?e1 ?e2 ?e3 ..
      (case e1 => PySem.W.k_is)                    -- in the order: a name -> its address -> its object -> its parts
      (case e2 => PySem.W.k_is)
      ..
    obtain ⟨t, T⟩ := T
    have e0 := hmg.symm.trans (PySem.W.mg_of KX G T.law)
    cases e0                                       -- fa is the law's own address
    exact ⟨_, fun s u => .of_eq rfl, fun base kb nb => My.law_fn T kb nb⟩     -- if «.of_eq rfl» comes too early: refine' ⟨_, ?b, fun base kb nb => My.law_fn T kb nb⟩; exact fun s u => .of_eq rfl
  case S => exact fun w H a ns hl hO hS => ..
  case C => exact ..
(the tactic k_is has no namespace: write k_is) -/

/-! SHORT WORDS over the layer: a def of the text, its body, what a loop and a test want. -/
namespace L2
open PySem PySem.Spec PyProof.Rows

/-! ### the text by places -/
/-- the j-th statement of a class's body -/
def inClass (s : Stmt) (j : Nat) : Stmt := match s with
  | .ClassDef _ _ _ body _ _ _ _ _ _ _ => body.getD j (.Pass ⟨0, 0, 0, 0⟩)
  | _ => .Pass ⟨0, 0, 0, 0⟩
def defArgs (s : Stmt) : Arguments := match s with
  | .FunctionDef _ a _ _ _ _ _ _ _ _ => a
  | _ => { posonlyargs := [], args := [], vararg := none, kwonlyargs := [], kw_defaults := [], kwarg := none, defaults := [] }
def defBody (s : Stmt) : List Stmt := match s with
  | .FunctionDef _ _ b _ _ _ _ _ _ _ => b
  | _ => []
def defScope (s : Stmt) : Scope := match s with
  | .FunctionDef _ _ _ _ _ _ sc _ _ _ => sc
  | _ => { kind := .function, names := [], isGenerator := false, isCoroutine := false }

/-! ### no exception leaves a def -/
abbrev CX0 : CXT := fun _ _ _ _ _ _ => False
abbrev E0 : XK := fun _ _ _ => False
theorem pass0 {X : Cx} : Passes CX0 X E0 := fun _ _ _ _ _ _ _ h => h.elim

/-! ### a def (or method) of the text as it stands behind the top -/
structure Fun (K : PySem.W.Frag) (x qual : Str) (st : Stmt) (f : Addr) (fd : FuncData) : Prop where
  ex : ∃ (oc : Value) (od : Option Addr) (kV doc pm : Value) (an : Option Addr) (cdv ct : Value) (osl : Array (Option Value)),
    fd = PySem.W.fnOf x qual (defArgs st) (defBody st) (defScope st) .none kV doc pm an cdv ct ∧ K.lookup f = some ⟨oc, od, .func fd, osl⟩ ∧ PySem.W.codeIn K cdv qual = true
  kp : PySem.W.keepIn K (.ref f) = true
section
variable {P : Program} {w : World} {K : PySem.W.Frag} {mg : Str → Option Value} {base : Heap}
/-- THE RULE for a def: its body as a term of rules, and the reading of that term -/
theorem Fun.ok {x qual : Str} {st : Stmt} {f : Addr} {fd : FuncData} {N ps : List Str} {k : Nat} {sp : Sp} (F : Fun K x qual st f fd) (S : FnScope N ps (defScope st)) (len : ∀ vs H Q E, sp vs H Q E → vs.length = ps.length)
    (hbody : ∀ (cdv : Value) (A : Around) (outer : List Env) (s : Shared) (H : Hp) (vs : List V) (Q : VK) (E : XK), Room k (A.deeper (envOfC qual (defScope st) s.heap.objs.size f cdv)) → sp vs H Q E →
      ∃ t, PSs (cxOf CX0 P w K mg base N qual (defScope st) f cdv A outer s H E).nox (defBody st) t ∧ t { nx := fun _ H' => Q .non H', rt := Q } (start N vs) H) : FnOk P w K mg base CX0 (k + 1) f fd ps sp := by
  obtain ⟨oc, od, kV, doc, pm, an, cdv, ct, osl, rfl, lk, hcd⟩ := F.ex
  refine fn_of lk hcd S len fun A outer s H vs Q E hr hsp => ?_
  obtain ⟨t, h, q⟩ := hbody cdv A outer s H vs Q E hr hsp
  exact ⟨t, h.nox, q⟩
/-- how its arguments bind (no defaults): h is «fun _ _ _ _ _ _ us hl => match us, hl with | [_, _], _ => rfl», one _ a parameter -/
theorem Fun.binds {x qual : Str} {st : Stmt} {f : Addr} {fd : FuncData} {ps : List Str} (F : Fun K x qual st f fd)
    (h : ∀ (kV doc pm : Value) (an : Option Addr) (cdv ct : Value) (us : List Value), us.length = ps.length → bindArgs (PySem.W.fnOf x qual (defArgs st) (defBody st) (defScope st) .none kV doc pm an cdv ct) ⟨us, []⟩ = pure (ps.zip us)) : Binds K fd ps [] := by
  obtain ⟨oc, od, kV, doc, pm, an, cdv, ct, osl, rfl, lk, hcd⟩ := F.ex
  exact .all (h kV doc pm an cdv ct)
theorem fun_mk {x qual : Str} {st : Stmt} {f : Addr} {oc : Value} {od an : Option Addr} {osl : Array (Option Value)} {kV doc pm cdv ct : Value} (l : K.lookup f = some ⟨oc, od, .func (PySem.W.fnOf x qual (defArgs st) (defBody st) (defScope st) .none kV doc pm an cdv ct), osl⟩)
    (c : PySem.W.codeIn K cdv qual = true) (k : PySem.W.keepIn K (.ref f) = true) : Fun K x qual st f (PySem.W.fnOf x qual (defArgs st) (defBody st) (defScope st) .none kV doc pm an cdv ct) := ⟨⟨oc, od, kV, doc, pm, an, cdv, ct, osl, rfl, l, c⟩, k⟩
end
theorem hu_of {A : Around} {k : Nat} (hr : Room k A) : A.units + 1 < cLine := Nat.lt_of_le_of_lt (Nat.add_le_add_left (by decide : 1 ≤ 64) _) hr.units
/-! ### expressions in short: the name that stands in the i-th slot -/
section
variable {X : Cx}
theorem pv (i : Nat) {x : Str} {pos : Pos} (hN : X.N[i]? = some x := by rfl) (hv : Vis X.env.scope x := by first | exact Or.inl rfl | exact Or.inr (Or.inl rfl) | exact Or.inr (Or.inr rfl)) (hd : (x == ("__debug__" : Str)) = false := by decide)
    (hcd : (x == ("__classdict__" : Str)) = false := by decide) : PE X (.Name x pos) (tVar i) := pe_var hN hv hd hcd
end

/-! ### tests -/
theorem iteF {A B : Prop} (h : B) : if false = true then A else B := by
  rw [if_neg Bool.false_ne_true]
  exact h
theorem iteT {A B : Prop} (h : A) : if true = true then A else B := by
  rw [if_pos rfl]
  exact h
theorem ite2 {c A B : Prop} [Decidable c] (h1 : c → A) (h2 : ¬ c → B) : if c then A else B := by
  by_cases h : c
  · rw [if_pos h]
    exact h1 h
  · rw [if_neg h]
    exact h2 h
/-! ### heaps -/
/-- all that was tracked is as it was -/
def Same (H H' : Hp) : Prop := ∀ b o, H b = some o → H' b = some o
theorem Same.refl (H : Hp) : Same H H := fun _ _ h => h
theorem Same.trans {H H1 H2 : Hp} (a : Same H H1) (b : Same H1 H2) : Same H H2 := fun c o h => b c o (a c o h)
theorem Same.free {H H' : Hp} (e : Same H H') {l : Addr} (h : H' l = Option.none) : H l = Option.none := by
  cases q : H l with
  | none => rfl
  | some o =>
    rw [e l o q] at h
    cases h
theorem Same.seq {K : PySem.W.Frag} {H H' : Hp} {a : Addr} {xs : List V} (e : Same H H') (h : SqL K H a xs) : SqL K H' a xs := by
  rcases h with (h | ⟨o, h⟩) | h
  · exact .inl (.inl (e _ _ h))
  · exact .inl (.inr ⟨o, e _ _ h⟩)
  · exact .inr h

/-! ### a dict's pairs: keys that differ -/
section
variable {κ : Type} [DecidableEq κ]
theorem nd_snoc : ∀ {l : List κ} {k : κ}, l.Nodup → ¬ k ∈ l → (l ++ [k]).Nodup
  | [], k, _, _ => by simp
  | a :: r, k, h, hk => by
    obtain ⟨h1, h2⟩ := List.nodup_cons.mp h
    show (a :: (r ++ [k])).Nodup
    refine List.nodup_cons.mpr ⟨fun m => ?_, nd_snoc h2 fun m => hk (List.mem_cons.mpr (Or.inr m))⟩
    rcases List.mem_append.mp m with q | q
    · exact h1 q
    · exact hk (List.mem_cons.mpr (Or.inl (List.mem_singleton.mp q).symm))
end
/-! ### lists -/
/-- a new instance and its __init__ leave all that was tracked as it was -/
theorem Same.made {H H1 : Hp} {x dx C : Addr} (nx : H x = Option.none) (nd : H dx = Option.none) (k : ∀ b o, (upd (upd H dx (.own x)) x (.ins C dx [])) b = some o → b ≠ x → H1 b = some o) : Same H H1 := fun b o e =>
  k b o (by rw [upd_ne (ne_of_none e nx), upd_ne (ne_of_none e nd)]; exact e) (ne_of_none e nx)
end L2

set_option maxHeartbeats 4000000
namespace L2
open PySem PySem.Spec PyProof.Rows

/-- the code object at c; its table at P -/
def CodeB (h : Heap) (c P : Addr) : Prop := ∃ o vs file tf flags tg inF text tt, h.get? c = some o ∧ o.cls = .type "code" ∧ o.data = .fields vs ∧ vs.getD 11 .none = .ref P ∧ vs.getD 18 .none = .str file tf ∧
  vs.getD 7 .none = .int flags tg ∧ vs.getD 9 .none = .bool inF ∧ vs.getD 10 .none = .int text tt ∧ vs[11]? = some (.ref P) ∧ c ≠ P
theorem CodeB.isCode {h h' : Heap} {c P : Addr} {ps : Array Value} (x : CodeB h c P) (k : ∀ b o, h.get? b = some o → h'.get? b = some o) (t : h'.get? P = some { cls := .none, data := .fields ps }) (tr : TriplesOk ps.toList) :
    h'.IsCode c P ps ∧ h'.TableAt c P ps := by
  obtain ⟨o, vs, file, tf, flags, tg, inF, text, tt, ho, hc, hd, h11, h18, h7, h9, h10, h11', ne⟩ := x
  exact ⟨⟨o, vs, file, tf, flags, tg, inF, text, tt, _, k _ _ ho, hd, h11, h18, h7, h9, h10, t, rfl, tr, ne⟩, ⟨⟨o, vs, k _ _ ho, hc, hd, h11'⟩, t⟩⟩
theorem CodeB.of {h : Heap} {c P : Addr} {ps : Array Value} (a : h.IsCode c P ps) (b : h.TableAt c P ps) : CodeB h c P := by
  obtain ⟨o, vs, file, tf, flags, tg, inF, text, tt, op, ho, hd, h11, h18, h7, h9, h10, _, _, _, ne⟩ := a
  obtain ⟨⟨o', vs', ho', hc', hd', h11'⟩, _⟩ := b
  rw [ho] at ho'; cases ho'
  rw [hd] at hd'; cases hd'
  exact ⟨o, vs, file, tf, flags, tg, inF, text, tt, ho, hc', hd, h11, h18, h7, h9, h10, h11', ne⟩
theorem CodeB.keep {h h' : Heap} {c P : Addr} (x : CodeB h c P) (k : ∀ o, h.get? c = some o → h'.get? c = some o) : CodeB h' c P := by
  obtain ⟨o, vs, file, tf, flags, tg, inF, text, tt, ho, r⟩ := x
  exact ⟨o, vs, file, tf, flags, tg, inF, text, tt, k _ ho, r⟩
/-- the module of the builtins -/
def BB (h : Heap) (mg : Str → Option Value) : Prop := ∃ bm ob, BMod h mainGlobals mg bm ob

theorem upd_id {H : Hp} {a : Addr} {o : HO} (h : H a = some o) : upd H a o = H := by
  funext b
  unfold upd
  split
  · rename_i e; rw [e, h]
  · rfl

section
variable {X : Cx} {pins : List (Addr × Obj)} {σ : St} {H : Hp} {s : Shared}
/-- the table has grown -/
theorem Inv.grown {h3 : Heap} {tk : Nat} {P : Addr} {ps ps' : Array Value} (I : Inv X pins σ H s) (hP : H P = some (.tbl ps)) (hx : Heap.ExtBut P s.heap h3) (ht : h3.get? P = some { cls := .none, data := .fields (ps ++ ps') }) :
    Inv X pins σ (upd H P (.tbl (ps ++ ps'))) { s with heap := h3, toks := tk } := by
  have ne : ∀ b, H b = none → b ≠ P := fun b n z => by rw [z, hP] at n; cases n
  refine I.step (g' := s.gens) (d' := s.drawn) (ch := []) (fun _ z => nomatch z) (fun b o _ _ _ e n => hx b o (ne b n) e) (fun b o _ _ _ e n => ⟨o.slots, hx b o (ne b n) e⟩) (fun b o _ e n => by rw [upd_ne (ne b n)]; exact n) (fun b o _ e => ?_)
    (fun b xs e => ?_) (fun b o u e => ?_) (fun b qs e => ?_) (fun m hm => ?_) (fun b u e => ?_) I.bare
  · by_cases hb : b = P
    · subst hb; exact ⟨_, ht⟩
    · exact ⟨o, hx b o hb e⟩
  · rw [upd_ne (fun z => by rw [z, hP] at e; cases e)]; exact e
  · rw [upd_ne (fun z => by rw [z, hP] at e; cases e)]; exact e
  · by_cases hb : b = P
    · subst hb
      rw [hP] at e; cases e
      exact ⟨ps', upd_same⟩
    · exact ⟨#[], by rw [upd_ne hb, e]; simp⟩
  · obtain ⟨o, es, ep, ho, r⟩ := hm
    exact ⟨o, es, ep, hx _ o (ne _ I.free) ho, r⟩
  · by_cases hb : b = P
    · subst hb
      rw [upd_same] at e; cases e
      exact ht
    · rw [upd_ne hb] at e
      refine (I.hok b u e).stay (fun c v hc q => hx c v ?_ q) (fun c q => by rw [upd_ne (fun z => by rw [z, hP] at q; cases q)]; exact q) fun c xs q => by rw [upd_ne (fun z => by rw [z, hP] at q; cases q)]; exact q
      rcases hc with z | z
      · rw [z]; exact hb
      · intro w; rw [w, hP] at z; cases z
end

def signIn (lo hi : Str) (c : Nat) : Bool := (!decide ([c] < lo.cps.toList)) && (!decide (hi.cps.toList < [c]))
def allIn (lo hi z : Str) : Bool := z.cps.toList.all (signIn lo hi)
def tAllStr (i : Nat) (P : Addr) (lo hi : Str) : TE := fun σ H Q => ∃ z, σ[i]? = some (some (.str z)) ∧ ∃ ps, H P = some (.tbl ps) ∧ TriplesOk ps.toList ∧ ∀ ps', TriplesOk ps'.toList → Q (.bl (allIn lo hi z)) (upd H P (.tbl ps'))
theorem passing_all (n : Nat) : passing (fun _ => true) n 0 = List.range n := by simp [passing]
theorem all_signs (lo hi z : Str) : (List.range z.cps.size).all (fun j => match z.cps[j]? with | some c => signIn lo hi c | none => true) = allIn lo hi z := by
  have e := all_rangeD z.cps.toList (signIn lo hi)
  unfold allIn
  rw [← e, Array.length_toList]
  refine congrArg _ (funext fun j => ?_)
  rw [Array.getElem?_toList]
  cases z.cps[j]? <;> rfl

section
variable {X : Cx}
theorem pe_allStr {i : Nat} {c P : Addr} {lo hi x t : Str} {scope : Scope} {p p1 p2 p3 p4 p5 p6 gpos cpos : Pos} {j1 j2} (hcode : X.env.code = .ref c) (hB : CodeB X.base c P) (hM : BB X.base X.mg) (hcalm : X.calm = true) (hroom : X.A.depth < recursionLimit)
    (hN : X.N[i]? = some t) (hv : Vis X.env.scope t) (hg : Gl X "all") (hm : X.mg "all" = none)
    (hco : scope.isCoroutine = false) (hclos : closureFor scope X.env = pure []) (hcell : ∀ y ∈ scope.names, y.2 ≠ .cell) (h0 : scope.names.lookup (".0" : Str) = some NameKind.local)
    (hx : scope.names.lookup x = some .local) (hkind : scope.kind = .function)
    (hd1 : (t == ("__debug__" : Str)) = false := by decide) (hd2 : (t == ("__classdict__" : Str)) = false := by decide) (hd3 : (x == ("__debug__" : Str)) = false := by decide) :
    PE X (.Call (.Name "all" p) [.GeneratorExp (.Compare (.Constant (.str lo) j1 p1) [.LtE, .LtE] [.Name x p2, .Constant (.str hi) j2 p3] p4) [⟨.Name x p5, .Name t p6, [], 0⟩] scope gpos] [] cpos) (tAllStr i P lo hi) := by
  intro pins s σ H Q I h
  obtain ⟨z, hz, ps, hP, tr, q⟩ := h
  have hh : X.A.handled = none := I.ok.hd hcalm
  refine wpAny_Call_Name_kw (ld_blt I hg hm (show bootBuiltins "all" = some (.builtin "all") from by decide +kernel) ?_)
  refine PyProof.Rows.callWith_builtin1 ?_ rfl rfl
  show wpAny _ _ (spliced ((false, eval _ X.env) :: backTo cpos (starEach [] X.env))) _ _ s
  refine Calls.spliced_cons ?_
  refine wpAny_GeneratorExp_walksQD (cl := []) hh hco hclos hcell h0 hx hkind hroom ?_ (fun _ => rfl)
  refine thn (pe_var hN hv hd1 hd2 pins s σ H (fun v H1 => v = .str z ∧ H1 = H) I ⟨_, hz, rfl, rfl⟩) ?_
  rintro xv s1 ⟨v, H1, I1, r1, rfl, rfl⟩
  obtain ⟨tz, rfl⟩ := r1
  refine wpAny_pyIter_str fun o St W st => ?_
  have I2 : Inv X pins σ H1 { s1 with heap := s1.heap.push o } := I1.kept (t' := s1.toks) fun b u e => Heap.get?_push_of_some _ e
  refine ⟨I2.nolimit, ?_⟩
  have hT : (s1.heap.push o).get? P = some { cls := .none, data := .fields ps } := I2.hok P _ hP
  obtain ⟨hC, hTab⟩ := hB.isCode I2.bk hT tr
  have hPlt : P < s1.heap.objs.size := Heap.lt_size (show s1.heap.get? P = some _ from I1.hok P _ hP)
  have go : ∀ (code : Value) (h3 : Heap) (tk3 : Nat) (ps3 : Array Value), TriplesOk ps3.toList → Inv X pins σ (upd H1 P (.tbl ps3)) { s1 with heap := h3, toks := tk3 } → St 0 h3 → s1.heap.objs.size < h3.objs.size →
      wpAny (model X.prog X.w) X.A (builtinsFor X.env.globals X.env.builtins) (fun bi s₄ =>
        ∃ I fp wr n₀ P St₀ pz F, Value.ref s1.heap.objs.size = .ref I ∧ (∀ A' : Around, A'.handled = none → Walks X.prog X.w A' I fp wr n₀ P St₀) ∧ St₀ 0 s₄.heap ∧ (∀ b ∈ fp, b < s₄.heap.objs.size) ∧ s₄.heap.NoLimit ∧ cStatics ∉ wr ∧
          (∀ href : Heap, (∀ b o, s₄.heap.get? b = some o → href.get? b = some o) →
            QuietGenD X.prog X.w (genEnv scope [] s₄.heap.objs.size code bi X.env) x [] (.Compare (.Constant (.str lo) j1 p1) [.LtE, .LtE] [.Name x p2, .Constant (.str hi) j2 p3] p4) (List.range s₄.heap.objs.size) wr P pz F href (X.A.depth + 1) (X.A.units + 8)) ∧
          (∀ a h₅ tk gs, gs.bare = true → s₄.heap.objs.size < a → h₅.objs.size = a + 1 → (∀ b o, s₄.heap.get? b = some o → h₅.get? b = some o) →
            WalksS X.prog X.w X.A.in4 a (a :: s₄.heap.objs.size :: List.range s₄.heap.objs.size) (s₄.heap.objs.size :: wr) (GenOnlyQ s₄.gens.size) (passing pz n₀ 0).length
              (fun j y => ∃ i, (passing pz n₀ 0)[j]? = some i ∧ F i y) (GenAt X.prog X.w X.A.in4 a s₄.gens.size s₄.heap.objs.size (List.range s₄.heap.objs.size) wr pz n₀ F) →
            GenAt X.prog X.w X.A.in4 a s₄.gens.size s₄.heap.objs.size (List.range s₄.heap.objs.size) wr pz n₀ F 0 { s₄ with gens := s₄.gens.push gs, toks := tk, heap := h₅ } →
            wpAny (model X.prog X.w) X.A (spliced (backTo cpos (starEach [] X.env))) (fun vs s₂ => wpAny (model X.prog X.w) X.A (call (.builtin "all") (Value.ref a :: vs)) (EP X pins σ Q) X.xe s₂) X.xe { s₄ with gens := s₄.gens.push gs, toks := tk, heap := h₅ })) X.xe { s1 with heap := h3, toks := tk3 } := by
    intro code h3 tk3 ps3 tr3 I3 st3 hlt
    obtain ⟨bm, ob, M⟩ := hM
    refine wpAny_builtinsFor (s := { s1 with heap := h3, toks := tk3 }) (by rw [I.ok.glob]; exact M.ns.keeps I3.bk) M.name M.ne (I3.bk _ _ M.obj) M.cls M.dict M.data ?_
    have hcs : cStatics < s1.heap.objs.size := let ⟨_, hn, _⟩ := I1.nolimit; hn.lt
    have n1 : upd H1 P (.tbl ps3) s1.heap.objs.size = none := by rw [upd_ne (Nat.ne_of_gt hPlt)]; exact I1.hok.fresh (Nat.le_refl _)
    refine ⟨_, _, _, _, _, _, (fun _ => true), (fun i y => ∃ c, z.cps[i]? = some c ∧ y = .bool (signIn lo hi c)), rfl, W, st3, fun b hb => by (have e : b = s1.heap.objs.size := by simpa using hb); subst e; exact hlt, I3.nolimit, fun hb => by (have e : cStatics = s1.heap.objs.size := by simpa using hb); exact absurd hcs (by rw [← e]; exact Nat.lt_irrefl _), fun href hk => ⟨?_, ?_⟩, fun a h5 tk gs hgb hag hsz hk5 Wg hat => ?_⟩
    · intro A' E' i v s2 m2 _ _ _ _ _ _ _
      exact wpAny_pure ⟨rfl, s2.heap, s2.toks, rfl, fun _ _ e => e⟩
    · intro A' E' i v s2 m2 _ _ _ hPi _ hn2 hm2 _
      obtain ⟨ch, u, hci, rfl⟩ := hPi
      refine Compare_chain (wpAny_Constant_str ?_)
      refine chain_link (wpAny_Name (wpAny_loadName_local (s := { s2 with toks := _ }) hkind hx hn2 hm2 ?_) hd3)
      refine PySem.P.le_str (wpAny_truthy_bool ?_)
      have e1 : (!decide ((⟨#[ch]⟩ : Str).cps.toList < lo.cps.toList)) = !decide ([ch] < lo.cps.toList) := rfl
      rw [e1]
      cases hb : decide ([ch] < lo.cps.toList) with
      | true =>
        refine ite_ff ⟨⟨ch, hci, ?_⟩, _, _, rfl, fun _ _ e => e⟩
        show Value.bool false = Value.bool (signIn lo hi ch)
        unfold signIn
        rw [hb]; rfl
      | false =>
        refine ite_tt (chain_last (wpAny_Constant_str ?_))
        refine PySem.P.le_str ⟨⟨ch, hci, ?_⟩, _, _, rfl, fun _ _ e => e⟩
        show Value.bool (!decide (hi.cps.toList < [ch])) = Value.bool (signIn lo hi ch)
        unfold signIn
        rw [hb]; rfl
    · refine Calls.spliced_nil ?_
      have W' := Wg.in4_1
      refine call_all_walkS (W'.self 0 _ _ _ hat ⟨a, _, _, _, _, _, _, (fun j => match z.cps[j]? with | some c => signIn lo hi c | none => true), rfl, W', hat, ?_, fun s' hmv => ?_⟩)
      · intro j v s Q E hv hQ
        obtain ⟨i, hi1, c, hc, rfl⟩ := hv
        rw [passing_all] at hi1
        have ej : i = j := by
          obtain ⟨h1, h2⟩ := List.getElem?_eq_some_iff.mp hi1
          simpa using h2.symm
        subst ej
        dsimp only at hQ
        rw [hc] at hQ
        exact wpAny_truthy_bool hQ
      · rw [passing_all, List.length_range, all_signs]
        have n2 : upd H1 P (.tbl ps3) h3.objs.size = none := I3.hok.fresh (Nat.le_refl _)
        obtain ⟨hh', g', d', t', os'⟩ := s'
        obtain rfl : os' = s1.os := hmv.os
        have f1 := I1.fpOk (H' := upd H1 P (.tbl ps3)) (Nat.le_refl s1.heap.objs.size) n1
        have f2 := I1.fpOk (H' := upd H1 P (.tbl ps3)) (Nat.le_of_lt hlt) n2
        have kp : ∀ b o, b ∉ [h3.objs.size, s1.heap.objs.size] → h3.get? b = some o → hh'.get? b = some o := fun b o hb e => hmv.heap b o hb (hk5 b o e)
        refine ⟨.bl (allIn lo hi z), upd H1 P (.tbl ps3), ?_, rfl, q ps3 tr3⟩
        refine Inv.step (s := { s1 with heap := h3, toks := tk3 }) (g' := g') (d' := d') (t' := t') (h' := hh') (ch := [h3.objs.size, s1.heap.objs.size]) I3 (fun b hb => ?_) (fun b o _ _ hc e _ => kp b o hc e) (fun b o _ _ hc e _ => ⟨o.slots, kp b o hc e⟩) (fun b o _ e n => n) (fun b o hc e => ⟨o, kp b o hc e⟩) (fun _ _ e => e) (fun _ _ _ e => e) (fun b qs e => ⟨#[], by rw [e]; simp⟩) (fun m hm => ?_) (fun b u e => ?_) ?_
        · rcases List.mem_cons.mp hb with e | hb
          · subst e; exact ⟨f2.2.2.2.1, f2.2.1, f2.2.2.2.2.1, f2.2.2.2.2.2⟩
          · have e : b = s1.heap.objs.size := by simpa using hb
            subst e; exact ⟨f1.2.2.2.1, f1.2.1, f1.2.2.2.2.1, f1.2.2.2.2.2⟩
        · obtain ⟨ob, es, ep, ho, r⟩ := hm
          refine ⟨ob, es, ep, kp _ ob (fun hb => ?_) ho, r⟩
          rcases List.mem_cons.mp hb with e | hb
          · exact f2.2.1 e.symm
          · have e : X.env.locals = s1.heap.objs.size := by simpa using hb
            exact f1.2.1 e.symm
        · have nin : ∀ b u, upd H1 P (.tbl ps3) b = some u → b ∉ [h3.objs.size, s1.heap.objs.size] := fun b u e hb => by
            rcases List.mem_cons.mp hb with z | hb
            · rw [z, n2] at e; cases e
            · have z : b = s1.heap.objs.size := by simpa using hb
              rw [z, n1] at e; cases e
          refine (I3.hok b u e).stay (fun c v hc q => kp c v ?_ q) (fun _ q => q) fun _ _ q => q
          rcases hc with z | z
          · rw [z]; exact nin b u e
          · exact nin c _ z
        · exact AllBare.movedS (s := { s1 with heap := h5, gens := s1.gens.push gs, toks := tk }) (I3.bare.push hgb) hmv
  cases hnf : codeAmong gpos ps.toList with
  | some cv =>
    refine wpAny_genexprCode_hit hcode hC hnf ?_
    refine go cv _ s1.toks ps tr ?_ st (by rw [Heap.size_push]; exact Nat.lt_succ_self _)
    rw [upd_id hP]
    exact I2
  | none =>
    refine wpAny_genexprCodeX hcode hC hTab hnf fun c' h3 tk3 hx3 hge hlt hcode3 _ htab3 _ => ?_
    have hsz : s1.heap.objs.size < h3.objs.size := by
      have : s1.heap.objs.size + 1 ≤ c' := by rw [← Heap.size_push s1.heap o]; exact hge
      omega
    obtain ⟨_, _, _, _, _, _, _, _, _, op3, _, _, _, _, _, _, _, hop3, hpd3, htr3, _⟩ := id hcode3
    refine go (.ref c') h3 tk3 _ htr3 (I2.grown hP hx3 htab3.2) ((W X.A hh).frame 0 _ _ st fun b hb o e => ?_) hsz
    have eb : b = s1.heap.objs.size := by simpa using hb
    subst eb
    exact hx3 _ o (Nat.ne_of_gt hPlt) e
end
end L2
namespace L2
open PySem PySem.Spec PyProof.Rows
section
variable {X : Cx}
/-! isinstance against a built-in type -/
def rIsi (K : PySem.W.Frag) : List V → Hp → VK → Prop := fun vs H Q => ∃ x n t b, vs = [x, .ty n] ∧ TyOf K H x t ∧ PySem.W.kitOne K t (.type n) = some b ∧ Q (.bl b) H
theorem cr_isi : CallR X (.builtin "isinstance") (rIsi X.K) := by
  intro pins s σ H vs us Q I r h
  obtain ⟨x, n, t, b, rfl, ty, e, q⟩ := h
  cases r with
  | cons r1 rr =>
    cases rr with
    | cons r2 rr =>
      cases rr
      cases r2
      exact isinst_ok I r1 ty e fun tk => ⟨.bl b, H, I.tok tk, rfl, q⟩
/-! a text times a number -/
def repS (x : Str) (n : Int) : Str := ⟨(List.replicate n.toNat x.cps).foldl (· ++ ·) #[]⟩
end
end L2
namespace L2
open PySem PySem.Spec PyProof.Rows

/-! max(xs, default=d) -/
section
variable {prog : Program} {w : World} {A : Around} {R : Result → Shared → Prop} {J : Addr} {fp wr : List Addr} {n : Nat} {Pt : Nat → Value → Prop} {Sm : Nat → Heap → Prop}
end

section
variable {prog : Program} {w : World} {A : Around} {E : Value → Shared → Prop} {s : Shared}
end
section
variable {X : Cx}
def tMaxD (te td : TE) (K : PySem.W.Frag) : TE := fun σ H Q => te σ H fun x H1 => td σ H1 fun y H2 => ∃ (a : Addr) (ns : List Int), x = .ref a ∧ SqL K H2 a (ns.map V.int) ∧ (ns = [] → Q y H2) ∧ ∀ m, m ∈ ns → (∀ z, z ∈ ns → z ≤ m) → Q (.int m) H2
end
end L2
namespace L2
open PySem PySem.Spec PyProof.Rows
section
variable {X : Cx} {pins : List (Addr × Obj)} {σ : St} {H : Hp} {s : Shared} {h' : Heap}
theorem HOk.fresh2 {P : Program} {w : World} {h : Heap} {a : Addr} (x : HOk P w H h) (f : ∀ b o, h.get? b = some o → b ≠ a) : H a = none := by
  cases q : H a with
  | none => rfl
  | some u =>
    exfalso
    have lt := x.lt q
    have y := x a u q
    cases u with
    | lst xs => obtain ⟨_, _, _, _, e⟩ := y; exact f a _ e rfl
    | tup xs => obtain ⟨_, _, _, o, e, _⟩ := y; exact f a _ e rfl
    | dK kvs => obtain ⟨_, _, _, _, o, _, _, e, _⟩ := y; exact f a _ e rfl
    | dT kvs => obtain ⟨_, _, _, _, o, _, _, e, _⟩ := y; exact f a _ e rfl
    | set S n => obtain ⟨o, _, _, _, e, _⟩ := y; exact f a _ e rfl
    | ins C dx fs => obtain ⟨_, _, _, e, _⟩ := y; exact f a _ e rfl
    | own y => obtain ⟨_, e⟩ := y; exact f a _ e rfl
    | xd fs => obtain ⟨_, ⟨_, _, _, e, _⟩, _⟩ := y; exact f a _ e rfl
    | rng lo hi => obtain ⟨_, _, _, e⟩ := y; exact f a _ e rfl
    | frz ob u => obtain ⟨e, _⟩ := y; exact f a _ e rfl
    | tbl ps => exact f a _ (show h.get? a = some _ from y) rfl
    | met f2 y2 => exact f a _ (show h.get? a = some _ from y) rfl
    | ext φ => obtain ⟨_, ⟨_, e⟩, _⟩ := y; exact f a _ e rfl
theorem Inv.laid2 {a : Addr} {o : HO} {t' : Nat} (I : Inv X pins σ H s) (k : ∀ b u, s.heap.get? b = some u → h'.get? b = some u) (f : ∀ b u, s.heap.get? b = some u → b ≠ a) (new : ObjOk X.prog X.w (upd H a o) h' a o) :
    Inv X pins σ (upd H a o) { s with heap := h', toks := t' } := by
  have hn : H a = none := I.hok.fresh2 f
  refine I.un ⟨fun b u e n _ _ => k b u e, fun b u e n _ _ => ⟨u.slots, k b u e⟩, fun b u e n _ => by rw [upd_ne (f b u e)]; exact n, fun b u e _ => ⟨u, k b u e⟩, fun b xs e => by rw [upd_ne (ne_of_none e hn)]; exact e, fun b ob u e => by rw [upd_ne (ne_of_none e hn)]; exact e, fun b ps e => ⟨#[], by rw [upd_ne (ne_of_none e hn), e]; simp⟩⟩ fun b u e => ?_
  by_cases hb : b = a
  · subst hb; rw [upd_same] at e; cases e; exact new
  · rw [upd_ne hb] at e
    exact (I.hok b u e).stay (fun c v _ q => k c v q) (fun c q => by rw [upd_ne (ne_of_none q hn)]; exact q) fun c xs q => by rw [upd_ne (ne_of_none q hn)]; exact q
end
theorem kv_at {κ : Type} {kvs : List (κ × V)} {vs : List (κ × Value)} (r : KV kvs vs) {i : Nat} {k : κ} {u : Value} (h : vs[i]? = some (k, u)) : ∃ v, kvs[i]? = some (k, v) ∧ RelV v u := by
  have hl : kvs.length = vs.length := Paired.length r
  obtain ⟨hi, e⟩ := List.getElem?_eq_some_iff.mp h
  have hi2 : i < kvs.length := by omega
  obtain ⟨u2, e2, r2⟩ := kv_get (k := kvs[i].1) (v := kvs[i].2) r (by rw [List.getElem?_eq_getElem hi2])
  rw [h] at e2
  have e3 := Option.some.inj e2
  refine ⟨kvs[i].2, ?_, ?_⟩
  · rw [List.getElem?_eq_getElem hi2]
    have : k = kvs[i].1 := congrArg (·.1) e3
    rw [this]
  · have : u = u2 := congrArg (·.2) e3
    rw [this]; exact r2
section
variable {X : Cx}
/-! d != {} -/
/-! sorted(d): the keys, texts or numbers -/
def rSortedDS : List V → Hp → VK → Prop := fun vs H Q => ∃ (a : Addr) (kvs : List (Key × V)) (xs : List Str), vs = [.ref a] ∧ Rd H a (.dK kvs) ∧ kvs.map (·.1) = xs.map Sum.inr ∧
  ∀ (ys : List Str) (p : Addr), ys.Perm xs → sortedS ys = true → H p = none → Q (.ref p) (upd H p (.lst (ys.map V.str)))
theorem strs_of {n : Nat} {kvs : List (Key × V)} {vs : List (Key × Value)} {prog : Program} {w : World} (kv : KV kvs vs) : ∀ (xs : List Str) (acc : List Value), kvs.map (·.1) = xs.map Sum.inr → acc.length = vs.length →
    (∀ (j : Nat) v, acc[j]? = some v → ∃ k x, vs[j]? = some (k, x) ∧ (mixKind prog w).is k v = true) → StrsAre acc xs := by
  have gen : ∀ (xs : List Str) (acc : List Value), acc.length = xs.length → (∀ (j : Nat) v, acc[j]? = some v → ∃ x t, xs[j]? = some x ∧ v = Value.str x t) → StrsAre acc xs := by
    intro xs
    induction xs with
    | nil => intro acc h _; cases acc with
      | nil => exact .nil
      | cons => simp at h
    | cons x r ih => intro acc h g; cases acc with
      | nil => simp at h
      | cons v acc =>
        obtain ⟨y, t, e1, e2⟩ := g 0 v rfl
        simp at e1
        subst e1 e2
        exact .cons x t (ih acc (by simpa using h) fun j v e => g (j + 1) v (by simpa using e))
  intro xs acc e hl g
  have hl2 : kvs.length = vs.length := Paired.length kv
  have hl3 : kvs.length = xs.length := by simpa using congrArg List.length e
  refine gen xs acc (by omega) fun j v hv => ?_
  obtain ⟨k, x, e1, e2⟩ := g j v hv
  obtain ⟨v0, e3, _⟩ := kv_at kv e1
  have e4 := congrArg (fun l => l[j]?) e
  simp only [List.getElem?_map, e3, Option.map_some] at e4
  cases e5 : xs[j]? with
  | none => rw [e5] at e4; cases e4
  | some y =>
    rw [e5] at e4
    simp only [Option.map_some, Option.some.injEq] at e4
    subst e4
    rcases keyIs_shape (show keyIs (.inr y) v = true from e2) with ⟨i, t, q, _⟩ | ⟨z, t, q, rfl⟩
    · cases q
    · cases q; exact ⟨y, t, rfl, rfl⟩
theorem cr_sortedDS (hc : X.calm = true) : CallR X (.builtin "sorted") rSortedDS := by
  intro pins s σ H vs us Q I r h
  obtain ⟨a, kvs, xs, rfl, ha, ek, q⟩ := h
  rw [Vals.ref1 r]
  obtain ⟨hz, na, vs, kv, da⟩ := ha.ok I.hok
  obtain ⟨ep, dat⟩ := da.dictAt
  have hl : kvs.length = vs.length := Paired.length kv
  have hl3 : kvs.length = xs.length := by simpa using congrArg List.length ek
  refine Calls.call_function_entry PyProof.Rows.kind_sorted PyProof.Rows.plain_sorted PyProof.Rows.entry_sorted (PyProof.Rows.args_sorted1 _) ?_
  unfold Builtin.«sorted»
  refine wpAny_bind (m := checkCount "sorted" 1 1 _) (wpAny_pure ?_)
  refine wpAny_bind (PySem.W.kdu_collect (A := X.A.in1) (PySem.W.kdl_dict (knd := mixKind X.prog X.w) (kvs := vs) (ep := ep) na) (I.ok.hd hc) dat (by rw [← hl]; exact hz) fun h2 tk acc hk hacc => ?_)
  have hal : acc.toList.length = vs.length := by rw [Array.length_toList]; exact hacc.1
  have hS : StrsAre acc.toList xs := strs_of (n := 0) kv xs acc.toList ek hal fun j v e => hacc.2 j v (by rw [← Array.getElem?_toList]; exact e)
  have hz2 : acc.toList.length ≤ sizeLine := by rw [hal, ← hl]; exact hz
  refine wpAny_bind (wpAny_newList ?_ hz2)
  have hoL : (h2.push (seqObj "list" acc.toList.toArray 0)).get? h2.objs.size = some (seqObj "list" acc.toList.toArray 0) := Heap.get?_push_size _ rfl
  refine wpAny_bind (wpAny_holding (wpAny_call_entry PyProof.Rows.slot_list_sort (s := { s with heap := h2.push (seqObj "list" acc.toList.toArray 0), toks := tk }) ⟨_, hoL, rfl⟩ PyProof.Rows.entry_list_sort
    (PyProof.Rows.list_sort_treeKAny strKind_oneLt hoL hS.keysOf (fun v₁ v₂ rest e => keyKind_strs (by rw [← e]; exact hS)) hz2 fun st' hp hs => ⟨_, rfl, ?_⟩) (PyProof.Rows.args_list_sort _)))
  obtain ⟨ys, h1, h3, h4⟩ := sorted_out_str hS hp hs
  refine wpAny_pure ⟨_, rfl, ?_⟩
  obtain ⟨e2, he2⟩ := PyProof.Rows.sortedHeap_at (vs := acc.toList) (out := (arrOf st').map (·.2)) hoL
  have hf0 : ∀ b o, s.heap.get? b = some o → b ≠ h2.objs.size := fun b o e => Nat.ne_of_lt (Heap.lt_size (hk b o e))
  have hf : H h2.objs.size = none := I.hok.fresh2 hf0
  have hlen : (ys.map V.str).length ≤ sizeLine := by rw [List.length_map, h3.length_eq, ← hl3]; exact hz
  refine ⟨.ref _, upd H h2.objs.size (.lst (ys.map V.str)), I.laid2 (t' := tk) (fun b o e => ?_) hf0 ⟨hlen, _, e2, vals_of_strs h1, he2⟩, rfl, q ys _ h3 h4 hf⟩
  have lb : b < h2.objs.size := Heap.lt_size (hk b o e)
  rw [PyProof.Rows.sortedHeap_old (Nat.ne_of_lt lb) (by rw [Heap.size_push]; exact Nat.lt_succ_of_lt lb)]
  exact Heap.get?_push_of_some _ (hk b o e)
end
end L2
namespace L2
open PySem PySem.Spec PyProof.Rows
theorem str_ext {a b : Str} (h : a.cps.toList = b.cps.toList) : a = b := by
  have e := Array.toList_inj.mp h
  cases a
  cases b
  exact congrArg Str.mk e
abbrev strLt (a b : Str) : Prop := a.cps.toList < b.cps.toList
def TupAt (h : Heap) (a : Addr) (y : Str × Int) : Prop := ∃ t u, h.get? a = some { cls := .type "tuple", data := .seq #[.str y.1 t, .int y.2 u] }
def sh0 (i : Nat) : Bool := i == 0
theorem pget {α β : Type} {R : α → β → Prop} : ∀ {as : List α} {bs : List β}, Paired R as bs → ∀ (i : Nat) a b, as[i]? = some a → bs[i]? = some b → R a b
  | _, _, .nil, i, a, b, h, _ => by simp at h
  | _, _, .cons r t, 0, a, b, h1, h2 => by simp at h1 h2; subst h1 h2; exact r
  | _, _, .cons r t, i + 1, a, b, h1, h2 => pget t i a b (by simpa using h1) (by simpa using h2)
def adr : Value → Addr
  | .ref a => a
  | _ => (0 : Nat)
section
variable {X : Cx} {pins : List (Addr × Obj)} {σ : St} {H : Hp} {s : Shared} {h' : Heap}
/-- many new objects laid -/
def addH (H : Hp) (N : Addr → Option HO) : Hp := fun b => match N b with | some o => some o | none => H b
end
def newN (sz : Addr) (ps : List Addr) (ys : List (Str × Int)) : Addr → Option HO := fun b => if b = sz then some (.lst (ps.map .ref)) else ((ps.zip ys).lookup b).map fun y => .tup [.str y.1, .int y.2]
section
variable {X : Cx}
def tSortedIt (td : TE) : TE := fun σ H Q => td σ H fun x H1 => ∃ (d : Addr) (kvs : List (Str × Int)), x = .ref d ∧ Rd H1 d (.dK (kvs.map fun p => (Sum.inr p.1, V.int p.2))) ∧ (kvs.map (·.1)).Nodup ∧
  ∀ (ys : List (Str × Int)) (ps : List Addr) (l : Addr) (H2 : Hp), ys.Perm kvs → ys.Pairwise (fun a b => strLt a.1 b.1) → Same H1 H2 → H1 l = none → (∀ p ∈ ps, H1 p = none) → H2 l = some (.lst (ps.map .ref)) →
    Paired (fun p (y : Str × Int) => H2 p = some (.tup [.str y.1, .int y.2])) ps ys → Q (.ref l) H2
end
end L2
namespace L2
open PySem PySem.Spec PyProof.Rows
section
variable {X : Cx}
/-! xs.insert(0, y) -/
def rInsert0 : V → List V → Hp → VK → Prop := fun x vs H Q => ∃ l xs y, x = .ref l ∧ vs = [.int 0, y] ∧ H l = some (.lst xs) ∧ xs.length < sizeLine ∧ Q .non (upd H l (.lst (y :: xs)))
/-! list(range(a, b, c)) -/
def rgInts (a c : Int) (n : Nat) : List Int := (List.range n).map fun i => a + ((i : Nat) : Int) * c
def tListRg (ta : TA) : TE := fun σ H Q => ta σ H fun vs H1 => ∃ (i j c : Int) (n : Nat), vs = [.int i, .int j, .int c] ∧ RgC i j c n ∧ n ≤ sizeLine ∧ ∀ p, H1 p = none → Q (.ref p) (upd H1 p (.lst ((rgInts i c n).map V.int)))
/-! is, is not of two truths -/
end
/-! a, b = a list -/
section
variable {prog : Program} {w : World} {A : Around} {E : Value → Shared → Prop} {s : Shared}
end
section
variable {X : Cx}
def gLst (K : PySem.W.Frag) (n : Nat) (t : TGs) : TG := fun v σ H Q => ∃ a xs, v = .ref a ∧ SqL K H a xs ∧ xs.length = n ∧ t xs σ H Q
end
end L2
namespace L2
open PySem PySem.Spec PyProof.Rows
section
variable {X : Cx}
/-! d.update(e) -/
def rUpdate : V → List V → Hp → VK → Prop := fun x vs H Q => ∃ a b kvs more, x = .ref a ∧ vs = [.ref b] ∧ H a = some (.dK kvs) ∧ H b = some (.dK more) ∧ a ≠ b ∧ kvs.length + more.length ≤ sizeLine ∧ Q .non (upd H a (.dK (mergeK kvs more)))
/-! sorted(d), the keys numbers -/
def rSortedDI : List V → Hp → VK → Prop := fun vs H Q => ∃ (a : Addr) (kvs : List (Key × V)) (xs : List Int), vs = [.ref a] ∧ Rd H a (.dK kvs) ∧ kvs.map (·.1) = xs.map Sum.inl ∧
  ∀ (ys : List Int) (p : Addr), ys.Perm xs → ys.Pairwise (· ≤ ·) → H p = none → Q (.ref p) (upd H p (.lst (ys.map V.int)))
end
end L2
namespace L2
open PySem PySem.Spec PyProof.Rows
section
variable {X : Cx}
/-! d.setdefault(k, y) -/
def rSetdef : V → List V → Hp → VK → Prop := fun x vs H Q => ∃ (a : Addr) (kvs : List (Key × V)) (k : Key) (y : V), x = .ref a ∧ vs = [kV k, y] ∧ H a = some (.dK kvs) ∧ kvs.length < sizeLine ∧
  (∀ v, valV kvs k = some v → Q v H) ∧ (valV kvs k = none → Q y (upd H a (.dK (kvs ++ [(k, y)]))))
end
end L2
namespace L2
open PySem PySem.Spec PyProof.Rows
/-- how a def of the text is called -/
structure FB (K : PySem.W.Frag) (mg : Str → Option Value) (x : Str) (ps : List Str) (f : Addr) (fd : FuncData) : Prop where
  mg : mg x = some (.ref f)
  kp : PySem.W.keepIn K (.ref f) = true
  b : Binds K fd ps []
theorem pcall {X : Cx} {k : Nat} {f : Addr} {fd : FuncData} {ps : List Str} {sp : Sp} {x : Str} {p pos : Pos} {e : Expr} {es : List Expr} {t : TA} (B : FB X.K X.mg x ps f fd) (F : FnOk X.prog X.w X.K X.mg X.base CX0 k f fd ps sp) (hr : Room k X.A) (ha : PA X (e :: es) t) (hg : Gl X x := by rfl)
    (hdb : (x == ("__debug__" : Str)) = false := by decide) (he : starEach (e :: es) X.env = (false, eval e X.env) :: starEach es X.env := by rfl) (hpl : (backTo pos (starEach es X.env)).any (·.1) = false := by rfl) :
    PE X (.Call (.Name x p) (e :: es) [] pos) (tCall sp [] E0 t) := pe_call F hr hg B.mg B.kp B.b .nil pass0 ha hdb he hpl
/-- isinstance(e, T) -/
theorem pisi {X : Cx} {e : Expr} {te : TE} {T : Str} {n : String} {p p2 pos : Pos} (hm : X.mg "isinstance" = none) (hT : X.mg T = none) (he : PE X e te) (hb : bootBuiltins T = some (.type n)) (hg : Gl X "isinstance" := by rfl) (hg2 : Gl X T := by rfl) (hn : T ≠ "__name__" := by decide) (hd : (T == ("__debug__" : Str)) = false := by decide)
    (hs : starEach [e, .Name T p2] X.env = (false, eval e X.env) :: starEach [.Name T p2] X.env := by rfl) : PE X (.Call (.Name "isinstance" p) [e, .Name T p2] [] pos) (tCB (rIsi X.K) (tCons te (tCons (tC (.ty n)) tNil))) :=
  pe_callB cr_isi hg hm (by decide +kernel) (pa_cons he (pa_cons (pe_bltn hg2 hT hb rfl hn hd) pa_nil) hs) (he := hs)
end L2
namespace BK
open PySem PySem.Spec PyProof.Rows L2
/-! ### the heap outside some addresses -/
def Off (S : List Addr) (H H' : Hp) : Prop := ∀ b o, b ∉ S → H b = some o → H' b = some o
theorem Off.refl {S : List Addr} {H : Hp} : Off S H H := fun _ _ _ e => e
theorem Off.trans {S : List Addr} {H H1 H2 : Hp} (a : Off S H H1) (b : Off S H1 H2) : Off S H H2 := fun c o n e => b c o n (a c o n e)
theorem Off.mono {S T : List Addr} {H H1 : Hp} (a : Off S H H1) (h : ∀ b ∈ S, b ∈ T) : Off T H H1 := fun c o n e => a c o (fun z => n (h c z)) e
theorem off_same {S : List Addr} {H H1 : Hp} (a : Same H H1) : Off S H H1 := fun c o _ e => a c o e
theorem off_upd {S : List Addr} {H : Hp} {a : Addr} {o : HO} (h : a ∈ S) : Off S H (upd H a o) := fun b u n e => by rw [upd_ne (fun z => n (by rw [z]; exact h))]; exact e
theorem same_new {H : Hp} {a : Addr} {o : HO} (h : H a = none) : Same H (upd H a o) := fun b u e => by rw [upd_ne (ne_of_none e h)]; exact e
theorem off_new {S : List Addr} {H : Hp} {a : Addr} {o : HO} (h : H a = none) : Off S H (upd H a o) := off_same (same_new h)
/-- a new thing may change as long as it is new -/
theorem off_own {S : List Addr} {H H1 : Hp} {a : Addr} {o : HO} (k : Off S H H1) (h : H a = none) : Off S H (upd H1 a o) := fun b u n e => by rw [upd_ne (ne_of_none e h)]; exact k b u n e
theorem same_own {H H1 : Hp} {a : Addr} {o : HO} (k : Same H H1) (h : H a = none) : Same H (upd H1 a o) := fun b u e => by rw [upd_ne (ne_of_none e h)]; exact k b u e
theorem Off.none {S : List Addr} {H H1 : Hp} {a : Addr} (k : Off S H H1) (n : a ∉ S) (h : H1 a = Option.none) : H a = Option.none := by
  cases q : H a with
  | none => rfl
  | some o => rw [k a o n q] at h; cases h
/-! ### the table of a code object -/
def Tab (P : Addr) (H : Hp) : Prop := ∃ ps, H P = some (.tbl ps) ∧ TriplesOk ps.toList
theorem Tab.same {P : Addr} {H H1 : Hp} (t : Tab P H) (s : Same H H1) : Tab P H1 := let ⟨ps, e, r⟩ := t; ⟨ps, s _ _ e, r⟩
theorem Tab.off {P : Addr} {S : List Addr} {H H1 : Hp} (t : Tab P H) (s : Off S H H1) (n : P ∉ S) : Tab P H1 := let ⟨ps, e, r⟩ := t; ⟨ps, s _ _ n e, r⟩
theorem Tab.ne {P a : Addr} {H : Hp} (t : Tab P H) (h : H a = none) : a ≠ P := fun z => by obtain ⟨ps, e, _⟩ := t; rw [← z, h] at e; cases e
theorem Tab.new {P a : Addr} {H : Hp} {o : HO} (t : Tab P H) (h : H a = none) : Tab P (upd H a o) := t.same (same_new h)
/-! ### texts -/
abbrev ch (z : Str) : List Nat := z.cps.toList
theorem ch_len (z : Str) : (ch z).length = z.length := by simp [Str.length]
def isSmall (c : Nat) : Bool := decide (97 ≤ c) && decide (c ≤ 122)
def Small (z : Str) : Prop := ∀ c ∈ ch z, 97 ≤ c ∧ c ≤ 122
theorem sign_small (c : Nat) : signIn "a" "z" c = isSmall c := by
  have ha : (Str.ofString "a").cps.toList = [97] := by decide +kernel
  have hz : (Str.ofString "z").cps.toList = [122] := by decide +kernel
  unfold signIn isSmall
  rw [ha, hz]
  have e1 : ([c] < [97]) ↔ c < 97 := by simp [List.cons_lt_cons_iff]
  have e2 : ([122] < [c]) ↔ 122 < c := by simp [List.cons_lt_cons_iff]
  rw [Bool.eq_iff_iff]
  simp [e1, e2]
theorem allIn_small (z : Str) : allIn "a" "z" z = (ch z).all isSmall := by
  unfold allIn
  exact congrArg _ (funext sign_small)
theorem bt_int : bootBuiltins "int" = some (.type "int") := by decide +kernel
theorem bt_bool : bootBuiltins "bool" = some (.type "bool") := by decide +kernel
theorem bt_str : bootBuiltins "str" = some (.type "str") := by decide +kernel
theorem bt_list : bootBuiltins "list" = some (.type "list") := by decide +kernel
theorem bt_tuple : bootBuiltins "tuple" = some (.type "tuple") := by decide +kernel
theorem small_szl {n : Nat} (h : n ≤ 16777216) : n ≤ sizeLine := by rw [sizeLine_eq]; exact h
theorem small_szl' {n : Nat} (h : n < 16777216) : n < sizeLine := by rw [sizeLine_eq]; exact h
/-! ### slices -/
def piece (t : List Nat) (p e : Nat) : List Nat := (t.drop p).take (e - p)
theorem take_min {α : Type} (l : List α) (k : Nat) : l.take (min k l.length) = l.take k := by
  rcases Nat.le_total k l.length with h | h
  · rw [Nat.min_eq_left h]
  · rw [Nat.min_eq_right h, List.take_length, List.take_of_length_le h]
theorem drop_min {α : Type} (l : List α) (k : Nat) : l.drop (min k l.length) = l.drop k := by
  rcases Nat.le_total k l.length with h | h
  · rw [Nat.min_eq_left h]
  · rw [Nat.min_eq_right h, List.drop_length, List.drop_of_length_le h]
theorem ch_cut (z : Str) (p e : Nat) : ch (cutS z (some p) (some e)) = piece (ch z) p e := by
  show ((z.cps.toList.drop (HT.sIx z.length 0 (some p))).take (HT.sIx z.length z.length (some e) - HT.sIx z.length 0 (some p))) = _
  rw [HT.sIx_nat, HT.sIx_nat]
  have hl : z.length = (ch z).length := (ch_len z).symm
  rw [hl, drop_min]
  unfold piece
  have h1 : ((ch z).drop p).length = (ch z).length - p := List.length_drop
  rcases Nat.le_total p (ch z).length with h | h
  · rw [Nat.min_eq_left h, ← take_min _ (min e (ch z).length - p), ← take_min _ (e - p), h1]
    congr 1
    omega
  · rw [List.drop_of_length_le h]
    simp
theorem ch_cutL (z : Str) (e : Nat) : ch (cutS z none (some e)) = (ch z).take e := by
  show ((z.cps.toList.drop 0).take (HT.sIx z.length z.length (some e) - 0)) = _
  rw [HT.sIx_nat, List.drop_zero, Nat.sub_zero]
  have hl : z.length = (ch z).length := (ch_len z).symm
  rw [hl, take_min]
theorem ch_cutR (z : Str) (p : Nat) : ch (cutS z (some p) none) = (ch z).drop p := by
  show ((z.cps.toList.drop (HT.sIx z.length 0 (some p))).take (z.length - HT.sIx z.length 0 (some p))) = _
  rw [HT.sIx_nat]
  have hl : z.length = (ch z).length := (ch_len z).symm
  rw [hl, drop_min, List.take_of_length_le]
  rw [List.length_drop]
  omega
theorem piece_len (t : List Nat) (p e : Nat) : (piece t p e).length = min (e - p) (t.length - p) := by
  unfold piece
  rw [List.length_take, List.length_drop]
/-! ### a dict of texts -/
def KS (kvs : List (Key × V)) (xs : List Str) : Prop := kvs.map (·.1) = xs.map Sum.inr
def hasW (xs : List Str) (w : List Nat) : Bool := xs.any fun x => decide (ch x = w)
theorem ch_inj {a b : Str} : ch a = ch b ↔ a = b := ⟨str_ext, fun h => by rw [h]⟩
theorem val_has {kvs : List (Key × V)} {xs : List Str} (h : KS kvs xs) (z : Str) : (valV kvs (Sum.inr z)).isSome = hasW xs (ch z) := by
  rw [← valV_any]
  have e1 : (kvs.any fun kv => decide (kv.1 = (Sum.inr z : Key))) = (kvs.map (·.1)).any fun k => decide (k = (Sum.inr z : Key)) := by rw [List.any_map]; rfl
  rw [e1, h, List.any_map]
  unfold hasW
  refine congrArg _ (funext fun x => ?_)
  show decide ((Sum.inr x : Key) = Sum.inr z) = _
  rw [key_rr, Bool.eq_iff_iff, decide_eq_true_iff, decide_eq_true_iff, ch_inj]
def mxl (xs : List Str) : Nat := xs.foldr (fun x m => max x.length m) 0
theorem mxl_ge : ∀ {xs : List Str} {x : Str}, x ∈ xs → x.length ≤ mxl xs
  | y :: r, x, h => by
    show _ ≤ max y.length (mxl r)
    rcases List.mem_cons.mp h with e | h
    · subst e; exact Nat.le_max_left _ _
    · exact Nat.le_trans (mxl_ge h) (Nat.le_max_right _ _)
/-- the ends of the words at a place -/
def endsTo (xs : List Str) (t : List Nat) (p k : Nat) : List Nat := ((List.range k).map fun i => p + 1 + i).filter fun e => hasW xs (piece t p e)
def endsAt (xs : List Str) (L : Nat) (t : List Nat) (p : Nat) : List Nat := endsTo xs t p (min (p + L) t.length - p)
def nI (l : List Nat) : List V := l.map fun (n : Nat) => V.int (n : Int)

/-! ### books -/
abbrev Book := List (Str × Int)
def kvOf (bk : Book) : List (Key × V) := bk.map fun y => ((Sum.inr y.1 : Key), V.int y.2)
def keys (bk : Book) : List Str := bk.map (·.1)
theorem ks_kvOf (bk : Book) : KS (kvOf bk) (keys bk) := by
  unfold KS kvOf keys
  rw [List.map_map, List.map_map]
  rfl
def BookAt (H : Hp) (a : Addr) (bk : Book) : Prop := ∃ ps : List Addr, H a = some (.lst (ps.map .ref)) ∧ Paired (fun p (y : Str × Int) => H p = some (.tup [.str y.1, .int y.2])) ps bk
theorem paired_off {S : List Addr} {H H1 : Hp} (k : Off S H H1) : ∀ {ps : List Addr} {bk : Book}, (∀ p ∈ ps, p ∉ S) → Paired (fun p (y : Str × Int) => H p = some (.tup [.str y.1, .int y.2])) ps bk → Paired (fun p (y : Str × Int) => H1 p = some (.tup [.str y.1, .int y.2])) ps bk
  | _, _, _, .nil => .nil
  | _, _, n, .cons r t => .cons (k _ _ (n _ List.mem_cons_self) r) (paired_off k (fun p hp => n p (List.mem_cons_of_mem _ hp)) t)
theorem paired_mem {H : Hp} : ∀ {ps : List Addr} {bk : Book}, Paired (fun p (y : Str × Int) => H p = some (.tup [.str y.1, .int y.2])) ps bk → ∀ p ∈ ps, ∃ y : Str × Int, H p = some (.tup [.str y.1, .int y.2])
  | _, _, .nil, p, h => by simp at h
  | _, _, .cons r t, p, h => by
    rcases List.mem_cons.mp h with e | h
    · subst e; exact ⟨_, r⟩
    · exact paired_mem t p h
theorem BookAt.same {H H1 : Hp} {a : Addr} {bk : Book} (b : BookAt H a bk) (k : Same H H1) : BookAt H1 a bk := by
  obtain ⟨ps, e, r⟩ := b
  exact ⟨ps, k _ _ e, paired_off (S := []) (off_same k) (fun _ _ => by simp) r⟩
def cutAt (z : Str) (p e : Nat) : Str := cutS z (some (p : Int)) (some (e : Int))
theorem ch_cutAt (z : Str) (p e : Nat) : ch (cutAt z p e) = piece (ch z) p e := ch_cut z p e
def wordsAt (bk : Book) (z : Str) (p : Nat) : List Str := (endsAt (keys bk) (mxl (keys bk)) (ch z) p).map (cutAt z p)
/-- a good book: words of one to twelve small letters, each once -/
structure Good (bk : Book) : Prop where
  nd : (keys bk).Nodup
  wd : ∀ x ∈ keys bk, Small x ∧ 1 ≤ x.length ∧ x.length ≤ 12
  sz : bk.length ≤ 300
theorem not_mem1 {a b : Addr} (h : a ≠ b) : a ∉ [b] := by simpa using h
end BK
namespace L2
open PySem PySem.Spec PyProof.Rows
/-- f(e, ..), f a name that holds a def -/
def tCallV (X : Cx) (i : Nat) (t : TA) : TE := fun σ H Q => ∃ f, σ[i]? = some (some (.ref f)) ∧ PySem.W.keepIn X.K (.ref f) = true ∧ ∃ (k : Nat) (fd : FuncData) (ps : List Str) (sp : Sp), FnOk X.prog X.w X.K X.mg X.base CX0 k f fd ps sp ∧ Room k X.A ∧ Binds X.K fd ps [] ∧ tCall sp [] E0 t σ H Q
end L2
namespace PySem
section
variable {prog : Program} {w : World} {A : Around} {E : Value → Shared → Prop} {s : Shared}
def revRg (a c n : Int) : Obj := { cls := .type "range_iterator", data := .fields #[rawInt (a + (n - 1) * c), rawInt n, rawInt (-c)] }
end
end PySem
namespace L2
open PySem PySem.Spec PyProof.Rows
section
variable {X : Cx}
/-! range(n) as a value, and reversed of it -/
def iRevR (ta : TA) : TI := fun σ H R => ta σ H fun vs H1 => ∃ (r : Addr) (j : Nat), vs = [.ref r] ∧ H1 r = some (.rng 0 (j : Int)) ∧ j < 2 ^ 62 ∧ R (Itc ((j : Int) - 1) (-1) j) H1
end
end L2
namespace L2
open PySem PySem.Spec PyProof.Rows
section
variable {X : Cx}
/-! z[lo::k] -/
def stepS (z : Str) (lo : Option Int) (k : Int) : Str := ⟨((Builtin.Str.strSliceIndices lo none k z.length).filterMap (z.cps[·]?)).toArray⟩
end
end L2
namespace L2
open PySem PySem.Spec PyProof.Rows
section
variable {X : Cx}
/-! xs[::-1] -/
end
end L2
namespace L2
open PySem PySem.Spec PyProof.Rows
/-! {k: v for .. in .. for .. in ..}: after the layer's own list comprehension of two clauses -/
section
variable {prog : Program} {w : World} {A : Around} {R : Result → Shared → Prop} {s : Shared} {kx vx t0 i0 t1 i1 : Expr} {ifs0 ifs1 : List Expr} {scope : Scope} {pos : Pos} {it : Value} {D : Addr} {env : Env}
end

section
variable {X : Cx}
def tDc2 (wi : TI) (g : TG) (tt : TT) (wi1 : TI) (g1 : TG) (tt1 : TT) (tk tv : TE) (vs vs1 : List Nat) : TE := fun σ H Q => wi σ H fun J H1 => ∀ D, H1 D = none → ∃ W : Nat → Nat → Hp → Prop, (∃ m, W 0 m (upd H1 D (.dK []))) ∧ ∀ i m H, W i m H →
  (J.stop i H ∧ Q (.ref D) H) ∨ (J.go i H ∧ ∃ Nx : Hp → Prop, (∀ H', Nx H' → ∃ m', m' < m ∧ W (i + 1) m' H') ∧ ∀ x H', J.yld i H x H' → g x (wipe σ vs) H' fun σ2 H2 => wipe σ2 vs = wipe σ vs ∧ tt σ2 H2 fun b H3 =>
    if b = true then wi1 σ2 H3 fun J1 H4 => ∃ W1 : Nat → Nat → Hp → Prop, (∃ m, W1 0 m H4) ∧ ∀ j k H, W1 j k H →
      (J1.stop j H ∧ Nx H) ∨ (J1.go j H ∧ ∃ Nx1 : Hp → Prop, (∀ H', Nx1 H' → ∃ k', k' < k ∧ W1 (j + 1) k' H') ∧ ∀ x H', J1.yld j H x H' → g1 x (wipe σ2 vs1) H' fun σ3 H5 => wipe σ3 vs1 = wipe σ2 vs1 ∧ tt1 σ3 H5 fun b H6 =>
        if b = true then tk σ3 H6 fun y H7 => tv σ3 H7 fun v H8 => ∃ kvs k, H8 D = some (.dK kvs) ∧ y = kV k ∧ kvs.length < sizeLine ∧ Nx1 (upd H8 D (.dK (putK kvs k v))) else Nx1 H6)
    else Nx H3)
end
/-! reading a walk, whatever its turn does -/
end L2
namespace L2
open PySem PySem.Spec PyProof.Rows
section
variable {X : Cx}
/-! list(range(n)) -/
def natsL (n : Nat) : List V := (List.range n).map fun i => V.int ((i : Nat) : Int)
end
end L2
namespace L2
open PySem PySem.Spec PyProof.Rows
/-- assert, where it holds -/
def tAssert (tc : TT) : TS := fun D σ H => tc σ H fun b H1 => b = true ∧ D.nx σ H1
/-! {k: v for .. in ..}: after the layer's own list comprehension -/
section
variable {X : Cx}
def tDc1 (wi : TI) (g : TG) (tt : TT) (tk tv : TE) (vs : List Nat) : TE := fun σ H Q => wi σ H fun J H1 => ∀ D, H1 D = none → ∃ W : Nat → Nat → Hp → Prop, (∃ m, W 0 m (upd H1 D (.dK []))) ∧ ∀ i m H, W i m H →
  (J.stop i H ∧ Q (.ref D) H) ∨ (J.go i H ∧ ∃ Nx : Hp → Prop, (∀ H', Nx H' → ∃ m', m' < m ∧ W (i + 1) m' H') ∧ ∀ x H', J.yld i H x H' → g x (wipe σ vs) H' fun σ2 H2 => wipe σ2 vs = wipe σ vs ∧ tt σ2 H2 fun b H3 =>
    if b = true then tk σ2 H3 fun y H4 => tv σ2 H4 fun v H5 => ∃ kvs k, H5 D = some (.dK kvs) ∧ y = kV k ∧ kvs.length < sizeLine ∧ Nx (upd H5 D (.dK (putK kvs k v))) else Nx H3)
end
end L2
namespace BK
open PySem PySem.Spec PyProof.Rows L2
/-! ### the deck -/
structure Dk where
  a : Addr
  p : Addr
  qs : List Addr
def Dk.S (k : Dk) : List Addr := k.a :: k.p :: k.qs
structure Dk.At (k : Dk) (H : Hp) : Prop where
  a : ∃ n : Int, H k.a = some (.lst [.ref k.p, .int n])
  p : H k.p = some (.lst (k.qs.map .ref))
  q : ∀ b ∈ k.qs, ∃ x y z : Int, H b = some (.lst [.int x, .int y, .int z])
  l1 : 1 ≤ k.qs.length
  l2 : k.qs.length ≤ 63
theorem Dk.At.lst {k : Dk} {H : Hp} (d : k.At H) : ∀ b ∈ k.S, ∃ xs, H b = some (.lst xs) := fun b hb => by
  rcases List.mem_cons.mp hb with e | hb
  · subst e; obtain ⟨n, e⟩ := d.a; exact ⟨_, e⟩
  · rcases List.mem_cons.mp hb with e | hb
    · subst e; exact ⟨_, d.p⟩
    · obtain ⟨x, y, z, e⟩ := d.q b hb; exact ⟨_, e⟩
theorem Dk.At.off {k : Dk} {H H1 : Hp} {S : List Addr} (d : k.At H) (o : Off S H H1) (n : ∀ b ∈ k.S, b ∉ S) : k.At H1 := by
  obtain ⟨⟨m, e⟩, p, q, l1, l2⟩ := d
  refine ⟨⟨m, o _ _ (n _ List.mem_cons_self) e⟩, o _ _ (n _ (List.mem_cons_of_mem _ List.mem_cons_self)) p, fun b hb => ?_, l1, l2⟩
  obtain ⟨x, y, z, e⟩ := q b hb
  exact ⟨x, y, z, o _ _ (n b (List.mem_cons_of_mem _ (List.mem_cons_of_mem _ hb))) e⟩
theorem Dk.At.same {k : Dk} {H H1 : Hp} (d : k.At H) (o : Same H H1) : k.At H1 := d.off (S := []) (off_same o) fun _ _ => by simp
theorem Dk.ap {k : Dk} {H : Hp} (d : k.At H) : k.p ≠ k.a := by
  obtain ⟨n, e⟩ := d.a
  refine ne_of d.p e fun z => ?_
  injection z with z
  have := d.l1
  match h : k.qs with
  | [] => rw [h] at this; simp at this
  | x :: r => rw [h] at z; simp only [List.map_cons] at z; injection z with _ z2; cases r <;> simp at z2
theorem Dk.aq {k : Dk} {H : Hp} (d : k.At H) {b : Addr} (hb : b ∈ k.qs) : b ≠ k.a ∧ b ≠ k.p := by
  obtain ⟨x, y, z, e⟩ := d.q b hb
  obtain ⟨n, ea⟩ := d.a
  refine ⟨ne_of e ea fun w => ?_, ne_of e d.p fun w => ?_⟩
  · injection w with w; injection w with w1; cases w1
  · injection w with w
    match h : k.qs with
    | [] => rw [h] at w; simp at w
    | c :: r => rw [h] at w; simp only [List.map_cons] at w; injection w with w1; cases w1
theorem Dk.At.turn {k : Dk} {H : Hp} (d : k.At H) {b : Addr} (hb : b ∈ k.qs) (n x y z : Int) : k.At (upd (upd H k.a (.lst [.ref k.p, .int n])) b (.lst [.int x, .int y, .int z])) := by
  obtain ⟨n1, n2⟩ := Dk.aq d hb
  have n3 := Dk.ap d
  refine ⟨⟨n, by rw [upd_ne n1.symm, upd_same]⟩, by rw [upd_ne n2.symm, upd_ne n3]; exact d.p, fun c hc => ?_, d.l1, d.l2⟩
  by_cases e : c = b
  · subst e; exact ⟨x, y, z, upd_same⟩
  · obtain ⟨x', y', z', e'⟩ := d.q c hc
    exact ⟨x', y', z', by rw [upd_ne e, upd_ne (Dk.aq d hc).1]; exact e'⟩
/-! ### the world of a law: the table and the deck -/
structure Wo where
  B : Addr
  k : Dk
def Wo.S (W : Wo) : List Addr := W.B :: W.k.S
structure Wo.At (W : Wo) (H : Hp) : Prop where
  tb : Tab W.B H
  dk : W.k.At H
theorem Wo.At.not {W : Wo} {H : Hp} (w : W.At H) {b : Addr} {o : HO} (e : H b = some o) (n1 : ∀ q, o ≠ .tbl q) (n2 : ∀ q, o ≠ .lst q) : b ∉ W.S := fun hb => by
  rcases List.mem_cons.mp hb with z | hb
  · subst z; obtain ⟨q, e2, _⟩ := w.tb; rw [e2] at e; exact n1 q (Option.some.inj e).symm
  · obtain ⟨q, e2⟩ := w.dk.lst b hb; rw [e2] at e; exact n2 q (Option.some.inj e).symm
theorem Wo.At.tup {W : Wo} {H : Hp} (w : W.At H) {b : Addr} {xs : List V} (e : H b = some (.tup xs)) : b ∉ W.S := w.not e (fun _ h => by cases h) fun _ h => by cases h
theorem Wo.At.dic {W : Wo} {H : Hp} (w : W.At H) {b : Addr} {xs : List (Key × V)} (e : H b = some (.dK xs)) : b ∉ W.S := w.not e (fun _ h => by cases h) fun _ h => by cases h
theorem Wo.At.new {W : Wo} {H : Hp} (w : W.At H) {b : Addr} (e : H b = none) : b ∉ W.S := fun hb => by
  rcases List.mem_cons.mp hb with z | hb
  · subst z; obtain ⟨q, e2, _⟩ := w.tb; rw [e2] at e; cases e
  · obtain ⟨q, e2⟩ := w.dk.lst b hb; rw [e2] at e; cases e
theorem Wo.At.same {W : Wo} {H H1 : Hp} (w : W.At H) (s : Same H H1) : W.At H1 := ⟨w.tb.same s, w.dk.same s⟩
theorem Wo.At.B {W : Wo} {H : Hp} (w : W.At H) : W.B ∉ W.k.S := fun hb => by
  obtain ⟨q, e2⟩ := w.dk.lst _ hb
  obtain ⟨q2, e3, _⟩ := w.tb
  rw [e2] at e3; cases e3
/-- the program's own -/
theorem mem1 {a b : Addr} (h : a ∈ [b]) : a = b := by simpa using h
theorem Wo.At.prog {W : Wo} {H H1 : Hp} (w : W.At H) (t : Tab W.B H1) (o : Off [W.B] H H1) : W.At H1 ∧ Off W.S H H1 := by
  refine ⟨⟨t, w.dk.off o fun b hb z => w.B ?_⟩, o.mono fun b h => ?_⟩
  · rw [← mem1 z]; exact hb
  · rw [mem1 h]; exact List.mem_cons_self
theorem BookAt.off {W : Wo} {H H1 : Hp} {a : Addr} {bk : Book} (b : BookAt H a bk) (w : W.At H) (n : a ∉ W.S) (o : Off W.S H H1) : BookAt H1 a bk := by
  obtain ⟨ps, e, r⟩ := b
  exact ⟨ps, o _ _ n e, paired_off o (fun p hp => by obtain ⟨y, e⟩ := paired_mem r p hp; exact w.tup e) r⟩
/-! ### words -/
def Word (x : Str) : Prop := Small x ∧ 1 ≤ x.length ∧ x.length ≤ 12
theorem Small.of {x : Str} {l : List Nat} (e : ch x = l) (h : ∀ c ∈ l, 97 ≤ c ∧ c ≤ 122) : Small x := fun c hc => h c (by rw [← e]; exact hc)
theorem Small.take {z : Str} (h : Small z) (e : Nat) : Small (cutS z none (some (e : Int))) := Small.of (ch_cutL z e) fun c hc => h c (List.mem_of_mem_take hc)
theorem Small.drop {z : Str} (h : Small z) (e : Nat) : Small (cutS z (some (e : Int)) none) := Small.of (ch_cutR z e) fun c hc => h c (List.mem_of_mem_drop hc)
theorem ch_app (x y : Str) : ch (x ++ y) = ch x ++ ch y := by
  show (x.cps ++ y.cps).toList = _
  simp
theorem len_app (x y : Str) : (x ++ y).length = x.length + y.length := by rw [← ch_len, ch_app, List.length_append, ch_len, ch_len]
theorem Small.app {x y : Str} (h : Small x) (g : Small y) : Small (x ++ y) := Small.of (ch_app x y) fun c hc => by
  rcases List.mem_append.mp hc with hc | hc
  · exact h c hc
  · exact g c hc
theorem ch_one (c : Nat) : ch ⟨#[c]⟩ = [c] := rfl
theorem len_one (c : Nat) : (⟨#[c]⟩ : Str).length = 1 := rfl
theorem atI_str {z : Str} {r : Int} (h0 : 0 ≤ r) (h1 : r < z.length) : ∃ c, atI z.cps.toList r = some c ∧ c ∈ ch z := by
  have hl : (ch z).length = z.length := ch_len z
  have hr : r.toNat < (ch z).length := by omega
  refine ⟨(ch z)[r.toNat], ?_, List.getElem_mem hr⟩
  unfold atI ixN
  rw [if_pos h0, if_pos (by show r < ((ch z).length : Int); omega)]
  show (ch z)[r.toNat]? = _
  rw [List.getElem?_eq_getElem hr]
theorem atI_lst {xs : List V} {r : Int} (h0 : 0 ≤ r) (h1 : r < xs.length) : ∃ v, atI xs r = some v ∧ xs[r.toNat]? = some v ∧ v ∈ xs := by
  have hr : r.toNat < xs.length := by omega
  refine ⟨xs[r.toNat], ?_, List.getElem?_eq_getElem hr, List.getElem_mem hr⟩
  unfold atI ixN
  rw [if_pos h0, if_pos h1]
  show xs[r.toNat]? = _
  rw [List.getElem?_eq_getElem hr]

/-! ### join -/
theorem ch_join (ys : List Str) : ch (Txt.join Str.empty ys) = (ys.map ch).flatten := by
  unfold Txt.join Builtin.Str.glued
  show ((ys.drop 1).foldl (fun acc p => acc ++ Str.empty.cps ++ p.cps) (ys.headD Str.empty).cps).toList = _
  have key : ∀ (l : List Str) (acc : Array Nat), (l.foldl (fun acc p => acc ++ Str.empty.cps ++ p.cps) acc).toList = acc.toList ++ (l.map ch).flatten := by
    intro l
    induction l with
    | nil => intro acc; simp
    | cons x r ih => intro acc; rw [List.foldl_cons, ih, List.map_cons, List.flatten_cons]; simp [Str.empty]
  rw [key]
  cases ys with
  | nil => rfl
  | cons x r => simp
theorem Dk.At.not {k : Dk} {H : Hp} (w : k.At H) {b : Addr} {o : HO} (e : H b = some o) (n2 : ∀ q, o ≠ .lst q) : b ∉ k.S := fun hb => by
  obtain ⟨q, e2⟩ := w.lst b hb; rw [e2] at e; exact n2 q (Option.some.inj e).symm
theorem Dk.At.dic {k : Dk} {H : Hp} (w : k.At H) {b : Addr} {xs : List (Key × V)} (e : H b = some (.dK xs)) : b ∉ k.S := w.not e fun _ h => by cases h
theorem Dk.At.new {k : Dk} {H : Hp} (w : k.At H) {b : Addr} (e : H b = none) : b ∉ k.S := fun hb => by
  obtain ⟨q, e2⟩ := w.lst b hb; rw [e2] at e; cases e
theorem int_at {ys : List Int} {r : Int} (h0 : 0 ≤ r) (h1 : r < ys.length) : ∃ y, atI (ys.map V.int) r = some (.int y) ∧ y ∈ ys := by
  obtain ⟨v, h2, h3, _⟩ := atI_lst (xs := ys.map V.int) h0 (by rw [List.length_map]; exact h1)
  rw [List.getElem?_map] at h3
  cases e : ys[r.toNat]? with
  | none => rw [e] at h3; cases h3
  | some y => rw [e] at h3; cases h3; exact ⟨y, h2, List.mem_of_getElem? e⟩

/-! ### a word put into a book's dict -/
def signsOk (y : Str) : Bool := (ch y).all isSmall && decide (1 ≤ y.length) && decide (y.length ≤ 26)
theorem signsOk_of {y : Str} (h : signsOk y = true) : Small y ∧ 1 ≤ y.length ∧ y.length ≤ 26 := by
  unfold signsOk at h
  simp only [Bool.and_eq_true, decide_eq_true_eq] at h
  refine ⟨fun c hc => ?_, h.1.2, h.2⟩
  have := List.all_eq_true.mp h.1.1 c hc
  unfold isSmall at this
  simp only [Bool.and_eq_true, decide_eq_true_eq] at this
  exact this
/-- what _law_book hands back -/
structure BookOk (S : List Addr) (H : Hp) (a : Addr) (bk : Book) : Prop where
  at_ : BookAt H a bk
  gd : Good bk
  so : bk.Pairwise fun x y => strLt x.1 y.1
  no : a ∉ S
/-! ### == of lists -/
def pD (y : Str × Int) : PyData := .tuple [.str y.1, .int y.2]
def bkD (bk : Book) : PyData := .list (bk.map pD)
def stD (ys : List Str) : PyData := .list (ys.map PyData.str)
theorem strOk_small {z : Str} (h : Small z) : PyData.strOk z = true := by
  unfold PyData.strOk
  simp only [Array.all_eq_true]
  intro i hi
  have := h z.cps[i] (by simp)
  simp
  omega
theorem depth_strs : ∀ ys : List Str, PyData.depthAll (ys.map PyData.str) = 0
  | [] => by simp [PyData.depthAll]
  | y :: r => by rw [List.map_cons]; simp only [PyData.depthAll, PyData.depth, depth_strs r]; rfl
theorem can_strs : ∀ {ys : List Str}, (∀ y ∈ ys, Small y) → PyData.canLayAll0 (ys.map PyData.str) = true
  | [], _ => by simp [PyData.canLayAll0]
  | y :: r, h => by
    rw [List.map_cons]
    simp only [PyData.canLayAll0, PyData.canLay0, Bool.and_eq_true]
    exact ⟨strOk_small (h y List.mem_cons_self), can_strs fun z hz => h z (List.mem_cons_of_mem _ hz)⟩
theorem shaped_strs {ys : List Str} (h : ∀ y ∈ ys, Small y) : SeqAt.shaped (stD ys) = true := by
  unfold SeqAt.shaped stD
  simp only [PyData.canLay0, PyData.depth, depth_strs, can_strs h]
  decide
theorem depth_pairs : ∀ bk : Book, PyData.depthAll (bk.map pD) ≤ 1
  | [] => by simp [PyData.depthAll]
  | y :: r => by
    rw [List.map_cons]
    simp only [PyData.depthAll, pD, PyData.depth]
    have := depth_pairs r
    omega
theorem can_pairs : ∀ {bk : Book}, (∀ y ∈ keys bk, Small y) → PyData.canLayAll0 (bk.map pD) = true
  | [], _ => by simp [PyData.canLayAll0]
  | y :: r, h => by
    rw [List.map_cons]
    simp only [PyData.canLayAll0, pD, PyData.canLay0, Bool.and_eq_true]
    exact ⟨⟨strOk_small (h y.1 List.mem_cons_self), trivial, trivial⟩, can_pairs fun z hz => h z (List.mem_cons_of_mem _ hz)⟩
theorem shaped_bk {bk : Book} (h : ∀ y ∈ keys bk, Small y) : SeqAt.shaped (bkD bk) = true := by
  unfold SeqAt.shaped bkD
  rw [Bool.and_eq_true]
  refine ⟨by simp only [PyData.canLay0]; exact can_pairs h, decide_eq_true ?_⟩
  simp only [PyData.depth]
  have := depth_pairs bk
  omega
theorem Good.small {bk : Book} (g : Good bk) : ∀ y ∈ keys bk, Small y := fun y hy => (g.wd y hy).1
theorem dp_strs {K : PySem.W.Frag} {H : Hp} : ∀ ys : List Str, DpAll K H (ys.map V.str) (ys.map PyData.str)
  | [] => .nil
  | y :: r => .cons (.str y) (dp_strs r)
theorem dpS {K : PySem.W.Frag} {H : Hp} {a : Addr} {ys : List Str} (h : H a = some (.lst (ys.map V.str))) : Dp K H (.ref a) (stD ys) := .lst (SqL.of h) (dp_strs ys)
theorem dp_pairs {K : PySem.W.Frag} {H : Hp} : ∀ {ps : List Addr} {bk : Book}, Paired (fun p (y : Str × Int) => H p = some (.tup [.str y.1, .int y.2])) ps bk → DpAll K H (ps.map V.ref) (bk.map pD)
  | _, _, .nil => .nil
  | _, _, .cons r t => .cons (.tup (SqT.of r) (.cons (.str _) (.cons (.int _) .nil))) (dp_pairs t)
theorem dpB {K : PySem.W.Frag} {H : Hp} {a : Addr} {bk : Book} (h : BookAt H a bk) : Dp K H (.ref a) (bkD bk) := by
  obtain ⟨ps, e, r⟩ := h
  exact .lst (SqL.of e) (dp_pairs r)
theorem dp0 {K : PySem.W.Frag} {H : Hp} {a : Addr} (h : H a = some (.lst [])) : Dp K H (.ref a) (.list []) := .lst (SqL.of h) .nil
theorem eqv_nil (bk : Book) : PyData.eqv (bkD bk) (.list []) = bk.isEmpty := by
  cases bk with
  | nil => rfl
  | cons y r => rfl
theorem shaped_nil : SeqAt.shaped (.list []) = true := by decide
theorem eqvS : ∀ xs ys : List Str, PyData.eqvAll (xs.map PyData.str) (ys.map PyData.str) = decide (xs = ys)
  | [], [] => by simp [PyData.eqvAll]
  | [], _ :: _ => by simp [PyData.eqvAll]
  | _ :: _, [] => by simp [PyData.eqvAll]
  | x :: r, y :: t => by
    rw [List.map_cons, List.map_cons]
    simp only [PyData.eqvAll, PyData.eqv, eqvS r t]
    by_cases e : x = y
    · subst e; simp
    · have : (x == y) = false := by simpa using e
      rw [this]; simp [e]
theorem eqv_strs (xs ys : List Str) : PyData.eqv (stD xs) (stD ys) = decide (xs = ys) := eqvS xs ys
theorem eqv_bk {bk : Book} (h : ∀ y ∈ keys bk, Small y) : PyData.eqv (bkD bk) (bkD bk) = true := SeqAt.eqv_refl _ (SeqAt.canLay_of_shaped (shaped_bk h))

/-! ### the law's own words at a place -/
def startT (xs : List Str) (z : Str) (p i : Nat) : List Str := if ((cutAt z p (p + (1 + i))).length == 1 + i && hasW xs (ch (cutAt z p (p + (1 + i))))) = true then [cutAt z p (p + (1 + i))] else []
def startsTo (xs : List Str) (z : Str) (p k : Nat) : List Str := (List.range k).flatMap (startT xs z p)
theorem small_cutAt {z : Str} (h : Small z) (p e : Nat) : Small (cutAt z p e) := Small.of (ch_cutAt z p e) fun c hc => h c (List.mem_of_mem_drop (List.mem_of_mem_take hc))
end BK
namespace KP
open PySem L2 BK
theorem tab_not {B : Addr} {H : Hp} (t : Tab B H) {b : Addr} {o : HO} (e : H b = some o) (n : ∀ q, o ≠ .tbl q) : b ∉ [B] := not_mem1 fun z => by obtain ⟨q, e2, _⟩ := t; rw [z, e2] at e; exact n q (Option.some.inj e).symm
structure FunC (K : PySem.W.Frag) (x qual : Str) (st : Stmt) (f : Addr) (fd : FuncData) (c : Addr) : Prop where
  ex : ∃ (oc : Value) (od : Option Addr) (kV doc pm : Value) (an : Option Addr) (ct : Value) (osl : Array (Option Value)),
    fd = PySem.W.fnOf x qual (defArgs st) (defBody st) (defScope st) .none kV doc pm an (.ref c) ct ∧ K.lookup f = some ⟨oc, od, .func fd, osl⟩ ∧ PySem.W.codeIn K (.ref c) qual = true
end KP
namespace BK
open PySem PySem.Spec PyProof.Rows L2
/-! ### rows of numbers -/
def RowsAt (H : Hp) (l : Addr) (F : Nat → List Nat) (n : Nat) : Prop := ∃ ls : List Addr, H l = some (.lst (ls.map .ref)) ∧ ls.length = n ∧ ∀ i a, ls[i]? = some a → H a = some (.lst (nI (F i)))
theorem RowsAt.same {H H1 : Hp} {l : Addr} {F : Nat → List Nat} {n : Nat} (r : RowsAt H l F n) (s : Same H H1) : RowsAt H1 l F n := by
  obtain ⟨ls, e, hl, h⟩ := r
  exact ⟨ls, s _ _ e, hl, fun i a ha => s _ _ (h i a ha)⟩
/-- the ends of a book's words at a place -/
def endsB (bk : Book) (z : Str) (p : Nat) : List Nat := endsAt (keys bk) (mxl (keys bk)) (ch z) p
theorem mem_endsTo {xs : List Str} {t : List Nat} {p k e : Nat} : e ∈ endsTo xs t p k ↔ (p < e ∧ e ≤ p + k) ∧ hasW xs (piece t p e) = true := by
  unfold endsTo
  rw [List.mem_filter, List.mem_map]
  constructor
  · rintro ⟨⟨i, hi, rfl⟩, h⟩
    have := List.mem_range.mp hi
    exact ⟨⟨by omega, by omega⟩, h⟩
  · rintro ⟨⟨h1, h2⟩, h⟩
    exact ⟨⟨e - p - 1, List.mem_range.mpr (by omega), by omega⟩, h⟩
theorem mem_endsAt {xs : List Str} {L : Nat} {t : List Nat} {p e : Nat} (h : e ∈ endsAt xs L t p) : p < e ∧ e ≤ t.length := by
  have := (mem_endsTo.mp h).1
  omega
/-! ### the places led to -/
def ledTo (E : Nat → List Nat) : Nat → Nat → Bool
  | 0, q => decide (q = 0)
  | i + 1, q => ledTo E i q || (ledTo E i i && decide (q ∈ E i))
def blL (n : Nat) (f : Nat → Bool) : List V := (List.range n).map fun q => V.bl (f q)
theorem blL_at {n : Nat} {f : Nat → Bool} {q : Nat} (h : q < n) : (blL n f)[q]? = some (V.bl (f q)) := by
  unfold blL; rw [List.getElem?_map, List.getElem?_range h]; rfl
end BK
namespace BK
open PySem PySem.Spec PyProof.Rows L2
/-! ### dicts of numbers -/
def IK (kvs : List (Key × V)) (ks : List Int) : Prop := kvs.map (·.1) = ks.map Sum.inl
theorem IK.val {kvs : List (Key × V)} {ks : List Int} (h : IK kvs ks) (q : Int) : (valV kvs (Sum.inl q)).isSome = decide (q ∈ ks) := by
  rw [← valV_any]
  have e1 : (kvs.any fun kv => decide (kv.1 = (Sum.inl q : Key))) = (kvs.map (·.1)).any fun k => decide (k = (Sum.inl q : Key)) := by rw [List.any_map]; rfl
  rw [e1, h, List.any_map, Bool.eq_iff_iff, List.any_eq_true, decide_eq_true_iff]
  constructor
  · rintro ⟨x, hx, e⟩
    have : (Sum.inl x : Key) = Sum.inl q := of_decide_eq_true e
    rw [← Sum.inl.inj this]; exact hx
  · intro hq
    exact ⟨q, hq, decide_eq_true rfl⟩
theorem IK.put {kvs : List (Key × V)} {ks : List Int} (h : IK kvs ks) (nd : ks.Nodup) (q : Int) (v : V) : ∃ ks', IK (putK kvs (Sum.inl q) v) ks' ∧ ks'.Nodup ∧ ∀ x, x ∈ ks' ↔ x ∈ ks ∨ x = q := by
  by_cases hq : q ∈ ks
  · refine ⟨ks, ?_, nd, fun x => ⟨.inl, fun z => by rcases z with z | z; exact z; rw [z]; exact hq⟩⟩
    unfold putK IK
    have e : (kvs.any fun kv => decide (kv.1 = (Sum.inl q : Key))) = true := by rw [valV_any, h.val, decide_eq_true hq]
    rw [if_pos e, List.map_map, ← h]
    refine List.map_congr_left fun y _ => ?_
    show (if y.1 = (Sum.inl q : Key) then (y.1, v) else y).1 = y.1
    split <;> rfl
  · have e : valV kvs (Sum.inl q) = none := by
      have := h.val q
      rw [decide_eq_false hq] at this
      cases hv : valV kvs (Sum.inl q) with
      | none => rfl
      | some _ => rw [hv] at this; cases this
    refine ⟨ks ++ [q], ?_, ?_, fun x => by simp⟩
    · rw [putK_new _ e]; unfold IK; rw [List.map_append, List.map_append, h]; rfl
    · refine List.nodup_append.mpr ⟨nd, by simp, fun a ha b hb z => ?_⟩
      have hb2 : b = q := by simpa using hb
      exact hq (by rw [← hb2, ← z]; exact ha)
/-! ### sorted lists -/
/-! ### where led places lie -/
theorem cut_len {z : Str} {p e : Nat} (h1 : p ≤ e) (h2 : e ≤ z.length) : (cutAt z p e).length = e - p := by
  rw [← ch_len, ch_cutAt, piece_len, ch_len]
  omega
/-! ### == of lists of numbers -/
def itD (ys : List Int) : PyData := .list (ys.map PyData.int)
theorem depth_ints : ∀ ys : List Int, PyData.depthAll (ys.map PyData.int) = 0
  | [] => by simp [PyData.depthAll]
  | y :: r => by rw [List.map_cons]; simp only [PyData.depthAll, PyData.depth, depth_ints r]; rfl
theorem can_ints : ∀ ys : List Int, PyData.canLayAll0 (ys.map PyData.int) = true
  | [] => by simp [PyData.canLayAll0]
  | y :: r => by
    rw [List.map_cons]
    simp only [PyData.canLayAll0, PyData.canLay0, Bool.and_eq_true]
    exact ⟨trivial, can_ints r⟩
theorem dp_ints {K : PySem.W.Frag} {H : Hp} : ∀ ys : List Int, DpAll K H (ys.map V.int) (ys.map PyData.int)
  | [] => .nil
  | y :: r => .cons (.int y) (dp_ints r)
theorem dpI {K : PySem.W.Frag} {H : Hp} {a : Addr} {ys : List Int} (h : H a = some (.lst (ys.map V.int))) : Dp K H (.ref a) (itD ys) := .lst (SqL.of h) (dp_ints ys)
end BK
namespace L2
open PySem PySem.Spec PyProof.Rows
end L2
namespace BK
open PySem PySem.Spec PyProof.Rows L2
/-! ### the places that lead on to the end -/
def leadTo (E : Nat → List Nat) (m : Nat) : Nat → Nat → Bool
  | 0, q => decide (q = m)
  | i + 1, q => if q = m - 1 - i then (E q).any (leadTo E m i) else leadTo E m i q
/-! ### the first cut -/
def nextP (E : Nat → List Nat) (L : Nat → Bool) (q : Nat) : Nat := ((E q).filter L).headD q
def walkN (E : Nat → List Nat) (L : Nat → Bool) (z : Str) : Nat → Nat × List Str
  | 0 => (0, [])
  | i + 1 => (nextP E L (walkN E L z i).1, (walkN E L z i).2 ++ [cutAt z (walkN E L z i).1 (nextP E L (walkN E L z i).1)])
theorem nextP_ok {E : Nat → List Nat} {L : Nat → Bool} {q : Nat} (h : (E q).any L = true) : nextP E L q ∈ E q ∧ L (nextP E L q) = true := by
  unfold nextP
  obtain ⟨x, hx, hL⟩ := List.any_eq_true.mp h
  cases e : (E q).filter L with
  | nil => have := List.mem_filter.mpr ⟨hx, hL⟩; rw [e] at this; simp at this
  | cons y r =>
    have : y ∈ (E q).filter L := by rw [e]; exact List.mem_cons_self
    exact List.mem_filter.mp this
/-- c is the first cut -/
def IsFirst (E : Nat → List Nat) (L : Nat → Bool) (z : Str) (c : List Str) : Prop := ∃ i, (walkN E L z i).1 = z.length ∧ (∀ j, j < i → (walkN E L z j).1 < z.length) ∧ c = (walkN E L z i).2
theorem IsFirst.one {E : Nat → List Nat} {L : Nat → Bool} {z : Str} {c d : List Str} (h : IsFirst E L z c) (g : IsFirst E L z d) : c = d := by
  obtain ⟨i, h1, h2, rfl⟩ := h
  obtain ⟨j, g1, g2, rfl⟩ := g
  rcases Nat.lt_trichotomy i j with a | a | a
  · have := g2 i a; omega
  · rw [a]
  · have := h2 j a; omega
theorem endsTo_sorted (xs : List Str) (t : List Nat) (p k : Nat) : (endsTo xs t p k).Pairwise (· < ·) :=
  List.Pairwise.filter _ (List.Pairwise.map _ (fun a b h => by omega) List.pairwise_lt_range)
theorem endsB_sorted (bk : Book) (z : Str) (p : Nat) : (endsB bk z p).Pairwise (· < ·) := endsTo_sorted _ _ _ _
theorem endsB_in {bk : Book} {z : Str} {p e : Nat} (h : e ∈ endsB bk z p) : p < e ∧ e ≤ z.length := by
  have := mem_endsAt h
  rw [ch_len] at this
  exact this
/-- how far the walk is -/
structure Wk (E : Nat → List Nat) (L : Nat → Bool) (z : Str) (p : Nat) (c : List Str) : Prop where
  ex : ∃ i, (walkN E L z i).1 = p ∧ (∀ j, j < i → (walkN E L z j).1 < z.length) ∧ c = (walkN E L z i).2 ∧ c.length ≤ p
  le : p ≤ z.length
  on : L p = true
theorem Wk.start {E : Nat → List Nat} {L : Nat → Bool} {z : Str} (h : L 0 = true) : Wk E L z 0 [] := ⟨⟨0, rfl, fun j hj => absurd hj (by omega), rfl, by simp⟩, Nat.zero_le _, h⟩
theorem Wk.next {E : Nat → List Nat} {L : Nat → Bool} {z : Str} {p : Nat} {c : List Str} (w : Wk E L z p c) (hp : p < z.length) (hL : ∀ q, q < z.length → L q = (E q).any L) (hE : ∀ i, i < z.length → ∀ e ∈ E i, i < e ∧ e ≤ z.length) :
    Wk E L z (nextP E L p) (c ++ [cutAt z p (nextP E L p)]) ∧ p < nextP E L p ∧ nextP E L p ≤ z.length := by
  obtain ⟨⟨i, h1, h2, h3, h4⟩, _, on⟩ := w
  have := nextP_ok (E := E) (L := L) (q := p) (by rw [← hL p hp]; exact on)
  have hb := hE p hp _ this.1
  refine ⟨⟨⟨i + 1, ?_, fun j hj => ?_, ?_, ?_⟩, hb.2, this.2⟩, hb⟩
  · show nextP E L (walkN E L z i).1 = _; rw [h1]
  · rcases Nat.lt_or_ge j i with a | a
    · exact h2 j a
    · have : j = i := by omega
      rw [this, h1]; exact hp
  · show _ = (walkN E L z i).2 ++ [cutAt z (walkN E L z i).1 (nextP E L (walkN E L z i).1)]; rw [h1, h3]
  · rw [List.length_append, List.length_singleton]; omega
theorem Wk.done {E : Nat → List Nat} {L : Nat → Bool} {z : Str} {p : Nat} {c : List Str} (w : Wk E L z p c) (hp : ¬ p < z.length) : IsFirst E L z c := by
  obtain ⟨⟨i, h1, h2, h3, _⟩, le, _⟩ := w
  exact ⟨i, by omega, h2, h3⟩
end BK
namespace BK
open PySem PySem.Spec PyProof.Rows L2
/-- drawn numbers -/
structure Dr (ns : List Int) : Prop where
  l1 : 120 ≤ ns.length
  l2 : ns.length ≤ 400
  r : ∀ n ∈ ns, 0 ≤ n ∧ n < 10007
theorem Dr.at {ns : List Int} (d : Dr ns) {i : Int} (h0 : 0 ≤ i) (h1 : i < 120) : ∃ x : Int, atI (ns.map V.int) i = some (.int x) ∧ 0 ≤ x ∧ x < 10007 := by
  have := d.l1
  obtain ⟨y, e, m⟩ := int_at (ys := ns) h0 (by omega)
  exact ⟨y, e, d.r y m⟩
theorem md {a : Int} {m : Int} (h : 0 < m) : 0 ≤ a % m ∧ a % m < m := ⟨Int.emod_nonneg _ (by omega), Int.emod_lt_of_pos _ h⟩
end BK
namespace BK
open PySem PySem.Spec PyProof.Rows L2
theorem small_one {c : Nat} {z : Str} (h : Small z) (hc : c ∈ ch z) : Small ⟨#[c]⟩ := fun d hd => by
  have : d = c := by simpa using hd
  rw [this]; exact h c hc
end BK
namespace BK
open PySem PySem.Spec PyProof.Rows L2
theorem paired_get {α β : Type} {R : α → β → Prop} : ∀ {ps : List α} {ys : List β} {i : Nat} {p : α}, Paired R ps ys → ps[i]? = some p → ∃ y, ys[i]? = some y ∧ R p y
  | _, _, _, _, .nil, h => by simp at h
  | a :: _, _, 0, p, .cons r t, h => by
    have e : a = p := by simpa using h
    subst e
    exact ⟨_, rfl, r⟩
  | _, _, i + 1, p, .cons r t, h => by
    obtain ⟨y, e, r2⟩ := paired_get t (by simpa using h)
    exact ⟨y, by simpa using e, r2⟩
theorem paired_app {α β : Type} {R : α → β → Prop} : ∀ {ps qs : List α} {ys zs : List β}, Paired R ps ys → Paired R qs zs → Paired R (ps ++ qs) (ys ++ zs)
  | _, _, _, _, .nil, h => h
  | _, _, _, _, .cons r t, h => .cons r (paired_app t h)
end BK
namespace BK
open PySem PySem.Spec PyProof.Rows L2
end BK
namespace BK
open PySem PySem.Spec PyProof.Rows L2
/-! ### how many cuts -/
def cntTo (E : Nat → List Nat) (m : Nat) : Nat → Nat → Int
  | 0, q => if q = m then 1 else 0
  | i + 1, q => if q = m - 1 - i then ((E q).map (cntTo E m i)).sum else cntTo E m i q
def itL (n : Nat) (f : Nat → Int) : List V := (List.range n).map fun q => V.int (f q)
end BK
namespace BK
open PySem PySem.Spec PyProof.Rows L2
/-! ### numbers of cuts -/
theorem cntTo_keep {E : Nat → List Nat} {m : Nat} : ∀ j i q, i ≤ j → j ≤ m → m - i ≤ q → q ≤ m → cntTo E m j q = cntTo E m i q
  | 0, i, q, h1, _, _, _ => by have : i = 0 := by omega
                               rw [this]
  | j + 1, i, q, h1, h2, h3, h4 => by
    rcases Nat.eq_or_lt_of_le h1 with e | h
    · rw [e]
    · have hq : ¬ q = m - 1 - j := by omega
      show (if q = m - 1 - j then _ else cntTo E m j q) = _
      rw [if_neg hq]
      exact cntTo_keep j i q (by omega) (by omega) h3 h4
theorem cnt_end (E : Nat → List Nat) (m : Nat) : cntTo E m m m = 1 := by
  rw [cntTo_keep m 0 m (by omega) (by omega) (by omega) (by omega)]
  exact if_pos rfl
theorem map_sum_congr {l : List Nat} {f g : Nat → Int} (h : ∀ e ∈ l, f e = g e) : (l.map f).sum = (l.map g).sum := by
  rw [List.map_congr_left h]
theorem cnt_step {E : Nat → List Nat} {m : Nat} (hE : ∀ i, i < m → ∀ e ∈ E i, i < e ∧ e ≤ m) {q : Nat} (hq : q < m) : cntTo E m m q = ((E q).map (cntTo E m m)).sum := by
  rw [cntTo_keep m (m - q) q (by omega) (by omega) (by omega) (by omega)]
  have e : m - q = (m - q - 1) + 1 := by omega
  rw [e]
  show (if q = m - 1 - (m - q - 1) then ((E q).map (cntTo E m (m - q - 1))).sum else _) = _
  rw [if_pos (by omega)]
  refine map_sum_congr fun x hx => ?_
  have := hE q hq x hx
  rw [cntTo_keep m (m - q - 1) x (by omega) (by omega) (by omega) (by omega)]
theorem sum_nn {l : List Nat} {C : Nat → Int} (h : ∀ e, 0 ≤ C e) : 0 ≤ (l.map C).sum := by
  induction l with
  | nil => simp
  | cons x r ih => rw [List.map_cons, List.sum_cons]; have := h x; omega
theorem cnt_nn (E : Nat → List Nat) (m : Nat) : ∀ i q, 0 ≤ cntTo E m i q
  | 0, q => by show 0 ≤ (if q = m then (1 : Int) else 0); split <;> decide
  | i + 1, q => by
    show 0 ≤ (if q = m - 1 - i then ((E q).map (cntTo E m i)).sum else cntTo E m i q)
    split
    · exact sum_nn (cnt_nn E m i)
    · exact cnt_nn E m i q
def posF (C : Nat → Int) (e : Nat) : Bool := decide (0 < C e)
theorem sum_pos {C : Nat → Int} (h : ∀ e, 0 ≤ C e) : ∀ l : List Nat, ((l.filter (posF C)).map C).sum = (l.map C).sum
  | [] => rfl
  | x :: r => by
    rw [List.filter_cons, List.map_cons, List.sum_cons]
    have := h x
    cases e : posF C x with
    | true => rw [if_pos rfl, List.map_cons, List.sum_cons, sum_pos h r]
    | false =>
      have : ¬ 0 < C x := of_decide_eq_false e
      rw [if_neg (by decide), sum_pos h r]; omega
theorem filter_lt_take : ∀ (l : List Nat) (j : Nat) (h : j < l.length), l.Pairwise (· < ·) → l.filter (fun e => decide (e < l[j])) = l.take j
  | x :: r, 0, _, hp => by
    rw [List.take_zero, List.filter_eq_nil_iff]
    intro a ha
    simp only [decide_eq_true_eq, List.getElem_cons_zero]
    rcases List.mem_cons.mp ha with e | h
    · omega
    · have := List.rel_of_pairwise_cons hp h; omega
  | x :: r, j + 1, h, hp => by
    have hj : j < r.length := by simpa using h
    have h1 : x < r[j] := List.rel_of_pairwise_cons hp (List.getElem_mem hj)
    rw [List.take_succ_cons, List.filter_cons]
    simp only [List.getElem_cons_succ]
    rw [if_pos (decide_eq_true h1), filter_lt_take r j hj (List.Pairwise.of_cons hp)]
def ahead (E : Nat → List Nat) (C : Nat → Int) (p b : Nat) : Int := (((E p).filter fun e => decide (e < b)).map C).sum
theorem ahead_take {E : Nat → List Nat} {C : Nat → Int} {p : Nat} (hC : ∀ e, 0 ≤ C e) (hs : (E p).Pairwise (· < ·)) {j : Nat} (hj : j < ((E p).filter (posF C)).length) :
    ahead E C p ((E p).filter (posF C))[j] = ((((E p).filter (posF C)).take j).map C).sum := by
  unfold ahead
  rw [← sum_pos hC, List.filter_filter, ← filter_lt_take _ j hj (List.Pairwise.filter _ hs), List.filter_filter]
  congr 2
  refine List.filter_congr fun x _ => Bool.and_comm _ _
def totl (ws : List Str) : Nat := (ws.map Str.length).sum
theorem totl_snoc (ws : List Str) (w : Str) : totl (ws ++ [w]) = totl ws + w.length := by unfold totl; simp
def numW (E : Nat → List Nat) (C : Nat → Int) : Nat → List Str → Int
  | _, [] => 0
  | p, w :: ws => ahead E C p (p + w.length) + numW E C (p + w.length) ws
theorem numW_snoc (E : Nat → List Nat) (C : Nat → Int) : ∀ (ws : List Str) (p : Nat) (w : Str), numW E C p (ws ++ [w]) = numW E C p ws + ahead E C (p + totl ws) (p + totl ws + w.length)
  | [], p, w => by
    show ahead E C p (p + w.length) + 0 = 0 + ahead E C (p + 0) (p + 0 + w.length)
    rw [Nat.add_zero, Int.add_zero, Int.zero_add]
  | x :: ws, p, w => by
    show ahead E C p (p + x.length) + numW E C (p + x.length) (ws ++ [w]) = ahead E C p (p + x.length) + numW E C (p + x.length) ws + _
    have e : p + x.length + totl ws = p + totl (x :: ws) := by unfold totl; simp; omega
    rw [numW_snoc E C ws, e, Int.add_assoc]
def numB (bk : Book) (z : Str) (ws : List Str) : Int := numW (endsB bk z) (cntTo (endsB bk z) z.length z.length) 0 ws
/-- a cut up to a place -/
structure CutTo (bk : Book) (z : Str) (p : Nat) (ws : List Str) : Prop where
  inB : ∀ w ∈ ws, w ∈ keys bk
  jn : (ws.map ch).flatten = (ch z).take p
  tot : totl ws = p
  len : ws.length ≤ p
  le : p ≤ z.length
theorem CutTo.start (bk : Book) (z : Str) : CutTo bk z 0 [] := ⟨by simp, by simp, rfl, by simp, by omega⟩
theorem CutTo.next {bk : Book} {z : Str} {p : Nat} {ws : List Str} (c : CutTo bk z p ws) {e : Nat} (h1 : p < e) (h2 : e ≤ z.length) (hk : cutAt z p e ∈ keys bk) : CutTo bk z e (ws ++ [cutAt z p e]) := by
  refine ⟨fun w hw => ?_, ?_, ?_, ?_, h2⟩
  · rcases List.mem_append.mp hw with h | h
    · exact c.inB w h
    · rw [List.mem_singleton.mp h]; exact hk
  · rw [List.map_append, List.flatten_append, c.jn]
    have e1 : e = p + (e - p) := by omega
    have e2 : ([cutAt z p e].map ch).flatten = ((ch z).drop p).take (e - p) := by
      rw [List.map_singleton, List.flatten_singleton, ch_cutAt]; rfl
    rw [e2, ← List.take_add, ← e1]
  · rw [totl_snoc, c.tot, cut_len (by omega) h2]; omega
  · have := c.len; simp; omega
theorem CutTo.join {bk : Book} {z : Str} {ws : List Str} (c : CutTo bk z z.length ws) : Txt.join Str.empty ws = z := by
  refine str_ext ?_
  show ch _ = ch z
  rw [ch_join, c.jn, ← ch_len, List.take_length]
end BK
namespace L2
open PySem PySem.Spec PyProof.Rows
/-- xs[i], by values, i from 0 on -/
def rGetL (K : PySem.W.Frag) : V → V → Hp → VK → Prop := fun x y H Q => ∃ p xs i v, x = .ref p ∧ y = .int i ∧ SqL K H p xs ∧ 0 ≤ i ∧ atI xs i = some v ∧ Q v H
end L2
namespace BK
open PySem PySem.Spec PyProof.Rows L2
/-! ### how many cuts the beginnings have -/
def thrTo (E : Nat → List Nat) : Nat → Nat → Int
  | 0, q => if q = 0 then 1 else 0
  | i + 1, q => thrTo E i q + ((E i).count q : Int) * thrTo E i i
/-- the places of every cut -/
def thrB (bk : Book) (z : Str) (q : Nat) : Int := thrTo (endsB bk z) z.length q
def cuB (bk : Book) (z : Str) (q : Nat) : Int := cntTo (endsB bk z) z.length z.length q
def allP (bk : Book) (z : Str) : List Nat := (List.range (z.length + 1)).filter fun p => decide (thrB bk z p * cuB bk z p = cuB bk z 0)
end BK
namespace L2
open PySem PySem.Spec PyProof.Rows
end L2
namespace BK
open PySem PySem.Spec PyProof.Rows L2
/-! ### lists of tuples (place, word) -/
def PairsAt (H : Hp) (l : Addr) (ys : List (Nat × Str)) : Prop := ∃ ps : List Addr, H l = some (.lst (ps.map .ref)) ∧ Paired (fun p (y : Nat × Str) => H p = some (.tup [.int (y.1 : Int), .str y.2])) ps ys
theorem PairsAt.same {H H1 : Hp} {l : Addr} {ys : List (Nat × Str)} (b : PairsAt H l ys) (k : Same H H1) : PairsAt H1 l ys := by
  obtain ⟨ps, e, r⟩ := b
  exact ⟨ps, k _ _ e, Paired.imp' (fun p y h => k _ _ h) r⟩
/-- another list changes -/
theorem PairsAt.upd {H : Hp} {l b : Addr} {ys : List (Nat × Str)} {xs vs : List V} (p : PairsAt H l ys) (hb : H b = some (.lst xs)) (n : l ≠ b) : PairsAt (upd H b (.lst vs)) l ys := by
  obtain ⟨ps, e, r⟩ := p
  exact ⟨ps, by rw [upd_ne n]; exact e, Paired.imp' (fun q y h => by rw [upd_ne (fun z => by rw [z, hb] at h; cases h)]; exact h) r⟩
theorem PairsAt.nil {H : Hp} {l : Addr} (h : H l = some (.lst [])) : PairsAt H l [] := ⟨[], h, .nil⟩
theorem PairsAt.push {H : Hp} {l t : Addr} {ys : List (Nat × Str)} {p : Nat} {w : Str} {xs : List V} (b : PairsAt H l ys) (he : H l = some (.lst xs)) (ht : H t = some (.tup [.int (p : Int), .str w])) : PairsAt (L2.upd H l (.lst (xs ++ [.ref t]))) l (ys ++ [(p, w)]) := by
  obtain ⟨ps, e, r⟩ := b
  rw [e] at he
  cases he
  have nt : ∀ q y, H q = some (.tup y) → L2.upd H l (.lst (ps.map V.ref ++ [.ref t])) q = some (.tup y) := fun q y h => by rw [upd_ne (fun z => by rw [z, e] at h; cases h)]; exact h
  refine ⟨ps ++ [t], by rw [upd_same, List.map_append]; rfl, paired_app (Paired.imp' (fun q y h => nt q _ h) r) (.cons (nt t _ ht) .nil)⟩
theorem PairsAt.len {H : Hp} {l : Addr} {ys : List (Nat × Str)} (b : PairsAt H l ys) : ∃ xs, H l = some (.lst xs) ∧ xs.length = ys.length := by
  obtain ⟨ps, e, r⟩ := b
  exact ⟨_, e, by rw [List.length_map]; exact Paired.length r⟩
/-- the words at places for which f -/
def prsAt (bk : Book) (z : Str) (f : Nat → Nat → Bool) (p : Nat) (es : List Nat) : List (Nat × Str) := (es.filter (f p)).map fun e => (p, cutAt z p e)
def prsTo (bk : Book) (z : Str) (f : Nat → Nat → Bool) (n : Nat) : List (Nat × Str) := (List.range n).flatMap fun p => prsAt bk z f p (endsB bk z p)
def someF (bk : Book) (z : Str) (p e : Nat) : Bool := decide (0 < thrB bk z p * cuB bk z e)
def allF (bk : Book) (z : Str) (p e : Nat) : Bool := decide (thrB bk z p * cuB bk z e = cuB bk z 0)
abbrev someW (bk : Book) (z : Str) : List (Nat × Str) := prsTo bk z (someF bk z) z.length
abbrev allW (bk : Book) (z : Str) : List (Nat × Str) := prsTo bk z (allF bk z) z.length
end BK
namespace BK
open PySem PySem.Spec PyProof.Rows L2
end BK
namespace BK
open PySem PySem.Spec PyProof.Rows L2
/-! ### lists of tuples -/
def LstOf {α : Type} (T : α → List V) (H : Hp) (l : Addr) (ys : List α) : Prop := ∃ ps : List Addr, H l = some (.lst (ps.map .ref)) ∧ Paired (fun p (y : α) => H p = some (.tup (T y))) ps ys
section
variable {α : Type} {T : α → List V}
theorem LstOf.same {H H1 : Hp} {l : Addr} {ys : List α} (b : LstOf T H l ys) (k : Same H H1) : LstOf T H1 l ys := by
  obtain ⟨ps, e, r⟩ := b
  exact ⟨ps, k _ _ e, Paired.imp' (fun p y h => k _ _ h) r⟩
theorem LstOf.off {B : Addr} {H H1 : Hp} {l : Addr} {ys : List α} (b : LstOf T H l ys) (t : Tab B H) (k : Off [B] H H1) : LstOf T H1 l ys := by
  obtain ⟨ps, e, r⟩ := b
  exact ⟨ps, k _ _ (KP.tab_not t e fun q h => by cases h) e, Paired.imp' (fun p y h => k _ _ (KP.tab_not t h fun q h => by cases h) h) r⟩
theorem LstOf.upd {H : Hp} {l b : Addr} {ys : List α} {xs vs : List V} (p : LstOf T H l ys) (hb : H b = some (.lst xs)) (n : l ≠ b) : LstOf T (upd H b (.lst vs)) l ys := by
  obtain ⟨ps, e, r⟩ := p
  exact ⟨ps, by rw [upd_ne n]; exact e, Paired.imp' (fun q y h => by rw [upd_ne (fun z => by rw [z, hb] at h; cases h)]; exact h) r⟩
theorem LstOf.nil {H : Hp} {l : Addr} (h : H l = some (.lst [])) : LstOf T H l [] := ⟨[], h, .nil⟩
theorem LstOf.push {H : Hp} {l t : Addr} {ys : List α} {y : α} {xs : List V} (b : LstOf T H l ys) (he : H l = some (.lst xs)) (ht : H t = some (.tup (T y))) : LstOf T (L2.upd H l (.lst (xs ++ [.ref t]))) l (ys ++ [y]) := by
  obtain ⟨ps, e, r⟩ := b
  rw [e] at he
  cases he
  have nt : ∀ q y, H q = some (.tup y) → L2.upd H l (.lst (ps.map V.ref ++ [.ref t])) q = some (.tup y) := fun q y h => by rw [upd_ne (fun z => by rw [z, e] at h; cases h)]; exact h
  refine ⟨ps ++ [t], by rw [upd_same, List.map_append]; rfl, paired_app (Paired.imp' (fun q y h => nt q _ h) r) (.cons (nt t _ ht) .nil)⟩
theorem LstOf.len {H : Hp} {l : Addr} {ys : List α} (b : LstOf T H l ys) : ∃ xs, H l = some (.lst xs) ∧ xs.length = ys.length := by
  obtain ⟨ps, e, r⟩ := b
  exact ⟨_, e, by rw [List.length_map]; exact Paired.length r⟩
end
/-- the words at the places, as tuples (place, end) -/
def stAt (bk : Book) (z : Str) (p : Nat) (es : List Nat) : List (Nat × Nat) := es.map fun e => (p, e)
def stTo (bk : Book) (z : Str) (n : Nat) : List (Nat × Nat) := (List.range n).flatMap fun p => stAt bk z p (endsB bk z p)
def shT (bk : Book) (z : Str) (y : Nat × Nat) : List V := [.int (y.1 : Int), .int (y.2 : Int), .int (thrB bk z y.1 * cuB bk z y.2)]
abbrev pwT (y : Nat × Str) : List V := [.int (y.1 : Int), .str y.2]
end BK
namespace BK
open PySem PySem.Spec PyProof.Rows L2
/-! ### == of lists of tuples (place, word) -/
def pwV (y : Nat × Str) : PyData := .tuple [.int (y.1 : Int), .str y.2]
def pwD (ys : List (Nat × Str)) : PyData := .list (ys.map pwV)
end BK
namespace BK
open PySem PySem.Spec PyProof.Rows L2
/-! ### worths -/
abbrev fewS : Str := Str.ofString "fewest"
abbrev heaS : Str := Str.ofString "heaviest"
def IsWay (x : Str) : Prop := x = fewS ∨ x = heaS
def wOf (way : Str) (bk : Book) : Book := if way = fewS then bk.map fun y => (y.1, -1) else bk
def wt (b : Book) (x : Str) : Int := match valV (kvOf b) (Sum.inr x : Key) with | some (.int n) => n | _ => 0
theorem wt_val {x : Str} : ∀ {b : Book}, x ∈ keys b → valV (kvOf b) (Sum.inr x : Key) = some (V.int (wt b x))
  | [], h => by simp [keys] at h
  | y :: r, h => by
    by_cases e : y.1 = x
    · have h1 : valV (kvOf (y :: r)) (Sum.inr x : Key) = some (V.int y.2) := valV_pos (p := ((Sum.inr y.1 : Key), V.int y.2)) (r := kvOf r) (by rw [e])
      unfold wt
      rw [h1]
    · have h1 : valV (kvOf (y :: r)) (Sum.inr x : Key) = valV (kvOf r) (Sum.inr x) := valV_neg (p := ((Sum.inr y.1 : Key), V.int y.2)) (r := kvOf r) (fun q => e (Sum.inr.inj q))
      have h2 : x ∈ keys r := by
        unfold keys at h ⊢
        rw [List.map_cons] at h
        rcases List.mem_cons.mp h with a | a
        · exact absurd a.symm e
        · exact a
      have h3 := wt_val h2
      have h4 : wt (y :: r) x = wt r x := by unfold wt; rw [h1]
      rw [h1, h4, h3]
theorem hasW_iff3 {xs : List Str} {w : List Nat} : hasW xs w = true ↔ ∃ y ∈ xs, ch y = w := by
  unfold hasW
  rw [List.any_eq_true]
  constructor
  · rintro ⟨y, h1, h2⟩; exact ⟨y, h1, of_decide_eq_true h2⟩
  · rintro ⟨y, h1, h2⟩; exact ⟨y, h1, decide_eq_true h2⟩
theorem ends_key {bk : Book} {z : Str} {p e : Nat} (h : e ∈ endsB bk z p) : cutAt z p e ∈ keys bk := by
  unfold endsB endsAt at h
  rw [mem_endsTo, hasW_iff3] at h
  obtain ⟨_, y, hy, ey⟩ := h
  have : cutAt z p e = y := str_ext (by show ch _ = ch _; rw [ch_cutAt, ey])
  rw [this]; exact hy
/-- the steps from a place -/
def stp (b bk : Book) (z : Str) (q : Nat) : List (Nat × Int) := (endsB bk z q).map fun e => (e, wt b (cutAt z q e))
theorem stp_in {b bk : Book} {z : Str} {q : Nat} {y : Nat × Int} (h : y ∈ stp b bk z q) : q < y.1 ∧ y.1 ≤ z.length ∧ y.2 = wt b (cutAt z q y.1) ∧ y.1 ∈ endsB bk z q := by
  unfold stp at h
  obtain ⟨e, he, rfl⟩ := List.mem_map.mp h
  exact ⟨(endsB_in he).1, (endsB_in he).2, rfl, he⟩
/-! ### the greatest of some numbers -/
def mxO : List Int → Option Int
  | [] => none
  | x :: r => some (match mxO r with | none => x | some y => if x < y then y else x)
theorem mxO_some : ∀ {ns : List Int} {m : Int}, mxO ns = some m → m ∈ ns ∧ ∀ z ∈ ns, z ≤ m
  | [], m, h => by cases h
  | x :: r, m, h => by
    cases e : mxO r with
    | none =>
      have hr : r = [] := by
        cases r with
        | nil => rfl
        | cons a b => cases e
      subst hr
      have : m = x := by
        have h' : some x = some m := by rw [← h]; show _ = some (match mxO [] with | none => x | some y => if x < y then y else x); rfl
        exact (Option.some.inj h').symm
      subst this
      simp
    | some y =>
      obtain ⟨h1, h2⟩ := mxO_some e
      have h' : (if x < y then y else x) = m := by
        have : some (match mxO r with | none => x | some y => if x < y then y else x) = some m := h
        rw [e] at this
        exact Option.some.inj this
      by_cases hx : x < y
      · rw [if_pos hx] at h'
        subst h'
        refine ⟨List.mem_cons_of_mem _ h1, fun z hz => ?_⟩
        rcases List.mem_cons.mp hz with a | a
        · omega
        · exact h2 z a
      · rw [if_neg hx] at h'
        subst h'
        refine ⟨List.mem_cons_self, fun z hz => ?_⟩
        rcases List.mem_cons.mp hz with a | a
        · omega
        · have := h2 z a; omega
theorem mxO_none {ns : List Int} (h : mxO ns = none) : ns = [] := by
  cases ns with
  | nil => rfl
  | cons a b => cases h
theorem mxO_is {ns : List Int} {m : Int} (h : m ∈ ns) (h2 : ∀ z ∈ ns, z ≤ m) : mxO ns = some m := by
  cases e : mxO ns with
  | none => rw [mxO_none e] at h; simp at h
  | some k =>
    obtain ⟨h3, h4⟩ := mxO_some e
    have := h2 k h3
    have := h4 m h
    have : k = m := by omega
    rw [this]
/-! ### the best rests -/
def addO (w : Int) (o : Option Int) : Option Int := o.map fun b => w + b
def vals (B : Nat → Option Int) (l : List (Nat × Int)) : List Int := l.filterMap fun y => addO y.2 (B y.1)
def bstTo (F : Nat → List (Nat × Int)) (m : Nat) : Nat → Nat → Option Int
  | 0, q => if q = m then some 0 else none
  | i + 1, q => if q = m - 1 - i then mxO (vals (bstTo F m i) (F q)) else bstTo F m i q
theorem bst_keep {F : Nat → List (Nat × Int)} {m : Nat} : ∀ j i q, i ≤ j → j ≤ m → m - i ≤ q → q ≤ m → bstTo F m j q = bstTo F m i q
  | 0, i, q, h1, _, _, _ => by have : i = 0 := by omega
                               rw [this]
  | j + 1, i, q, h1, h2, h3, h4 => by
    rcases Nat.eq_or_lt_of_le h1 with e | h
    · rw [e]
    · have hq : ¬ q = m - 1 - j := by omega
      show (if q = m - 1 - j then _ else bstTo F m j q) = _
      rw [if_neg hq]
      exact bst_keep j i q (by omega) (by omega) h3 h4
theorem bst_end (F : Nat → List (Nat × Int)) (m : Nat) : bstTo F m m m = some 0 := by
  rw [bst_keep m 0 m (by omega) (by omega) (by omega) (by omega)]
  exact if_pos rfl
theorem vals_congr {B C : Nat → Option Int} {l : List (Nat × Int)} (h : ∀ y ∈ l, B y.1 = C y.1) : vals B l = vals C l := by
  unfold vals
  induction l with
  | nil => rfl
  | cons a r ih =>
    rw [List.filterMap_cons, List.filterMap_cons, h a List.mem_cons_self, ih fun y hy => h y (List.mem_cons_of_mem _ hy)]
theorem bst_step {F : Nat → List (Nat × Int)} {m : Nat} (hF : ∀ i, i < m → ∀ y ∈ F i, i < y.1 ∧ y.1 ≤ m) {q : Nat} (hq : q < m) : bstTo F m m q = mxO (vals (bstTo F m m) (F q)) := by
  rw [bst_keep m (m - q) q (by omega) (by omega) (by omega) (by omega)]
  have e : m - q = (m - q - 1) + 1 := by omega
  rw [e]
  show (if q = m - 1 - (m - q - 1) then mxO (vals (bstTo F m (m - q - 1)) (F q)) else _) = _
  rw [if_pos (by omega)]
  refine congrArg mxO (vals_congr fun x hx => ?_)
  have := hF q hq x hx
  rw [bst_keep m (m - q - 1) x.1 (by omega) (by omega) (by omega) (by omega)]
/-! ### lists of numbers and None -/
def oV : Option Int → V
  | none => .non
  | some x => .int x
def itO (n : Nat) (f : Nat → Option Int) : List V := (List.range n).map fun q => oV (f q)
/-! ### the first of the best steps -/
def pk (B : Nat → Option Int) (acc : Option (Int × Nat)) (y : Nat × Int) : Option (Int × Nat) :=
  match B y.1 with
  | none => acc
  | some b => match acc with
    | none => some (y.2 + b, y.1)
    | some (v, e) => if v < y.2 + b then some (y.2 + b, y.1) else some (v, e)
def pick (B : Nat → Option Int) (l : List (Nat × Int)) : Option (Int × Nat) := l.foldl (pk B) none
theorem pick_snoc (B : Nat → Option Int) (l : List (Nat × Int)) (y : Nat × Int) : pick B (l ++ [y]) = pk B (pick B l) y := by unfold pick; rw [List.foldl_append]; rfl
def isBe (B : Nat → Option Int) (v : Int) (y : Nat × Int) : Bool := decide (addO y.2 (B y.1) = some v)
def PkOk (B : Nat → Option Int) (l : List (Nat × Int)) : Option (Int × Nat) → Prop
  | none => vals B l = []
  | some (v, e) => v ∈ vals B l ∧ (∀ x ∈ vals B l, x ≤ v) ∧ ((l.filter (isBe B v)).map (·.1)).head? = some e
theorem vals_snoc (B : Nat → Option Int) (l : List (Nat × Int)) (y : Nat × Int) : vals B (l ++ [y]) = vals B l ++ (match addO y.2 (B y.1) with | none => [] | some b => [b]) := by
  unfold vals
  rw [List.filterMap_append, List.filterMap_cons]
  cases addO y.2 (B y.1) <;> rfl
theorem vals_mem {B : Nat → Option Int} {l : List (Nat × Int)} {v : Int} : v ∈ vals B l ↔ ∃ y ∈ l, addO y.2 (B y.1) = some v := by
  unfold vals
  rw [List.mem_filterMap]
theorem head_app {α : Type} {l r : List α} {e : α} (h : l.head? = some e) : (l ++ r).head? = some e := by
  cases l with
  | nil => cases h
  | cons a b => exact h
theorem snoc_ind {α : Type} {P : List α → Prop} (h0 : P []) (h1 : ∀ l y, P l → P (l ++ [y])) : ∀ l, P l := fun l => by
  rw [← List.reverse_reverse l]
  induction l.reverse with
  | nil => exact h0
  | cons a r ih => rw [List.reverse_cons]; exact h1 _ _ ih
theorem pick_ok (B : Nat → Option Int) : ∀ l : List (Nat × Int), PkOk B l (pick B l) := by
  refine snoc_ind rfl fun l y ih => ?_
  · rw [pick_snoc]
    unfold pk
    cases hb : B y.1 with
    | none =>
      have ha : addO y.2 (B y.1) = none := by rw [hb]; rfl
      show PkOk B (l ++ [y]) (pick B l)
      cases hp : pick B l with
      | none =>
        rw [hp] at ih
        show vals B (l ++ [y]) = []
        rw [vals_snoc, ha, show vals B l = [] from ih]; rfl
      | some ve =>
        obtain ⟨v, e⟩ := ve
        rw [hp] at ih
        obtain ⟨h1, h2, h3⟩ := ih
        refine ⟨?_, ?_, ?_⟩
        · rw [vals_snoc]; exact List.mem_append_left _ h1
        · rw [vals_snoc, ha]; simpa using h2
        · rw [List.filter_append, List.map_append]; exact head_app h3
    | some b =>
      have ha : addO y.2 (B y.1) = some (y.2 + b) := by rw [hb]; rfl
      have fl : ∀ v, y.2 + b = v → [y].filter (isBe B v) = [y] := fun v e => by rw [List.filter_cons, if_pos (by unfold isBe; rw [ha, e]; exact decide_eq_true rfl)]; rfl
      cases hp : pick B l with
      | none =>
        rw [hp] at ih
        have ih : vals B l = [] := ih
        show PkOk B (l ++ [y]) (some (y.2 + b, y.1))
        refine ⟨?_, ?_, ?_⟩
        · rw [vals_snoc, ha]; simp
        · rw [vals_snoc, ha, ih]; intro x hx; have : x = y.2 + b := by simpa using hx
          omega
        · have : l.filter (isBe B (y.2 + b)) = [] := by
            rw [List.filter_eq_nil_iff]
            intro x hx hx2
            have : y.2 + b ∈ vals B l := vals_mem.mpr ⟨x, hx, of_decide_eq_true hx2⟩
            rw [ih] at this; simp at this
          rw [List.filter_append, this, fl _ rfl]; rfl
      | some ve =>
        obtain ⟨v, e⟩ := ve
        rw [hp] at ih
        obtain ⟨h1, h2, h3⟩ := ih
        show PkOk B (l ++ [y]) (if v < y.2 + b then some (y.2 + b, y.1) else some (v, e))
        by_cases hv : v < y.2 + b
        · rw [if_pos hv]
          refine ⟨?_, ?_, ?_⟩
          · rw [vals_snoc, ha]; simp
          · rw [vals_snoc, ha]
            intro x hx
            rcases List.mem_append.mp hx with a | a
            · have := h2 x a; omega
            · have : x = y.2 + b := by simpa using a
              omega
          · have : l.filter (isBe B (y.2 + b)) = [] := by
              rw [List.filter_eq_nil_iff]
              intro x hx hx2
              have := h2 _ (vals_mem.mpr ⟨x, hx, of_decide_eq_true hx2⟩)
              omega
            rw [List.filter_append, this, fl _ rfl]; rfl
        · rw [if_neg hv]
          refine ⟨?_, ?_, ?_⟩
          · rw [vals_snoc]; exact List.mem_append_left _ h1
          · rw [vals_snoc, ha]
            intro x hx
            rcases List.mem_append.mp hx with a | a
            · exact h2 x a
            · have : x = y.2 + b := by simpa using a
              omega
          · rw [List.filter_append, List.map_append]; exact head_app h3
theorem pick_some {B : Nat → Option Int} {l : List (Nat × Int)} {v : Int} {e : Nat} (hp : pick B l = some (v, e)) : mxO (vals B l) = some v ∧ ((l.filter (isBe B v)).map (·.1)).head? = some e ∧ ∃ w, (e, w) ∈ l ∧ addO w (B e) = some v := by
  have h := pick_ok B l
  rw [hp] at h
  obtain ⟨h1, h2, h3⟩ := h
  refine ⟨mxO_is h1 h2, h3, ?_⟩
  have hm : e ∈ (l.filter (isBe B v)).map (·.1) := List.mem_of_mem_head? h3
  obtain ⟨y, hy, ey⟩ := List.mem_map.mp hm
  obtain ⟨hy1, hy2⟩ := List.mem_filter.mp hy
  subst ey
  exact ⟨y.2, hy1, of_decide_eq_true hy2⟩
/-! ### the best cut -/
def bL (B : Nat → Option Int) (q : Nat) : Bool := (B q).isSome
def bE (B : Nat → Option Int) (F : Nat → List (Nat × Int)) (q : Nat) : List Nat := match pick B (F q) with | some (_, e) => [e] | none => []
/-! ### what stands in the heap -/
abbrev stT (y : Nat × Int) : List V := [.int (y.1 : Int), .int y.2]
def SRows (H : Hp) (l : Addr) (F : Nat → List (Nat × Int)) (n : Nat) : Prop := ∃ ls : List Addr, H l = some (.lst (ls.map .ref)) ∧ ls.length = n ∧ ∀ i a, ls[i]? = some a → LstOf stT H a (F i)
theorem SRows.same {H H1 : Hp} {l : Addr} {F : Nat → List (Nat × Int)} {n : Nat} (r : SRows H l F n) (s : Same H H1) : SRows H1 l F n := by
  obtain ⟨ls, e, h, k⟩ := r
  exact ⟨ls, s _ _ e, h, fun i a x => (k i a x).same s⟩
abbrev stB (way : Str) (bk : Book) (z : Str) : Nat → List (Nat × Int) := stp (wOf way bk) bk z
abbrev bsB (way : Str) (bk : Book) (z : Str) : Nat → Option Int := bstTo (stB way bk z) z.length z.length
theorem stB_in {way : Str} {bk : Book} {z : Str} : ∀ i, i < z.length → ∀ y ∈ stB way bk z i, i < y.1 ∧ y.1 ≤ z.length := fun _ _ _ h => ⟨(stp_in h).1, (stp_in h).2.1⟩
theorem bsB_step {way : Str} {bk : Book} {z : Str} {q : Nat} (hq : q < z.length) : bsB way bk z q = mxO (vals (bsB way bk z) (stB way bk z q)) := bst_step stB_in hq
/-- the best cut -/
def IsBest (way : Str) (bk : Book) (z : Str) (c : List Str) : Prop := IsFirst (bE (bsB way bk z) (stB way bk z)) (bL (bsB way bk z)) z c
end BK
namespace BK
open PySem PySem.Spec PyProof.Rows L2
end BK
namespace BK
open PySem PySem.Spec PyProof.Rows L2
/-! ### the law's own list -/
def fnV (H : Hp) (o : Option (Int × Str)) (x : V) : Prop := match o with
  | none => x = .non
  | some (v, w) => ∃ t, x = .ref t ∧ H t = some (.tup [.int v, .str w])
def FndAt (H : Hp) (d : Addr) (n : Nat) (f : Nat → Option (Int × Str)) : Prop := ∃ vs : List V, H d = some (.lst vs) ∧ vs.length = n ∧ ∀ q, q < n → ∃ x, vs[q]? = some x ∧ fnV H (f q) x
theorem fnV.same {H H1 : Hp} {o : Option (Int × Str)} {x : V} (h : fnV H o x) (s : ∀ t xs, H t = some (.tup xs) → H1 t = some (.tup xs)) : fnV H1 o x := by
  cases o with
  | none => exact h
  | some vw =>
    obtain ⟨v, w⟩ := vw
    obtain ⟨t, e, ht⟩ := h
    exact ⟨t, e, s _ _ ht⟩
theorem FndAt.same {H H1 : Hp} {d : Addr} {n : Nat} {f : Nat → Option (Int × Str)} (r : FndAt H d n f) (s : Same H H1) : FndAt H1 d n f := by
  obtain ⟨vs, e, l, k⟩ := r
  exact ⟨vs, s _ _ e, l, fun q hq => let ⟨x, hx, hv⟩ := k q hq; ⟨x, hx, hv.same fun t xs h => s _ _ h⟩⟩
theorem FndAt.congr {H : Hp} {d : Addr} {n : Nat} {f g : Nat → Option (Int × Str)} (r : FndAt H d n f) (h : ∀ q, q < n → f q = g q) : FndAt H d n g := by
  obtain ⟨vs, e, l, k⟩ := r
  exact ⟨vs, e, l, fun q hq => by rw [← h q hq]; exact k q hq⟩
theorem FndAt.put {H : Hp} {d t : Addr} {n q : Nat} {f : Nat → Option (Int × Str)} {v : Int} {w : Str} {vs : List V} (r : FndAt H d n f) (he : H d = some (.lst vs)) (hq : q < n) (ht : H t = some (.tup [.int v, .str w])) :
    FndAt (upd H d (.lst (vs.set q (.ref t)))) d n fun p => if p = q then some (v, w) else f p := by
  obtain ⟨us, e, l, k⟩ := r
  rw [e] at he
  cases he
  have nt : ∀ b xs, H b = some (.tup xs) → upd H d (.lst (vs.set q (.ref t))) b = some (.tup xs) := fun b xs h => by rw [upd_ne (fun z => by rw [z, e] at h; cases h)]; exact h
  refine ⟨vs.set q (.ref t), upd_same, by rw [List.length_set]; exact l, fun p hp => ?_⟩
  by_cases h : p = q
  · subst h
    refine ⟨.ref t, by rw [List.getElem?_set]; simp [l, hp], ?_⟩
    show fnV _ (if p = p then some (v, w) else f p) _
    rw [if_pos rfl]
    exact ⟨t, rfl, nt _ _ ht⟩
  · obtain ⟨x, hx, hv⟩ := k p hp
    have hqp : ¬ q = p := fun z => h z.symm
    refine ⟨x, by rw [List.getElem?_set, if_neg hqp]; exact hx, ?_⟩
    show fnV _ (if p = q then some (v, w) else f p) _
    rw [if_neg h]
    exact hv.same nt
/-- what the law has found at a place -/
def fnd (z : Str) (F : Nat → List (Nat × Int)) (m i : Nat) (q : Nat) : Option (Int × Str) :=
  if q = m then some (0, Str.ofString "") else if m - i ≤ q then (pick (bstTo F m m) (F q)).map fun y => (y.1, cutAt z q y.2) else none
end BK
namespace L2
end L2
namespace BK
open PySem PySem.Spec PyProof.Rows L2
abbrev bkT (y : Str × Int) : List V := [.str y.1, .int y.2]
end BK
namespace L2
open PySem
/-- the generator expression that a def's last row hands to a built-in -/
def genOf (st : Stmt) : Option (Expr × Scope) := match (defBody st).getLast? with
  | some (.Return (some (.Call _ [.GeneratorExp e _ sc _] _ _)) _) => some (e, sc)
  | _ => none
def genElt (st : Stmt) : Expr := match genOf st with | some (e, _) => e | none => .Constant .none 0 ⟨0, 0, 0, 0⟩
def genSc (st : Stmt) : Scope := match genOf st with | some (_, sc) => sc | none => defScope st
end L2
namespace BK
open PySem PySem.Spec PyProof.Rows L2
/-! ### ways and their worths -/
inductive Way (F : Nat → List (Nat × Int)) : Nat → Nat → Int → Prop where
  | nil (p : Nat) : Way F p p 0
  | cons {p e q : Nat} {w W : Int} (h : (e, w) ∈ F p) (r : Way F e q W) : Way F p q (w + W)
theorem Way.snoc {F : Nat → List (Nat × Int)} {p q e : Nat} {W w : Int} (a : Way F p q W) (h : (e, w) ∈ F q) : Way F p e (W + w) := by
  induction a with
  | nil p => have := Way.cons h (Way.nil (F := F) e); rw [Int.add_zero] at this; rw [Int.zero_add]; exact this
  | cons h2 _ ih => rw [Int.add_assoc]; exact Way.cons h2 (ih h)
section
variable {F : Nat → List (Nat × Int)} {m : Nat}
theorem way_bst (hF : ∀ i, i < m → ∀ y ∈ F i, i < y.1 ∧ y.1 ≤ m) (hm : ∀ y, y ∉ F m) : ∀ {p q : Nat} {W : Int}, Way F p q W → q = m → p ≤ m → ∃ v, bstTo F m m p = some v ∧ W ≤ v := by
  intro p q W h
  induction h with
  | nil p => intro e hp; rw [e]; exact ⟨0, bst_end F m, Int.le_refl _⟩
  | @cons p e q w W h r ih =>
    intro eq hp
    have hpm : p < m := by
      rcases Nat.lt_or_ge p m with a | a
      · exact a
      · have : p = m := by omega
        rw [this] at h
        exact absurd h (hm _)
    have hb := hF p hpm _ h
    obtain ⟨v, hv, le⟩ := ih eq hb.2
    have hv : bstTo F m m e = some v := hv
    have hin : w + v ∈ vals (bstTo F m m) (F p) := vals_mem.mpr ⟨(e, w), h, by show addO w (bstTo F m m e) = _; rw [hv]; rfl⟩
    rw [bst_step hF hpm]
    cases hx : mxO (vals (bstTo F m m) (F p)) with
    | none => rw [mxO_none hx] at hin; simp at hin
    | some u => exact ⟨u, rfl, by have := (mxO_some hx).2 _ hin; omega⟩
end
/-! ### the greatest worths up to each place -/
def mx2 (o : Option Int) (x : Int) : Int := match o with | none => x | some y => if y < x then x else y
def rlx (v : Int) (f : Nat → Option Int) (y : Nat × Int) : Nat → Option Int := fun q => if q = y.1 then some (mx2 (f q) (v + y.2)) else f q
def rchTo (F : Nat → List (Nat × Int)) : Nat → Nat → Option Int
  | 0 => fun q => if q = 0 then some 0 else none
  | i + 1 => match rchTo F i i with
    | none => rchTo F i
    | some v => (F i).foldl (rlx v) (rchTo F i)
section
variable {F : Nat → List (Nat × Int)} {m : Nat}
end
/-! ### what a paper shows -/
def holdsL (f : Nat → Option Int) (p : Nat) (l : List (Nat × Int)) : Bool := match f p with
  | none => true
  | some v => l.all fun y => match f y.1 with | none => false | some b => decide (v + y.2 ≤ b)
def showsB (way : Str) (bk : Book) (z : Str) (worth : Int) (n : Nat) (f : Nat → Option Int) : Bool :=
  decide (n = z.length + 1) && (decide (f 0 = some 0) && (decide (f z.length = some worth) && (List.range (z.length + 1)).all fun p => holdsL f p (stB way bk z p)))
abbrev rcB (way : Str) (bk : Book) (z : Str) : Nat → Option Int := rchTo (stB way bk z) z.length
theorem stB_end {way : Str} {bk : Book} {z : Str} {p : Nat} (h : z.length ≤ p) : stB way bk z p = [] := by
  unfold stB stp
  have : endsB bk z p = [] := by
    cases he : endsB bk z p with
    | nil => rfl
    | cons a r =>
      have := endsB_in (show a ∈ endsB bk z p by rw [he]; exact List.mem_cons_self)
      omega
  rw [this]; rfl
end BK
namespace BK
open PySem PySem.Spec PyProof.Rows L2
theorem itO_ints (n : Nat) (f : Nat → Option Int) : itO n f = ((List.range n).map f).map oV := by unfold itO; rw [List.map_map]; rfl
end BK
namespace BK
open PySem PySem.Spec PyProof.Rows L2
def oP : Option Int → PyData
  | none => .none
  | some x => .int x
def opD (os : List (Option Int)) : PyData := .list (os.map oP)
end BK
namespace BK
open PySem PySem.Spec PyProof.Rows L2
/-- the papers' test, place by place -/
def okY (g : Nat → Option Int) (v : Int) (y : Nat × Int) : Bool := match g y.1 with | none => false | some b => decide (v + y.2 ≤ b)
end BK
namespace L2
open PySem PySem.Spec PyProof.Rows
/-- a or b, by the first one's truth -/
def rOrT (K : PySem.W.Frag) (tb : TE) (σ : L2.St) (x : V) (H : Hp) (Q : VK) : Prop := ∃ c, TruV K x H c ∧ if c = true then Q x H else tb σ H Q
def tOrT (K : PySem.W.Frag) (ta tb : TE) : TE := fun σ H Q => ta σ H fun x H1 => rOrT K tb σ x H1 Q
end L2
namespace BK
open PySem PySem.Spec PyProof.Rows L2
end BK
namespace BK
open PySem PySem.Spec PyProof.Rows L2
def OL (H : Hp) (p : Addr) (n : Nat) : Prop := ∃ os : List (Option Int), os.length = n ∧ H p = some (.lst (os.map oV))
theorem OL.same {H H' : Hp} {p : Addr} {n : Nat} (h : OL H p n) (s : Same H H') : OL H' p n := by
  obtain ⟨os, l, e⟩ := h
  exact ⟨os, l, s _ _ e⟩
theorem OL.of {H : Hp} {p : Addr} {n : Nat} {g : Nat → Option Int} (e : H p = some (.lst (itO n g))) : OL H p n := ⟨(List.range n).map g, by simp, by rw [e, itO_ints]⟩
end BK
namespace BK
open PySem PySem.Spec PyProof.Rows L2
theorem OL.upd {H : Hp} {p f : Addr} {n : Nat} {o : HO} (h : OL H p n) (ne : p ≠ f) : OL (L2.upd H f o) p n := by
  obtain ⟨os, l, e⟩ := h
  exact ⟨os, l, by rw [upd_ne ne]; exact e⟩
theorem OL.ne {H : Hp} {p f : Addr} {n : Nat} (h : OL H p n) (hf : H f = none) : p ≠ f := by
  obtain ⟨os, l, e⟩ := h
  exact ne_of_none e hf
theorem OL.off {B : Addr} {H H' : Hp} {p : Addr} {n : Nat} (h : OL H p n) (t : p ∉ [B]) (o : Off [B] H H') : OL H' p n := by
  obtain ⟨os, l, e⟩ := h
  exact ⟨os, l, o _ _ t e⟩
end BK
namespace BK
open PySem PySem.Spec PyProof.Rows L2
def OB (H : Hp) (p : Addr) : Prop := ∃ os : List (Option Int), os.length ≤ 500000 ∧ H p = some (.lst (os.map oV))
theorem OB.same {H H' : Hp} {p : Addr} (h : OB H p) (s : Same H H') : OB H' p := by
  obtain ⟨os, l, e⟩ := h
  exact ⟨os, l, s _ _ e⟩
end BK
namespace BK
open PySem PySem.Spec PyProof.Rows L2
end BK
namespace BK
open PySem PySem.Spec PyProof.Rows L2
end BK
namespace BK
open PySem PySem.Spec PyProof.Rows L2
end BK
namespace BK
open PySem PySem.Spec PyProof.Rows L2
def OB1 (H : Hp) (p : Addr) : Prop := ∃ os : List (Option Int), 1 ≤ os.length ∧ os.length ≤ 500000 ∧ H p = some (.lst (os.map oV))
theorem OB1.same {H H' : Hp} {p : Addr} (h : OB1 H p) (s : Same H H') : OB1 H' p := by
  obtain ⟨os, l, l2, e⟩ := h
  exact ⟨os, l, l2, s _ _ e⟩
theorem OB1.ob {H : Hp} {p : Addr} (h : OB1 H p) : OB H p := by
  obtain ⟨os, l, l2, e⟩ := h
  exact ⟨os, l2, e⟩
end BK
namespace BK
open PySem PySem.Spec PyProof.Rows L2
end BK
namespace BK
open PySem PySem.Spec PyProof.Rows L2
theorem OB.upd {H : Hp} {p f : Addr} {o : HO} (h : OB H p) (ne : p ≠ f) : OB (L2.upd H f o) p := by
  obtain ⟨os, l, e⟩ := h
  exact ⟨os, l, by rw [upd_ne ne]; exact e⟩
end BK
namespace L2
open PySem PySem.Spec PySem.Calls PyProof.Rows PySem.W PySem.Builtin PySem.Builtin.ObjectAttr PySem.Builtin.Getset_descriptor
/-- an exception's object: its class -/
def ExcO (e C : Addr) : Heap → Prop := fun h => ∃ oe, h.get? e = some oe ∧ oe.cls = .ref C
/-- what the fragment tells of an own class of exceptions, as isinstance wants it -/
structure ExcK (K : Frag) (C : Addr) : Prop where
  cls : (clsIn K C).isSome = true
  ga : findIn K (.ref C) "__getattribute__" = some (some (.builtin "BaseException.__getattribute__"))
  gn : findIn K (.ref C) "__getattr__" = some none
  ca : findIn K (.ref C) "__class__" = some (some (.builtin "object.__class__"))
  sg : specialIn K (.builtin "object.__class__") "__get__" = some (some (.builtin "getset_descriptor.__get__"))
  tk : takesIn K (.builtin "object.__class__") = some true
  ob : mroIn K C (.type "object") = some true
  be : mroIn K C (.type "BaseException") = some true
section
variable {prog : Program} {w : World} {A : Around} {E : Value → Shared → Prop} {h : Heap} {g : Array GenState} {d : Drawn} {t : Nat} {os : OsState} {K : Frag} {x C : Addr} {oe : Obj}
theorem exc_type {M : Model} (hx : h.get? x = some oe) (hc : oe.cls = .ref C) : Looks M h (typeOf (.ref x)) (.ref C) := hc ▸ (Looks.ld hx).andThen .now
theorem exc_find {M : Model} (X : K.In h) (Z : ExcK K C) : Looks M h (find (.ref x) (.ref C) "__class__") (.bind (.builtin "getset_descriptor.__get__") (.builtin "object.__class__")) := by
  have L1 := looks_findIn (M := M) X Z.ca
  have L2 : Looks M h (getOf (some (.builtin "object.__class__"))) (some (.builtin "getset_descriptor.__get__")) := looks_specialIn X Z.sg
  have L3 := looks_takesIn (M := M) X Z.tk
  exact L1.andThen (L2.andThen ((show Looks M h (dataDescriptor? (some (.builtin "object.__class__")) (some (.builtin "getset_descriptor.__get__"))) (some (.builtin "getset_descriptor.__get__", .builtin "object.__class__")) from L3.andThen .now).andThen (Looks.tag .now)))
theorem exc_class_get {R : Result → Shared → Prop} {tp : Value} (X : K.In h) (Z : ExcK K C) (hx : h.get? x = some oe) (hc : oe.cls = .ref C) (hq : R (.ok (.ret (.ref C))) ⟨h, g, d, t, os⟩) :
    codeAny (model prog w) A (.call (.builtin "getset_descriptor.__get__") ⟨[.builtin "object.__class__", .ref x, tp], []⟩) R ⟨h, g, d, t, os⟩ := by
  have L0 := exc_type (M := model prog w) hx hc
  have L1 := looks_mroIn (M := model prog w) X Z.ob
  refine codeAny_call_builtin KF.slot_gs.plain KF.entry_gs (KF.slot_gs.check _ _ _ _ _ _ _ _ KF.type_class (KF.args_gs _ _ _) ?_)
  unfold Builtin.«getset_descriptor.__get__» descrGet
  rw [dga_obj]
  refine wpAny_bind (wpAny_pure ?_)
  unfold descrGetter descrCheckInstance descrNameAndClass isInstance
  simp only [KF.owner_class]
  repeat lk
  refine ⟨Code.quiet_builtin _ (by decide +kernel), codeAny_builtin KF.entry_class ?_⟩
  unfold Builtin.«object.__class__» shownTypeOf
  repeat lk
  exact hq
theorem exc_entry {tk : Tok} {Q : Fin → Shared → Prop} (X : K.In h) (Z : ExcK K C) (hx : h.get? x = some oe) (hc : oe.cls = .ref C) (hq : Q (.done (.ret (.ref C))) ⟨h, g, d, t, os⟩) :
    wpAny (model prog w) A (Builtin.«object.__getattribute__» ⟨[.ref x, .str "__class__" tk], []⟩) Q E ⟨h, g, d, t, os⟩ := by
  have L0 := exc_type (M := model prog w) hx hc
  have L1 := exc_find (M := model prog w) (x := x) X Z
  refine wpAny_bind (wpAny_pure (wpAny_bind (wpAny_pure (wpAny_bind (L0.at (wpAny_bind (L1.at ?_)))))))
  show wpAny _ _ (holding [Value.builtin "object.__class__"] (call (.builtin "getset_descriptor.__get__") [.builtin "object.__class__", .ref x, .ref C]) >>= ret) _ _ _
  exact wpAny_bind (wpAny_holding (wpAny_call (exc_class_get X Z hx hc (wpAny_pure hq))))
theorem exc_check {M : Model} {nameV : Value} {Q : Unit → Shared → Prop} (X : K.In h) (Z : ExcK K C) (hx : h.get? x = some oe) (hc : oe.cls = .ref C) (hq : Q () ⟨h, g, d, t, os⟩) :
    wpAny M A (checkBuiltinCall "BaseException.__getattribute__" ⟨[.ref x, nameV], []⟩) Q E ⟨h, g, d, t, os⟩ := by
  have hk : builtinKind "BaseException.__getattribute__" = some .slot := by decide +kernel
  have hsplit : splitId "BaseException.__getattribute__" = some ("BaseException", "__getattribute__") := by decide +kernel
  have ha := F.args_bexc_ga (.ref x) nameV
  have LI : Looks M h (isInstance (.ref x) (.type "BaseException")) true := (exc_type (M := M) hx hc).andThen (looks_mroIn X Z.be)
  simp only [checkBuiltinCall, hk, hsplit]
  refine wpAny_bind (LI.at ?_)
  repeat (first | assumption | wp_step)
theorem exc_call {tk : Tok} {R : Result → Shared → Prop} (X : K.In h) (Z : ExcK K C) (hx : h.get? x = some oe) (hc : oe.cls = .ref C) (hq : R (.ok (.ret (.ref C))) ⟨h, g, d, t, os⟩) :
    codeAny (model prog w) A (.call (.builtin "BaseException.__getattribute__") ⟨[.ref x, .str "__class__" tk], []⟩) R ⟨h, g, d, t, os⟩ :=
  codeAny_call_builtin F.attr_ValueError.ga.plain F.entry_bexc_ga (exc_check X Z hx hc (exc_entry X Z hx hc hq))
theorem exc_by {tk : Tok} {Q : Value → Shared → Prop} (X : K.In h) (Z : ExcK K C) (hx : h.get? x = some oe) (hc : oe.cls = .ref C) (hq : Q (.ref C) ⟨h, g, d, t, os⟩) :
    wpAny (model prog w) A (getAttrBy (.ref x) (.str "__class__" tk) false) Q E ⟨h, g, d, t, os⟩ := by
  have L0 := exc_type (M := model prog w) hx hc
  have L1 := looks_findIn (M := model prog w) X Z.ga
  have L2 := looks_findIn (M := model prog w) X Z.gn
  have f3 := F.attr_ValueError.ga.bind (.ref x)
  have hx2 : (Value.builtin "BaseException.__getattribute__" == Value.builtin "object.__getattribute__") = false := by decide +kernel
  have hx1 : (onTheHeap (Value.ref C) && Value.builtin "BaseException.__getattribute__" == Value.builtin "object.__getattribute__") = false := by rw [hx2]; rfl
  repeat (any_goals (first | assumption | with_reducible refine Looks.at L0 ?_ | with_reducible refine Looks.at L1 ?_ | with_reducible refine Looks.at L2 ?_ | wp_step))
  refine exc_call X Z hx hc ?_
  repeat (any_goals (first | assumption | wp_step))
theorem exc_class {Q : Option Value → Shared → Prop} (X : K.In h) (Z : ExcK K C) (hx : h.get? x = some oe) (hc : oe.cls = .ref C) (hq : Q (some (.ref C)) ⟨h, g, d, t + 1, os⟩) :
    wpAny (model prog w) A (getAttr? (.ref x) "__class__") Q E ⟨h, g, d, t, os⟩ := by
  unfold getAttr? getAttrBy?
  repeat (any_goals (first | assumption | with_reducible apply exc_by X Z hx hc | wp_step))
end
theorem kitx_exc {K : Frag} {x C : Addr} (Z : ExcK K C) : KitX K (.ref x) (.ref C) (ExcO x C) where
  ty := fun M h _ ⟨oe, hx, hc⟩ => exc_type hx hc
  it := fun M h X _ => by
    have hcD := Z.cls
    unfold clsIn at hcD
    split at hcD
    · rename_i c' d' cd' sl' ho
      intro A' Q' E' s' k q
      unfold isType loadHead
      exact wpAny_bind (wpAny_loadPart (k _ _ (X _ _ ho)) (wpAny_pure q))
    · cases hcD
  ne := fun h tp dd its n sl X htp => by
    have hcD := Z.cls
    refine Bool.eq_false_iff.mpr fun q => ?_
    have e : C = tp := Value.ref.inj (beq_iff_eq.mp q)
    subst e
    unfold clsIn at hcD
    split at hcD
    · rename_i c' d' cd' sl' ho
      have z := (X _ _ ho).symm.trans htp
      cases z
    · cases hcD
  ca := fun {_ _ _ _ _ s} X ⟨oe, hx, hc⟩ k => by
    obtain ⟨h, g, d, t, os⟩ := s
    exact exc_class X Z hx hc k
end L2
namespace L2
open PySem PySem.Spec PyProof.Rows
/-! ### an exception in flight: its object and its traceback, new and untracked -/
structure Fly (h : Heap) (H' : Hp) (e T C : Addr) : Prop where
  tr : ∃ oe vs a0 oT ts, h.get? e = some oe ∧ oe.cls = .ref C ∧ vs[0]? = some a0 ∧ oe.data = .fields vs ∧ vs[1]? = some (.ref T) ∧ T ≠ e ∧ h.get? T = some oT ∧ oT.data = .fields ts ∧ ts[3]? = some .none
  ne : H' e = none
  nT : H' T = none
/-- how an exception lies behind a call -/
def CX1 (P : Program) (w : World) : CXT := fun outer H s E e s' => ∃ (ea T C : Addr) (H' : Hp), e = .ref ea ∧ s'.os = s.os ∧ AllBare s'.gens ∧ Un (frs outer) [] H H' s.heap s'.heap ∧ HOk P w H' s'.heap ∧ Fly s'.heap H' ea T C ∧
  s.heap.get? ea = none ∧ s.heap.get? T = none ∧ E (.ref C) none H'
theorem ObjOk.there {P : Program} {w : World} {H : Hp} {h : Heap} {a : Addr} {o : HO} (x : ObjOk P w H h a o) : ∃ ob, h.get? a = some ob := by
  cases o with
  | lst xs => obtain ⟨_, _, _, _, e⟩ := x; exact ⟨_, e⟩
  | tup xs => obtain ⟨_, _, _, ob, e, _⟩ := x; exact ⟨_, e⟩
  | dK kvs => obtain ⟨_, _, _, _, o, _, _, e, _⟩ := x; exact ⟨_, e⟩
  | dT kvs => obtain ⟨_, _, _, _, o, _, _, e, _⟩ := x; exact ⟨_, e⟩
  | set S n => obtain ⟨o, _, _, _, e, _⟩ := x; exact ⟨_, e⟩
  | ins C dx fs => obtain ⟨_, _, _, e, _⟩ := x; exact ⟨_, e⟩
  | own y => exact x
  | xd fs => obtain ⟨_, ⟨_, _, _, e, _⟩, _⟩ := x; exact ⟨_, e⟩
  | rng lo hi => obtain ⟨_, _, _, e⟩ := x; exact ⟨_, e⟩
  | frz ob u => obtain ⟨e, _⟩ := x; exact ⟨_, e⟩
  | tbl ps => exact ⟨_, (show h.get? a = some _ from x)⟩
  | met f y => exact ⟨_, (show h.get? a = some _ from x)⟩
  | ext φ => obtain ⟨_, ⟨_, e⟩, _⟩ := x; exact ⟨_, e⟩
/-- the heap without the exception, its traceback and the frames -/
def hid (h : Heap) (e T : Addr) (l : List Env) : Heap := PySem.W.hideAll h (e :: T :: frs l)
theorem hid_funs {h base : Heap} {e T : Addr} {l : List Env} (hl : h.FunFrames base l) : h.FunFrames (hid h e T l) l := by
  have all : ∀ (m : List Env), (∀ b ∈ frs m, b ∈ frs l) → h.FunFrames base m → h.FunFrames (hid h e T l) m := by
    intro m
    induction m with
    | nil => intro _ _; trivial
    | cons env r ih =>
      intro hs hm
      obtain ⟨hk, ⟨L, o, hf, hn, ho, hd⟩, hr⟩ := hm
      have hL : L ∈ frs l := hs L (by unfold frs; rw [List.filterMap_cons, hf]; exact List.mem_cons_self)
      exact ⟨hk, ⟨L, o, hf, PySem.W.hideAll_none _ (List.mem_cons_of_mem _ (List.mem_cons_of_mem _ hL)), ho, hd⟩, ih (fun b hb => hs b (by unfold frs; rw [List.filterMap_cons, hf]; exact List.mem_cons_of_mem _ hb)) hr⟩
  exact all l (fun _ h => h) hl
theorem Fly.flying {h base : Heap} {H' : Hp} {e T C : Addr} {l : List Env} (f : Fly h H' e T C) (hl : h.FunFrames base l) : ∃ a0, Heap.FlyingW (hid h e T l) l e (.ref C) a0 h := by
  obtain ⟨oe, vs, a0, oT, ts, h1, h2, h3, h4, h5, h6, h7, h8, h9⟩ := f.tr
  exact ⟨a0, fun b o q => PySem.W.of_hideAll _ q, PySem.W.hideAll_none _ List.mem_cons_self, hid_funs hl, oe, vs, T, oT, ts, h1, ⟨h2, h3⟩, h4, h5, PySem.W.hideAll_none _ (List.mem_cons_of_mem _ List.mem_cons_self), h6, h7, h8, h9⟩
/-- what a station of the flight leaves -/
structure Stat (P : Program) (w : World) (h h' : Heap) (H' : Hp) (l : List Env) (e T T' C : Addr) : Prop where
  fly : Fly h' H' e T' C
  new : T' = T ∨ h.get? T' = none
  hok : HOk P w H' h'
  keep : ∀ b o, b ≠ e → b ≠ T → b ∉ frs l → h.get? b = some o → h'.get? b = some o
  slot : ∀ b o, b ∈ frs l → h.get? b = some o → ∃ sl, h'.get? b = some { o with slots := sl }
theorem stat_of {P : Program} {w : World} {h h' base : Heap} {H' : Hp} {l l' : List Env} {e T C : Addr} {a0 : Value} (hl : h.FunFrames base l) (hok : HOk P w H' h) (ne : H' e = none) (nT : H' T = none) (nf : ∀ b ∈ frs l, H' b = none)
    (W : Heap.FlyingW (hid h e T l) l' e (.ref C) a0 h') (up : h.UpToSlots h') : ∃ T', Stat P w h h' H' l e T T' C := by
  obtain ⟨k1, k2, k3, oe, vs, T', oT, ts, h1, ⟨h2, h3⟩, h4, h5, hnT, h6, h7, h8, h9⟩ := W
  have keep : ∀ b o, b ≠ e → b ≠ T → b ∉ frs l → h.get? b = some o → h'.get? b = some o := fun b o n1 n2 n3 q => k1 b o (PySem.W.hideAll_get _ q fun z => by
    rcases List.mem_cons.mp z with z | z
    · exact n1 z
    · rcases List.mem_cons.mp z with z | z
      · exact n2 z
      · exact n3 z)
  have slot : ∀ b o, b ∈ frs l → h.get? b = some o → ∃ sl, h'.get? b = some { o with slots := sl } := fun b o hb q => by
    obtain ⟨_, o2, q2, nd⟩ := hl.mem hb
    rw [q] at q2; cases q2
    exact up b o q nd
  have new : T' = T ∨ h.get? T' = none := by
    by_cases hT : T' = T
    · exact .inl hT
    · right
      cases q : h.get? T' with
      | none => rfl
      | some o =>
        exfalso
        by_cases hf : T' ∈ frs l
        · obtain ⟨_, o2, q2, nd⟩ := hl.mem hf
          rw [q] at q2; cases q2
          obtain ⟨sl, q3⟩ := slot T' o hf q
          rw [h7] at q3
          cases q3
          exact nd ts h8
        · have : (hid h e T l).get? T' = some o := PySem.W.hideAll_get _ q fun z => by
            rcases List.mem_cons.mp z with z | z
            · exact h6 z
            · rcases List.mem_cons.mp z with z | z
              · exact hT z
              · exact hf z
          rw [hnT] at this
          cases this
  have nT' : H' T' = none := by
    rcases new with z | z
    · rw [z]; exact nT
    · cases q : H' T' with
      | none => rfl
      | some o =>
        obtain ⟨ob, hob⟩ := (hok T' o q).there
        rw [z] at hob; cases hob
  refine ⟨T', ⟨⟨oe, vs, a0, oT, ts, h1, h2, h3, h4, h5, h6, h7, h8, h9⟩, ne, nT'⟩, new, fun b o q => ?_, keep, slot⟩
  refine (hok b o q).stay (fun c v hc r => keep c v ?_ ?_ ?_ r) (fun _ z => z) fun _ _ z => z
  all_goals
    have hcs : ∃ u, H' c = some u := by
      rcases hc with rfl | hc
      · exact ⟨_, q⟩
      · exact ⟨_, hc⟩
    obtain ⟨u, hu⟩ := hcs
  · intro z; rw [z, ne] at hu; cases hu
  · intro z; rw [z, nT] at hu; cases hu
  · intro z; rw [nf c z] at hu; cases hu
/-- behind a station, from the entry's heap on -/
theorem Stat.un {P : Program} {w : World} {h0 h h' : Heap} {H0 H' : Hp} {l : List Env} {fs : List Addr} {e T T' C : Addr} (S : Stat P w h h' H' l e T T' C) (u : Un fs [] H0 H' h0 h) (n1 : h0.get? e = none) (n2 : h0.get? T = none)
    (hf : ∀ b ∈ frs l, b ∈ fs ∨ h0.get? b = none) (hs : ∀ b ∈ fs, b ∈ frs l) : Un fs [] H0 H' h0 h' := by
  have n3 : ∀ {b : Addr} {o : Obj}, h0.get? b = some o → b ≠ e := fun q z => by rw [z, n1] at q; cases q
  have n4 : ∀ {b : Addr} {o : Obj}, h0.get? b = some o → b ≠ T := fun q z => by rw [z, n2] at q; cases q
  have n5 : ∀ {b : Addr} {o : Obj}, h0.get? b = some o → b ∉ fs → b ∉ frs l := fun q n z => by
    rcases hf _ z with z | z
    · exact n z
    · rw [z] at q; cases q
  refine ⟨fun b o q n hb hx => S.keep b o (n3 q) (n4 q) (n5 q hb) (u.keep b o q n hb hx), fun b o q n hb hx => ?_, u.free, fun b o q hx => ?_, u.tups, u.frzs, u.tbls⟩
  · obtain ⟨sl, q1⟩ := u.slot b o q n hb hx
    obtain ⟨sl2, q2⟩ := S.slot b _ (hs b hb) q1
    exact ⟨sl2, q2⟩
  · obtain ⟨o1, q1⟩ := u.there b o q hx
    by_cases hb : b ∈ frs l
    · obtain ⟨sl, q2⟩ := S.slot b o1 hb q1
      exact ⟨_, q2⟩
    · exact ⟨o1, S.keep b o1 (n3 q) (n4 q) hb q1⟩
section
variable {P : Program} {w : World} {K : PySem.W.Frag} {mg : Str → Option Value} {base : Heap} {N : List Str} {qual : Str} {scope : Scope} {f : Addr} {cd : Value} {A : Around} {outer : List Env} {s0 : Shared} {H0 : Hp} {E : XK}
theorem Inv.new0 {X : Cx} {pins : List (Addr × Obj)} {σ : St} {H : Hp} {s : Shared} {a : Addr} (I : Inv X pins σ H s) (hx : X.ex = []) (n : s.heap.get? a = none) : X.s_0.heap.get? a = none := by
  cases q : X.s_0.heap.get? a with
  | none => rfl
  | some o =>
    obtain ⟨o', q'⟩ := I.base.there a o q (by rw [hx]; simp)
    rw [n] at q'; cases q'
/-- a def out of which an own exception may come -/
theorem Fun.okX {x qual : Str} {st : Stmt} {f : Addr} {fd : FuncData} {N ps : List Str} {k : Nat} {sp : Sp} (F : Fun K x qual st f fd) (S : FnScope N ps (defScope st)) (len : ∀ vs H Q E, sp vs H Q E → vs.length = ps.length)
    (hbody : ∀ (cdv : Value) (A : Around) (outer : List Env) (s : Shared) (H : Hp) (vs : List V) (Q : VK) (E : XK), Room k (A.deeper (envOfC qual (defScope st) s.heap.objs.size f cdv)) → sp vs H Q E →
      ∃ t, PSs (cxOf (CX1 P w) P w K mg base N qual (defScope st) f cdv A outer s H E) (defBody st) t ∧ t { nx := fun _ H' => Q .non H', rt := Q } (start N vs) H) : FnOk P w K mg base (CX1 P w) (k + 1) f fd ps sp := by
  obtain ⟨oc, od, kV, doc, pm, an, cdv, ct, osl, rfl, lk, hcd⟩ := F.ex
  exact fn_of lk hcd S len fun A outer s H vs Q E hr hsp => hbody cdv A outer s H vs Q E hr hsp
/-- an own class of exceptions, of ValueError -/
abbrev bmVE : List Value := [.type "ValueError", .type "Exception", .type "BaseException", .type "object"]
structure ExcCl (K : PySem.W.Frag) (mg : Str → Option Value) (x : Str) (C : Addr) : Prop where
  mg : mg x = some (.ref C)
  ex : PySem.W.excIn K C bmVE "ValueError.__new__" = true
  k : ExcK K C
theorem exc_obj {K : PySem.W.Frag} {h : Heap} {C : Addr} {bmB : List Value} {newId : String} (X : K.In h) (q : PySem.W.excIn K C bmB newId = true) :
    ∃ bm N nm q bs hdct sn sub ab col dd k0 k1 k2 k3 k5 mN, h.get? C = some (excClassObj nm q C N bs bm hdct sn sub ab col dd k0 k1 k2 k3 k5 newId) ∧ h.Ns N mN ∧ mN "__init__" = none ∧ OwnTail h bmB bm := by
  unfold PySem.W.excIn at q
  split at q
  · rename_i dd cd sl ho
    split at q
    · rename_i C' bm k0 k1 k2 k3 n k5 hm hs
      simp only [Bool.and_eq_true, beq_iff_eq, Bool.not_eq_true'] at q
      obtain ⟨⟨⟨⟨⟨rfl, rfl⟩, hdel⟩, ht⟩, hok⟩, hni⟩ := q
      obtain ⟨nm, bs, mro, ns, qn, hd, sn, sub, ab, col, del⟩ := cd
      dsimp only at hm hdel hok hni
      subst hm hdel
      have hsl : sl = #[k0, k1, k2, k3, some (.builtin n), k5] := by
        obtain ⟨l⟩ := sl
        simp only at hs
        rw [hs]
      subst hsl
      exact ⟨bm, ns, nm, qn, bs, hd, sn, sub, ab, col, dd, k0, k1, k2, k3, k5, _, X _ _ ho, .of_isNs (PySem.W.isNs_of_in X hok), PySem.W.nsMap_none_of_in X hok hni, PySem.W.tail_of_in X ht⟩
    · cases q
  · cases q
/-- raise X("..") in such a def -/
def tRaise (E : XK) (C : Addr) : TS := fun _ _ H => E (.ref C) none H
theorem ps_raise {x z : Str} {C : Addr} {j} {np p2 cpos pos : Pos} (O : ExcCl K mg x C) (hg : Gl (cxOf (CX1 P w) P w K mg base N qual scope f cd A outer s0 H0 E) x := by rfl) (hd : (x == ("__debug__" : Str)) = false := by decide) :
    PS (cxOf (CX1 P w) P w K mg base N qual scope f cd A outer s0 H0 E) (.Raise (some (.Call (.Name x np) [.Constant (.str z) j p2] [] cpos)) none pos) (tRaise E C) := by
  intro pins s σ H D I h
  obtain ⟨bm, NN, nm, q, bs, hdct, sn, sub, ab, col, dd, k0, k1, k2, k3, k5, mN, hC, hN, hni, TL⟩ := exc_obj I.mod.kin O.ex
  refine wpAny_Raise_call_subT (C := C) (nm := nm) (q := q) (N := NN) (bs := bs) (bm := bm) (hdct := hdct) (sn := sn) (sub := sub) (ab := ab) (col := col) (dd := dd) (k0 := k0) (k1 := k1) (k2 := k2) (k3 := k3) (k5 := k5)
    F.excBase_ValueError (mN := mN) (TL.hasType F.excBase_ValueError.hasBase) (I.ok.hd rfl) rfl hni (ld_glob I hg O.mg ⟨rfl, ?_⟩ hd)
  refine Calls.evalArgs_plain (thn ((pa_cons (pe_str (x := z) (j := j) (pos := p2)) pa_nil) cpos pins s σ H (fun vs H1 => vs = [.str z] ∧ H1 = H) I ⟨rfl, rfl⟩) fun us s2 ⟨vs, H2, I2, r, e1, e2⟩ => ?_)
  subst e1 e2
  have hlen : us.length = 1 := by rw [← r.length]; rfl
  refine ⟨rfl, by rw [hlen]; decide, I2.bk _ _ hC, hN.keeps I2.bk, TL.keeps I2.bk, fun h1 e hx => ?_⟩
  have hl := I2.stack
  have ne : H2 e = none := by
    cases q : H2 e with
    | none => rfl
    | some o =>
      obtain ⟨ob, hob⟩ := (I2.hok e o q).there
      rw [hx.new] at hob; cases hob
  have n1 := I2.new0 rfl hx.new
  refine wpAny_leaves_madeW (base := hid s2.heap e e (envOfC qual scope s0.heap.objs.size f cd :: outer)) I2.ok.frames rfl (fun b o q => PySem.W.of_hideAll _ q) (hid_funs hl) hx fun h' t W _ _ up => ?_
  have up2 : s2.heap.UpToSlots h' := (Heap.UpToSlots.of_keeps hx.keeps).trans up
  obtain ⟨T', S⟩ := stat_of hl I2.hok ne ne I2.stkFree W up2
  have hL : s0.heap.get? s0.heap.objs.size = none := Heap.get?_none_of_le (Nat.le_refl _)
  refine ⟨e, T', C, H2, rfl, I2.os, I2.bare, S.un I2.base n1 n1 (fun b hb => ?_) (fun b hb => ?_), S.hok, S.fly, n1, ?_, h⟩
  · rcases List.mem_cons.mp (I2.stkSub b hb) with z | z
    · right; rw [z]; exact hL
    · exact .inl z
  · show b ∈ frs (envOfC qual scope s0.heap.objs.size f cd :: outer)
    unfold frs
    rw [List.filterMap_cons]
    exact List.mem_cons_of_mem _ hb
  · rcases S.new with z | z
    · rw [z]; exact n1
    · exact I2.new0 rfl z
end
end L2
namespace L2
open PySem PySem.Spec PyProof.Rows
/-! ### try: the body's context, the suite's context -/
abbrev Cx.tr (X : Cx) (pn : List (Addr × Obj)) (W : St → Value → Hp → Prop) : Cx := { X with
  pn := pn
  xe := fun e s' => ∃ (ea T C : Addr) (σ : St) (H' : Hp), e = .ref ea ∧ Inv { X with pn := pn } [] σ H' s' ∧ Fly s'.heap H' ea T C ∧ X.s_0.heap.get? ea = none ∧ X.s_0.heap.get? T = none ∧
    (∀ p ∈ pn, p.1 ≠ ea ∧ p.1 ≠ T) ∧ (∀ x c, X.env.cells.lookup x = some c → c ≠ ea ∧ c ≠ T) ∧ W σ (.ref C) H' }
abbrev Cx.sut (X : Cx) (ea : Addr) (pn : List (Addr × Obj)) : Cx := { X with A := X.A.mark (some (.ref ea)), calm := false, pn := pn, xe := fun _ _ => False }
theorem Cx.Ok.tr {X : Cx} (ok : X.Ok) (pn : List (Addr × Obj)) (W : St → Value → Hp → Prop) : (X.tr pn W).Ok :=
  ⟨ok.mod, ok.kind, ok.glob, ok.blt, ok.above, ok.inj, ok.has, ok.cab, ok.hd, ok.frames, ok.stk, ok.exf, ok.bs, ok.bsz, ok.noex, ok.exfs, ok.funs, ok.frf⟩
theorem Cx.Ok.sut {X : Cx} (ok : X.Ok) (ea : Addr) (pn : List (Addr × Obj)) : (X.sut ea pn).Ok :=
  ⟨ok.mod, ok.kind, ok.glob, ok.blt, ok.above, ok.inj, ok.has, ok.cab, (fun z => by cases z), ok.frames, ok.stk, ok.exf, ok.bs, ok.bsz, ok.noex, ok.exfs, ok.funs, ok.frf⟩
section
variable {X : Cx} {pins pn : List (Addr × Obj)} {σ : St} {H : Hp} {s : Shared} {W : St → Value → Hp → Prop} {e T T' C ea : Addr} {h' : Heap}
theorem Inv.tr (I : Inv X pins σ H s) (W : St → Value → Hp → Prop) : Inv (X.tr (X.pn ++ pins) W) [] σ H s :=
  ⟨I.ok.tr _ _, I.os, I.bare, I.base, I.loc, I.cell, I.free, I.freeC, fun p hp => I.pin p (by simpa using hp), I.hok, I.len⟩
theorem Inv.untr (I : Inv (X.tr (X.pn ++ pins) W) [] σ H s) (ok : X.Ok) : Inv X pins σ H s :=
  ⟨ok, I.os, I.bare, I.base, I.loc, I.cell, I.free, I.freeC, fun p hp => I.pin p (by simpa using hp), I.hok, I.len⟩
theorem Inv.toSut (I : Inv { X with pn := pn } [] σ H s) (ok : X.Ok) (ea : Addr) : Inv (X.sut ea pn) [] σ H s :=
  ⟨ok.sut _ _, I.os, I.bare, I.base, I.loc, I.cell, I.free, I.freeC, I.pin, I.hok, I.len⟩
theorem Inv.unsut (I : Inv (X.sut ea (X.pn ++ pins)) [] σ H s) (ok : X.Ok) : Inv X pins σ H s :=
  ⟨ok, I.os, I.bare, I.base, I.loc, I.cell, I.free, I.freeC, fun p hp => I.pin p (by simpa using hp), I.hok, I.len⟩
theorem SP.untr {D : Ends} {f : Flow} (h : SP (X.tr (X.pn ++ pins) W) [] D f s) (ok : X.Ok) : SP X pins D f s := by
  cases f with
  | next => obtain ⟨σ', H', I, q⟩ := h; exact ⟨σ', H', I.untr ok, q⟩
  | brk => obtain ⟨σ', H', I, q⟩ := h; exact ⟨σ', H', I.untr ok, q⟩
  | cont => obtain ⟨σ', H', I, q⟩ := h; exact ⟨σ', H', I.untr ok, q⟩
  | ret u => obtain ⟨v, σ', H', I, r, q⟩ := h; exact ⟨v, σ', H', I.untr ok, r, q⟩
/-- the state behind a station of the flight -/
theorem Inv.flown (I : Inv X pins σ H s) (hex : X.ex = []) (hst : X.stack = X.env :: X.outer) (S : Stat X.prog X.w s.heap h' H X.stack e T T' C) (n1 : X.s_0.heap.get? e = none) (n2 : X.s_0.heap.get? T = none)
    (hp : ∀ p ∈ X.pn ++ pins, p.1 ≠ e ∧ p.1 ≠ T) (hc : ∀ x c, X.env.cells.lookup x = some c → c ≠ e ∧ c ≠ T) (hfr : X.env.frame = some X.env.locals) : Inv X pins σ H { s with heap := h' } := by
  have hfs : ∀ b ∈ X.fs, b ∈ frs X.stack := fun b hb => by
    rw [hst]; unfold frs; rw [List.filterMap_cons, hfr]; exact List.mem_cons_of_mem _ hb
  have hL : X.env.locals ∈ frs X.stack := by rw [hst]; unfold frs; rw [List.filterMap_cons, hfr]; exact List.mem_cons_self
  have hb0 : Un X.fs [] X.H_0 H X.s_0.heap s.heap := by have := I.base; rw [hex] at this; exact this
  have un : Un X.fs X.ex X.H_0 H X.s_0.heap h' := by
    rw [hex]
    refine S.un hb0 n1 n2 (fun b hb => ?_) hfs
    rcases List.mem_cons.mp (I.stkSub b hb) with z | z
    · right; rw [z]; exact Heap.get?_none_of_le I.ok.above
    · exact .inl z
  have cellK : ∀ x c, X.env.cells.lookup x = some c → ∀ v, s.heap.IsCell c v → h'.IsCell c v := fun x c ec v ⟨o, ho, hd⟩ => by
    by_cases hb : c ∈ frs X.stack
    · obtain ⟨sl, q⟩ := S.slot c o hb ho
      exact ⟨_, q, hd⟩
    · exact ⟨o, S.keep c o (hc x c ec).1 (hc x c ec).2 hb ho, hd⟩
  refine ⟨I.ok, I.os, I.bare, un, ?_, fun x c ec => ?_, I.free, I.freeC, fun p hpp => ?_, S.hok, I.len⟩
  · obtain ⟨m, ⟨o, es, ep, ho, r⟩, hl⟩ := I.loc
    obtain ⟨sl, q⟩ := S.slot _ o hL ho
    refine ⟨m, ⟨_, es, ep, q, r⟩, fun i x v e1 e2 e3 => ?_⟩
    obtain ⟨u, r, l⟩ := hl i x v e1 e2 e3
    refine ⟨u, r, ?_⟩
    rcases l with l | ⟨k, c, e, z⟩
    · exact .inl l
    · exact .inr ⟨k, c, e, cellK x c e _ z⟩
  · obtain ⟨v, z⟩ := I.cell x c ec
    exact ⟨v, cellK x c ec v z⟩
  · obtain ⟨e0, n, ne, nf, d⟩ := I.pin p hpp
    exact ⟨S.keep p.1 p.2 (hp p hpp).1 (hp p hpp).2 (fun z => (List.mem_cons.mp (I.stkSub _ z)).elim ne nf) e0, n, ne, nf, d⟩
/-- the caught exception is tracked -/
theorem Inv.caught (I : Inv X pins σ H s) (hex : X.ex = []) (hf : Fly s.heap H e T C) (n1 : X.s_0.heap.get? e = none) (hp : ∀ p ∈ X.pn ++ pins, p.1 ≠ e) (hc : ∀ x c, X.env.cells.lookup x = some c → c ≠ e) :
    Inv X pins σ (upd H e (.ext (ExcO e C))) s := by
  obtain ⟨oe, vs, a0, oT, ts, h1, h2, h3, h4, _⟩ := hf.tr
  have nL : X.env.locals ≠ e := fun z => by
    obtain ⟨m, ⟨o, es, ep, ho, hd, _⟩, _⟩ := I.loc
    rw [z, h1] at ho; cases ho; rw [hd] at h4; cases h4
  have ne : ∀ {b : Addr} {u : HO}, H b = some u → b ≠ e := fun q => ne_of_none q hf.ne
  refine ⟨I.ok, I.os, I.bare, ⟨I.base.keep, I.base.slot, fun b o q n hx => ?_, I.base.there, fun b xs q => ?_, fun b o u q => ?_, fun b ps q => ?_⟩, I.loc, I.cell, ?_, fun x c ec => ?_, fun p hpp => ?_, fun b u q => ?_, I.len⟩
  · rw [upd_ne (fun z => by rw [z, n1] at q; cases q)]; exact I.base.free b o q n hx
  · have := I.base.tups b xs q; rw [upd_ne (ne this)]; exact this
  · have := I.base.frzs b o u q; rw [upd_ne (ne this)]; exact this
  · obtain ⟨more, h⟩ := I.base.tbls b ps q; exact ⟨more, by rw [upd_ne (ne h)]; exact h⟩
  · rw [upd_ne nL]; exact I.free
  · rw [upd_ne (hc x c ec)]; exact I.freeC x c ec
  · obtain ⟨e0, n, ne', nf, d⟩ := I.pin p hpp
    exact ⟨e0, by rw [upd_ne (hp p hpp)]; exact n, ne', nf, d⟩
  · by_cases hb : b = e
    · subst hb
      rw [upd_same] at q; cases q
      exact ⟨⟨oe, h1, h2⟩, ⟨oe, h1⟩, fun g1 g2 ⟨o, q1, q2⟩ k => ⟨o, k o q1, q2⟩⟩
    · rw [upd_ne hb] at q
      exact (I.hok b u q).stay (fun _ _ _ r => r) (fun c r => by rw [upd_ne (ne r)]; exact r) fun c xs r => by rw [upd_ne (ne r)]; exact r
/-- the name of the exception goes -/
theorem goes_ok {M : Model} {A : Around} {E : Value → Shared → Prop} {i : Nat} {n : Str} {pos : Pos} {Q : Unit → Shared → Prop} (I : Inv X pins σ H s) (hN : X.N.Nodup) (hi : X.N[i]? = some n) (hn : X.env.kindOf n = some .local)
    (h : ∀ s', Inv X pins (σ.set i none) H s' → Q () s') : wpAny M A (do bindName X.env n .none; unbindBehindTheSuite X.env n pos) Q E s := by
  obtain ⟨m, hns, hl⟩ := id I.loc
  have hcls : (X.env.scope.kind == .class || (X.env.scope.kind == .module && X.env.locals != X.env.globals)) = false := by rw [I.ok.kind]; rfl
  obtain ⟨oL, _, _, hoL, _⟩ := id hns
  have cne := I.cne
  refine wpAny_nameGoes_keeps hn hns hcls fun h' v hn' hs => ?_
  have nb : ∀ b o, X.s_0.heap.get? b = some o → b ≠ X.env.locals := fun b o e => Nat.ne_of_lt (Nat.lt_of_lt_of_le (Heap.lt_size e) I.ok.above)
  refine h _ ⟨I.ok, I.os, I.bare, ⟨fun b o e n hb hx => ?_, fun b o e n hb hx => ?_, I.base.free, fun b o e hx => ?_, I.base.tups, I.base.frzs, I.base.tbls⟩, ⟨_, hn', fun j y v' e1 e2 e3 => ?_⟩, fun y c e => ?_, I.free, I.freeC, fun p hp => ?_, fun b ob q => ?_, by simpa using I.len⟩
  · exact (hs.2 b (nb b o e)).trans (I.base.keep b o e n hb hx)
  · obtain ⟨sl, e1⟩ := I.base.slot b o e n hb hx
    exact ⟨sl, (hs.2 b (nb b o e)).trans e1⟩
  · obtain ⟨o', e1⟩ := I.base.there b o e hx
    exact ⟨o', (hs.2 b (nb b o e)).trans e1⟩
  · by_cases hj : j = i
    · subst hj
      rw [List.getElem?_set] at e2
      split at e2
      · split at e2 <;> cases e2
      · rename_i z; exact absurd rfl z
    · rw [List.getElem?_set_ne (Ne.symm hj)] at e2
      obtain ⟨u', r', q⟩ := hl j y v' e1 e2 e3
      refine ⟨u', r', ?_⟩
      rcases q with ⟨k, e⟩ | ⟨k, c, e, z⟩
      · refine .inl ⟨k, ?_⟩
        have : y ≠ n := fun e => hj (nodup_ix hN e1 (e ▸ hi))
        simp [this, e]
      · exact .inr ⟨k, c, e, z.sameBut hs (cne y c e)⟩
  · obtain ⟨w', z⟩ := I.cell y c e
    exact ⟨w', z.sameBut hs (cne y c e)⟩
  · obtain ⟨e, n, ne, nf, d⟩ := I.pin p hp
    exact ⟨(hs.2 p.1 ne).trans e, n, ne, nf, d⟩
  · refine (I.hok b ob q).stay (fun c w' hc r => (hs.2 c ?_).trans r) (fun _ z => z) fun _ _ z => z
    rintro rfl
    rcases hc with rfl | hc
    · rw [I.free] at q; cases q
    · rw [I.free] at hc; cases hc
end
section
variable {M : Model} {A : Around} {E : Value → Shared → Prop} {h : Heap} {g : Array GenState} {d : Drawn} {t : Nat} {os : OsState} {K : PySem.W.Frag}
theorem matches_own {e C D : Addr} {Q : Bool → Shared → Prop} (X : K.In h) (hx : PySem.W.excIn K D bmVE "ValueError.__new__" = true) (he : ExcO e C h) (hm : PySem.W.mroIn K C (.ref D) = some true) (hq : Q true ⟨h, g, d, t, os⟩) :
    wpAny M A (excMatches (.ref e) (.ref D)) Q E ⟨h, g, d, t, os⟩ := by
  obtain ⟨oe, he, hcls⟩ := he
  obtain ⟨bm, NN, nm, q, bs, hdct, sn, sub, ab, col, dd, k0, k1, k2, k3, k5, mN, hD, hN, hni, TL⟩ := exc_obj X hx
  have hbase : bm.contains (.type "BaseException") = true := TL.hasType (by decide +kernel)
  have hcB : (Value.ref D :: bm).contains (.type "BaseException") = true := by rw [List.contains_cons, hbase, Bool.or_true]
  have LS := PySem.W.looks_mroIn (M := M) X hm
  have f := tc_notTuple
  unfold excMatches
  repeat (first | (with_reducible refine wpAny_loadPart_at he ?_; rw [hcls]) | with_reducible refine wpAny_loadPart_at hD ?_ | with_reducible refine LS.at ?_ | (with_reducible refine wpAny_isSubtype_exc hD ?_; rw [hcB]) | wp_step)
  exact hq
end
section
variable {X : Cx} {pn : List (Addr × Obj)} {W : St → Value → Hp → Prop} {k : Nat} {f : Addr} {fd : FuncData} {ps : List Str} {sp : Sp} {x : Str} {p pos : Pos} {e : Expr} {es : List Expr} {t : TA}
/-- a call in a try's body -/
def tCallT (sp : Sp) (W : St → Value → Hp → Prop) (t : TA) : TE := fun σ H Q => t σ H fun vs H1 => sp vs H1 Q fun c _ H' => W σ c H'
theorem pcallT (hex : X.ex = []) (B : FB X.K X.mg x ps f fd) (F : FnOk X.prog X.w X.K X.mg X.base (CX1 X.prog X.w) k f fd ps sp) (hr : Room k X.A) (ha : PA (X.tr pn W) (e :: es) t) (hg : Gl X x := by rfl)
    (hdb : (x == ("__debug__" : Str)) = false := by decide) (he : starEach (e :: es) X.env = (false, eval e X.env) :: starEach es X.env := by rfl) (hpl : (backTo pos (starEach es X.env)).any (·.1) = false := by rfl) :
    PE (X.tr pn W) (.Call (.Name x p) (e :: es) [] pos) (tCallT sp W t) := by
  intro pins s σ H Q I h
  refine wpAny_Call_Name_kw (ld_glob I hg B.mg ?_ hdb)
  refine PySem.W.callWith_K (h₀ := X.base) I.ok.mod.kin B.kp (thn (ha pos pins s σ H _ I h) fun us s1 ⟨vs, H1, I1, r, q⟩ => ⟨I1.kIn, ?_⟩) he hpl
  have hl : (us ++ []).length = ps.length := by rw [List.append_nil, ← r.length]; exact F.len _ _ _ _ q
  have bb := B.b s1 us I1.kIn hl
  rw [List.append_nil] at bb
  refine wpAny_call (codeAny_mono (F.run X.A X.stack s1 H1 ⟨us, []⟩ us vs Q _ hr I1.env0 bb r q) fun r s' hq => ?_)
  cases r with
  | ok fl =>
    cases fl with
    | ret u => exact I1.after hq
    | next => exact False.elim hq
    | brk => exact False.elim hq
    | cont => exact False.elim hq
  | error ev =>
    obtain ⟨ea, T, C, H', rfl, os, bare, un, hok, fly, ne, nT, hE⟩ := hq
    have I2 := I1.call' (ch := []) os un hok bare (fun b z => absurd z (by simp))
    have neq : ∀ {b : Addr} {o : Obj}, s1.heap.get? b = some o → b ≠ ea ∧ b ≠ T := fun q => ⟨fun z => (by rw [z, ne] at q; cases q), fun z => (by rw [z, nT] at q; cases q)⟩
    refine ⟨ea, T, C, σ, H', rfl, ⟨⟨I.ok.mod, I.ok.kind, I.ok.glob, I.ok.blt, I.ok.above, I.ok.inj, I.ok.has, I.ok.cab, I.ok.hd, I.ok.frames, I.ok.stk, I.ok.exf, I.ok.bs, I.ok.bsz, I.ok.noex, I.ok.exfs, I.ok.funs, I.ok.frf⟩, I2.os, I2.bare, I2.base, I2.loc, I2.cell, I2.free, I2.freeC, fun p hp => I2.pin p (List.mem_append_left _ (by simpa using hp)), I2.hok, I2.len⟩, fly, I1.new0 hex ne, I1.new0 hex nT, fun p hp => ?_, fun y c ec => ?_, hE⟩
    · exact neq (I1.pin p (List.mem_append_left _ hp)).1
    · obtain ⟨v, o, ho, _⟩ := I1.cell y c ec
      exact neq ho
/-- try: body, except X as n: suite -/
def tTryAs (K : PySem.W.Frag) (D : Addr) (i : Nat) (tb : (St → Value → Hp → Prop) → TS) (th : TS) : TS := fun Ds σ H => ∃ W : St → Value → Hp → Prop, tb W Ds σ H ∧ ∀ σ' C ea H', W σ' (.ref C) H' → H' ea = none →
  PySem.W.mroIn K C (.ref D) = some true ∧ th { nx := fun σ2 H2 => Ds.nx (σ2.set i none) H2, rt := Ds.rt, bk := fun σ2 H2 => Ds.bk (σ2.set i none) H2, ct := fun σ2 H2 => Ds.ct (σ2.set i none) H2 } (σ'.set i (some (.ref ea))) (upd H' ea (.ext (ExcO ea C)))
theorem ps_tryAs {body suite : List Stmt} {b0 : Stmt} {n : Str} {i : Nat} {D : Addr} {np hpos : Pos} {tb : (St → Value → Hp → Prop) → TS} {th : TS} (hex : X.ex = []) (hst : X.stack = X.env :: X.outer) (hfr : X.env.frame = some X.env.locals)
    (O : ExcCl X.K X.mg x D) (hN : X.N.Nodup) (hb : ∀ pn W, PSs (X.tr pn W) body (tb W)) (hs : ∀ ea pn, PSs (X.sut ea pn) (b0 :: suite) th) (hi : X.N[i]? = some n := by rfl) (hn : X.env.kindOf n = some .local := by rfl) (hg : Gl X x := by rfl) (hd : (x == ("__debug__" : Str)) = false := by decide) :
    PS X (.Try body [.ExceptHandler (some (.Name x np)) (some n) (b0 :: suite) hpos] [] [] pos) (tTryAs X.K D i tb th) := by
  intro pins s σ H Ds I h
  obtain ⟨W, hb', hh⟩ := h
  refine wpAny_Try_except (wpAny_mono (hb (X.pn ++ pins) W [] s σ H Ds (I.tr W) hb') (fun f s1 q => ?_) fun ev s1 q => ?_)
  · have q' := q.untr I.ok
    cases f with
    | next => exact wpAny_execs_nil q'
    | ret v => exact q'
    | brk => exact q'
    | cont => exact q'
  · obtain ⟨ea, T, C, σ1, H1, rfl, I1, fly, n1, n2, hp, hc, hw⟩ := q
    have hl : s1.heap.FunFrames X.base X.stack := I1.stack
    obtain ⟨a0, Wf⟩ := fly.flying hl
    have hf2 : X.A.frames = some (X.env :: X.outer) := by rw [← hst]; exact I.ok.frames
    have stk : ∀ {Y : Heap} {l : List Env}, l = X.stack → Heap.FlyingW Y l ea (.ref C) a0 s1.heap → Heap.FlyingW Y (X.env :: X.outer) ea (.ref C) a0 s1.heap := fun z q => by rw [← hst, ← z]; exact q
    refine wpAny_looks_onW hf2 hfr (stk rfl Wf) fun h2 held up2 => ?_
    refine wpAny_landsW held fun h3 W3 up3 => ?_
    obtain ⟨T3, S3⟩ := stat_of hl I1.hok fly.ne fly.nT I1.stkFree W3 (up2.trans up3)
    have hp' : ∀ p ∈ ({ X with pn := X.pn ++ pins } : Cx).pn ++ [], p.1 ≠ ea ∧ p.1 ≠ T := fun p q => hp p (by simpa using q)
    have I3 := I1.flown hex hst S3 n1 n2 hp' hc hfr
    have n3 : X.s_0.heap.get? T3 = none := by
      rcases S3.new with z | z
      · rw [z]; exact n2
      · exact I1.new0 hex z
    have hp3 : ∀ p ∈ ({ X with pn := X.pn ++ pins } : Cx).pn ++ [], p.1 ≠ ea ∧ p.1 ≠ T3 := fun p q => by
      refine ⟨(hp' p q).1, fun z => ?_⟩
      rcases S3.new with y | y
      · exact (hp' p q).2 (z.trans y)
      · have := (I1.pin p q).1
        rw [z, y] at this; cases this
    have hc3 : ∀ x c, X.env.cells.lookup x = some c → c ≠ ea ∧ c ≠ T3 := fun x c q => by
      refine ⟨(hc x c q).1, fun z => ?_⟩
      rcases S3.new with y | y
      · exact (hc x c q).2 (z.trans y)
      · obtain ⟨v, o, ho, _⟩ := I1.cell x c q
        rw [z, y] at ho; cases ho
    obtain ⟨hm, ht⟩ := hh σ1 C ea H1 hw fly.ne
    have O3 : ExcO ea C h3 := by
      obtain ⟨oe, _, _, _, _, q1, q2, _⟩ := S3.fly.tr
      exact ⟨oe, q1, q2⟩
    have J3 := I3.toSut I.ok ea
    refine wpAny_handleBy_cons (codeAny_handlers_test (ld_glob J3 hg O.mg ?_ hd)) (by intro q; cases q)
    refine matches_own I3.kIn O.ex O3 hm ?_
    refine codeAny_handlers_suite_as ?_
    have hl3 : h3.FunFrames X.base X.stack := I3.stack
    obtain ⟨a3, Wf3⟩ := S3.fly.flying hl3
    refine lands_againW Wf3 fun h4 W4 up4 => ?_
    obtain ⟨T4, S4⟩ := stat_of hl3 I3.hok S3.fly.ne S3.fly.nT I3.stkFree W4 up4
    have I4 := I3.flown hex hst S4 n1 n3 hp3 hc3 hfr
    have I5 := I4.caught hex S4.fly n1 (fun p q => (hp' p q).1) (fun x c q => (hc x c q).1)
    have J5 := I5.toSut I.ok ea
    refine store_ok (X := X.sut ea (X.pn ++ pins)) (v := .ref ea) J5 hN hi (.inl hn) rfl (fun s7 I7 => ?_) (.inr hn)
    refine wpAny_mono (hs ea (X.pn ++ pins) [] s7 _ _ _ I7 ht) (fun fl s8 q => ?_) fun _ _ z => z.elim
    show wpAny (model X.prog X.w) X.A (do bindName X.env n .none; unbindBehindTheSuite X.env n hpos) (fun _ s9 => SP X pins Ds fl s9) X.xe s8
    cases fl with
    | next =>
      obtain ⟨σ8, H8, I8, q8⟩ := q
      exact goes_ok (I8.unsut I.ok) hN hi hn fun s9 I9 => ⟨_, _, I9, q8⟩
    | brk =>
      obtain ⟨σ8, H8, I8, q8⟩ := q
      exact goes_ok (I8.unsut I.ok) hN hi hn fun s9 I9 => ⟨_, _, I9, q8⟩
    | cont =>
      obtain ⟨σ8, H8, I8, q8⟩ := q
      exact goes_ok (I8.unsut I.ok) hN hi hn fun s9 I9 => ⟨_, _, I9, q8⟩
    | ret u =>
      obtain ⟨v, σ8, H8, I8, r, q8⟩ := q
      exact goes_ok (I8.unsut I.ok) hN hi hn fun s9 I9 => ⟨v, _, _, I9, r, q8⟩
end
end L2
namespace L2
open PySem PySem.Spec PyProof.Rows
/-! ### isinstance of a caught exception, against own classes -/
def TyX (K : PySem.W.Frag) (H : Hp) (x : V) (t : Value) : Prop := TyOf K H x t ∨ ∃ e C, x = .ref e ∧ t = .ref C ∧ H e = some (.ext (ExcO e C)) ∧ ExcK K C
def clV : V → Option Value
  | .ref D => some (.ref D)
  | .ty n => some (.type n)
  | _ => none
def rIsiX (K : PySem.W.Frag) : List V → Hp → VK → Prop := fun vs H Q => ∃ x c cv t b, vs = [x, c] ∧ clV c = some cv ∧ TyX K H x t ∧ PySem.W.kitOne K t cv = some b ∧ Q (.bl b) H
section
variable {X : Cx}
theorem cr_isiX : CallR X (.builtin "isinstance") (rIsiX X.K) := by
  intro pins s σ H vs us Q I r h
  obtain ⟨x, c, cv, t, b, rfl, hc, ty, e, q⟩ := h
  cases r with
  | cons r1 rr =>
    cases rr with
    | @cons _ u _ _ r2 rr =>
      cases rr
      have hu : u = cv := by
        cases c with
        | ref D => cases hc; exact r2
        | ty n => cases hc; exact r2
        | non => cases hc
        | bl b => cases hc
        | int i => cases hc
        | str x => cases hc
        | byt x => cases hc
        | flt x => cases hc
      subst hu
      rcases ty with ty | ⟨ea, C, rfl, rfl, he, k⟩
      · exact isinst_ok I r1 ty e fun tk => ⟨.bl b, H, I.tok tk, rfl, q⟩
      · cases r1
        obtain ⟨p, _, _⟩ := (show ObjOk X.prog X.w H s.heap ea (.ext (ExcO ea C)) from I.hok ea _ he)
        exact PySem.W.kia_one (kitx_exc k) I.kIn p e (fun z => nomatch z) fun tk => ⟨.bl b, H, I.tok tk, rfl, q⟩
theorem pisiX {e c : Expr} {te tc : TE} {p pos : Pos} (hm : X.mg "isinstance" = none) (he : PE X e te) (hc : PE X c tc) (hg : Gl X "isinstance" := by rfl) (hs : starEach [e, c] X.env = (false, eval e X.env) :: starEach [c] X.env := by rfl) (hs2 : starEach [c] X.env = (false, eval c X.env) :: starEach [] X.env := by rfl)
    (hpl : (backTo pos (starEach [c] X.env)).any (·.1) = false := by rfl) :
    PE X (.Call (.Name "isinstance" p) [e, c] [] pos) (tCB (rIsiX X.K) (tCons te (tCons tc tNil))) :=
  pe_callB cr_isiX hg hm (by decide +kernel) (pa_cons he (pa_cons hc pa_nil hs2) hs) (he := hs) (hpl := hpl)
end
/-! ### the program's own classes of errors -/
def excKb (K : PySem.W.Frag) (C : Addr) : Bool := (PySem.W.clsIn K C).isSome && PySem.W.findIn K (.ref C) "__getattribute__" == some (some (.builtin "BaseException.__getattribute__")) && PySem.W.findIn K (.ref C) "__getattr__" == some none &&
  PySem.W.findIn K (.ref C) "__class__" == some (some (.builtin "object.__class__")) && PySem.W.specialIn K (.builtin "object.__class__") "__get__" == some (some (.builtin "getset_descriptor.__get__")) && PySem.W.takesIn K (.builtin "object.__class__") == some true &&
  PySem.W.mroIn K C (.type "object") == some true && PySem.W.mroIn K C (.type "BaseException") == some true
theorem excK_of {K : PySem.W.Frag} {C : Addr} (h : excKb K C = true) : ExcK K C := by
  unfold excKb at h
  simp only [Bool.and_eq_true, beq_iff_eq] at h
  obtain ⟨⟨⟨⟨⟨⟨⟨h1, h2⟩, h3⟩, h4⟩, h5⟩, h6⟩, h7⟩, h8⟩ := h
  exact ⟨h1, h2, h3, h4, h5, h6, h7, h8⟩
def errOne (K : PySem.W.Frag) (cE : Addr) (c : Addr) : Bool := excKb K c && PySem.W.excIn K c bmVE "ValueError.__new__" && PySem.W.mroIn K c (.ref cE) == some true && PySem.W.kitOne K (.ref c) (.type "ValueError") == some true
def errPairs (K : PySem.W.Frag) : List (Nat × Addr) → List (Nat × Addr) → Bool
  | [], _ => true
  | (i, c) :: r, all => (all.all fun y => PySem.W.kitOne K (.ref c) (.ref y.2) == some (i == y.1)) && errPairs K r all
def numd : Nat → List Addr → List (Nat × Addr)
  | _, [] => []
  | i, c :: r => (i, c) :: numd (i + 1) r
def errsB (K : PySem.W.Frag) (cE : Addr) (cs : List Addr) : Bool := excKb K cE && PySem.W.excIn K cE bmVE "ValueError.__new__" && cs.all (errOne K cE) && errPairs K (numd 0 cs) (numd 0 cs)
theorem numd_mem : ∀ {cs : List Addr} {k i : Nat} {c : Addr}, cs[i]? = some c → (k + i, c) ∈ numd k cs
  | [], _, _, _, h => by simp at h
  | x :: r, k, 0, c, h => by simp at h; subst h; exact List.mem_cons_self
  | x :: r, k, i + 1, c, h => by
    have h2 : r[i]? = some c := by simpa using h
    have := numd_mem (k := k + 1) h2
    rw [show k + (i + 1) = k + 1 + i by omega]
    exact List.mem_cons_of_mem _ this
theorem errPairs_of {K : PySem.W.Frag} : ∀ {l all : List (Nat × Addr)}, errPairs K l all = true → ∀ y ∈ l, ∀ z ∈ all, PySem.W.kitOne K (.ref y.2) (.ref z.2) = some (y.1 == z.1)
  | [], _, _, y, hy => by simp at hy
  | (i, c) :: r, all, h, y, hy => by
    unfold errPairs at h
    rw [Bool.and_eq_true] at h
    intro z hz
    rcases List.mem_cons.mp hy with rfl | hy
    · exact beq_iff_eq.mp (List.all_eq_true.mp h.1 z hz)
    · exact errPairs_of h.2 y hy z hz
/-- the names of the errors and their classes: CutError, then the six in the document's order -/
structure Errs (K : PySem.W.Frag) (mg : Str → Option Value) (cE c0 c1 c2 c3 c4 c5 : Addr) : Prop where
  ok : errsB K cE [c0, c1, c2, c3, c4, c5] = true
  mE : mg "CutError" = some (.ref cE)
  m0 : mg "NoPlace" = some (.ref c0)
  m1 : mg "NoCut" = some (.ref c1)
  m2 : mg "NoText" = some (.ref c2)
  m3 : mg "NoWord" = some (.ref c3)
  m4 : mg "NoWriting" = some (.ref c4)
  m5 : mg "NoRow" = some (.ref c5)
  vE : mg "ValueError" = none
theorem bt_VE : bootBuiltins "ValueError" = some (.type "ValueError") := by decide +kernel
section
variable {K : PySem.W.Frag} {mg : Str → Option Value} {cE c0 c1 c2 c3 c4 c5 : Addr}
theorem Errs.split (R : Errs K mg cE c0 c1 c2 c3 c4 c5) : (excKb K cE = true ∧ PySem.W.excIn K cE bmVE "ValueError.__new__" = true) ∧ (∀ c ∈ [c0, c1, c2, c3, c4, c5], errOne K cE c = true) ∧ errPairs K (numd 0 [c0, c1, c2, c3, c4, c5]) (numd 0 [c0, c1, c2, c3, c4, c5]) = true := by
  have h := R.ok
  unfold errsB at h
  simp only [Bool.and_eq_true] at h
  exact ⟨⟨h.1.1.1, h.1.1.2⟩, List.all_eq_true.mp h.1.2, h.2⟩
theorem Errs.xE (R : Errs K mg cE c0 c1 c2 c3 c4 c5) : ExcCl K mg "CutError" cE := ⟨R.mE, R.split.1.2, excK_of R.split.1.1⟩
theorem Errs.one (R : Errs K mg cE c0 c1 c2 c3 c4 c5) {c : Addr} (hc : c ∈ [c0, c1, c2, c3, c4, c5]) : ExcK K c ∧ PySem.W.excIn K c bmVE "ValueError.__new__" = true ∧ PySem.W.mroIn K c (.ref cE) = some true ∧ PySem.W.kitOne K (.ref c) (.type "ValueError") = some true := by
  have h := R.split.2.1 c hc
  unfold errOne at h
  simp only [Bool.and_eq_true, beq_iff_eq] at h
  exact ⟨excK_of h.1.1.1, h.1.1.2, h.1.2, h.2⟩
theorem Errs.x0 (R : Errs K mg cE c0 c1 c2 c3 c4 c5) : ExcCl K mg "NoPlace" c0 := ⟨R.m0, (R.one (by simp)).2.1, (R.one (by simp)).1⟩
theorem Errs.x1 (R : Errs K mg cE c0 c1 c2 c3 c4 c5) : ExcCl K mg "NoCut" c1 := ⟨R.m1, (R.one (by simp)).2.1, (R.one (by simp)).1⟩
theorem Errs.x2 (R : Errs K mg cE c0 c1 c2 c3 c4 c5) : ExcCl K mg "NoText" c2 := ⟨R.m2, (R.one (by simp)).2.1, (R.one (by simp)).1⟩
theorem Errs.x3 (R : Errs K mg cE c0 c1 c2 c3 c4 c5) : ExcCl K mg "NoWord" c3 := ⟨R.m3, (R.one (by simp)).2.1, (R.one (by simp)).1⟩
theorem Errs.x4 (R : Errs K mg cE c0 c1 c2 c3 c4 c5) : ExcCl K mg "NoWriting" c4 := ⟨R.m4, (R.one (by simp)).2.1, (R.one (by simp)).1⟩
theorem Errs.x5 (R : Errs K mg cE c0 c1 c2 c3 c4 c5) : ExcCl K mg "NoRow" c5 := ⟨R.m5, (R.one (by simp)).2.1, (R.one (by simp)).1⟩
end
end L2
namespace BK
open PySem PySem.Spec PyProof.Rows L2
/-! ### what is no text of small letters -/
inductive NT (H : Hp) : V → Prop
  | non : NT H .non
  | bl (b : Bool) : NT H (.bl b)
  | int (i : Int) : NT H (.int i)
  | lst {a : Addr} {xs : List V} (e : H a = some (.lst xs)) : NT H (.ref a)
  | tup {a : Addr} {xs : List V} (e : H a = some (.tup xs)) : NT H (.ref a)
  | dK {a : Addr} {kvs : List (Key × V)} (e : H a = some (.dK kvs)) : NT H (.ref a)
  | str {z : Str} (h : ¬ Small z) : NT H (.str z)
theorem NT.same {H H' : Hp} {v : V} (n : NT H v) (s : Same H H') : NT H' v := by
  cases n with
  | non => exact .non
  | bl b => exact .bl b
  | int i => exact .int i
  | lst e => exact .lst (s _ _ e)
  | tup e => exact .tup (s _ _ e)
  | dK e => exact .dK (s _ _ e)
  | str h => exact .str h
theorem NT.off {S : List Addr} {H H' : Hp} {v : V} (n : NT H v) (hs : ∀ a ∈ S, ∃ ps, H a = some (.tbl ps)) (s : Off S H H') : NT H' v := by
  have key : ∀ {a : Addr} {o : HO}, H a = some o → (∀ ps, o ≠ .tbl ps) → H' a = some o := fun {a o} e d => s _ _ (fun z => by obtain ⟨ps, q⟩ := hs _ z; rw [e] at q; exact d ps (Option.some.inj q)) e
  cases n with
  | non => exact .non
  | bl b => exact .bl b
  | int i => exact .int i
  | lst e => exact .lst (key e fun _ z => by cases z)
  | tup e => exact .tup (key e fun _ z => by cases z)
  | dK e => exact .dK (key e fun _ z => by cases z)
  | str h => exact .str h
theorem Tab.mem {B : Addr} {H : Hp} (t : Tab B H) : ∀ a ∈ [B], ∃ ps, H a = some (.tbl ps) := fun a ha => by
  obtain ⟨ps, e, _⟩ := t
  rw [List.mem_singleton.mp ha]; exact ⟨ps, e⟩
/-- the way into an error that is told by its class alone -/
def spX (B C : Addr) (n i : Nat) : Sp := fun vs H _ E => vs.length = n ∧ ∃ v, vs[i]? = some v ∧ NT H v ∧ Tab B H ∧ ∀ H', Off [B] H H' → Tab B H' → E (.ref C) none H'
end BK
namespace L2
open PySem PySem.Spec PyProof.Rows
section
variable {X : Cx}
/-! list(text) -/
def signsL (z : Str) : List V := z.cps.toList.map fun c => V.str ⟨#[c]⟩
/-! list(xs) in a comprehension's block: the fragment is said by its name -/
def rListOf (K : PySem.W.Frag) : List V → Hp → VK → Prop := fun xs H Q => ∃ p ys, xs = [.ref p] ∧ (SqL K H p ys ∨ SqT K H p ys) ∧ ∀ l, H l = none → Q (.ref l) (upd H l (.lst ys))
end
end L2
namespace L2
open PySem PySem.Spec PyProof.Rows
/-! x in xs, items of any kind, by their data -/
def rInD (K : PySem.W.Frag) (neg : Bool) : R2 := fun x y H Q => ∃ p xs ds d, y = .ref p ∧ SqL K H p xs ∧ DpAll K H xs ds ∧ Dp K H x d ∧ (∀ e ∈ ds, SeqAt.shaped e = true) ∧ SeqAt.shaped d = true ∧
  Q (.bl (if neg then !(ds.any fun e => PyData.eqv e d) else ds.any fun e => PyData.eqv e d)) H
open Classical in
noncomputable def eqR (h : Heap) (d : PyData) (u : Value) : Bool := decide (∃ e as, Reads h u e as ∧ SeqAt.shaped e = true ∧ PyData.eqv e d = true)
section
variable {X : Cx}
end
end L2
namespace L2
open PySem PySem.Spec PyProof.Rows
/-! ### what evaluates without a trace: only new things, no generator -/
theorem kp_get {s s1 : Shared} (a : Keeps s s1) {b : Addr} {o : Obj} (e : s.heap.get? b = some o) : s1.heap.get? b = some o := by
  obtain ⟨h1, t1, rfl, k1⟩ := a
  exact k1 b o e
/-- where such an evaluation stands -/
structure QEnv (K : PySem.W.Frag) (mg : Str → Option Value) (env : Env) (m : Str → Option Value) (s : Shared) : Prop where
  kin : K.In s.heap
  glob : s.heap.Ns mainGlobals mg
  blt : ∃ mb, s.heap.Ns builtinsNs mb ∧ ∀ x : Str, x ≠ "__name__" → mb x = bootBuiltins x
  lim : s.heap.NoLimit
  loc : s.heap.Ns env.locals m
  kind : env.scope.kind = .function
  eg : env.globals = mainGlobals
  eb : env.builtins = builtinsNs
theorem QEnv.keeps {K : PySem.W.Frag} {mg m : Str → Option Value} {env : Env} {s s1 : Shared} (q : QEnv K mg env m s) (k : Keeps s s1) : QEnv K mg env m s1 :=
  have g : ∀ b o, s.heap.get? b = some o → s1.heap.get? b = some o := fun b o e => kp_get k e
  ⟨q.kin.keeps g, q.glob.keeps g, let ⟨mb, h1, h2⟩ := q.blt; ⟨mb, h1.keeps g, h2⟩, q.lim.keeps g, q.loc.keeps g, q.kind, q.eg, q.eb⟩
/-- flat values and their types -/
inductive FV : Value → String → Prop where
  | int (i : Int) (t : Tok) : FV (.int i t) "int"
  | non : FV .none "NoneType"
  | bool (b : Bool) : FV (.bool b) "bool"
  | str (x : Str) (t : Tok) : FV (.str x t) "str"
section
variable {P : Program} {w : World} {K : PySem.W.Frag} {mg m : Str → Option Value} {env : Env} {A : Around} {E : Value → Shared → Prop} {s : Shared}
end
/-- all(.. for x in xs), xs a list, the test of each leaves no trace -/
def tAllL (K : PySem.W.Frag) (i : Nat) (P : Addr) (f : V → Bool) (ok : V → Prop) : TE := fun σ H Q => ∃ a ys, σ[i]? = some (some (.ref a)) ∧ SqL K H a ys ∧ (∀ y ∈ ys, ok y) ∧ ∃ ps, H P = some (.tbl ps) ∧ TriplesOk ps.toList ∧ ∀ ps', TriplesOk ps'.toList → Q (.bl (ys.all f)) (upd H P (.tbl ps'))
section
variable {X : Cx}
end
end L2
namespace L2
open PySem PySem.Spec PyProof.Rows
/-! ### all(.. for x in xs) with one free name -/
def tAllF (K : PySem.W.Frag) (i iy : Nat) (P : Addr) (f : V → V → Bool) (ok : V → V → Prop) : TE := fun σ H Q => ∃ a ys vy, σ[i]? = some (some (.ref a)) ∧ σ[iy]? = some (some vy) ∧ SqL K H a ys ∧ (∀ y ∈ ys, ok vy y) ∧ ∃ ps, H P = some (.tbl ps) ∧ TriplesOk ps.toList ∧ ∀ ps', TriplesOk ps'.toList → Q (.bl (ys.all (f vy))) (upd H P (.tbl ps'))
section
variable {P : Program} {w : World} {K : PySem.W.Frag} {mg m : Str → Option Value} {env : Env} {A : Around} {E : Value → Shared → Prop} {s : Shared}
end
section
variable {X : Cx}
end
end L2
namespace L2
open PySem PySem.Spec PyProof.Rows
/-! ### no step takes a generator away -/
theorem setGen_size (s : Shared) (g : Nat) (x : GenState) : (s.setGen g x).gens.size = s.gens.size := by
  unfold Shared.setGen
  simp
theorem runs_gens {M : Model} {Γ : PySem.Ctx} {p : Pos} {t : Sem Fin} {fs : List Frame} {s : Shared} {e : End} {s' : Shared} (h : Runs M Γ p t fs s e s') : s.gens.size ≤ s'.gens.size := by
  induction h with
  | done => exact Nat.le_refl _
  | raise => exact Nat.le_refl _
  | yield => exact Nat.le_refl _
  | again _ _ ih => exact ih
  | rule _ ih => exact ih
  | «at» _ ih => exact ih
  | load _ _ ih => exact ih
  | update _ _ ih => exact ih
  | loadIfAlive _ ih => exact ih
  | point _ ih => exact ih
  | alloc _ ih => exact ih
  | fresh _ ih => exact ih
  | ask _ ih => exact ih
  | choose _ _ ih => exact ih
  | os _ ih => exact ih
  | handled _ ih => exact ih
  | genState _ _ ih => exact ih
  | stack _ ih => exact ih
  | thread _ ih => exact ih
  | newGen _ ih =>
    rw [Array.size_push] at ih
    omega
  | call _ _ ih1 ih2 => exact Nat.le_trans ih1 ih2
  | callSusp _ ih => exact ih
  | resumeFresh _ _ _ _ ih1 ih2 =>
    rw [setGen_size] at ih1 ih2
    exact Nat.le_trans ih1 ih2
  | resumeSuspended _ _ _ _ ih1 ih2 =>
    rw [setGen_size] at ih1 ih2
    exact Nat.le_trans ih1 ih2
  | resumeJustStarted _ _ _ ih => exact ih
  | resumeThrowFresh _ _ ih =>
    rw [setGen_size] at ih
    exact ih
  | resumeRunning _ _ ih => exact ih
  | resumeFinished _ _ ih => exact ih
  | segRet _ _ ih1 ih2 => exact Nat.le_trans ih1 ih2
  | segGen _ _ ih1 ih2 =>
    rw [setGen_size] at ih2
    exact Nat.le_trans ih1 ih2
  | segSuspOut _ _ ih => exact ih
  | segSuspGen _ _ _ _ ih1 ih2 =>
    rw [setGen_size] at ih2
    exact Nat.le_trans ih1 ih2
theorem wakes_gens {M : Model} {Γ : PySem.Ctx} {p : Pos} {g : Nat} {r : Resume} {s : Shared} {res : GenResult} {s' : Shared} (h : Wakes M Γ p g r s res s') : s.gens.size ≤ s'.gens.size := by
  unfold Wakes at h
  split at h
  · exact h.elim
  · split at h
    · obtain ⟨e1, s1, hr, _, _, rfl⟩ := h
      have := runs_gens hr
      rw [setGen_size] at this ⊢
      exact this
    · obtain ⟨_, rfl⟩ := h; exact Nat.le_refl _
    · obtain ⟨_, rfl⟩ := h; rw [setGen_size]; exact Nat.le_refl _
  · obtain ⟨e1, s1, hr, _, _, rfl⟩ := h
    have := runs_gens hr
    rw [setGen_size] at this ⊢
    exact this
  · obtain ⟨_, rfl⟩ := h; exact Nat.le_refl _
  · obtain ⟨_, rfl⟩ := h; exact Nat.le_refl _
theorem wp_gens {α : Type} {M : Model} {Γ : PySem.Ctx} {n : Nat} (m : Sem α) : ∀ {Q : α → Pos → Shared → Prop} {E : Value → Pos → Shared → Prop} {p : Pos} {s : Shared}, n ≤ s.gens.size → Sem.wp M Γ m Q E p s →
    Sem.wp M Γ m (fun a p' s' => Q a p' s' ∧ n ≤ s'.gens.size) E p s := by
  induction m with
  | pure a => intro Q E p s hn h; exact ⟨h, hn⟩
  | raise x => intro Q E p s hn h; exact h
  | unsupported what => intro Q E p s hn h; exact h.elim
  | finish x => intro Q E p s hn h; exact h.elim
  | register a k => intro Q E p s hn h; exact h.elim
  | yield v g l k => intro Q E p s hn h; exact h.elim
  | fork c k => intro Q E p s hn h; exact h.elim
  | await a f d l k => intro Q E p s hn h; exact h.elim
  | rule tag k ih => intro Q E p s hn h; exact ih () hn h
  | «at» p' k ih => intro Q E p s hn h; exact ih () hn h
  | load a part k ih => intro Q E p s hn h; obtain ⟨o, ho, h⟩ := h; exact ⟨o, ho, ih o hn h⟩
  | update a part f k ih => intro Q E p s hn h; obtain ⟨ha, h⟩ := h; exact ⟨ha, ih () hn h⟩
  | alloc o k ih => intro Q E p s hn h; exact ih _ hn h
  | loadIfAlive a k ih => intro Q E p s hn h; exact ih _ hn h
  | point l k ih => intro Q E p s hn h; exact ih () hn h
  | fresh k ih => intro Q E p s hn h; exact ih _ hn h
  | ask k ih => intro Q E p s hn h; exact ih _ hn h
  | choose src n k ih => intro Q E p s hn h; obtain ⟨h0, h⟩ := h; exact ⟨h0, ih _ hn h⟩
  | os q l k ih => intro Q E p s hn h; exact ih _ hn h
  | call c h0 g l k ih =>
    intro Q E p s hn h
    obtain ⟨r, s1, hret, hw⟩ := h
    exact ⟨r, s1, hret, ih r (Nat.le_trans hn (runs_gens hret)) hw⟩
  | handled own k ih => intro Q E p s hn h; exact ih _ hn h
  | newGen c k ih => intro Q E p s hn h; exact ih _ (by rw [Array.size_push]; omega) h
  | genState g k ih => intro Q E p s hn h; obtain ⟨st, hg, h⟩ := h; exact ⟨st, hg, ih _ hn h⟩
  | resume g r l k ih =>
    intro Q E p s hn h
    obtain ⟨res, s1, hwk, h⟩ := h
    exact ⟨res, s1, hwk, ih res (Nat.le_trans hn (wakes_gens hwk)) h⟩
  | stack k ih => intro Q E p s hn h; exact ih _ hn h
  | thread k ih => intro Q E p s hn h; exact ih _ hn h
theorem wpAny_gens {α : Type} {M : Model} {A : Around} {m : Sem α} {Q : α → Shared → Prop} {E : Value → Shared → Prop} {s : Shared} (h : wpAny M A m Q E s) : wpAny M A m (fun a s' => Q a s' ∧ s.gens.size ≤ s'.gens.size) E s :=
  fun Γ p hΓ => wp_gens m (Nat.le_refl _) (h Γ p hΓ)
end L2
namespace L2
open PySem PySem.Spec PyProof.Rows
/-! ### all(.. for x in xs), the test of each any expression -/
theorem AllBare.setGen {s : Shared} (x : AllBare s.gens) (g : Nat) {y : GenState} (hy : y.bare = true) : AllBare (s.setGen g y).gens := by
  intro z hz
  have hz : z ∈ s.gens.setIfInBounds g y := hz
  obtain ⟨i, hi, rfl⟩ := Array.mem_iff_getElem.mp hz
  have hi2 : i < s.gens.size := by simpa using hi
  rw [Array.getElem_setIfInBounds hi2]
  split
  · exact hy
  · exact x _ (Array.getElem_mem _)
/-- the context of a generator expression's turns -/
abbrev gcx (X : Cx) (N : List Str) (cenv : Env) (A : Around) (s4 : Shared) (H4 : Hp) (I : Addr) : Cx :=
  { prog := X.prog, w := X.w, K := X.K, mg := X.mg, base := X.base, A := A, N := N, s_0 := s4, H_0 := H4, env := cenv, outer := X.stack, stack := cenv :: X.stack, ex := [I], fn := fun _ => false, calm := true, pn := [], xe := fun _ _ => False }
theorem Inv.setGen {X : Cx} {pins : List (Addr × Obj)} {σ : St} {H : Hp} {s : Shared} (I : Inv X pins σ H s) (g : Nat) {y : GenState} (hy : y.bare = true) : Inv X pins σ H (s.setGen g y) :=
  ⟨I.ok, I.os, AllBare.setGen I.bare g hy, I.base, I.loc, I.cell, I.free, I.freeC, I.pin, I.hok, I.len⟩
theorem Inv.repin {X : Cx} {pins pins' : List (Addr × Obj)} {σ : St} {H : Hp} {s : Shared} (I : Inv X pins σ H s) (h : ∀ p ∈ X.pn ++ pins', s.heap.get? p.1 = some p.2 ∧ H p.1 = none ∧ p.1 ≠ X.env.locals ∧ p.1 ∉ X.fs ∧ ∀ v, p.2.data ≠ .cell v) : Inv X pins' σ H s :=
  ⟨I.ok, I.os, I.bare, I.base, I.loc, I.cell, I.free, I.freeC, h, I.hok, I.len⟩
structure GB where
  X : Cx
  la : Addr
  ys : List V
  fvs : List V
  I : Addr
  a : Addr
  g : Nat
  ao : Obj
  W : Nat → Hp → Prop
  Fa : Hp → Prop
/-- what holds between the turns -/
structure GB.Mid (B : GB) (σ : St) (H : Hp) (s : Shared) : Prop where
  inv : Inv B.X [] σ H s
  sg : ∃ u, σ = u :: B.fvs.map some
  In : H B.I = none
  an : H B.a = none
  ag : s.heap.get? B.a = some B.ao
  gl : B.g < s.gens.size
def GB.J (B : GB) (j : Nat) (s : Shared) : Prop := ∃ σ H, B.Mid σ H s ∧ s.heap.IsListIter B.I B.la j ∧ B.W j H
def GB.JT (B : GB) (s : Shared) : Prop := ∃ σ H, Inv B.X [] σ H s ∧ B.W B.ys.length H
def GB.JF (B : GB) (s : Shared) : Prop := ∃ σ H, Inv B.X [] σ H s ∧ B.Fa H
theorem GB.J.set {B : GB} {j : Nat} {s : Shared} (h : B.J j s) (g : Nat) {y : GenState} (hy : y.bare = true) : B.J j (s.setGen g y) := by
  obtain ⟨σ, H, M, it, w⟩ := h
  exact ⟨σ, H, ⟨M.inv.setGen g hy, M.sg, M.In, M.an, M.ag, by rw [setGen_size]; exact M.gl⟩, it, w⟩
theorem GB.JT.set {B : GB} {s : Shared} (h : B.JT s) (g : Nat) {y : GenState} (hy : y.bare = true) : B.JT (s.setGen g y) := by
  obtain ⟨σ, H, M, w⟩ := h
  exact ⟨σ, H, M.setGen g hy, w⟩
theorem GB.JF.set {B : GB} {s : Shared} (h : B.JF s) (g : Nat) {y : GenState} (hy : y.bare = true) : B.JF (s.setGen g y) := by
  obtain ⟨σ, H, M, w⟩ := h
  exact ⟨σ, H, M.setGen g hy, w⟩
def GB.Y (B : GB) : Protocol := fun m s₀ v s kap => ∃ j b, j < B.ys.length ∧ m = B.ys.length - j ∧ v = .bool b ∧ (b = true → B.J (j + 1) s) ∧ (b = false → B.JF s) ∧ ∀ s'', B.J (j + 1) s'' → kap (.send .none) s''
def GB.R (B : GB) : Nat → Shared → Shared → Prop := fun n _ s => n = 1 ∧ B.JT s
abbrev GB.RE (B : GB) : GenEnd := fun n s₀ r s₁ => r = .ok .next ∧ B.R n s₀ s₁
section
variable {B : GB} {A : Around} {elt iter : Expr} {x : Str} {px : Pos} {scope : Scope} {pos : Pos} {te : TE}
/-- what is fixed -/
structure GB.Ok (B : GB) (A : Around) (elt iter : Expr) (x : Str) (px : Pos) (scope : Scope) (pos : Pos) (te : TE) : Prop where
  ar : B.X.A = A.over (.compLoop (.GeneratorExp elt [⟨.Name x px, iter, [], 0⟩] scope pos) 0 (.ref B.I) .none B.X.env) []
  hd : A.handled = none
  nm : B.X.N[0]? = some x
  nd : B.X.N.Nodup
  lx : B.X.env.scope.names.lookup x = some .local
  co : B.X.env.scope.isCoroutine = false
  ex : B.X.ex = [B.I]
  pn : B.X.pn = []
  xe : B.X.xe = fun _ _ => False
  IL : B.I ≠ B.X.env.locals
  If : B.I ∉ B.X.fs
  Ic : ∀ y c, B.X.env.cells.lookup y = some c → c ≠ B.I
  aL : B.a ≠ B.X.env.locals
  af : B.a ∉ B.X.fs
  aI : B.a ≠ B.I
  ad : ∀ v, B.ao.data ≠ .cell v
  wl : ∀ j H, B.W j H → SqL B.X.K H B.la B.ys
  el : PE B.X elt te
  wt : ∀ j y H, B.W j H → B.ys[j]? = some y → te (some y :: B.fvs.map some) H fun v H2 => ∃ b, v = .bl b ∧ if b = true then B.W (j + 1) H2 else B.Fa H2
theorem GB.loop (O : B.Ok A elt iter x px scope pos te) : ∀ (k j : Nat) (s₀ s : Shared), B.ys.length - j = k → j ≤ B.ys.length → B.J j s →
    Seg (model B.X.prog B.X.w) A B.RE B.Y (k + 1) s₀ (.compLoop (.GeneratorExp elt [⟨.Name x px, iter, [], 0⟩] scope pos) 0 (.ref B.I) .none B.X.env)
      ((model B.X.prog B.X.w).den (.compLoop (.GeneratorExp elt [⟨.Name x px, iter, [], 0⟩] scope pos) 0 (.ref B.I) .none B.X.env)) [] s := by
  have hh' : (A.over (.compLoop (.GeneratorExp elt [⟨.Name x px, iter, [], 0⟩] scope pos) 0 (.ref B.I) .none B.X.env) []).handled = none := O.hd
  have turned : ∀ {σ : St} {H : Hp} {s : Shared} {h' : Heap} {tk : Nat}, B.Mid σ H s → (∀ b o, b ∉ [B.I] → s.heap.get? b = some o → h'.get? b = some o) → B.Mid σ H { s with heap := h', toks := tk } := fun {σ H s h' tk} M hk =>
    ⟨M.inv.turned (it := B.I) (fun b o hb e => hk b o (by simpa using hb) e) M.In O.IL (.inl (by rw [O.ex]; simp)) O.Ic (fun p hp => by rw [O.pn] at hp; cases hp), M.sg, M.In, M.an, hk _ _ (by simpa using O.aI) M.ag, M.gl⟩
  intro k
  induction k with
  | zero =>
    intro j s₀ s hk hj hJ
    obtain ⟨σ, H, M, it, w⟩ := hJ
    have hin : j = B.ys.length := by omega
    subst hin
    obtain ⟨its, rv, pl, hsz0⟩ := M.inv.list (O.wl _ _ w)
    have hll := rv.length
    have hne : B.la ≠ B.I := fun z => by
      obtain ⟨o1, e1, c1, d1⟩ := it
      obtain ⟨o2, e2, c2, _⟩ := pl.isList
      rw [z, e1] at e2; cases e2
      rw [c1] at c2; exact absurd c2 (by simp)
    show Seg _ A _ _ _ s₀ _ ((compTurn (.GeneratorExp elt [⟨.Name x px, iter, [], 0⟩] scope pos) 0 (.ref B.I) .none B.X.env).onRaise (leaving B.X.env)) [] s
    rw [compTurn_gen, Sem.onRaise_eq_wrap]
    refine seg_bind_wrap (wpAny_standAt ?_)
    have Wk := Walks.list (prog := B.X.prog) (w := B.X.w) hh' B.I B.la hne its.toArray
    refine seg_bind_wrap (Wk.done s _ _ (by rw [List.size_toArray, ← hll]; exact ⟨it, pl.isList⟩) fun h' tk hk' => ?_)
    exact seg_end (.ok .next) ⟨rfl, rfl, σ, H, (turned M hk').inv, w⟩
  | succ k ih =>
    intro j s₀ s hk hj hJ
    have hlt : j < B.ys.length := by omega
    obtain ⟨σ, H, M, it, w⟩ := hJ
    obtain ⟨its, rv, pl, hsz0⟩ := M.inv.list (O.wl _ _ w)
    have hll := rv.length
    have hne : B.la ≠ B.I := fun z => by
      obtain ⟨o1, e1, c1, d1⟩ := it
      obtain ⟨o2, e2, c2, _⟩ := pl.isList
      rw [z, e1] at e2; cases e2
      rw [c1] at c2; exact absurd c2 (by simp)
    show Seg _ A _ _ _ s₀ _ ((compTurn (.GeneratorExp elt [⟨.Name x px, iter, [], 0⟩] scope pos) 0 (.ref B.I) .none B.X.env).onRaise (leaving B.X.env)) [] s
    rw [compTurn_gen, Sem.onRaise_eq_wrap]
    refine seg_bind_wrap (wpAny_standAt ?_)
    have Wk := Walks.list (prog := B.X.prog) (w := B.X.w) hh' B.I B.la hne its.toArray
    refine seg_bind_wrap (Wk.item j s _ _ (by rw [List.size_toArray, ← hll]; exact hlt) ⟨it, pl.isList⟩ fun v h₁ tk₁ hPv hst₁ hk₁ => ?_)
    refine seg_bind_wrap (wpAny_of_eq (rfl : letOwnedTupleGo (.Name x px) (.ref B.I) v = pure ()) ?_)
    obtain ⟨y, hy⟩ : ∃ y, B.ys[j]? = some y := ⟨_, List.getElem?_eq_getElem hlt⟩
    obtain ⟨u, hu, ru⟩ := rv.get hy
    have hPv2 : its[j]? = some v := by simpa using hPv
    have euv : u = v := Option.some.inj (hu.symm.trans hPv2)
    subst euv
    have M1 := turned (tk := tk₁) M hk₁
    obtain ⟨io, hio, hioc, hiod⟩ := hst₁.1
    have pin : ∀ p ∈ B.X.pn ++ [(B.I, io), (B.a, B.ao)], ({ s with heap := h₁, toks := tk₁ } : Shared).heap.get? p.1 = some p.2 ∧ H p.1 = none ∧ p.1 ≠ B.X.env.locals ∧ p.1 ∉ B.X.fs ∧ ∀ v, p.2.data ≠ .cell v := by
      rw [O.pn]
      intro p hp
      rcases List.mem_cons.mp hp with rfl | hp
      · exact ⟨hio, M1.In, O.IL, O.If, fun v e => by rw [hiod] at e; cases e⟩
      · rw [List.mem_singleton.mp hp]
        exact ⟨M1.ag, M1.an, O.aL, O.af, O.ad⟩
    obtain ⟨u0, sge⟩ := M1.sg
    have asg := pg_name (X := B.X) (pos := px) (i := 0) O.nd O.nm (Or.inl O.lx) (Or.inr O.lx) _ _ σ H y u (fun σ' H' => σ' = some y :: B.fvs.map some ∧ H' = H) (M1.inv.repin pin) ru (by rw [sge]; exact ⟨rfl, rfl⟩)
    rw [O.ar, O.xe] at asg
    refine seg_bind_wrap (wpAny_mono (wpAny_gens asg) (fun _ s2 h2 => ?_) fun _ _ e => e.elim)
    obtain ⟨⟨σ2, H2, I2, e2, e3⟩, gl2⟩ := h2
    subst e2 e3
    refine seg_bind_wrap (wpAny_pure ?_)
    simp only [if_true]
    have hyv : ∀ v, yieldOut B.X.env v = yieldValue v := fun v => by simp only [yieldOut, O.co, Bool.false_eq_true, if_false]
    simp only [hyv]
    rw [Sem.bind_eq_wrap', Sem.bind_eq_wrap', Sem.wrap_wrap, Sem.wrap_wrap]
    have ev := O.el _ _ _ _ _ I2 (O.wt j y _ w hy)
    rw [O.ar, O.xe] at ev
    refine seg_wrap (wpAny_mono (wpAny_gens ev) (fun r s4 h4 => ?_) fun _ _ e => e.elim)
    obtain ⟨⟨v, H4, I4, rv4, b, rfl, hb⟩, gl4⟩ := h4
    obtain rfl : r = Value.bool b := rv4
    have J4 : b = true → B.J (j + 1) s4 := fun e => by
      rw [e] at hb
      simp only [if_true] at hb
      have p1 := I4.pin (B.I, io) (by rw [O.pn]; simp)
      have p2 := I4.pin (B.a, B.ao) (by rw [O.pn]; simp)
      exact ⟨_, H4, ⟨I4.repin (by rw [O.pn]; intro p hp; cases hp), ⟨_, rfl⟩, p1.2.1, p2.2.1, p2.1, Nat.lt_of_lt_of_le M1.gl (Nat.le_trans gl2 gl4)⟩, ⟨io, p1.1, hioc, hiod⟩, hb⟩
    have F4 : b = false → B.JF s4 := fun e => by
      rw [e] at hb
      simp only [Bool.false_eq_true, if_false] at hb
      exact ⟨_, H4, I4.repin (by rw [O.pn]; intro p hp; cases hp), hb⟩
    refine seg_at (seg_yield rfl rfl rfl ⟨j, b, hlt, by omega, rfl, J4, F4, fun s'' hal => ?_⟩)
    exact seg_again rfl (ih (j + 1) s'' s'' (by omega) hlt hal)
theorem GB.startS (O : B.Ok A elt iter x px scope pos te) (s₀ s : Shared) (hJ : B.J 0 s) :
    Seg (model B.X.prog B.X.w) A B.RE B.Y (B.ys.length + 1) s₀ (.compStart (.GeneratorExp elt [⟨.Name x px, iter, [], 0⟩] scope pos) 0 (.ref B.I) .none B.X.env)
      ((model B.X.prog B.X.w).den (.compStart (.GeneratorExp elt [⟨.Name x px, iter, [], 0⟩] scope pos) 0 (.ref B.I) .none B.X.env)) [] s := by
  have hh' : (A.over (.compStart (.GeneratorExp elt [⟨.Name x px, iter, [], 0⟩] scope pos) 0 (.ref B.I) .none B.X.env) []).handled = none := O.hd
  have loop := GB.loop O B.ys.length 0 s₀ s (Nat.sub_zero _) (Nat.zero_le _) hJ
  obtain ⟨σ, H, M, it, w⟩ := hJ
  obtain ⟨its, rv, pl, hsz0⟩ := M.inv.list (O.wl _ _ w)
  have hne : B.la ≠ B.I := fun z => by
    obtain ⟨o1, e1, c1, d1⟩ := it
    obtain ⟨o2, e2, c2, _⟩ := pl.isList
    rw [z, e1] at e2; cases e2
    rw [c1] at c2; exact absurd c2 (by simp)
  have Wk := Walks.list (prog := B.X.prog) (w := B.X.w) hh' B.I B.la hne its.toArray
  show Seg _ A _ _ _ s₀ _ ((compStart (.GeneratorExp elt [⟨.Name x px, iter, [], 0⟩] scope pos) 0 (.ref B.I) .none B.X.env).onRaise (leaving B.X.env)) [] s
  unfold compStart
  rw [Sem.onRaise_eq_wrap]
  show Seg _ A _ _ _ s₀ _ ((ask >>= _).wrap _ _ _ _) [] s
  refine seg_bind_wrap (wpAny_askSetting ?_)
  split
  · exact seg_again rfl loop
  · first
      | exact seg_bind_wrap (wpAny_rule (seg_bind_wrap (wpAny_standAt (seg_bind_wrap (Wk.self 0 s _ _ ⟨it, pl.isList⟩ (seg_again rfl loop))))))
      | (refine seg_bind_wrap (wpAny_rule ?_); show Seg _ A _ _ _ s₀ _ ((standAt iter.pos >>= _).wrap _ _ _ _) [] s; exact seg_bind_wrap (wpAny_standAt (seg_bind_wrap (Wk.self 0 s _ _ ⟨it, pl.isList⟩ (seg_again rfl loop)))))
/-- the generator at rest -/
def GB.Rest (B : GB) (A : Around) (j : Nat) (s : Shared) : Prop := B.J j s ∧ ∃ gs, s.gens[B.g]? = some gs ∧ ∀ s'', B.J j s'' → gs.Goes (model B.X.prog B.X.w) A B.RE B.Y (B.ys.length - j + 1) (.send .none) s''
theorem GB.allLoop {A0 : Around} {R : Result → Shared → Prop} (O : B.Ok A0.in1.in1 elt iter x px scope pos te) (hd : A0.handled = none) (hroom : A0.depth < recursionLimit) (hao : ∀ h : Heap, h.get? B.a = some B.ao → h.IsGen B.a B.g)
    (hT : ∀ s', B.JT s' → R (.ok (.ret (.bool true))) s') (hF : ∀ s', B.JF s' → R (.ok (.ret (.bool false))) s') : ∀ (k j : Nat) (s : Shared), B.ys.length - j = k → j ≤ B.ys.length → B.Rest A0.in1.in1 j s →
    codeAny (model B.X.prog B.X.w) A0 (.builtin "all.loop" ⟨[.ref B.a], []⟩) R s := by
  intro k
  induction k with
  | zero =>
    intro j s hk hj hr
    obtain ⟨hJ, gs, hgs, hgo⟩ := hr
    have hin : j = B.ys.length := by omega
    have hJ0 := hJ
    obtain ⟨σ, H, M, it, w⟩ := hJ
    refine codeAny_builtin F.entry_all_loop ?_
    rw [Around.under_plainId F.plain_all_loop _]
    show wpAny _ A0.in1 (pyNext (.ref B.a) >>= _) _ _ s
    refine wpAny_bind (wpAny_pyNext_genexpQ (P := B.R) (Y := B.Y) (n := B.ys.length - j + 1) hd M.inv.nolimit hroom (hao _ M.ag) hgs (hgo _ (hJ0.set _ rfl)) (fun v s1 gs' hb hv => ?_) fun s1 hp h' hk' => ?_)
    · obtain ⟨j', b, hj', hm, _⟩ := hv
      omega
    · obtain ⟨_, hjt⟩ := hp
      refine wpAny_bind (wpAny_rule (wpAny_pure ?_))
      obtain ⟨σ1, H1, I1, w1⟩ := hjt.set B.g (y := .finished) rfl
      exact hT _ ⟨σ1, H1, I1.kept (t' := s1.toks) (h' := h') hk', w1⟩
  | succ k ih =>
    intro j s hk hj hr
    obtain ⟨hJ, gs, hgs, hgo⟩ := hr
    have hlt : j < B.ys.length := by omega
    have hJ0 := hJ
    obtain ⟨σ, H, M, it, w⟩ := hJ
    refine codeAny_builtin F.entry_all_loop ?_
    rw [Around.under_plainId F.plain_all_loop _]
    show wpAny _ A0.in1 (pyNext (.ref B.a) >>= _) _ _ s
    refine wpAny_bind (wpAny_pyNext_genexpQ (P := B.R) (Y := B.Y) (n := B.ys.length - j + 1) hd M.inv.nolimit hroom (hao _ M.ag) hgs (hgo _ (hJ0.set _ rfl)) (fun v s1 gs' hb hv => ?_) fun s1 hp h' hk' => ?_)
    · obtain ⟨j', b, hj', hm, rfl, hJ1, hF1, hkap⟩ := hv
      have ej : j' = j := by omega
      subst ej
      refine wpAny_bind (wpAny_holding (wpAny_truthy_bool ?_))
      refine wpAny_bind (wpAny_letGo ?_)
      cases b with
      | true =>
        simp only [if_true]
        have hJs := (hJ1 rfl).set B.g hb
        refine wpAny_pure ⟨plainId_quiet F.plain_all_loop _, ih (j' + 1) _ (by omega) hlt ⟨hJs, gs', ?_, fun s'' hal => ?_⟩⟩
        · obtain ⟨_, _, M1, _⟩ := hJ1 rfl
          unfold Shared.setGen
          have := M1.gl
          simp [this]
        · have e : B.ys.length - (j' + 1) + 1 = B.ys.length - j' := by omega
          rw [e]
          exact hkap s'' hal
      | false =>
        simp only [Bool.false_eq_true, if_false]
        refine wpAny_bind (wpAny_rule (wpAny_pure ?_))
        exact hF _ ((hF1 rfl).set B.g hb)
    · obtain ⟨e, _⟩ := hp
      omega
end
end L2
namespace L2
open PySem PySem.Spec PyProof.Rows
/-- all(e for x in xs): fr = the free names, by their places in the def; te = what e reads, the places being x, then the free names -/
def tAllG (K : PySem.W.Frag) (i : Nat) (fr : List (Nat × Str)) (P : Addr) (te : TE) : TE := fun σ H Q => ∃ la ys fvs, σ[i]? = some (some (.ref la)) ∧ SqL K H la ys ∧ Paired (fun (p : Nat × Str) (v : V) => σ[p.1]? = some (some v)) fr fvs ∧
  ∃ ps, H P = some (.tbl ps) ∧ TriplesOk ps.toList ∧ ∀ ps', TriplesOk ps'.toList → ∃ W : Nat → Hp → Prop, W 0 (upd H P (.tbl ps')) ∧ (∀ j H1, W j H1 → SqL K H1 la ys) ∧ (∀ H1, W ys.length H1 → Q (.bl true) H1) ∧
    ∀ j y H1, W j H1 → ys[j]? = some y → te (some y :: fvs.map some) H1 fun v H2 => ∃ b, v = .bl b ∧ if b = true then W (j + 1) H2 else Q (.bl false) H2
section
variable {X : Cx}
theorem pe_allG {i k : Nat} {c P : Addr} {fr : List (Nat × Str)} {cl : List (Str × Addr)} {te : TE} {x t : Str} {elt : Expr} {scope : Scope} {p p5 p6 gpos cpos : Pos} (hcode : X.env.code = .ref c) (hB : CodeB X.base c P) (hM : BB X.base X.mg) (hcalm : X.calm = true) (hroom : Room (k + 1) X.A)
    (hN : X.N[i]? = some t) (hv : Vis X.env.scope t) (hg : Gl X "all") (hm : X.mg "all" = none)
    (hco : scope.isCoroutine = false) (hclos : closureFor scope X.env = pure cl) (hcell : ∀ y ∈ scope.names, y.2 ≠ .cell) (h0 : scope.names.lookup (".0" : Str) = some NameKind.local)
    (hx : scope.names.lookup x = some .local) (hkind : scope.kind = .function)
    (hNd : (x :: fr.map (·.2)).Nodup)
    (hfr : ∀ p ∈ fr, X.N[p.1]? = some p.2 ∧ (X.env.kindOf p.2 = some .cell ∨ X.env.kindOf p.2 = some .free) ∧ scope.names.lookup p.2 = some .free ∧ ∃ c, cl.lookup p.2 = some c)
    (hcl : ∀ y c, cl.lookup y = some c → X.env.cells.lookup y = some c) (hfree : ∀ y ∈ scope.names, y.2 = .free → ∃ q ∈ fr, q.2 = y.1)
    (he : ∀ (code : Value) (s4 : Shared) (H4 : Hp) (I : Addr) (A' : Around), Room k A' → PE (gcx X (x :: fr.map (·.2)) (genEnv scope cl s4.heap.objs.size code builtinsNs X.env) A' s4 H4 I) elt te)
    (hd1 : (t == ("__debug__" : Str)) = false := by decide) (hd2 : (t == ("__classdict__" : Str)) = false := by decide) :
    PE X (.Call (.Name "all" p) [.GeneratorExp elt [⟨.Name x p5, .Name t p6, [], 0⟩] scope gpos] [] cpos) (tAllG X.K i fr P te) := by
  intro pins s σ H Q I h
  obtain ⟨la, ys, fvs, hz, hsq, hfv, ps, hP, tr, q⟩ := h
  have hh : X.A.handled = none := I.ok.hd hcalm
  refine wpAny_Call_Name_kw (ld_blt I hg hm (show bootBuiltins "all" = some (.builtin "all") from by decide +kernel) ?_)
  refine PyProof.Rows.callWith_builtin1 ?_ rfl rfl
  show wpAny _ _ (spliced ((false, eval _ X.env) :: backTo cpos (starEach [] X.env))) _ _ s
  refine Calls.spliced_cons ?_
  refine wpAny_GeneratorExp_make hco hclos hcell h0 hkind hroom.depth ?_ (fun _ => rfl)
  refine thn (pe_var hN hv hd1 hd2 pins s σ H (fun v H1 => v = .ref la ∧ H1 = H) I ⟨_, hz, rfl, rfl⟩) ?_
  rintro xv s1 ⟨v, H1, I1, r1, rfl, rfl⟩
  cases r1
  obtain ⟨its, rv, pl, hsz0⟩ := I1.list hsq
  have hll := rv.length
  have hlt0 : la < s1.heap.objs.size := by obtain ⟨_, e, _⟩ := pl.isList; exact Heap.lt_size e
  refine wpAny_pyIter_list pl.isList ?_
  generalize ho : ({ cls := .type "list_iterator", data := .fields #[.ref la, .int 0 0] } : Obj) = o
  have st : (s1.heap.push o).IsListIter s1.heap.objs.size la 0 := by
    rw [← ho]
    exact ⟨_, Heap.get?_push_size _ rfl, rfl, rfl⟩
  have I2 : Inv X pins σ H1 { s1 with heap := s1.heap.push o } := I1.kept (t' := s1.toks) fun b u e => Heap.get?_push_of_some _ e
  refine ⟨I2.nolimit, ?_⟩
  have hT : (s1.heap.push o).get? P = some { cls := .none, data := .fields ps } := I2.hok P _ hP
  obtain ⟨hC, hTab⟩ := hB.isCode I2.bk hT tr
  have hPlt : P < s1.heap.objs.size := Heap.lt_size (show s1.heap.get? P = some _ from I1.hok P _ hP)
  have go : ∀ (code : Value) (h3 : Heap) (tk3 : Nat) (ps3 : Array Value), TriplesOk ps3.toList → Inv X pins σ (upd H1 P (.tbl ps3)) { s1 with heap := h3, toks := tk3 } → h3.IsListIter s1.heap.objs.size la 0 → s1.heap.objs.size < h3.objs.size →
      wpAny (model X.prog X.w) X.A (builtinsFor X.env.globals X.env.builtins) (fun bi s₄ =>
        ∀ h', h'.Ns s₄.heap.objs.size (fun y => if y = ".0" then some (.ref s1.heap.objs.size) else none) → Heap.SameBut s₄.heap.objs.size (s₄.heap.push { cls := .type "frame", data := .dict #[] }) h' →
          wpAny (model X.prog X.w) X.A (spliced (backTo cpos (starEach [] X.env))) (fun vs s₂ => wpAny (model X.prog X.w) X.A (call (.builtin "all") (Value.ref h'.objs.size :: vs)) (EP X pins σ Q) X.xe s₂) X.xe { s₄ with
            gens := s₄.gens.push (.fresh (.compStart (.GeneratorExp elt [⟨.Name x p5, .Name t p6, [], 0⟩] scope gpos) 0 (.ref s1.heap.objs.size) .none (genEnv scope cl s₄.heap.objs.size code bi X.env))),
            toks := s₄.toks + 1 + 1 + 1,
            heap := h'.push { cls := .type "generator", data := .fields #[.int s₄.gens.size 0, .str "<genexpr>" (s₄.toks + 1), .str (X.env.qual ++ "<genexpr>") (s₄.toks + 1 + 1)] } }) X.xe { s1 with heap := h3, toks := tk3 } := by
    intro code h3 tk3 ps3 tr3 I3 st3 hlt
    obtain ⟨bm, ob, M⟩ := hM
    refine wpAny_builtinsFor (s := { s1 with heap := h3, toks := tk3 }) (by rw [I.ok.glob]; exact M.ns.keeps I3.bk) M.name M.ne (I3.bk _ _ M.obj) M.cls M.dict M.data ?_
    intro h' hn' hs'
    have hn' : h'.Ns h3.objs.size _ := hn'
    have hs' : Heap.SameBut h3.objs.size (h3.push { cls := .type "frame", data := .dict #[] }) h' := hs'
    have hsz : h'.objs.size = h3.objs.size + 1 := by rw [hs'.1, Heap.size_push]
    have keep' : ∀ b o, h3.get? b = some o → h'.get? b = some o := fun b o e => hs'.extBut b o (Nat.ne_of_lt (Heap.lt_size e)) (Heap.get?_push_of_some _ e)
    generalize hao : ({ cls := .type "generator", data := .fields #[.int (s1.gens.size : Nat) 0, .str "<genexpr>" (tk3 + 1), .str (X.env.qual ++ "<genexpr>") (tk3 + 1 + 1)] } : Obj) = ao
    show wpAny _ _ (spliced (backTo cpos (starEach [] X.env))) _ _ { s1 with
            gens := s1.gens.push (.fresh (.compStart (.GeneratorExp elt [⟨.Name x p5, .Name t p6, [], 0⟩] scope gpos) 0 (.ref s1.heap.objs.size) .none (genEnv scope cl h3.objs.size code builtinsNs X.env))),
            toks := tk3 + 1 + 1 + 1,
            heap := h'.push ao }
    have keep5 : ∀ b o, h3.get? b = some o → (h'.push ao).get? b = some o := fun b o e => Heap.get?_push_of_some _ (keep' b o e)
    obtain ⟨W, w0, wl, wT, wt⟩ := q ps3 tr3
    have n1 : upd H1 P (.tbl ps3) s1.heap.objs.size = none := by rw [upd_ne (Nat.ne_of_gt hPlt)]; exact I1.hok.fresh (Nat.le_refl _)
    have an : upd H1 P (.tbl ps3) h'.objs.size = none := I3.hok.fresh (by rw [hsz]; exact Nat.le_succ _)
    have stkN : ∀ b, s1.heap.objs.size ≤ b → b ∉ frs X.stack := fun b hb z => by
      rcases List.mem_cons.mp (I1.stkSub b z) with e | z2
      · have h1 := I1.lt
        rw [← e] at h1
        exact absurd h1 (Nat.not_lt.mpr hb)
      · exact I1.nofs hb z2
    have cellN : ∀ y c, cl.lookup y = some c → c ≠ s1.heap.objs.size := fun y c e z => by
      obtain ⟨_, ob1, hob1, _⟩ := I1.cell y c (hcl y c e)
      have := Heap.lt_size hob1
      rw [z] at this
      exact Nat.lt_irrefl _ this
    have frE : ((X.A.in1.in1).over (.compLoop (.GeneratorExp elt [⟨.Name x p5, .Name t p6, [], 0⟩] scope gpos) 0 (.ref s1.heap.objs.size) .none (genEnv scope cl h3.objs.size code builtinsNs X.env)) []).frames = some (genEnv scope cl h3.objs.size code builtinsNs X.env :: X.stack) := by
      show X.A.frames.map _ = _
      rw [I.ok.frames]; rfl
    have rmE : Room k ((X.A.in1.in1).over (.compLoop (.GeneratorExp elt [⟨.Name x p5, .Name t p6, [], 0⟩] scope gpos) 0 (.ref s1.heap.objs.size) .none (genEnv scope cl h3.objs.size code builtinsNs X.env)) []) := by
      refine ⟨hh, ?_, ?_, hroom.gd⟩
      · have := hroom.dp
        show X.A.depth + 1 + 3 * k + 5 < _
        omega
      · have := hroom.un
        show X.A.units + 1 + 1 + 3 + 16 * k + 200 < _
        omega
    let Bx : GB := ⟨gcx X (x :: fr.map (·.2)) (genEnv scope cl h3.objs.size code builtinsNs X.env) ((X.A.in1.in1).over (.compLoop (.GeneratorExp elt [⟨.Name x p5, .Name t p6, [], 0⟩] scope gpos) 0 (.ref s1.heap.objs.size) .none (genEnv scope cl h3.objs.size code builtinsNs X.env)) []) { s1 with heap := h3, toks := tk3 } (upd H1 P (.tbl ps3)) s1.heap.objs.size, la, ys, fvs, s1.heap.objs.size, h'.objs.size, s1.gens.size, ao, W, fun H => Q (.bl false) H⟩
    have O : Bx.Ok X.A.in1.in1 elt (.Name t p6) x p5 scope gpos te :=
      { ar := rfl, hd := hh, nm := rfl, nd := hNd, lx := hx, co := hco, ex := rfl, pn := rfl, xe := rfl, IL := Nat.ne_of_lt hlt, If := stkN _ (Nat.le_refl _), Ic := cellN,
        aL := by show h'.objs.size ≠ h3.objs.size; omega
        af := stkN _ (by show s1.heap.objs.size ≤ h'.objs.size; omega)
        aI := by show h'.objs.size ≠ s1.heap.objs.size; omega
        ad := fun v e => by have e : ao.data = _ := e; rw [← hao] at e; cases e
        wl := wl, el := he code { s1 with heap := h3, toks := tk3 } _ _ _ rmE, wt := fun j y H w hy => wt j y H w hy }
    have ok5 : Cx.Ok Bx.X :=
      { mod := I.ok.mod, kind := hkind, glob := I.ok.glob, blt := rfl, above := Nat.le_refl _
        inj := fun y z c h1 h2 => I.ok.inj y z c (hcl _ _ h1) (hcl _ _ h2)
        has := fun y hy => by
          rcases hy with hy | hy
          · exact absurd rfl (hcell _ (PySem.mem_of_lookup hy))
          · obtain ⟨q, hq, rfl⟩ := hfree _ (PySem.mem_of_lookup hy) rfl
            exact (hfr q hq).2.2.2
        cab := fun y c e => by cases e
        hd := fun _ => hh
        frames := frE
        stk := .inr ⟨rfl, rfl⟩
        exf := fun b hb => by
          rw [List.mem_singleton.mp hb]
          exact ⟨Nat.ne_of_lt hlt, cellN⟩
        bs := I3.bs
        bsz := Nat.le_trans I.ok.bsz I3.sz
        noex := fun b o e hb => by
          have := Heap.lt_size (I1.bk b o e)
          rw [List.mem_singleton.mp hb] at this
          exact Nat.lt_irrefl _ this
        exfs := fun b hb => by rw [List.mem_singleton.mp hb]; exact stkN _ (Nat.le_refl _)
        funs := I3.stack
        frf := I3.stkFree }
    have I5 : Inv Bx.X [] (none :: fvs.map some) (upd H1 P (.tbl ps3)) { s1 with
            gens := s1.gens.push (.fresh (.compStart (.GeneratorExp elt [⟨.Name x p5, .Name t p6, [], 0⟩] scope gpos) 0 (.ref s1.heap.objs.size) .none (genEnv scope cl h3.objs.size code builtinsNs X.env))),
            toks := tk3 + 1 + 1 + 1,
            heap := h'.push ao } := by
      refine ⟨ok5, rfl, I3.bare.push rfl, Un.kept keep5, ⟨_, hn'.push _, fun j y v h1 h2 h3' => ?_⟩, fun y c e => ?_, ?_, fun y c e => ?_, (fun p hp => (nomatch (show p ∈ ([] : List (Addr × Obj)) from hp))), I3.hok.kept keep5, ?_⟩
      · cases j with
        | zero => cases h2
        | succ j =>
          have h1 : (fr.map (·.2))[j]? = some y := h1
          have h2 : (fvs.map some)[j]? = some (some v) := h2
          rw [List.getElem?_map] at h1 h2
          obtain ⟨p, hp, rfl⟩ : ∃ p, fr[j]? = some p ∧ p.2 = y := by
            cases e : fr[j]? with
            | none => rw [e] at h1; cases h1
            | some p => rw [e] at h1; exact ⟨p, rfl, Option.some.inj h1⟩
          have hv2 : fvs[j]? = some v := by
            cases e : fvs[j]? with
            | none => rw [e] at h2; cases h2
            | some p => rw [e] at h2; exact Option.some.inj h2
          obtain ⟨f1, f2, f3, c0, f4⟩ := hfr p (List.mem_of_getElem? hp)
          obtain ⟨m3, _, hl3⟩ := I3.loc
          have vis : Vis X.env.scope p.2 := f2.elim (fun h => .inr (.inl h)) fun h => .inr (.inr h)
          obtain ⟨uy, ruy, look⟩ := hl3 p.1 p.2 v f1 (pget hfv j _ _ hp hv2) vis
          refine ⟨uy, ruy, .inr ⟨.inr f3, c0, f4, ?_⟩⟩
          rcases look with ⟨kl, _⟩ | ⟨_, c', hc', ob, hob, hod⟩
          · rcases f2 with f2 | f2 <;> rw [f2] at kl <;> cases kl
          · rw [hcl _ _ f4] at hc'
            cases hc'
            exact ⟨ob, keep5 _ _ hob, hod⟩
      · obtain ⟨v, ob, hob, hod⟩ := I3.cell y c (hcl y c e)
        exact ⟨v, ob, keep5 _ _ hob, hod⟩
      · exact I3.hok.fresh (Nat.le_refl _)
      · exact I3.freeC y c (hcl y c e)
      · show (none :: fvs.map some).length = (x :: fr.map (·.2)).length
        have := Paired.length hfv
        simp [this]
    have J5 : Bx.J 0 { s1 with
            gens := s1.gens.push (.fresh (.compStart (.GeneratorExp elt [⟨.Name x p5, .Name t p6, [], 0⟩] scope gpos) 0 (.ref s1.heap.objs.size) .none (genEnv scope cl h3.objs.size code builtinsNs X.env))),
            toks := tk3 + 1 + 1 + 1,
            heap := h'.push ao } := ⟨_, _, ⟨I5, ⟨none, rfl⟩, n1, an, Heap.get?_push_size _ (by rw [← hao]; rfl), by show s1.gens.size < (s1.gens.push _).size; rw [Array.size_push]; exact Nat.lt_succ_self _⟩, (let ⟨ob, e1, e2⟩ := st3; ⟨ob, keep5 _ _ e1, e2⟩), w0⟩
    have back : ∀ {σ' : St} {H' : Hp} {s' : Shared}, Inv Bx.X [] σ' H' s' → Inv X pins σ H' s' := fun {σ' H' s'} J =>
      I3.call' (ch := [s1.heap.objs.size]) J.os J.base J.hok J.bare fun b hb => by
        have f1 := I1.fpOk (H' := upd H1 P (.tbl ps3)) (Nat.le_refl s1.heap.objs.size) n1
        rw [List.mem_singleton.mp hb]
        exact ⟨f1.2.2.2.1, f1.2.1, f1.2.2.2.2.1, f1.2.2.2.2.2⟩
    refine Calls.spliced_nil ?_
    refine call_function_tree F.kind_all F.plain_all F.entry_all (F.args_all1 _) ?_
    unfold Builtin.«all»
    refine wpAny_bind (m := oneArg "all" _) (wpAny_pure ?_)
    have isg : ∀ h : Heap, h.get? Bx.a = some Bx.ao → h.IsGen Bx.a Bx.g := fun h e => ⟨_, _, _, e, by show ao.cls = _; rw [← hao], by show ao.data = _; rw [← hao], by show ao.slots = _; rw [← hao]⟩
    refine wpAny_bind (wpAny_pyIter_gen (isg _ (Heap.get?_push_size _ (by show ao.isFreed = false; rw [← hao]; rfl))) ?_)
    refine wpAny_pure ⟨plainId_quiet F.plain_all_loop _, GB.allLoop (B := Bx) O hh hroom.depth isg (fun s' h => ?_) (fun s' h => ?_) ys.length 0 _ (Nat.sub_zero _) (Nat.zero_le _) ⟨J5, _, Array.getElem?_push_size .., fun s'' hal => ⟨rfl, GB.startS O _ _ hal⟩⟩⟩
    · obtain ⟨σ', H', J, w⟩ := h
      exact ⟨.bl true, H', back J, rfl, wT _ w⟩
    · obtain ⟨σ', H', J, w⟩ := h
      exact ⟨.bl false, H', back J, rfl, w⟩
  cases hnf : codeAmong gpos ps.toList with
  | some cv =>
    refine wpAny_genexprCode_hit hcode hC hnf ?_
    refine go cv _ s1.toks ps tr ?_ st (by rw [Heap.size_push]; exact Nat.lt_succ_self _)
    rw [upd_id hP]
    exact I2
  | none =>
    refine wpAny_genexprCodeX hcode hC hTab hnf fun c' h3 tk3 hx3 hge hlt hcode3 _ htab3 _ => ?_
    have hsz : s1.heap.objs.size < h3.objs.size := by
      have : s1.heap.objs.size + 1 ≤ c' := by rw [← Heap.size_push s1.heap o]; exact hge
      omega
    obtain ⟨_, _, _, _, _, _, _, _, _, op3, _, _, _, _, _, _, _, hop3, hpd3, htr3, _⟩ := id hcode3
    refine go (.ref c') h3 tk3 _ htr3 (I2.grown hP hx3 htab3.2) ?_ hsz
    obtain ⟨ob, e1, e2⟩ := st
    exact ⟨ob, hx3 _ ob (Nat.ne_of_gt hPlt) e1, e2⟩
end
end L2
namespace L2
open PySem PySem.Spec PyProof.Rows
/-- for x, y in zip(xs, ys) -/
theorem for_zip {K : PySem.W.Frag} {a b : Addr} {xs ys : List V} {g : TG} {tb : TS} {D : Ends} {σ : St} {H : Hp} (n : Nat) (hn : n = min xs.length ys.length) (Pv : Nat → St → Hp → Prop) (h0 : Pv 0 σ H) (hl : ∀ i σ H, i ≤ n → Pv i σ H → SqL K H a xs ∧ SqL K H b ys)
    (hs : ∀ i x y T σ H, xs[i]? = some x → ys[i]? = some y → Pv i σ H → H T = none → g (.ref T) σ (upd H T (.tup [x, y])) fun σ2 H2 => tb { D with nx := Pv (i + 1), ct := Pv (i + 1), bk := D.nx } σ2 H2) (hd : ∀ σ H, Pv n σ H → D.nx σ H) :
    ∃ W : Nat → Nat → St → Hp → Prop, (∃ m, W 0 m σ H) ∧ ∀ i m σ H, W i m σ H →
      ((Itz K a b).stop i H ∧ D.nx σ H) ∨ ((Itz K a b).go i H ∧ ∃ N : St → Hp → Prop, (∀ σ' H', N σ' H' → ∃ m', m' < m ∧ W (i + 1) m' σ' H') ∧ ∀ x H', (Itz K a b).yld i H x H' → g x σ H' fun σ2 H2 => tb { D with nx := N, ct := N, bk := D.nx } σ2 H2) := by
  refine ⟨fun i m σ H => m = n - i ∧ i ≤ n ∧ Pv i σ H, ⟨n, by simp, Nat.zero_le _, h0⟩, ?_⟩
  rintro i m σ H ⟨rfl, hi, p⟩
  obtain ⟨q1, q2⟩ := hl i σ H hi p
  by_cases hlt : i < n
  · have l1 : i < xs.length := by omega
    have l2 : i < ys.length := by omega
    refine .inr ⟨⟨xs, ys, xs[i], ys[i], q1, q2, by simp [l1], by simp [l2]⟩, Pv (i + 1), fun σ' H' p' => ⟨n - (i + 1), by omega, rfl, hlt, p'⟩, fun x H' y => ?_⟩
    obtain ⟨T, x, y, rfl, hT, rfl, h1, h2⟩ := y
    exact hs i x y T σ H (h1 xs q1) (h2 ys q2) p hT
  · have e : i = n := by omega
    exact .inl ⟨⟨xs, ys, q1, q2, by omega⟩, hd σ H (e ▸ p)⟩
/-- the generator expression that a def's second row asks -/
def genOf2 (st : Stmt) : Option (Expr × Scope) := match (defBody st).drop 1 with
  | Stmt.If (.UnaryOp _ (.Call _ [.GeneratorExp e _ sc _] _ _) _) _ _ _ :: _ => some (e, sc)
  | _ => none
def genElt2 (st : Stmt) : Expr := match genOf2 st with | some (e, _) => e | none => .Constant .none 0 ⟨0, 0, 0, 0⟩
def genSc2 (st : Stmt) : Scope := match genOf2 st with | some (_, sc) => sc | none => defScope st
end L2
namespace BK
open PySem PySem.Spec PyProof.Rows L2
/-- rising -/
def ris : List Int → Bool
  | x :: y :: r => decide (x < y) && ris (y :: r)
  | _ => true
end BK
namespace BK
open PySem PySem.Spec PyProof.Rows L2
theorem hasW_iff2 {xs : List Str} {w : List Nat} : hasW xs w = true ↔ ∃ y ∈ xs, ch y = w := by
  unfold hasW
  rw [List.any_eq_true]
  exact ⟨fun ⟨y, h, e⟩ => ⟨y, h, of_decide_eq_true e⟩, fun ⟨y, h, e⟩ => ⟨y, h, decide_eq_true e⟩⟩
/-- the rest of a cut, from a place on -/
def Rest (bk : Book) (z : Str) (p : Nat) (ws : List Str) : Prop := (∀ w ∈ ws, w ∈ keys bk) ∧ (ws.map ch).flatten = (ch z).drop p
theorem Rest.cons {bk : Book} (gd : Good bk) {z : Str} {p : Nat} {w : Str} {ws : List Str} (h : Rest bk z p (w :: ws)) : p + w.length ≤ z.length ∧ 1 ≤ w.length ∧ w = cutAt z p (p + w.length) ∧ p + w.length ∈ endsB bk z p ∧ Rest bk z (p + w.length) ws := by
  obtain ⟨h1, h2⟩ := h
  have wk := h1 w List.mem_cons_self
  have ww := gd.wd w wk
  rw [List.map_cons, List.flatten_cons] at h2
  have hl : (ch w).length = w.length := ch_len w
  have htl : w.length ≤ (ch z).length - p := by
    have := congrArg List.length h2
    rw [List.length_append, List.length_drop] at this
    omega
  rw [ch_len] at htl
  have hw : ch w = ((ch z).drop p).take w.length := by rw [← h2, ← hl, List.take_left]
  have hr : (ws.map ch).flatten = (ch z).drop (p + w.length) := by rw [← List.drop_drop, ← h2, ← hl, List.drop_left]
  have ec : w = cutAt z p (p + w.length) := str_ext (by
    show ch w = ch _
    rw [ch_cutAt, hw]
    unfold piece
    have : p + w.length - p = w.length := by omega
    rw [this])
  refine ⟨by omega, ww.2.1, ec, ?_, fun x hx => h1 x (List.mem_cons_of_mem _ hx), hr⟩
  unfold endsB endsAt
  rw [mem_endsTo, hasW_iff2, ch_len]
  have ym := mxl_ge wk
  refine ⟨⟨by omega, by omega⟩, w, wk, ?_⟩
  rw [← ch_cutAt, ← ec]
theorem filter_sum_le {C : Nat → Int} (hC : ∀ e, 0 ≤ C e) (f : Nat → Bool) : ∀ l : List Nat, ((l.filter f).map C).sum ≤ (l.map C).sum
  | [] => by simp
  | x :: r => by
    have ih := filter_sum_le hC f r
    have := hC x
    rw [List.filter_cons, List.map_cons, List.sum_cons]
    split
    · rw [List.map_cons, List.sum_cons]; omega
    · omega
theorem sum_add_le {C : Nat → Int} (hC : ∀ e, 0 ≤ C e) {e : Nat} : ∀ {l : List Nat}, e ∈ l → ((l.filter fun x => decide (x < e)).map C).sum + C e ≤ (l.map C).sum
  | x :: r, h => by
    have hx := hC x
    rw [List.filter_cons, List.map_cons, List.sum_cons]
    rcases List.mem_cons.mp h with e1 | h1
    · subst e1
      rw [if_neg (by simp)]
      have := filter_sum_le hC (fun x => decide (x < e)) r
      omega
    · have ih := sum_add_le hC h1
      split
      · rw [List.map_cons, List.sum_cons]; omega
      · omega
theorem ahead_nn {E : Nat → List Nat} {C : Nat → Int} (hC : ∀ e, 0 ≤ C e) (p b : Nat) : 0 ≤ ahead E C p b := sum_nn hC
theorem ahead_le {E : Nat → List Nat} {C : Nat → Int} (hC : ∀ e, 0 ≤ C e) {p e : Nat} (h : e ∈ E p) : ahead E C p e + C e ≤ ((E p).map C).sum := sum_add_le hC h
theorem ahead_lt {E : Nat → List Nat} {C : Nat → Int} (hC : ∀ e, 0 ≤ C e) {p e e' : Nat} (h : e ∈ E p) (hlt : e < e') : ahead E C p e + C e ≤ ahead E C p e' := by
  unfold ahead
  have hm : e ∈ (E p).filter fun x => decide (x < e') := List.mem_filter.mpr ⟨h, decide_eq_true hlt⟩
  have := sum_add_le hC hm
  rw [List.filter_filter] at this
  have ef : ((E p).filter fun a => decide (a < e) && decide (a < e')) = (E p).filter fun x => decide (x < e) := by
    refine List.filter_congr fun x _ => ?_
    by_cases hx : x < e
    · rw [decide_eq_true hx, decide_eq_true (by omega : x < e')]; rfl
    · rw [decide_eq_false hx]; rfl
  rw [ef] at this
  exact this
abbrev cntZ (bk : Book) (z : Str) : Nat → Int := cntTo (endsB bk z) z.length z.length
theorem cntZ_step (bk : Book) (z : Str) {q : Nat} (h : q < z.length) : cntZ bk z q = ((endsB bk z q).map (cntZ bk z)).sum := cnt_step (fun i _ e he => endsB_in he) h
theorem cntZ_nn (bk : Book) (z : Str) (q : Nat) : 0 ≤ cntZ bk z q := cnt_nn _ _ _ q
theorem rest_bound {bk : Book} (gd : Good bk) {z : Str} : ∀ (ws : List Str) (p : Nat), p ≤ z.length → Rest bk z p ws → 0 ≤ numW (endsB bk z) (cntZ bk z) p ws ∧ numW (endsB bk z) (cntZ bk z) p ws < cntZ bk z p
  | [], p, hp, h => by
    have h2 : (ch z).drop p = [] := h.2.symm
    have := List.drop_eq_nil_iff.mp h2
    rw [ch_len] at this
    have e : p = z.length := by omega
    subst e
    have : cntZ bk z z.length = 1 := cnt_end _ _
    rw [this]
    exact ⟨Int.le_refl _, by show (0 : Int) < 1; decide⟩
  | w :: ws, p, hp, h => by
    obtain ⟨h1, h2, h3, h4, h5⟩ := h.cons gd
    obtain ⟨i1, i2⟩ := rest_bound gd ws (p + w.length) h1 h5
    have a0 := ahead_nn (E := endsB bk z) (cntZ_nn bk z) p (p + w.length)
    have a1 := ahead_le (E := endsB bk z) (cntZ_nn bk z) h4
    rw [← cntZ_step bk z (by omega)] at a1
    show 0 ≤ ahead _ _ p (p + w.length) + numW _ _ (p + w.length) ws ∧ ahead _ _ p (p + w.length) + numW _ _ (p + w.length) ws < _
    omega
theorem CutTo.rest {bk : Book} {z : Str} {ws : List Str} (c : CutTo bk z z.length ws) : Rest bk z 0 ws := ⟨c.inB, by rw [c.jn, ← ch_len, List.take_length]; rfl⟩
/-! ### all cuts, from a stack -/
def Stk (bk : Book) (z : Str) : Int → List (List Str) → Prop
  | k, [] => k = cntZ bk z 0
  | k, ws :: r => ∃ p, CutTo bk z p ws ∧ 0 < cntZ bk z p ∧ numB bk z ws = k ∧ Stk bk z (k + cntZ bk z p) r
theorem Stk.le {bk : Book} {z : Str} : ∀ {l : List (List Str)} {k : Int}, Stk bk z k l → k ≤ cntZ bk z 0
  | [], k, h => by have : k = _ := h; omega
  | ws :: r, k, ⟨p, _, h2, _, h4⟩ => by have := Stk.le h4; omega
theorem Stk.lt {bk : Book} {z : Str} {ws : List Str} {l : List (List Str)} {k : Int} (h : Stk bk z k (ws :: l)) : k < cntZ bk z 0 := by
  obtain ⟨p, _, h2, _, h4⟩ := h
  have := Stk.le h4
  omega
theorem Stk.push {bk : Book} (gd : Good bk) {z : Str} {p : Nat} {ws : List Str} (ct : CutTo bk z p ws) (hp : p < z.length) {r : List (List Str)} : ∀ (b a : List Nat), (endsB bk z p).filter (posF (cntZ bk z)) = a ++ b →
    Stk bk z (numB bk z ws + cntZ bk z p) r → Stk bk z (numB bk z ws + (a.map (cntZ bk z)).sum) (b.map (fun e => ws ++ [cutAt z p e]) ++ r)
  | [], a, ha, h => by
    have hs := sum_pos (cntZ_nn bk z) (endsB bk z p)
    rw [← cntZ_step bk z hp, ha, List.append_nil] at hs
    rw [hs]
    exact h
  | e :: b, a, ha, h => by
    have hm : e ∈ (endsB bk z p).filter (posF (cntZ bk z)) := by rw [ha]; simp
    have hj : a.length < ((endsB bk z p).filter (posF (cntZ bk z))).length := by rw [ha]; simp
    have hat := ahead_take (E := endsB bk z) (C := cntZ bk z) (p := p) (cntZ_nn bk z) (endsB_sorted bk z p) hj
    have h1 : ((endsB bk z p).filter (posF (cntZ bk z)))[a.length] = e := by simp [ha]
    have h2 : ((endsB bk z p).filter (posF (cntZ bk z))).take a.length = a := by rw [ha]; simp
    rw [h1, h2] at hat
    obtain ⟨hm1, hm2⟩ := List.mem_filter.mp hm
    have hin := endsB_in hm1
    have hk : cutAt z p e ∈ keys bk := by
      have := hm1
      unfold endsB endsAt at this
      rw [mem_endsTo, hasW_iff2] at this
      obtain ⟨_, y, hy, ey⟩ := this
      have : cutAt z p e = y := str_ext (by show ch _ = ch _; rw [ch_cutAt, ey])
      rw [this]; exact hy
    have cle : (cutAt z p e).length = e - p := cut_len (by omega) (by omega)
    refine ⟨e, ct.next hin.1 hin.2 hk, of_decide_eq_true hm2, ?_, ?_⟩
    · unfold numB
      rw [numW_snoc, ct.tot, Nat.zero_add]
      have : p + (cutAt z p e).length = e := by omega
      rw [this, hat]
    · have := Stk.push gd ct hp (r := r) b (a ++ [e]) (by rw [ha]; simp) h
      rw [List.map_append, List.sum_append] at this
      have e3 : ([e].map (cntZ bk z)).sum = cntZ bk z e := by simp
      rw [e3, ← Int.add_assoc] at this
      exact this
end BK
namespace BK
open PySem PySem.Spec PyProof.Rows L2
/-! ### lists of lists of texts -/
def ssD (yss : List (List Str)) : PyData := .list (yss.map stD)
abbrev LsAt (H : Hp) (p : Addr) (ys : List Str) : Prop := H p = some (.lst (ys.map V.str))
theorem paired_imp {α β : Type} {R S : α → β → Prop} : ∀ {ps : List α} {ys : List β}, (∀ p y, p ∈ ps → R p y → S p y) → Paired R ps ys → Paired S ps ys
  | _, _, _, .nil => .nil
  | _, _, h, .cons r t => .cons (h _ _ List.mem_cons_self r) (paired_imp (fun p y hp => h p y (List.mem_cons_of_mem _ hp)) t)
theorem Stk.len {bk : Book} {z : Str} : ∀ {l : List (List Str)} {k : Int}, Stk bk z k l → (l.length : Int) + k ≤ cntZ bk z 0
  | [], k, h => by have : k = _ := h; simp; omega
  | ws :: r, k, ⟨p, _, h2, _, h4⟩ => by have := Stk.len h4; simp; omega
def topM (m : Nat) : List (List Str) → Nat
  | [] => 0
  | ws :: _ => m - totl ws
end BK
namespace L2
open PySem PySem.Spec PyProof.Rows
end L2
namespace BK
open PySem PySem.Spec PyProof.Rows L2
/-! ### dicts of texts, grown -/
theorem hasW_mem {xs : List Str} {z : Str} : hasW xs (ch z) = true ↔ z ∈ xs := by
  rw [hasW_iff2]
  exact ⟨fun ⟨y, hy, e⟩ => by rw [← str_ext e]; exact hy, fun h => ⟨z, h, rfl⟩⟩
theorem KS.val {kvs : List (Key × V)} {xs : List Str} (h : KS kvs xs) (z : Str) : (valV kvs (Sum.inr z)).isSome = decide (z ∈ xs) := by
  rw [val_has h, Bool.eq_iff_iff, decide_eq_true_iff, hasW_mem]
theorem KS.put {kvs : List (Key × V)} {xs : List Str} (h : KS kvs xs) (nd : xs.Nodup) (q : Str) (v : V) : ∃ ys, KS (putK kvs (Sum.inr q) v) ys ∧ ys.Nodup ∧ ∀ x, x ∈ ys ↔ x ∈ xs ∨ x = q := by
  by_cases hq : q ∈ xs
  · refine ⟨xs, ?_, nd, fun x => ⟨.inl, fun z => by rcases z with z | z; exact z; rw [z]; exact hq⟩⟩
    unfold putK KS
    have e : (kvs.any fun kv => decide (kv.1 = (Sum.inr q : Key))) = true := by rw [valV_any, h.val, decide_eq_true hq]
    rw [if_pos e, List.map_map, ← h]
    refine List.map_congr_left fun y _ => ?_
    show (if y.1 = (Sum.inr q : Key) then (y.1, v) else y).1 = y.1
    split <;> rfl
  · have e : valV kvs (Sum.inr q) = none := by
      have := h.val q
      rw [decide_eq_false hq] at this
      cases hv : valV kvs (Sum.inr q) with
      | none => rfl
      | some _ => rw [hv] at this; cases this
    refine ⟨xs ++ [q], ?_, ?_, fun x => by simp⟩
    · rw [putK_new _ e]; unfold KS; rw [List.map_append, List.map_append, h]; rfl
    · refine List.nodup_append.mpr ⟨nd, by simp, fun a ha b hb z => ?_⟩
      have hb2 : b = q := by simpa using hb
      exact hq (by rw [← hb2, ← z]; exact ha)
/-- a dict whose keys are just those of a kind -/
def DictIs (N : Nat) (H : Hp) (d : Addr) (Pr : Str → Prop) : Prop := ∃ (kvs : List (Key × V)) (xs : List Str), H d = some (.dK kvs) ∧ KS kvs xs ∧ xs.Nodup ∧ kvs.length ≤ N ∧ (∀ y ∈ xs, y.length ≤ 12) ∧ ∀ y, y ∈ xs ↔ Pr y
theorem DictIs.same {N : Nat} {H H1 : Hp} {d : Addr} {Pr : Str → Prop} (h : DictIs N H d Pr) (s : Same H H1) : DictIs N H1 d Pr := by
  obtain ⟨kvs, xs, e, r⟩ := h
  exact ⟨kvs, xs, s _ _ e, r⟩
def Bg (bk : Book) (y : Str) : Prop := ∃ w ∈ keys bk, ∃ k : Nat, 1 ≤ k ∧ k ≤ w.length ∧ ch y = (ch w).take k
def Ed (bk : Book) (y : Str) : Prop := ∃ w ∈ keys bk, ∃ k : Nat, k < w.length ∧ ch y = (ch w).drop k
def Ins (bk : Book) (y : Str) : Prop := ∃ u, Ed bk u ∧ ∃ k : Nat, 1 ≤ k ∧ k ≤ u.length ∧ ch y = (ch u).take k
/-- the ends of the stretches of a kind -/
def EndsOf (z : Str) (Pr : Str → Prop) (F : Nat → List Nat) : Prop := ∀ p, (F p).length ≤ z.length ∧ ∀ e, e ∈ F p ↔ p < e ∧ e ≤ z.length ∧ Pr (cutAt z p e)
/-! ### the farthest ends -/
def IsMx (l : List Nat) (v : Nat) : Prop := v ∈ l ∧ ∀ y ∈ l, y ≤ v
structure FarG (z : Str) (st E : Nat → List Nat) (G : Nat → Nat) : Prop where
  last : G z.length = z.length
  step : ∀ q, q < z.length → IsMx (q :: (st q ++ (E q).map G)) (G q)
theorem FarG.le {z : Str} {Ps Pe : Str → Prop} {st E : Nat → List Nat} {G : Nat → Nat} (hs : EndsOf z Ps st) (hE : EndsOf z Pe E) (g : FarG z st E G) : ∀ k q, z.length - q ≤ k → q ≤ z.length → G q ≤ z.length
  | 0, q, h, hq => by have : q = z.length := by omega
                      rw [this, g.last]; exact Nat.le_refl _
  | k + 1, q, h, hq => by
    rcases Nat.eq_or_lt_of_le hq with e | hlt
    · rw [e, g.last]; exact Nat.le_refl _
    · have := (g.step q hlt).1
      rcases List.mem_cons.mp this with e | h2
      · omega
      · rcases List.mem_append.mp h2 with h3 | h3
        · exact (((hs q).2 _).mp h3).2.1
        · obtain ⟨e, he, ee⟩ := List.mem_map.mp h3
          have h4 := ((hE q).2 e).mp he
          rw [← ee]
          exact FarG.le hs hE g k e (by omega) h4.2.1
/-- places that are come to from a start -/
inductive Rch (S : Nat → Prop) (E : Nat → List Nat) : Nat → Prop
  | st {q : Nat} : S q → Rch S E q
  | step {q e : Nat} : Rch S E q → e ∈ E q → Rch S E e
theorem Rch.le {z : Str} {Pe : Str → Prop} {S : Nat → Prop} {E : Nat → List Nat} (hS : ∀ q, S q → q ≤ z.length) (hE : EndsOf z Pe E) {q : Nat} (h : Rch S E q) : q ≤ z.length := by
  induction h with
  | st h => exact hS _ h
  | step _ h _ => exact (((hE _).2 _).mp h).2.1
/-! ### what it is to lie in a row of words -/
def tailS (bk : Book) (z : Str) (q : Nat) : Prop := 0 < q ∧ q ≤ z.length ∧ Ed bk (cutAt z 0 q)
def Lies (bk : Book) (z : Str) : Prop := z.length = 0 ∨ Ins bk z ∨ ∃ r, Rch (tailS bk z) (endsB bk z) r ∧ (r = z.length ∨ r < z.length ∧ Bg bk (cutAt z r z.length))
end BK
namespace L2
open PySem PySem.Spec PyProof.Rows
end L2
namespace BK
open PySem PySem.Spec PyProof.Rows L2
def dropS (w : Str) (k : Nat) : Str := cutS w (some (k : Int)) none
theorem ch_dropS (w : Str) (k : Nat) : ch (dropS w k) = (ch w).drop k := ch_cutR w k
theorem dropS_len (w : Str) (k : Nat) : (dropS w k).length = w.length - k := by rw [← ch_len, ch_dropS, List.length_drop, ch_len]
def Pre (bk : Book) (z : Str) (p : Nat) : Prop := ∃ w ∈ keys bk, Txt.startswith w (dropS z p) = true
end BK
namespace BK
open PySem PySem.Spec PyProof.Rows L2
abbrev jn (ws : List Str) : List Nat := (ws.map ch).flatten
/-- some words, joined, have the piece in them -/
def LiesW (bk : Book) (t : List Nat) : Prop := ∃ (ws : List Str) (a b : List Nat), (∀ w ∈ ws, w ∈ keys bk) ∧ jn ws = a ++ t ++ b
theorem LiesW.sub {bk : Book} {t : List Nat} (h : LiesW bk t) {a' t' b' : List Nat} (e : t = a' ++ t' ++ b') : LiesW bk t' := by
  obtain ⟨ws, a, b, hw, h⟩ := h
  exact ⟨ws, a ++ a', b' ++ b, hw, by rw [h, e]; simp⟩
end BK
namespace BK
open PySem PySem.Spec PyProof.Rows L2
/-! ### str.find -/
/-! ### the places led to, told from behind -/
def L (bk : Book) (z : Str) (q : Nat) : Bool := ledTo (endsB bk z) z.length q
/-! ### books as a reader changes them -/
def putB (bk : Book) (x : Str) (n : Int) : Book := if (bk.any fun y => decide (y.1 = x)) = true then bk.map (fun y => if y.1 = x then (y.1, n) else y) else bk ++ [(x, n)]
def dropB (bk : Book) (x : Str) : Book := bk.filter fun y => decide (y.1 ≠ x)
theorem kv_any (bk : Book) (x : Str) : ((kvOf bk).any fun kv => decide (kv.1 = (Sum.inr x : Key))) = bk.any fun y => decide (y.1 = x) := by
  unfold kvOf
  rw [List.any_map]
  refine congrArg _ (funext fun y => ?_)
  show decide ((Sum.inr y.1 : Key) = Sum.inr x) = _
  rw [key_rr]
theorem kvOf_put (bk : Book) (x : Str) (n : Int) : putK (kvOf bk) (Sum.inr x) (.int n) = kvOf (putB bk x n) := by
  unfold putK putB
  rw [kv_any]
  split
  · unfold kvOf
    rw [List.map_map, List.map_map]
    refine List.map_congr_left fun y _ => ?_
    show (if (Sum.inr y.1 : Key) = Sum.inr x then _ else _) = _
    by_cases h : y.1 = x
    · rw [if_pos (by rw [h])]; simp [h]
    · rw [if_neg (fun e => h (Sum.inr.inj e))]; simp [h]
  · unfold kvOf; rw [List.map_append]; rfl
theorem keys_put (bk : Book) (x : Str) (n : Int) : keys (putB bk x n) = if x ∈ keys bk then keys bk else keys bk ++ [x] := by
  have hm : ((bk.any fun y => decide (y.1 = x)) = true) ↔ x ∈ keys bk := by
    rw [List.any_eq_true]
    unfold keys
    rw [List.mem_map]
    exact ⟨fun ⟨y, h, e⟩ => ⟨y, h, of_decide_eq_true e⟩, fun ⟨y, h, e⟩ => ⟨y, h, decide_eq_true e⟩⟩
  unfold putB
  by_cases h : x ∈ keys bk
  · rw [if_pos (hm.mpr h), if_pos h]
    unfold keys
    rw [List.map_map]
    refine List.map_congr_left fun y _ => ?_
    show (if y.1 = x then (y.1, n) else y).1 = y.1
    split <;> rfl
  · rw [if_neg (fun z => h (hm.mp z)), if_neg h]
    unfold keys
    rw [List.map_append]; rfl
theorem keys_drop (bk : Book) (x : Str) : keys (dropB bk x) = (keys bk).filter fun y => decide (y ≠ x) := by
  unfold dropB keys
  rw [List.filter_map]; rfl
theorem good_put {bk : Book} {x : Str} {n : Int} (gd : Good bk) (hx : Word x) (hs : bk.length < 300) : Good (putB bk x n) := by
  refine ⟨?_, fun y hy => ?_, ?_⟩
  · rw [keys_put]
    split
    · exact gd.nd
    · rename_i h; exact nd_snoc gd.nd h
  · rw [keys_put] at hy
    split at hy
    · exact gd.wd y hy
    · rcases List.mem_append.mp hy with h | h
      · exact gd.wd y h
      · rw [List.mem_singleton.mp h]; exact hx
  · unfold putB
    split
    · rw [List.length_map]; exact gd.sz
    · rw [List.length_append]; simp; omega
theorem putB_len (bk : Book) (x : Str) (n : Int) : (putB bk x n).length ≤ bk.length + 1 := by
  unfold putB
  split
  · rw [List.length_map]; omega
  · simp
theorem dropB_len (bk : Book) (x : Str) : (dropB bk x).length ≤ bk.length := List.length_filter_le _ _
theorem good_drop {bk : Book} {x : Str} (gd : Good bk) : Good (dropB bk x) := by
  refine ⟨?_, fun y hy => ?_, Nat.le_trans (dropB_len bk x) gd.sz⟩
  · rw [keys_drop]; exact gd.nd.sublist List.filter_sublist
  · rw [keys_drop] at hy; exact gd.wd y (List.mem_filter.mp hy).1
/-- the first end of a word -/
def FE (z w : Str) (e : Nat) : Prop := 1 ≤ e ∧ e ≤ z.length + 1 ∧ ∀ a b, a < b → b ≤ z.length → b < e → piece (ch z) a b ≠ ch w
/-! ### places gone and come -/
def gcL (n : Nat) (f : Nat → Bool) (m : Nat) (g : Nat → Bool) : List Nat := (List.range n).filter fun q => f q && !(decide (q < m) && g q)
end BK
namespace BK
open PySem PySem.Spec PyProof.Rows L2
/-! ### a reader's fields -/
def rflds (w : Addr) (z : Str) (l : Addr) : List (Str × V) := [("weights", V.ref w), ("signs", V.str z), ("led", V.ref l)]
/-- what the class has -/
structure RTxt (K : PySem.W.Frag) (mg : Str → Option Value) (C : Addr) : Prop where
  cl : Cls K C
  nW : NoAttr K C "weights"
  nS : NoAttr K C "signs"
  nL : NoAttr K C "led"
  mgC : mg "Reader" = some (.ref C)
/-- a reader at p, its dict at w, its book and its text -/
structure RdAt (C : Addr) (H : Hp) (p w : Addr) (bk : Book) (z : Str) : Prop where
  ob : ∃ dx l, H p = some (.ins C dx (rflds w z l)) ∧ H l = some (.lst (blL (z.length + 1) (L bk z)))
  dc : H w = some (.dK (kvOf bk))
theorem RdAt.same {C : Addr} {H H' : Hp} {p w : Addr} {bk : Book} {z : Str} (r : RdAt C H p w bk z) (s : Same H H') : RdAt C H' p w bk z := by
  obtain ⟨⟨dx, l, h1, h2⟩, h3⟩ := r
  exact ⟨⟨dx, l, s _ _ h1, s _ _ h2⟩, s _ _ h3⟩
end BK
namespace BK
open PySem PySem.Spec PyProof.Rows L2
section
variable {X : Cx}
/-! d == {} -/
theorem op_eqE (hu : X.A.units < cLine) : OpR X (compareOp .Eq) (fun x y H Q => ∃ a b kvs, x = .ref a ∧ y = .ref b ∧ Rd H a (.dK kvs) ∧ Rd H b (.dK []) ∧ Q (.bl kvs.isEmpty) H) := by
  intro pins s σ H x y v u Q I rx ry h
  obtain ⟨a, b, kvs, rfl, rfl, ha, hb, q⟩ := h
  cases rx
  cases ry
  obtain ⟨_, na, vs, kv, da⟩ := ha.ok I.hok
  obtain ⟨_, nb, vs0, kv0, db⟩ := hb.ok I.hok
  cases kv0
  have hl : kvs.length = vs.length := Paired.length kv
  refine PySem.W.keq_eq (r := true) na nb da db hu (fun e => ?_) ⟨.bl _, H, I, rfl, ?_⟩
  · have : vs = [] := by simpa using e
    subst this
    exact .nil
  · have e : (vs.length == ([] : List (Key × Value)).length && true) = kvs.isEmpty := by
      cases kvs with
      | nil => have : vs = [] := by simpa using hl.symm
               subst this; rfl
      | cons p r => cases vs with
        | nil => simp at hl
        | cons => rfl
    rw [e]; exact q
/-! dict(d) -/
def rDictC : List V → Hp → VK → Prop := fun xs H Q => ∃ (a : Addr) (kvs : List (Key × V)), xs = [.ref a] ∧ Rd H a (.dK kvs) ∧ ∀ p, H p = none → Q (.ref p) (upd H p (.dK kvs))
end
end BK
namespace L2
open PySem PySem.Spec PyProof.Rows
/-- two statements, the first of which leaves what J says -/
theorem tSeq_share {t u : TS} {D : Ends} {σ : St} {H : Hp} (J : St → Hp → Prop) (h : ∀ N : St → Hp → Prop, (∀ σ' H', J σ' H' → N σ' H') → t { D with nx := N } σ H) (k : ∀ σ' H', J σ' H' → u D σ' H') : tSeq t u D σ H := h _ k
end L2
namespace BK
open PySem PySem.Spec PyProof.Rows L2
/-! ### deeds of a reader -/
inductive Dd where
  | put (x : Str) (n : Int)
  | drop (x : Str)
  | read (y : Str)
def Dd.vs : Dd → List V
  | .put x n => [.str "put", .str x, .int n]
  | .drop x => [.str "drop", .str x]
  | .read y => [.str "read", .str y]
def Dd.bk (b : Book) : Dd → Book
  | .put x n => putB b x n
  | .drop x => dropB b x
  | .read _ => b
def Dd.ln (z : Str) : Dd → Str
  | .read y => z ++ y
  | _ => z
def Dd.Ok (b : Book) : Dd → Prop
  | .put x _ => Word x
  | .drop x => x ∈ keys b
  | .read y => Small y ∧ y.length ≤ 48
theorem Dd.good {b : Book} {d : Dd} (gd : Good b) (lt : b.length < 300) (ok : d.Ok b) : Good (d.bk b) := by
  cases d with
  | put x n => exact good_put gd ok lt
  | drop x => exact good_drop gd
  | read y => exact gd
/-! data of what is told -/
theorem dp2 {K : PySem.W.Frag} {H : Hp} {t a b : Addr} {xs ys : List Int} (ht : H t = some (.tup [.ref a, .ref b])) (ha : H a = some (.lst (xs.map V.int))) (hb : H b = some (.lst (ys.map V.int))) : Dp K H (.ref t) (.tuple [itD xs, itD ys]) :=
  .tup (SqT.of ht) (.cons (dpI ha) (.cons (dpI hb) .nil))
theorem sh2 (xs ys : List Int) : SeqAt.shaped (.tuple [itD xs, itD ys]) = true := by
  unfold SeqAt.shaped itD
  simp only [PyData.canLay0, PyData.canLayAll0, PyData.depth, PyData.depthAll, depth_ints, can_ints]
  decide
theorem eqv2 (xs ys : List Int) : PyData.eqv (.tuple [itD xs, itD ys]) (.tuple [itD xs, itD ys]) = true := SeqAt.eqv_refl _ (SeqAt.canLay_of_shaped (sh2 xs ys))
theorem takeS {α : Type} {xs : List α} {j : Nat} {n : α} (h : xs[j]? = some n) : xs.take (j + 1) = xs.take j ++ [n] := by rw [List.take_succ, h]; rfl
end BK
namespace BK
open PySem PySem.Spec PyProof.Rows L2
/-! ### what a law keeps beside a reader -/
theorem bl_ne {H : Hp} {l a : Addr} {n : Nat} {g : Nat → Bool} {xs : List V} (e : H l = some (.lst (blL (n + 1) g))) (h : H a = some (.lst xs)) (no : ∀ b, V.bl b ∉ xs) : l ≠ a := fun z => by
  rw [z, h] at e
  have e2 : xs = blL (n + 1) g := by
    have := Option.some.inj e
    injection this
  have h0 : (blL (n + 1) g)[0]? = some (V.bl (g 0)) := blL_at (Nat.succ_pos n)
  exact no (g 0) (by rw [e2]; exact List.mem_of_getElem? h0)
theorem bl_not {k : Dk} {H : Hp} (d : k.At H) {l : Addr} {n : Nat} {g : Nat → Bool} (e : H l = some (.lst (blL (n + 1) g))) : l ∉ k.S := fun hb => by
  rcases List.mem_cons.mp hb with z | hb
  · obtain ⟨m, e2⟩ := d.a
    exact bl_ne e e2 (fun b h => by simp at h) z
  · rcases List.mem_cons.mp hb with z | hb
    · exact bl_ne e d.p (fun b h => by simp at h) z
    · obtain ⟨x, y, w, e2⟩ := d.q l hb
      exact bl_ne e e2 (fun b h => by simp at h) rfl
theorem no_bl_ref (xs : List Addr) : ∀ b, V.bl b ∉ xs.map V.ref := fun b h => by simp at h
/-- a reader stays what it is where neither it nor its parts are changed -/
theorem RdAt.off {C : Addr} {H H' : Hp} {S : List Addr} {p w : Addr} {bk : Book} {z : Str} (r : RdAt C H p w bk z) (o : Off S H H') (hp : ∀ a fs dx, H a = some (.ins C dx fs) → a ∉ S) (hw : ∀ a kvs, H a = some (.dK kvs) → a ∉ S) (hl : ∀ l n g, H l = some (.lst (blL (n + 1) g)) → l ∉ S) : RdAt C H' p w bk z := by
  obtain ⟨⟨dx, l, h1, h2⟩, h3⟩ := r
  exact ⟨⟨dx, l, o _ _ (hp _ _ _ h1) h1, o _ _ (hl _ _ _ h2) h2⟩, o _ _ (hw _ _ h3) h3⟩
theorem dk_not {k : Dk} {H : Hp} (w : k.At H) {b : Addr} {o : HO} (e : H b = some o) (n2 : ∀ q, o ≠ .lst q) : b ∉ k.S := fun hb => by
  obtain ⟨q, e2⟩ := w.lst b hb; rw [e2] at e; exact n2 q (Option.some.inj e).symm
theorem RdAt.dk {C : Addr} {H H' : Hp} {k : Dk} {p w : Addr} {bk : Book} {z : Str} (r : RdAt C H p w bk z) (at0 : k.At H) (o : Off k.S H H') : RdAt C H' p w bk z :=
  r.off o (fun _ _ _ e => dk_not at0 e fun _ h => by cases h) (fun _ _ e => dk_not at0 e fun _ h => by cases h) (fun _ _ _ e => bl_not at0 e)
/-- a reader and a list of something else that is changed -/
theorem RdAt.lst {C : Addr} {H : Hp} {p w a : Addr} {bk : Book} {z : Str} {xs : List V} {o : HO} (r : RdAt C H p w bk z) (h : H a = some (.lst xs)) (no : ∀ b, V.bl b ∉ xs) : RdAt C (upd H a o) p w bk z :=
  r.off (S := [a]) (off_upd (by simp)) (fun _ _ _ e => not_mem1 (ne_of e h (by intro z; cases z))) (fun _ _ e => not_mem1 (ne_of e h (by intro z; cases z))) (fun _ _ _ e => not_mem1 (bl_ne e h no))
/-- what was told and what was due, kept -/
structure HeldAt (S : List Addr) (H : Hp) (h : Addr) : Prop where
  ex : ∃ (t u a b c d : Addr) (xs ys : List Int), H h = some (.tup [.ref t, .ref u]) ∧ H t = some (.tup [.ref a, .ref b]) ∧ H u = some (.tup [.ref c, .ref d]) ∧
    H a = some (.lst (xs.map V.int)) ∧ H b = some (.lst (ys.map V.int)) ∧ H c = some (.lst (xs.map V.int)) ∧ H d = some (.lst (ys.map V.int)) ∧ a ∉ S ∧ b ∉ S ∧ c ∉ S ∧ d ∉ S
theorem HeldAt.off {S T : List Addr} {H H' : Hp} {h : Addr} (r : HeldAt S H h) (o : Off T H H') (ht : ∀ a xs, H a = some (.tup xs) → a ∉ T) (hl : ∀ a xs, H a = some (.lst xs) → a ∉ S → a ∉ T) : HeldAt S H' h := by
  obtain ⟨t, u, a, b, c, d, xs, ys, h1, h2, h3, h4, h5, h6, h7, h8, h9, h10, h11⟩ := r
  exact ⟨t, u, a, b, c, d, xs, ys, o _ _ (ht _ _ h1) h1, o _ _ (ht _ _ h2) h2, o _ _ (ht _ _ h3) h3, o _ _ (hl _ _ h4 h8) h4, o _ _ (hl _ _ h5 h9) h5, o _ _ (hl _ _ h6 h10) h6, o _ _ (hl _ _ h7 h11) h7, h8, h9, h10, h11⟩
/-- what stands between two deeds -/
structure KpI (k : Dk) (C B p w c hl : Addr) (bk : Book) (z : Str) (hs : List Addr) (H : Hp) : Prop where
  dk : k.At H
  tb : Tab B H
  rd : RdAt C H p w bk z
  dc : H c = some (.dK (kvOf bk))
  ncw : c ≠ w
  hld : H hl = some (.lst (hs.map .ref))
  hlS : hl ∉ k.S
  held : ∀ h ∈ hs, HeldAt (hl :: k.S) H h
  gd : Good bk
  zsm : Small z
theorem KpI.tup {k : Dk} {C B p w c hl : Addr} {bk : Book} {z : Str} {hs : List Addr} {H : Hp} (r : KpI k C B p w c hl bk z hs H) {a : Addr} {xs : List V} (e : H a = some (.tup xs)) : a ∉ hl :: B :: p :: w :: k.S := by
  obtain ⟨⟨dx, l, hp, _⟩, hw⟩ := r.rd
  obtain ⟨q, hB, _⟩ := r.tb
  have h := r.hld
  simp only [List.mem_cons, not_or]
  exact ⟨ne_of e h (by intro z; cases z), ne_of e hB (by intro z; cases z), ne_of e hp (by intro z; cases z), ne_of e hw (by intro z; cases z), fun hk => dk_not r.dk e (fun _ h => by cases h) (by simpa [Dk.S] using hk)⟩
theorem KpI.lst {k : Dk} {C B p w c hl : Addr} {bk : Book} {z : Str} {hs : List Addr} {H : Hp} (r : KpI k C B p w c hl bk z hs H) {a : Addr} {xs : List V} (e : H a = some (.lst xs)) (n : a ∉ hl :: k.S) : a ∉ hl :: B :: p :: w :: k.S := by
  obtain ⟨⟨dx, l, hp, _⟩, hw⟩ := r.rd
  obtain ⟨q, hB, _⟩ := r.tb
  rw [List.mem_cons, not_or] at n
  rw [List.mem_cons, List.mem_cons, List.mem_cons, List.mem_cons, not_or, not_or, not_or, not_or]
  exact ⟨n.1, ne_of e hB (by intro z; cases z), ne_of e hp (by intro z; cases z), ne_of e hw (by intro z; cases z), n.2⟩
end BK
namespace BK
open PySem PySem.Spec PyProof.Rows L2
end BK
namespace BK
open PySem PySem.Spec PyProof.Rows L2
/-- what best_cut tells -/
def BestV (way : Str) (bk : Book) (z : Str) (H : Hp) (x : V) : Prop := (x = .non ∧ bsB way bk z 0 = none) ∨ ∃ (t l : Addr) (v : Int), x = .ref t ∧ bsB way bk z 0 = some v ∧ H t = some (.tup [.int v, .ref l])
theorem BestV.keep {way : Str} {bk : Book} {z : Str} {H H' : Hp} {x : V} (h : BestV way bk z H x) (s : ∀ t xs, H t = some (.tup xs) → H' t = some (.tup xs)) : BestV way bk z H' x := by
  rcases h with h | ⟨t, l, v, e, h0, et⟩
  · exact .inl h
  · exact .inr ⟨t, l, v, e, h0, s _ _ et⟩
end BK
namespace BK
open PySem PySem.Spec PyProof.Rows L2
/-! ### the best cut among the cuts: its worth, its number -/
def wsum (way : Str) (bk : Book) (ws : List Str) : Int := (ws.map (wt (wOf way bk))).sum
theorem wsum_cons (way : Str) (bk : Book) (x : Str) (ws : List Str) : wsum way bk (x :: ws) = wt (wOf way bk) x + wsum way bk ws := by unfold wsum; rw [List.map_cons, List.sum_cons]
theorem rest_nil {bk : Book} {z : Str} {p : Nat} (hp : p ≤ z.length) (h : Rest bk z p []) : p = z.length := by
  have h2 : (ch z).drop p = [] := h.2.symm
  have := List.drop_eq_nil_iff.mp h2
  rw [ch_len] at this
  omega
theorem rest_way {way : Str} {bk : Book} (gd : Good bk) {z : Str} : ∀ (ws : List Str) (p : Nat), p ≤ z.length → Rest bk z p ws → Way (stB way bk z) p z.length (wsum way bk ws)
  | [], p, hp, h => by
    have e := rest_nil hp h
    subst e
    exact .nil _
  | x :: ws, p, hp, h => by
    obtain ⟨h1, h2, h3, h4, h5⟩ := h.cons gd
    rw [wsum_cons]
    have hy : (p + x.length, wt (wOf way bk) x) ∈ stB way bk z p := List.mem_map.mpr ⟨p + x.length, h4, by rw [← h3]⟩
    exact .cons hy (rest_way gd ws _ h1 h5)
theorem rest_le {way : Str} {bk : Book} (gd : Good bk) {z : Str} {ws : List Str} {p : Nat} (hp : p ≤ z.length) (h : Rest bk z p ws) : ∃ v, bsB way bk z p = some v ∧ wsum way bk ws ≤ v :=
  way_bst (F := stB way bk z) (m := z.length) stB_in (fun y hy => by rw [stB_end (Nat.le_refl _)] at hy; simp at hy) (rest_way gd ws p hp h) rfl hp
/-- the best cut from a place on, step by step -/
inductive BestFrom (way : Str) (bk : Book) (z : Str) : Nat → List Str → Prop where
  | nil : BestFrom way bk z z.length []
  | cons {p e : Nat} {v : Int} {cs : List Str} (hp : p < z.length) (pk : pick (bsB way bk z) (stB way bk z p) = some (v, e)) (r : BestFrom way bk z e cs) : BestFrom way bk z p (cutAt z p e :: cs)
theorem st_end {way : Str} {bk : Book} {z : Str} {p e : Nat} {w : Int} (h : (e, w) ∈ stB way bk z p) : e ∈ endsB bk z p ∧ w = wt (wOf way bk) (cutAt z p e) := by
  obtain ⟨e2, h1, h2⟩ := List.mem_map.mp h
  have a : e2 = e := congrArg Prod.fst h2
  have b : wt (wOf way bk) (cutAt z p e2) = w := congrArg Prod.snd h2
  subst a
  exact ⟨h1, b.symm⟩
theorem BestFrom.le {way : Str} {bk : Book} {z : Str} {p : Nat} {c : List Str} (h : BestFrom way bk z p c) : p ≤ z.length := by
  cases h with
  | nil => exact Nat.le_refl _
  | cons hp _ _ => omega
theorem BestFrom.rest {way : Str} {bk : Book} {z : Str} {p : Nat} {c : List Str} (h : BestFrom way bk z p c) : Rest bk z p c := by
  induction h with
  | nil => exact ⟨by simp, by rw [← ch_len, List.drop_length]; rfl⟩
  | @cons p e v cs hp pk r ih =>
    obtain ⟨_, _, w, hm, _⟩ := pick_some pk
    obtain ⟨h1, _⟩ := st_end hm
    have hem := endsB_in h1
    refine ⟨fun x hx => ?_, ?_⟩
    · rcases List.mem_cons.mp hx with e | e
      · rw [e]; exact ends_key h1
      · exact ih.1 x e
    · rw [List.map_cons, List.flatten_cons, ih.2, ch_cutAt]
      show ((ch z).drop p).take (e - p) ++ (ch z).drop e = _
      have : (ch z).drop e = ((ch z).drop p).drop (e - p) := by rw [List.drop_drop]; congr 1; omega
      rw [this, List.take_append_drop]
theorem BestFrom.worth {way : Str} {bk : Book} {z : Str} {p : Nat} {c : List Str} (h : BestFrom way bk z p c) : bsB way bk z p = some (wsum way bk c) := by
  induction h with
  | nil => exact bst_end _ _
  | @cons p e v cs hp pk r ih =>
    obtain ⟨h1, _, w, hm, h3⟩ := pick_some pk
    obtain ⟨_, hw⟩ := st_end hm
    rw [bsB_step hp, h1, wsum_cons, ← hw]
    rw [ih] at h3
    exact h3.symm
/-- no cut of the same worth has a smaller number -/
theorem BestFrom.first {way : Str} {bk : Book} (gd : Good bk) {z : Str} {p : Nat} {c : List Str} (h : BestFrom way bk z p c) : ∀ ws, Rest bk z p ws → wsum way bk ws = wsum way bk c → numW (endsB bk z) (cntZ bk z) p c ≤ numW (endsB bk z) (cntZ bk z) p ws := by
  induction h with
  | nil =>
    intro ws hr _
    exact (rest_bound gd ws z.length (Nat.le_refl _) hr).1
  | @cons p e v cs hp pk r ih =>
    intro ws hr hsum
    have hc : BestFrom way bk z p (cutAt z p e :: cs) := .cons hp pk r
    obtain ⟨h1, hhead, w, hm, h3⟩ := pick_some pk
    obtain ⟨hend, hw⟩ := st_end hm
    have hem := endsB_in hend
    have hv : v = wsum way bk (cutAt z p e :: cs) := by
      have := hc.worth
      rw [bsB_step hp, h1] at this
      exact Option.some.inj this
    cases ws with
    | nil => have := rest_nil (by omega) hr; omega
    | cons x ws =>
      obtain ⟨a1, a2, a3, a4, a5⟩ := hr.cons gd
      obtain ⟨u, hu, leu⟩ := rest_le (way := way) gd a1 a5
      rw [wsum_cons] at hsum
      have hy : (p + x.length, wt (wOf way bk) x) ∈ stB way bk z p := List.mem_map.mpr ⟨p + x.length, a4, by rw [← a3]⟩
      have hval : wt (wOf way bk) x + u ∈ vals (bsB way bk z) (stB way bk z p) := vals_mem.mpr ⟨_, hy, by show addO _ (bsB way bk z (p + x.length)) = _; rw [hu]; rfl⟩
      have hle := (mxO_some h1).2 _ hval
      have eu : u = wsum way bk ws := by omega
      have hbe : isBe (bsB way bk z) v (p + x.length, wt (wOf way bk) x) = true := decide_eq_true (by show addO _ (bsB way bk z (p + x.length)) = _; rw [hu]; show some (wt (wOf way bk) x + u) = _; congr 1; omega)
      have hin : p + x.length ∈ ((stB way bk z p).filter (isBe (bsB way bk z) v)).map (·.1) := List.mem_map.mpr ⟨_, List.mem_filter.mpr ⟨hy, hbe⟩, rfl⟩
      have hsrt : (((stB way bk z p).filter (isBe (bsB way bk z) v)).map (·.1)).Pairwise (· < ·) := by
        refine List.Pairwise.map _ (fun a b h => h) (List.Pairwise.filter _ ?_)
        exact List.Pairwise.map _ (fun a b h => h) (endsB_sorted bk z p)
      have hele : e ≤ p + x.length := by
        cases hl : ((stB way bk z p).filter (isBe (bsB way bk z) v)).map (·.1) with
        | nil => rw [hl] at hin; simp at hin
        | cons y ys =>
          rw [hl] at hhead hin hsrt
          have ey : y = e := Option.some.inj hhead
          subst ey
          rcases List.mem_cons.mp hin with h | h
          · omega
          · have := (List.pairwise_cons.mp hsrt).1 _ h; omega
      have cl : (cutAt z p e).length = e - p := cut_len (by omega) (by omega)
      show ahead _ _ p (p + (cutAt z p e).length) + numW _ _ (p + (cutAt z p e).length) cs ≤ ahead _ _ p (p + x.length) + numW _ _ (p + x.length) ws
      have ee : p + (cutAt z p e).length = e := by rw [cl]; omega
      rw [ee]
      have b1 := rest_bound gd cs e (by omega) r.rest
      have b2 := rest_bound gd ws (p + x.length) a1 a5
      rcases Nat.lt_or_ge e (p + x.length) with hlt | hge
      · have := ahead_lt (E := endsB bk z) (cntZ_nn bk z) hend hlt
        omega
      · have e3 : p + x.length = e := by omega
        rw [e3] at a5 hu ⊢
        have hx : x = cutAt z p e := by rw [← e3]; exact a3
        have hs2 : wsum way bk ws = wsum way bk cs := by
          have := r.worth
          rw [hu] at this
          have := Option.some.inj this
          omega
        have := ih ws a5 hs2
        omega
end BK
namespace BK
open PySem PySem.Spec PyProof.Rows L2
theorem totl_flat : ∀ ws : List Str, totl ws = ((ws.map ch).flatten).length
  | [] => rfl
  | x :: ws => by
    have := totl_flat ws
    unfold totl at this ⊢
    rw [List.map_cons, List.sum_cons, this, List.map_cons, List.flatten_cons, List.length_append, ch_len]
theorem Rest.cut {bk : Book} {z : Str} {ws : List Str} (h : Rest bk z 0 ws) (hl : ws.length ≤ z.length) : CutTo bk z z.length ws := by
  have e : (ws.map ch).flatten = ch z := by rw [h.2]; rfl
  refine ⟨h.1, ?_, ?_, hl, Nat.le_refl _⟩
  · rw [e, ← ch_len, List.take_length]
  · rw [totl_flat, e, ch_len]
end BK
namespace BK
open PySem PySem.Spec PyProof.Rows L2
/-! ### a book in the order of its words -/
structure Srt (bk ys : Book) : Prop where
  pm : ys.Perm bk
  so : ys.Pairwise fun a b => strLt a.1 b.1
theorem strLt_asymm {a b : Str} (h : strLt a b) (g : strLt b a) : False := List.lt_irrefl _ (List.lt_trans h g)
theorem Srt.one {bk xs ys : Book} (h : Srt bk xs) (g : Srt bk ys) : xs = ys :=
  List.Perm.eq_of_pairwise (fun a b _ _ h1 h2 => (strLt_asymm h1 h2).elim) h.so g.so (h.pm.trans g.pm.symm)
theorem wt_mem {x : Str} {n : Int} : ∀ {b : Book}, (keys b).Nodup → (x, n) ∈ b → wt b x = n
  | [], _, h => by simp at h
  | y :: r, nd, h => by
    have nd' : y.1 ∉ keys r ∧ (keys r).Nodup := List.nodup_cons.mp nd
    by_cases e : y.1 = x
    · have h1 : valV (kvOf (y :: r)) (Sum.inr x : Key) = some (V.int y.2) := valV_pos (p := ((Sum.inr y.1 : Key), V.int y.2)) (r := kvOf r) (by rw [e])
      have : wt (y :: r) x = y.2 := by unfold wt; rw [h1]
      rw [this]
      rcases List.mem_cons.mp h with h | h
      · rw [← h]
      · exact absurd (List.mem_map.mpr ⟨_, h, rfl⟩ : x ∈ keys r) (by rw [← e]; exact nd'.1)
    · have h2 : (x, n) ∈ r := by
        rcases List.mem_cons.mp h with h | h
        · exact absurd (by rw [← h]) e
        · exact h
      have h1 : valV (kvOf (y :: r)) (Sum.inr x : Key) = valV (kvOf r) (Sum.inr x : Key) := valV_neg (p := ((Sum.inr y.1 : Key), V.int y.2)) (r := kvOf r) (fun h => e (Sum.inr.inj h))
      have : wt (y :: r) x = wt r x := by unfold wt; rw [h1]
      rw [this]
      exact wt_mem nd'.2 h2
theorem keys_perm {bk ys : Book} (h : ys.Perm bk) : (keys ys).Perm (keys bk) := h.map _
theorem Srt.good {bk ys : Book} (h : Srt bk ys) (g : Good bk) : Good ys :=
  ⟨(keys_perm h.pm).nodup_iff.mpr g.nd, fun x hx => g.wd x ((keys_perm h.pm).mem_iff.mp hx), by rw [h.pm.length_eq]; exact g.sz⟩
theorem BestFrom.one {way : Str} {bk : Book} {z : Str} {p : Nat} {c d : List Str} (h : BestFrom way bk z p c) (g : BestFrom way bk z p d) : c = d := by
  induction h generalizing d with
  | nil => cases g with
    | nil => rfl
    | cons hp _ _ => omega
  | cons hp pk r ih => cases g with
    | nil => omega
    | cons hp' pk' r' =>
      have := pk.symm.trans pk'
      injection this with this
      injection this with e1 e2
      subst e2
      rw [ih r']
theorem BestFrom.len {way : Str} {bk : Book} {z : Str} {p : Nat} {c : List Str} (h : BestFrom way bk z p c) : c.length ≤ z.length - p := by
  induction h with
  | nil => simp
  | cons hp pk r ih =>
    obtain ⟨_, _, w, hm, _⟩ := pick_some pk
    have := stB_in _ hp _ hm
    rw [List.length_cons]
    have h1 : _ < _ := this.1
    have h2 : _ ≤ _ := this.2
    simp only at h1 h2
    omega
/-! ### the law's list of the best cuts -/
def bcV (H : Hp) (d : Addr) (o : Option (Int × (List Str → Prop))) (x : V) : Prop := match o with
  | none => x = .non
  | some (v, P) => ∃ t l c, x = .ref t ∧ H t = some (.tup [.int v, .ref l]) ∧ H l = some (.lst (c.map V.str)) ∧ l ≠ d ∧ P c
def BcAt (H : Hp) (d : Addr) (n : Nat) (f : Nat → Option (Int × (List Str → Prop))) : Prop := ∃ vs : List V, H d = some (.lst vs) ∧ vs.length = n ∧ ∀ q, q < n → ∃ x, vs[q]? = some x ∧ bcV H d (f q) x
theorem bcV.keep {H H1 : Hp} {d : Addr} {o : Option (Int × (List Str → Prop))} {x : V} (h : bcV H d o x) (s : ∀ t u, H t = some u → t ≠ d → H1 t = some u) (hd : ∃ vs, H d = some (.lst vs)) : bcV H1 d o x := by
  obtain ⟨vs, hd⟩ := hd
  cases o with
  | none => exact h
  | some y =>
    obtain ⟨v, P⟩ := y
    obtain ⟨t, l, c, e1, e2, e3, e4, e5⟩ := h
    exact ⟨t, l, c, e1, s _ _ e2 (ne_of e2 hd (by intro z; cases z)), s _ _ e3 e4, e4, e5⟩
theorem BcAt.same {H H1 : Hp} {d : Addr} {n : Nat} {f : Nat → Option (Int × (List Str → Prop))} (b : BcAt H d n f) (s : Same H H1) : BcAt H1 d n f := by
  obtain ⟨vs, e, l, k⟩ := b
  exact ⟨vs, s _ _ e, l, fun q hq => by obtain ⟨x, h1, h2⟩ := k q hq; exact ⟨x, h1, h2.keep (fun t u e _ => s _ _ e) ⟨_, e⟩⟩⟩
theorem BcAt.congr {H : Hp} {d : Addr} {n : Nat} {f g : Nat → Option (Int × (List Str → Prop))} (b : BcAt H d n f) (h : ∀ q, q < n → f q = g q) : BcAt H d n g := by
  obtain ⟨vs, e, l, k⟩ := b
  exact ⟨vs, e, l, fun q hq => by rw [← h q hq]; exact k q hq⟩
theorem BcAt.put {H : Hp} {d t l : Addr} {n : Nat} {f : Nat → Option (Int × (List Str → Prop))} {vs : List V} (b : BcAt H d n f) (e : H d = some (.lst vs)) {q : Nat} (hq : q < n) {v : Int} {c : List Str} {P : List Str → Prop} (ht : H t = some (.tup [.int v, .ref l])) (hl : H l = some (.lst (c.map V.str))) (nl : l ≠ d) (hP : P c) :
    BcAt (upd H d (.lst (vs.set q (.ref t)))) d n fun p => if p = q then some (v, P) else f p := by
  obtain ⟨vs', e', len, k⟩ := b
  rw [e] at e'
  have ev : vs = vs' := by injection (Option.some.inj e')
  subst ev
  refine ⟨_, upd_same, by rw [List.length_set]; exact len, fun p hp => ?_⟩
  by_cases h : p = q
  · subst h
    refine ⟨.ref t, by rw [List.getElem?_set_self (by omega)], ?_⟩
    show bcV _ d (if p = p then _ else _) _
    rw [if_pos rfl]
    exact ⟨t, l, c, rfl, by rw [upd_ne (ne_of ht e (by intro z; cases z))]; exact ht, by rw [upd_ne nl]; exact hl, nl, hP⟩
  · obtain ⟨x, h1, h2⟩ := k p hp
    refine ⟨x, by rw [List.getElem?_set_ne (fun z => h z.symm)]; exact h1, ?_⟩
    show bcV _ d (if p = q then _ else _) _
    rw [if_neg h]
    exact h2.keep (fun t u e hn => by rw [upd_ne hn]; exact e) ⟨_, e⟩
def fb (way : Str) (bk : Book) (z : Str) (i q : Nat) : Option (Int × (List Str → Prop)) := if z.length - i ≤ q then (bsB way bk z q).map (fun v => (v, BestFrom way bk z q)) else none
def fbAt (way : Str) (bk : Book) (z : Str) (q : Nat) (y : Int × Nat) : Int × (List Str → Prop) := (y.1, fun c => ∃ cs, c = cutAt z q y.2 :: cs ∧ BestFrom way bk z y.2 cs)
/-! ### whether a text can be cut -/
/-! ### a number and a list of texts -/
theorem BestFrom.small {way : Str} {bk : Book} {z : Str} {p : Nat} {c : List Str} (sm : Small z) (h : BestFrom way bk z p c) : ∀ y ∈ c, Small y := by
  induction h with
  | nil => simp
  | cons hp pk r ih =>
    intro y hy
    rcases List.mem_cons.mp hy with rfl | hy
    · exact small_cutAt sm _ _
    · exact ih y hy
theorem RdAt.tab {C B : Addr} {H H' : Hp} {p w : Addr} {bk : Book} {z : Str} (r : RdAt C H p w bk z) (tb : Tab B H) (o : Off [B] H H') : RdAt C H' p w bk z := by
  obtain ⟨ps, e, _⟩ := tb
  exact r.off o (fun _ _ _ h => not_mem1 (ne_of h e (by intro z; cases z))) (fun _ _ h => not_mem1 (ne_of h e (by intro z; cases z))) (fun _ _ _ h => not_mem1 (ne_of h e (by intro z; cases z)))
/-- two books told and due, kept -/
structure HeldB (S : List Addr) (H : Hp) (h : Addr) : Prop where
  ex : ∃ (a b : Addr) (ys : Book), H h = some (.tup [.ref a, .ref b]) ∧ BookAt H a ys ∧ BookAt H b ys ∧ (∀ y ∈ keys ys, Small y) ∧ a ∉ S ∧ b ∉ S
theorem BookAt.offT {H H' : Hp} {T : List Addr} {a : Addr} {ys : Book} (b : BookAt H a ys) (o : Off T H H') (ha : a ∉ T) (ht : ∀ a xs, H a = some (.tup xs) → a ∉ T) : BookAt H' a ys := by
  obtain ⟨ps, e, r⟩ := b
  exact ⟨ps, o _ _ ha e, paired_off o (fun p hp => by obtain ⟨y, e⟩ := paired_mem r p hp; exact ht _ _ e) r⟩
theorem HeldB.off {S T : List Addr} {H H' : Hp} {h : Addr} (r : HeldB S H h) (o : Off T H H') (ht : ∀ a xs, H a = some (.tup xs) → a ∉ T) (hl : ∀ a xs, H a = some (.lst xs) → a ∉ S → a ∉ T) : HeldB S H' h := by
  obtain ⟨a, b, ys, h1, h2, h3, h4, h5, h6⟩ := r
  obtain ⟨pa, ea, _⟩ := id h2
  obtain ⟨pb, eb, _⟩ := id h3
  exact ⟨a, b, ys, o _ _ (ht _ _ h1) h1, h2.offT o (hl _ _ ea h5) ht, h3.offT o (hl _ _ eb h6) ht, h4, h5, h6⟩
/-- what stands between two looks -/
structure KpB (k : Dk) (C B p w c hl : Addr) (bk : Book) (z : Str) (hs : List Addr) (H : Hp) : Prop where
  dk : k.At H
  tb : Tab B H
  rd : RdAt C H p w bk z
  dc : H c = some (.dK (kvOf bk))
  ncw : c ≠ w
  hld : H hl = some (.lst (hs.map .ref))
  hlS : hl ∉ k.S
  held : ∀ h ∈ hs, HeldB (hl :: k.S) H h
  gd : Good bk
  zsm : Small z
theorem KpB.tup {k : Dk} {C B p w c hl : Addr} {bk : Book} {z : Str} {hs : List Addr} {H : Hp} (r : KpB k C B p w c hl bk z hs H) {a : Addr} {xs : List V} (e : H a = some (.tup xs)) : a ∉ hl :: B :: p :: w :: k.S := by
  obtain ⟨⟨dx, l, hp, _⟩, hw⟩ := r.rd
  obtain ⟨q, hB, _⟩ := r.tb
  have h := r.hld
  simp only [List.mem_cons, not_or]
  exact ⟨ne_of e h (by intro z; cases z), ne_of e hB (by intro z; cases z), ne_of e hp (by intro z; cases z), ne_of e hw (by intro z; cases z), fun hk => dk_not r.dk e (fun _ h => by cases h) (by simpa [Dk.S] using hk)⟩
theorem KpB.lst {k : Dk} {C B p w c hl : Addr} {bk : Book} {z : Str} {hs : List Addr} {H : Hp} (r : KpB k C B p w c hl bk z hs H) {a : Addr} {xs : List V} (e : H a = some (.lst xs)) (n : a ∉ hl :: k.S) : a ∉ hl :: B :: p :: w :: k.S := by
  obtain ⟨⟨dx, l, hp, _⟩, hw⟩ := r.rd
  obtain ⟨q, hB, _⟩ := r.tb
  rw [List.mem_cons, not_or] at n
  rw [List.mem_cons, List.mem_cons, List.mem_cons, List.mem_cons, not_or, not_or, not_or, not_or]
  exact ⟨n.1, ne_of e hB (by intro z; cases z), ne_of e hp (by intro z; cases z), ne_of e hw (by intro z; cases z), n.2⟩
theorem mem2 {a x y : Addr} (h1 : a ≠ x) (h2 : a ≠ y) : a ∉ [x, y] := by
  simp only [List.mem_cons, List.not_mem_nil, or_false, not_or]
  exact ⟨h1, h2⟩
theorem KpB.go {k : Dk} {C B p w c hl : Addr} {bk : Book} {z : Str} {hs hs' : List Addr} {H H' : Hp} (I : KpB k C B p w c hl bk z hs H) (o : Off [B, hl] H H') (tb' : Tab B H') (e : H' hl = some (.lst (hs'.map .ref))) (hd : ∀ h ∈ hs', h ∈ hs ∨ HeldB (hl :: k.S) H' h) : KpB k C B p w c hl bk z hs' H' := by
  obtain ⟨q, hB, _⟩ := id I.tb
  have hh := I.hld
  refine ⟨I.dk.off o fun b hb => ?_, tb', I.rd.off o (fun _ _ _ e => mem2 (ne_of e hB (by intro z; cases z)) (ne_of e hh (by intro z; cases z))) (fun _ _ e => mem2 (ne_of e hB (by intro z; cases z)) (ne_of e hh (by intro z; cases z))) (fun _ _ _ e => mem2 (ne_of e hB (by intro z; cases z)) (bl_ne e hh (no_bl_ref hs))), o _ _ (mem2 (ne_of I.dc hB (by intro z; cases z)) (ne_of I.dc hh (by intro z; cases z))) I.dc, I.ncw, e, I.hlS, fun h hm => ?_, I.gd, I.zsm⟩
  · obtain ⟨xs, e⟩ := I.dk.lst b hb
    exact mem2 (ne_of e hB (by intro z; cases z)) fun z => I.hlS (by rw [← z]; exact hb)
  · rcases hd h hm with h1 | h1
    · exact (I.held h h1).off o (fun a xs e => mem2 (ne_of e hB (by intro z; cases z)) (ne_of e hh (by intro z; cases z))) fun a xs e n => mem2 (ne_of e hB (by intro z; cases z)) fun z => n (by rw [z]; exact List.mem_cons_self)
    · exact h1
theorem KpB.tabO {k : Dk} {C B p w c hl : Addr} {bk : Book} {z : Str} {hs : List Addr} {H H' : Hp} (I : KpB k C B p w c hl bk z hs H) (o : Off [B] H H') (tb' : Tab B H') : KpB k C B p w c hl bk z hs H' := by
  refine I.go (o.mono (by simp)) tb' (o _ _ ?_ I.hld) fun h hm => .inl hm
  obtain ⟨q, hB, _⟩ := I.tb
  exact not_mem1 (ne_of I.hld hB (by intro z; cases z))
theorem KpB.same {k : Dk} {C B p w c hl : Addr} {bk : Book} {z : Str} {hs : List Addr} {H H' : Hp} (I : KpB k C B p w c hl bk z hs H) (s : Same H H') : KpB k C B p w c hl bk z hs H' := I.tabO (off_same s) (I.tb.same s)
/-! ### the six things that are asked -/
def asksL : List Str := ["can", "count", "fewest", "heaviest", "book", "text"]
end BK
namespace BK
open PySem PySem.Spec PyProof.Rows L2
/-- rising texts -/
def risT : List Str → Bool
  | x :: y :: r => decide (ch x < ch y) && risT (y :: r)
  | _ => true
theorem risT_iff : ∀ xs : List Str, risT xs = true ↔ ∀ i, (h : i + 1 < xs.length) → ch xs[i] < ch xs[i + 1]
  | [] => by simp [risT]
  | [x] => by simp [risT]
  | x :: y :: r => by
    rw [risT, Bool.and_eq_true, decide_eq_true_iff, risT_iff (y :: r)]
    constructor
    · rintro ⟨h1, h2⟩ i h
      cases i with
      | zero => exact h1
      | succ i => exact h2 i (by simpa using h)
    · intro h
      exact ⟨h 0 (by simp), fun i hi => h (i + 1) (by simpa using hi)⟩
/-- what is_word tells of a text -/
def wordB (z : Str) : Bool := (ch z).all isSmall && decide (1 ≤ z.length ∧ z.length ≤ 12)
/-- what is_book tells of a list of words and weights -/
def bookB (bk : Book) : Bool := (bk.all fun y => wordB y.1) && risT (keys bk)
end BK
namespace L2
open PySem PySem.Spec PyProof.Rows
end L2
namespace BK
open PySem PySem.Spec PyProof.Rows L2
theorem tab2_no {B Bq : Addr} {H : Hp} (t : Tab B H) (t2 : Tab Bq H) {b : Addr} {o : HO} (e : H b = some o) (n : ∀ q, o ≠ .tbl q) : b ∉ [B, Bq] := fun z => by
  rcases List.mem_cons.mp z with z | z
  · obtain ⟨q, e2, _⟩ := t; rw [z, e2] at e; exact n q (Option.some.inj e).symm
  · obtain ⟨q, e2, _⟩ := t2; rw [List.mem_singleton.mp z, e2] at e; exact n q (Option.some.inj e).symm
theorem tab2_book {B Bq : Addr} {H H1 : Hp} {a : Addr} {bk : Book} (t : Tab B H) (t2 : Tab Bq H) (b : BookAt H a bk) (o : Off [B, Bq] H H1) : BookAt H1 a bk := by
  obtain ⟨ps, e, pp⟩ := b
  exact ⟨ps, o _ _ (tab2_no t t2 e fun _ h => by cases h) e, paired_imp (fun b y _ u => o _ _ (tab2_no t t2 u fun _ h => by cases h) u) pp⟩
end BK
namespace L2
open PySem PySem.Spec PyProof.Rows
section
variable {X : Cx}
/-- s.removeprefix(t) -/
theorem mt_removeprefix : MtR X "str.removeprefix" (fun x xs H Q => ∃ a b, x = .str a ∧ xs = [.str b] ∧ a.length ≤ sizeLine ∧ Q (.str (Txt.removeprefix a b)) H) := by
  intro pins s σ H x xs v us Q I rx rs h
  obtain ⟨a, b, rfl, rfl, hz, h⟩ := h
  obtain ⟨t, rfl⟩ := rx
  cases rs with
  | cons r1 rs =>
    cases rs
    obtain ⟨u, rfl⟩ := r1
    exact PySem.SC.removeprefix (hq := fun t' k => ⟨.str _, H, I.tok _, ⟨_, rfl⟩, h⟩) hz
theorem pe_removeprefix {o e : Expr} {to te : TE} {apos pos : Pos} (ho : PE X o to) (he : PE X e te) (hs : starEach [e] X.env = [(false, eval e X.env)] := by rfl) (hbase : attributeBase o "removeprefix" X.env (eval o X.env) = eval o X.env := by rfl) (hline : (apos.endLine == pos.line) = true := by rfl) :
    PE X (.Call (.Attribute o "removeprefix" apos) [e] [] pos) (tM1 (fun x xs H Q => ∃ a b, x = .str a ∧ xs = [.str b] ∧ a.length ≤ sizeLine ∧ Q (.str (Txt.removeprefix a b)) H) to te) :=
  pe_m1 F.slot_str_removeprefix F.type_str_removeprefix mt_removeprefix ho he hs hbase hline
/-- f"{e}c{g}", e a text and g a number -/
def tFstr (c : Str) (te tg : TE) : TE := fun σ H Q => te σ H fun x H1 => ∃ a, x = .str a ∧ a.length + c.length ≤ sizeLine ∧ tg σ H1 fun y H2 => ∃ n, y = .int n ∧ n.natAbs.log2 < 1920 ∧ a.length + c.length + (Str.ofString (toString n)).length ≤ sizeLine ∧ Q (.str (a ++ c ++ Str.ofString (toString n))) H2
end
end L2
namespace BK
open PySem PySem.Spec PyProof.Rows L2 TL
/-- a number's writing -/
def zt (n : Int) : Str := Str.ofString (toString n)
theorem tl_zt_pos {n : Int} (h : 0 ≤ n) : tl (zt n) = numL n.toNat := by
  have e : n = ((n.toNat : Nat) : Int) := by omega
  unfold zt
  rw [e, tl_num]; rfl
theorem tl_zt_neg (m : Nat) : tl (zt (Int.negSucc m)) = 45 :: numL (m + 1) := by
  have e : toString (Int.negSucc m) = "-" ++ Nat.repr (m + 1) := rfl
  unfold zt
  rw [e, tl_ofString, String.toList_append, List.map_append]
  have e2 := tl_num (m + 1)
  rw [tl_ofString] at e2
  rw [← e2]; rfl
theorem zt_free {n : Int} {s : Nat} (h : s < 48 ∨ 57 < s) (h45 : s ≠ 45) : s ∉ tl (zt n) := by
  cases n with
  | ofNat m => rw [tl_zt_pos (n := Int.ofNat m) (Int.natCast_nonneg m)]; exact numL_free h
  | negSucc m =>
    rw [tl_zt_neg]
    intro hm
    rcases List.mem_cons.mp hm with e | e
    · exact h45 e
    · exact numL_free h e
theorem zt_int {n : Int} (h : (zt n).length ≤ 4300) : intText? (zt n) = some n := by
  cases n with
  | ofNat m => exact int_num (by rw [len_tl, tl_zt_pos (n := Int.ofNat m) (Int.natCast_nonneg m)] at h; exact h)
  | negSucc m =>
    have e := intText_neg (x := zt (Int.negSucc m)) (tl_zt_neg m) (numL_digits _) (numL_ne _) h
    rw [numL_val] at e
    exact e
/-- the figures of a number's writing -/
def figs : List Nat → List Nat
  | 45 :: r => r
  | l => l
/-- what is_number tells -/
def wriB (x : Str) : Bool := decide (tl x = [48]) || (decide (figs (tl x) ≠ []) && decide ((figs (tl x)).head? ≠ some 48) && (figs (tl x)).all fun c => decide (48 ≤ c) && decide (c ≤ 57))
theorem numL_head : ∀ n : Nat, 0 < n → (numL n).head? ≠ some 48 := by
  intro n
  induction n using Nat.strongRecOn with
  | _ n ih =>
    intro h0
    by_cases h : n < 10
    · rw [numL_lt h]; intro e; injection e with e; omega
    · rw [numL_step (by omega)]
      have := ih (n / 10) (by omega) (by omega)
      cases e : numL (n / 10) with
      | nil => exact absurd e (numL_ne _)
      | cons a r => rw [e] at this; exact this
theorem numL_all (n : Nat) : ((numL n).all fun c => decide (48 ≤ c) && decide (c ≤ 57)) = true := by
  rw [List.all_eq_true]
  intro c hc
  have := numL_digits n c hc
  simp; omega
theorem figs_num (n : Nat) : figs (numL n) = numL n := by
  cases e : numL n with
  | nil => rfl
  | cons a r =>
    have h := numL_digits n a (by rw [e]; simp)
    unfold figs
    split
    · rename_i h2; injection h2 with h2 _; omega
    · rfl
theorem wriB_zt (n : Int) : wriB (zt n) = true := by
  unfold wriB
  cases n with
  | ofNat m =>
    rw [tl_zt_pos (n := Int.ofNat m) (Int.natCast_nonneg m)]
    show (decide (numL m = [48]) || _) = true
    cases m with
    | zero => rw [numL_lt (by decide)]; rfl
    | succ m =>
      show (_ || (decide (figs (numL (m + 1)) ≠ []) && decide ((figs (numL (m + 1))).head? ≠ some 48) && (figs (numL (m + 1))).all _)) = true
      rw [figs_num, numL_all, decide_eq_true (numL_ne _), decide_eq_true (numL_head _ (by omega))]
      simp
  | negSucc m =>
    rw [tl_zt_neg]
    show (_ || (decide (numL (m + 1) ≠ []) && decide ((numL (m + 1)).head? ≠ some 48) && (numL (m + 1)).all _)) = true
    rw [numL_all, decide_eq_true (numL_ne _), decide_eq_true (numL_head _ (by omega))]
    simp
/-- text.removeprefix("-") -/
theorem tl_remove (x : Str) : tl (Txt.removeprefix x "-") = figs (tl x) := by
  rw [PySem.StrLaws.removeprefix_eq, PySem.StrLaws.subAt_eq]
  have el : ("-" : Str).length = 1 := rfl
  have et : ("-" : Str).cps.toList = [45] := by decide +kernel
  have en := len_tl x
  rw [el, et, List.drop_zero]
  show tl (if (decide (0 + 1 ≤ x.length) && ((tl x).take 1 == [45])) = true then ⟨(((tl x).drop 1).take (x.length - 1)).toArray⟩ else x) = _
  rw [en]
  cases e : tl x with
  | nil => rw [if_neg (by simp)]; exact e
  | cons c r =>
    by_cases hc : c = 45
    · subst hc
      rw [if_pos (by simp)]
      show ((45 :: r).drop 1).take ((45 :: r).length - 1) = r
      simp
    · rw [if_neg (by simpa using hc), e]
      unfold figs
      split
      · rename_i h2; injection h2 with h2 _; exact absurd h2 hc
      · rfl
/-- the writing of a word and its weight, and of a book -/
def entW (y : Str × Int) : Str := y.1 ++ "=" ++ zt y.2
def bkW (bk : Book) : Str := if bk = [] then "-" else Txt.join " " (bk.map entW)
theorem small_free {z : Str} (h : (ch z).all isSmall = true) {s : Nat} (hs : s < 97) : s ∉ tl z := fun hm => by
  have := List.all_eq_true.mp h s hm
  unfold isSmall at this
  simp at this; omega
theorem ent_free {y : Str × Int} (h : (ch y.1).all isSmall = true) : 32 ∉ tl (entW y) := by
  unfold entW
  rw [tl_append, tl_append]
  intro hm
  rcases List.mem_append.mp hm with e | e
  · rcases List.mem_append.mp e with e | e
    · exact small_free h (by decide) e
    · revert e; decide
  · exact zt_free (by decide) (by decide) e
theorem bk_split {bk : Book} (h0 : bk ≠ []) (h : ∀ y ∈ bk, (ch y.1).all isSmall = true) : Txt.split (Txt.join " " (bk.map entW)) " " = bk.map entW :=
  split_join (y := " ") (s := 32) (S := []) rfl (by decide +kernel) (fun e => h0 (List.map_eq_nil_iff.mp e)) fun p hp => by
    obtain ⟨y, hy, rfl⟩ := List.mem_map.mp hp
    exact ent_free (h y hy)
/-- books that are written and read back: small words, weights of few figures -/
def BkOk (bk : Book) : Prop := bookB bk = true ∧ (∀ y ∈ bk, y.2.natAbs < 10 ^ 39) ∧ bk.length ≤ 60
theorem BkOk.small {bk : Book} (h : BkOk bk) : ∀ y ∈ bk, wordB y.1 = true := by
  have := h.1
  unfold bookB at this
  rw [Bool.and_eq_true] at this
  exact fun y hy => List.all_eq_true.mp this.1 y hy
theorem word_small {z : Str} (h : wordB z = true) : (ch z).all isSmall = true := by
  unfold wordB at h
  rw [Bool.and_eq_true] at h
  exact h.1
theorem word_len {z : Str} (h : wordB z = true) : z.length ≤ 12 := by
  unfold wordB at h
  rw [Bool.and_eq_true] at h
  exact (of_decide_eq_true h.2).2
theorem sign_fig (c : Nat) : signIn "0" "9" c = (decide (48 ≤ c) && decide (c ≤ 57)) := by
  have ha : (Str.ofString "0").cps.toList = [48] := by decide +kernel
  have hz : (Str.ofString "9").cps.toList = [57] := by decide +kernel
  unfold signIn
  rw [ha, hz]
  have e1 : ([c] < [48]) ↔ c < 48 := by simp [List.cons_lt_cons_iff]
  have e2 : ([57] < [c]) ↔ 57 < c := by simp [List.cons_lt_cons_iff]
  rw [Bool.eq_iff_iff]
  simp [e1, e2]
theorem allIn_fig (z : Str) : allIn "0" "9" z = (ch z).all fun c => decide (48 ≤ c) && decide (c ≤ 57) := by
  unfold allIn
  exact congrArg _ (funext sign_fig)
theorem is_nought (z : Str) : z = "0" ↔ tl z = [48] := ⟨fun h => by rw [h]; decide +kernel, fun h => ext_tl (h.trans (by decide +kernel))⟩
theorem is_empty (z : Str) : z = "" ↔ tl z = [] := ⟨fun h => by rw [h]; decide +kernel, fun h => ext_tl (h.trans (by decide +kernel))⟩
theorem one_nought (c : Nat) : (⟨#[c]⟩ : Str) = "0" ↔ c = 48 := by
  rw [is_nought]; show [c] = [48] ↔ _; simp
theorem atI_head (c : Nat) (r : List Nat) : atI (c :: r) 0 = some c := by
  unfold atI ixN
  rw [if_pos (by decide)]
  have h : ((0 : Int) < ((c :: r).length : Nat)) := by rw [List.length_cons]; omega
  first | rw [if_pos h]; rfl | (simp)
theorem figs_len (l : List Nat) : (figs l).length ≤ l.length := by
  unfold figs; split <;> simp
/-- three tables of code -/
structure Tb3 (B B2 B3 : Addr) (H : Hp) : Prop where
  t1 : Tab B H
  t2 : Tab B2 H
  t3 : Tab B3 H
  n1 : B2 ≠ B
  n2 : B3 ≠ B
  n3 : B3 ≠ B2
theorem Tb3.same {B B2 B3 : Addr} {H H1 : Hp} (w : Tb3 B B2 B3 H) (s : Same H H1) : Tb3 B B2 B3 H1 := ⟨w.t1.same s, w.t2.same s, w.t3.same s, w.n1, w.n2, w.n3⟩
theorem Tb3.off3 {B B2 B3 : Addr} {H H1 : Hp} (w : Tb3 B B2 B3 H) (o : Off [B3] H H1) (t : Tab B3 H1) : Tb3 B B2 B3 H1 :=
  ⟨w.t1.off o (by simpa using w.n2.symm), w.t2.off o (by simpa using w.n3.symm), t, w.n1, w.n2, w.n3⟩
theorem Tb3.off12 {B B2 B3 : Addr} {H H1 : Hp} (w : Tb3 B B2 B3 H) (o : Off [B, B2] H H1) (t : Tab B H1) (t2 : Tab B2 H1) : Tb3 B B2 B3 H1 :=
  ⟨t, t2, w.t3.off o (by simp [w.n2, w.n3]), w.n1, w.n2, w.n3⟩
theorem Tb3.no {B B2 B3 a : Addr} {H : Hp} {o : HO} (w : Tb3 B B2 B3 H) (e : H a = some o) (h : ∀ ps, o ≠ .tbl ps) : a ∉ [B, B2, B3] := by
  obtain ⟨p1, e1, _⟩ := w.t1
  obtain ⟨p2, e2, _⟩ := w.t2
  obtain ⟨p3, e3, _⟩ := w.t3
  intro hm
  simp only [List.mem_cons, List.not_mem_nil, or_false] at hm
  rcases hm with rfl | rfl | rfl
  · rw [e1] at e; injection e with e; exact h _ e.symm
  · rw [e2] at e; injection e with e; exact h _ e.symm
  · rw [e3] at e; injection e with e; exact h _ e.symm
theorem Tb3.lst {B B2 B3 a : Addr} {H H1 : Hp} (w : Tb3 B B2 B3 H) {xs : List V} (e : H a = some (.lst xs)) (o : Off [B, B2, B3] H H1) : H1 a = some (.lst xs) := o _ _ (w.no e fun _ h => by cases h) e
theorem Tb3.tup {B B2 B3 a : Addr} {H H1 : Hp} (w : Tb3 B B2 B3 H) {xs : List V} (e : H a = some (.tup xs)) (o : Off [B, B2, B3] H H1) : H1 a = some (.tup xs) := o _ _ (w.no e fun _ h => by cases h) e
theorem Tb3.bk {B B2 B3 a : Addr} {H H1 : Hp} {bk : Book} (w : Tb3 B B2 B3 H) (h : BookAt H a bk) (o : Off [B, B2, B3] H H1) : BookAt H1 a bk := by
  obtain ⟨ps, e, pp⟩ := h
  exact ⟨ps, w.lst e o, paired_imp (fun b y _ t => w.tup t o) pp⟩
theorem Tb3.non {B B2 B3 a : Addr} {H H1 : Hp} (w : Tb3 B B2 B3 H1) (o : Off [B, B2, B3] H H1) (h : H1 a = none) : H a = none := o.none (by
  simp only [List.mem_cons, List.not_mem_nil, or_false]
  rintro (e | e | e)
  · exact w.t1.ne h e
  · exact w.t2.ne h e
  · exact w.t3.ne h e) h
theorem Tab.upd {B D : Addr} {H : Hp} {o : HO} (t : Tab B H) (n : D ≠ B) : Tab B (L2.upd H D o) := by
  obtain ⟨ps, e, r⟩ := t
  exact ⟨ps, by rw [upd_ne (Ne.symm n)]; exact e, r⟩
theorem Tb3.upd {B B2 B3 D : Addr} {H : Hp} {o : HO} (w : Tb3 B B2 B3 H) (n : D ∉ [B, B2, B3]) : Tb3 B B2 B3 (L2.upd H D o) := by
  simp only [List.mem_cons, List.not_mem_nil, or_false, not_or] at n
  exact ⟨w.t1.upd n.1, w.t2.upd n.2.1, w.t3.upd n.2.2, w.n1, w.n2, w.n3⟩
end BK
namespace L2
open PySem PySem.Spec PyProof.Rows
section
variable {X : Cx}
/-- s.strip(signs) -/
theorem mt_stripC : MtR X "str.strip" (fun x xs H Q => ∃ a b, x = .str a ∧ xs = [.str b] ∧ a.length ≤ sizeLine ∧ Q (.str (Txt.stripChars a b)) H) := by
  intro pins s σ H x xs v us Q I rx rs h
  obtain ⟨a, b, rfl, rfl, hz, h⟩ := h
  obtain ⟨t, rfl⟩ := rx
  cases rs with
  | cons r1 rs =>
    cases rs
    obtain ⟨u, rfl⟩ := r1
    exact PySem.SC.stripChars (hq := fun t' k => ⟨.str _, H, I.tok _, ⟨_, rfl⟩, h⟩) hz
theorem pe_stripC {o e : Expr} {to te : TE} {apos pos : Pos} (ho : PE X o to) (he : PE X e te) (hs : starEach [e] X.env = [(false, eval e X.env)] := by rfl) (hbase : attributeBase o "strip" X.env (eval o X.env) = eval o X.env := by rfl) (hline : (apos.endLine == pos.line) = true := by rfl) :
    PE X (.Call (.Attribute o "strip" apos) [e] [] pos) (tM1 (fun x xs H Q => ∃ a b, x = .str a ∧ xs = [.str b] ∧ a.length ≤ sizeLine ∧ Q (.str (Txt.stripChars a b)) H) to te) :=
  pe_m1 F.slot_str_strip F.type_str_strip mt_stripC ho he hs hbase hline
end
end L2
namespace BK
open PySem PySem.Spec PyProof.Rows L2 TL
theorem drop_takeWhile {α : Type} (p : α → Bool) : ∀ l : List α, l.drop (l.takeWhile p).length = l.dropWhile p
  | [] => rfl
  | a :: r => by
    rw [List.takeWhile_cons, List.dropWhile_cons]
    by_cases h : p a = true
    · rw [if_pos h, if_pos h]; exact drop_takeWhile p r
    · rw [if_neg h, if_neg h]; rfl
theorem takeWhile_len {α : Type} (p : α → Bool) (l : List α) : (l.takeWhile p).length ≤ l.length := by
  induction l with
  | nil => exact Nat.le_refl _
  | cons a r ih =>
    rw [List.takeWhile_cons]
    split
    · simp; exact ih
    · simp
theorem takeWhile_full {α : Type} (p : α → Bool) : ∀ l : List α, (l.takeWhile p).length = l.length → ∀ c ∈ l, p c = true
  | [], _, c, hc => by cases hc
  | a :: r, h, c, hc => by
    rw [List.takeWhile_cons] at h
    by_cases ha : p a = true
    · rw [if_pos ha] at h
      rcases List.mem_cons.mp hc with rfl | hc
      · exact ha
      · exact takeWhile_full p r (by simpa using h) c hc
    · rw [if_neg ha] at h; simp at h
theorem takeWhile_all' {α : Type} (p : α → Bool) : ∀ l : List α, (∀ c ∈ l, p c = true) → l.takeWhile p = l
  | [], _ => rfl
  | a :: r, h => by
    rw [List.takeWhile_cons, if_pos (h a (by simp)), takeWhile_all' p r fun c hc => h c (by simp [hc])]
theorem dropWhile_head {α : Type} (p : α → Bool) : ∀ l : List α, (∃ c ∈ l, p c = false) → ∃ c r, l.dropWhile p = c :: r ∧ p c = false
  | [], h => by obtain ⟨c, hc, _⟩ := h; cases hc
  | a :: r, h => by
    rw [List.dropWhile_cons]
    by_cases ha : p a = true
    · rw [if_pos ha]
      obtain ⟨c, hc, hp⟩ := h
      rcases List.mem_cons.mp hc with rfl | hc
      · rw [ha] at hp; cases hp
      · exact dropWhile_head p r ⟨c, hc, hp⟩
    · rw [if_neg ha]; exact ⟨a, r, rfl, by simpa using ha⟩
/-- nothing is left of a text just where all its signs are among those -/
theorem strip_none (x y : Str) : Txt.stripChars x y = "" ↔ ∀ c ∈ tl x, y.cps.contains c = true := by
  rw [is_empty]
  unfold Txt.stripChars
  rw [stripBy_eq, tl_strSub]
  unfold stripHi stripLo
  rw [if_pos rfl, if_pos rfl]
  show ((tl x).drop ((tl x).takeWhile y.cps.contains).length).take (x.length - (((tl x).drop ((tl x).takeWhile y.cps.contains).length).reverse.takeWhile y.cps.contains).length - ((tl x).takeWhile y.cps.contains).length) = [] ↔ _
  rw [drop_takeWhile, len_tl]
  constructor
  · intro h
    refine Classical.byContradiction fun hn => ?_
    have h1 : ∃ c ∈ tl x, y.cps.contains c = false := by
      refine Classical.byContradiction fun h2 => hn fun c hc => ?_
      cases e : y.cps.contains c with
      | true => rfl
      | false => exact absurd ⟨c, hc, e⟩ h2
    obtain ⟨c, r, e1, e2⟩ := dropWhile_head _ _ h1
    have e3 : (tl x).length = ((tl x).takeWhile y.cps.contains).length + ((tl x).dropWhile y.cps.contains).length := by
      rw [← List.length_append, List.takeWhile_append_dropWhile]
    rw [e1] at h e3
    have l1 := takeWhile_len y.cps.contains (c :: r).reverse
    have l2 : ((c :: r).reverse.takeWhile y.cps.contains).length ≠ (c :: r).reverse.length := fun e => by
      have := takeWhile_full _ _ e c (by simp)
      rw [this] at e2; cases e2
    rw [List.length_reverse] at l1 l2
    have : 0 < (tl x).length - ((c :: r).reverse.takeWhile y.cps.contains).length - ((tl x).takeWhile y.cps.contains).length := by omega
    cases e4 : (tl x).length - ((c :: r).reverse.takeWhile y.cps.contains).length - ((tl x).takeWhile y.cps.contains).length with
    | zero => omega
    | succ m => rw [e4] at h; simp at h
  · intro h
    have : (tl x).dropWhile y.cps.contains = [] := by
      have e := List.takeWhile_append_dropWhile (p := y.cps.contains) (l := tl x)
      rw [takeWhile_all' _ _ h] at e
      exact List.append_cancel_left (e.trans (List.append_nil _).symm)
    rw [this]; simp
/-! ### all parts of a text -/
theorem splits {y : Str} {s : Nat} (ey : tl y = [s]) : ∀ (n : Nat) (t : Str), (tl t).length ≤ n → ∃ parts : List Str, parts ≠ [] ∧ t = Str.join y parts ∧ ∀ q ∈ parts, s ∉ tl q
  | n, t, hn => by
    by_cases h : s ∈ tl t
    · obtain ⟨a, b, e, ha⟩ := List.eq_append_cons_of_mem h
      cases n with
      | zero => rw [e] at hn; simp at hn
      | succ n =>
        obtain ⟨parts, h1, h2, h3⟩ := splits ey n ⟨b.toArray⟩ (by rw [e] at hn; show b.length ≤ n; simp at hn; omega)
        refine ⟨⟨a.toArray⟩ :: parts, by simp, ?_, fun q hq => ?_⟩
        · cases parts with
          | nil => exact absurd rfl h1
          | cons z r =>
            show t = ⟨a.toArray⟩ ++ y ++ Str.join y (z :: r)
            rw [← h2]
            refine ext_tl ?_
            rw [tl_append, tl_append, ey, e, tl_mk, tl_mk]; simp
        · rcases List.mem_cons.mp hq with rfl | hq
          · exact ha
          · exact h3 q hq
    · exact ⟨[t], by simp, rfl, fun q hq => by rw [List.mem_singleton.mp hq]; exact h⟩
theorem split_all {y : Str} {s : Nat} (ey : tl y = [s]) (hk : y.cps.all (· < 256) = true) (t : Str) : Txt.split t y ≠ [] ∧ t = Txt.join y (Txt.split t y) ∧ ∀ q ∈ Txt.split t y, s ∉ tl q := by
  obtain ⟨parts, h1, h2, h3⟩ := splits ey _ t (Nat.le_refl _)
  have e : Txt.split t y = parts := by rw [h2, ← join_eq]; exact split_join (S := []) ey hk h1 h3
  rw [e]
  exact ⟨h1, by rw [join_eq]; exact h2, h3⟩
/-! ### numbers -/
theorem num_of {ds : List Nat} (h0 : ds ≠ []) (hd : NumText.AllDigits ds) (hh : ds.head? ≠ some 48) : 0 < NumText.digitsVal ds ∧ numL (NumText.digitsVal ds) = ds := by
  cases ds with
  | nil => exact absurd rfl h0
  | cons c r =>
    have hc := hd c (by simp)
    have c1 : 49 ≤ c := by
      have : c ≠ 48 := fun e => hh (by rw [e]; rfl)
      omega
    refine ⟨NumText.digitsVal_pos c1, ?_⟩
    unfold numL
    rw [NumText.toDigits_digitsVal r.length (c :: r) (by simp) hd (.inr ⟨c, r, rfl, c1⟩), List.map_map]
    refine (List.map_congr_left fun d hd2 => ?_).trans (List.map_id _)
    have := hd d hd2
    show (Char.ofNat d).toNat = d
    have : ∀ d : Nat, d < 58 → (Char.ofNat d).toNat = d := by decide
    exact this d (by omega)
theorem wriB_iff (x : Str) : wriB x = true ↔ ∃ n : Int, x = zt n := by
  constructor
  · intro h
    unfold wriB at h
    rw [Bool.or_eq_true, Bool.and_eq_true, Bool.and_eq_true, decide_eq_true_iff, decide_eq_true_iff, decide_eq_true_iff] at h
    rcases h with h | ⟨⟨h1, h2⟩, h3⟩
    · exact ⟨0, ext_tl (by rw [tl_zt_pos (by decide), h]; decide +kernel)⟩
    · have hd : NumText.AllDigits (figs (tl x)) := fun c hc => by
        have := List.all_eq_true.mp h3 c hc
        simp at this; omega
      obtain ⟨p, e⟩ := num_of h1 hd h2
      generalize NumText.digitsVal (figs (tl x)) = m at p e
      cases ex : tl x with
      | nil => rw [ex] at h1; exact absurd rfl h1
      | cons c r =>
        by_cases hc : c = 45
        · subst hc
          obtain ⟨k, rfl⟩ : ∃ k, m = k + 1 := ⟨m - 1, by omega⟩
          refine ⟨Int.negSucc k, ext_tl ?_⟩
          rw [tl_zt_neg, ex, e, ex]; rfl
        · refine ⟨(m : Int), ext_tl ?_⟩
          rw [tl_zt_pos (Int.natCast_nonneg m)]
          show tl x = numL m
          rw [e, ex]
          unfold figs
          split
          · rename_i h5; injection h5 with h5 _; exact absurd h5 hc
          · rfl
  · rintro ⟨n, rfl⟩; exact wriB_zt n
end BK
namespace BK
open PySem PySem.Spec PyProof.Rows L2 TL
theorem zt_inj {m n : Int} (h : zt m = zt n) : m = n := by
  have e : tl (zt m) = tl (zt n) := by rw [h]
  have no : ∀ (k l : Nat), numL k ≠ 45 :: numL l := fun k l e => by
    have := numL_digits k 45 (by rw [e]; simp)
    omega
  cases m with
  | ofNat k =>
    cases n with
    | ofNat l =>
      rw [tl_zt_pos (n := Int.ofNat k) (Int.natCast_nonneg k), tl_zt_pos (n := Int.ofNat l) (Int.natCast_nonneg l)] at e
      have := numL_inj e
      exact congrArg Int.ofNat this
    | negSucc l =>
      rw [tl_zt_pos (n := Int.ofNat k) (Int.natCast_nonneg k), tl_zt_neg] at e
      exact absurd e (no _ _)
  | negSucc k =>
    cases n with
    | ofNat l =>
      rw [tl_zt_pos (n := Int.ofNat l) (Int.natCast_nonneg l), tl_zt_neg] at e
      exact absurd e.symm (no _ _)
    | negSucc l =>
      rw [tl_zt_neg, tl_zt_neg] at e
      injection e with _ e
      have := numL_inj e
      exact congrArg Int.negSucc (by omega)
theorem numL_up : ∀ n : Nat, n < 10 ^ (numL n).length := by
  intro n
  induction n using Nat.strongRecOn with
  | _ n ih =>
    by_cases h : n < 10
    · rw [numL_lt h]; simpa using h
    · rw [numL_step (by omega), List.length_append]
      have h1 := ih (n / 10) (by omega)
      show n < 10 ^ ((numL (n / 10)).length + 1)
      rw [Nat.pow_succ]
      omega
theorem zt_up {n : Int} : n.natAbs < 10 ^ (zt n).length := by
  rw [len_tl]
  cases n with
  | ofNat m => rw [tl_zt_pos (n := Int.ofNat m) (Int.natCast_nonneg m)]; exact numL_up m
  | negSucc m =>
    rw [tl_zt_neg, List.length_cons]
    exact Nat.lt_of_lt_of_le (numL_up (m + 1)) (Nat.pow_le_pow_right (by decide) (by omega))
theorem log_560 {n : Int} (h : (zt n).length ≤ 560) : n.natAbs.log2 < 1920 := by
  by_cases h0 : n.natAbs = 0
  · rw [h0]; decide
  · exact (Nat.log2_lt h0).mpr (Nat.lt_of_lt_of_le (zt_up (n := n)) (Nat.le_trans (Nat.pow_le_pow_right (by decide) h) (by decide +kernel)))
theorem ent_part {y : Str × Int} (h : 61 ∉ tl y.1) : Txt.partition (entW y) "=" = (y.1, ("=" : Str), zt y.2) := partition_app (y := "=") (s := 61) (S := []) rfl h
theorem ent_cases (p : Str) : (∃ y : Str × Int, p = entW y ∧ 61 ∉ tl y.1) ∨ ((¬ ∃ y : Str × Int, p = entW y ∧ 61 ∉ tl y.1) ∧ wriB (Txt.partition p "=").2.2 = false) := by
  by_cases h : 61 ∈ tl p
  · obtain ⟨a, b, e, ha⟩ := List.eq_append_cons_of_mem h
    have ep : p = ⟨a.toArray⟩ ++ "=" ++ ⟨b.toArray⟩ := ext_tl (by rw [tl_append, tl_append, e, tl_mk, tl_mk]; show _ = a ++ [61] ++ b; simp)
    have ht : Txt.partition p "=" = ((⟨a.toArray⟩ : Str), ("=" : Str), (⟨b.toArray⟩ : Str)) := by rw [ep]; exact partition_app (y := "=") (s := 61) (S := []) rfl ha
    cases hw : wriB ⟨b.toArray⟩ with
    | true =>
      obtain ⟨n, hn⟩ := (wriB_iff _).mp hw
      exact .inl ⟨(⟨a.toArray⟩, n), by rw [ep, hn]; rfl, ha⟩
    | false =>
      refine .inr ⟨?_, by rw [ht]; exact hw⟩
      rintro ⟨y, e1, e2⟩
      have := ent_part e2
      rw [← e1, ht] at this
      injection this with _ this
      injection this with _ this
      rw [this, wriB_zt] at hw; cases hw
  · refine .inr ⟨?_, ?_⟩
    · rintro ⟨y, e1, e2⟩
      refine h ?_
      rw [e1]
      unfold entW
      rw [tl_append, tl_append]
      exact List.mem_append.mpr (.inl (List.mem_append.mpr (.inr (by decide +kernel))))
    · rw [show Txt.partition p "=" = (p, Str.empty, Str.empty) from partition_none (y := "=") (s := 61) (S := []) rfl h]
      show wriB Str.empty = false
      decide +kernel
theorem ent_inj' {y z : Str × Int} (hy : 61 ∉ tl y.1) (hz : 61 ∉ tl z.1) (e : entW y = entW z) : y = z := by
  have e1 := ent_part hy
  rw [e, ent_part hz] at e1
  injection e1 with e1 e2
  injection e2 with _ e2
  exact Prod.ext e1.symm (zt_inj e2.symm)
theorem ents_inj : ∀ {a b : Book}, (∀ y ∈ a, 61 ∉ tl y.1) → (∀ y ∈ b, 61 ∉ tl y.1) → a.map entW = b.map entW → a = b
  | [], [], _, _, _ => rfl
  | [], _ :: _, _, _, e => by cases e
  | _ :: _, [], _, _, e => by cases e
  | y :: r, z :: q, ha, hb, e => by
    injection e with e1 e2
    rw [ent_inj' (ha y (by simp)) (hb z (by simp)) e1, ents_inj (fun x hx => ha x (by simp [hx])) (fun x hx => hb x (by simp [hx])) e2]
theorem book_words {bk : Book} (h : bookB bk = true) : ∀ y ∈ bk, wordB y.1 = true := by
  unfold bookB at h
  rw [Bool.and_eq_true] at h
  exact fun y hy => List.all_eq_true.mp h.1 y hy
theorem book_free {bk : Book} (h : bookB bk = true) : ∀ y ∈ bk, 61 ∉ tl y.1 := fun y hy => small_free (word_small (book_words h y hy)) (by decide)
/-- the text writes a book -/
def Wri (t : Str) : Prop := ∃ bk, t = bkW bk ∧ bookB bk = true
theorem bk_parts {t : Str} (h0 : t ≠ "-") {bk : Book} (e : t = bkW bk) (hb : bookB bk = true) : Txt.split t " " = bk.map entW ∧ bk ≠ [] := by
  have h1 : bk ≠ [] := fun z => h0 (by rw [e, z]; rfl)
  unfold bkW at e
  rw [if_neg h1] at e
  exact ⟨by rw [e]; exact bk_split h1 fun y hy => word_small (book_words hb y hy), h1⟩
theorem parts_bk {t : Str} {bk : Book} (e : Txt.split t " " = bk.map entW) : t = bkW bk ∧ bk ≠ [] := by
  obtain ⟨h1, h2, _⟩ := split_all (y := " ") (s := 32) rfl (by decide +kernel) t
  have h3 : bk ≠ [] := fun z => h1 (by rw [e, z]; rfl)
  unfold bkW
  rw [if_neg h3, ← e]
  exact ⟨h2, h3⟩
theorem join_ge (y : Str) : ∀ ps : List Str, (ps.map (·.length)).sum ≤ (Str.join y ps).length
  | [] => Nat.le_refl _
  | [x] => by simp [Str.join]
  | x :: z :: r => by
    have ih := join_ge y (z :: r)
    show _ ≤ (x ++ y ++ Str.join y (z :: r)).length
    rw [strLen_append, strLen_append, List.map_cons, List.sum_cons]
    omega
theorem split_len (t : Str) : ((Txt.split t " ").map (·.length)).sum ≤ t.length := by
  obtain ⟨h1, h2, _⟩ := split_all (y := " ") (s := 32) rfl (by decide +kernel) t
  have := join_ge " " (Txt.split t " ")
  rw [← join_eq, ← h2] at this
  exact this
theorem split_part {t p : Str} (h : p ∈ Txt.split t " ") : p.length ≤ t.length := by
  have h1 := split_len t
  have h2 : ∀ l : List Str, p ∈ l → p.length ≤ (l.map (·.length)).sum := by
    intro l
    induction l with
    | nil => intro h; cases h
    | cons a r ih =>
      intro h
      rw [List.map_cons, List.sum_cons]
      rcases List.mem_cons.mp h with rfl | h
      · omega
      · have := ih h; omega
  exact Nat.le_trans (h2 _ h) h1
theorem ent_pos (y : Str × Int) : y.1.length + 1 + (zt y.2).length = (entW y).length := by
  unfold entW
  rw [strLen_append, strLen_append]
  rfl
/-- books whose writing is no longer than that -/
structure Bk5 (bk : Book) : Prop where
  ok : bookB bk = true
  zt : ∀ y ∈ bk, (zt y.2).length ≤ 560
  len : bk.length ≤ 561
theorem bk_ne' {b : Book} (hb : bookB b = true) (h0 : b ≠ []) : bkW b ≠ "-" := fun e => by
  unfold bkW at e
  rw [if_neg h0] at e
  have e1 := bk_split h0 fun y hy => word_small (book_words hb y hy)
  rw [e] at e1
  have e2 : Txt.split ("-" : Str) " " = ([("-" : Str)] : List Str) := split_join (y := " ") (s := 32) (S := []) (parts := [("-" : Str)]) rfl (by decide +kernel) (by simp) (by decide +kernel)
  rw [e2] at e1
  cases b with
  | nil => exact h0 rfl
  | cons y r =>
    injection e1 with e1 _
    have : 61 ∈ tl (entW y) := by unfold entW; rw [tl_append, tl_append]; exact List.mem_append.mpr (.inl (List.mem_append.mpr (.inr (by decide +kernel))))
    rw [← e1] at this
    revert this; decide +kernel
theorem bk5_of {bk : Book} (hb : bookB bk = true) (hl : (bkW bk).length ≤ 560) : Bk5 bk := by
  by_cases h0 : bk = []
  · subst h0; exact ⟨hb, (fun y hy => nomatch hy), Nat.zero_le _⟩
  · have hp := (bk_parts (bk_ne' hb h0) rfl hb).1
    have hs := split_len (bkW bk)
    rw [hp] at hs
    refine ⟨hb, fun y hy => ?_, ?_⟩
    · have h1 := split_part (t := bkW bk) (p := entW y) (by rw [hp]; exact List.mem_map.mpr ⟨y, hy, rfl⟩)
      have h2 := ent_pos y
      omega
    · have h2 : ∀ l : Book, l.length ≤ ((l.map entW).map (·.length)).sum := by
        intro l
        induction l with
        | nil => exact Nat.le_refl _
        | cons y r ih =>
          have := ent_pos y
          rw [List.map_cons, List.map_cons, List.sum_cons, List.length_cons]
          omega
      have := h2 bk
      omega
/-- no text -/
def NoStr (K : PySem.W.Frag) (H : Hp) (v : V) : Prop := ∃ t, TyOf K H v t ∧ PySem.W.kitOne K t (.type "str") = some false
end BK
namespace L2
open PySem PySem.Spec PyProof.Rows
/-! ### repr of what is handed in -/
/-- things by their data: None, bools, numbers, texts, lists and tuples of texts, an empty dict -/
inductive Th (H : Hp) : V → PyData → Prop
  | non : Th H .non .none
  | bl (b : Bool) : Th H (.bl b) (.bool b)
  | int {i : Int} (h : i.natAbs.log2 < 1920) : Th H (.int i) (.int i)
  | str (z : Str) : Th H (.str z) (.str z)
  | lst {a : Addr} {ys : List Str} (e : H a = some (.lst (ys.map V.str))) : Th H (.ref a) (.list (ys.map PyData.str))
  | tup {a : Addr} {ys : List Str} (e : H a = some (.tup (ys.map V.str))) : Th H (.ref a) (.tuple (ys.map PyData.str))
  | dK {a : Addr} (e : H a = some (.dK [])) : Th H (.ref a) (.dict [])
theorem Th.offK {H H' : Hp} {v : V} {d : PyData} (n : Th H v d) (key : ∀ {a : Addr} {o : HO}, v = .ref a → H a = some o → (∀ ps, o ≠ .tbl ps) → H' a = some o) : Th H' v d := by
  cases n with
  | non => exact .non
  | bl b => exact .bl b
  | int h => exact .int h
  | str z => exact .str z
  | lst e => exact .lst (key rfl e fun _ z => by cases z)
  | tup e => exact .tup (key rfl e fun _ z => by cases z)
  | dK e => exact .dK (key rfl e fun _ z => by cases z)
theorem Th.same {H H' : Hp} {v : V} {d : PyData} (n : Th H v d) (s : Same H H') : Th H' v d := n.offK fun _ e _ => s _ _ e
theorem Th.off {S : List Addr} {H H' : Hp} {v : V} {d : PyData} (n : Th H v d) (hs : ∀ a ∈ S, ∃ ps, H a = some (.tbl ps)) (s : BK.Off S H H') : Th H' v d :=
  n.offK fun {a o} _ e d => s _ _ (fun z => by obtain ⟨ps, q⟩ := hs _ z; rw [e] at q; exact d ps (Option.some.inj q)) e
def rRepr : List V → Hp → VK → Prop := fun vs H Q => ∃ (v : V) (d : PyData), vs = [v] ∧ Th H v d ∧ d.shown.length ≤ sizeLine ∧ Q (.str d.shown) H
theorem dpthStrs : ∀ ys : List Str, PyData.depthAll (ys.map PyData.str) = 0
  | [] => by simp [PyData.depthAll]
  | y :: r => by rw [List.map_cons]; simp only [PyData.depthAll, PyData.depth, dpthStrs r]; rfl
section
variable {X : Cx}
end
end L2
namespace BK
open PySem PySem.Spec PyProof.Rows L2
/-- things of any kind -/
inductive Kin (H : Hp) : V → Prop
  | non : Kin H .non
  | bl (b : Bool) : Kin H (.bl b)
  | int (i : Int) : Kin H (.int i)
  | lst {a : Addr} {xs : List V} (e : H a = some (.lst xs)) : Kin H (.ref a)
  | tup {a : Addr} {xs : List V} (e : H a = some (.tup xs)) : Kin H (.ref a)
  | dK {a : Addr} {kvs : List (Key × V)} (e : H a = some (.dK kvs)) : Kin H (.ref a)
  | str (z : Str) : Kin H (.str z)
theorem Kin.keep {H H' : Hp} {v : V} (n : Kin H v) (key : ∀ {a : Addr} {o : HO}, H a = some o → (∀ ps, o ≠ .tbl ps) → H' a = some o) : Kin H' v := by
  cases n with
  | non => exact .non
  | bl b => exact .bl b
  | int i => exact .int i
  | lst e => exact .lst (key e fun _ z => by cases z)
  | tup e => exact .tup (key e fun _ z => by cases z)
  | dK e => exact .dK (key e fun _ z => by cases z)
  | str h => exact .str h
theorem Kin.same {H H' : Hp} {v : V} (n : Kin H v) (s : Same H H') : Kin H' v := n.keep fun e _ => s _ _ e
theorem Kin.off {S : List Addr} {H H' : Hp} {v : V} (n : Kin H v) (hs : ∀ a ∈ S, ∃ ps, H a = some (.tbl ps)) (s : Off S H H') : Kin H' v :=
  n.keep fun {a o} e d => s _ _ (fun z => by obtain ⟨ps, q⟩ := hs _ z; rw [e] at q; exact d ps (Option.some.inj q)) e
/-- these values are a cut -/
def IsCutV (bk : Book) (z : Str) (xs : List V) : Prop := ∃ ws : List Str, xs = ws.map V.str ∧ (∀ w ∈ ws, w ∈ keys bk) ∧ (ws.map ch).flatten = ch z
/-- the word is one -/
def wdV (bk : Book) : V → Bool
  | .str y => decide (y ∈ keys bk)
  | _ => false
end BK
namespace L2
open PySem PySem.Spec PyProof.Rows BK
def BBS (h : Heap) (mg : Str → Option Value) : Prop := BB h mg ∧ ∃ mm, h.Ns sysModules mm
end L2
namespace L2
open PySem PySem.Spec PyProof.Rows
section
variable {X : Cx}
/-- xs != [], whatever xs holds -/
def rNeL (K : PySem.W.Frag) : R2 := fun x y H Q => ∃ a b xs, x = .ref a ∧ y = .ref b ∧ SqL K H a xs ∧ SqL K H b [] ∧ Q (.bl (!xs.isEmpty)) H
end
end L2
namespace BK
open PySem PySem.Spec PyProof.Rows L2
/-! ### things of mixed kinds, by their data -/
def Low (z : Str) : Prop := ∀ c ∈ ch z, c < 1000
theorem Low.of {z : Str} (h : Small z) : Low z := fun c hc => by have := h c hc; omega
inductive ItV (H : Hp) : V → PyData → Prop
  | non : ItV H .non .none
  | bl (b : Bool) : ItV H (.bl b) (.bool b)
  | int {i : Int} (h : i = 0 ∨ i = 5) : ItV H (.int i) (.int i)
  | str {z : Str} (h : Low z) : ItV H (.str z) (.str z)
  | lst {a : Addr} {ys : List Str} (e : H a = some (.lst (ys.map V.str))) (h : ∀ y ∈ ys, Low y) : ItV H (.ref a) (.list (ys.map PyData.str))
  | tup {a : Addr} {ys : List Str} (e : H a = some (.tup (ys.map V.str))) (h : ∀ y ∈ ys, Low y) : ItV H (.ref a) (.tuple (ys.map PyData.str))
  | dK {a : Addr} (e : H a = some (.dK [])) : ItV H (.ref a) (.dict [])
inductive Tv (H : Hp) : V → PyData → Prop
  | it {v : V} {d : PyData} (h : ItV H v d) : Tv H v d
  | lst {a : Addr} {xs : List V} {ds : List PyData} (e : H a = some (.lst xs)) (p : Paired (ItV H) xs ds) : Tv H (.ref a) (.list ds)
  | dic {a : Addr} {ks : List Str} (e : H a = some (.dK (ks.map fun x => (Sum.inr x, V.int 1)))) (h : ∀ y ∈ ks, Low y) : Tv H (.ref a) (.dict (ks.map fun x => (PyData.str x, PyData.int 1)))
theorem ItV.keep {H H' : Hp} {v : V} {d : PyData} (n : ItV H v d) (key : ∀ {a : Addr} {o : HO}, v = .ref a → H a = some o → (∀ ps, o ≠ .tbl ps) → H' a = some o) : ItV H' v d := by
  cases n with
  | non => exact .non
  | bl b => exact .bl b
  | int h => exact .int h
  | str h => exact .str h
  | lst e h => exact .lst (key rfl e fun _ z => by cases z) h
  | tup e h => exact .tup (key rfl e fun _ z => by cases z) h
  | dK e => exact .dK (key rfl e fun _ z => by cases z)
theorem ItV.same {H H' : Hp} {v : V} {d : PyData} (n : ItV H v d) (s : Same H H') : ItV H' v d := n.keep fun _ e _ => s _ _ e
theorem Tv.keep {H H' : Hp} {v : V} {d : PyData} (n : Tv H v d) (key : ∀ {a : Addr} {o : HO}, H a = some o → (∀ ps, o ≠ .tbl ps) → H' a = some o) : Tv H' v d := by
  cases n with
  | it h => exact .it (h.keep fun _ e n => key e n)
  | lst e p => exact .lst (key e fun _ z => by cases z) (paired_imp (fun a b _ h => h.keep fun _ e n => key e n) p)
  | dic e h => exact .dic (key e fun _ z => by cases z) h
theorem Tv.same {H H' : Hp} {v : V} {d : PyData} (n : Tv H v d) (s : Same H H') : Tv H' v d := n.keep fun e _ => s _ _ e
theorem Tv.off {S : List Addr} {H H' : Hp} {v : V} {d : PyData} (n : Tv H v d) (hs : ∀ a ∈ S, ∃ ps, H a = some (.tbl ps)) (s : Off S H H') : Tv H' v d :=
  n.keep fun {a o} e d => s _ _ (fun z => by obtain ⟨ps, q⟩ := hs _ z; rw [e] at q; exact d ps (Option.some.inj q)) e
theorem ItV.kin {H : Hp} {v : V} {d : PyData} (n : ItV H v d) : Kin H v := by
  cases n with
  | non => exact .non
  | bl b => exact .bl b
  | int h => exact .int _
  | str h => exact .str _
  | lst e h => exact .lst e
  | tup e h => exact .tup e
  | dK e => exact .dK e
theorem Tv.kin {H : Hp} {v : V} {d : PyData} (n : Tv H v d) : Kin H v := by
  cases n with
  | it h => exact h.kin
  | lst e p => exact .lst e
  | dic e h => exact .dK e
theorem paired_memL {α β : Type} {R : α → β → Prop} {as : List α} {bs : List β} (h : Paired R as bs) : ∀ a ∈ as, ∃ b ∈ bs, R a b := by
  induction h with
  | nil => intro a ha; cases ha
  | cons r t ih =>
    intro a ha
    rcases List.mem_cons.mp ha with rfl | ha
    · exact ⟨_, by simp, r⟩
    · obtain ⟨b, hb, hr⟩ := ih a ha
      exact ⟨b, by simp [hb], hr⟩
/-- the items of what is a list -/
theorem Tv.items {H : Hp} {v : V} {d : PyData} (n : Tv H v d) {c : Addr} {xs : List V} (ev : v = .ref c) (e : H c = some (.lst xs)) : (∀ x ∈ xs, Kin H x) ∧ ∃ ds, d = .list ds ∧ xs.length = ds.length := by
  cases n with
  | it h =>
    cases h with
    | lst e2 h =>
      cases ev
      rw [e2] at e; cases e
      exact ⟨fun x hx => by obtain ⟨y, _, rfl⟩ := List.mem_map.mp hx; exact .str y, _, rfl, by simp⟩
    | tup e2 h => cases ev; rw [e2] at e; cases e
    | dK e2 => cases ev; rw [e2] at e; cases e
    | non => cases ev
    | bl b => cases ev
    | int h => cases ev
    | str h => cases ev
  | lst e2 p =>
    cases ev
    rw [e2] at e; cases e
    exact ⟨fun x hx => by obtain ⟨b, _, hb⟩ := paired_memL p x hx; exact hb.kin, _, rfl, Paired.length p⟩
  | dic e2 h => cases ev; rw [e2] at e; cases e
/-! ### how long it is, shown -/
def piledS (ts : List Str) : Nat := (ts.map fun t => t.length + 2).sum
def mzT (ys : List Str) : Nat := (ys.map fun y => 10 * y.length + 4).sum
/-- how much a thing measures -/
def mzI : PyData → Nat
  | .str z => 10 * z.length + 2
  | .list ds => 3 + (ds.map fun d => match d with | .str z => 10 * z.length + 4 | _ => 9).sum
  | .tuple ds => 3 + (ds.map fun d => match d with | .str z => 10 * z.length + 4 | _ => 9).sum
  | _ => 7
def mz : PyData → Nat
  | .list ds => 3 + (ds.map fun d => mzI d + 2).sum
  | .dict kvs => 3 + (kvs.map fun y => mzI y.1 + 12).sum
  | d => mzI d
end BK
namespace BK
open PySem PySem.Spec PyProof.Rows L2
/-! ### repr of a thing -/
theorem ItV.depth {H : Hp} {v : V} {d : PyData} (n : ItV H v d) : d.depth ≤ 1 := by
  cases n with
  | non => simp [PyData.depth]
  | bl b => simp [PyData.depth]
  | int h => simp [PyData.depth]
  | str h => simp [PyData.depth]
  | lst e h => simp [PyData.depth, dpthStrs]
  | tup e h => simp [PyData.depth, dpthStrs]
  | dK e => simp [PyData.depth, PyData.depthKv]
section
variable {X : Cx} {pins : List (Addr × Obj)} {σ : L2.St} {H : Hp} {s : Shared}
theorem readsStrs {h : Heap} : ∀ (ys : List Str) (its : List Value), Vals (ys.map V.str) its → ReadsAll h its (ys.map PyData.str) []
  | [], _, .nil => .nil
  | y :: r, _, .cons r1 r2 => by
    obtain ⟨t, rfl⟩ := r1
    exact ReadsAll.cons (Reads.str y t) (readsStrs r _ r2)
theorem ItV.reads (I : Inv X pins σ H s) (hS : H sysModules = none) {v : V} {u : Value} {d : PyData} (n : ItV H v d) (r : RelV v u) : ∃ as, Reads s.heap u d as ∧ sysModules ∉ as := by
  cases n with
  | non => cases r; exact ⟨[], .none, by simp⟩
  | bl b => cases r; exact ⟨[], .bool b, by simp⟩
  | int h => obtain ⟨t, rfl⟩ := r; exact ⟨[], .int _ t, by simp⟩
  | str h => obtain ⟨t, rfl⟩ := r; exact ⟨[], .str _ t, by simp⟩
  | @lst a ys e h =>
    cases r
    obtain ⟨its, rv, ⟨o, n, ho, hc, _, hd⟩, _⟩ := I.list (SqL.of e)
    exact ⟨_, Reads.list ho hc hd (readsStrs ys _ rv), fun z => by
      rw [List.mem_singleton.mp z, e] at hS; cases hS⟩
  | @tup a ys e h =>
    cases r
    obtain ⟨its, rv, ⟨o, ho, hc, n, hd⟩, _⟩ := I.tuple (SqT.of e)
    exact ⟨_, Reads.tuple ho hc hd (readsStrs ys _ rv), by simp⟩
  | @dK a e =>
    cases r
    obtain ⟨_, hS, vs, kv, o, es, ep, ho, ed, hd, _, hp, _⟩ := dk_of I.hok e
    cases kv
    have es0 : es.toList = [] := by cases hp' : es.toList with
      | nil => rfl
      | cons x y => rw [hp'] at hp; cases hp
    refine ⟨a :: [] ++ [], Reads.dict ho ed.1 hd (by rw [es0]; exact .nil) (by rw [es0]; exact .nil), fun hm => ?_⟩
    have : sysModules = a := by simpa using hm
    rw [this] at hS; simp at hS
def rReprT : List V → Hp → VK → Prop := fun vs H Q => ∃ (v : V) (d : PyData), vs = [v] ∧ Tv H v d ∧ mz d ≤ 1000000 ∧ Q (.str d.shown) H
end
end BK
namespace BK
open PySem PySem.Spec PyProof.Rows L2
/-! ### lists of mixed things, by their measure -/
def LOk (H : Hp) (a : Addr) (m : Nat) : Prop := ∃ xs ds, H a = some (.lst xs) ∧ Paired (ItV H) xs ds ∧ (ds.map fun d => mzI d + 2).sum ≤ m
theorem paired_same {H H' : Hp} {xs : List V} {ds : List PyData} (p : Paired (ItV H) xs ds) (s : Same H H') : Paired (ItV H') xs ds := paired_imp (fun _ _ _ h => h.same s) p
theorem LOk.same {H H' : Hp} {a : Addr} {m : Nat} (h : LOk H a m) (s : Same H H') : LOk H' a m := by
  obtain ⟨xs, ds, e, p, l⟩ := h
  exact ⟨xs, ds, s _ _ e, paired_same p s, l⟩
theorem LOk.le {H : Hp} {a : Addr} {m n : Nat} (h : LOk H a m) (l : m ≤ n) : LOk H a n := by
  obtain ⟨xs, ds, e, p, k⟩ := h
  exact ⟨xs, ds, e, p, Nat.le_trans k l⟩
theorem strs_items {H : Hp} : ∀ {ys : List Str}, (∀ y ∈ ys, Low y) → Paired (ItV H) (ys.map V.str) (ys.map PyData.str)
  | [], _ => .nil
  | y :: r, h => .cons (.str (h y (by simp))) (strs_items fun x hx => h x (by simp [hx]))
theorem strs_sum : ∀ ys : List Str, ((ys.map PyData.str).map fun d => mzI d + 2).sum = 10 * totl ys + 4 * ys.length
  | [] => by simp [totl]
  | y :: r => by
    have ih := strs_sum r
    have e1 : mzI (PyData.str y) = 10 * y.length + 2 := rfl
    unfold totl at *
    simp only [List.map_cons, List.sum_cons, List.length_cons, e1] at *
    omega
theorem LOk.strs {H : Hp} {a : Addr} {ys : List Str} {m : Nat} (e : H a = some (.lst (ys.map V.str))) (h : ∀ y ∈ ys, Low y) (hm : 10 * totl ys + 4 * ys.length ≤ m) : LOk H a m :=
  ⟨_, _, e, strs_items h, by rw [strs_sum]; exact hm⟩
/-! ### a list of such things -/
def LTs (H : Hp) (a : Addr) (M n : Nat) : Prop := ∃ vs ds, H a = some (.lst vs) ∧ Paired (Tv H) vs ds ∧ (∀ d ∈ ds, mz d ≤ M) ∧ vs.length ≤ n
theorem LTs.same {H H' : Hp} {a : Addr} {M n : Nat} (h : LTs H a M n) (s : Same H H') : LTs H' a M n := by
  obtain ⟨vs, ds, e, p, l, k⟩ := h
  exact ⟨vs, ds, s _ _ e, paired_imp (fun _ _ _ h => h.same s) p, l, k⟩
/-- a thing of at most that measure -/
def Tm (H : Hp) (v : V) (M : Nat) : Prop := ∃ d, Tv H v d ∧ mz d ≤ M
theorem Tm.same {H H' : Hp} {v : V} {M : Nat} (h : Tm H v M) (s : Same H H') : Tm H' v M := let ⟨d, t, l⟩ := h; ⟨d, t.same s, l⟩
theorem LOk.tm {H : Hp} {a : Addr} {m M : Nat} (h : LOk H a m) (l : m + 3 ≤ M) : Tm H (.ref a) M := by
  obtain ⟨xs, ds, e, p, k⟩ := h
  exact ⟨.list ds, .lst e p, by simp only [mz]; omega⟩
inductive TmAll (H : Hp) (M : Nat) : List V → Prop
  | nil : TmAll H M []
  | cons {v : V} {vs : List V} (h : Tm H v M) (t : TmAll H M vs) : TmAll H M (v :: vs)
theorem TmAll.get {H : Hp} {M : Nat} {vs : List V} (h : TmAll H M vs) : ∃ ds, Paired (Tv H) vs ds ∧ ∀ d ∈ ds, mz d ≤ M := by
  induction h with
  | nil => exact ⟨[], .nil, by simp⟩
  | cons h t ih =>
    obtain ⟨d, h1, h2⟩ := h
    obtain ⟨ds, p, l⟩ := ih
    exact ⟨d :: ds, .cons h1 p, fun x hx => (List.mem_cons.mp hx).elim (fun e => e ▸ h2) (l x)⟩
theorem TmAll.same {H H' : Hp} {M : Nat} {vs : List V} (h : TmAll H M vs) (s : Same H H') : TmAll H' M vs := by
  induction h with
  | nil => exact .nil
  | cons h t ih => exact .cons (h.same s) ih
end BK
namespace BK
open PySem PySem.Spec PyProof.Rows L2
/-! ### expressions that build lists of mixed things: what they leave, whatever they build -/
instance (z : Str) : Decidable (Low z) := inferInstanceAs (Decidable (∀ c ∈ ch z, c < 1000))
def EvL (te : TE) (σ : L2.St) (H : Hp) (m : Nat) : Prop := ∀ (H1 : Hp) (Q : VK), Same H H1 → (∀ p H2, Same H1 H2 → LOk H2 p m → Q (.ref p) H2) → te σ H1 Q
def EvT (te : TE) (σ : L2.St) (H : Hp) (M : Nat) : Prop := ∀ (H1 : Hp) (Q : VK), Same H H1 → (∀ v H2, Same H1 H2 → Tm H2 v M → Q v H2) → te σ H1 Q
/-- an item -/
def EvE (te : TE) (σ : L2.St) (H : Hp) (m : Nat) : Prop := ∀ (H1 : Hp) (Q : VK), Same H H1 → (∀ v d H2, Same H1 H2 → ItV H2 v d → mzI d ≤ m → Q v H2) → te σ H1 Q
def EvA (ta : TA) (σ : L2.St) (H : Hp) (M n : Nat) : Prop := ∀ (H1 : Hp) (Q : List V → Hp → Prop), Same H H1 → (∀ vs H2, Same H1 H2 → TmAll H2 M vs → vs.length = n → Q vs H2) → ta σ H1 Q
def EvP (tp : TO) (σ : L2.St) (H : Hp) : Prop := ∀ (H1 : Hp) (Q : Option Int → Hp → Prop), Same H H1 → (∀ o H2, Same H1 H2 → Q o H2) → tp σ H1 Q
def EvI (te : TE) (σ : L2.St) (H : Hp) : Prop := ∀ (H1 : Hp) (Q : VK), Same H H1 → (∀ i H2, Same H1 H2 → Q (.int i) H2) → te σ H1 Q
section
variable {σ : L2.St} {H : Hp} {te ta tb : TE} {tl th : TO} {ar : TA} {K : PySem.W.Frag} {m n M : Nat}
def chS (c : Nat) : Str := ⟨#[c]⟩
theorem mzI_strs : ∀ ys : List Str, mzI (.list (ys.map PyData.str)) = 3 + (10 * totl ys + 4 * ys.length)
  | [] => rfl
  | y :: r => by
    have ih := mzI_strs r
    unfold totl at *
    simp only [mzI, List.map_cons, List.sum_cons, List.length_cons] at *
    omega
/-- texts in a list -/
def EvSs (te : TE) (σ : L2.St) (H : Hp) (W n : Nat) : Prop := ∀ (H1 : Hp) (Q : VK), Same H H1 → (∀ p ys H2, Same H1 H2 → H2 p = some (.lst (ys.map V.str)) → (∀ y ∈ ys, Low y) → totl ys ≤ W → ys.length ≤ n → Q (.ref p) H2) → te σ H1 Q
/-- a new list of texts -/
def EvN (te : TE) (σ : L2.St) (H : Hp) (W n : Nat) : Prop := ∀ (H1 : Hp) (Q : VK), Same H H1 → (∀ p ys H2, H1 p = none → Same H1 H2 → H2 p = some (.lst (ys.map V.str)) → (∀ y ∈ ys, Low y) → totl ys ≤ W → ys.length ≤ n → Q (.ref p) H2) → te σ H1 Q
def oneK (ks : List Str) : List (Key × V) := ks.map fun x => ((Sum.inr x : Key), V.int 1)
theorem ItV.tm {H : Hp} {v : V} {d : PyData} (h : ItV H v d) (hm : mzI d ≤ m) (hM : m + 3 ≤ M) : Tm H v M := by
  cases h with
  | non => exact ⟨_, .it .non, by show 7 ≤ M; have : mzI PyData.none = 7 := rfl; omega⟩
  | bl b => exact ⟨_, .it (.bl b), by show 7 ≤ M; have : mzI (PyData.bool b) = 7 := rfl; omega⟩
  | @int i h => exact ⟨_, .it (.int h), by show 7 ≤ M; have : mzI (PyData.int i) = 7 := rfl; omega⟩
  | @str z h => exact ⟨_, .it (.str h), by show mzI (.str z) ≤ M; omega⟩
  | @lst a ys e h =>
    refine ⟨_, .it (.lst e h), ?_⟩
    rw [mzI_strs] at hm
    show 3 + _ ≤ M
    rw [strs_sum]; omega
  | @tup a ys e h => exact ⟨_, .it (.tup e h), by show mzI (.tuple (ys.map PyData.str)) ≤ M; omega⟩
  | dK e => exact ⟨_, .it (.dK e), by show 3 + 0 ≤ M; omega⟩
/-- a list of things, each older than the list -/
def SomeL (H : Hp) (p : Addr) (M n : Nat) : Prop := ∃ H0 vs, H0 p = none ∧ Same H0 H ∧ H p = some (.lst vs) ∧ TmAll H0 M vs ∧ vs.length ≤ n
theorem SomeL.same {H H1 : Hp} {p : Addr} (h : SomeL H p M n) (s : Same H H1) : SomeL H1 p M n := let ⟨H0, vs, a, b, c, d, e⟩ := h; ⟨H0, vs, a, b.trans s, s _ _ c, d, e⟩
theorem TmAll.app {vs ws : List V} (h1 : TmAll H M vs) (h2 : TmAll H M ws) : TmAll H M (vs ++ ws) := by
  induction h1 with
  | nil => exact h2
  | cons h t ih => exact .cons h ih
theorem TmAll.of {vs : List V} {ds : List PyData} (p : Paired (Tv H) vs ds) (h : ∀ d ∈ ds, mz d ≤ M) : TmAll H M vs := by
  induction p with
  | nil => exact .nil
  | cons r t ih => exact .cons ⟨_, r, h _ (by simp)⟩ (ih fun d hd => h d (by simp [hd]))
/-- one more at the end -/
theorem SomeL.push {H : Hp} {p : Addr} (h : SomeL H p M n) {v : V} {xs : List V} (e : H p = some (.lst xs)) (t : Tm (upd H p (.lst (xs ++ [v]))) v M) : LTs (upd H p (.lst (xs ++ [v]))) p M (n + 1) := by
  obtain ⟨H0, vs, a, b, c, d, l⟩ := h
  have e9 : vs = xs := by rw [c] at e; injection e with e; injection e
  have s : Same H0 (upd H p (.lst (xs ++ [v]))) := same_own b a
  rw [e9] at d l
  obtain ⟨ds, q, ll⟩ := ((d.same s).app (.cons t .nil)).get
  exact ⟨_, ds, upd_same, q, ll, by rw [List.length_append]; show _ + 1 ≤ _; omega⟩
end
end BK
namespace L2
open PySem PySem.Spec PyProof.Rows
/-! ### isinstance of a caught exception, against a tuple of own classes -/
def rIsiXT (K : PySem.W.Frag) : List V → Hp → VK → Prop := fun vs H Q => ∃ (e C tp : Addr) (cs : List Addr) (b : Bool), vs = [.ref e, .ref tp] ∧ H e = some (.ext (ExcO e C)) ∧ ExcK K C ∧ H tp = some (.tup (cs.map V.ref)) ∧ PySem.W.kitAny K (.ref C) (cs.map Value.ref) = some b ∧ Q (.bl b) H
theorem vals_refsX : ∀ {cs : List Addr} {its : List Value}, Vals (cs.map V.ref) its → its = cs.map Value.ref
  | [], _, h => by cases h; rfl
  | c :: r, _, h => by
    cases h with
    | cons h1 h2 => rw [vals_refsX h2]; cases h1; rfl
section
variable {X : Cx}
theorem cr_isiXT : CallR X (.builtin "isinstance") (rIsiXT X.K) := by
  intro pins s σ H vs us Q I r h
  obtain ⟨ea, C, tp, cs, b, rfl, he, k, ht, hb, q⟩ := h
  cases r with
  | cons r1 rr =>
    cases rr with
    | @cons _ u _ _ r2 rr =>
      cases rr
      cases r1
      cases r2
      obtain ⟨p, _, _⟩ := (show ObjOk X.prog X.w H s.heap ea (.ext (ExcO ea C)) from I.hok ea _ he)
      obtain ⟨_, its, rv, o, ho, h1, h2⟩ := (show ObjOk X.prog X.w H s.heap tp (.tup (cs.map V.ref)) from I.hok tp _ ht)
      rw [vals_refsX rv] at h2
      obtain ⟨cl, dd, da, sl⟩ := o
      cases h1
      obtain ⟨n, h2⟩ := h2
      cases h2
      exact PySem.W.kia_tup (kitx_exc k) I.kIn p ho hb (fun z => nomatch z) fun tk => ⟨.bl b, H, I.tok tk, rfl, q⟩
theorem pisiXT {e c : Expr} {te tc : TE} {p pos : Pos} (hm : X.mg "isinstance" = none) (he : PE X e te) (hc : PE X c tc) (hg : Gl X "isinstance" := by rfl) (hs : starEach [e, c] X.env = (false, eval e X.env) :: starEach [c] X.env := by rfl) (hs2 : starEach [c] X.env = (false, eval c X.env) :: starEach [] X.env := by rfl)
    (hpl : (backTo pos (starEach [c] X.env)).any (·.1) = false := by rfl) :
    PE X (.Call (.Name "isinstance" p) [e, c] [] pos) (tCB (rIsiXT X.K) (tCons te (tCons tc tNil))) :=
  pe_callB cr_isiXT hg hm (by decide +kernel) (pa_cons he (pa_cons hc pa_nil hs2) hs) (he := hs) (hpl := hpl)
theorem pisiXTK {K : PySem.W.Frag} {e c : Expr} {te tc : TE} {p pos : Pos} (hK : X.K = K) (hm : X.mg "isinstance" = none) (he : PE X e te) (hc : PE X c tc) (hg : Gl X "isinstance" := by rfl) (hs : starEach [e, c] X.env = (false, eval e X.env) :: starEach [c] X.env := by rfl) (hs2 : starEach [c] X.env = (false, eval c X.env) :: starEach [] X.env := by rfl)
    (hpl : (backTo pos (starEach [c] X.env)).any (·.1) = false := by rfl) :
    PE X (.Call (.Name "isinstance" p) [e, c] [] pos) (tCB (rIsiXT K) (tCons te (tCons tc tNil))) := by
  subst hK
  exact pisiXT hm he hc hg hs hs2 hpl
theorem pisiXK {K : PySem.W.Frag} {e c : Expr} {te tc : TE} {p pos : Pos} (hK : X.K = K) (hm : X.mg "isinstance" = none) (he : PE X e te) (hc : PE X c tc) (hg : Gl X "isinstance" := by rfl) (hs : starEach [e, c] X.env = (false, eval e X.env) :: starEach [c] X.env := by rfl) (hs2 : starEach [c] X.env = (false, eval c X.env) :: starEach [] X.env := by rfl)
    (hpl : (backTo pos (starEach [c] X.env)).any (·.1) = false := by rfl) :
    PE X (.Call (.Name "isinstance" p) [e, c] [] pos) (tCB (rIsiX K) (tCons te (tCons tc tNil))) := by
  subst hK
  exact pisiX hm he hc hg hs hs2 hpl
end
end L2
namespace KP
open PySem L2 BK
def top (i : Nat) : Stmt := PySem.Challenge.pw_bookcuts_k54_texts_that_write_no_book.main.body.getD i (.Pass ⟨0, 0, 0, 0⟩)
structure Blt (mg : Str → Option Value) : Prop where
  isi : mg "isinstance" = none
  int : mg "int" = none
  bool : mg "bool" = none
  str : mg "str" = none
  list : mg "list" = none
  dict : mg "dict" = none
  all : mg "all" = none
  len : mg "len" = none
  max : mg "max" = none
  min : mg "min" = none
  range : mg "range" = none
  sorted : mg "sorted" = none
  enumerate : mg "enumerate" = none
  any : mg "any" = none
  reversed : mg "reversed" = none
  zip : mg "zip" = none
  sum : mg "sum" = none
  tuple : mg "tuple" = none
  set : mg "set" = none
  abs : mg "abs" = none
  repr : mg "repr" = none
section
variable {P : Program} {w : World} {K : PySem.W.Frag} {mg : Str → Option Value} {base : Heap}
/-! is_whole -/
abbrev s_is_whole : Stmt := top 9
theorem sc_is_whole : FnScope ["thing"] ["thing"] (defScope s_is_whole) := ⟨rfl, rfl, rfl, by decide +kernel, rfl, by decide +kernel, by decide +kernel⟩
def sp_is_whole : Sp := fun vs H Q _ => ∃ n, vs = [.int n] ∧ Q (.bl true) H
theorem ok_is_whole {f : Addr} {fd : FuncData} (F : Fun K "is_whole" "is_whole" s_is_whole f fd) (T : Blt mg) : FnOk P w K mg base CX0 1 f fd ["thing"] sp_is_whole := by
  refine F.ok sc_is_whole (fun vs H Q E h => ?_) (fun cdv A outer s H vs Q E hr h => ?_)
  · obtain ⟨n, rfl, _⟩ := h
    rfl
  · obtain ⟨n, rfl, k⟩ := h
    refine ⟨_, @pss_one _ _ _ (@ps_ret _ _ _ _ (@pe_and _ _ _ _ _ _ _ (@pisi _ _ _ _ _ _ _ _ T.isi T.int (@pv _ 0 _ _ (by rfl) (by first | exact Or.inl rfl | exact Or.inr (Or.inl rfl) | exact Or.inr (Or.inr rfl)) (by decide) (by decide)) bt_int (by rfl) (by rfl) (by decide) (by decide) (by rfl)) (@pe_one _ _ _ _ _ (@pe_not _ _ _ _ (@pisi _ _ _ _ _ _ _ _ T.isi T.bool (@pv _ 0 _ _ (by rfl) (by first | exact Or.inl rfl | exact Or.inr (Or.inl rfl) | exact Or.inr (Or.inr rfl)) (by decide) (by decide)) bt_bool (by rfl) (by rfl) (by decide) (by decide) (by rfl)))))), ?_⟩
    refine ⟨_, rfl, _, _, _, _, rfl, .int n, rfl, _, rfl, ?_⟩
    refine iteT ?_
    refine ⟨_, rfl, _, _, _, _, rfl, .int n, rfl, _, rfl, ?_⟩
    exact k
/-! is_text -/
abbrev s_is_text : Stmt := top 10
theorem sc_is_text : FnScope ["thing"] ["thing"] (defScope s_is_text) := ⟨rfl, rfl, rfl, by decide +kernel, rfl, by decide +kernel, by decide +kernel⟩
def sp_is_text (B : Addr) : Sp := fun vs H Q _ => ∃ z, vs = [.str z] ∧ Tab B H ∧ ∀ H', Off [B] H H' → Tab B H' → Q (.bl ((ch z).all isSmall)) H'
theorem ok_is_text {f c B : Addr} {fd : FuncData} (F : FunC K "is_text" "is_text" s_is_text f fd c) (T : Blt mg) (hB : CodeB base c B) (hM : BB base mg) : FnOk P w K mg base CX0 2 f fd ["thing"] (sp_is_text B) := by
  obtain ⟨oc, od, kV, doc, pm, an, ct, osl, rfl, lk, hcd⟩ := F.ex
  refine fn_of lk hcd sc_is_text (fun vs H Q E h => ?_) fun A outer s H vs Q E hr h => ?_
  · obtain ⟨z, rfl, _⟩ := h
    rfl
  · obtain ⟨z, rfl, tb, k⟩ := h
    refine ⟨_, PSs.nox (pss_one (ps_ret (pe_and (pisi T.isi T.str (pv 0) bt_str) (pe_one (pe_allStr (i := 0) (c := c) (P := B) rfl hB hM rfl hr.depth rfl (Or.inl rfl) rfl T.all rfl rfl (by decide +kernel) (by decide +kernel) (by decide +kernel) rfl))))), ?_⟩
    refine ⟨_, rfl, _, _, _, _, rfl, .str z, rfl, _, rfl, ?_⟩
    refine iteT ?_
    obtain ⟨ps, e, tr⟩ := tb
    refine ⟨z, rfl, ps, e, tr, fun ps' tr' => ?_⟩
    have q := k (upd H B (.tbl ps')) (off_upd (by simp)) ⟨ps', upd_same, tr'⟩
    rw [← allIn_small] at q
    exact q
/-! is_rising -/
abbrev s_is_rising : Stmt := top 11
abbrev n_is_rising : List Str := ["things", "low", "high"]
theorem sc_is_rising : FnScope n_is_rising ["things"] (defScope s_is_rising) := ⟨rfl, rfl, rfl, by decide +kernel, rfl, by decide +kernel, by decide +kernel⟩
def sp_is_risingL : Sp := fun vs H Q _ => ∃ (a : Addr) (xs : List Str), vs = [.ref a] ∧ H a = some (.lst (xs.map V.str)) ∧ xs.length ≤ 1000000 ∧ ∀ H', Same H H' → Q (.bl (risT xs)) H'
theorem ok_is_rising {f : Addr} {fd : FuncData} (F : Fun K "is_rising" "is_rising" s_is_rising f fd) (T : Blt mg) : FnOk P w K mg base CX0 1 f fd ["things"] sp_is_risingL := by
  refine F.ok sc_is_rising (fun vs H Q E h => ?_) (fun cdv A outer s H vs Q E hr h => ?_)
  · obtain ⟨n, _, rfl, _⟩ := h
    rfl
  · obtain ⟨a, xs, rfl, ea, hz, q⟩ := h
    have nd := sc_is_rising.nd
    refine ⟨_, @pss_cons _ _ _ _ _ (@ps_for _ _ _ _ _ _ _ _ PassesOwn.never rfl (@pi_zip _ _ _ _ _ _ _ _ _ rfl T.zip (@pa_cons _ _ _ _ _ (@pv _ 0 _ _ (by rfl) (by first | exact Or.inl rfl | exact Or.inr (Or.inl rfl) | exact Or.inr (Or.inr rfl)) (by decide) (by decide)) (@pa_cons _ _ _ _ _ (@pe_slice _ _ _ _ _ _ _ _ _ _ sl_list (@pv _ 0 _ _ (by rfl) (by first | exact Or.inl rfl | exact Or.inr (Or.inl rfl) | exact Or.inr (Or.inr rfl)) (by decide) (by decide)) (@po_some _ _ _ pe_int) po_none) pa_nil (by rfl)) (by rfl)) (by rfl) (by rfl)) (@pg_tup _ _ _ _ _ _ rfl (@pgs_cons _ _ _ _ _ (@pg_name _ _ 1 _ nd rfl (Or.inl rfl) (by first | exact .inl rfl | exact .inr rfl | assumption)) (@pgs_cons _ _ _ _ _ (@pg_name _ _ 2 _ nd rfl (Or.inl rfl) (by first | exact .inl rfl | exact .inr rfl | assumption)) pgs_nil (by rfl)) (by rfl)) (by rfl) (by rfl)) (@pss_one _ _ _ (@ps_if _ _ _ _ _ _ _ _ (@pt_not _ _ _ _ (@pt_cmpR _ _ _ _ _ _ _ _ op_lt_str (@pv _ 1 _ _ (by rfl) (by first | exact Or.inl rfl | exact Or.inr (Or.inl rfl) | exact Or.inr (Or.inr rfl)) (by decide) (by decide)) (@pv _ 2 _ _ (by rfl) (by first | exact Or.inl rfl | exact Or.inr (Or.inl rfl) | exact Or.inr (Or.inr rfl)) (by decide) (by decide)) (nomark _))) (@pss_one _ _ _ (@ps_ret _ _ _ _ pe_bl)) pss_nil)) (by intro _; rfl)) (@pss_one _ _ _ (@ps_ret _ _ _ _ pe_bl)), ?_⟩
    refine ⟨_, rfl, _, rfl, _, rfl, a, _, rfl, SqL.of ea, fun b hb => ?_⟩
    have eT : cutV (xs.map V.str) (some 1) none = (xs.drop 1).map V.str := by
      have hI : HT.sIx (xs.map V.str).length 0 (some 1) = min 1 xs.length := by
        rw [List.length_map]; unfold HT.sIx; simp; try omega
      have hJ : HT.sIx (xs.map V.str).length (xs.map V.str).length none = xs.length := by
        rw [List.length_map]; unfold HT.sIx; simp
      unfold cutV
      rw [hI, hJ]
      cases xs with
      | nil => rfl
      | cons x r =>
        rw [show min 1 (x :: r).length = 1 from by rw [List.length_cons]; omega]
        rw [List.map_cons, List.drop_succ_cons, List.drop_zero, List.drop_succ_cons, List.drop_zero]
        exact List.take_of_length_le (by rw [List.length_map, List.length_cons]; omega)
    rw [eT]
    have s1 := same_new (o := HO.lst ((xs.drop 1).map V.str)) hb
    have eb : (upd H b (.lst ((xs.drop 1).map V.str))) b = some (.lst ((xs.drop 1).map V.str)) := upd_same
    generalize upd H b (.lst ((xs.drop 1).map V.str)) = H1 at s1 eb ⊢
    have ea1 := s1 _ _ ea
    refine ⟨a, b, _, _, rfl, SqL.of ea1, SqL.of eb, ?_⟩
    refine for_zip (K := K) (xs := xs.map V.str) (ys := (xs.drop 1).map V.str) (xs.length - 1) (by rw [List.length_map, List.length_map, List.length_drop]; omega) (fun i σ H2 => ∃ u v : Option V, σ = [some (.ref a), u, v] ∧ Same H1 H2 ∧ ∀ j, j < i → (h : j + 1 < xs.length) → ch xs[j] < ch xs[j + 1]) ⟨none, none, rfl, fun _ _ e => e, fun j h => absurd h (by omega)⟩ (fun i σ H2 _ ⟨_, _, _, s2, _⟩ => ⟨SqL.of (s2 _ _ ea1), SqL.of (s2 _ _ eb)⟩) ?_ ?_
    · rintro i x y t σ H2 hx hy ⟨u, v, rfl, s2, hp⟩ ht
      rw [List.getElem?_map] at hx hy
      rw [List.getElem?_drop] at hy
      have h2 : 1 + i < xs.length := by
        rcases Nat.lt_or_ge (1 + i) xs.length with h | h
        · exact h
        · rw [List.getElem?_eq_none h] at hy; cases hy
      have h1 : i < xs.length := by omega
      rw [List.getElem?_eq_getElem h1] at hx
      rw [List.getElem?_eq_getElem h2] at hy
      obtain rfl : V.str xs[i] = x := Option.some.inj hx
      obtain rfl : V.str xs[1 + i] = y := Option.some.inj hy
      have s3 := same_new (o := HO.tup [V.str xs[i], V.str xs[1 + i]]) ht
      refine ⟨t, _, rfl, SqT.of upd_same, rfl, _, _, rfl, _, _, rfl, rfl, ?_⟩
      refine ⟨_, rfl, _, rfl, _, _, rfl, rfl, _, rfl, ?_⟩
      have e1 : xs[1 + i] = xs[i + 1]'(by omega) := by congr 1; omega
      by_cases hlt : ch xs[i] < ch xs[1 + i]
      · rw [decide_eq_true hlt]
        refine iteF ⟨_, _, rfl, s2.trans s3, fun j hj hj2 => ?_⟩
        rcases Nat.lt_or_ge j i with h | h
        · exact hp j h hj2
        · obtain rfl : j = i := by omega
          rw [← e1]; exact hlt
      · rw [decide_eq_false hlt]
        refine iteT ?_
        have : risT xs = false := by
          cases hr2 : risT xs with
          | false => rfl
          | true => exact absurd (by rw [e1]; exact (risT_iff xs).mp hr2 i (by omega)) hlt
        have q' := q _ (s1.trans (s2.trans s3))
        rw [this] at q'
        exact q'
    · rintro σ H2 ⟨u, v, rfl, s2, hp⟩
      have : risT xs = true := (risT_iff xs).mpr fun j hj => hp j (by omega) hj
      have q' := q _ (s1.trans s2)
      rw [this] at q'
      exact q'
/-! is_word -/
abbrev s_is_word : Stmt := top 14
abbrev n_is_word : List Str := ["thing"]
theorem sc_is_word : FnScope n_is_word ["thing"] (defScope s_is_word) := ⟨rfl, rfl, rfl, by decide +kernel, rfl, by decide +kernel, by decide +kernel⟩
def sp_is_word (B : Addr) : Sp := fun vs H Q _ => ∃ z, vs = [.str z] ∧ z.length ≤ sizeLine ∧ Tab B H ∧ ∀ H', Off [B] H H' → Tab B H' → Q (.bl ((ch z).all isSmall && decide (1 ≤ z.length ∧ z.length ≤ 12))) H'
theorem ok_is_word {f f1 B : Addr} {fd fd1 : FuncData} {tm : Tok} (F : Fun K "is_word" "is_word" s_is_word f fd) (T : Blt mg) (hML : mg "MOST_LETTERS" = some (.int 12 tm)) (B1 : FB K mg "is_text" ["thing"] f1 fd1) (G1 : FnOk P w K mg base CX0 2 f1 fd1 ["thing"] (sp_is_text B)) : FnOk P w K mg base CX0 3 f fd ["thing"] (sp_is_word B) := by
  refine F.ok sc_is_word (fun vs H Q E h => ?_) (fun cdv A outer s H vs Q E hr h => ?_)
  · obtain ⟨z, rfl, _⟩ := h
    rfl
  · obtain ⟨z, rfl, hz, tb, q⟩ := h
    have nd := sc_is_word.nd
    refine ⟨_, @pss_one _ _ _ (@ps_ret _ _ _ _ (@pe_and _ _ _ _ _ _ _ (@pcall _ _ _ _ _ _ _ _ _ _ _ _ B1 G1 hr (@pa_cons _ _ _ _ _ (@pv _ 0 _ _ (by rfl) (by first | exact Or.inl rfl | exact Or.inr (Or.inl rfl) | exact Or.inr (Or.inr rfl)) (by decide) (by decide)) pa_nil (by rfl)) (by rfl) (by decide) (by rfl) (by rfl)) (@pe_one _ _ _ _ _ (@pe_chain _ _ _ _ _ _ _ _ _ _ _ _ op_le op_le pe_int (@pe_callB _ _ _ _ _ _ _ _ _ call_len_str rfl T.len PySem.boot_len (@pa_cons _ _ _ _ _ (@pv _ 0 _ _ (by rfl) (by first | exact Or.inl rfl | exact Or.inr (Or.inl rfl) | exact Or.inr (Or.inr rfl)) (by decide) (by decide)) pa_nil (by rfl)) (by decide) (by decide) (by rfl) (by rfl)) (@pe_glob _ _ (V.int 12) _ _ rfl hML ⟨_, rfl⟩ (by decide)) (by with_unfolding_all rfl))))), ?_⟩
    refine ⟨_, rfl, z, rfl, tb, fun H1 o1 tb1 => ⟨_, rfl, ?_⟩⟩
    have q1 := q H1 o1 tb1
    cases hs : (ch z).all isSmall with
    | false => rw [hs, Bool.false_and] at q1; exact iteF q1
    | true =>
      rw [hs, Bool.true_and] at q1
      refine iteT ⟨_, rfl, z, rfl, hz, _, _, rfl, rfl, _, rfl, ?_⟩
      by_cases h1 : (1 : Int) ≤ z.length
      · rw [decide_eq_true h1]
        refine iteT ⟨_, _, rfl, rfl, ?_⟩
        have e : decide ((z.length : Int) ≤ 12) = decide (1 ≤ z.length ∧ z.length ≤ 12) := by
          rw [decide_eq_decide]; omega
        show Q (V.bl (decide ((z.length : Int) ≤ 12))) H1
        rw [e]; exact q1
      · rw [decide_eq_false h1]
        refine iteF ?_
        have e : decide (1 ≤ z.length ∧ z.length ≤ 12) = false := decide_eq_false (by omega)
        rw [e] at q1; exact q1
/-! is_entry -/
abbrev s_is_entry : Stmt := top 15
abbrev n_is_entry : List Str := ["thing"]
theorem sc_is_entry : FnScope n_is_entry ["thing"] (defScope s_is_entry) := ⟨rfl, rfl, rfl, by decide +kernel, rfl, by decide +kernel, by decide +kernel⟩
def sp_is_entry (B : Addr) : Sp := fun vs H Q _ => ∃ (p : Addr) (x : Str) (n : Int), vs = [.ref p] ∧ H p = some (.tup [.str x, .int n]) ∧ x.length ≤ sizeLine ∧ Tab B H ∧ ∀ H', Off [B] H H' → Tab B H' → Q (.bl (wordB x)) H'
theorem ok_is_entry {f f1 f2 B : Addr} {fd fd1 fd2 : FuncData} (F : Fun K "is_entry" "is_entry" s_is_entry f fd) (T : Blt mg) (B1 : FB K mg "is_word" ["thing"] f1 fd1) (G1 : FnOk P w K mg base CX0 3 f1 fd1 ["thing"] (sp_is_word B))
    (B2 : FB K mg "is_whole" ["thing"] f2 fd2) (G2 : FnOk P w K mg base CX0 1 f2 fd2 ["thing"] sp_is_whole) : FnOk P w K mg base CX0 4 f fd ["thing"] (sp_is_entry B) := by
  refine F.ok sc_is_entry (fun vs H Q E h => ?_) (fun cdv A outer s H vs Q E hr h => ?_)
  · obtain ⟨p, x, n, rfl, _⟩ := h
    rfl
  · obtain ⟨p, x, n, rfl, ep, hx, tb, q⟩ := h
    have nd := sc_is_entry.nd
    refine ⟨_, @pss_cons _ _ _ _ _ (@ps_if _ _ _ _ _ _ _ _ (@PW.pt _ _ _ (@pw_or _ _ _ _ _ _ _ (@pt_not _ _ _ _ (@pt_val _ _ _ (@pisi _ _ _ _ _ _ _ _ T.isi T.tuple (@pv _ 0 _ _ (by rfl) (by first | exact Or.inl rfl | exact Or.inr (Or.inl rfl) | exact Or.inr (Or.inr rfl)) (by decide) (by decide)) bt_tuple (by rfl) (by rfl) (by decide) (by decide) (by rfl)) (by intro _; rfl))) (@pw_or1 _ _ _ _ (@pt_cmpR _ _ _ _ _ _ _ _ op_ne (@pe_callB _ _ _ _ _ _ _ _ _ call_len_seq rfl T.len PySem.boot_len (@pa_cons _ _ _ _ _ (@pv _ 0 _ _ (by rfl) (by first | exact Or.inl rfl | exact Or.inr (Or.inl rfl) | exact Or.inr (Or.inr rfl)) (by decide) (by decide)) pa_nil (by rfl)) (by decide) (by decide) (by rfl) (by rfl)) pe_int (nomark _))))) (@pss_one _ _ _ (@ps_ret _ _ _ _ pe_bl)) pss_nil) (@pss_one _ _ _ (@ps_ret _ _ _ _ (@pe_and _ _ _ _ _ _ _ (@pcall _ _ _ _ _ _ _ _ _ _ _ _ B1 G1 hr (@pa_cons _ _ _ _ _ (@pe_ix _ _ _ _ _ _ _ ix_tup (@pv _ 0 _ _ (by rfl) (by first | exact Or.inl rfl | exact Or.inr (Or.inl rfl) | exact Or.inr (Or.inr rfl)) (by decide) (by decide)) pe_int (fun _ _ => rfl)) pa_nil (by rfl)) (by rfl) (by decide) (by rfl) (by rfl)) (@pe_one _ _ _ _ _ (@pcall _ _ _ _ _ _ _ _ _ _ _ _ B2 G2 (hr.mono (by decide)) (@pa_cons _ _ _ _ _ (@pe_ix _ _ _ _ _ _ _ ix_tup (@pv _ 0 _ _ (by rfl) (by first | exact Or.inl rfl | exact Or.inr (Or.inl rfl) | exact Or.inr (Or.inr rfl)) (by decide) (by decide)) pe_int (fun _ _ => rfl)) pa_nil (by rfl)) (by rfl) (by decide) (by rfl) (by rfl)))))), ?_⟩
    refine ⟨_, rfl, _, _, _, _, rfl, .tup ep, rfl, _, rfl, iteF ?_⟩
    refine ⟨_, rfl, p, _, rfl, .inr (SqT.of ep), rfl, _, rfl, iteF ?_⟩
    refine ⟨_, rfl, p, _, _, _, rfl, rfl, SqT.of ep, rfl, x, rfl, hx, tb, fun H1 o1 tb1 => ⟨_, rfl, ?_⟩⟩
    have ep1 := o1 _ _ (tab_not tb ep fun _ h => by cases h) ep
    have q1 := q H1 o1 tb1
    unfold wordB at q1
    cases hw : ((ch x).all isSmall && decide (1 ≤ x.length ∧ x.length ≤ 12)) with
    | false => rw [hw] at q1; exact iteF q1
    | true =>
      rw [hw] at q1
      exact iteT ⟨_, rfl, p, _, _, _, rfl, rfl, SqT.of ep1, rfl, n, rfl, q1⟩
/-! is_number -/
abbrev s_is_number : Stmt := top 19
abbrev n_is_number : List Str := ["text", "figures", "sign"]
theorem sc_is_number : FnScope n_is_number ["text"] (defScope s_is_number) := ⟨rfl, rfl, rfl, by decide +kernel, rfl, by decide +kernel, by decide +kernel⟩
def sp_is_number (B : Addr) : Sp := fun vs H Q _ => ∃ z, vs = [.str z] ∧ z.length ≤ sizeLine ∧ Tab B H ∧ ∀ H', Off [B] H H' → Tab B H' → Q (.bl (wriB z)) H'
theorem ok_is_number {f c B : Addr} {fd : FuncData} (F : FunC K "is_number" "is_number" s_is_number f fd c) (T : Blt mg) (hB : CodeB base c B) (hM : BB base mg) : FnOk P w K mg base CX0 2 f fd ["text"] (sp_is_number B) := by
  obtain ⟨oc, od, kV, doc, pm, an, ct, osl, rfl, lk, hcd⟩ := F.ex
  refine fn_of lk hcd sc_is_number (fun vs H Q E h => ?_) fun A outer s H vs Q E hr h => ?_
  · obtain ⟨z, rfl, _⟩ := h
    rfl
  · obtain ⟨z, rfl, hz, tb, q⟩ := h
    have nd := sc_is_number.nd
    refine ⟨_, PSs.nox (pss_cons (ps_if (pt_cmpR op_eq (pv 0) pe_str (nomark _)) (pss_one (ps_ret pe_bl)) pss_nil)
      (pss_cons (ps_set (i := 1) nd rfl (Or.inl rfl) (pe_removeprefix (pv 0) pe_str))
      (pss_cons (ps_if (PW.pt (pw_or (pt_cmpR op_eq (pv 1) pe_str (nomark _)) (pw_or1 (pt_cmpR op_eq (pe_ix ix_str (pv 1) pe_int (fun _ _ => rfl)) pe_str (nomark _))))) (pss_one (ps_ret pe_bl)) pss_nil)
      (pss_one (ps_ret (pe_allStr (i := 1) (c := c) (P := B) rfl hB hM rfl hr.depth rfl (Or.inl rfl) rfl T.all rfl rfl (by decide +kernel) (by decide +kernel) (by decide +kernel) rfl)))))), ?_⟩
    refine ⟨_, rfl, rfl, _, rfl, ?_⟩
    by_cases e0 : z = "0"
    · rw [decide_eq_true (by rw [e0])]
      have q0 := q H (Off.refl) tb
      have : wriB z = true := by unfold wriB; rw [decide_eq_true ((is_nought z).mp e0)]; rfl
      rw [this] at q0
      exact iteT q0
    · rw [decide_eq_false (fun h => e0 (V.str.inj h))]
      have e0' : decide (TL.tl z = [48]) = false := decide_eq_false fun h => e0 ((is_nought z).mpr h)
      refine iteF ⟨_, rfl, ⟨_, rfl⟩, _, _, rfl, rfl, hz, ?_⟩
      have ef := tl_remove z
      have lf : (Txt.removeprefix z "-").length ≤ sizeLine := by
        have := figs_len (TL.tl z)
        rw [TL.len_tl, ef]
        rw [TL.len_tl] at hz
        omega
      unfold wriB at q
      rw [e0', Bool.false_or] at q
      rw [← ef] at q
      generalize Txt.removeprefix z "-" = g at q lf ⊢
      refine ⟨_, rfl, rfl, _, rfl, ?_⟩
      by_cases e1 : g = ""
      · rw [decide_eq_true (by rw [e1])]
        have q0 := q H (Off.refl) tb
        rw [decide_eq_false (fun h => h ((is_empty g).mp e1)), Bool.false_and, Bool.false_and] at q0
        exact iteT (iteT q0)
      · rw [decide_eq_false (fun h => e1 (V.str.inj h))]
        have n1 : TL.tl g ≠ [] := fun h => e1 ((is_empty g).mpr h)
        rw [decide_eq_true n1, Bool.true_and] at q
        obtain ⟨c, r, eg⟩ : ∃ c r, TL.tl g = c :: r := by
          cases h : TL.tl g with
          | nil => exact absurd h n1
          | cons c r => exact ⟨c, r, rfl⟩
        refine iteF ⟨_, rfl, g, 0, c, rfl, rfl, lf, ?_, rfl, _, rfl, ?_⟩
        · show atI (TL.tl g) 0 = some c
          rw [eg]; exact atI_head c r
        by_cases e2 : c = 48
        · rw [decide_eq_true (by rw [e2]; rfl)]
          have q0 := q H (Off.refl) tb
          rw [decide_eq_false (fun h => h (by rw [eg, e2]; rfl)), Bool.false_and] at q0
          exact iteT q0
        · rw [decide_eq_false (fun h => e2 ((one_nought c).mp (V.str.inj h)))]
          have : decide ((TL.tl g).head? ≠ some 48) = true := decide_eq_true (by rw [eg]; intro h; injection h with h; exact e2 h)
          rw [this, Bool.true_and] at q
          obtain ⟨ps, e, tr⟩ := id tb
          refine iteF ?_
          refine ⟨g, rfl, ps, e, tr, fun ps' tr' => ?_⟩
          have q0 := q (upd H B (.tbl ps')) (off_upd (by simp)) ⟨ps', upd_same, tr'⟩
          rw [allIn_fig]
          exact q0
end
end KP
namespace L2
open PySem PySem.Spec PyProof.Rows
section
variable {prog : Program} {w : World} {A : Around} {E : Value → Shared → Prop} {s : Shared}
abbrev tup2 (i j : Int) (t u : Tok) (n : Nat) : Obj := { cls := .type "tuple", data := .seq #[.int i t, .int j u] n }
def lex2 (i j i' j' : Int) : Bool := decide (i < i') || (decide (i = i') && decide (j < j'))
end
section
variable {prog : Program} {w : World} {A : Around} {R : Result → Shared → Prop} {J q : Addr} {fp wr : List Addr} {n : Nat} {Pt : Nat → Value → Prop} {Sm : Nat → Heap → Prop} {hb : Heap}
abbrev ExtOf (h h' : Heap) : Prop := ∀ b o, h.get? b = some o → h'.get? b = some o
def btL (kf : Nat → Int × Int) (i j : Nat) : Bool := lex2 (kf i).1 (kf i).2 (kf j).1 (kf j).2
/-- the key of a thing: a call that leaves all as it is and gives a new pair -/
def KeyOf (prog : Program) (w : World) (A : Around) (q : Addr) (hb : Heap) (g0 : Array GenState) (Pt : Nat → Value → Prop) (kf : Nat → Int × Int) : Prop :=
  ∀ (i : Nat) (v : Value) (s : Shared) (Q : Value → Shared → Prop) (E : Value → Shared → Prop), Pt i v → ExtOf hb s.heap → s.gens = g0 →
    (∀ (k : Addr) (tk : Nat) (h2 : Heap) (t u : Tok) (nn : Nat), ExtOf s.heap h2 → s.heap.objs.size ≤ k → h2.get? k = some (tup2 (kf i).1 (kf i).2 t u nn) → Q (.ref k) { s with heap := h2, toks := tk }) →
    wpAny (model prog w) A (call (.ref q) [v]) Q E s
end
section
variable {prog : Program} {w : World} {A : Around} {E : Value → Shared → Prop} {s : Shared}
end
end L2
namespace L2
open PySem PySem.Spec PyProof.Rows
section
variable {prog : Program} {w : World} {A : Around} {E : Value → Shared → Prop} {s : Shared}
abbrev lamB (x : Str) (p1 p2 p3 p4 p5 p6 p7 p8 p9 p10 : Pos) (j1 j2 j3 : Nat) (kk : Nat) (pos : Pos) : Expr :=
  .Tuple [.BinOp (.Subscript (.Name x p1) (.Constant (.int 1) j1 p2) p3) .Sub (.Subscript (.Name x p4) (.Constant (.int 0) j2 p5) p6) p7, .Subscript (.Name x p8) (.Constant (.int 0) j3 p9) p10] kk pos
end
theorem CodeB.hd {h : Heap} {c P : Addr} (x : CodeB h c P) : PySem.W.CodeHd h c P := by
  obtain ⟨o, vs, file, tf, flags, tg, inF, text, tt, ho, hc, hd, h11, h18, h7, h9, h10, h11', ne⟩ := x
  exact ⟨o, vs, file, tf, flags, tg, inF, text, tt, ho, hc, hd, h11', h11, h18, h7, h9, h10, ne⟩
section
variable {X : Cx} {pins : List (Addr × Obj)} {σ : St} {H : Hp} {s : Shared}
end
/-- the table of a def with a lambda: its code, once there, is held -/
def TabL (P : Addr) (lpos : Pos) (qual : Str) (H : Hp) : Prop := ∃ tb : Array Value, H P = some (.tbl tb) ∧ TriplesOk tb.toList ∧ ∀ cv, codeAmong lpos tb.toList = some cv → ∃ c', cv = .ref c' ∧ H c' = some (.ext fun h => h.CodeRec (.ref c') qual)
section
variable {X : Cx}
def keyL (y : Int × Int) : Int × Int := (y.2 - y.1, y.1)
def tMinLam (K : PySem.W.Frag) (P : Addr) (lpos : Pos) (qual : Str) (te : TE) : TE := fun σ H Q => te σ H fun v H1 => ∃ (a : Addr) (ps : List Addr) (ab : List (Int × Int)), v = .ref a ∧ SqL K H1 a (ps.map V.ref) ∧ Paired (fun p (y : Int × Int) => H1 p = some (.tup [.int y.1, .int y.2])) ps ab ∧
  TabL P lpos qual H1 ∧ ∀ H2, (∀ b o, b ≠ P → H1 b = some o → H2 b = some o) → TabL P lpos qual H2 → (ab = [] → Q .non H2) ∧
    ∀ (i : Nat) p y, ps[i]? = some p → ab[i]? = some y → (∀ (j : Nat) y', ab[j]? = some y' → lex2 (keyL y').1 (keyL y').2 (keyL y).1 (keyL y).2 = false) → Q (.ref p) H2
end
end L2
namespace L2
open PySem PySem.Spec PyProof.Rows
section
variable {prog : Program} {w : World} {A : Around} {E : Value → Shared → Prop} {s : Shared}
abbrev tup2S (i : Int) (j : Str) (t u : Tok) (n : Nat) : Obj := { cls := .type "tuple", data := .seq #[.int i t, .str j u] n }
def lex2S (i : Int) (j : Str) (i' : Int) (j' : Str) : Bool := decide (i < i') || (decide (i = i') && decide (j.cps.toList < j'.cps.toList))
end
section
variable {prog : Program} {w : World} {A : Around} {R : Result → Shared → Prop} {J q : Addr} {fp wr : List Addr} {n : Nat} {Pt : Nat → Value → Prop} {Sm : Nat → Heap → Prop} {hb : Heap}
def btS (kf : Nat → Int × Str) (i j : Nat) : Bool := lex2S (kf i).1 (kf i).2 (kf j).1 (kf j).2
/-- the key of a thing: a call that leaves all as it is and gives a new pair -/
def KeyOfS (prog : Program) (w : World) (A : Around) (q : Addr) (hb : Heap) (g0 : Array GenState) (Pt : Nat → Value → Prop) (kf : Nat → Int × Str) : Prop :=
  ∀ (i : Nat) (v : Value) (s : Shared) (Q : Value → Shared → Prop) (E : Value → Shared → Prop), Pt i v → ExtOf hb s.heap → s.gens = g0 →
    (∀ (k : Addr) (tk : Nat) (h2 : Heap) (t u : Tok) (nn : Nat), ExtOf s.heap h2 → s.heap.objs.size ≤ k → h2.get? k = some (tup2S (kf i).1 (kf i).2 t u nn) → Q (.ref k) { s with heap := h2, toks := tk }) →
    wpAny (model prog w) A (call (.ref q) [v]) Q E s
end
section
variable {prog : Program} {w : World} {A : Around} {E : Value → Shared → Prop} {s : Shared}
end
section
variable {prog : Program} {w : World} {A : Around} {E : Value → Shared → Prop} {s : Shared}
abbrev lamS (x : Str) (p1 p2 p3 p4 : Pos) (kk : Nat) (pos : Pos) : Expr :=
  .Tuple [.Call (.Name "len" p1) [.Name x p2] [] p3, .Name x p4] kk pos
end
section
variable {X : Cx}
def keyS (y : Str) : Int × Str := ((y.length : Int), y)
def tMinLamS (K : PySem.W.Frag) (P : Addr) (lpos : Pos) (qual : Str) (te : TE) : TE := fun σ H Q => te σ H fun v H1 => ∃ (a : Addr) (ys : List Str), v = .ref a ∧ SqL K H1 a (ys.map V.str) ∧ (∀ y ∈ ys, y.length ≤ sizeLine) ∧
  TabL P lpos qual H1 ∧ ∀ H2, (∀ b o, b ≠ P → H1 b = some o → H2 b = some o) → TabL P lpos qual H2 → (ys = [] → Q .non H2) ∧
    ∀ y, y ∈ ys → (∀ y' ∈ ys, lex2S (keyS y').1 y' (keyS y).1 y = false) → Q (.str y) H2
end
end L2
namespace L2
open PySem PySem.Spec PyProof.Rows
section
variable {X : Cx}
/-! sorted(list), of any length -/
def rSortedA (K : PySem.W.Frag) : List V → Hp → VK → Prop := fun vs H Q => ∃ (a : Addr) (ns : List Int), vs = [V.ref a] ∧ SqL K H a (ns.map V.int) ∧ ns.length ≤ sizeLine ∧
  ∀ (ns' : List Int) (p : Addr), ns'.Perm ns → ns'.Pairwise (· ≤ ·) → H p = none → Q (.ref p) (upd H p (.lst (ns'.map V.int)))
def rSortedSA (K : PySem.W.Frag) : List V → Hp → VK → Prop := fun vs H Q => ∃ (a : Addr) (xs : List Str), vs = [V.ref a] ∧ SqL K H a (xs.map V.str) ∧ xs.length ≤ sizeLine ∧
  ∀ (ys : List Str) (p : Addr), ys.Perm xs → sortedS ys = true → H p = none → Q (.ref p) (upd H p (.lst (ys.map V.str)))
end
end L2
namespace L2
open PySem PySem.Spec PyProof.Rows
/-! sorted(list of tuples (number, text)) -/
def TupIS (h : Heap) (a : Addr) (y : Int × Str) : Prop := ∃ t u, IsTup h a #[.int y.1 t, .str y.2 u]
def sh1 (i : Nat) : Bool := i == 1
section
variable {X : Cx}
abbrev ISAt (H : Hp) (p : Addr) (y : Int × Str) : Prop := H p = some (.tup [.int y.1, .str y.2])
def rSortedIS (K : PySem.W.Frag) : List V → Hp → VK → Prop := fun vs H Q => ∃ (a : Addr) (as : List Addr) (kvs : List (Int × Str)), vs = [V.ref a] ∧ SqL K H a (as.map V.ref) ∧ Paired (ISAt H) as kvs ∧ as.length ≤ sizeLine ∧
  ∀ (ps : List Addr) (ys : List (Int × Str)) (p : Addr), ps.Perm as → ys.Perm kvs → Paired (ISAt H) ps ys → ys.Pairwise (fun a b => lex2S b.1 b.2 a.1 a.2 = false) → H p = none → Q (.ref p) (upd H p (.lst (ps.map V.ref)))
end
end L2
namespace L2
open PySem PySem.Spec PyProof.Rows
def rLenSq (K : PySem.W.Frag) : List V → Hp → VK → Prop := fun xs H Q => ∃ p ys, xs = [V.ref p] ∧ (SqL K H p ys ∨ SqT K H p ys) ∧ Q (V.int ys.length) H
end L2
namespace BK
open PySem PySem.Spec PyProof.Rows L2
/-! ### a store of three numbers -/
def St3 (H : Hp) (st : Addr) : Prop := ∃ x y z : Int, H st = some (.lst [.int x, .int y, .int z])
theorem St3.off {H H' : Hp} {st : Addr} {S : List Addr} (h : St3 H st) (o : Off S H H') (n : st ∉ S) : St3 H' st := by
  obtain ⟨x, y, z, e⟩ := h
  exact ⟨x, y, z, o _ _ n e⟩
theorem St3.same {H H' : Hp} {st : Addr} (h : St3 H st) (o : Same H H') : St3 H' st := h.off (S := []) (off_same o) (by simp)
theorem St3.new {H : Hp} {st a : Addr} (h : St3 H st) (e : H a = none) : a ≠ st := fun z => by
  obtain ⟨x, y, w, e2⟩ := h
  rw [z, e2] at e; cases e
theorem St3.own {H : Hp} {st a : Addr} {o : HO} (h : St3 H st) (n : a ≠ st) : St3 (upd H a o) st := by
  obtain ⟨x, y, z, e⟩ := h
  exact ⟨x, y, z, by rw [upd_ne (Ne.symm n)]; exact e⟩
theorem St3.strs {H : Hp} {st a : Addr} {ws : List Str} (h : St3 H st) (e : H a = some (.lst (ws.map V.str))) : a ≠ st := fun z => by
  obtain ⟨x, y, w, e2⟩ := h
  rw [z, e2] at e
  cases ws <;> cases e
theorem St3.tup {H : Hp} {st a : Addr} {xs : List V} (h : St3 H st) (e : H a = some (.tup xs)) : a ≠ st := fun z => by
  obtain ⟨x, y, w, e2⟩ := h
  rw [z, e2] at e; cases e
theorem St3.tab {H : Hp} {st B : Addr} (h : St3 H st) (t : Tab B H) : B ≠ st := fun z => by
  obtain ⟨x, y, w, e2⟩ := h
  obtain ⟨q, e, _⟩ := t
  rw [z, e2] at e; cases e
/-- the letters of words joined -/
theorem totl_app (a b : List Str) : totl (a ++ b) = totl a + totl b := by unfold totl; rw [List.map_append, List.sum_append]
theorem totl_one (w : Str) : totl [w] = w.length := by simp [totl]
theorem totl_len {ws : List Str} (h : ∀ w ∈ ws, 1 ≤ w.length) : ws.length ≤ totl ws := by
  induction ws with
  | nil => simp
  | cons w r ih =>
    have h1 := h w (by simp)
    have h2 := ih fun x hx => h x (by simp [hx])
    unfold totl at *
    simp only [List.map_cons, List.sum_cons, List.length_cons]
    omega
/-- words that may make a book -/
structure WOk (ys : List Str) : Prop where
  nd : ys.Nodup
  wd : ∀ x ∈ ys, Word x
  sz : totl ys ≤ 16
theorem WOk.nil : WOk [] := ⟨List.nodup_nil, by simp, by simp [totl]⟩
theorem WOk.len {ys : List Str} (h : WOk ys) : ys.length ≤ 16 := Nat.le_trans (totl_len fun w hw => (h.wd w hw).2.1) h.sz
theorem WOk.snoc {ys : List Str} {w : Str} (h : WOk ys) (n : w ∉ ys) (hw : Word w) (hs : totl ys + w.length ≤ 16) : WOk (ys ++ [w]) :=
  ⟨List.nodup_append.mpr ⟨h.nd, by simp, fun a ha b hb => by rw [List.mem_singleton.mp hb]; exact fun z => n (z ▸ ha)⟩, fun x hx => by
    rcases List.mem_append.mp hx with hx | hx
    · exact h.wd x hx
    · rw [List.mem_singleton.mp hx]; exact hw, by rw [totl_app, totl_one]; exact hs⟩
theorem WOk.sub {ys zs : List Str} (h : WOk ys) (p : zs.Sublist ys) : WOk zs := ⟨h.nd.sublist p, fun x hx => h.wd x (p.subset hx), by
  have : totl zs ≤ totl ys := by
    have hs := p.map Str.length
    unfold totl
    clear h
    generalize zs.map Str.length = a at hs
    generalize ys.map Str.length = b at hs
    induction hs with
    | slnil => simp
    | cons x _ ih => simp only [List.sum_cons]; omega
    | cons_cons x _ ih => simp only [List.sum_cons]; omega
  exact Nat.le_trans this h.sz⟩
/-- words of which none begins with another one -/
structure PF (ws : List Str) : Prop where
  nd : ws.Nodup
  pf : ∀ a ∈ ws, ∀ b ∈ ws, a ≠ b → ¬ ch a <+: ch b
theorem PF.letters {cs : List Nat} (h : cs.Nodup) : PF (cs.map fun c => (⟨#[c]⟩ : Str)) := by
  have inj : ∀ {a b : Nat}, (⟨#[a]⟩ : Str) = ⟨#[b]⟩ → a = b := fun {a b} e => by
    have := congrArg ch e
    rw [ch_one, ch_one] at this
    simpa using this
  refine ⟨?_, fun a ha b hb ne hp => ?_⟩
  · unfold List.Nodup
    rw [List.pairwise_map]
    exact List.Pairwise.imp (fun hne e => hne (inj e)) h
  · obtain ⟨c, _, rfl⟩ := List.mem_map.mp ha
    obtain ⟨d, _, rfl⟩ := List.mem_map.mp hb
    have hp2 : [c] <+: [d] := hp
    have : c = d := by simpa using hp2
    exact ne (by rw [this])
theorem PF.split {ws : List Str} {wd : Str} {cs : List Nat} (h : PF ws) (hm : wd ∈ ws) (hc : cs.Nodup) : PF (ws.filter (fun x => decide (x ≠ wd)) ++ cs.map fun c => wd ++ (⟨#[c]⟩ : Str)) := by
  have one : ∀ {x : Str}, x ∈ ws.filter (fun x => decide (x ≠ wd)) → x ∈ ws ∧ x ≠ wd := fun {x} hx => by
    obtain ⟨h1, h2⟩ := List.mem_filter.mp hx
    exact ⟨h1, of_decide_eq_true h2⟩
  have ce : ∀ c, ch (wd ++ (⟨#[c]⟩ : Str)) = ch wd ++ [c] := fun c => by rw [ch_app, ch_one]
  have inj : ∀ {a b : Nat}, wd ++ (⟨#[a]⟩ : Str) = wd ++ ⟨#[b]⟩ → a = b := fun {a b} e => by
    have := congrArg ch e
    rw [ce, ce] at this
    simpa using this
  have x1 : ∀ {x : Str} {c : Nat}, x ∈ ws → x ≠ wd → ¬ ch x <+: ch (wd ++ (⟨#[c]⟩ : Str)) := fun {x c} hx ne hp => by
    rw [ce] at hp
    rcases List.prefix_concat_iff.mp hp with e | e
    · exact h.pf wd hm x hx (Ne.symm ne) ⟨[c], e.symm⟩
    · exact h.pf x hx wd hm ne e
  have x2 : ∀ {x : Str} {c : Nat}, x ∈ ws → x ≠ wd → ¬ ch (wd ++ (⟨#[c]⟩ : Str)) <+: ch x := fun {x c} hx ne hp => by
    rw [ce] at hp
    exact h.pf wd hm x hx (Ne.symm ne) ((List.prefix_append _ _).trans hp)
  refine ⟨List.nodup_append.mpr ⟨h.nd.sublist List.filter_sublist, ?_, fun a ha b hb e => ?_⟩, fun a ha b hb ne hp => ?_⟩
  · unfold List.Nodup
    rw [List.pairwise_map]
    exact List.Pairwise.imp (fun hne e => hne (inj e)) hc
  · obtain ⟨h1, h2⟩ := one ha
    obtain ⟨c, _, rfl⟩ := List.mem_map.mp hb
    exact x1 h1 h2 (by rw [e]; exact List.prefix_refl _)
  · rcases List.mem_append.mp ha with ha | ha
    · obtain ⟨h1, h2⟩ := one ha
      rcases List.mem_append.mp hb with hb | hb
      · obtain ⟨h3, h4⟩ := one hb
        exact h.pf a h1 b h3 ne hp
      · obtain ⟨c, _, rfl⟩ := List.mem_map.mp hb
        exact x1 h1 h2 hp
    · obtain ⟨c, _, rfl⟩ := List.mem_map.mp ha
      rcases List.mem_append.mp hb with hb | hb
      · obtain ⟨h3, h4⟩ := one hb
        exact x2 h3 h4 hp
      · obtain ⟨d, _, rfl⟩ := List.mem_map.mp hb
        rw [ce, ce] at hp
        have := hp.eq_of_length (by simp)
        exact ne (ch_inj.mp (by rw [ce, ce]; exact this))
theorem tabL_offS {P : Addr} {lpos : Pos} {qual : Str} {S : List Addr} {H H1 : Hp} (t : TabL P lpos qual H) (o : Off S H H1) (n1 : P ∉ S) (n2 : ∀ b φ, b ∈ S → H b ≠ some (.ext φ)) : TabL P lpos qual H1 := by
  obtain ⟨tb, e, tr, hh⟩ := t
  refine ⟨tb, o _ _ n1 e, tr, fun cv hcv => ?_⟩
  obtain ⟨c', rfl, hc⟩ := hh cv hcv
  exact ⟨c', rfl, o _ _ (fun z => n2 c' _ z hc) hc⟩
/-- two tables -/
structure Wl (B B2 : Addr) (lpos : Pos) (qual : Str) (H : Hp) : Prop where
  tb : Tab B H
  t2 : TabL B2 lpos qual H
  ne : B2 ≠ B
theorem Wl.is {B B2 : Addr} {lpos : Pos} {qual : Str} {H : Hp} (w : Wl B B2 lpos qual H) {b : Addr} (h : b ∈ [B, B2]) : ∃ q, H b = some (.tbl q) := by
  rcases List.mem_cons.mp h with e | h
  · obtain ⟨q, e2, _⟩ := w.tb; exact ⟨q, by rw [e]; exact e2⟩
  · obtain ⟨q, e2, _⟩ := w.t2; exact ⟨q, by rw [List.mem_singleton.mp h]; exact e2⟩
theorem Wl.no {B B2 : Addr} {lpos : Pos} {qual : Str} {H : Hp} (w : Wl B B2 lpos qual H) {b : Addr} {o : HO} (e : H b = some o) (n : ∀ q, o ≠ .tbl q) : b ∉ [B, B2] := fun z => by
  obtain ⟨q, e2⟩ := w.is z
  rw [e2] at e
  exact n q (Option.some.inj e).symm
theorem Wl.st {B B2 : Addr} {lpos : Pos} {qual : Str} {H H1 : Hp} {st : Addr} (w : Wl B B2 lpos qual H) (s : St3 H st) (o : Off [st] H H1) : Wl B B2 lpos qual H1 := by
  obtain ⟨x, y, z, es⟩ := s
  have ns : ∀ b q, H b = some (.tbl q) → b ∉ [st] := fun b q e h => by rw [mem1 h, es] at e; cases e
  refine ⟨?_, tabL_offS w.t2 o (fun h => ?_) fun b φ hb e => ?_, w.ne⟩
  · obtain ⟨q, e, r⟩ := w.tb
    exact ⟨q, o _ _ (ns _ _ e) e, r⟩
  · obtain ⟨q, e, _⟩ := w.t2
    exact ns _ _ e h
  · rw [mem1 hb, es] at e; cases e
theorem Wl.same {B B2 : Addr} {lpos : Pos} {qual : Str} {H H1 : Hp} (w : Wl B B2 lpos qual H) (o : Same H H1) : Wl B B2 lpos qual H1 := ⟨w.tb.same o, tabL_offS (S := []) w.t2 (off_same o) (by simp) (by simp), w.ne⟩
theorem Wl.b {B B2 : Addr} {lpos : Pos} {qual : Str} {H H1 : Hp} (w : Wl B B2 lpos qual H) (t : Tab B H1) (o : Off [B] H H1) : Wl B B2 lpos qual H1 := ⟨t, tabL_offS w.t2 o (fun h => w.ne (mem1 h)) (fun b φ hb e => by
  obtain ⟨q, e2, _⟩ := w.tb
  rw [mem1 hb, e2] at e; cases e), w.ne⟩
theorem Wl.book {B B2 : Addr} {lpos : Pos} {qual : Str} {H H1 : Hp} {a : Addr} {bk : Book} (w : Wl B B2 lpos qual H) (b : BookAt H a bk) (o : Off [B, B2] H H1) : BookAt H1 a bk := by
  obtain ⟨ps, e, pp⟩ := b
  exact ⟨ps, o _ _ (w.no e fun _ h => by cases h) e, paired_imp (fun b y _ t => o _ _ (w.no t fun _ h => by cases h) t) pp⟩
theorem Wl.st3 {B B2 : Addr} {lpos : Pos} {qual : Str} {H H1 : Hp} {st : Addr} (w : Wl B B2 lpos qual H) (s : St3 H st) (o : Off [B, B2] H H1) : St3 H1 st := by
  obtain ⟨x, y, z, e⟩ := s
  exact ⟨x, y, z, o _ _ (w.no e fun _ h => by cases h) e⟩
theorem Wl.strs {B B2 : Addr} {lpos : Pos} {qual : Str} {H H1 : Hp} {a : Addr} {ws : List Str} (w : Wl B B2 lpos qual H) (e : H a = some (.lst (ws.map V.str))) (o : Off [B, B2] H H1) : H1 a = some (.lst (ws.map V.str)) := o _ _ (w.no e fun _ h => by cases h) e
theorem off12 {B B2 : Addr} {H H1 : Hp} (o : Off [B] H H1) : Off [B, B2] H H1 := o.mono fun b h => by rw [mem1 h]; simp
def IsCutB' (ks : List Str) (t : List Nat) : Prop := ∃ ws : List Str, (∀ w ∈ ws, w ∈ ks) ∧ jn ws = t
theorem sql_off {K : PySem.W.Frag} {H H1 : Hp} {a : Addr} {xs : List V} {S : List Addr} (h : SqL K H a xs) (o : Off S H H1) (n : ∀ u, (u = .lst xs ∨ ∃ ob, u = .frz ob (.lst xs)) → H a = some u → a ∉ S) : SqL K H1 a xs := by
  rcases h with (h | ⟨ob, h⟩) | h
  · exact .inl (.inl (o _ _ (n _ (.inl rfl) h) h))
  · exact .inl (.inr ⟨ob, o _ _ (n _ (.inr ⟨ob, rfl⟩) h) h⟩)
  · exact .inr h
theorem Wl.seq {K : PySem.W.Frag} {B B2 : Addr} {lpos : Pos} {qual : Str} {H H1 : Hp} {a : Addr} {xs : List V} (w : Wl B B2 lpos qual H) (h : SqL K H a xs) (o : Off [B, B2] H H1) : SqL K H1 a xs := sql_off h o fun u hu e => w.no e fun q z => by
  rcases hu with rfl | ⟨ob, rfl⟩ <;> cases z
end BK
namespace BK
open PySem PySem.Spec PyProof.Rows L2
/-! ### what is left of words that begin with one another -/
abbrev P2 (y : Str × Str) : List V := [.str y.1, .str y.2]
def leftS (x y : Str) : Str := if y.length < x.length then dropS x y.length else dropS y x.length
def firstAt (w : Str) (ls : List Str) : List (Str × Str) := (ls.filter fun l => (!decide (w = l)) && Txt.startswith l w).map fun l => (l, dropS l w.length)
def firstTo (ws : List Str) (ls : List Str) : List (Str × Str) := ws.flatMap fun w => firstAt w ls
def behindL (t r : Str) (ws : List Str) : List (Str × Str) := (ws.filter fun w => Txt.startswith r w || Txt.startswith w r).map fun w => (t ++ dropS w r.length, leftS r w)
def restB (ps : List Str) : Bool := (ps.all fun p => !decide (p = Str.ofString "")) && risT ps
def stepsL (ws ps : List Str) : List (Str × Str) := firstTo ws ws ++ ps.flatMap fun r => behindL r r ws
def plainB (ws ps : List Str) : Bool := restB ps && (stepsL ws ps).all fun s => decide (s.2 ∈ ps)
theorem dropS_small {z : Str} (h : Small z) (k : Nat) : Small (dropS z k) := h.drop k
end BK
namespace BK
open PySem PySem.Spec PyProof.Rows L2
end BK
namespace BK
open PySem PySem.Spec PyProof.Rows L2
theorem Small.cut {z : Str} (h : Small z) (lo hi : Option Int) : Small (cutS z lo hi) := fun c hc => h c (List.mem_of_mem_drop (List.mem_of_mem_take (by simpa [cutS, ch] using hc)))
/-! ### words of 80 letters or fewer together -/
structure WB (ys : List Str) : Prop where
  nd : ys.Nodup
  wd : ∀ x ∈ ys, Word x
  sz : totl ys ≤ 80
theorem WB.nil : WB [] := ⟨List.nodup_nil, by simp, by simp [totl]⟩
theorem WB.len {ys : List Str} (h : WB ys) : ys.length ≤ 80 := Nat.le_trans (totl_len fun w hw => (h.wd w hw).2.1) h.sz
theorem WB.snoc {ys : List Str} {w : Str} (h : WB ys) (n : w ∉ ys) (hw : Word w) (hs : totl ys + w.length ≤ 80) : WB (ys ++ [w]) :=
  ⟨List.nodup_append.mpr ⟨h.nd, by simp, fun a ha b hb e => n (by rw [List.mem_singleton.mp hb] at e; rw [← e]; exact ha)⟩, fun x hx => by
    rcases List.mem_append.mp hx with h2 | h2
    · exact h.wd x h2
    · rw [List.mem_singleton.mp h2]; exact hw, by rw [totl_snoc]; exact hs⟩
theorem WB.sub {ys zs : List Str} (h : WB ys) (p : zs.Sublist ys) : WB zs := ⟨h.nd.sublist p, fun x hx => h.wd x (p.subset hx), Nat.le_trans (by
    clear h
    induction p with
    | slnil => exact Nat.le_refl _
    | cons a p ih => show totl _ ≤ totl (a :: _); unfold totl at *; simp only [List.map_cons, List.sum_cons]; omega
    | cons_cons a p ih => show totl (a :: _) ≤ totl (a :: _); unfold totl at *; simp only [List.map_cons, List.sum_cons]; omega) h.sz⟩
theorem WOk.wb {ys : List Str} (h : WOk ys) : WB ys := ⟨h.nd, h.wd, Nat.le_trans h.sz (by decide)⟩
/-! ### ends of texts -/
def Sfx (B : List Str) (y : Str) : Prop := ∃ z ∈ B, ∃ k : Nat, y = dropS z k
theorem Sfx.drop {B : List Str} {y : Str} (h : Sfx B y) (k : Nat) : Sfx B (dropS y k) := by
  obtain ⟨z, hz, j, rfl⟩ := h
  exact ⟨z, hz, j + k, ch_inj.mp (by rw [ch_dropS, ch_dropS, ch_dropS, List.drop_drop])⟩
theorem Sfx.self {B : List Str} {z : Str} (h : z ∈ B) : Sfx B z := ⟨z, h, 0, ch_inj.mp (by rw [ch_dropS, List.drop_zero])⟩
def sfxL (B : List Str) : List Str := B.flatMap fun z => (List.range (z.length + 1)).map (dropS z)
theorem Sfx.mem {B : List Str} {y : Str} (h : Sfx B y) : y ∈ sfxL B := by
  obtain ⟨z, hz, j, rfl⟩ := h
  refine List.mem_flatMap.mpr ⟨z, hz, List.mem_map.mpr ?_⟩
  by_cases hj : j ≤ z.length
  · exact ⟨j, List.mem_range.mpr (by omega), rfl⟩
  · refine ⟨z.length, List.mem_range.mpr (by omega), ch_inj.mp ?_⟩
    rw [ch_dropS, ch_dropS, List.drop_eq_nil_of_le (by rw [ch_len]; exact Nat.le_refl _), List.drop_eq_nil_of_le (by rw [ch_len]; omega)]
theorem sfxL_len : ∀ B : List Str, (sfxL B).length = totl B + B.length
  | [] => rfl
  | z :: r => by
    have := sfxL_len r
    unfold sfxL at this ⊢
    rw [List.flatMap_cons, List.length_append, this, List.length_map, List.length_range]
    unfold totl
    simp only [List.map_cons, List.sum_cons, List.length_cons]
    omega
theorem Sfx.few {B app : List Str} (nd : app.Nodup) (h : ∀ y ∈ app, Sfx B y) : app.length ≤ totl B + B.length := by
  rw [← sfxL_len]
  exact List.Nodup.length_le_of_subset nd fun y hy => (h y hy).mem
theorem Sfx.ok {B : List Str} {n : Nat} {y : Str} (hB : ∀ z ∈ B, Small z ∧ z.length ≤ n) (h : Sfx B y) : Small y ∧ y.length ≤ n := by
  obtain ⟨z, hz, k, rfl⟩ := h
  refine ⟨dropS_small (hB z hz).1 _, ?_⟩
  have := (hB z hz).2
  rw [dropS_len]; omega
def intAt (σ : List (Option V)) (k : Nat) : Nat := match σ[k]? with | some (some (.int i)) => i.toNat | _ => 0
end BK
namespace BK
open PySem PySem.Spec PyProof.Rows L2
/-! ### what a plain paper shows, in the words of a look at each text and word -/
theorem risT_pw : ∀ {l : List Str}, risT l = true → l.Pairwise (fun a b => ch a < ch b)
  | [], _ => by simp
  | [x], _ => by simp
  | x :: y :: r, h => by
    rw [risT, Bool.and_eq_true, decide_eq_true_iff] at h
    have ih := risT_pw (l := y :: r) h.2
    refine List.pairwise_cons.mpr ⟨fun a ha => ?_, ih⟩
    rcases List.mem_cons.mp ha with rfl | ha
    · exact h.1
    · exact List.lt_trans h.1 ((List.pairwise_cons.mp ih).1 a ha)
def asksB (ps : List Str) (o w : Str) : Prop := cutS o none (some ((min o.length w.length : Nat) : Int)) = cutS w none (some ((min o.length w.length : Nat) : Int)) → (o ∈ ps ∨ o ≠ w) → leftS o w ∈ ps
def ShB (ws ps : List Str) : Prop := (Str.ofString "") ∉ ps ∧ risT ps = true ∧ ∀ o ∈ ws ++ ps, ∀ w ∈ ws, asksB ps o w
/-! ### parts of lists of texts -/
end BK
namespace BK
open PySem PySem.Spec PyProof.Rows L2 TL
theorem ris_snoc {w : Str} : ∀ {xs : List Str}, risT xs = true → (∀ x, xs.getLast? = some x → ch x < ch w) → risT (xs ++ [w]) = true
  | [], _, _ => rfl
  | [x], _, h => by
    show (decide (ch x < ch w) && true) = true
    rw [decide_eq_true (h x rfl)]; rfl
  | x :: y :: r, h, h2 => by
    rw [risT, Bool.and_eq_true] at h
    show (decide (ch x < ch y) && risT ((y :: r) ++ [w])) = true
    rw [h.1, ris_snoc h.2 fun z hz => h2 z (by rw [← hz]; simp)]; rfl
/-- the last word, or no letters -/
def lastT (b : Book) : Str := ((keys b).getLast?).getD ""
theorem book_snoc {bk : Book} {y : Str × Int} (h : bookB bk = true) (hw : wordB y.1 = true) (hl : ch (lastT bk) < ch y.1) : bookB (bk ++ [y]) = true ∧ lastT (bk ++ [y]) = y.1 := by
  unfold bookB at h ⊢
  rw [Bool.and_eq_true] at h
  have ek : keys (bk ++ [y]) = keys bk ++ [y.1] := by unfold keys; rw [List.map_append]; rfl
  refine ⟨?_, by unfold lastT; rw [ek]; simp⟩
  rw [Bool.and_eq_true, ek]
  refine ⟨by rw [List.all_append, h.1]; simp [hw], ris_snoc h.2 fun x hx => ?_⟩
  unfold lastT at hl
  rw [hx] at hl
  exact hl
theorem nil_lt {l : List Nat} (h : l ≠ []) : ([] : List Nat) < l := by
  cases l with
  | nil => exact absurd rfl h
  | cons a r => exact List.nil_lt_cons ..
theorem next_ok {bk : Book} (h : bookB bk = true) {i : Nat} {y : Str × Int} (hy : bk[i]? = some y) : wordB y.1 = true ∧ ch (lastT (bk.take i)) < ch y.1 := by
  have ym := List.mem_of_getElem? hy
  have hw := book_words h y ym
  refine ⟨hw, ?_⟩
  unfold bookB at h
  rw [Bool.and_eq_true] at h
  have pw := risT_pw h.2
  have n0 : ch y.1 ≠ [] := fun e => by
    unfold wordB at hw
    rw [Bool.and_eq_true] at hw
    have := (of_decide_eq_true hw.2).1
    rw [← ch_len, e] at this
    simp at this
  unfold lastT
  cases e : (keys (bk.take i)).getLast? with
  | none => show ch (Str.ofString "") < _; rw [show ch (Str.ofString "") = [] by decide +kernel]; exact nil_lt n0
  | some x =>
    have hx : x ∈ keys (bk.take i) := List.mem_of_getLast? e
    have ek : keys bk = keys (bk.take i) ++ keys (bk.drop i) := by unfold keys; rw [← List.map_append, List.take_append_drop]
    rw [ek, List.pairwise_append] at pw
    refine pw.2.2 x hx y.1 ?_
    unfold keys
    refine List.mem_map.mpr ⟨y, ?_, rfl⟩
    have il := (List.getElem?_eq_some_iff.mp hy).1
    rw [List.drop_eq_getElem_cons il, ← (List.getElem?_eq_some_iff.mp hy).2]
    exact List.mem_cons_self
theorem ent_two {y : Str × Int} (h : 61 ∉ tl y.1) : Txt.split (entW y) "=" = [y.1, zt y.2] := by
  have e : entW y = Txt.join "=" [y.1, zt y.2] := by rw [join_eq]; rfl
  rw [e]
  refine split_join (y := "=") (s := 61) (S := []) rfl (by decide +kernel) (by simp) fun p hp => ?_
  simp only [List.mem_cons, List.not_mem_nil, or_false] at hp
  rcases hp with rfl | rfl
  · exact h
  · exact zt_free (by decide) (by decide)
theorem two_ent {p a b : Str} (h : Txt.split p "=" = [a, b]) : p = a ++ "=" ++ b ∧ 61 ∉ tl a := by
  obtain ⟨_, h2, h3⟩ := split_all (y := "=") (s := 61) rfl (by decide +kernel) p
  rw [h] at h2 h3
  exact ⟨by rw [h2, join_eq]; rfl, h3 a (by simp)⟩
/-- the part adds a word -/
def Adds (last p : Str) : Prop := ∃ y : Str × Int, p = entW y ∧ wordB y.1 = true ∧ ch last < ch y.1
theorem not_wri {t : Str} (h0 : t ≠ "-") {i : Nat} {p : Str} {b : Book} (hp : (Txt.split t " ")[i]? = some p) (hb : (Txt.split t " ").take i = b.map entW) (hf : bookB b = true) (hn : ¬ Adds (lastT b) p) : ¬ Wri t := by
  rintro ⟨bk, e, hk⟩
  have h1 := (bk_parts h0 e hk).1
  rw [h1] at hp hb
  rw [List.getElem?_map] at hp
  obtain ⟨y, hy, rfl⟩ : ∃ y, bk[i]? = some y ∧ p = entW y := by
    cases e2 : bk[i]? with
    | none => rw [e2] at hp; cases hp
    | some y => rw [e2] at hp; exact ⟨y, rfl, (Option.some.inj hp).symm⟩
  obtain ⟨g1, g2⟩ := next_ok hk hy
  rw [← List.map_take] at hb
  have : bk.take i = b := ents_inj (fun z hz => book_free hk z (List.mem_of_mem_take hz)) (book_free hf) hb
  rw [this] at g2
  exact hn ⟨y, rfl, g1, g2⟩
theorem take_add {t p : Str} {i : Nat} {b : Book} {y : Str × Int} (hp : (Txt.split t " ")[i]? = some p) (hb : (Txt.split t " ").take i = b.map entW) (e : p = entW y) : (Txt.split t " ").take (i + 1) = (b ++ [y]).map entW := by
  rw [takeS hp, hb, List.map_append, e]; rfl
theorem part_len (p : Str) : (Txt.partition p "=").2.2.length ≤ p.length := by
  by_cases h : 61 ∈ tl p
  · obtain ⟨a, b, e, ha⟩ := List.eq_append_cons_of_mem h
    have ep : p = ⟨a.toArray⟩ ++ "=" ++ ⟨b.toArray⟩ := ext_tl (by rw [tl_append, tl_append, e, tl_mk, tl_mk]; show _ = a ++ [61] ++ b; simp)
    have ht : Txt.partition p "=" = ((⟨a.toArray⟩ : Str), ("=" : Str), (⟨b.toArray⟩ : Str)) := by rw [ep]; exact partition_app (y := "=") (s := 61) (S := []) rfl ha
    rw [ht]
    show (⟨b.toArray⟩ : Str).length ≤ _
    rw [ep, strLen_append, strLen_append]
    omega
  · rw [show Txt.partition p "=" = (p, Str.empty, Str.empty) from partition_none (y := "=") (s := 61) (S := []) rfl h]
    exact Nat.zero_le _
end BK
namespace KP
open PySem L2 BK
section
variable {P : Program} {w : World} {K : PySem.W.Frag} {mg : Str → Option Value} {base : Heap}
/-! read_entry -/
abbrev s_read_entry : Stmt := top 20
abbrev n_read_entry : List Str := ["text", "word", "between", "weight"]
theorem sc_read_entry : FnScope n_read_entry ["text"] (defScope s_read_entry) := ⟨rfl, rfl, rfl, by decide +kernel, rfl, by decide +kernel, by decide +kernel⟩
def sp_read_entryX (B C : Addr) : Sp := fun vs H Q E => ∃ (p : Str), vs = [.str p] ∧ p.length ≤ 560 ∧ Tab B H ∧
  (∀ y : Str × Int, p = entW y → 61 ∉ TL.tl y.1 → ∀ a H', H a = none → H' a = some (.tup [.str y.1, .int y.2]) → Off [B] H H' → Tab B H' → Q (.ref a) H') ∧
  ((¬ ∃ y : Str × Int, p = entW y ∧ 61 ∉ TL.tl y.1) → ∀ H', Off [B] H H' → Tab B H' → E (.ref C) none H')
theorem ok_read_entryX {f f1 B cE c0 c1 c2 c3 c4 c5 : Addr} {fd fd1 : FuncData} (F : Fun K "read_entry" "read_entry" s_read_entry f fd) (T : Blt mg) (R : Errs K mg cE c0 c1 c2 c3 c4 c5) (B1 : FB K mg "is_number" ["text"] f1 fd1) (G1 : FnOk P w K mg base CX0 2 f1 fd1 ["text"] (sp_is_number B)) : FnOk P w K mg base (CX1 P w) 3 f fd ["text"] (sp_read_entryX B c4) := by
  refine F.okX sc_read_entry (fun vs H Q E h => ?_) (fun cdv A outer s H vs Q E hr h => ?_)
  · obtain ⟨p, rfl, _⟩ := h
    rfl
  · obtain ⟨p, rfl, hp, tb, q, k⟩ := h
    have nd := sc_read_entry.nd
    refine ⟨_, @pss_cons _ _ _ _ _ (@ps_asg _ _ _ _ _ _ (@pe_partition _ _ _ _ _ _ _ (@pv _ 0 _ _ (by rfl) (by first | exact Or.inl rfl | exact Or.inr (Or.inl rfl) | exact Or.inr (Or.inr rfl)) (by decide) (by decide)) pe_str (by rfl) (by rfl) (by rfl)) (@pg_tup _ _ _ _ _ _ rfl (@pgs_cons _ _ _ _ _ (@pg_name _ _ 1 _ nd rfl (Or.inl rfl) (by first | exact .inl rfl | exact .inr rfl | assumption)) (@pgs_cons _ _ _ _ _ (@pg_name _ _ 2 _ nd rfl (Or.inl rfl) (by first | exact .inl rfl | exact .inr rfl | assumption)) (@pgs_cons _ _ _ _ _ (@pg_name _ _ 3 _ nd rfl (Or.inl rfl) (by first | exact .inl rfl | exact .inr rfl | assumption)) pgs_nil (by rfl)) (by rfl)) (by rfl)) (by rfl) (by rfl)) (by rfl) (by rfl) (by rfl)) (@pss_cons _ _ _ _ _ (@ps_if _ _ _ _ _ _ _ _ (@pt_not _ _ _ _ (@pt_val _ _ _ (@pcall _ _ _ _ _ _ _ _ _ _ _ _ B1 G1 (hr.mono (by decide)) (@pa_cons _ _ _ _ _ (@pv _ 3 _ _ (by rfl) (by first | exact Or.inl rfl | exact Or.inr (Or.inl rfl) | exact Or.inr (Or.inr rfl)) (by decide) (by decide)) pa_nil (by rfl)) (by rfl) (by decide) (by rfl) (by rfl)) (by intro _; rfl))) (@pss_one _ _ _ (@ps_raise _ _ _ _ _ _ _ _ _ _ _ _ _ _ _ _ _ _ _ _ _ _ _ R.x4 (by rfl) (by decide))) pss_nil) (@pss_one _ _ _ (@ps_ret _ _ _ _ (@pe_tup _ _ _ _ _ (@pa_cons _ _ _ _ _ (@pv _ 1 _ _ (by rfl) (by first | exact Or.inl rfl | exact Or.inr (Or.inl rfl) | exact Or.inr (Or.inr rfl)) (by decide) (by decide)) (@pa_cons _ _ _ _ _ (@pe_callTy _ _ _ _ _ _ _ _ _ call_int_str rfl T.int bt_int (@pa_cons _ _ _ _ _ (@pv _ 3 _ _ (by rfl) (by first | exact Or.inl rfl | exact Or.inr (Or.inl rfl) | exact Or.inr (Or.inr rfl)) (by decide) (by decide)) pa_nil (by rfl)) (by decide) (by decide) (by rfl) (by rfl)) pa_nil (by rfl)) (by rfl)))))), ?_⟩
    refine ⟨_, rfl, ⟨_, rfl⟩, _, _, rfl, rfl, rfl, Nat.le_trans hp (by decide), fun t ht => ?_⟩
    have s1 : Same H (upd H t (.tup [.str (Txt.partition p "=").1, .str (Txt.partition p "=").2.1, .str (Txt.partition p "=").2.2])) := same_new ht
    refine ⟨t, _, rfl, SqT.of upd_same, rfl, _, _, rfl, _, _, rfl, _, _, rfl, rfl, ?_⟩
    generalize upd H t (.tup [.str (Txt.partition p "=").1, .str (Txt.partition p "=").2.1, .str (Txt.partition p "=").2.2]) = H1 at s1 ⊢
    have tb1 := tb.same s1
    rcases ent_cases p with ⟨y, e, hf⟩ | ⟨hn, hw⟩
    · have ep : Txt.partition p "=" = (y.1, ("=" : Str), zt y.2) := by rw [e]; exact ent_part hf
      have el := ent_pos y
      rw [← e] at el
      rw [ep]
      refine ⟨_, rfl, zt y.2, rfl, Nat.le_trans (show (zt y.2).length ≤ 560 by omega) (by decide), tb1, fun H2 o2 tb2 => ⟨_, rfl, ?_⟩⟩
      rw [wriB_zt]
      refine iteF ⟨_, rfl, _, rfl, _, _, rfl, zt_int (show (zt y.2).length ≤ 4300 by omega), (show (zt y.2).length ≤ 640 by omega), ?_⟩
      refine ⟨(show 2 ≤ sizeLine by decide), fun p2 hp2 => ?_⟩
      have o1 : Off [B] H H2 := (off_same s1).trans o2
      exact q y e hf p2 _ (o1.none (by simpa using tb2.ne hp2) hp2) upd_same (o1.trans (off_new hp2)) (tb2.new hp2)
    · have hl : (Txt.partition p "=").2.2.length ≤ p.length := part_len p
      refine ⟨_, rfl, _, rfl, Nat.le_trans (Nat.le_trans hl hp) (by decide), tb1, fun H2 o2 tb2 => ⟨_, rfl, ?_⟩⟩
      rw [hw]
      refine iteT ?_
      exact k hn H2 ((off_same s1).trans o2) tb2
end
end KP
namespace KP
open PySem L2 BK
section
variable {P : Program} {w : World} {K : PySem.W.Frag} {mg : Str → Option Value} {base : Heap}
/-! is_book -/
abbrev s_is_book : Stmt := top 16
abbrev n_is_book : List Str := ["thing", "entry"]
theorem sc_is_book : FnScope n_is_book ["thing"] (defScope s_is_book) := ⟨rfl, rfl, rfl, by decide +kernel, rfl, by decide +kernel, by decide +kernel⟩
def sp_is_book (B Bq : Addr) : Sp := fun vs H Q _ => ∃ (a : Addr) (bk : Book), vs = [.ref a] ∧ BookAt H a bk ∧ (∀ y ∈ keys bk, y.length ≤ sizeLine) ∧ bk.length ≤ 1000000 ∧ Tab B H ∧ Tab Bq H ∧ Bq ≠ B ∧ ∀ H', Off [B, Bq] H H' → Tab B H' → Tab Bq H' → Q (.bl (bookB bk)) H'
theorem ok_is_book {f f1 f2 c B Bq : Addr} {fd fd1 fd2 : FuncData} (F : FunC K "is_book" "is_book" s_is_book f fd c) (T : Blt mg) (hB : CodeB base c Bq) (hM : BB base mg) (B1 : FB K mg "is_entry" ["thing"] f1 fd1) (G1 : FnOk P w K mg base CX0 4 f1 fd1 ["thing"] (sp_is_entry B))
    (B2 : FB K mg "is_rising" ["things"] f2 fd2) (G2 : FnOk P w K mg base CX0 1 f2 fd2 ["things"] sp_is_risingL) : FnOk P w K mg base CX0 6 f fd ["thing"] (sp_is_book B Bq) := by
  obtain ⟨oc, od, kV, doc, pm, an, ct, osl, rfl, lk, hcd⟩ := F.ex
  refine fn_of lk hcd sc_is_book (fun vs H Q E h => ?_) fun A outer s H vs Q E hr h => ?_
  · obtain ⟨a, bk, rfl, _⟩ := h
    rfl
  · obtain ⟨a, bk, rfl, hb, hl, hn, tb, tq, ne, q⟩ := h
    have nd := sc_is_book.nd
    refine ⟨_, PSs.nox (pss_cons (ps_if (pt_not (pt_val (pisi T.isi T.list (pv 0) bt_list))) (pss_one (ps_ret pe_bl)) pss_nil)
      (pss_cons (ps_if (pt_not (pt_val (pe_allG (i := 0) (k := 4) (c := c) (P := Bq) (fr := []) (cl := []) rfl hB hM rfl (hr.mono (by decide)) rfl (Or.inl rfl) rfl T.all rfl rfl (by decide +kernel) (by decide +kernel) (by decide +kernel) rfl (by decide +kernel) (fun p hp => nomatch hp) (fun y c e => nomatch e) (by decide +kernel) (fun _ _ _ _ _ hr => (pcall B1 G1 (hr.mono (by decide)) (pa_cons (pv 0) pa_nil)))))) (pss_one (ps_ret pe_bl)) pss_nil)
      (pss_one (ps_ret (pcall B2 G2 (hr.mono (by decide)) (pa_cons (pe_lc (own := [("entry", 1)]) (g := gName 1) rfl nd (pi_list (pv 0)) (blkOk_by (own := [("entry", 1)]) (N := n_is_book) (sc := defScope s_is_book) (by decide +kernel)) (fun _ _ _ _ _ => pg_name (i := 1) nd rfl (Or.inl rfl)) (fun _ _ _ _ _ => pts_nil) (fun _ _ _ _ _ => (pe_ix (r := rIxT K) ix_tup (pv 1) pe_int (fun _ _ => rfl)))) pa_nil)))))), ?_⟩
    obtain ⟨ps, ea, pp⟩ := id hb
    have pl : ps.length = bk.length := Paired.length pp
    refine ⟨_, rfl, _, _, _, _, rfl, .lst ea, rfl, _, rfl, iteF ?_⟩
    obtain ⟨tp, e0, tr0⟩ := id tq
    refine ⟨a, _, [], rfl, SqL.of ea, .nil, tp, e0, tr0, fun ps' tr' => ?_⟩
    refine ⟨fun j H1 => Off [B, Bq] H H1 ∧ Tab B H1 ∧ Tab Bq H1 ∧ ((bk.take j).all fun y => wordB y.1) = true, ?_, ?_, ?_, ?_⟩
    · exact ⟨off_upd (by simp), tb.off (off_upd (S := [Bq]) (by simp)) (by simpa using Ne.symm ne), ⟨ps', upd_same, tr'⟩, by simp⟩
    · rintro j H1 ⟨o1, _, _, _⟩
      exact SqL.of (o1 _ _ (tab2_no tb tq ea fun _ h => by cases h) ea)
    · rintro H1 ⟨o1, tb1, tq1, hall⟩
      rw [List.length_map, pl, List.take_length] at hall
      refine ⟨_, rfl, iteF ?_⟩
      have hb1 : BookAt H1 a bk := tab2_book tb tq hb o1
      obtain ⟨ps1, ea1, pp1⟩ := id hb1
      have pl1 : ps1.length = bk.length := Paired.length pp1
      refine ⟨_, rfl, a, rfl, ⟨_, SqL.of ea1⟩, fun D hD => ?_⟩
      refine lc_list (K := K) (a := a) (xs := ps1.map V.ref) (fun i HA => HA D = some (.lst (((keys bk).take i).map V.str)) ∧ Same H1 HA)
        ⟨upd_same, same_new hD⟩ (fun i HA _ ⟨_, sA⟩ => SqL.of (sA _ _ ea1)) ?_ ?_
      · rintro i x HA hx ⟨e2, sA⟩
        rw [List.getElem?_map] at hx
        obtain ⟨p, hp, rfl⟩ : ∃ y, ps1[i]? = some y ∧ x = V.ref y := by
          cases e : ps1[i]? with
          | none => rw [e] at hx; cases hx
          | some c => rw [e] at hx; exact ⟨c, rfl, (Option.some.inj hx).symm⟩
        have il := (List.getElem?_eq_some_iff.mp hp).1
        have hy : bk[i]? = some (bk[i]'(by omega)) := List.getElem?_eq_getElem _
        have et := pget pp1 i _ _ hp hy
        generalize bk[i]'(by omega) = y at hy et
        refine ⟨rfl, _, rfl, p, _, _, _, rfl, rfl, SqT.of (sA _ _ et), rfl, ?_⟩
        refine ⟨_, e2, small_szl' (by rw [List.length_map, List.length_take]; omega), ?_, same_own sA hD⟩
        have hk : (keys bk)[i]? = some y.1 := by unfold keys; rw [List.getElem?_map, hy]; rfl
        rw [upd_same, takeS hk, List.map_append]; rfl
      · rintro HA ⟨e2, sA⟩
        have hkl : (keys bk).length = bk.length := by unfold keys; rw [List.length_map]
        rw [List.length_map, pl1, ← hkl, List.take_length] at e2
        refine ⟨D, keys bk, rfl, e2, by omega, fun H5 s5 => ?_⟩
        have := q H5 (o1.trans ((off_same sA).trans (off_same s5))) (tb1.same (sA.trans s5)) (tq1.same (sA.trans s5))
        unfold bookB at this
        rw [hall, Bool.true_and] at this
        exact this
    · rintro j x H1 ⟨o1, tb1, tq1, hall⟩ hx
      rw [List.getElem?_map] at hx
      obtain ⟨p, hp, rfl⟩ : ∃ y, ps[j]? = some y ∧ x = V.ref y := by
        cases e : ps[j]? with
        | none => rw [e] at hx; cases hx
        | some c => rw [e] at hx; exact ⟨c, rfl, (Option.some.inj hx).symm⟩
      have il := (List.getElem?_eq_some_iff.mp hp).1
      have hy : bk[j]? = some (bk[j]'(by omega)) := List.getElem?_eq_getElem _
      have et := o1 _ _ (tab2_no tb tq (pget pp j _ _ hp hy) fun _ h => by cases h) (pget pp j _ _ hp hy)
      generalize bk[j]'(by omega) = y at hy et
      have ym := List.mem_of_getElem? hy
      refine ⟨_, rfl, p, y.1, y.2, rfl, et, hl y.1 (List.mem_map.mpr ⟨y, ym, rfl⟩), tb1, fun H2 o2 tb2 => ?_⟩
      have o12 : Off [B, Bq] H H2 := o1.trans (o2.mono fun b h => by rw [List.mem_singleton.mp h]; simp)
      have tq2 : Tab Bq H2 := tq1.off o2 (by simpa using ne)
      refine ⟨_, rfl, ?_⟩
      cases hw : wordB y.1 with
      | true =>
        rw [if_pos rfl]
        exact ⟨o12, tb2, tq2, by rw [takeS hy, List.all_append, hall]; simp [hw]⟩
      | false =>
        rw [if_neg (by decide)]
        refine ⟨_, rfl, iteT ?_⟩
        have := q H2 o12 tb2 tq2
        have hf : bookB bk = false := by
          unfold bookB
          have : (bk.all fun y => wordB y.1) = false := by
            rw [Bool.eq_false_iff, Ne, List.all_eq_true]
            intro h
            rw [h y ym] at hw; cases hw
          rw [this]; rfl
        rw [hf] at this
        exact this
end
end KP
namespace L2
open PySem PySem.Spec PyProof.Rows
/-- what an exception that leaves a comprehension's element is to reach -/
def XB (X : Cx) (cenv : Env) (C : Addr) : Value → Shared → Prop := notedBy (model X.prog X.w) X.A cenv fun e s' => ∃ m, s'.heap.Ns C m ∧ ∀ h', Heap.SameBut C s'.heap h' → ∀ ce2 : Env, ce2.locals = C →
  wpAny (model X.prog X.w) X.A (passOn "comprehension.variables-let-go" e ce2 : Sem Value) (fun _ _ => False) X.xe { s' with heap := h' }
/-- the context at a comprehension's start -/
def BlkSt (X : Cx) (s : Shared) (H : Hp) (fp : List Addr) : Prop := ∃ pins σ, Inv X pins σ H s ∧ ∀ b ∈ fp, FpOk X pins H b ∧ b < s.heap.objs.size
abbrev Cx.blkX (X : Cx) (s : Shared) (H : Hp) (scope : Scope) (cenv : Env) (fp : List Addr) (C : Addr) : Cx := (X.blk s H scope cenv fp).wish (XB X cenv C)
section
variable {X : Cx}
theorem lcX_core {pins : List (Addr × Obj)} {s : Shared} {σ : St} {H : Hp} {Q : VK} {elt tg iter : Expr} {ifs : List Expr} {scope : Scope} {own : List (Str × Nat)} {pos pos' : Pos} {wi : TI} {g : TG} {tt : TT} {te : TE} {use : Option (Value → Sem Unit)} {Qf : Value → Shared → Prop}
    (hc : X.calm = true) (hN : X.N.Nodup) (I : Inv X pins σ H s) (hi : PI X tg iter wi) (ok : BlkOk X.N X.env.scope scope own)
    (hg : ∀ (s : Shared) (H : Hp) (C : Addr) (cl : List (Str × Addr)) (fp : List Addr), PG (X.blk s H scope (compEnvC scope cl C X.env) fp) tg g) (ht : ∀ (s : Shared) (H : Hp) (C : Addr) (cl : List (Str × Addr)) (fp : List Addr), PTs (X.blk s H scope (compEnvC scope cl C X.env) fp) ifs tt)
    (he : ∀ (s : Shared) (H : Hp) (C : Addr) (cl : List (Str × Addr)) (fp : List Addr), BlkSt X s H fp → C = s.heap.objs.size → PE (X.blkX s H scope (compEnvC scope cl C X.env) fp C) elt te) (hs : ∀ x, foldedSetIterable iter X.env x = pure x)
    (h : tLc wi g tt te (own.map (·.2)) σ H Q)
    (hRR : ∀ D C s' m H', Inv X pins σ H' s' → Q (.ref D) H' → s'.heap.Ns C m → FpOk X pins H' C → compPost (model X.prog X.w) X.A X.xe use Qf (.ref D) C (.ok .next) s') :
    wpAny (model X.prog X.w) X.A (comprehension (.ListComp elt [⟨tg, iter, ifs, 0⟩] scope pos) scope X.env pos' (newList []) false (eval iter X.env) use) Qf X.xe s := by
  have hfree : ∀ y ∈ scope.names, y.2 = .free → ∃ c, X.env.cells.lookup y.1 = some c := fun y hy e => by
    rcases ok.free y hy e with k | k
    · exact I.ok.has _ (.inl k)
    · exact I.ok.has _ (.inr k)
  refine wpAny_comprehension_free (use := use) rfl hs (closure_ok hfree) ok.kind (fun y hy e => by rw [ok.uniq y hy, e])
    (thn (hi pins s σ H _ I h) fun xv s1 hx => thn hx fun itv s2 h2 => ?_)
  obtain ⟨it, fp, tn, J, H2, e, I2, T, st2, f2, q⟩ := h2
  subst e
  refine wpAny_newObj_type (newEnv_comp ?_) (by show 0 ≤ sizeLine; decide)
  generalize hD : s2.heap.objs.size = D
  have hDn : H2 D = none := I2.hok.fresh (Nat.le_of_eq hD)
  obtain ⟨W, ⟨m0, w0⟩, turn⟩ := q D hDn
  -- the new list
  generalize hs3 : ({ s2 with heap := s2.heap.push { cls := .type "list", data := .seq ([] : List Value).toArray } } : Shared) = s3
  have I3 : Inv X pins σ (upd H2 D (.lst [])) s3 := by
    rw [← hs3]
    refine I2.laid (t' := s2.toks) (fun b o e => Heap.get?_push_of_some _ e) (Nat.le_of_eq hD) ⟨Nat.zero_le _, [], 0, .nil, ?_⟩
    rw [← hD]
    exact Heap.get?_push_size _ rfl
  have h3 : s3.heap = s2.heap.push { cls := .type "list", data := .seq ([] : List Value).toArray } := by rw [← hs3]
  have sz : ∀ b ∈ fp, b < s2.heap.objs.size := fun b hb => by
    obtain ⟨o, e, _⟩ := T.obj _ _ st2 b hb
    exact Heap.lt_size e
  have f3 : ∀ b ∈ fp, FpOk X pins (upd H2 D (.lst [])) b ∧ b < s3.heap.objs.size := fun b hb => by
    have hlt := sz b hb
    refine ⟨⟨?_, (f2 b hb).2⟩, by rw [h3, Heap.size_push]; exact Nat.lt_succ_of_lt hlt⟩
    rw [upd_ne (by rw [← hD]; exact Nat.ne_of_lt hlt)]
    exact (f2 b hb).1
  have st3 : tn 0 s3.heap := T.keep _ _ _ st2 fun b _ o e => by rw [h3]; exact Heap.get?_push_of_some _ e
  have I4 := block_start I3 ok hN f3
  have pg := hg s3 (upd H2 D (.lst [])) s3.heap.objs.size (cellsFrom (s3.heap.objs.size + 1) scope.names (cloFrom X.env.cells scope.names [])) fp
  have pt := ht s3 (upd H2 D (.lst [])) s3.heap.objs.size (cellsFrom (s3.heap.objs.size + 1) scope.names (cloFrom X.env.cells scope.names [])) fp
  have pe := he s3 (upd H2 D (.lst [])) s3.heap.objs.size (cellsFrom (s3.heap.objs.size + 1) scope.names (cloFrom X.env.cells scope.names [])) fp ⟨_, _, I3, f3⟩ rfl
  show codeAny _ _ (.compStart (.ListComp elt [⟨tg, iter, ifs, 0⟩] scope pos) 0 (.ref it) (.ref D) (compEnvC scope (cellsFrom (s3.heap.objs.size + 1) scope.names (cloFrom X.env.cells scope.names [])) s3.heap.objs.size X.env)) (compPost (model X.prog X.w) X.A X.xe use Qf (.ref D) s3.heap.objs.size) { s3 with heap := pushCells (s3.heap.push { cls := .type "dict", data := .dict #[] }) scope.names }
  have nfp : ∀ b ∈ fp, (upd H2 D (.lst [])) b = none := fun b hb => (f3 b hb).1.1
  generalize hce : compEnvC scope (cellsFrom (s3.heap.objs.size + 1) scope.names (cloFrom X.env.cells scope.names [])) s3.heap.objs.size X.env = ce at I4 pg pt pe ⊢
  have cL : ce.locals = s3.heap.objs.size := by subst hce; rfl
  generalize hH3 : upd H2 D (.lst []) = H3 at I3 I4 pg pt pe w0 nfp f3
  generalize hs4 : ({ s3 with heap := pushCells (s3.heap.push { cls := .type "dict", data := .dict #[] }) scope.names } : Shared) = s4 at I4 ⊢
  have st4 : tn 0 s4.heap := T.keep _ _ _ st3 fun b _ o e => by rw [← hs4]; exact pushCells_keeps _ _ _ _ (Heap.get?_push_of_some _ e)
  have stat : ∀ {σ' : St} {H' : Hp} {s' : Shared}, Inv (X.blk s3 H3 scope ce fp) [] σ' H' s' → (∀ b ∈ fp, H' b = none) → ∀ b ∈ fp, FpOk (X.blk s3 H3 scope ce fp) [] H' b := fun {σ' H' s'} I' hn b hb =>
    ⟨hn b hb, (I'.ok.exf b hb).1, I'.ok.exfs b hb, .inl hb, fun x c e => (I'.ok.exf b hb).2 x c e, fun p hp => absurd (show p ∈ ([] : List (Addr × Obj)) ++ [] from hp) (by simp)⟩
  have loop : codeAny (model X.prog X.w) X.A (.compLoop (.ListComp elt [⟨tg, iter, ifs, 0⟩] scope pos) 0 (.ref it) (.ref D) ce) (compPost (model X.prog X.w) X.A X.xe use Qf (.ref D) s3.heap.objs.size) s4 := by
    refine compLoop_any (fun n s' => ∃ i H', Inv (X.blk s3 H3 scope ce fp) [] (wipe σ (own.map (·.2))) H' s' ∧ tn i s'.heap ∧ (∀ b ∈ fp, H' b = none) ∧ W i n H') ?_ m0 ⟨0, H3, I4, st4, nfp, w0⟩
    rintro n s5 ⟨i, H5, I5, st5, n5, w5⟩
    rcases turn i n H5 w5 with ⟨stop, qq⟩ | ⟨go, Nx, hNx, step⟩
    · have td := T.done (X.blk s3 H3 scope ce fp) rfl rfl rfl hc i [] s5 _ H5 (fun _ _ => False) I5 (stat I5 n5) st5 stop
      refine thnF td fun r s6 ⟨hr, I6⟩ => ?_
      subst hr
      -- back in the def's context
      have I7 : Inv X pins σ H5 s6 := I3.call' (ch := fp) I6.os I6.base I6.hok I6.bare fun b hb => ⟨(f3 b hb).1.2.2.2.1, (f3 b hb).1.2.1, (f3 b hb).1.2.2.2.2.1, (f3 b hb).1.2.2.2.2.2⟩
      have nC : H5 s3.heap.objs.size = none := by
        have z : H5 ce.locals = none := I6.free
        rw [cL] at z
        exact z
      obtain ⟨m, hn, _⟩ := I6.loc
      have hn : s6.heap.Ns ce.locals m := hn
      rw [cL] at hn
      exact hRR D s3.heap.objs.size s6 m H5 I7 qq hn (I3.fpOk (Nat.le_refl _) nC)
    · have ti := T.item (X.blk s3 H3 scope ce fp) rfl rfl rfl hc i [] s5 _ H5 (fun _ _ => False) I5 (stat I5 n5) st5 go
      refine thnF ti fun r s6 ⟨u, hr, h6⟩ => ?_
      subst hr
      refine thnF h6 fun _ s7 ⟨x, H7, I7, r7, y7, st7, n7⟩ => ?_
      have I7' := I7.pinned (stat I7 n7) (T.obj _ _ st7)
      refine thnF (pg _ s7 _ H7 x u _ I7' r7 (step x H7 y7)) fun _ s8 ⟨σ8, H8, I8, hw8, q8⟩ => ?_
      refine thnF (pt _ s8 σ8 H8 _ I8 q8) fun b s9 ⟨H9, I9, q9⟩ => ?_
      -- the turn's end
      have fin : ∀ {s' : Shared} {H' : Hp}, Inv (X.blk s3 H3 scope ce fp) ([] ++ pinsAt fp s7.heap) σ8 H' s' → Nx H' → ∃ m, m < n ∧ ∃ i H', Inv (X.blk s3 H3 scope ce fp) [] (wipe σ (own.map (·.2))) H' s' ∧ tn i s'.heap ∧ (∀ b ∈ fp, H' b = none) ∧ W i m H' := fun {s' H'} I' nx => by
        obtain ⟨m', hm, w'⟩ := hNx H' nx
        have pin' : ∀ b ∈ fp, ∀ o, s7.heap.get? b = some o → s'.heap.get? b = some o ∧ H' b = none := fun b hb o e =>
          let z := I'.pin (b, o) (List.mem_append_right _ (List.mem_append_right _ (mem_pinsAt hb e)))
          ⟨z.1, z.2.1⟩
        have hl : (wipe σ (own.map (·.2))).length = σ8.length := by rw [← hw8, wipe_length]
        refine ⟨m', hm, i + 1, H', (I'.unpinned (pins := [])).weak hl (fun j v e => ?_), T.keep _ _ _ st7 fun b hb o e => (pin' b hb o e).1, fun b hb => ?_, w'⟩
        · rw [← hw8] at e
          exact (wipe_some e).1
        · obtain ⟨o, e, _⟩ := T.obj _ _ st7 b hb
          exact (pin' b hb o e).2
      cases b with
      | false =>
        simp only [Bool.false_eq_true, if_false] at q9 ⊢
        exact fin I9 q9
      | true =>
        simp only [if_true] at q9 ⊢
        refine thn (pe _ s9 σ8 H9 _ (I9.wish _) q9) fun z s10 ⟨yv, H10, I10', r10, acc, hD10, hz10, nx⟩ => ?_
        have I10 : Inv (X.blk s3 H3 scope ce fp) _ σ8 H10 s10 := I10'.unwish
        exact app_ok (X := X.blk s3 H3 scope ce fp) I10 hD10 hz10 r10 fun s11 I11 => fin I11 nx
  exact codeAny_compStart_list loop (T.self X.A 0 _ _ _ st4 loop)
theorem ps_setLcX {i : Nat} {y : Str} {py : Pos} {elt tg iter : Expr} {ifs : List Expr} {scope : Scope} {own : List (Str × Nat)} {pos spos : Pos} {wi : TI} {g : TG} {tt : TT} {te : TE} (hc : X.calm = true) (hN : X.N.Nodup) (hy : X.N[i]? = some y) (hyl : X.env.scope.names.lookup y = some .local)
    (hsw : swapsWith (.ListComp elt [⟨tg, iter, ifs, 0⟩] scope pos) (some (.Name y py)) spos.line X.env = pure true) (hi : PI X tg iter wi) (ok : BlkOk X.N X.env.scope scope own)
    (hg : ∀ (s : Shared) (H : Hp) (C : Addr) (cl : List (Str × Addr)) (fp : List Addr), PG (X.blk s H scope (compEnvC scope cl C X.env) fp) tg g) (ht : ∀ (s : Shared) (H : Hp) (C : Addr) (cl : List (Str × Addr)) (fp : List Addr), PTs (X.blk s H scope (compEnvC scope cl C X.env) fp) ifs tt)
    (he : ∀ (s : Shared) (H : Hp) (C : Addr) (cl : List (Str × Addr)) (fp : List Addr), BlkSt X s H fp → C = s.heap.objs.size → PE (X.blkX s H scope (compEnvC scope cl C X.env) fp C) elt te) (hs : ∀ x, foldedSetIterable iter X.env x = pure x := by intro _; rfl) :
    PS X (.Assign [.Name y py] (.ListComp elt [⟨tg, iter, ifs, 0⟩] scope pos) spos) (tAsg (tLc wi g tt te (own.map (·.2))) (gName i)) := by
  intro pins s σ H D I h
  rw [exec_Assign_Name_used _ _ _ _ hsw]
  refine wpAny_bind (wpAny_standAt (wpAny_bind ?_))
  show wpAny _ X.A (do let _ ← comprehension (.ListComp elt [⟨tg, iter, ifs, 0⟩] scope pos) scope X.env (firstIterPos [⟨tg, iter, ifs, 0⟩] pos) (newList []) false (eval iter X.env) (some (assign (.Name y py) X.env))) _ _ s
  have h : tLc wi g tt te (own.map (·.2)) σ H (fun x H1 => gName i x σ H1 D.nx) := h
  refine wpAny_bind (thn (lcX_core (Qf := fun _ s' => SP X pins D .next s') hc hN I hi ok hg ht he hs h fun L C s' m H' I' q hn f => ?_) fun _ s' hq => wpAny_pure (wpAny_pure hq))
  show wpAny _ _ (assign (.Name y py) X.env (.ref L)) _ _ _
  refine wpAny_assign_Name (store_ok2 (v := V.ref L) I' hN hy (.inl hyl) rfl (fun s2 I2 ⟨a, sb, ha⟩ => ?_) (.inr hyl))
  obtain ⟨f0, f1, f2, f3, f4, f5⟩ := f
  have haC : C ≠ a := by
    rcases ha with z | z
    · rw [z]; exact f1
    · exact fun e => f4 y a z e.symm
  refine ⟨m, hn.sameBut sb haC, fun h3 sb3 => ?_⟩
  exact ⟨_, H', I2.turned (t' := s2.toks) (fun b o hb e => (sb3.2 b hb).trans e) f0 f1 f3 f4 f5, q⟩
end
end L2
namespace L2
open PySem PySem.Spec PyProof.Rows
theorem frames_base {h base base2 : Heap} : ∀ {l : List Env}, h.FunFrames base l → (∀ b ∈ frs l, base2.get? b = none) → h.FunFrames base2 l
  | [], _, _ => trivial
  | env :: r, ⟨hk, ⟨L, o, hf, _, ho, hd⟩, hr⟩, n => ⟨hk, ⟨L, o, hf, n L (by unfold frs; rw [List.filterMap_cons, hf]; exact List.mem_cons_self), ho, hd⟩,
      frames_base hr fun b hb => n b (by unfold frs; rw [List.filterMap_cons, hf]; exact List.mem_cons_of_mem _ hb)⟩
/-- a heap with one object let go -/
theorem let_go (h : Heap) (C : Addr) : ∃ g : Heap, g.get? C = none ∧ ∀ b, b ≠ C → g.get? b = h.get? b := by
  refine ⟨h.update C fun o => { o with data := .freed }, ?_, fun b hb => Heap.get?_update_other _ _ hb.symm⟩
  obtain ⟨objs, l⟩ := h
  simp only [Heap.update, Heap.get?, Array.getElem?_modify, if_true]
  cases objs[C]? <;> rfl
section
variable {P : Program} {w : World} {K : PySem.W.Frag} {mg : Str → Option Value} {base : Heap} {N : List Str} {qual : Str} {scope : Scope} {f : Addr} {cd : Value} {A : Around} {outer : List Env} {s0 : Shared} {H0 : Hp} {E : XK}
theorem passB {sC : Shared} {HC : Hp} {fp : List Addr} {scope2 : Scope} {cl : List (Str × Addr)} {C : Addr} (st : BlkSt (cxOf (CX1 P w) P w K mg base N qual scope f cd A outer s0 H0 E) sC HC fp) (hC : C = sC.heap.objs.size) :
    Passes (CX1 P w) ((cxOf (CX1 P w) P w K mg base N qual scope f cd A outer s0 H0 E).blkX sC HC scope2 (compEnvC scope2 cl C (cxOf (CX1 P w) P w K mg base N qual scope f cd A outer s0 H0 E).env) fp C) E := by
  obtain ⟨pinsC, σC, IX, hfp⟩ := st
  rintro pins σ H s e s' I ⟨ea, T, Cl, H', rfl, os, bare, un, hok, fly, ne, nT, hE⟩
  have I' := I.call' (ch := []) os un hok bare (fun b z => absurd z (by simp))
  have I7 : Inv (cxOf (CX1 P w) P w K mg base N qual scope f cd A outer s0 H0 E) pinsC σC H' s' := IX.call' (ch := fp) I'.os I'.base I'.hok I'.bare fun b hb => ⟨(hfp b hb).1.2.2.2.1, (hfp b hb).1.2.1, (hfp b hb).1.2.2.2.2.1, (hfp b hb).1.2.2.2.2.2⟩
  have nC : H' C = none := I'.free
  obtain ⟨m, hm, _⟩ := I'.loc
  have hm : s'.heap.Ns C m := hm
  obtain ⟨m0, hm0, _⟩ := I.loc
  have hm0 : s.heap.Ns C m0 := hm0
  have hl : s'.heap.FunFrames _ (envOfC qual scope s0.heap.objs.size f cd :: outer) := I7.stack
  obtain ⟨a0, W⟩ := fly.flying hl
  have Ce : C ≠ ea := fun z => by obtain ⟨o, _, _, ho, _⟩ := hm0; rw [z, ne] at ho; cases ho
  have CT : C ≠ T := fun z => by obtain ⟨o, _, _, ho, _⟩ := hm0; rw [z, nT] at ho; cases ho
  have Cf : C ∉ frs (envOfC qual scope s0.heap.objs.size f cd :: outer) := fun h => by
    obtain ⟨_, o, ho, _⟩ := IX.stack.mem h
    exact absurd (Heap.lt_size ho) (by rw [hC]; exact Nat.lt_irrefl _)
  obtain ⟨g, gC, go⟩ := let_go s'.heap C
  obtain ⟨f0, f1, f2, f3, f4, f5⟩ := IX.fpOk (Nat.le_of_eq hC.symm) nC
  have Ig : Inv (cxOf (CX1 P w) P w K mg base N qual scope f cd A outer s0 H0 E) pinsC σC H' { s' with heap := g, toks := s'.toks } := I7.turned (t' := s'.toks) (fun b o hb e => (go b hb).trans e) f0 f1 f3 f4 f5
  have hg : g.FunFrames _ (envOfC qual scope s0.heap.objs.size f cd :: outer) := Ig.stack
  have b12 : ∀ b o, (hid g ea T (envOfC qual scope s0.heap.objs.size f cd :: outer)).get? b = some o → b ≠ C ∧ (hid s'.heap ea T (envOfC qual scope s0.heap.objs.size f cd :: outer)).get? b = some o := fun b o q => by
    have q1 : g.get? b = some o := PySem.W.of_hideAll _ q
    have bC : b ≠ C := fun z => by rw [z, gC] at q1; cases q1
    exact ⟨bC, PySem.W.hideAll_get _ ((go b bC).symm.trans q1) fun z => by
      have : (hid g ea T (envOfC qual scope s0.heap.objs.size f cd :: outer)).get? b = none := PySem.W.hideAll_none _ z
      rw [this] at q; cases q⟩
  show wpAny _ _ (noteFrame (.ref ea) (envOfC qual scope s0.heap.objs.size f cd)) _ _ s'
  refine wpAny_looks_onW I7.ok.frames rfl W fun h1 hH up => ⟨m, up.ns hm, fun h2 sb ce2 hce2 => ?_⟩
  obtain ⟨k1, _, _, oe, vs, T1, oT, ts, he, hcls, hd, hv1, hnT, hTe, hT, hdT, h3⟩ := hH
  have T1C : T1 ≠ C := fun z => by
    obtain ⟨o, _, _, ho, _⟩ := hm
    have : (hid s'.heap ea T (envOfC qual scope s0.heap.objs.size f cd :: outer)).get? C = some o := PySem.W.hideAll_get _ ho fun z => by
      rcases List.mem_cons.mp z with z | z
      · exact Ce z
      · rcases List.mem_cons.mp z with z | z
        · exact CT z
        · exact Cf z
    rw [z] at hnT; exact nomatch this.symm.trans hnT
  have e2 : h2.get? ea = some oe := (sb.2 ea Ce.symm).trans he
  have t2 : h2.get? T1 = some oT := (sb.2 T1 T1C).trans hT
  have sz3 : 3 < ts.size := (Array.getElem?_eq_some_iff.mp h3).1
  have n2 : (hid g ea T (envOfC qual scope s0.heap.objs.size f cd :: outer)).get? T1 = none := by
    cases q : (hid g ea T (envOfC qual scope s0.heap.objs.size f cd :: outer)).get? T1 with
    | none => rfl
    | some o => rw [(b12 _ _ q).2] at hnT; cases hnT
  have st2 : (hid g ea T (envOfC qual scope s0.heap.objs.size f cd :: outer)).StaysIn h2 := fun b o q => by
    obtain ⟨bC, q1⟩ := b12 b o q
    exact (sb.2 b bC).trans (k1 b o q1)
  have up2 : ∀ b o, g.get? b = some o → (∀ vs, o.data ≠ .fields vs) → ∃ sl, h2.get? b = some { o with slots := sl } := fun b o q nf => by
    have bC : b ≠ C := fun z => by rw [z, gC] at q; cases q
    obtain ⟨sl, q1⟩ := up b o ((go b bC).symm.trans q) nf
    exact ⟨sl, (sb.2 b bC).trans q1⟩
  have fr0 : ∀ b ∈ frs (envOfC qual scope s0.heap.objs.size f cd :: outer), (hid g ea T (envOfC qual scope s0.heap.objs.size f cd :: outer)).get? b = none := fun b hb => PySem.W.hideAll_none _ (List.mem_cons_of_mem _ (List.mem_cons_of_mem _ hb))
  have fr2 : h2.FunFrames (hid g ea T (envOfC qual scope s0.heap.objs.size f cd :: outer)) (envOfC qual scope s0.heap.objs.size f cd :: outer) :=
    frames_base (hg.of_keeps fun b o q nf => by obtain ⟨sl, q1⟩ := up2 b o q nf; exact ⟨_, q1, rfl⟩) fr0
  have e0 : (hid g ea T (envOfC qual scope s0.heap.objs.size f cd :: outer)).get? ea = none := PySem.W.hideAll_none _ List.mem_cons_self
  -- what is left once the def's own frame is noted and left
  have fin : ∀ h4 : Heap, Heap.FlyingW (hid g ea T (envOfC qual scope s0.heap.objs.size f cd :: outer)) (envOfC qual scope s0.heap.objs.size f cd :: outer) ea (.ref Cl) a0 h4 → g.UpToSlots h4 → CX1 P w outer H0 s0 E (.ref ea) { s' with heap := h4 } := fun h4 W' up4 => by
    obtain ⟨T', S⟩ := stat_of hg Ig.hok fly.ne fly.nT Ig.stkFree W' up4
    have s0C : s0.heap.objs.size ≤ C := by rw [hC]; exact IX.sz
    have there0 : ∀ {b : Addr}, s.heap.get? b = none → s0.heap.get? b = none := fun {b} n => by
      cases q : s0.heap.get? b with
      | none => rfl
      | some o =>
        exfalso
        obtain ⟨o1, q1⟩ := IX.base.there b o q (show b ∉ ([] : List Addr) from fun h => nomatch h)
        by_cases hb : b ∈ fp
        · rcases (hfp b hb).1.2.2.2.1 with z | z
          · exact nomatch (show b ∈ ([] : List Addr) from z)
          · exact absurd (Heap.lt_size q) (Nat.not_lt.mpr z)
        · obtain ⟨o2, q2⟩ := I.base.there b o1 q1 hb
          rw [n] at q2; cases q2
    have n1 := there0 ne
    have n2 := there0 nT
    have hL : s0.heap.get? s0.heap.objs.size = none := Heap.get?_none_of_le (Nat.le_refl _)
    refine ⟨ea, T', Cl, H', rfl, Ig.os, Ig.bare, S.un Ig.base n1 n2 (fun b hb => ?_) (fun b hb => ?_), S.hok, S.fly, n1, ?_, hE⟩
    · rcases List.mem_cons.mp (Ig.stkSub b hb) with z | z
      · right; rw [z]; exact hL
      · exact .inl z
    · show b ∈ frs (envOfC qual scope s0.heap.objs.size f cd :: outer)
      unfold frs
      rw [List.filterMap_cons]
      exact List.mem_cons_of_mem _ hb
    · rcases S.new with z | z
      · rw [z]; exact n2
      · exact Ig.new0 rfl z
  unfold PySem.passOn
  refine wpAny_bind (wpAny_field e2 hd hv1 ?_)
  show wpAny _ _ (if (Value.ref T1 == Value.none) = true then _ else (do setFlight (Value.ref ea) ce2.frame; throw (Value.ref ea))) _ _ _
  rw [if_neg (show ¬ (Value.ref T1 == Value.none) = true by simp)]
  refine wpAny_bind ?_
  unfold setFlight
  refine wpAny_bind (wpAny_field e2 hd hv1 ?_)
  rw [if_pos (show (Value.ref T1 != Value.none) = true by simp)]
  refine wpAny_setField t2 hdT sz3 ?_
  refine wpAny_throw ?_
  generalize (ce2.frame.elim Value.none fun f => rawInt f) = v
  have other : ∀ b, b ≠ T1 → (h2.update T1 (Obj.mapFields (·.setIfInBounds 3 v))).get? b = h2.get? b := fun b hb => Heap.get?_update_other _ _ (Ne.symm hb)
  have t3 := Heap.get?_update_self (Obj.mapFields (·.setIfInBounds 3 v)) t2 (Obj.isFreed_of_fields (Obj.data_mapFields hdT _))
  have d3 := Obj.data_mapFields hdT (·.setIfInBounds 3 v)
  generalize hh3 : h2.update T1 (Obj.mapFields (·.setIfInBounds 3 v)) = h3 at other t3 ⊢
  have v3 : (ts.setIfInBounds 3 v)[3]? = some v := by simp [sz3]
  have noRec : ∀ b o, h2.get? b = some o → (∀ vs, o.data ≠ .fields vs) → b ≠ T1 := fun b o q nf z => by
    rw [z, t2] at q; cases q; exact nf ts hdT
  have e3 : h3.get? ea = some oe := (other ea (Ne.symm hTe)).trans e2
  have st3 : (hid g ea T (envOfC qual scope s0.heap.objs.size f cd :: outer)).StaysIn h3 := fun b o q => (other b fun z => by rw [z, n2] at q; cases q).trans (st2 b o q)
  have fr3 : h3.FunFrames (hid g ea T (envOfC qual scope s0.heap.objs.size f cd :: outer)) (envOfC qual scope s0.heap.objs.size f cd :: outer) := fr2.of_keeps fun b o q nf => ⟨o, (other b (noRec b o q nf)).trans q, rfl⟩
  have up3 : ∀ b o, g.get? b = some o → (∀ vs, o.data ≠ .fields vs) → ∃ sl, h3.get? b = some { o with slots := sl } := fun b o q nf => by
    obtain ⟨sl, q1⟩ := up2 b o q nf
    exact ⟨sl, (other b (noRec b _ q1 nf)).trans q1⟩
  show wpAny _ _ (leaving (envOfC qual scope s0.heap.objs.size f cd) (.ref ea)) _ _ _
  by_cases hv : v = rawInt s0.heap.objs.size
  · subst hv
    have tr : h3.TracedAtW (hid g ea T (envOfC qual scope s0.heap.objs.size f cd :: outer)) ea (.ref Cl) a0 (rawInt s0.heap.objs.size) := ⟨oe, vs, T1, _, _, e3, hcls, hd, hv1, n2, hTe, t3, d3, v3⟩
    unfold leaving
    refine wpAny_bind (wpAny_noteFrame_againW rfl tr ?_)
    refine wpAny_landsW ⟨st3, e0, fr3, tr⟩ fun h4 W' up4 => ?_
    exact fin h4 W' fun b o q nf => by
      obtain ⟨sl, q1⟩ := up3 b o q nf
      obtain ⟨sl2, q2⟩ := up4 b _ q1 nf
      exact ⟨sl2, q2⟩
  · have noRec3 : ∀ b o, h3.get? b = some o → (∀ vs, o.data ≠ .fields vs) → b ≠ T1 := fun b o q nf z => by
      rw [z, t3] at q; cases q; exact nf _ d3
    have other4 : ∀ b, b ≠ T1 → (h3.update T1 (Obj.mapFields (·.setIfInBounds 3 Value.none))).get? b = h3.get? b := fun b hb => Heap.get?_update_other _ _ (Ne.symm hb)
    obtain ⟨hcl, hv0⟩ := hcls
    unfold leaving noteFrame
    refine wpAny_bind ?_
    show wpAny _ _ (do
      let head ← field (.ref ea) 1
      if head != .none then
        if (← field head 3) == rawInt s0.heap.objs.size then return
        setField head 3 .none
      setField (.ref ea) 1 (← EntryCells.newEntry head (← frameOf (envOfC qual scope s0.heap.objs.size f cd)) .none (rawInt s0.heap.objs.size) .none (← entryPlaceOf s0.heap.objs.size (head != .none)))) _ _ _
    refine wpAny_bind (wpAny_field e3 hd hv1 ?_)
    rw [if_pos (show (Value.ref T1 != Value.none) = true by simp)]
    refine wpAny_bind (wpAny_field t3 d3 v3 ?_)
    rw [if_neg (show ¬ (v == rawInt s0.heap.objs.size) = true from fun z => hv (beq_iff_eq.mp z))]
    refine wpAny_bind (wpAny_setField t3 d3 (by simp [sz3]) ?_)
    refine wpAny_newEntryW I7.ok.frames (fr3.of_keeps fun b o q nf => ⟨o, (other4 b (noRec3 b o q nf)).trans q, rfl⟩) rfl ((other4 ea (Ne.symm hTe)).trans e3)
      (fun b o q => (other4 b fun z => by rw [z, n2] at q; cases q).trans (st3 b o q)) e0 hd (Array.getElem?_eq_some_iff.mp hv1).1 hv0 fun h4 ⟨x1, x2, x3, x4⟩ => ?_
    rw [hcl] at x3
    exact fin h4 ⟨x1, e0, x2, x3⟩ fun b o q nf => by
      obtain ⟨sl, q1⟩ := up3 b o q nf
      obtain ⟨sl2, q2⟩ := x4 b _ ((other4 b (noRec3 b _ q1 nf)).trans q1) nf
      exact ⟨sl2, q2⟩
end
end L2
namespace KP
open PySem L2 BK
section
variable {P : Program} {w : World} {K : PySem.W.Frag} {mg : Str → Option Value} {base : Heap}
/-! read_book -/
abbrev s_read_book : Stmt := top 21
abbrev n_read_book : List Str := ["text", "book", "part"]
theorem sc_read_book : FnScope n_read_book ["text"] (defScope s_read_book) := ⟨rfl, rfl, rfl, by decide +kernel, rfl, by decide +kernel, by decide +kernel⟩
def sp_read_bookX (K : PySem.W.Frag) (B Bq Bn C : Addr) : Sp := fun vs H Q E => ∃ v, vs = [v] ∧ Tb3 B Bq Bn H ∧
  ((∃ t, v = .str t ∧ t.length ≤ 560 ∧ (∀ bk, t = bkW bk → Bk5 bk → ∀ a H', H a = none → BookAt H' a bk → Off [B, Bq, Bn] H H' → Tb3 B Bq Bn H' → Q (.ref a) H') ∧ (¬ Wri t → ∀ H', Off [B, Bq, Bn] H H' → Tb3 B Bq Bn H' → E (.ref C) none H')) ∨
   (NoStr K H v ∧ ∀ H', Off [B, Bq, Bn] H H' → Tb3 B Bq Bn H' → E (.ref C) none H'))
theorem ok_read_bookX {f f1 f2 B Bq Bn cE c0 c1 c2 c3 c4 c5 : Addr} {fd fd1 fd2 : FuncData} {tw : Tok} (F : Fun K "read_book" "read_book" s_read_book f fd) (T : Blt mg) (hNW : mg "NO_WORDS" = some (.str "-" tw)) (R : Errs K mg cE c0 c1 c2 c3 c4 c5)
    (B1 : FB K mg "read_entry" ["text"] f1 fd1) (G1 : FnOk P w K mg base (CX1 P w) 3 f1 fd1 ["text"] (sp_read_entryX Bn c4))
    (B2 : FB K mg "is_book" ["thing"] f2 fd2) (G2 : FnOk P w K mg base CX0 6 f2 fd2 ["thing"] (sp_is_book B Bq)) : FnOk P w K mg base (CX1 P w) 7 f fd ["text"] (sp_read_bookX K B Bq Bn c4) := by
  refine F.okX sc_read_book (fun vs H Q E h => ?_) (fun cdv A outer s H vs Q E hr h => ?_)
  · obtain ⟨v, rfl, _⟩ := h
    rfl
  · obtain ⟨v, rfl, tb, h⟩ := h
    have nd := sc_read_book.nd
    refine ⟨_, @pss_cons _ _ _ _ _ (@ps_if _ _ _ _ _ _ _ _ (@pt_not _ _ _ _ (@pt_val _ _ _ (@pisi _ _ _ _ _ _ _ _ T.isi T.str (@pv _ 0 _ _ (by rfl) (by first | exact Or.inl rfl | exact Or.inr (Or.inl rfl) | exact Or.inr (Or.inr rfl)) (by decide) (by decide)) bt_str (by rfl) (by rfl) (by decide) (by decide) (by rfl)) (by intro _; rfl))) (@pss_one _ _ _ (@ps_raise _ _ _ _ _ _ _ _ _ _ _ _ _ _ _ _ _ _ _ _ _ _ _ R.x4 (by rfl) (by decide))) pss_nil) (@pss_cons _ _ _ _ _ (@ps_if _ _ _ _ _ _ _ _ (@pt_cmpR _ _ _ _ _ _ _ _ op_eq (@pv _ 0 _ _ (by rfl) (by first | exact Or.inl rfl | exact Or.inr (Or.inl rfl) | exact Or.inr (Or.inr rfl)) (by decide) (by decide)) (@pe_glob _ _ (V.str "-") _ _ rfl hNW ⟨_, rfl⟩ (by decide)) (nomark _)) (@pss_one _ _ _ (@ps_ret _ _ _ _ (@pe_lst _ _ _ _ pa_nil))) pss_nil) (@pss_cons _ _ _ _ _ (@ps_setLcX _ 1 _ _ _ _ _ _ _ [("part", 2)] _ _ _ (gName 2) _ _ rfl nd rfl rfl rfl (@pi_list _ _ _ _ (@pe_split _ _ _ _ _ _ _ (@pv _ 0 _ _ (by rfl) (by first | exact Or.inl rfl | exact Or.inr (Or.inl rfl) | exact Or.inr (Or.inr rfl)) (by decide) (by decide)) pe_str (by rfl) (by rfl) (by rfl))) (blkOk_by (own := [("part", 2)]) (N := n_read_book) (sc := defScope s_read_book) (by decide +kernel)) (fun _ _ _ _ _ => @pg_name _ _ 2 _ nd rfl (Or.inl rfl) (by first | exact .inl rfl | exact .inr rfl | assumption)) (fun _ _ _ _ _ => pts_nil) (fun _ _ _ _ _ hst hC => (@pe_call _ _ _ _ _ _ _ _ _ _ _ _ _ _ _ _ G1 (hr.mono (by decide)) rfl B1.mg B1.kp B1.b .nil (@passB _ _ _ _ _ _ _ _ _ _ _ _ _ _ _ _ _ _ _ _ _ hst hC) (@pa_cons _ _ _ _ _ (@pv _ 2 _ _ (by rfl) (by first | exact Or.inl rfl | exact Or.inr (Or.inl rfl) | exact Or.inr (Or.inr rfl)) (by decide) (by decide)) pa_nil (by rfl)) (by decide) (by rfl) (by rfl))) (by intro _; rfl)) (@pss_cons _ _ _ _ _ (@ps_if _ _ _ _ _ _ _ _ (@pt_not _ _ _ _ (@pt_val _ _ _ (@pcall _ _ _ _ _ _ _ _ _ _ _ _ B2 G2 hr (@pa_cons _ _ _ _ _ (@pv _ 1 _ _ (by rfl) (by first | exact Or.inl rfl | exact Or.inr (Or.inl rfl) | exact Or.inr (Or.inr rfl)) (by decide) (by decide)) pa_nil (by rfl)) (by rfl) (by decide) (by rfl) (by rfl)) (by intro _; rfl))) (@pss_one _ _ _ (@ps_raise _ _ _ _ _ _ _ _ _ _ _ _ _ _ _ _ _ _ _ _ _ _ _ R.x4 (by rfl) (by decide))) pss_nil) (@pss_one _ _ _ (@ps_ret _ _ _ _ (@pv _ 1 _ _ (by rfl) (by first | exact Or.inl rfl | exact Or.inr (Or.inl rfl) | exact Or.inr (Or.inr rfl)) (by decide) (by decide))))))), ?_⟩
    rcases h with ⟨t, rfl, tl, q, k⟩ | ⟨⟨ty, hty, hk⟩, k⟩
    rotate_left
    · refine ⟨_, rfl, _, _, _, _, rfl, hty, hk, _, rfl, iteT ?_⟩
      exact k H Off.refl tb
    refine ⟨_, rfl, _, _, _, _, rfl, .str _, rfl, _, rfl, iteF ⟨_, rfl, rfl, _, rfl, ?_⟩⟩
    by_cases h0 : t = "-"
    · subst h0
      refine iteT ⟨by decide, fun p hp => ?_⟩
      exact q [] rfl ⟨rfl, (fun y hy => nomatch hy), Nat.zero_le _⟩ p _ hp ⟨[], upd_same, .nil⟩ (off_new hp) (tb.same (same_new hp))
    rw [decide_eq_false (fun h => h0 (V.str.inj h))]
    have tlen : t.length ≤ 560 := tl
    have kl : (Txt.split t " ").length ≤ 562 := by
      have h1 := PyProof.Rows.split_le t " "
      omega
    refine iteF ⟨_, rfl, ⟨_, rfl⟩, _, _, rfl, rfl, rfl, Nat.le_trans (Nat.add_le_add_right tlen 2) (by decide), fun l hl => ?_⟩
    have el0 : (upd H l (.lst ((Txt.split t " ").map V.str))) l = some (.lst ((Txt.split t " ").map V.str)) := upd_same
    have s1 : Same H (upd H l (.lst ((Txt.split t " ").map V.str))) := same_new hl
    generalize upd H l (.lst ((Txt.split t " ").map V.str)) = H1 at s1 el0 ⊢
    have tb1 := tb.same s1
    refine ⟨l, rfl, ⟨_, SqL.of el0⟩, fun D hD => ?_⟩
    have DN : H D = none := by
      cases e : H D with
      | none => rfl
      | some o => rw [s1 _ _ e] at hD; cases hD
    have nlD : l ≠ D := ne_of_none el0 hD
    refine lc_list (K := K) (a := l) (xs := (Txt.split t " ").map V.str) (fun i HA => ∃ (ps : List Addr) (bk : Book), HA D = some (.lst (ps.map V.ref)) ∧ Paired (fun p (y : Str × Int) => HA p = some (.tup [.str y.1, .int y.2])) ps bk ∧ (Txt.split t " ").take i = bk.map entW ∧ (∀ y ∈ bk, 61 ∉ TL.tl y.1) ∧ HA l = some (.lst ((Txt.split t " ").map V.str)) ∧ Tb3 B Bq Bn HA ∧ Off [B, Bq, Bn] H HA)
      ⟨[], [], upd_same, .nil, by simp, (fun y hy => nomatch hy), by rw [upd_ne nlD]; exact el0, tb1.same (same_new hD), (off_same s1).trans (off_new hD)⟩ (fun i HA _ ⟨_, _, _, _, _, _, e, _⟩ => SqL.of e) ?_ ?_
    · rintro i x HA hx ⟨ps, bk, e2, pp, hb, hf, ea, t2, o2⟩
      rw [List.getElem?_map] at hx
      obtain ⟨p, hp, rfl⟩ : ∃ y, (Txt.split t " ")[i]? = some y ∧ x = V.str y := by
        cases e : (Txt.split t " ")[i]? with
        | none => rw [e] at hx; cases hx
        | some c => rw [e] at hx; exact ⟨c, rfl, (Option.some.inj hx).symm⟩
      have il := (List.getElem?_eq_some_iff.mp hp).1
      have pl2 : p.length ≤ 560 := Nat.le_trans (split_part (List.mem_of_getElem? hp)) tlen
      have bl : bk.length ≤ 562 := by
        have := congrArg List.length hb
        rw [List.length_map, List.length_take] at this
        omega
      have pl : ps.length ≤ 562 := by rw [Paired.length pp]; exact bl
      refine ⟨rfl, _, rfl, p, rfl, pl2, t2.t3, fun y e hy p3 H3 hp3 e3 o3 tn3 => ?_, fun hne H3 o3 tn3 => ?_⟩
      · have t3 := t2.off3 o3 tn3
        have o3' : Off [B, Bq, Bn] HA H3 := o3.mono (by simp)
        have eD := t2.lst e2 o3'
        refine ⟨_, eD, small_szl' (by rw [List.length_map]; omega), ps ++ [p3], bk ++ [y], by rw [upd_same, List.map_append]; rfl, ?_, take_add hp hb e, fun z hz => ?_, ?_, t3.upd (t3.no eD fun _ h => by cases h), off_own (o2.trans o3') DN⟩
        · have pD : p3 ≠ D := fun z => by rw [z, eD] at e3; cases e3
          refine paired_app (paired_imp (fun b y _ h => ?_) pp) (.cons (by rw [upd_ne pD]; exact e3) .nil)
          have bD : b ≠ D := fun z => by rw [z, e2] at h; cases h
          rw [upd_ne bD]
          exact t2.tup h o3'
        · rcases List.mem_append.mp hz with h | h
          · exact hf z h
          · rw [List.mem_singleton.mp h]; exact hy
        · rw [upd_ne nlD]; exact t2.lst ea o3'
      · refine k ?_ H3 (o2.trans (o3.mono (by simp))) (t2.off3 o3 tn3)
        rintro ⟨bw, e, hw⟩
        have h1 := (bk_parts h0 e hw).1
        rw [h1, List.getElem?_map] at hp
        cases e2 : bw[i]? with
        | none => rw [e2] at hp; cases hp
        | some y =>
          rw [e2] at hp
          exact hne ⟨y, (Option.some.inj hp).symm, book_free hw y (List.mem_of_getElem? e2)⟩
    · rintro HA ⟨ps, bk, e2, pp, hb, hf, ea, t2, o2⟩
      rw [List.length_map, List.take_length] at hb
      obtain ⟨et, hne⟩ := parts_bk hb
      have bl : bk.length ≤ 562 := by
        have := congrArg List.length hb
        rw [List.length_map] at this
        omega
      have hbk : BookAt HA D bk := ⟨ps, e2, pp⟩
      refine ⟨_, rfl, D, bk, rfl, hbk, ?_, by omega, t2.t1, t2.t2, t2.n1, fun H4 o4 t41 t42 => ⟨_, rfl, ?_⟩⟩
      · intro x hx
        obtain ⟨y, hy, rfl⟩ := List.mem_map.mp hx
        have h1 : (entW y).length ≤ t.length := split_part (by rw [hb]; exact List.mem_map.mpr ⟨y, hy, rfl⟩)
        have h2 := ent_pos y
        exact Nat.le_trans (show y.1.length ≤ 560 by omega) (by decide)
      have o4' : Off [B, Bq, Bn] HA H4 := o4.mono (by simp)
      cases hw : bookB bk with
      | true => exact iteF ⟨_, rfl, q bk et (bk5_of hw (by rw [← et]; exact tlen)) D H4 DN (t2.bk hbk o4') (o2.trans o4') (t2.off12 o4 t41 t42)⟩
      | false =>
        refine iteT ?_
        refine k ?_ H4 (o2.trans o4') (t2.off12 o4 t41 t42)
        rintro ⟨bw, e, hk2⟩
        have h1 := (bk_parts h0 e hk2).1
        have := ents_inj (book_free hk2) hf (h1.symm.trans hb)
        rw [this, hw] at hk2; cases hk2
end
end KP
namespace KP
open PySem L2 BK
section
variable {P : Program} {w : World} {K : PySem.W.Frag} {mg : Str → Option Value} {base : Heap}
/-! _law_read -/
abbrev s_read : Stmt := top 31
abbrev n_read : List Str := ["thing", "found", "e", "others"]
theorem sc_read : FnScope n_read ["thing"] (defScope s_read) := ⟨rfl, rfl, rfl, by decide +kernel, rfl, by decide +kernel, by decide +kernel⟩
def RefD (B Bq Bn : Addr) (H : Hp) (Q : VK) : Prop := ∀ a H', H a = none → H' a = some (.tup [.str "refused", .str "none"]) → Off [B, Bq, Bn] H H' → Tb3 B Bq Bn H' → Q (.ref a) H'
def sp_read (K : PySem.W.Frag) (B Bq Bn : Addr) : Sp := fun vs H Q _ => ∃ v, vs = [v] ∧ Tb3 B Bq Bn H ∧
  ((∃ t, v = .str t ∧ t.length ≤ 560 ∧ (∀ bk, t = bkW bk → Bk5 bk → ∀ a H', H a = none → BookAt H' a bk → Off [B, Bq, Bn] H H' → Tb3 B Bq Bn H' → Q (.ref a) H') ∧ (¬ Wri t → RefD B Bq Bn H Q)) ∨ (NoStr K H v ∧ RefD B Bq Bn H Q))
theorem kit_c4 {cE c0 c1 c2 c3 c4 c5 : Addr} (R : Errs K mg cE c0 c1 c2 c3 c4 c5) : PySem.W.kitOne K (.ref c4) (.ref c4) = some true ∧ PySem.W.kitAny K (.ref c4) ([c1, c0, c5, c2, c3].map Value.ref) = some false := by
  have h := errPairs_of R.split.2.2
  have m : ∀ {i : Nat} {c : Addr}, [c0, c1, c2, c3, c4, c5][i]? = some c → (i, c) ∈ numd 0 [c0, c1, c2, c3, c4, c5] := fun {i c} e => by have := numd_mem (k := 0) e; rwa [Nat.zero_add] at this
  have m4 := m (i := 4) (c := c4) rfl
  have k0 : PySem.W.kitOne K (.ref c4) (.ref c0) = some false := h _ m4 _ (m (i := 0) rfl)
  have k1 : PySem.W.kitOne K (.ref c4) (.ref c1) = some false := h _ m4 _ (m (i := 1) rfl)
  have k2 : PySem.W.kitOne K (.ref c4) (.ref c2) = some false := h _ m4 _ (m (i := 2) rfl)
  have k3 : PySem.W.kitOne K (.ref c4) (.ref c3) = some false := h _ m4 _ (m (i := 3) rfl)
  have k5 : PySem.W.kitOne K (.ref c4) (.ref c5) = some false := h _ m4 _ (m (i := 5) rfl)
  refine ⟨h _ m4 _ m4, ?_⟩
  simp only [List.map_cons, List.map_nil, PySem.W.kitAny, k0, k1, k2, k3, k5]
theorem ok_read {f f1 B Bq Bn cE c0 c1 c2 c3 c4 c5 : Addr} {fd fd1 : FuncData} (F : Fun K "_law_read" "_law_read" s_read f fd) (T : Blt mg) (R : Errs K mg cE c0 c1 c2 c3 c4 c5)
    (B1 : FB K mg "read_book" ["text"] f1 fd1) (G1 : FnOk P w K mg base (CX1 P w) 7 f1 fd1 ["text"] (sp_read_bookX K B Bq Bn c4)) : FnOk P w K mg base CX0 8 f fd ["thing"] (sp_read K B Bq Bn) := by
  refine F.ok sc_read (fun vs H Q E h => ?_) (fun cdv A outer s H vs Q E hr h => ?_)
  · obtain ⟨v, rfl, _⟩ := h
    rfl
  · obtain ⟨v, rfl, tb, h⟩ := h
    have nd := sc_read.nd
    refine ⟨_, @pss_cons _ _ _ _ _ (@ps_set _ _ 1 _ _ _ _ nd rfl (Or.inl rfl) pe_non (by rfl) (by first | exact .inl rfl | exact .inr rfl | assumption)) (@pss_cons _ _ _ _ _ (@ps_tryAs _ _ _ _ _ _ _ 2 _ _ _ _ _ rfl rfl rfl R.xE nd (fun pn W => (@pss_one _ _ _ (@ps_set _ _ 1 _ _ _ _ nd rfl (Or.inl rfl) (@pcallT _ _ _ _ _ _ _ _ _ _ _ _ _ _ rfl B1 G1 hr (@pa_cons _ _ _ _ _ (@pv _ 0 _ _ (by rfl) (by first | exact Or.inl rfl | exact Or.inr (Or.inl rfl) | exact Or.inr (Or.inr rfl)) (by decide) (by decide)) pa_nil (by rfl)) (by rfl) (by decide) (by rfl) (by rfl)) (by rfl) (by first | exact .inl rfl | exact .inr rfl | assumption)))) (fun ea pn => (@pss_cons _ _ _ _ _ (@ps_set _ _ 1 _ _ _ _ nd rfl (Or.inl rfl) (@pe_tup _ _ _ _ _ (@pa_cons _ _ _ _ _ pe_str (@pa_cons _ _ _ _ _ pe_str pa_nil (by rfl)) (by rfl))) (by rfl) (by first | exact .inl rfl | exact .inr rfl | assumption)) (@pss_cons _ _ _ _ _ (@ps_set _ _ 3 _ _ _ _ nd rfl (Or.inl rfl) (@pisiXTK _ K _ _ _ _ _ _ rfl T.isi (@pv _ 2 _ _ (by rfl) (by first | exact Or.inl rfl | exact Or.inr (Or.inl rfl) | exact Or.inr (Or.inr rfl)) (by decide) (by decide)) (@pe_tup _ _ _ _ _ (@pa_cons _ _ _ _ _ (@pe_glob _ _ (V.ref c1) _ _ rfl R.m1 rfl (by decide)) (@pa_cons _ _ _ _ _ (@pe_glob _ _ (V.ref c0) _ _ rfl R.m0 rfl (by decide)) (@pa_cons _ _ _ _ _ (@pe_glob _ _ (V.ref c5) _ _ rfl R.m5 rfl (by decide)) (@pa_cons _ _ _ _ _ (@pe_glob _ _ (V.ref c2) _ _ rfl R.m2 rfl (by decide)) (@pa_cons _ _ _ _ _ (@pe_glob _ _ (V.ref c3) _ _ rfl R.m3 rfl (by decide)) pa_nil (by rfl)) (by rfl)) (by rfl)) (by rfl)) (by rfl))) (by rfl) (by rfl) (by rfl) (by rfl)) (by rfl) (by first | exact .inl rfl | exact .inr rfl | assumption)) (@pss_one _ _ _ (@ps_if _ _ _ _ _ _ _ _ (@PW.pt _ _ _ (@pw_and _ _ _ _ _ _ _ (@pt_val _ _ _ (@pisiXK _ K _ _ _ _ _ _ rfl T.isi (@pv _ 2 _ _ (by rfl) (by first | exact Or.inl rfl | exact Or.inr (Or.inl rfl) | exact Or.inr (Or.inr rfl)) (by decide) (by decide)) (@pe_glob _ _ (V.ref c4) _ _ rfl R.m4 rfl (by decide)) (by rfl) (by rfl) (by rfl) (by rfl)) (by intro _; rfl)) (@pw_and _ _ _ _ _ _ _ (@pt_val _ _ _ (@pisiXK _ K _ _ _ _ _ _ rfl T.isi (@pv _ 2 _ _ (by rfl) (by first | exact Or.inl rfl | exact Or.inr (Or.inl rfl) | exact Or.inr (Or.inr rfl)) (by decide) (by decide)) (@pe_bltn _ _ (V.ty "ValueError") _ _ rfl R.vE bt_VE rfl (by decide) (by decide)) (by rfl) (by rfl) (by rfl) (by rfl)) (by intro _; rfl)) (@pw_and1 _ _ _ _ (@pt_not _ _ _ _ (@pt_val _ _ _ (@pv _ 3 _ _ (by rfl) (by first | exact Or.inl rfl | exact Or.inr (Or.inl rfl) | exact Or.inr (Or.inr rfl)) (by decide) (by decide)) (by intro _; rfl))))))) (@pss_one _ _ _ (@ps_set _ _ 1 _ _ _ _ nd rfl (Or.inl rfl) (@pe_tup _ _ _ _ _ (@pa_cons _ _ _ _ _ pe_str (@pa_cons _ _ _ _ _ pe_str pa_nil (by rfl)) (by rfl))) (by rfl) (by first | exact .inl rfl | exact .inr rfl | assumption))) pss_nil))))) (by rfl) (by rfl) (by rfl) (by decide)) (@pss_one _ _ _ (@ps_ret _ _ _ _ (@pv _ 1 _ _ (by rfl) (by first | exact Or.inl rfl | exact Or.inr (Or.inl rfl) | exact Or.inr (Or.inr rfl)) (by decide) (by decide))))), ?_⟩
    refine ⟨fun σ' c H' => σ' = [some v, some .non, none, none] ∧ c = .ref c4 ∧ Off [B, Bq, Bn] H H' ∧ Tb3 B Bq Bn H' ∧ RefD B Bq Bn H Q, ?_, ?_⟩
    · rcases h with ⟨t, rfl, tl, q, rd⟩ | ⟨ns, rd⟩
      · exact ⟨_, rfl, _, rfl, tb, .inl ⟨t, rfl, tl, fun bk e hk a H' hn hb o t' => ⟨_, rfl, q bk e hk a H' hn hb o t'⟩, fun nw H' o t' => ⟨rfl, rfl, o, t', rd nw⟩⟩⟩
      · exact ⟨_, rfl, _, rfl, tb, .inr ⟨ns, fun H' o t' => ⟨rfl, rfl, o, t', rd⟩⟩⟩
    · rintro σ' C ea H' ⟨rfl, hC, o, tb', rd⟩ hea
      cases hC
      refine ⟨(R.one (by simp)).2.2.1, ?_⟩
      have s1 := same_new (o := HO.ext (ExcO ea c4)) hea
      have ex1 : (upd H' ea (.ext (ExcO ea c4))) ea = some (.ext (ExcO ea c4)) := upd_same
      have K4 := (R.one (c := c4) (by simp)).1
      have V4 := (R.one (c := c4) (by simp)).2.2.2
      obtain ⟨k1, k2⟩ := kit_c4 R
      generalize upd H' ea (.ext (ExcO ea c4)) = H2 at s1 ex1 ⊢
      refine ⟨(show 2 ≤ sizeLine by decide), fun p1 hp1 => ?_⟩
      have s2 : Same H' (upd H2 p1 (.tup [.str "refused", .str "other"])) := s1.trans (same_new hp1)
      have ex2 := (same_new (o := HO.tup [.str "refused", .str "other"]) hp1) _ _ ex1
      generalize upd H2 p1 (.tup [.str "refused", .str "other"]) = H3 at s2 ex2 ⊢
      refine ⟨_, rfl, (show 5 ≤ sizeLine by decide), fun p2 hp2 => ?_⟩
      have s3 : Same H' (upd H3 p2 (.tup ([c1, c0, c5, c2, c3].map V.ref))) := s2.trans (same_new hp2)
      have ex3 := (same_new (o := HO.tup ([c1, c0, c5, c2, c3].map V.ref)) hp2) _ _ ex2
      have e3 : (upd H3 p2 (.tup ([c1, c0, c5, c2, c3].map V.ref))) p2 = some (.tup ([c1, c0, c5, c2, c3].map V.ref)) := upd_same
      refine ⟨ea, c4, p2, [c1, c0, c5, c2, c3], false, rfl, ex3, K4, e3, k2, ?_⟩
      refine ⟨_, rfl, .ref ea, .ref c4, .ref c4, .ref c4, true, rfl, rfl, .inr ⟨ea, c4, rfl, rfl, ex3, K4⟩, k1, _, rfl, iteT ?_⟩
      refine ⟨_, rfl, .ref ea, .ty "ValueError", .type "ValueError", .ref c4, true, rfl, rfl, .inr ⟨ea, c4, rfl, rfl, ex3, K4⟩, V4, _, rfl, iteT ?_⟩
      refine ⟨_, rfl, _, rfl, iteT ?_⟩
      refine ⟨(show 2 ≤ sizeLine by decide), fun p3 hp3 => ?_⟩
      have s4 : Same H' (upd (upd H3 p2 (.tup ([c1, c0, c5, c2, c3].map V.ref))) p3 (.tup [.str "refused", .str "none"])) := s3.trans (same_new hp3)
      have t4 := tb'.same s3
      have o3 : Off [B, Bq, Bn] H (upd H3 p2 (.tup ([c1, c0, c5, c2, c3].map V.ref))) := o.trans (off_same s3)
      exact ⟨_, rfl, rd p3 _ (t4.non o3 hp3) upd_same (o.trans (off_same s4)) (tb'.same s4)⟩
end
end KP
namespace KP
open PySem L2 BK
section
variable {P : Program} {w : World} {K : PySem.W.Frag} {mg : Str → Option Value} {base : Heap}
/-! _law_cell -/
abbrev s_cell : Stmt := top 23
abbrev n_cell : List Str := ["script", "k"]
theorem sc_cell : FnScope n_cell ["script", "k"] (defScope s_cell) := ⟨rfl, rfl, rfl, by decide +kernel, rfl, by decide +kernel, by decide +kernel⟩
def sp_cell (K : PySem.W.Frag) : Sp := fun vs H Q _ => ∃ (a : Addr) (ns : List Int) (i : Int), vs = [.ref a, .int i] ∧ SqL K H a (ns.map V.int) ∧ 0 ≤ i ∧ i ≤ 1000 ∧ ∀ c, Q (.int c) H
theorem ok_cell {f : Addr} {fd : FuncData} (F : Fun K "_law_cell" "_law_cell" s_cell f fd) (T : Blt mg) : FnOk P w K mg base CX0 1 f fd ["script", "k"] (sp_cell K) := by
  refine F.ok sc_cell (fun vs H Q E h => ?_) (fun cdv A outer s H vs Q E hr h => ?_)
  · obtain ⟨a, ns, i, rfl, _⟩ := h
    rfl
  · obtain ⟨a, ns, i, rfl, hs, i0, i1, q⟩ := h
    have nd := sc_cell.nd
    refine ⟨_, @pss_cons _ _ _ _ _ (@ps_if _ _ _ _ _ _ _ _ (@pt_cmpR _ _ _ _ _ _ _ _ op_lt (@pv _ 1 _ _ (by rfl) (by first | exact Or.inl rfl | exact Or.inr (Or.inl rfl) | exact Or.inr (Or.inr rfl)) (by decide) (by decide)) (@pe_callB _ _ _ _ _ _ _ _ _ call_len_seq rfl T.len PySem.boot_len (@pa_cons _ _ _ _ _ (@pv _ 0 _ _ (by rfl) (by first | exact Or.inl rfl | exact Or.inr (Or.inl rfl) | exact Or.inr (Or.inr rfl)) (by decide) (by decide)) pa_nil (by rfl)) (by decide) (by decide) (by rfl) (by rfl)) (nomark _)) (@pss_one _ _ _ (@ps_ret _ _ _ _ (@pe_ix _ _ _ _ _ _ _ ix_list (@pv _ 0 _ _ (by rfl) (by first | exact Or.inl rfl | exact Or.inr (Or.inl rfl) | exact Or.inr (Or.inr rfl)) (by decide) (by decide)) (@pv _ 1 _ _ (by rfl) (by first | exact Or.inl rfl | exact Or.inr (Or.inl rfl) | exact Or.inr (Or.inr rfl)) (by decide) (by decide)) (fun _ _ => rfl)))) pss_nil) (@pss_one _ _ _ (@ps_ret _ _ _ _ (@pe_op _ _ _ _ _ _ _ _ op_add (@pe_op _ _ _ _ _ _ _ _ op_add (@pe_op _ _ _ _ _ _ _ _ op_mul (@pe_op _ _ _ _ _ _ _ _ op_mul pe_int (@pv _ 1 _ _ (by rfl) (by first | exact Or.inl rfl | exact Or.inr (Or.inl rfl) | exact Or.inr (Or.inr rfl)) (by decide) (by decide))) (@pv _ 1 _ _ (by rfl) (by first | exact Or.inl rfl | exact Or.inr (Or.inl rfl) | exact Or.inr (Or.inr rfl)) (by decide) (by decide))) (@pe_op _ _ _ _ _ _ _ _ op_mul pe_int (@pv _ 1 _ _ (by rfl) (by first | exact Or.inl rfl | exact Or.inr (Or.inl rfl) | exact Or.inr (Or.inr rfl)) (by decide) (by decide)))) pe_int))), ?_⟩
    refine ⟨_, rfl, _, rfl, _, _, rfl, .inl hs, _, _, rfl, rfl, _, rfl, ?_⟩
    rw [List.length_map]
    refine ite2 (fun hc => ?_) (fun hc => ?_)
    · obtain ⟨y, hy, _⟩ := int_at (ys := ns) i0 (of_decide_eq_true hc)
      exact ⟨_, rfl, _, rfl, _, _, _, _, rfl, rfl, hs, hy, q _⟩
    · refine ⟨_, rfl, _, _, rfl, rfl, .inl ⟨by decide, by decide⟩, _, rfl, _, _, rfl, rfl, .inl ⟨by omega, by omega⟩, _, rfl, _, _, rfl, rfl, .inl ⟨by decide, by decide⟩, _, _, rfl, rfl, _, _, rfl, rfl, q _⟩
/-! _law_mixed -/
abbrev s_mixed : Stmt := top 24
abbrev n_mixed : List Str := ["cell", "k", "number"]
theorem sc_mixed : FnScope n_mixed ["cell", "k"] (defScope s_mixed) := ⟨rfl, rfl, rfl, by decide +kernel, rfl, by decide +kernel, by decide +kernel⟩
def sp_mixed : Sp := fun vs H Q _ => ∃ (c k : Int), vs = [.int c, .int k] ∧ 0 ≤ k ∧ k ≤ 1000 ∧ ∀ n, 0 ≤ n → n < 40000000000000 → Q (.int n) H
theorem ok_mixed {f : Addr} {fd : FuncData} (F : Fun K "_law_mixed" "_law_mixed" s_mixed f fd) (T : Blt mg) : FnOk P w K mg base CX0 1 f fd ["cell", "k"] sp_mixed := by
  refine F.ok sc_mixed (fun vs H Q E h => ?_) (fun cdv A outer s H vs Q E hr h => ?_)
  · obtain ⟨c, k, rfl, _⟩ := h
    rfl
  · obtain ⟨c, k, rfl, k0, k1, q⟩ := h
    have nd := sc_mixed.nd
    refine ⟨_, @pss_cons _ _ _ _ _ (@ps_set _ _ 2 _ _ _ _ nd rfl (Or.inl rfl) (@pe_op _ _ _ _ _ _ _ _ op_mod (@pe_op _ _ _ _ _ _ _ _ op_add (@pe_op _ _ _ _ _ _ _ _ op_add (@pe_op _ _ _ _ _ _ _ _ op_add (@pe_op _ _ _ _ _ _ _ _ op_mul (@pv _ 0 _ _ (by rfl) (by first | exact Or.inl rfl | exact Or.inr (Or.inl rfl) | exact Or.inr (Or.inr rfl)) (by decide) (by decide)) pe_int) (@pe_op _ _ _ _ _ _ _ _ op_mul (@pe_op _ _ _ _ _ _ _ _ op_mul pe_int (@pv _ 1 _ _ (by rfl) (by first | exact Or.inl rfl | exact Or.inr (Or.inl rfl) | exact Or.inr (Or.inr rfl)) (by decide) (by decide))) (@pv _ 1 _ _ (by rfl) (by first | exact Or.inl rfl | exact Or.inr (Or.inl rfl) | exact Or.inr (Or.inr rfl)) (by decide) (by decide)))) (@pe_op _ _ _ _ _ _ _ _ op_mul pe_int (@pv _ 1 _ _ (by rfl) (by first | exact Or.inl rfl | exact Or.inr (Or.inl rfl) | exact Or.inr (Or.inr rfl)) (by decide) (by decide)))) pe_int) pe_int) (by rfl) (by first | exact .inl rfl | exact .inr rfl | assumption)) (@pss_cons _ _ _ _ _ (@ps_set _ _ 2 _ _ _ _ nd rfl (Or.inl rfl) (@pe_op _ _ _ _ _ _ _ _ op_mod (@pe_op _ _ _ _ _ _ _ _ op_mul (@pv _ 2 _ _ (by rfl) (by first | exact Or.inl rfl | exact Or.inr (Or.inl rfl) | exact Or.inr (Or.inr rfl)) (by decide) (by decide)) (@pv _ 2 _ _ (by rfl) (by first | exact Or.inl rfl | exact Or.inr (Or.inl rfl) | exact Or.inr (Or.inr rfl)) (by decide) (by decide))) pe_int) (by rfl) (by first | exact .inl rfl | exact .inr rfl | assumption)) (@pss_one _ _ _ (@ps_ret _ _ _ _ (@pe_op _ _ _ _ _ _ _ _ op_add (@pe_op _ _ _ _ _ _ _ _ op_mul (@pv _ 2 _ _ (by rfl) (by first | exact Or.inl rfl | exact Or.inr (Or.inl rfl) | exact Or.inr (Or.inr rfl)) (by decide) (by decide)) pe_int) (@pe_op _ _ _ _ _ _ _ _ op_mod (@pv _ 0 _ _ (by rfl) (by first | exact Or.inl rfl | exact Or.inr (Or.inl rfl) | exact Or.inr (Or.inr rfl)) (by decide) (by decide)) pe_int))))), ?_⟩
    refine ⟨_, rfl, _, _, rfl, rfl, .inr ⟨by decide, by decide⟩, _, rfl, _, _, rfl, rfl, .inl ⟨by decide, by decide⟩, _, rfl, _, _, rfl, rfl, .inr ⟨by omega, by omega⟩, _, _, rfl, rfl, _, rfl, _, _, rfl, rfl, .inl ⟨by decide, by decide⟩, _, _, rfl, rfl, _, _, rfl, rfl, _, _, rfl, rfl, (by show (0 : Int) < _; decide), ?_⟩
    have m1 := md (a := c * 48271 + 7919 * k * k + 104729 * k + 11) (m := 2147483647) (by decide)
    generalize (c * 48271 + 7919 * k * k + 104729 * k + 11) % 2147483647 = u at m1 ⊢
    refine ⟨_, rfl, _, rfl, _, _, rfl, rfl, .inl ⟨by omega, by omega⟩, _, _, rfl, rfl, (by show (0 : Int) < _; decide), ?_⟩
    have m2 := md (a := u * u) (m := 2147483629) (by decide)
    generalize (u * u) % 2147483629 = v at m2 ⊢
    have m3 := md (a := c) (m := 5) (by decide)
    exact ⟨_, rfl, _, _, rfl, rfl, .inl ⟨by omega, by omega⟩, _, rfl, _, _, rfl, rfl, (by show (0 : Int) < _; decide), _, _, rfl, rfl, q _ (by omega) (by omega)⟩
end
end KP
namespace KP
open PySem L2 BK
section
variable {P : Program} {w : World} {K : PySem.W.Frag} {mg : Str → Option Value} {base : Heap}
/-! _law_letters -/
abbrev s_letters : Stmt := top 25
abbrev n_letters : List Str := ["cell", "many", "wide", "text", "k"]
theorem sc_letters : FnScope n_letters ["cell", "many", "wide"] (defScope s_letters) := ⟨rfl, rfl, rfl, by decide +kernel, rfl, by decide +kernel, by decide +kernel⟩
abbrev abc53 : Str := "abcdefghijklmnopqrstuvwxyz"
theorem abc53_ok : Small abc53 ∧ abc53.length = 26 := by
  obtain ⟨a, b, c⟩ := signsOk_of (show signsOk abc53 = true by decide +kernel)
  exact ⟨a, by decide +kernel⟩
def sp_letters : Sp := fun vs H Q _ => ∃ (c wd : Int) (m : Nat), vs = [.int c, .int (m : Int), .int wd] ∧ 0 ≤ c ∧ c < 40000000000000 ∧ m ≤ 12 ∧ 1 ≤ wd ∧ wd ≤ 26 ∧ ∀ z, Small z → z.length = m → Q (.str z) H
theorem ok_letters {f : Addr} {fd : FuncData} (F : Fun K "_law_letters" "_law_letters" s_letters f fd) (T : Blt mg) : FnOk P w K mg base CX0 1 f fd ["cell", "many", "wide"] sp_letters := by
  refine F.ok sc_letters (fun vs H Q E h => ?_) (fun cdv A outer s H vs Q E hr h => ?_)
  · obtain ⟨c, wd, m, rfl, _⟩ := h
    rfl
  · obtain ⟨c, wd, m, rfl, c0, c1, hm, w0, w1, q⟩ := h
    have nd := sc_letters.nd
    refine ⟨_, @pss_cons _ _ _ _ _ (@ps_set _ _ 3 _ _ _ _ nd rfl (Or.inl rfl) pe_str (by rfl) (by first | exact .inl rfl | exact .inr rfl | assumption)) (@pss_cons _ _ _ _ _ (@ps_for _ _ _ _ _ _ _ _ PassesOwn.never rfl (@pi_range1 _ _ _ _ _ _ rfl T.range (@pa_cons _ _ _ _ _ (@pv _ 1 _ _ (by rfl) (by first | exact Or.inl rfl | exact Or.inr (Or.inl rfl) | exact Or.inr (Or.inr rfl)) (by decide) (by decide)) pa_nil (by rfl)) (by rfl)) (@pg_name _ _ 4 _ nd rfl (Or.inl rfl) (by first | exact .inl rfl | exact .inr rfl | assumption)) (@pss_cons _ _ _ _ _ (@ps_set _ _ 3 _ _ _ _ nd rfl (Or.inl rfl) (@pe_op _ _ _ _ _ _ _ _ op_add_str (@pv _ 3 _ _ (by rfl) (by first | exact Or.inl rfl | exact Or.inr (Or.inl rfl) | exact Or.inr (Or.inr rfl)) (by decide) (by decide)) (@pe_ix _ _ _ _ _ _ _ ix_str pe_str (@pe_op _ _ _ _ _ _ _ _ op_mod (@pv _ 0 _ _ (by rfl) (by first | exact Or.inl rfl | exact Or.inr (Or.inl rfl) | exact Or.inr (Or.inr rfl)) (by decide) (by decide)) (@pv _ 2 _ _ (by rfl) (by first | exact Or.inl rfl | exact Or.inr (Or.inl rfl) | exact Or.inr (Or.inr rfl)) (by decide) (by decide))) (fun _ _ => rfl))) (by rfl) (by first | exact .inl rfl | exact .inr rfl | assumption)) (@pss_one _ _ _ (@ps_set _ _ 0 _ _ _ _ nd rfl (Or.inl rfl) (@pe_op _ _ _ _ _ _ _ _ op_add (@pe_op _ _ _ _ _ _ _ _ op_fdiv (@pv _ 0 _ _ (by rfl) (by first | exact Or.inl rfl | exact Or.inr (Or.inl rfl) | exact Or.inr (Or.inr rfl)) (by decide) (by decide)) (@pv _ 2 _ _ (by rfl) (by first | exact Or.inl rfl | exact Or.inr (Or.inl rfl) | exact Or.inr (Or.inr rfl)) (by decide) (by decide))) (@pe_op _ _ _ _ _ _ _ _ op_mul (@pe_op _ _ _ _ _ _ _ _ op_mul pe_int (@pv _ 4 _ _ (by rfl) (by first | exact Or.inl rfl | exact Or.inr (Or.inl rfl) | exact Or.inr (Or.inr rfl)) (by decide) (by decide))) (@pe_op _ _ _ _ _ _ _ _ op_mod (@pv _ 0 _ _ (by rfl) (by first | exact Or.inl rfl | exact Or.inr (Or.inl rfl) | exact Or.inr (Or.inr rfl)) (by decide) (by decide)) pe_int))) (by rfl) (by first | exact .inl rfl | exact .inr rfl | assumption)))) (by intro _; rfl)) (@pss_one _ _ _ (@ps_ret _ _ _ _ (@pv _ 3 _ _ (by rfl) (by first | exact Or.inl rfl | exact Or.inr (Or.inl rfl) | exact Or.inr (Or.inr rfl)) (by decide) (by decide))))), ?_⟩
    obtain ⟨abS, abL⟩ := abc53_ok
    have sE : Small (Str.ofString "") := by intro c h; rw [show ch (Str.ofString "") = [] by decide +kernel] at h; cases h
    refine ⟨_, rfl, _, rfl, ?_, ?_, ?_⟩
    · omega
    · omega
    refine for_range (fun i σ H2 => ∃ (cc : Int) (z : Str) (u : Option V), σ = [some (.int cc), some (.int (m : Int)), some (.int wd), some (.str z), u] ∧ H2 = H ∧ Small z ∧ z.length = i) ⟨c, "", none, rfl, rfl, sE, by decide +kernel⟩ ?_ ?_
    · rintro i σ H2 hi ⟨cc, z, u, rfl, rfl, zs, zl⟩
      have mw := md (a := cc) (m := wd) (by omega)
      have al : abc53.length ≤ sizeLine := small_szl (by omega)
      obtain ⟨a1, ha1, ha2⟩ := atI_str (z := abc53) mw.1 (by rw [abL]; omega)
      have i12 : i < 12 := by omega
      refine ⟨_, rfl, _, rfl, _, rfl, _, _, rfl, rfl, (by show (0 : Int) < wd; omega), ?_⟩
      refine ⟨abc53, _, a1, rfl, rfl, al, ha1, ?_⟩
      refine ⟨_, _, rfl, rfl, small_szl (by rw [len_one]; omega), ?_⟩
      have m3 := md (a := cc) (m := 3) (by decide)
      refine ⟨_, rfl, _, rfl, _, _, rfl, rfl, ⟨by show (0 : Int) < wd; omega, by show wd < _; omega⟩, _, rfl, _, _, rfl, rfl, .inl ⟨by decide, by decide⟩, _, rfl, _, _, rfl, rfl, (by show (0 : Int) < 3; decide), _, _, rfl, rfl, .inr ⟨by omega, by omega⟩, _, _, rfl, rfl, ?_⟩
      exact ⟨_, _, _, rfl, rfl, zs.app (small_one abS ha2), by rw [len_app, len_one, zl]⟩
    · rintro σ H2 ⟨cc, z, u, rfl, rfl, zs, zl⟩
      exact ⟨_, rfl, q z zs (by simpa using zl)⟩
end
end KP
namespace BK
open PySem PySem.Spec PyProof.Rows L2
/-! ### things told and things due, kept -/
inductive Eqd (S : List Addr) (H : Hp) : V → V → Prop
  | bk {a b : Addr} {ys : Book} : BookAt H a ys → BookAt H b ys → (∀ y ∈ keys ys, Small y) → a ∉ S → b ∉ S → Eqd S H (.ref a) (.ref b)
  | st {a b : Addr} {c : List Str} : H a = some (.lst (c.map V.str)) → H b = some (.lst (c.map V.str)) → (∀ y ∈ c, Small y) → a ∉ S → b ∉ S → Eqd S H (.ref a) (.ref b)
  | tp {t u a b c d : Addr} {xs ys : List Int} : H t = some (.tup [.ref a, .ref b]) → H u = some (.tup [.ref c, .ref d]) → H a = some (.lst (xs.map V.int)) → H b = some (.lst (ys.map V.int)) → H c = some (.lst (xs.map V.int)) → H d = some (.lst (ys.map V.int)) →
      a ∉ S → b ∉ S → c ∉ S → d ∉ S → Eqd S H (.ref t) (.ref u)
theorem Eqd.off {S T : List Addr} {H H' : Hp} {x y : V} (r : Eqd S H x y) (o : Off T H H') (ht : ∀ a xs, H a = some (.tup xs) → a ∉ T) (hl : ∀ a xs, H a = some (.lst xs) → a ∉ S → a ∉ T) : Eqd S H' x y := by
  cases r with
  | bk h2 h3 h4 h5 h6 =>
    obtain ⟨pa, ea, _⟩ := id h2
    obtain ⟨pb, eb, _⟩ := id h3
    exact .bk (h2.offT o (hl _ _ ea h5) ht) (h3.offT o (hl _ _ eb h6) ht) h4 h5 h6
  | st h1 h2 h3 h4 h5 => exact .st (o _ _ (hl _ _ h1 h4) h1) (o _ _ (hl _ _ h2 h5) h2) h3 h4 h5
  | tp h2 h3 h4 h5 h6 h7 h8 h9 h10 h11 => exact .tp (o _ _ (ht _ _ h2) h2) (o _ _ (ht _ _ h3) h3) (o _ _ (hl _ _ h4 h8) h4) (o _ _ (hl _ _ h5 h9) h5) (o _ _ (hl _ _ h6 h10) h6) (o _ _ (hl _ _ h7 h11) h7) h8 h9 h10 h11
theorem Eqd.mono {S T : List Addr} {H : Hp} {x y : V} (r : Eqd S H x y) (h : ∀ a ∈ T, a ∈ S) : Eqd T H x y := by
  cases r with
  | bk h2 h3 h4 h5 h6 => exact .bk h2 h3 h4 (fun z => h5 (h _ z)) (fun z => h6 (h _ z))
  | st h1 h2 h3 h4 h5 => exact .st h1 h2 h3 (fun z => h4 (h _ z)) (fun z => h5 (h _ z))
  | tp h2 h3 h4 h5 h6 h7 h8 h9 h10 h11 => exact .tp h2 h3 h4 h5 h6 h7 (fun z => h8 (h _ z)) (fun z => h9 (h _ z)) (fun z => h10 (h _ z)) (fun z => h11 (h _ z))
theorem Eqd.dp {K : PySem.W.Frag} {S : List Addr} {H : Hp} {x y : V} (r : Eqd S H x y) : ∃ d, Dp K H x d ∧ Dp K H y d ∧ SeqAt.shaped d = true ∧ PyData.eqv d d = true := by
  cases r with
  | bk h2 h3 h4 _ _ => exact ⟨_, dpB h2, dpB h3, shaped_bk h4, eqv_bk h4⟩
  | st h1 h2 h3 _ _ => exact ⟨_, dpS h1, dpS h2, shaped_strs h3, by rw [eqv_strs, decide_eq_true rfl]⟩
  | tp h2 h3 h4 h5 h6 h7 _ _ _ _ => exact ⟨_, dp2 h2 h4 h5, dp2 h3 h6 h7, sh2 _ _, eqv2 _ _⟩
structure HeldD (S : List Addr) (H : Hp) (h : Addr) : Prop where
  ex : ∃ x y : V, H h = some (.tup [x, y]) ∧ Eqd S H x y
theorem HeldD.off {S T : List Addr} {H H' : Hp} {h : Addr} (r : HeldD S H h) (o : Off T H H') (ht : ∀ a xs, H a = some (.tup xs) → a ∉ T) (hl : ∀ a xs, H a = some (.lst xs) → a ∉ S → a ∉ T) : HeldD S H' h := by
  obtain ⟨x, y, h1, h2⟩ := r
  exact ⟨x, y, o _ _ (ht _ _ h1) h1, h2.off o ht hl⟩
theorem HeldD.mono {S T : List Addr} {H : Hp} {h : Addr} (r : HeldD S H h) (hs : ∀ a ∈ T, a ∈ S) : HeldD T H h := by
  obtain ⟨x, y, h1, h2⟩ := r
  exact ⟨x, y, h1, h2.mono hs⟩
/-- new in H' and kept apart from all that H had -/
def NewD (H H' : Hp) (h : Addr) : Prop := ∀ S : List Addr, (∀ a ∈ S, H a ≠ none) → HeldD S H' h
theorem NewD.off {B hl : Addr} {H H1 H2 : Hp} {h : Addr} {xs : List V} (n : NewD H H1 h) (tb : Tab B H1) (h0 : H hl ≠ none) (h1 : H1 hl = some (.lst xs)) (o : Off [B, hl] H1 H2) : NewD H H2 h := fun S hS => by
  obtain ⟨q, hB, _⟩ := tb
  refine ((n (hl :: S) fun a ha => ?_).off o (fun a xs e => mem2 (ne_of e hB (by intro z; cases z)) (ne_of e h1 (by intro z; cases z))) (fun a xs e m => mem2 (ne_of e hB (by intro z; cases z)) fun z => m (by rw [z]; exact List.mem_cons_self))).mono fun a ha => List.mem_cons_of_mem _ ha
  rcases List.mem_cons.mp ha with rfl | ha
  · exact h0
  · exact hS a ha
/-! ### two readers -/
def put2 {α : Type} (f : Nat → α) (i : Nat) (v : α) : Nat → α := fun n => if n = i then v else f n
structure Two (k : Dk) (C B hl lr ld lt : Addr) (P W D : Nat → Addr) (bk : Nat → Book) (z : Nat → Str) (hs : List Addr) (H : Hp) : Prop where
  dk : k.At H
  tb : Tab B H
  rd : ∀ i, i < 2 → RdAt C H (P i) (W i) (bk i) (z i)
  dc : ∀ i, i < 2 → H (D i) = some (.dK (kvOf (bk i)))
  npp : ∀ i j, i < 2 → j < 2 → i ≠ j → P i ≠ P j
  nww : ∀ i j, i < 2 → j < 2 → i ≠ j → W i ≠ W j
  ndw : ∀ i j, i < 2 → j < 2 → D i ≠ W j
  er : H lr = some (.lst [.ref (P 0), .ref (P 1)])
  ed : H ld = some (.lst [.ref (D 0), .ref (D 1)])
  et : H lt = some (.lst [.str (z 0), .str (z 1)])
  eh : H hl = some (.lst (hs.map .ref))
  oh : hl ∉ k.S
  od : ld ∉ k.S
  ot : lt ∉ k.S
  or : lr ∉ k.S
  nhd : hl ≠ ld
  nht : hl ≠ lt
  nhr : hl ≠ lr
  nrd : lr ≠ ld
  nrt : lr ≠ lt
  ndt : ld ≠ lt
  held : ∀ h ∈ hs, HeldD (hl :: ld :: lt :: k.S) H h
  gd : ∀ i, i < 2 → Good (bk i)
  zsm : ∀ i, i < 2 → Small (z i)
theorem Two.go {k : Dk} {C B hl lr ld lt : Addr} {P W D : Nat → Addr} {bk : Nat → Book} {z : Nat → Str} {hs new : List Addr} {H H' : Hp} (I : Two k C B hl lr ld lt P W D bk z hs H) (o : Off [B, hl] H H') (tb' : Tab B H') (e : H' hl = some (.lst ((hs ++ new).map .ref))) (hn : ∀ h ∈ new, NewD H H' h) : Two k C B hl lr ld lt P W D bk z (hs ++ new) H' := by
  obtain ⟨q, hB, _⟩ := id I.tb
  have hh := I.eh
  refine { I with dk := I.dk.off o fun b hb => ?_, tb := tb', rd := fun i hi => (I.rd i hi).off o (fun _ _ _ e => mem2 (ne_of e hB (by intro z; cases z)) (ne_of e hh (by intro z; cases z))) (fun _ _ e => mem2 (ne_of e hB (by intro z; cases z)) (ne_of e hh (by intro z; cases z))) (fun _ _ _ e => mem2 (ne_of e hB (by intro z; cases z)) (bl_ne e hh (no_bl_ref hs))), dc := fun i hi => o _ _ (mem2 (ne_of (I.dc i hi) hB (by intro z; cases z)) (ne_of (I.dc i hi) hh (by intro z; cases z))) (I.dc i hi), er := o _ _ (mem2 (ne_of I.er hB (by intro z; cases z)) I.nhr.symm) I.er, ed := o _ _ (mem2 (ne_of I.ed hB (by intro z; cases z)) I.nhd.symm) I.ed, et := o _ _ (mem2 (ne_of I.et hB (by intro z; cases z)) I.nht.symm) I.et, eh := e, held := fun h hm => ?_ }
  · obtain ⟨xs, e⟩ := I.dk.lst b hb
    exact mem2 (ne_of e hB (by intro z; cases z)) fun z => I.oh (by rw [← z]; exact hb)
  · rcases List.mem_append.mp hm with h1 | h1
    · exact (I.held h h1).off o (fun a xs e => mem2 (ne_of e hB (by intro z; cases z)) (ne_of e hh (by intro z; cases z))) fun a xs e n => mem2 (ne_of e hB (by intro z; cases z)) fun z => n (by rw [z]; exact List.mem_cons_self)
    · refine hn h h1 _ fun a ha => ?_
      rcases List.mem_cons.mp ha with rfl | ha
      · rw [I.eh]; simp
      rcases List.mem_cons.mp ha with rfl | ha
      · rw [I.ed]; simp
      rcases List.mem_cons.mp ha with rfl | ha
      · rw [I.et]; simp
      obtain ⟨xs, e⟩ := I.dk.lst a ha
      rw [e]; simp
end BK
namespace BK
open PySem PySem.Spec PyProof.Rows L2
/-! ### a reader whose book is the law's, in another order -/
theorem wt_in {bk : Book} {x : Str} (nd : (keys bk).Nodup) (h : x ∈ keys bk) : (x, wt bk x) ∈ bk := by
  obtain ⟨⟨x', n⟩, hm, rfl⟩ := List.mem_map.mp h
  rw [wt_mem nd hm]
  exact hm
structure Wd4 (k : Dk) (C B p w c : Addr) (bk bc : Book) (z : Str) (H : Hp) : Prop where
  dk : k.At H
  tb : Tab B H
  rd : RdAt C H p w bk z
  dc : H c = some (.dK (kvOf bc))
  ncw : c ≠ w
  gd : Good bk
  gc : Good bc
  zsm : Small z
section
variable {k : Dk} {C B p w c : Addr} {bk bc : Book} {z : Str} {H H' : Hp}
theorem Wd4.same (I : Wd4 k C B p w c bk bc z H) (s : Same H H') : Wd4 k C B p w c bk bc z H' := ⟨I.dk.same s, I.tb.same s, I.rd.same s, s _ _ I.dc, I.ncw, I.gd, I.gc, I.zsm⟩
theorem Wd4.kind (I : Wd4 k C B p w c bk bc z H) {a : Addr} {o : HO} (e : H a = some o) (h1 : ∀ q, o ≠ .tbl q) (h2 : ∀ C d fs, o ≠ .ins C d fs) (h3 : ∀ q, o ≠ .dK q) : a ∉ [B, p, w, c] := by
  obtain ⟨qB, hB, _⟩ := I.tb
  obtain ⟨⟨dx, l, hp, _⟩, hw⟩ := I.rd
  simp only [List.mem_cons, List.not_mem_nil, or_false, not_or]
  exact ⟨ne_of e hB (h1 _), ne_of e hp (h2 _ _ _), ne_of e hw (h3 _), ne_of e I.dc (h3 _)⟩
theorem Wd4.lst (I : Wd4 k C B p w c bk bc z H) {a : Addr} {xs : List V} (e : H a = some (.lst xs)) : a ∉ [B, p, w, c] := I.kind e (fun _ h => by cases h) (fun _ _ _ h => by cases h) fun _ h => by cases h
theorem Wd4.tup (I : Wd4 k C B p w c bk bc z H) {a : Addr} {xs : List V} (e : H a = some (.tup xs)) : a ∉ [B, p, w, c] := I.kind e (fun _ h => by cases h) (fun _ _ _ h => by cases h) fun _ h => by cases h
theorem Wd4.nkS (I : Wd4 k C B p w c bk bc z H) : ∀ x ∈ [B, p, w, c], x ∉ k.S := fun x hx hk => by
  obtain ⟨q, e⟩ := I.dk.lst x hk
  exact I.lst e hx
theorem in1 {x a b d e : Addr} (h : x ∉ [a, b, d, e]) : x ∉ [a] := fun m => h (by simp only [List.mem_cons, List.not_mem_nil, or_false] at m ⊢; exact .inl m)
/-- the program's own questions -/
theorem Wd4.ask (I : Wd4 k C B p w c bk bc z H) (o : Off [B] H H') (tb' : Tab B H') : Wd4 k C B p w c bk bc z H' := by
  obtain ⟨qB, hB, _⟩ := id I.tb
  refine ⟨I.dk.off o fun x hx => not_mem1 fun e => I.nkS B (by simp) (by rw [← e]; exact hx), tb', I.rd.tab I.tb o, o _ _ (not_mem1 (ne_of I.dc hB (by intro z; cases z))) I.dc, I.ncw, I.gd, I.gc, I.zsm⟩
/-- the law's own dict changed -/
theorem Wd4.law {bc' : Book} (I : Wd4 k C B p w c bk bc z H) (g : Good bc') : Wd4 k C B p w c bk bc' z (upd H c (.dK (kvOf bc'))) := by
  have o : Off [c] H (upd H c (.dK (kvOf bc'))) := off_upd (by simp)
  obtain ⟨qB, hB, _⟩ := id I.tb
  refine ⟨I.dk.off o fun x hx => not_mem1 fun e => I.nkS c (by simp) (by rw [← e]; exact hx), I.tb.off o (not_mem1 (ne_of hB I.dc (by intro z; cases z))), ?_, upd_same, I.ncw, I.gd, g, I.zsm⟩
  obtain ⟨⟨dx, l, hp, hl⟩, hw⟩ := I.rd
  refine ⟨⟨dx, l, ?_, ?_⟩, ?_⟩
  · rw [upd_ne (ne_of hp I.dc (by intro z; cases z))]; exact hp
  · rw [upd_ne (ne_of hl I.dc (by intro z; cases z))]; exact hl
  · rw [upd_ne I.ncw.symm]; exact hw
theorem Wd4.ob (I : Wd4 k C B p w c bk bc z H) : ∃ dx l, H p = some (.ins C dx (rflds w z l)) := by
  obtain ⟨⟨dx, l, hp, hl⟩, hw⟩ := I.rd
  exact ⟨dx, l, hp⟩
/-- the words of a book in another order -/
def wB (bc : Book) (xs : List Str) : Book := xs.map fun x => (x, wt bc x)
end
end BK
namespace BK
end BK
namespace KP
open PySem L2 BK
section
variable {P : Program} {w : World} {K : PySem.W.Frag} {mg : Str → Option Value} {base : Heap}
/-! _law_written -/
abbrev s_written : Stmt := top 26
abbrev n_written : List Str := ["cell", "words", "k", "one", "word"]
theorem sc_written : FnScope n_written ["cell"] (defScope s_written) := ⟨rfl, rfl, rfl, by decide +kernel, rfl, by decide +kernel, by decide +kernel⟩
theorem put_mem5 {bk : Book} {x : Str} {n : Int} {y : Str × Int} (h : y ∈ putB bk x n) : y ∈ bk ∨ (y.2 = n ∧ (y.1 = x ∨ ∃ z ∈ bk, z.1 = y.1)) := by
  unfold putB at h
  split at h
  · obtain ⟨z, hz, e⟩ := List.mem_map.mp h
    split at e
    · rw [← e]; exact .inr ⟨rfl, .inr ⟨z, hz, rfl⟩⟩
    · rw [← e]; exact .inl hz
  · rcases List.mem_append.mp h with h | h
    · exact .inl h
    · rw [List.mem_singleton.mp h]; exact .inr ⟨rfl, .inl rfl⟩
theorem join_le5 (y : Str) (hy : y.length = 1) : ∀ ps : List Str, (∀ p ∈ ps, p.length ≤ 11) → (Txt.join y ps).length ≤ 12 * ps.length := by
  intro ps
  rw [TL.join_eq]
  induction ps with
  | nil => intro _; exact Nat.le_refl _
  | cons x r ih =>
    intro h
    have h1 := h x (by simp)
    have h2 := ih fun p hp => h p (by simp [hp])
    cases r with
    | nil =>
      show x.length ≤ _
      simp; omega
    | cons z r =>
      show (x ++ y ++ Str.join y (z :: r)).length ≤ _
      rw [strLen_append, strLen_append, List.length_cons]
      omega
def sp_written : Sp := fun vs H Q _ => ∃ (c : Int), vs = [.int c] ∧ ∀ z H', z.length ≤ 559 → Same H H' → Q (.str z) H'
theorem ok_written {f f1 f2 : Addr} {fd fd1 fd2 : FuncData} (F : Fun K "_law_written" "_law_written" s_written f fd) (T : Blt mg) (B1 : FB K mg "_law_mixed" ["cell", "k"] f1 fd1) (G1 : FnOk P w K mg base CX0 1 f1 fd1 ["cell", "k"] sp_mixed)
    (B2 : FB K mg "_law_letters" ["cell", "many", "wide"] f2 fd2) (G2 : FnOk P w K mg base CX0 1 f2 fd2 ["cell", "many", "wide"] sp_letters) : FnOk P w K mg base CX0 2 f fd ["cell"] sp_written := by
  refine F.ok sc_written (fun vs H Q E h => ?_) (fun cdv A outer s H vs Q E hr h => ?_)
  · obtain ⟨c, rfl, _⟩ := h
    rfl
  · obtain ⟨c, rfl, q⟩ := h
    have nd := sc_written.nd
    have hu := hu_of hr
    refine ⟨_, @pss_cons _ _ _ _ _ (@ps_set _ _ 1 _ _ _ _ nd rfl (Or.inr rfl) pe_dnewK (by rfl) (by first | exact .inl rfl | exact .inr rfl | assumption)) (@pss_cons _ _ _ _ _ (@ps_for _ _ _ _ _ _ _ _ PassesOwn.never rfl (@pi_range1 _ _ _ _ _ _ rfl T.range (@pa_cons _ _ _ _ _ (@pe_op _ _ _ _ _ _ _ _ op_add (@pe_op _ _ _ _ _ _ _ _ op_mod (@pv _ 0 _ _ (by rfl) (by first | exact Or.inl rfl | exact Or.inr (Or.inl rfl) | exact Or.inr (Or.inr rfl)) (by decide) (by decide)) pe_int) (@pe_op _ _ _ _ _ _ _ _ op_mul pe_int (@pe_callTy _ _ _ _ _ _ _ _ _ call_int1 rfl T.int bt_int (@pa_cons _ _ _ _ _ (@pe_cmpR _ _ _ _ _ _ _ _ op_eq (@pe_op _ _ _ _ _ _ _ _ op_mod (@pe_op _ _ _ _ _ _ _ _ op_fdiv (@pv _ 0 _ _ (by rfl) (by first | exact Or.inl rfl | exact Or.inr (Or.inl rfl) | exact Or.inr (Or.inr rfl)) (by decide) (by decide)) pe_int) pe_int) pe_int (nomark _)) pa_nil (by rfl)) (by decide) (by decide) (by rfl) (by rfl)))) pa_nil (by rfl)) (by rfl)) (@pg_name _ _ 2 _ nd rfl (Or.inl rfl) (by first | exact .inl rfl | exact .inr rfl | assumption)) (@pss_cons _ _ _ _ _ (@ps_set _ _ 3 _ _ _ _ nd rfl (Or.inl rfl) (@pcall _ _ _ _ _ _ _ _ _ _ _ _ B1 G1 hr (@pa_cons _ _ _ _ _ (@pv _ 0 _ _ (by rfl) (by first | exact Or.inl rfl | exact Or.inr (Or.inl rfl) | exact Or.inr (Or.inr rfl)) (by decide) (by decide)) (@pa_cons _ _ _ _ _ (@pv _ 2 _ _ (by rfl) (by first | exact Or.inl rfl | exact Or.inr (Or.inl rfl) | exact Or.inr (Or.inr rfl)) (by decide) (by decide)) pa_nil (by rfl)) (by rfl)) (by rfl) (by decide) (by rfl) (by rfl)) (by rfl) (by first | exact .inl rfl | exact .inr rfl | assumption)) (@pss_one _ _ _ (@ps_dput _ _ _ _ _ _ _ _ _ hu (@pv _ 1 _ _ (by rfl) (by first | exact Or.inl rfl | exact Or.inr (Or.inl rfl) | exact Or.inr (Or.inr rfl)) (by decide) (by decide)) (@pcall _ _ _ _ _ _ _ _ _ _ _ _ B2 G2 hr (@pa_cons _ _ _ _ _ (@pv _ 3 _ _ (by rfl) (by first | exact Or.inl rfl | exact Or.inr (Or.inl rfl) | exact Or.inr (Or.inr rfl)) (by decide) (by decide)) (@pa_cons _ _ _ _ _ (@pe_op _ _ _ _ _ _ _ _ op_add pe_int (@pe_op _ _ _ _ _ _ _ _ op_mod (@pe_op _ _ _ _ _ _ _ _ op_fdiv (@pv _ 3 _ _ (by rfl) (by first | exact Or.inl rfl | exact Or.inr (Or.inl rfl) | exact Or.inr (Or.inr rfl)) (by decide) (by decide)) pe_int) pe_int)) (@pa_cons _ _ _ _ _ pe_int pa_nil (by rfl)) (by rfl)) (by rfl)) (by rfl) (by decide) (by rfl) (by rfl)) (@pe_ix _ _ _ _ _ _ _ ix_list (@pe_lst _ _ _ _ (@pa_cons _ _ _ _ _ pe_int (@pa_cons _ _ _ _ _ pe_int (@pa_cons _ _ _ _ _ (@pe_un _ _ _ _ _ _ un_neg pe_int) (@pa_cons _ _ _ _ _ (@pe_op _ _ _ _ _ _ _ _ op_mod (@pv _ 3 _ _ (by rfl) (by first | exact Or.inl rfl | exact Or.inr (Or.inl rfl) | exact Or.inr (Or.inr rfl)) (by decide) (by decide)) pe_int) pa_nil (by rfl)) (by rfl)) (by rfl)) (by rfl))) (@pe_op _ _ _ _ _ _ _ _ op_mod (@pe_op _ _ _ _ _ _ _ _ op_fdiv (@pv _ 3 _ _ (by rfl) (by first | exact Or.inl rfl | exact Or.inr (Or.inl rfl) | exact Or.inr (Or.inr rfl)) (by decide) (by decide)) pe_int) pe_int) (fun _ _ => rfl)) rfl))) (by intro _; rfl)) (@pss_cons _ _ _ _ _ (@ps_if _ _ _ _ _ _ _ _ (@pt_cmpR _ _ _ _ _ _ _ _ (op_eqE hr.units0) (@pv _ 1 _ _ (by rfl) (by first | exact Or.inl rfl | exact Or.inr (Or.inl rfl) | exact Or.inr (Or.inr rfl)) (by decide) (by decide)) pe_dnewK (nomark _)) (@pss_one _ _ _ (@ps_ret _ _ _ _ pe_str)) pss_nil) (@pss_one _ _ _ (@ps_ret _ _ _ _ (@pe_join _ _ _ _ _ _ _ pe_str (@pe_lc _ _ _ _ _ _ [("word", 4)] _ _ (gName 4) _ _ rfl nd (@pi_list _ _ _ _ (@pe_callB _ _ _ _ _ _ _ _ _ (cr_sortedDS rfl) rfl T.sorted (by decide +kernel) (@pa_cons _ _ _ _ _ (@pv _ 1 _ _ (by rfl) (by first | exact Or.inl rfl | exact Or.inr (Or.inl rfl) | exact Or.inr (Or.inr rfl)) (by decide) (by decide)) pa_nil (by rfl)) (by decide) (by decide) (by rfl) (by rfl))) (blkOk_by (own := [("word", 4)]) (N := n_written) (sc := defScope s_written) (by decide +kernel)) (fun _ _ _ _ _ => @pg_name _ _ 4 _ nd rfl (Or.inl rfl) (by first | exact .inl rfl | exact .inr rfl | assumption)) (fun _ _ _ _ _ => pts_nil) (fun _ _ _ _ _ => (@pe_op _ _ _ _ _ _ _ _ op_add_str (@pe_op _ _ _ _ _ _ _ _ op_add_str (@pv _ 4 _ _ (by rfl) (by first | exact Or.inl rfl | exact Or.inr (Or.inl rfl) | exact Or.inr (Or.inr rfl)) (by decide) (by decide)) pe_str) (@pe_callTy _ _ _ _ _ _ _ _ _ call_str_int rfl T.str bt_str (@pa_cons _ _ _ _ _ (@pe_dget _ _ _ _ _ _ hu (@pv _ 1 _ _ (by rfl) (by first | exact Or.inl rfl | exact Or.inr (Or.inl rfl) | exact Or.inr (Or.inr rfl)) (by decide) (by decide)) (@pv _ 4 _ _ (by rfl) (by first | exact Or.inl rfl | exact Or.inr (Or.inl rfl) | exact Or.inr (Or.inr rfl)) (by decide) (by decide)) (fun _ _ => rfl)) pa_nil (by rfl)) (by decide) (by decide) (by rfl) (by rfl)))) (by intro _; rfl)) (by rfl) (by rfl) (by rfl)))))), ?_⟩
    intro wd hwd
    have s2 : Same H (upd H wd (.dK [])) := same_new hwd
    have e2 : (upd H wd (.dK [])) wd = some (.dK (kvOf [])) := upd_same
    generalize upd H wd (.dK []) = H2 at s2 e2 ⊢
    have m10 := md (a := c) (m := 5) (by decide)
    refine ⟨_, rfl, _, _, rfl, rfl, (by show (0 : Int) < 5; decide), ?_⟩
    refine ⟨_, rfl, _, _, rfl, rfl, ⟨by decide, by decide⟩, _, _, rfl, rfl, (by show (0 : Int) < 4; decide), rfl, .inr ⟨_, rfl, _, _, rfl, rfl, .inl ⟨by decide, by decide⟩, _, _, rfl, rfl, ?_⟩⟩
    have hn : ∀ b : Bool, 0 ≤ c % 5 + 40 * (if b = true then (1 : Int) else 0) ∧ c % 5 + 40 * (if b = true then (1 : Int) else 0) ≤ 44 := fun b => by split <;> omega
    refine ⟨_, rfl, Int.le_trans (by decide) (hn _).1, Int.lt_of_le_of_lt (hn _).2 (by decide), ?_⟩
    refine for_range (fun i σ H4 => ∃ (bk : Book) (u v x : Option V), σ = [some (.int c), some (.ref wd), u, v, x] ∧ Same H H4 ∧ H4 wd = some (.dK (kvOf bk)) ∧ Good bk ∧ bk.length ≤ i ∧ ∀ y ∈ bk, y.1.length ≤ 5 ∧ (zt y.2).length ≤ 5)
      ⟨[], none, none, none, rfl, s2, e2, ⟨by simp [keys], by simp [keys], by simp⟩, Nat.le_refl _, fun y hy => by cases hy⟩ ?_ ?_
    · rintro i σ H4 hi ⟨bk, u, v, x, rfl, s4, e4, gd, len, wb⟩
      have hi2 : i < 44 := Nat.lt_of_lt_of_le hi (Int.toNat_le.mpr (hn _).2)
      refine ⟨_, rfl, _, rfl, c, _, rfl, by omega, by omega, fun n n0 n1 => ?_⟩
      have m7 := md (a := n / 7) (m := 5) (by decide)
      obtain ⟨m, hm⟩ : ∃ m : Nat, 1 + n / 7 % 5 = (m : Int) := ⟨(1 + n / 7 % 5).toNat, by omega⟩
      have m5 := md (a := n) (m := 100000) (by decide)
      have m4 := md (a := n / 11) (m := 4) (by decide)
      obtain ⟨v6, hv6, v6m⟩ := int_at (ys := [0, 12, -7, n % 100000]) m4.1 (by show _ < (4 : Int); omega)
      have v62 : (zt v6).length ≤ 5 := by
        have pos : ∀ k : Int, 0 ≤ k → k < 100000 → (zt k).length ≤ 5 := fun k h0 h1 => by
          rw [TL.len_tl, tl_zt_pos h0]
          exact TL.numL_len (by decide) (by omega)
        simp only [List.mem_cons, List.not_mem_nil, or_false] at v6m
        rcases v6m with rfl | rfl | rfl | rfl
        · exact pos _ (by decide) (by decide)
        · exact pos _ (by decide) (by decide)
        · decide +kernel
        · exact pos _ m5.1 m5.2
      refine ⟨_, rfl, _, rfl, _, _, rfl, rfl, (by show (0 : Int) < 100000; decide), (show 4 ≤ sizeLine by decide), fun l3 hl3 => ?_⟩
      have s6 : Same H (upd H4 l3 (.lst [V.int 0, V.int 12, V.int (-7), V.int (n % 100000)])) := s4.trans (same_new hl3)
      have e6 : (upd H4 l3 (.lst [V.int 0, V.int 12, V.int (-7), V.int (n % 100000)])) wd = some (.dK (kvOf bk)) := by rw [upd_ne (ne_of_none e4 hl3)]; exact e4
      refine ⟨_, rfl, _, _, rfl, rfl, ⟨by decide, by decide⟩, _, _, rfl, rfl, (by show (0 : Int) < 4; decide), l3, _, _, _, rfl, rfl, SqL.of upd_same, hv6, ?_⟩
      refine ⟨_, rfl, _, rfl, _, rfl, _, _, rfl, rfl, ⟨by decide, by decide⟩, _, _, rfl, rfl, (by show (0 : Int) < 5; decide), _, _, rfl, rfl, n, 3, m, (by rw [← hm]; rfl), n0, n1, by omega, by decide, by decide, fun z zs zl => ?_⟩
      refine ⟨wd, _, rfl, DPut.k (k := Sum.inr z) e6 (small_szl' (by unfold kvOf; rw [List.length_map]; omega)), ?_⟩
      rw [kvOf_put]
      have W : Word z := ⟨zs, by omega, by omega⟩
      have pl := putB_len bk z v6
      refine ⟨putB bk z v6, _, _, _, rfl, same_own s6 hwd, upd_same, good_put gd W (by omega), by omega, fun y hy => ?_⟩
      rcases put_mem5 hy with h | ⟨h1, h2⟩
      · exact wb y h
      · rw [h1]
        refine ⟨?_, v62⟩
        rcases h2 with h2 | ⟨y2, hy2, e⟩
        · rw [h2]; omega
        · rw [← e]; exact (wb y2 hy2).1
    · rintro σ H4 ⟨bk, u, v, x, rfl, s4, e4, gd, len, wb⟩
      have len4 : bk.length ≤ 44 := Nat.le_trans len (Int.toNat_le.mpr (hn _).2)
      refine ⟨_, rfl, fun e0 he0 => ?_⟩
      have sE : Same H (upd H4 e0 (.dK [])) := s4.trans (same_new he0)
      have wE : (upd H4 e0 (.dK [])) wd = some (.dK (kvOf bk)) := by rw [upd_ne (ne_of_none e4 he0)]; exact e4
      have eE : (upd H4 e0 (.dK [])) e0 = some (.dK []) := upd_same
      generalize upd H4 e0 (.dK []) = H5 at sE wE eE ⊢
      refine ⟨wd, e0, kvOf bk, rfl, rfl, .inl wE, .inl eE, _, rfl, ?_⟩
      cases hb : (kvOf bk).isEmpty with
      | true => exact iteT (q _ H5 (by decide) sE)
      | false =>
        refine iteF ⟨⟨_, rfl⟩, _, rfl, wd, _, keys bk, rfl, .inl wE, ks_kvOf bk, fun ys p hp hso hpn => ?_⟩
        have s5 : Same H (upd H5 p (.lst (ys.map V.str))) := sE.trans (same_new hpn)
        have e5 : (upd H5 p (.lst (ys.map V.str))) p = some (.lst (ys.map V.str)) := upd_same
        have w5 : (upd H5 p (.lst (ys.map V.str))) wd = some (.dK (kvOf bk)) := by rw [upd_ne (ne_of_none wE hpn)]; exact wE
        generalize upd H5 p (.lst (ys.map V.str)) = H6 at s5 e5 w5 ⊢
        have yin : ∀ y ∈ ys, y ∈ keys bk := fun y hy => hp.mem_iff.mp hy
        have ylen : ys.length ≤ 44 := by rw [hp.length_eq]; unfold keys; rw [List.length_map]; exact len4
        have el : ∀ y ∈ ys, (entW (y, wt bk y)).length ≤ 11 := fun y hy => by
          have h1 := wb _ (wt_in gd.nd (yin y hy))
          have h2 := ent_pos (y, wt bk y)
          have h3 : y.length ≤ 5 := h1.1
          have h4 : (zt (wt bk y)).length ≤ 5 := h1.2
          have h5 : y.length + 1 + (zt (wt bk y)).length = (entW (y, wt bk y)).length := h2
          omega
        refine ⟨p, rfl, ⟨_, SqL.of e5⟩, fun D hD => ?_⟩
        have DH : H D = none := s5.free hD
        refine lc_list (K := K) (a := p) (xs := ys.map V.str) (fun j H7 => H7 D = some (.lst (((ys.take j).map fun y => entW (y, wt bk y)).map V.str)) ∧ Same H6 H7)
          ⟨upd_same, same_new hD⟩ (fun j H7 _ ⟨_, s7⟩ => SqL.of (s7 _ _ e5)) ?_ ?_
        · rintro j x7 H7 hj ⟨p1, s7⟩
          obtain ⟨y6, hy, rfl⟩ : ∃ y, ys[j]? = some y ∧ x7 = V.str y := by
            rw [List.getElem?_map] at hj
            cases e : ys[j]? with
            | none => rw [e] at hj; cases hj
            | some y => rw [e] at hj; exact ⟨y, rfl, (Option.some.inj hj).symm⟩
          have ym := List.mem_of_getElem? hy
          have w7 : H7 wd = some (.dK (kvOf bk)) := s7 _ _ w5
          have yk := yin y6 ym
          have h1 := wb _ (wt_in gd.nd yk)
          have h3 : y6.length ≤ 5 := h1.1
          have h4 : (zt (wt bk y6)).length ≤ 5 := h1.2
          have l1 : ("=" : Str).length = 1 := rfl
          refine ⟨rfl, ?_⟩
          refine ⟨_, rfl, _, _, rfl, rfl, Nat.le_trans (show y6.length + ("=" : Str).length ≤ 6 by omega) (by decide), _, rfl, _, rfl, wd, V.int (wt bk y6), rfl, (by rw [← wt_val yk]; exact DGet.k (k := Sum.inr y6) w7), _, rfl, log_560 (by omega), _, _, rfl, rfl, Nat.le_trans (show (y6 ++ ("=" : Str)).length + (zt (wt bk y6)).length ≤ 11 by rw [strLen_append]; omega) (by decide), _, p1, small_szl' (by rw [List.length_map, List.length_map, List.length_take]; omega), ?_, same_own s7 hD⟩
          rw [upd_same, takeS hy, List.map_append, List.map_append]; rfl
        · rintro H7 ⟨p1, s7⟩
          rw [List.length_map, List.take_length] at p1
          refine ⟨_, _, _, rfl, rfl, .inl (SqL.of p1), ?_, ?_⟩
          · have z : ∀ l : List Str, (∀ y ∈ l, (entW (y, wt bk y)).length ≤ 11) → ((l.map fun y => entW (y, wt bk y)).map (·.length)).sum ≤ 11 * l.length := by
              intro l
              induction l with
              | nil => intro _; exact Nat.le_refl _
              | cons y r ih =>
                intro h
                have h1 := h y (by simp)
                have h2 := ih fun q hq => h q (by simp [hq])
                rw [List.map_cons, List.map_cons, List.sum_cons, List.length_cons]
                omega
            have z1 := z ys el
            have z2 : (" " : Str).length = 1 := rfl
            rw [List.length_map, z2]
            omega
          · refine q _ H7 (Nat.le_trans (join_le5 " " rfl _ fun p hp2 => ?_) (by rw [List.length_map]; omega)) (s5.trans s7)
            obtain ⟨y, hy, rfl⟩ := List.mem_map.mp hp2
            exact el y hy
end
end KP
namespace KP
open PySem L2 BK
section
variable {P : Program} {w : World} {K : PySem.W.Frag} {mg : Str → Option Value} {base : Heap}
/-! _law_spoilt -/
abbrev s_spoilt : Stmt := top 30
abbrev n_spoilt : List Str := ["text", "cell", "way", "at", "sign"]
theorem sc_spoilt : FnScope n_spoilt ["text", "cell"] (defScope s_spoilt) := ⟨rfl, rfl, rfl, by decide +kernel, rfl, by decide +kernel, by decide +kernel⟩
def sp_spoilt : Sp := fun vs H Q _ => ∃ (z : Str) (c : Int), vs = [.str z, .int c] ∧ z.length ≤ 559 ∧ ∀ y : Str, y.length ≤ 560 → Q (.str y) H
theorem ok_spoilt {f : Addr} {fd : FuncData} (F : Fun K "_law_spoilt" "_law_spoilt" s_spoilt f fd) (T : Blt mg) : FnOk P w K mg base CX0 1 f fd ["text", "cell"] sp_spoilt := by
  refine F.ok sc_spoilt (fun vs H Q E h => ?_) (fun cdv A outer s H vs Q E hr h => ?_)
  · obtain ⟨z, c, rfl, _⟩ := h
    rfl
  · obtain ⟨z, c, rfl, zl, q⟩ := h
    have nd := sc_spoilt.nd
    have zs : z.length ≤ sizeLine := Nat.le_trans zl (by decide)
    refine ⟨_, @pss_cons _ _ _ _ _ (@ps_set _ _ 2 _ _ _ _ nd rfl (Or.inl rfl) (@pe_op _ _ _ _ _ _ _ _ op_mod (@pv _ 1 _ _ (by rfl) (by first | exact Or.inl rfl | exact Or.inr (Or.inl rfl) | exact Or.inr (Or.inr rfl)) (by decide) (by decide)) pe_int) (by rfl) (by first | exact .inl rfl | exact .inr rfl | assumption)) (@pss_cons _ _ _ _ _ (@ps_set _ _ 3 _ _ _ _ nd rfl (Or.inl rfl) (@pe_op _ _ _ _ _ _ _ _ op_mod (@pe_op _ _ _ _ _ _ _ _ op_fdiv (@pv _ 1 _ _ (by rfl) (by first | exact Or.inl rfl | exact Or.inr (Or.inl rfl) | exact Or.inr (Or.inr rfl)) (by decide) (by decide)) pe_int) (@pe_op _ _ _ _ _ _ _ _ op_add (@pe_callB _ _ _ _ _ _ _ _ _ call_len_str rfl T.len PySem.boot_len (@pa_cons _ _ _ _ _ (@pv _ 0 _ _ (by rfl) (by first | exact Or.inl rfl | exact Or.inr (Or.inl rfl) | exact Or.inr (Or.inr rfl)) (by decide) (by decide)) pa_nil (by rfl)) (by decide) (by decide) (by rfl) (by rfl)) pe_int)) (by rfl) (by first | exact .inl rfl | exact .inr rfl | assumption)) (@pss_cons _ _ _ _ _ (@ps_set _ _ 4 _ _ _ _ nd rfl (Or.inl rfl) (@pe_ix _ _ _ _ _ _ _ ix_str pe_str (@pe_op _ _ _ _ _ _ _ _ op_mod (@pe_op _ _ _ _ _ _ _ _ op_fdiv (@pv _ 1 _ _ (by rfl) (by first | exact Or.inl rfl | exact Or.inr (Or.inl rfl) | exact Or.inr (Or.inr rfl)) (by decide) (by decide)) pe_int) pe_int) (fun _ _ => rfl)) (by rfl) (by first | exact .inl rfl | exact .inr rfl | assumption)) (@pss_cons _ _ _ _ _ (@ps_if _ _ _ _ _ _ _ _ (@pt_cmpR _ _ _ _ _ _ _ _ op_eq (@pv _ 2 _ _ (by rfl) (by first | exact Or.inl rfl | exact Or.inr (Or.inl rfl) | exact Or.inr (Or.inr rfl)) (by decide) (by decide)) pe_int (nomark _)) (@pss_one _ _ _ (@ps_ret _ _ _ _ (@pe_op _ _ _ _ _ _ _ _ op_add_str (@pe_slice _ _ _ _ _ _ _ _ _ _ sl_str (@pv _ 0 _ _ (by rfl) (by first | exact Or.inl rfl | exact Or.inr (Or.inl rfl) | exact Or.inr (Or.inr rfl)) (by decide) (by decide)) po_none (@po_some _ _ _ (@pv _ 3 _ _ (by rfl) (by first | exact Or.inl rfl | exact Or.inr (Or.inl rfl) | exact Or.inr (Or.inr rfl)) (by decide) (by decide)))) (@pe_slice _ _ _ _ _ _ _ _ _ _ sl_str (@pv _ 0 _ _ (by rfl) (by first | exact Or.inl rfl | exact Or.inr (Or.inl rfl) | exact Or.inr (Or.inr rfl)) (by decide) (by decide)) (@po_some _ _ _ (@pe_op _ _ _ _ _ _ _ _ op_add (@pv _ 3 _ _ (by rfl) (by first | exact Or.inl rfl | exact Or.inr (Or.inl rfl) | exact Or.inr (Or.inr rfl)) (by decide) (by decide)) pe_int)) po_none)))) pss_nil) (@pss_one _ _ _ (@ps_ret _ _ _ _ (@pe_op _ _ _ _ _ _ _ _ op_add_str (@pe_op _ _ _ _ _ _ _ _ op_add_str (@pe_slice _ _ _ _ _ _ _ _ _ _ sl_str (@pv _ 0 _ _ (by rfl) (by first | exact Or.inl rfl | exact Or.inr (Or.inl rfl) | exact Or.inr (Or.inr rfl)) (by decide) (by decide)) po_none (@po_some _ _ _ (@pv _ 3 _ _ (by rfl) (by first | exact Or.inl rfl | exact Or.inr (Or.inl rfl) | exact Or.inr (Or.inr rfl)) (by decide) (by decide)))) (@pv _ 4 _ _ (by rfl) (by first | exact Or.inl rfl | exact Or.inr (Or.inl rfl) | exact Or.inr (Or.inr rfl)) (by decide) (by decide))) (@pe_slice _ _ _ _ _ _ _ _ _ _ sl_str (@pv _ 0 _ _ (by rfl) (by first | exact Or.inl rfl | exact Or.inr (Or.inl rfl) | exact Or.inr (Or.inr rfl)) (by decide) (by decide)) (@po_some _ _ _ (@pe_op _ _ _ _ _ _ _ _ op_sub (@pe_op _ _ _ _ _ _ _ _ op_add (@pv _ 3 _ _ (by rfl) (by first | exact Or.inl rfl | exact Or.inr (Or.inl rfl) | exact Or.inr (Or.inr rfl)) (by decide) (by decide)) (@pv _ 2 _ _ (by rfl) (by first | exact Or.inl rfl | exact Or.inr (Or.inl rfl) | exact Or.inr (Or.inr rfl)) (by decide) (by decide))) pe_int)) po_none))))))), ?_⟩
    have m3 := md (a := c) (m := 3) (by decide)
    have mz := md (a := c / 3) (m := (z.length : Int) + 1) (by omega)
    have ll : (Str.ofString "0123456789-=abcz A_ ").length = 20 := by decide +kernel
    have m20 := md (a := c / 7) (m := 20) (by decide)
    obtain ⟨g, hg, _⟩ := atI_str (z := Str.ofString "0123456789-=abcz A_ ") m20.1 (by rw [ll]; exact m20.2)
    refine ⟨_, rfl, _, _, rfl, rfl, (by show (0 : Int) < 3; decide), ?_⟩
    refine ⟨_, rfl, _, _, rfl, rfl, ⟨by decide, by decide⟩, _, rfl, z, rfl, zs, _, _, rfl, rfl, _, _, rfl, rfl, (by show (0 : Int) < _; omega), ?_⟩
    refine ⟨_, rfl, _, _, rfl, rfl, ⟨by decide, by decide⟩, _, _, rfl, rfl, (by show (0 : Int) < 20; decide), Str.ofString "0123456789-=abcz A_ ", _, g, rfl, rfl, by decide, hg, ?_⟩
    obtain ⟨a, ha⟩ : ∃ a : Nat, c / 3 % ((z.length : Int) + 1) = (a : Int) := ⟨(c / 3 % ((z.length : Int) + 1)).toNat, by omega⟩
    have al : a ≤ z.length := by omega
    have lL : ∀ m : Nat, (cutS z none (some (m : Int))).length = min m z.length := fun m => by rw [← ch_len, ch_cutL, List.length_take, ch_len]
    have lR : ∀ m : Nat, (cutS z (some (m : Int)) none).length = z.length - m := fun m => by rw [← ch_len, ch_cutR, List.length_drop, ch_len]
    have l1 := lL a
    refine ⟨_, rfl, rfl, _, rfl, ?_⟩
    by_cases hw : c % 3 = 0
    · rw [show decide (V.int (c % 3) = V.int 0) = true from decide_eq_true (by rw [hw])]
      have l2 := lR (a + 1)
      refine iteT ⟨_, rfl, _, rfl, _, rfl, _, rfl, zs, _, rfl, _, rfl, _, _, rfl, rfl, _, rfl, _, rfl, zs, _, _, rfl, rfl, ?_, q _ ?_⟩
      · rw [ha]
        exact Nat.le_trans (show (cutS z none (some (a : Int))).length + (cutS z (some ((a + 1 : Nat) : Int)) none).length ≤ 560 by omega) (by decide)
      · rw [ha]
        show (cutS z none (some (a : Int)) ++ cutS z (some ((a + 1 : Nat) : Int)) none).length ≤ 560
        rw [len_app]; omega
    rw [show decide (V.int (c % 3) = V.int 0) = false from decide_eq_false (fun e => hw (V.int.inj e))]
    refine iteF ?_
    try dsimp only [tNext]
    obtain ⟨b, hb⟩ : ∃ b : Nat, c / 3 % ((z.length : Int) + 1) + c % 3 - 1 = (b : Int) := ⟨(c / 3 % ((z.length : Int) + 1) + c % 3 - 1).toNat, by omega⟩
    have l2 := lR b
    have ab : a ≤ b := by omega
    refine ⟨_, rfl, _, rfl, _, rfl, _, rfl, zs, _, rfl, _, _, rfl, rfl, ?_, _, rfl, _, rfl, _, rfl, _, _, rfl, rfl, _, _, rfl, rfl, _, rfl, _, rfl, zs, _, _, rfl, rfl, ?_, q _ ?_⟩
    · rw [ha]
      exact Nat.le_trans (show (cutS z none (some (a : Int))).length + (⟨#[g]⟩ : Str).length ≤ 560 by rw [len_one]; omega) (by decide)
    · rw [hb, ha]
      exact Nat.le_trans (show (cutS z none (some (a : Int)) ++ (⟨#[g]⟩ : Str)).length + (cutS z (some (b : Int)) none).length ≤ 560 by rw [len_app, len_one]; omega) (by decide)
    · rw [hb, ha]
      show ((cutS z none (some (a : Int)) ++ (⟨#[g]⟩ : Str)) ++ cutS z (some (b : Int)) none).length ≤ 560
      rw [len_app, len_app, len_one]; omega
end
end KP
namespace KP
open PySem L2 BK
section
variable {P : Program} {w : World} {K : PySem.W.Frag} {mg : Str → Option Value} {base : Heap}
/-! _law_odd -/
abbrev s_odd : Stmt := top 29
abbrev n_odd : List Str := ["cell", "some"]
theorem sc_odd : FnScope n_odd ["cell"] (defScope s_odd) := ⟨rfl, rfl, rfl, by decide +kernel, rfl, by decide +kernel, by decide +kernel⟩
theorem odd_step {H H1 : Hp} {p1 l : Addr} {ys zs : List Str} {Q : VK} (s1 : Same H H1) (e1 : H1 p1 = some (.lst (ys.map V.str))) (a1 : ys.all (fun y => decide (y.length ≤ 30)) = true) (az : zs.all (fun y => decide (y.length ≤ 30)) = true) (hn : ys.length + zs.length ≤ 100) (hl : H1 l = none)
    (k : ∀ (p : Addr) (ys2 : List Str) (H2 : Hp), Same H H2 → H2 p = some (.lst (ys2.map V.str)) → ys2.length = ys.length + zs.length → ys2.all (fun y => decide (y.length ≤ 30)) = true → Q (.ref p) H2) : rCat (.ref p1) (.ref l) (upd H1 l (.lst (zs.map V.str))) Q := by
  have sl : Same H1 (upd H1 l (.lst (zs.map V.str))) := same_new hl
  refine ⟨p1, l, _, _, rfl, rfl, sl _ _ e1, upd_same, Nat.le_trans (show (ys.map V.str).length + (zs.map V.str).length ≤ 100 by rw [List.length_map, List.length_map]; exact hn) (by decide), fun p hp => ?_⟩
  exact k p (ys ++ zs) _ ((s1.trans sl).trans (same_new hp)) (by rw [upd_same, List.map_append]) (by rw [List.length_append]) (by rw [List.all_append, a1, az]; rfl)
def sp_odd : Sp := fun vs H Q _ => ∃ (c : Int), vs = [.int c] ∧ ∀ z H', z.length ≤ 30 → Same H H' → Q (.str z) H'
theorem ok_odd {f : Addr} {fd : FuncData} (F : Fun K "_law_odd" "_law_odd" s_odd f fd) (T : Blt mg) : FnOk P w K mg base CX0 1 f fd ["cell"] sp_odd := by
  refine F.ok sc_odd (fun vs H Q E h => ?_) (fun cdv A outer s H vs Q E hr h => ?_)
  · obtain ⟨c, rfl, _⟩ := h
    rfl
  · obtain ⟨c, rfl, q⟩ := h
    have nd := sc_odd.nd
    refine ⟨_, @pss_cons _ _ _ _ _ (@ps_set _ _ 1 _ _ _ _ nd rfl (Or.inl rfl) (@pe_lst _ _ _ _ (@pa_cons _ _ _ _ _ pe_str (@pa_cons _ _ _ _ _ pe_str (@pa_cons _ _ _ _ _ pe_str (@pa_cons _ _ _ _ _ pe_str (@pa_cons _ _ _ _ _ pe_str (@pa_cons _ _ _ _ _ pe_str (@pa_cons _ _ _ _ _ pe_str pa_nil (by rfl)) (by rfl)) (by rfl)) (by rfl)) (by rfl)) (by rfl)) (by rfl))) (by rfl) (by first | exact .inl rfl | exact .inr rfl | assumption)) (@pss_cons _ _ _ _ _ (@ps_set _ _ 1 _ _ _ _ nd rfl (Or.inl rfl) (@pe_op _ _ _ _ _ _ _ _ op_cat (@pv _ 1 _ _ (by rfl) (by first | exact Or.inl rfl | exact Or.inr (Or.inl rfl) | exact Or.inr (Or.inr rfl)) (by decide) (by decide)) (@pe_lst _ _ _ _ (@pa_cons _ _ _ _ _ pe_str (@pa_cons _ _ _ _ _ pe_str (@pa_cons _ _ _ _ _ pe_str (@pa_cons _ _ _ _ _ pe_str (@pa_cons _ _ _ _ _ pe_str (@pa_cons _ _ _ _ _ pe_str (@pa_cons _ _ _ _ _ pe_str pa_nil (by rfl)) (by rfl)) (by rfl)) (by rfl)) (by rfl)) (by rfl)) (by rfl)))) (by rfl) (by first | exact .inl rfl | exact .inr rfl | assumption)) (@pss_cons _ _ _ _ _ (@ps_set _ _ 1 _ _ _ _ nd rfl (Or.inl rfl) (@pe_op _ _ _ _ _ _ _ _ op_cat (@pv _ 1 _ _ (by rfl) (by first | exact Or.inl rfl | exact Or.inr (Or.inl rfl) | exact Or.inr (Or.inr rfl)) (by decide) (by decide)) (@pe_lst _ _ _ _ (@pa_cons _ _ _ _ _ pe_str (@pa_cons _ _ _ _ _ pe_str (@pa_cons _ _ _ _ _ pe_str (@pa_cons _ _ _ _ _ pe_str (@pa_cons _ _ _ _ _ pe_str (@pa_cons _ _ _ _ _ pe_str pa_nil (by rfl)) (by rfl)) (by rfl)) (by rfl)) (by rfl)) (by rfl)))) (by rfl) (by first | exact .inl rfl | exact .inr rfl | assumption)) (@pss_cons _ _ _ _ _ (@ps_set _ _ 1 _ _ _ _ nd rfl (Or.inl rfl) (@pe_op _ _ _ _ _ _ _ _ op_cat (@pv _ 1 _ _ (by rfl) (by first | exact Or.inl rfl | exact Or.inr (Or.inl rfl) | exact Or.inr (Or.inr rfl)) (by decide) (by decide)) (@pe_lst _ _ _ _ (@pa_cons _ _ _ _ _ pe_str (@pa_cons _ _ _ _ _ pe_str (@pa_cons _ _ _ _ _ pe_str (@pa_cons _ _ _ _ _ pe_str (@pa_cons _ _ _ _ _ pe_str (@pa_cons _ _ _ _ _ pe_str pa_nil (by rfl)) (by rfl)) (by rfl)) (by rfl)) (by rfl)) (by rfl)))) (by rfl) (by first | exact .inl rfl | exact .inr rfl | assumption)) (@pss_cons _ _ _ _ _ (@ps_set _ _ 1 _ _ _ _ nd rfl (Or.inl rfl) (@pe_op _ _ _ _ _ _ _ _ op_cat (@pv _ 1 _ _ (by rfl) (by first | exact Or.inl rfl | exact Or.inr (Or.inl rfl) | exact Or.inr (Or.inr rfl)) (by decide) (by decide)) (@pe_lst _ _ _ _ (@pa_cons _ _ _ _ _ pe_str (@pa_cons _ _ _ _ _ pe_str (@pa_cons _ _ _ _ _ pe_str (@pa_cons _ _ _ _ _ pe_str (@pa_cons _ _ _ _ _ pe_str pa_nil (by rfl)) (by rfl)) (by rfl)) (by rfl)) (by rfl)))) (by rfl) (by first | exact .inl rfl | exact .inr rfl | assumption)) (@pss_cons _ _ _ _ _ (@ps_set _ _ 1 _ _ _ _ nd rfl (Or.inl rfl) (@pe_op _ _ _ _ _ _ _ _ op_cat (@pv _ 1 _ _ (by rfl) (by first | exact Or.inl rfl | exact Or.inr (Or.inl rfl) | exact Or.inr (Or.inr rfl)) (by decide) (by decide)) (@pe_lst _ _ _ _ (@pa_cons _ _ _ _ _ pe_str (@pa_cons _ _ _ _ _ pe_str (@pa_cons _ _ _ _ _ pe_str (@pa_cons _ _ _ _ _ pe_str pa_nil (by rfl)) (by rfl)) (by rfl)) (by rfl)))) (by rfl) (by first | exact .inl rfl | exact .inr rfl | assumption)) (@pss_cons _ _ _ _ _ (@ps_set _ _ 1 _ _ _ _ nd rfl (Or.inl rfl) (@pe_op _ _ _ _ _ _ _ _ op_cat (@pv _ 1 _ _ (by rfl) (by first | exact Or.inl rfl | exact Or.inr (Or.inl rfl) | exact Or.inr (Or.inr rfl)) (by decide) (by decide)) (@pe_lst _ _ _ _ (@pa_cons _ _ _ _ _ pe_str (@pa_cons _ _ _ _ _ pe_str (@pa_cons _ _ _ _ _ pe_str (@pa_cons _ _ _ _ _ pe_str pa_nil (by rfl)) (by rfl)) (by rfl)) (by rfl)))) (by rfl) (by first | exact .inl rfl | exact .inr rfl | assumption)) (@pss_one _ _ _ (@ps_ret _ _ _ _ (@pe_ix _ _ _ _ _ _ _ ix_list (@pv _ 1 _ _ (by rfl) (by first | exact Or.inl rfl | exact Or.inr (Or.inl rfl) | exact Or.inr (Or.inr rfl)) (by decide) (by decide)) (@pe_op _ _ _ _ _ _ _ _ op_mod (@pv _ 0 _ _ (by rfl) (by first | exact Or.inl rfl | exact Or.inr (Or.inl rfl) | exact Or.inr (Or.inr rfl)) (by decide) (by decide)) (@pe_callB _ _ _ _ _ _ _ _ _ call_len_seq rfl T.len PySem.boot_len (@pa_cons _ _ _ _ _ (@pv _ 1 _ _ (by rfl) (by first | exact Or.inl rfl | exact Or.inr (Or.inl rfl) | exact Or.inr (Or.inr rfl)) (by decide) (by decide)) pa_nil (by rfl)) (by decide) (by decide) (by rfl) (by rfl))) (fun _ _ => rfl)))))))))), ?_⟩
    refine tSeq_share (fun σ' H' => ∃ p, ∃ ys : List Str, σ' = [some (.int c), some (.ref p)] ∧ Same H H' ∧ H' p = some (.lst (ys.map V.str)) ∧ ys.length = 7 ∧ ys.all (fun y => decide (y.length ≤ 30)) = true) (fun N hN => ?_) ?_
    · exact ⟨by decide, fun l hl => hN _ _ ⟨l, ["", " ", "--", "- ", " -", "a", "a="], rfl, same_new hl, upd_same, rfl, by decide +kernel⟩⟩
    rintro σ1 H1 ⟨p1, ys1, rfl, s1, e1, n1, a1⟩
    refine tSeq_share (fun σ' H' => ∃ p, ∃ ys : List Str, σ' = [some (.int c), some (.ref p)] ∧ Same H H' ∧ H' p = some (.lst (ys.map V.str)) ∧ ys.length = 14 ∧ ys.all (fun y => decide (y.length ≤ 30)) = true) (fun N hN => ?_) ?_
    · refine ⟨_, rfl, by decide, fun l hl => ?_⟩
      exact odd_step (zs := ["=1", "a=1 ", " a=1", "a=1  b=2", "b=1 a=2", "a=1 a=2", "a=1 a=1"]) s1 e1 a1 (by decide +kernel) (by rw [n1]; decide) hl fun p ys2 H2 s e n a => hN _ _ ⟨p, ys2, rfl, s, e, by rw [n, n1]; rfl, a⟩
    rintro σ2 H2 ⟨p2, ys2, rfl, s2, e2, n2, a2⟩
    refine tSeq_share (fun σ' H' => ∃ p, ∃ ys : List Str, σ' = [some (.int c), some (.ref p)] ∧ Same H H' ∧ H' p = some (.lst (ys.map V.str)) ∧ ys.length = 20 ∧ ys.all (fun y => decide (y.length ≤ 30)) = true) (fun N hN => ?_) ?_
    · refine ⟨_, rfl, by decide, fun l hl => ?_⟩
      exact odd_step (zs := ["a=01", "a=-0", "a=+1", "a=1.5", "a=1_0", "A=1"]) s2 e2 a2 (by decide +kernel) (by rw [n2]; decide) hl fun p ys2 H2 s e n a => hN _ _ ⟨p, ys2, rfl, s, e, by rw [n, n2]; rfl, a⟩
    rintro σ3 H3 ⟨p3, ys3, rfl, s3, e3, n3, a3⟩
    refine tSeq_share (fun σ' H' => ∃ p, ∃ ys : List Str, σ' = [some (.int c), some (.ref p)] ∧ Same H H' ∧ H' p = some (.lst (ys.map V.str)) ∧ ys.length = 26 ∧ ys.all (fun y => decide (y.length ≤ 30)) = true) (fun N hN => ?_) ?_
    · refine ⟨_, rfl, by decide, fun l hl => ?_⟩
      exact odd_step (zs := ["a1=1", "a==1", "a=1=1", "a=1,b=2", "a=1\n", "a =1"]) s3 e3 a3 (by decide +kernel) (by rw [n3]; decide) hl fun p ys2 H2 s e n a => hN _ _ ⟨p, ys2, rfl, s, e, by rw [n, n3]; rfl, a⟩
    rintro σ4 H4 ⟨p4, ys4, rfl, s4, e4, n4, a4⟩
    refine tSeq_share (fun σ' H' => ∃ p, ∃ ys : List Str, σ' = [some (.int c), some (.ref p)] ∧ Same H H' ∧ H' p = some (.lst (ys.map V.str)) ∧ ys.length = 31 ∧ ys.all (fun y => decide (y.length ≤ 30)) = true) (fun N hN => ?_) ?_
    · refine ⟨_, rfl, by decide, fun l hl => ?_⟩
      exact odd_step (zs := ["abcdefghijkl=1", "abcdefghijklm=1", "a=1 ab=2 b=0", "ab=1 a=2", "a= 1"]) s4 e4 a4 (by decide +kernel) (by rw [n4]; decide) hl fun p ys2 H2 s e n a => hN _ _ ⟨p, ys2, rfl, s, e, by rw [n, n4]; rfl, a⟩
    rintro σ5 H5 ⟨p5, ys5, rfl, s5, e5, n5, a5⟩
    refine tSeq_share (fun σ' H' => ∃ p, ∃ ys : List Str, σ' = [some (.int c), some (.ref p)] ∧ Same H H' ∧ H' p = some (.lst (ys.map V.str)) ∧ ys.length = 35 ∧ ys.all (fun y => decide (y.length ≤ 30)) = true) (fun N hN => ?_) ?_
    · refine ⟨_, rfl, by decide, fun l hl => ?_⟩
      exact odd_step (zs := ["a=x", "a=--1", "a=1 -", "- a=1"]) s5 e5 a5 (by decide +kernel) (by rw [n5]; decide) hl fun p ys2 H2 s e n a => hN _ _ ⟨p, ys2, rfl, s, e, by rw [n, n5]; rfl, a⟩
    rintro σ6 H6 ⟨p6, ys6, rfl, s6, e6, n6, a6⟩
    refine tSeq_share (fun σ' H' => ∃ p, ∃ ys : List Str, σ' = [some (.int c), some (.ref p)] ∧ Same H H' ∧ H' p = some (.lst (ys.map V.str)) ∧ ys.length = 39 ∧ ys.all (fun y => decide (y.length ≤ 30)) = true) (fun N hN => ?_) ?_
    · refine ⟨_, rfl, by decide, fun l hl => ?_⟩
      exact odd_step (zs := ["a=0 aa=0 aaa=0", "a=00", "z=9 zz=-9", "a=1\tb=2"]) s6 e6 a6 (by decide +kernel) (by rw [n6]; decide) hl fun p ys2 H2 s e n a => hN _ _ ⟨p, ys2, rfl, s, e, by rw [n, n6]; rfl, a⟩
    rintro σ7 H7 ⟨p7, ys7, rfl, s7, e7, n7, a7⟩
    have ml : ((ys7.map V.str).length : Int) = 39 := by rw [List.length_map, n7]; rfl
    have m := md (a := c) (m := ((ys7.map V.str).length : Int)) (by rw [ml]; decide)
    obtain ⟨v, h1, h2, h3⟩ := atI_lst (xs := ys7.map V.str) (r := c % ((ys7.map V.str).length : Int)) m.1 m.2
    obtain ⟨y, hy, rfl⟩ := List.mem_map.mp h3
    have hl := List.all_eq_true.mp a7 y hy
    exact ⟨_, rfl, _, rfl, _, rfl, p7, _, rfl, .inl (SqL.of e7), _, _, rfl, rfl, (by show (0 : Int) < _; rw [ml]; decide), p7, _, _, _, rfl, rfl, SqL.of e7, h1, q y H7 (of_decide_eq_true hl) s7⟩
end
end KP
namespace KP
open PySem L2 BK
section
variable {P : Program} {w : World} {K : PySem.W.Frag} {mg : Str → Option Value} {base : Heap}
/-! _law_text -/
abbrev s_text : Stmt := top 32
abbrev n_text : List Str := ["book", "word", "weight"]
theorem sc_text : FnScope n_text ["book"] (defScope s_text) := ⟨rfl, rfl, rfl, by decide +kernel, rfl, by decide +kernel, by decide +kernel⟩
theorem bk5_sum {bk : Book} (hk : Bk5 bk) : (((bk.map entW)).map (·.length)).sum + (bk.map entW).length * (" " : Str).length ≤ 16777216 := by
  have z : ∀ l : Book, (∀ y ∈ l, wordB y.1 = true ∧ (zt y.2).length ≤ 560) → (((l.map entW)).map (·.length)).sum ≤ 573 * l.length := by
    intro l
    induction l with
    | nil => intro _; exact Nat.le_refl _
    | cons y r ih =>
      intro h
      have h1 := h y (by simp)
      have h2 := ih fun q hq => h q (by simp [hq])
      have h5 := ent_pos y
      have h6 := word_len h1.1
      rw [List.map_cons, List.map_cons, List.sum_cons, List.length_cons]
      omega
  have z1 := z bk fun y hy => ⟨book_words hk.ok y hy, hk.zt y hy⟩
  have z2 : (" " : Str).length = 1 := rfl
  have bl := hk.len
  rw [List.length_map, z2]
  omega
theorem bk5_sm {bk : Book} (h : Bk5 bk) : ∀ y ∈ keys bk, Small y := fun y hy => by
  obtain ⟨z, hz, rfl⟩ := List.mem_map.mp hy
  intro c hc
  have := List.all_eq_true.mp (word_small (book_words h.ok z hz)) c hc
  unfold isSmall at this
  simp at this; omega
def sp_text : Sp := fun vs H Q _ => ∃ (a : Addr) (bk : Book), vs = [.ref a] ∧ BookAt H a bk ∧ Bk5 bk ∧ ∀ H', Same H H' → Q (.str (bkW bk)) H'
theorem ok_text {f : Addr} {fd : FuncData} (F : Fun K "_law_text" "_law_text" s_text f fd) (T : Blt mg) : FnOk P w K mg base CX0 1 f fd ["book"] sp_text := by
  refine F.ok sc_text (fun vs H Q E h => ?_) (fun cdv A outer s H vs Q E hr h => ?_)
  · obtain ⟨a, bk, rfl, _⟩ := h
    rfl
  · obtain ⟨a, bk, rfl, hb, hk, q⟩ := h
    have nd := sc_text.nd
    refine ⟨_, @pss_cons _ _ _ _ _ (@ps_if _ _ _ _ _ _ _ _ (@pt_cmpR _ _ _ _ _ _ _ _ (op_eqD hr.units) (@pv _ 0 _ _ (by rfl) (by first | exact Or.inl rfl | exact Or.inr (Or.inl rfl) | exact Or.inr (Or.inr rfl)) (by decide) (by decide)) (@pe_lst _ _ _ _ pa_nil) (nomark _)) (@pss_one _ _ _ (@ps_ret _ _ _ _ pe_str)) pss_nil) (@pss_one _ _ _ (@ps_ret _ _ _ _ (@pe_join _ _ _ _ _ _ _ pe_str (@pe_lc _ _ _ _ _ _ [("word", 1), ("weight", 2)] _ _ (gTup K 2 (gCons (gName 1) (gCons (gName 2) gNil))) _ _ rfl nd (@pi_list _ _ _ _ (@pv _ 0 _ _ (by rfl) (by first | exact Or.inl rfl | exact Or.inr (Or.inl rfl) | exact Or.inr (Or.inr rfl)) (by decide) (by decide))) (blkOk_by (own := [("word", 1), ("weight", 2)]) (N := n_text) (sc := defScope s_text) (by decide +kernel)) (fun _ _ _ _ _ => @pg_tup _ _ _ _ _ _ rfl (@pgs_cons _ _ _ _ _ (@pg_name _ _ 1 _ nd rfl (Or.inl rfl) (by first | exact .inl rfl | exact .inr rfl | assumption)) (@pgs_cons _ _ _ _ _ (@pg_name _ _ 2 _ nd rfl (Or.inl rfl) (by first | exact .inl rfl | exact .inr rfl | assumption)) pgs_nil (by rfl)) (by rfl)) (by rfl) (by rfl)) (fun _ _ _ _ _ => pts_nil) (fun _ _ _ _ _ => (@pe_op _ _ _ _ _ _ _ _ op_add_str (@pe_op _ _ _ _ _ _ _ _ op_add_str (@pv _ 1 _ _ (by rfl) (by first | exact Or.inl rfl | exact Or.inr (Or.inl rfl) | exact Or.inr (Or.inr rfl)) (by decide) (by decide)) pe_str) (@pe_callTy _ _ _ _ _ _ _ _ _ call_str_int rfl T.str bt_str (@pa_cons _ _ _ _ _ (@pv _ 2 _ _ (by rfl) (by first | exact Or.inl rfl | exact Or.inr (Or.inl rfl) | exact Or.inr (Or.inr rfl)) (by decide) (by decide)) pa_nil (by rfl)) (by decide) (by decide) (by rfl) (by rfl)))) (by intro _; rfl)) (by rfl) (by rfl) (by rfl)))), ?_⟩
    obtain ⟨ps, ea, pp⟩ := id hb
    have pl : ps.length = bk.length := Paired.length pp
    have bl := hk.len
    refine ⟨_, rfl, Nat.zero_le _, fun e0 he0 => ?_⟩
    have sE : Same H (upd H e0 (.lst [])) := same_new he0
    have ee : (upd H e0 (.lst [])) e0 = some (.lst []) := upd_same
    generalize upd H e0 (.lst []) = H3 at sE ee ⊢
    have sk := bk5_sm hk
    refine ⟨_, _, dpB (hb.same sE), dp0 ee, shaped_bk sk, shaped_nil, _, rfl, ?_⟩
    rw [eqv_nil]
    by_cases h0 : bk = []
    · subst h0
      have := q H3 sE
      exact iteT this
    have : bk.isEmpty = false := by cases bk with
      | nil => exact absurd rfl h0
      | cons _ _ => rfl
    rw [this]
    have ea3 := sE _ _ ea
    refine iteF ⟨⟨_, rfl⟩, _, rfl, a, rfl, ⟨_, SqL.of ea3⟩, fun D hD => ?_⟩
    refine lc_list (K := K) (a := a) (xs := ps.map V.ref) (fun i HA => HA D = some (.lst ((((bk.map entW).take i)).map V.str)) ∧ Same H3 HA) ⟨upd_same, same_new hD⟩ (fun i HA _ ⟨_, sA⟩ => SqL.of (sA _ _ ea3)) ?_ ?_
    · rintro j x HA hx ⟨e2, sA⟩
      rw [List.getElem?_map] at hx
      obtain ⟨p, hp, rfl⟩ : ∃ y, ps[j]? = some y ∧ x = V.ref y := by
        cases e : ps[j]? with
        | none => rw [e] at hx; cases hx
        | some c => rw [e] at hx; exact ⟨c, rfl, (Option.some.inj hx).symm⟩
      have il := (List.getElem?_eq_some_iff.mp hp).1
      obtain ⟨y, hy, et⟩ := BK.paired_get pp hp
      have ym := List.mem_of_getElem? hy
      have hl := word_len (book_words hk.ok y ym)
      have hz := hk.zt y ym
      have hw : (bk.map entW)[j]? = some (entW y) := by rw [List.getElem?_map, hy]; rfl
      have l1 : ("=" : Str).length = 1 := rfl
      refine ⟨p, _, rfl, SqT.of (sA _ _ (sE _ _ et)), rfl, _, _, rfl, _, _, rfl, rfl, rfl, _, rfl, _, _, rfl, rfl, ?_, _, rfl, _, rfl, log_560 hz, _, _, rfl, rfl, ?_, _, e2, small_szl' (by rw [List.length_map, List.length_take, List.length_map]; omega), ?_, same_own sA hD⟩
      · exact Nat.le_trans (show y.1.length + ("=" : Str).length ≤ 13 by omega) (by decide)
      · exact Nat.le_trans (show (y.1 ++ ("=" : Str)).length + (zt y.2).length ≤ 573 by rw [strLen_append]; omega) (by decide)
      · rw [upd_same, takeS hw, List.map_append]; rfl
    · rintro HA ⟨e2, sA⟩
      have kl2 : (bk.map entW).length = bk.length := List.length_map ..
      rw [List.length_map, pl, ← kl2, List.take_length] at e2
      refine ⟨_, _, bk.map entW, rfl, rfl, .inl (SqL.of e2), bk5_sum hk, ?_⟩
      have := q HA (sE.trans sA)
      unfold bkW at this
      rw [if_neg h0] at this
      exact this
end
end KP
namespace KP
open PySem L2 BK
section
variable {P : Program} {w : World} {K : PySem.W.Frag} {mg : Str → Option Value} {base : Heap}
/-! _law_number -/
abbrev s_number : Stmt := top 27
abbrev n_number : List Str := ["word", "body"]
theorem sc_number : FnScope n_number ["word"] (defScope s_number) := ⟨rfl, rfl, rfl, by decide +kernel, rfl, by decide +kernel, by decide +kernel⟩
theorem no_cut (z : Str) : ch (cutS z none (some ((1 : Nat) : Int))) = (ch z).take 1 := ch_cutL z 1
def sp_number : Sp := fun vs H Q _ => ∃ z, vs = [.str z] ∧ z.length ≤ sizeLine ∧ Q (.bl (wriB z)) H
theorem ok_number {f : Addr} {fd : FuncData} (F : Fun K "_law_number" "_law_number" s_number f fd) (T : Blt mg) : FnOk P w K mg base CX0 1 f fd ["word"] sp_number := by
  refine F.ok sc_number (fun vs H Q E h => ?_) (fun cdv A outer s H vs Q E hr h => ?_)
  · obtain ⟨z, rfl, _⟩ := h
    rfl
  · obtain ⟨z, rfl, hz, q⟩ := h
    have nd := sc_number.nd
    have tm : TL.tl (Str.ofString "-") = [45] := by decide +kernel
    refine ⟨_, @pss_cons _ _ _ _ _ (@ps_set _ _ 1 _ _ _ _ nd rfl (Or.inl rfl) (@pv _ 0 _ _ (by rfl) (by first | exact Or.inl rfl | exact Or.inr (Or.inl rfl) | exact Or.inr (Or.inr rfl)) (by decide) (by decide)) (by rfl) (by first | exact .inl rfl | exact .inr rfl | assumption)) (@pss_cons _ _ _ _ _ (@ps_if _ _ _ _ _ _ _ _ (@pt_cmpR _ _ _ _ _ _ _ _ op_eq (@pe_slice _ _ _ _ _ _ _ _ _ _ sl_str (@pv _ 0 _ _ (by rfl) (by first | exact Or.inl rfl | exact Or.inr (Or.inl rfl) | exact Or.inr (Or.inr rfl)) (by decide) (by decide)) po_none (@po_some _ _ _ pe_int)) pe_str (nomark _)) (@pss_one _ _ _ (@ps_set _ _ 1 _ _ _ _ nd rfl (Or.inl rfl) (@pe_slice _ _ _ _ _ _ _ _ _ _ sl_str (@pv _ 0 _ _ (by rfl) (by first | exact Or.inl rfl | exact Or.inr (Or.inl rfl) | exact Or.inr (Or.inr rfl)) (by decide) (by decide)) (@po_some _ _ _ pe_int) po_none) (by rfl) (by first | exact .inl rfl | exact .inr rfl | assumption))) pss_nil) (@pss_one _ _ _ (@ps_ret _ _ _ _ (@pe_and _ _ _ _ _ _ _ (@pe_cmpR _ _ _ _ _ _ _ _ op_ne (@pv _ 1 _ _ (by rfl) (by first | exact Or.inl rfl | exact Or.inr (Or.inl rfl) | exact Or.inr (Or.inr rfl)) (by decide) (by decide)) pe_str (nomark _)) (@pe_and _ _ _ _ _ _ _ (@pe_cmpR _ _ _ _ _ _ _ _ op_eq (@pe_stripC _ _ _ _ _ _ _ (@pv _ 1 _ _ (by rfl) (by first | exact Or.inl rfl | exact Or.inr (Or.inl rfl) | exact Or.inr (Or.inr rfl)) (by decide) (by decide)) pe_str (by rfl) (by rfl) (by rfl)) pe_str (nomark _)) (@pe_one _ _ _ _ _ (@pe_or _ _ _ _ _ _ _ (@pe_cmpR _ _ _ _ _ _ _ _ op_ne (@pe_ix _ _ _ _ _ _ _ ix_str (@pv _ 1 _ _ (by rfl) (by first | exact Or.inl rfl | exact Or.inr (Or.inl rfl) | exact Or.inr (Or.inr rfl)) (by decide) (by decide)) pe_int (fun _ _ => rfl)) pe_str (nomark _)) (@pe_one _ _ _ _ _ (@pe_cmpR _ _ _ _ _ _ _ _ op_eq (@pv _ 0 _ _ (by rfl) (by first | exact Or.inl rfl | exact Or.inr (Or.inl rfl) | exact Or.inr (Or.inr rfl)) (by decide) (by decide)) pe_str (nomark _)))))))))), ?_⟩
    refine tSeq_share (fun σ' H' => σ' = [some (.str z), some (.str z)] ∧ H' = H) (fun N hN => ⟨_, rfl, hN _ _ ⟨rfl, rfl⟩⟩) ?_
    rintro σ1 H1 ⟨rfl, rfl⟩
    refine tSeq_share (fun σ' H2 => ∃ g, σ' = [some (.str z), some (.str g)] ∧ TL.tl g = figs (TL.tl z) ∧ H2 = H1) (fun N hN => ?_) ?_
    · refine ⟨_, rfl, _, rfl, _, rfl, hz, rfl, _, rfl, ?_⟩
      by_cases h : ∃ r, TL.tl z = 45 :: r
      · obtain ⟨r, e⟩ := h
        have : cutS z none (some 1) = "-" := TL.ext_tl (by rw [tm]; exact (no_cut z).trans (by rw [show ch z = 45 :: r from e]; rfl))
        rw [decide_eq_true (by rw [this])]
        refine iteT ⟨_, rfl, _, rfl, _, rfl, hz, ?_⟩
        refine hN _ _ ⟨cutS z (some 1) none, rfl, ?_, rfl⟩
        refine (ch_cutR z 1).trans ?_
        rw [show ch z = 45 :: r from e, e]; rfl
      · have : cutS z none (some 1) ≠ "-" := fun e => by
          have e2 := no_cut z
          rw [show cutS z none (some ((1 : Nat) : Int)) = "-" from e, show ch (Str.ofString "-") = [45] from tm] at e2
          cases e3 : ch z with
          | nil => rw [e3] at e2; cases e2
          | cons c r => rw [e3] at e2; injection e2 with e2 _; exact h ⟨r, by rw [e2]; exact e3⟩
        rw [decide_eq_false (fun e => this (V.str.inj e))]
        refine iteF (hN _ _ ⟨z, rfl, ?_, rfl⟩)
        unfold figs
        split
        · rename_i r e; exact absurd ⟨r, e⟩ h
        · rfl
    rintro σ' H' ⟨g, rfl, eg, rfl⟩
    have lg : g.length ≤ sizeLine := by
      have := figs_len (TL.tl z)
      rw [TL.len_tl, eg]
      rw [TL.len_tl] at hz
      omega
    unfold wriB at q
    rw [← eg] at q
    refine ⟨_, rfl, rfl, _, rfl, ?_⟩
    by_cases e1 : g = ""
    · rw [decide_eq_true (by rw [e1])]
      have hz0 : decide (TL.tl z = [48]) = false := decide_eq_false fun e => by
        rw [e, (is_empty g).mp e1] at eg; cases eg
      rw [hz0, Bool.false_or, decide_eq_false (fun h => h ((is_empty g).mp e1)), Bool.false_and, Bool.false_and] at q
      exact iteF q
    rw [decide_eq_false (fun h => e1 (V.str.inj h))]
    have n1 : TL.tl g ≠ [] := fun h => e1 ((is_empty g).mpr h)
    rw [decide_eq_true n1, Bool.true_and] at q
    refine iteT ⟨_, rfl, ⟨_, rfl⟩, _, _, rfl, rfl, lg, rfl, _, rfl, ?_⟩
    have hd : (Txt.stripChars g "0123456789" = "") ↔ ((TL.tl g).all fun c => decide (48 ≤ c) && decide (c ≤ 57)) = true := by
      rw [strip_none, List.all_eq_true]
      have : ∀ c, (Str.ofString "0123456789").cps.contains c = (decide (48 ≤ c) && decide (c ≤ 57)) := by
        intro c
        have e : (Str.ofString "0123456789").cps = #[48, 49, 50, 51, 52, 53, 54, 55, 56, 57] := by decide +kernel
        rw [e, Bool.eq_iff_iff]
        simp
        omega
      exact forall_congr' fun c => forall_congr' fun _ => by rw [this]
    by_cases hs : Txt.stripChars g "0123456789" = ""
    · rw [decide_eq_true (by rw [hs])]
      rw [hd.mp hs, Bool.and_true] at q
      obtain ⟨c, r, ec⟩ : ∃ c r, TL.tl g = c :: r := by
        cases h : TL.tl g with
        | nil => exact absurd h n1
        | cons c r => exact ⟨c, r, rfl⟩
      refine iteT ⟨_, rfl, g, 0, c, rfl, rfl, lg, ?_, rfl, _, rfl, ?_⟩
      · show atI (TL.tl g) 0 = some c
        rw [ec]; exact atI_head c r
      by_cases e2 : c = 48
      · rw [show decide (V.str (⟨#[c]⟩ : Str) = V.str "0") = true from decide_eq_true (by rw [e2]; rfl)]
        refine iteF ⟨_, rfl, rfl, ?_⟩
        rw [decide_eq_false (show ¬ (TL.tl g).head? ≠ some 48 from fun h => h (by rw [ec, e2]; rfl)), Bool.or_false] at q
        have : decide (V.str z = V.str (Str.ofString "0")) = decide (TL.tl z = [48]) := by
          rw [Bool.eq_iff_iff, decide_eq_true_iff, decide_eq_true_iff]
          exact ⟨fun h => (is_nought z).mp (V.str.inj h), fun h => by rw [(is_nought z).mpr h]⟩
        rw [this]
        exact q
      · rw [show decide (V.str (⟨#[c]⟩ : Str) = V.str "0") = false from decide_eq_false (fun h => e2 ((one_nought c).mp (V.str.inj h)))]
        rw [decide_eq_true (show (TL.tl g).head? ≠ some 48 by rw [ec]; intro h; injection h with h; exact e2 h), Bool.or_true] at q
        exact iteT q
    · rw [decide_eq_false (fun h => hs (V.str.inj h))]
      have hf : ((TL.tl g).all fun c => decide (48 ≤ c) && decide (c ≤ 57)) = false := by
        cases h : ((TL.tl g).all fun c => decide (48 ≤ c) && decide (c ≤ 57)) with
        | true => exact absurd (hd.mpr h) hs
        | false => rfl
      rw [hf, Bool.and_false, Bool.or_false] at q
      have : decide (TL.tl z = [48]) = false := decide_eq_false fun e => by
        rw [eg, e] at hf
        exact absurd hf (by decide)
      rw [this] at q
      exact iteF q
end
end KP
namespace KP
open PySem L2 BK
section
variable {P : Program} {w : World} {K : PySem.W.Frag} {mg : Str → Option Value} {base : Heap}
/-! _law_writes -/
abbrev s_writes : Stmt := top 28
abbrev n_writes : List Str := ["text", "last", "part", "both"]
theorem sc_writes : FnScope n_writes ["text"] (defScope s_writes) := ⟨rfl, rfl, rfl, by decide +kernel, rfl, by decide +kernel, by decide +kernel⟩
theorem tseq_set {v : V} {i : Nat} {u : TS} {D : Ends} {σ σ' : L2.St} {H : Hp} (h : σ.set i (some v) = σ') (k : u D σ' H) : tSeq (tAsg (tC v) (gName i)) u D σ H := by subst h; exact k
def sp_writes : Sp := fun vs H Q _ => ∃ (t : Str), vs = [.str t] ∧ t.length ≤ 560 ∧ ∀ b H', (b = true ↔ Wri t) → Same H H' → Q (.bl b) H'
theorem ok_writes {f f1 : Addr} {fd fd1 : FuncData} (F : Fun K "_law_writes" "_law_writes" s_writes f fd) (T : Blt mg) (B1 : FB K mg "_law_number" ["word"] f1 fd1) (G1 : FnOk P w K mg base CX0 1 f1 fd1 ["word"] sp_number) : FnOk P w K mg base CX0 2 f fd ["text"] sp_writes := by
  refine F.ok sc_writes (fun vs H Q E h => ?_) (fun cdv A outer s H vs Q E hr h => ?_)
  · obtain ⟨t, rfl, _⟩ := h
    rfl
  · obtain ⟨t, rfl, tl, q⟩ := h
    have nd := sc_writes.nd
    refine ⟨_, @pss_cons _ _ _ _ _ (@ps_if _ _ _ _ _ _ _ _ (@pt_cmpR _ _ _ _ _ _ _ _ op_eq (@pv _ 0 _ _ (by rfl) (by first | exact Or.inl rfl | exact Or.inr (Or.inl rfl) | exact Or.inr (Or.inr rfl)) (by decide) (by decide)) pe_str (nomark _)) (@pss_one _ _ _ (@ps_ret _ _ _ _ pe_bl)) pss_nil) (@pss_cons _ _ _ _ _ (@ps_set _ _ 1 _ _ _ _ nd rfl (Or.inl rfl) pe_str (by rfl) (by first | exact .inl rfl | exact .inr rfl | assumption)) (@pss_cons _ _ _ _ _ (@ps_for _ _ _ _ _ _ _ _ PassesOwn.never rfl (@pi_list _ _ _ _ (@pe_split _ _ _ _ _ _ _ (@pv _ 0 _ _ (by rfl) (by first | exact Or.inl rfl | exact Or.inr (Or.inl rfl) | exact Or.inr (Or.inr rfl)) (by decide) (by decide)) pe_str (by rfl) (by rfl) (by rfl))) (@pg_name _ _ 2 _ nd rfl (Or.inl rfl) (by first | exact .inl rfl | exact .inr rfl | assumption)) (@pss_cons _ _ _ _ _ (@ps_set _ _ 3 _ _ _ _ nd rfl (Or.inl rfl) (@pe_split _ _ _ _ _ _ _ (@pv _ 2 _ _ (by rfl) (by first | exact Or.inl rfl | exact Or.inr (Or.inl rfl) | exact Or.inr (Or.inr rfl)) (by decide) (by decide)) pe_str (by rfl) (by rfl) (by rfl)) (by rfl) (by first | exact .inl rfl | exact .inr rfl | assumption)) (@pss_cons _ _ _ _ _ (@ps_if _ _ _ _ _ _ _ _ (@PW.pt _ _ _ (@pw_or _ _ _ _ _ _ _ (@pt_cmpR _ _ _ _ _ _ _ _ op_ne (@pe_callB _ _ _ _ _ _ _ _ _ call_len_seq rfl T.len PySem.boot_len (@pa_cons _ _ _ _ _ (@pv _ 3 _ _ (by rfl) (by first | exact Or.inl rfl | exact Or.inr (Or.inl rfl) | exact Or.inr (Or.inr rfl)) (by decide) (by decide)) pa_nil (by rfl)) (by decide) (by decide) (by rfl) (by rfl)) pe_int (nomark _)) (@pw_or _ _ _ _ _ _ _ (@pt_not _ _ _ _ (@pt_val _ _ _ (@pcall _ _ _ _ _ _ _ _ _ _ _ _ B1 G1 hr (@pa_cons _ _ _ _ _ (@pe_ix _ _ _ _ _ _ _ ix_list (@pv _ 3 _ _ (by rfl) (by first | exact Or.inl rfl | exact Or.inr (Or.inl rfl) | exact Or.inr (Or.inr rfl)) (by decide) (by decide)) pe_int (fun _ _ => rfl)) pa_nil (by rfl)) (by rfl) (by decide) (by rfl) (by rfl)) (by intro _; rfl))) (@pw_or _ _ _ _ _ _ _ (@pt_not _ _ _ _ (@pt_cmpR _ _ _ _ _ _ _ _ op_lt_str (@pv _ 1 _ _ (by rfl) (by first | exact Or.inl rfl | exact Or.inr (Or.inl rfl) | exact Or.inr (Or.inr rfl)) (by decide) (by decide)) (@pe_ix _ _ _ _ _ _ _ ix_list (@pv _ 3 _ _ (by rfl) (by first | exact Or.inl rfl | exact Or.inr (Or.inl rfl) | exact Or.inr (Or.inr rfl)) (by decide) (by decide)) pe_int (fun _ _ => rfl)) (nomark _))) (@pw_or1 _ _ _ _ (@pt_cmpR _ _ _ _ _ _ _ _ op_gt (@pe_callB _ _ _ _ _ _ _ _ _ call_len_str rfl T.len PySem.boot_len (@pa_cons _ _ _ _ _ (@pe_ix _ _ _ _ _ _ _ ix_list (@pv _ 3 _ _ (by rfl) (by first | exact Or.inl rfl | exact Or.inr (Or.inl rfl) | exact Or.inr (Or.inr rfl)) (by decide) (by decide)) pe_int (fun _ _ => rfl)) pa_nil (by rfl)) (by decide) (by decide) (by rfl) (by rfl)) pe_int (nomark _))))))) (@pss_one _ _ _ (@ps_ret _ _ _ _ pe_bl)) pss_nil) (@pss_cons _ _ _ _ _ (@ps_if _ _ _ _ _ _ _ _ (@pt_cmpR _ _ _ _ _ _ _ _ op_ne (@pe_stripC _ _ _ _ _ _ _ (@pe_ix _ _ _ _ _ _ _ ix_list (@pv _ 3 _ _ (by rfl) (by first | exact Or.inl rfl | exact Or.inr (Or.inl rfl) | exact Or.inr (Or.inr rfl)) (by decide) (by decide)) pe_int (fun _ _ => rfl)) pe_str (by rfl) (by rfl) (by rfl)) pe_str (nomark _)) (@pss_one _ _ _ (@ps_ret _ _ _ _ pe_bl)) pss_nil) (@pss_one _ _ _ (@ps_set _ _ 1 _ _ _ _ nd rfl (Or.inl rfl) (@pe_ix _ _ _ _ _ _ _ ix_list (@pv _ 3 _ _ (by rfl) (by first | exact Or.inl rfl | exact Or.inr (Or.inl rfl) | exact Or.inr (Or.inr rfl)) (by decide) (by decide)) pe_int (fun _ _ => rfl)) (by rfl) (by first | exact .inl rfl | exact .inr rfl | assumption)))))) (by intro _; rfl)) (@pss_one _ _ _ (@ps_ret _ _ _ _ pe_bl)))), ?_⟩
    refine ⟨_, rfl, rfl, _, rfl, ?_⟩
    by_cases h0 : t = "-"
    · rw [decide_eq_true (by rw [h0])]
      exact iteT (q true H ⟨fun _ => ⟨[], h0, rfl⟩, fun _ => rfl⟩ fun _ _ e => e)
    rw [decide_eq_false (fun e => h0 (V.str.inj e))]
    have yes : ∀ H', Same H H' → Wri t → Q (.bl true) H' := fun H' s h => q true H' ⟨fun _ => h, fun _ => rfl⟩ s
    have no : ∀ H', Same H H' → ¬ Wri t → Q (.bl false) H' := fun H' s h => q false H' ⟨(fun e => nomatch e), fun e => absurd e h⟩ s
    refine iteF ?_
    try dsimp only [tNext]
    refine tseq_set (σ' := [some (.str t), some (.str ""), none, none]) rfl ?_
    refine ⟨_, rfl, ⟨_, rfl⟩, _, _, rfl, rfl, rfl, Nat.le_trans (Nat.add_le_add_right tl 2) (by decide), fun l hl => ?_⟩
    have s1 : Same H (upd H l (.lst ((Txt.split t " ").map V.str))) := same_new hl
    have e1 : (upd H l (.lst ((Txt.split t " ").map V.str))) l = some (.lst ((Txt.split t " ").map V.str)) := upd_same
    generalize upd H l (.lst ((Txt.split t " ").map V.str)) = H2 at s1 e1 ⊢
    refine ⟨l, rfl, ⟨_, SqL.of e1⟩, ?_⟩
    refine for_list (K := K) (a := l) (xs := (Txt.split t " ").map V.str) (fun i σ HA => ∃ (b : Book) (u v : Option V), σ = [some (.str t), some (.str (lastT b)), u, v] ∧ Same H2 HA ∧ (Txt.split t " ").take i = b.map entW ∧ bookB b = true)
      ⟨[], none, none, rfl, fun _ _ e => e, by simp, rfl⟩ (fun i σ HA _ ⟨_, _, _, _, sA, _⟩ => SqL.of (sA _ _ e1)) ?_ ?_
    · rintro i x σ HA hx ⟨b, u, v, rfl, sA, hb, hf⟩
      rw [List.getElem?_map] at hx
      obtain ⟨p, hp, rfl⟩ : ∃ y, (Txt.split t " ")[i]? = some y ∧ x = V.str y := by
        cases e : (Txt.split t " ")[i]? with
        | none => rw [e] at hx; cases hx
        | some c => rw [e] at hx; exact ⟨c, rfl, (Option.some.inj hx).symm⟩
      have pl := split_part (List.mem_of_getElem? hp)
      have pl2 : p.length ≤ 560 := Nat.le_trans pl tl
      refine ⟨_, rfl, ⟨_, rfl⟩, _, _, rfl, rfl, rfl, Nat.le_trans (Nat.add_le_add_right pl2 2) (by decide), fun l2 hl2 => ?_⟩
      have s3 : Same HA (upd HA l2 (.lst ((Txt.split p "=").map V.str))) := same_new hl2
      have e3 : (upd HA l2 (.lst ((Txt.split p "=").map V.str))) l2 = some (.lst ((Txt.split p "=").map V.str)) := upd_same
      generalize upd HA l2 (.lst ((Txt.split p "=").map V.str)) = H3 at s3 e3 ⊢
      have s13 : Same H H3 := s1.trans (sA.trans s3)
      refine ⟨_, rfl, l2, _, rfl, .inl (SqL.of e3), rfl, _, rfl, ?_⟩
      rw [List.length_map]
      by_cases h2 : (Txt.split p "=").length = 2
      rotate_left
      · rw [decide_eq_false (fun e => h2 (by have := V.int.inj e; omega))]
        refine iteT (iteT (no H3 s13 (not_wri h0 hp hb hf ?_)))
        rintro ⟨y, rfl, hw, _⟩
        exact h2 (by rw [ent_two (small_free (word_small hw) (by decide))]; rfl)
      obtain ⟨a, c, e2⟩ : ∃ a c, Txt.split p "=" = [a, c] := by
        cases e : Txt.split p "=" with
        | nil => rw [e] at h2; simp at h2
        | cons a r =>
          cases r with
          | nil => rw [e] at h2; simp at h2
          | cons c r =>
            cases r with
            | nil => exact ⟨a, c, rfl⟩
            | cons _ _ => rw [e] at h2; simp at h2
      rw [decide_eq_true (by rw [h2]; rfl)]
      rw [e2] at e3
      obtain ⟨ep, ha⟩ := two_ent e2
      have al : a.length + 1 + c.length = p.length := by rw [ep, strLen_append, strLen_append]; rfl
      have e30 : atI ([V.str a, V.str c]) 0 = some (V.str a) := rfl
      have e31 : atI ([V.str a, V.str c]) 1 = some (V.str c) := rfl
      refine iteF ⟨_, rfl, l2, _, _, _, rfl, rfl, SqL.of e3, e31, c, rfl, Nat.le_trans (show c.length ≤ 560 by omega) (by decide), _, rfl, ?_⟩
      cases hc : wriB c with
      | false =>
        refine iteT (iteT (no H3 s13 (not_wri h0 hp hb hf ?_)))
        rintro ⟨y, e, hw, _⟩
        rw [e, ent_two (small_free (word_small hw) (by decide))] at e2
        injection e2 with _ e2
        injection e2 with e2 _
        rw [← e2, wriB_zt] at hc; cases hc
      | true =>
        obtain ⟨n, en⟩ := (wriB_iff c).mp hc
        have ent : p = entW (a, n) := by rw [ep, en]; rfl
        have uni : ∀ y : Str × Int, p = entW y → wordB y.1 = true → y.1 = a := fun y e hw => by
          rw [e, ent_two (small_free (word_small hw) (by decide))] at e2
          injection e2
        refine iteF ⟨_, rfl, _, rfl, l2, _, _, _, rfl, rfl, SqL.of e3, e30, _, _, rfl, rfl, _, rfl, ?_⟩
        by_cases hl : ch (lastT b) < ch a
        rotate_left
        · rw [show decide ((lastT b).cps.toList < a.cps.toList) = false from decide_eq_false hl]
          refine iteT (iteT (no H3 s13 (not_wri h0 hp hb hf ?_)))
          rintro ⟨y, e, hw, h3⟩
          rw [uni y e hw] at h3
          exact hl h3
        rw [show decide ((lastT b).cps.toList < a.cps.toList) = true from decide_eq_true hl]
        refine iteF ⟨_, rfl, l2, _, _, _, rfl, rfl, SqL.of e3, e30, a, rfl, Nat.le_trans (show a.length ≤ 560 by omega) (by decide), _, _, rfl, rfl, _, rfl, ?_⟩
        by_cases h12 : (12 : Int) < a.length
        · rw [show decide ((12 : Int) < a.length) = true from decide_eq_true h12]
          refine iteT (no H3 s13 (not_wri h0 hp hb hf ?_))
          rintro ⟨y, e, hw, h3⟩
          have := word_len hw
          rw [uni y e hw] at this
          omega
        rw [show decide ((12 : Int) < a.length) = false from decide_eq_false h12]
        refine iteF ?_
        try dsimp only [tNext]
        refine ⟨_, rfl, l2, _, _, _, rfl, rfl, SqL.of e3, e30, ⟨_, rfl⟩, _, _, rfl, rfl, Nat.le_trans (show a.length ≤ 560 by omega) (by decide), rfl, _, rfl, ?_⟩
        have hsm : (Txt.stripChars a "abcdefghijklmnopqrstuvwxyz" = "") ↔ (ch a).all isSmall = true := by
          rw [strip_none, List.all_eq_true]
          have : ∀ c, (Str.ofString "abcdefghijklmnopqrstuvwxyz").cps.contains c = isSmall c := by
            intro c
            have e : (Str.ofString "abcdefghijklmnopqrstuvwxyz").cps = (List.range' 97 26).toArray := by decide +kernel
            unfold isSmall
            rw [e, Bool.eq_iff_iff, List.contains_toArray, List.contains_iff_mem, List.mem_range'_1, Bool.and_eq_true, decide_eq_true_iff, decide_eq_true_iff]
            omega
          exact forall_congr' fun c => forall_congr' fun _ => by rw [this]
        by_cases hs : Txt.stripChars a "abcdefghijklmnopqrstuvwxyz" = ""
        rotate_left
        · rw [decide_eq_false (fun e => hs (V.str.inj e))]
          refine iteT (no H3 s13 (not_wri h0 hp hb hf ?_))
          rintro ⟨y, e, hw, h3⟩
          have := word_small hw
          rw [uni y e hw] at this
          exact hs (hsm.mpr this)
        rw [decide_eq_true (by rw [hs])]
        refine iteF ?_
        try dsimp only [tNext]
        have hw : wordB a = true := by
          unfold wordB
          rw [Bool.and_eq_true]
          refine ⟨hsm.mp hs, decide_eq_true ⟨?_, by omega⟩⟩
          rw [← ch_len]
          cases e : ch a with
          | nil => rw [e] at hl; exact absurd hl (List.not_lt_nil _)
          | cons _ _ => simp
        obtain ⟨k1, k2⟩ := book_snoc (y := (a, n)) hf hw hl
        refine ⟨_, rfl, l2, _, _, _, rfl, rfl, SqL.of e3, e30, ?_⟩
        exact ⟨b ++ [(a, n)], _, _, by rw [k2]; rfl, sA.trans s3, take_add hp hb ent, k1⟩
    · rintro σ HA ⟨b, u, v, rfl, sA, hb, hf⟩
      rw [List.length_map, List.take_length] at hb
      exact yes HA (s1.trans sA) ⟨b, (parts_bk hb).1, hf⟩
end
end KP
namespace KP
open PySem L2 BK
section
variable {P : Program} {w : World} {K : PySem.W.Frag} {mg : Str → Option Value} {base : Heap}
/-! law -/
abbrev s_law : Stmt := top 33
abbrev n_law : List Str := ["script", "k", "cell", "text", "found", "odd"]
theorem sc_law : FnScope n_law ["script"] (defScope s_law) := ⟨rfl, rfl, rfl, by decide +kernel, rfl, by decide +kernel, by decide +kernel⟩
def sp_law (K : PySem.W.Frag) (B Bq Bn : Addr) : Sp := fun vs H Q _ => ∃ (a : Addr) (ns : List Int), vs = [.ref a] ∧ SqL K H a (ns.map V.int) ∧ ns.length ≤ 63 ∧ Tab B H ∧ H Bq = some (.tbl #[]) ∧ Tab Bn H ∧ Bq ≠ B ∧ Bn ≠ B ∧ Bn ≠ Bq ∧ ∀ H', Q (.bl true) H'
theorem ok_law {f f1 f2 f3 f4 f5 f6 f7 B Bq Bn : Addr} {fd fd1 fd2 fd3 fd4 fd5 fd6 fd7 : FuncData} (F : Fun K "law" "law" s_law f fd) (T : Blt mg)
    (B1 : FB K mg "_law_cell" ["script", "k"] f1 fd1) (G1 : FnOk P w K mg base CX0 1 f1 fd1 ["script", "k"] (sp_cell K))
    (B2 : FB K mg "_law_odd" ["cell"] f2 fd2) (G2 : FnOk P w K mg base CX0 1 f2 fd2 ["cell"] sp_odd)
    (B3 : FB K mg "_law_spoilt" ["text", "cell"] f3 fd3) (G3 : FnOk P w K mg base CX0 1 f3 fd3 ["text", "cell"] sp_spoilt)
    (B4 : FB K mg "_law_written" ["cell"] f4 fd4) (G4 : FnOk P w K mg base CX0 2 f4 fd4 ["cell"] sp_written)
    (B5 : FB K mg "_law_read" ["thing"] f5 fd5) (G5 : FnOk P w K mg base CX0 8 f5 fd5 ["thing"] (sp_read K B Bq Bn))
    (B6 : FB K mg "_law_writes" ["text"] f6 fd6) (G6 : FnOk P w K mg base CX0 2 f6 fd6 ["text"] sp_writes)
    (B7 : FB K mg "_law_text" ["book"] f7 fd7) (G7 : FnOk P w K mg base CX0 1 f7 fd7 ["book"] sp_text) : FnOk P w K mg base CX0 9 f fd ["script"] (sp_law K B Bq Bn) := by
  refine F.ok sc_law (fun vs H Q E h => ?_) (fun cdv A outer s H vs Q E hr h => ?_)
  · obtain ⟨a, ns, rfl, _⟩ := h
    rfl
  · obtain ⟨a, ns, rfl, hs, hn, t1, t20, t3, n1, n2, n3, q⟩ := h
    have t2 : Tab Bq H := ⟨#[], t20, trivial⟩
    have nd := sc_law.nd
    have tb0 : Tb3 B Bq Bn H := ⟨t1, t2, t3, n1, n2, n3⟩
    refine ⟨_, @pss_cons _ _ _ _ _ (@ps_for _ _ _ _ _ _ _ _ PassesOwn.never rfl (@pi_range1 _ _ _ _ _ _ rfl T.range (@pa_cons _ _ _ _ _ (@pe_callB _ _ _ _ _ _ _ _ _ (call_max2 rfl) rfl T.max (by decide +kernel) (@pa_cons _ _ _ _ _ pe_int (@pa_cons _ _ _ _ _ (@pe_callB _ _ _ _ _ _ _ _ _ (call_min2 rfl) rfl T.min (by decide +kernel) (@pa_cons _ _ _ _ _ (@pe_callB _ _ _ _ _ _ _ _ _ call_len_seq rfl T.len PySem.boot_len (@pa_cons _ _ _ _ _ (@pv _ 0 _ _ (by rfl) (by first | exact Or.inl rfl | exact Or.inr (Or.inl rfl) | exact Or.inr (Or.inr rfl)) (by decide) (by decide)) pa_nil (by rfl)) (by decide) (by decide) (by rfl) (by rfl)) (@pa_cons _ _ _ _ _ pe_int pa_nil (by rfl)) (by rfl)) (by decide) (by decide) (by rfl) (by rfl)) pa_nil (by rfl)) (by rfl)) (by decide) (by decide) (by rfl) (by rfl)) pa_nil (by rfl)) (by rfl)) (@pg_name _ _ 1 _ nd rfl (Or.inl rfl) (by first | exact .inl rfl | exact .inr rfl | assumption)) (@pss_cons _ _ _ _ _ (@ps_set _ _ 2 _ _ _ _ nd rfl (Or.inl rfl) (@pcall _ _ _ _ _ _ _ _ _ _ _ _ B1 G1 (hr.mono (by decide)) (@pa_cons _ _ _ _ _ (@pv _ 0 _ _ (by rfl) (by first | exact Or.inl rfl | exact Or.inr (Or.inl rfl) | exact Or.inr (Or.inr rfl)) (by decide) (by decide)) (@pa_cons _ _ _ _ _ (@pv _ 1 _ _ (by rfl) (by first | exact Or.inl rfl | exact Or.inr (Or.inl rfl) | exact Or.inr (Or.inr rfl)) (by decide) (by decide)) pa_nil (by rfl)) (by rfl)) (by rfl) (by decide) (by rfl) (by rfl)) (by rfl) (by first | exact .inl rfl | exact .inr rfl | assumption)) (@pss_cons _ _ _ _ _ (@ps_set _ _ 3 _ _ _ _ nd rfl (Or.inl rfl) (@pcall _ _ _ _ _ _ _ _ _ _ _ _ B2 G2 (hr.mono (by decide)) (@pa_cons _ _ _ _ _ (@pe_op _ _ _ _ _ _ _ _ op_fdiv (@pv _ 2 _ _ (by rfl) (by first | exact Or.inl rfl | exact Or.inr (Or.inl rfl) | exact Or.inr (Or.inr rfl)) (by decide) (by decide)) pe_int) pa_nil (by rfl)) (by rfl) (by decide) (by rfl) (by rfl)) (by rfl) (by first | exact .inl rfl | exact .inr rfl | assumption)) (@pss_cons _ _ _ _ _ (@ps_if _ _ _ _ _ _ _ _ (@pt_cmpR _ _ _ _ _ _ _ _ op_gt (@pe_op _ _ _ _ _ _ _ _ op_mod (@pv _ 2 _ _ (by rfl) (by first | exact Or.inl rfl | exact Or.inr (Or.inl rfl) | exact Or.inr (Or.inr rfl)) (by decide) (by decide)) pe_int) pe_int (nomark _)) (@pss_one _ _ _ (@ps_set _ _ 3 _ _ _ _ nd rfl (Or.inl rfl) (@pcall _ _ _ _ _ _ _ _ _ _ _ _ B3 G3 (hr.mono (by decide)) (@pa_cons _ _ _ _ _ (@pcall _ _ _ _ _ _ _ _ _ _ _ _ B4 G4 (hr.mono (by decide)) (@pa_cons _ _ _ _ _ (@pe_op _ _ _ _ _ _ _ _ op_fdiv (@pv _ 2 _ _ (by rfl) (by first | exact Or.inl rfl | exact Or.inr (Or.inl rfl) | exact Or.inr (Or.inr rfl)) (by decide) (by decide)) pe_int) pa_nil (by rfl)) (by rfl) (by decide) (by rfl) (by rfl)) (@pa_cons _ _ _ _ _ (@pe_op _ _ _ _ _ _ _ _ op_fdiv (@pv _ 2 _ _ (by rfl) (by first | exact Or.inl rfl | exact Or.inr (Or.inl rfl) | exact Or.inr (Or.inr rfl)) (by decide) (by decide)) pe_int) pa_nil (by rfl)) (by rfl)) (by rfl) (by decide) (by rfl) (by rfl)) (by rfl) (by first | exact .inl rfl | exact .inr rfl | assumption))) pss_nil) (@pss_cons _ _ _ _ _ (@ps_set _ _ 4 _ _ _ _ nd rfl (Or.inl rfl) (@pcall _ _ _ _ _ _ _ _ _ _ _ _ B5 G5 hr (@pa_cons _ _ _ _ _ (@pv _ 3 _ _ (by rfl) (by first | exact Or.inl rfl | exact Or.inr (Or.inl rfl) | exact Or.inr (Or.inr rfl)) (by decide) (by decide)) pa_nil (by rfl)) (by rfl) (by decide) (by rfl) (by rfl)) (by rfl) (by first | exact .inl rfl | exact .inr rfl | assumption)) (@pss_cons _ _ _ _ _ (@ps_if _ _ _ _ _ _ _ _ (@PW.pt _ _ _ (@pw_and _ _ _ _ _ _ _ (@pt_not _ _ _ _ (@pt_val _ _ _ (@pcall _ _ _ _ _ _ _ _ _ _ _ _ B6 G6 (hr.mono (by decide)) (@pa_cons _ _ _ _ _ (@pv _ 3 _ _ (by rfl) (by first | exact Or.inl rfl | exact Or.inr (Or.inl rfl) | exact Or.inr (Or.inr rfl)) (by decide) (by decide)) pa_nil (by rfl)) (by rfl) (by decide) (by rfl) (by rfl)) (by intro _; rfl))) (@pw_and1 _ _ _ _ (@pt_cmpR _ _ _ _ _ _ _ _ (op_neD hr.units) (@pv _ 4 _ _ (by rfl) (by first | exact Or.inl rfl | exact Or.inr (Or.inl rfl) | exact Or.inr (Or.inr rfl)) (by decide) (by decide)) (@pe_tup _ _ _ _ _ (@pa_cons _ _ _ _ _ pe_str (@pa_cons _ _ _ _ _ pe_str pa_nil (by rfl)) (by rfl))) (nomark _))))) (@pss_one _ _ _ (@ps_ret _ _ _ _ pe_bl)) pss_nil) (@pss_one _ _ _ (@ps_if _ _ _ _ _ _ _ _ (@PW.pt _ _ _ (@pw_and _ _ _ _ _ _ _ (@pt_val _ _ _ (@pcall _ _ _ _ _ _ _ _ _ _ _ _ B6 G6 (hr.mono (by decide)) (@pa_cons _ _ _ _ _ (@pv _ 3 _ _ (by rfl) (by first | exact Or.inl rfl | exact Or.inr (Or.inl rfl) | exact Or.inr (Or.inr rfl)) (by decide) (by decide)) pa_nil (by rfl)) (by rfl) (by decide) (by rfl) (by rfl)) (by intro _; rfl)) (@pw_and1 _ _ _ _ (@PW.pt _ _ _ (@pw_or _ _ _ _ _ _ _ (@pt_not _ _ _ _ (@pt_val _ _ _ (@pisi _ _ _ _ _ _ _ _ T.isi T.list (@pv _ 4 _ _ (by rfl) (by first | exact Or.inl rfl | exact Or.inr (Or.inl rfl) | exact Or.inr (Or.inr rfl)) (by decide) (by decide)) bt_list (by rfl) (by rfl) (by decide) (by decide) (by rfl)) (by intro _; rfl))) (@pw_or1 _ _ _ _ (@pt_cmpR _ _ _ _ _ _ _ _ op_ne (@pcall _ _ _ _ _ _ _ _ _ _ _ _ B7 G7 (hr.mono (by decide)) (@pa_cons _ _ _ _ _ (@pv _ 4 _ _ (by rfl) (by first | exact Or.inl rfl | exact Or.inr (Or.inl rfl) | exact Or.inr (Or.inr rfl)) (by decide) (by decide)) pa_nil (by rfl)) (by rfl) (by decide) (by rfl) (by rfl)) (@pv _ 3 _ _ (by rfl) (by first | exact Or.inl rfl | exact Or.inr (Or.inl rfl) | exact Or.inr (Or.inr rfl)) (by decide) (by decide)) (nomark _)))))))) (@pss_one _ _ _ (@ps_ret _ _ _ _ pe_bl)) pss_nil))))))) (by intro _; rfl)) (@pss_cons _ _ _ _ _ (@ps_for _ _ _ _ _ _ _ _ PassesOwn.never rfl (@pi_list _ _ _ _ (@pe_lst _ _ _ _ (@pa_cons _ _ _ _ _ pe_non (@pa_cons _ _ _ _ _ pe_int (@pa_cons _ _ _ _ _ (@pe_lst _ _ _ _ (@pa_cons _ _ _ _ _ pe_str pa_nil (by rfl))) (@pa_cons _ _ _ _ _ (@pe_lst _ _ _ _ (@pa_cons _ _ _ _ _ (@pe_tup _ _ _ _ _ (@pa_cons _ _ _ _ _ pe_str (@pa_cons _ _ _ _ _ pe_int pa_nil (by rfl)) (by rfl))) pa_nil (by rfl))) (@pa_cons _ _ _ _ _ pe_bl (@pa_cons _ _ _ _ _ pe_dnewK (@pa_cons _ _ _ _ _ (@pe_tup _ _ _ _ _ (@pa_cons _ _ _ _ _ pe_str pa_nil (by rfl))) pa_nil (by rfl)) (by rfl)) (by rfl)) (by rfl)) (by rfl)) (by rfl)) (by rfl)))) (@pg_name _ _ 5 _ nd rfl (Or.inl rfl) (by first | exact .inl rfl | exact .inr rfl | assumption)) (@pss_one _ _ _ (@ps_if _ _ _ _ _ _ _ _ (@pt_cmpR _ _ _ _ _ _ _ _ (op_neD hr.units) (@pcall _ _ _ _ _ _ _ _ _ _ _ _ B5 G5 hr (@pa_cons _ _ _ _ _ (@pv _ 5 _ _ (by rfl) (by first | exact Or.inl rfl | exact Or.inr (Or.inl rfl) | exact Or.inr (Or.inr rfl)) (by decide) (by decide)) pa_nil (by rfl)) (by rfl) (by decide) (by rfl) (by rfl)) (@pe_tup _ _ _ _ _ (@pa_cons _ _ _ _ _ pe_str (@pa_cons _ _ _ _ _ pe_str pa_nil (by rfl)) (by rfl))) (nomark _)) (@pss_one _ _ _ (@ps_ret _ _ _ _ pe_bl)) pss_nil)) (by intro _; rfl)) (@pss_one _ _ _ (@ps_ret _ _ _ _ pe_bl))), ?_⟩
    refine ⟨_, rfl, _, _, rfl, .inl hs, _, _, rfl, _, _, rfl, ?_⟩
    rw [List.length_map]
    refine ⟨_, rfl, by split <;> split <;> omega, by split <;> split <;> omega, ?_⟩
    have sOff : ∀ {H1 H2 : Hp}, Tb3 B Bq Bn H1 → SqL K H1 a (ns.map V.int) → Off [B, Bq, Bn] H1 H2 → SqL K H2 a (ns.map V.int) := fun t h o => sql_off h o fun u hu hue => by
      rcases hu with rfl | ⟨ob, rfl⟩
      · exact t.no hue fun _ h => by cases h
      · exact t.no hue fun _ h => by cases h
    refine for_range (fun i σ H2 => ∃ (u1 u2 u3 u4 u5 : Option V), σ = [some (.ref a), u1, u2, u3, u4, u5] ∧ Tb3 B Bq Bn H2 ∧ SqL K H2 a (ns.map V.int)) ⟨none, none, none, none, none, rfl, tb0, hs⟩ ?_ ?_
    · rintro i σ Hs hi ⟨u1, u2, u3, u4, u5, rfl, ts, hss⟩
      have i63 : i < 63 := by omega
      refine ⟨_, rfl, _, rfl, a, ns, _, rfl, hss, by omega, by omega, fun c => ?_⟩
      refine ⟨_, rfl, _, _, rfl, rfl, ⟨by decide, by decide⟩, _, rfl, fun z0 H1 z0l s1 => ?_⟩
      dsimp only [gName]
      refine tSeq_share (fun σ' H' => ∃ t, σ' = [some (.ref a), some (.int (0 + (i : Int))), some (.int c), some (.str t), u4, u5] ∧ t.length ≤ 560 ∧ Same Hs H') (fun N hN => ?_) ?_
      · refine ⟨_, rfl, _, _, rfl, rfl, (by show (0 : Int) < 3; decide), _, _, rfl, rfl, _, rfl, ?_⟩
        refine ite2 (fun _ => ?_) (fun _ => hN _ _ ⟨z0, rfl, by omega, s1⟩)
        exact ⟨_, rfl, _, _, rfl, rfl, ⟨by decide, by decide⟩, _, rfl, fun z H' zl s => ⟨_, rfl, _, _, rfl, rfl, ⟨by decide, by decide⟩, z, _, rfl, zl, fun y yl => hN _ _ ⟨y, rfl, yl, s1.trans s⟩⟩⟩
      rintro σ2 H2 ⟨t, rfl, tl, s2⟩
      have ts2 := ts.same s2
      refine ⟨_, rfl, _, rfl, ts2, .inl ⟨t, rfl, tl, fun bk e hk fa H3 hn3 hb o3 ts3 => ?_, fun nw fa H3 hn3 ef o3 ts3 => ?_⟩⟩
      · refine ⟨_, rfl, t, rfl, tl, fun b H5 hb5 s5 => ⟨_, rfl, ?_⟩⟩
        obtain rfl : b = true := hb5.mpr ⟨bk, e, hk.ok⟩
        refine iteF (iteF ?_)
        try dsimp only [tNext]
        refine ⟨_, rfl, t, rfl, tl, fun b H6 hb6 s6 => ⟨_, rfl, ?_⟩⟩
        obtain rfl : b = true := hb6.mpr ⟨bk, e, hk.ok⟩
        have s36 : Same H3 H6 := s5.trans s6
        obtain ⟨fs, efs, _⟩ := id (hb.same s36)
        refine iteT ⟨_, rfl, _, _, _, _, rfl, .lst efs, rfl, _, rfl, iteF ?_⟩
        refine ⟨_, rfl, fa, bk, rfl, hb.same s36, hk, fun H7 s7 => ⟨_, rfl, rfl, _, rfl, ?_⟩⟩
        rw [decide_eq_true (by rw [e])]
        refine iteF ?_
        have s37 : Same H3 H7 := s36.trans s7
        exact ⟨_, _, _, _, _, rfl, ts3.same s37, s37.seq (sOff ts2 (s2.seq hss) o3)⟩
      · have shD : SeqAt.shaped (.tuple [.str "refused", .str "none"]) = true := by decide +kernel
        refine ⟨_, rfl, t, rfl, tl, fun b H5 hb5 s5 => ⟨_, rfl, ?_⟩⟩
        obtain rfl : b = false := by
          cases b with
          | false => rfl
          | true => exact absurd (hb5.mp rfl) nw
        refine iteT ⟨_, rfl, (show 2 ≤ sizeLine by decide), fun p hp => ?_⟩
        have sp : Same H5 (upd H5 p (.tup [.str "refused", .str "none"])) := same_new hp
        refine ⟨_, _, .tup (SqT.of (sp _ _ (s5 _ _ ef))) (.cons (.str _) (.cons (.str _) .nil)), .tup (SqT.of upd_same) (.cons (.str _) (.cons (.str _) .nil)), shD, shD, _, rfl, ?_⟩
        rw [SeqAt.eqv_refl _ (SeqAt.canLay_of_shaped shD)]
        refine iteF ?_
        try dsimp only [tNext]
        generalize upd H5 p (.tup [.str "refused", .str "none"]) = H6 at sp ⊢
        refine ⟨_, rfl, t, rfl, tl, fun b H7 hb7 s7 => ⟨_, rfl, ?_⟩⟩
        obtain rfl : b = false := by
          cases b with
          | false => rfl
          | true => exact absurd (hb7.mp rfl) nw
        refine iteF (iteF ?_)
        have s37 : Same H3 H7 := s5.trans (sp.trans s7)
        exact ⟨_, _, _, _, _, rfl, ts3.same s37, s37.seq (sOff ts2 (s2.seq hss) o3)⟩
    · rintro σ H2 ⟨u1, u2, u3, u4, u5, rfl, ts, hss⟩
      refine ⟨by decide, fun l1 h1 => ?_⟩
      have g1 : Same H2 (upd H2 l1 (.lst [V.str "a=1"])) := same_new h1
      have e1 : (upd H2 l1 (.lst [V.str "a=1"])) l1 = some (.lst [V.str "a=1"]) := upd_same
      generalize upd H2 l1 (.lst [V.str "a=1"]) = Ha at g1 e1 ⊢
      refine ⟨by decide, fun tp h2 => ?_⟩
      have g2 : Same Ha (upd Ha tp (.tup [V.str "a", V.int 1])) := same_new h2
      generalize upd Ha tp (.tup [V.str "a", V.int 1]) = Hb at g2 ⊢
      refine ⟨(show 1 ≤ sizeLine by decide), fun l2 h3 => ?_⟩
      have g3 : Same Hb (upd Hb l2 (.lst [V.ref tp])) := same_new h3
      have e3 : (upd Hb l2 (.lst [V.ref tp])) l2 = some (.lst [V.ref tp]) := upd_same
      generalize upd Hb l2 (.lst [V.ref tp]) = Hc at g3 e3 ⊢
      intro d h4
      have g4 : Same Hc (upd Hc d (.dK [])) := same_new h4
      have e4 : (upd Hc d (.dK [])) d = some (.dK []) := upd_same
      generalize upd Hc d (.dK []) = Hd at g4 e4 ⊢
      refine ⟨by decide, fun t2 h5 => ?_⟩
      have g5 : Same Hd (upd Hd t2 (.tup [V.str "-"])) := same_new h5
      have e5 : (upd Hd t2 (.tup [V.str "-"])) t2 = some (.tup [V.str "-"]) := upd_same
      generalize upd Hd t2 (.tup [V.str "-"]) = He at g5 e5 ⊢
      refine ⟨(show 7 ≤ sizeLine by decide), fun L hL => ?_⟩
      have g6 : Same He (upd He L (.lst [V.non, V.int 0, V.ref l1, V.ref l2, V.bl true, V.ref d, V.ref t2])) := same_new hL
      have e6 : (upd He L (.lst [V.non, V.int 0, V.ref l1, V.ref l2, V.bl true, V.ref d, V.ref t2])) L = some (.lst [V.non, V.int 0, V.ref l1, V.ref l2, V.bl true, V.ref d, V.ref t2]) := upd_same
      generalize upd He L (.lst [V.non, V.int 0, V.ref l1, V.ref l2, V.bl true, V.ref d, V.ref t2]) = Hf at g6 e6 ⊢
      have x5 := g6 _ _ e5
      have x4 := g6 _ _ (g5 _ _ e4)
      have x3 := g6 _ _ (g5 _ _ (g4 _ _ e3))
      have x1 := g6 _ _ (g5 _ _ (g4 _ _ (g3 _ _ (g2 _ _ e1))))
      have tf : Tb3 B Bq Bn Hf := ts.same (g1.trans (g2.trans (g3.trans (g4.trans (g5.trans g6)))))
      have nE : ∀ {b : Addr} {u : HO} {HA : Hp}, Hf b = some u → (∀ q, u ≠ .tbl q) → Off [B, Bq, Bn] Hf HA → HA b = some u := fun {b u HA} e h o => o _ _ (tf.no e h) e
      refine ⟨L, rfl, ⟨_, SqL.of e6⟩, ?_⟩
      refine for_list (K := K) (a := L) (xs := [V.non, V.int 0, V.ref l1, V.ref l2, V.bl true, V.ref d, V.ref t2]) (fun i σ HA => ∃ (u5 : Option V), σ = [some (.ref a), u1, u2, u3, u4, u5] ∧ Tb3 B Bq Bn HA ∧ Off [B, Bq, Bn] Hf HA)
        ⟨u5, rfl, tf, Off.refl⟩ (fun i σ HA _ ⟨_, _, _, o⟩ => SqL.of (nE e6 (fun _ h => by cases h) o)) ?_ ?_
      · rintro j x σ HA hx ⟨u, rfl, tA, oA⟩
        have hm := List.mem_of_getElem? hx
        have ns : NoStr K HA x := by
          simp only [List.mem_cons, List.not_mem_nil, or_false] at hm
          rcases hm with rfl | rfl | rfl | rfl | rfl | rfl | rfl
          · exact ⟨_, .non, rfl⟩
          · exact ⟨_, .int _, rfl⟩
          · exact ⟨_, .lst (nE x1 (fun _ h => by cases h) oA), rfl⟩
          · exact ⟨_, .lst (nE x3 (fun _ h => by cases h) oA), rfl⟩
          · exact ⟨_, .bl _, rfl⟩
          · exact ⟨_, .dK (nE x4 (fun _ h => by cases h) oA), rfl⟩
          · exact ⟨_, .tup (nE x5 (fun _ h => by cases h) oA), rfl⟩
        have shD : SeqAt.shaped (.tuple [.str "refused", .str "none"]) = true := by decide +kernel
        refine ⟨_, rfl, _, rfl, tA, .inr ⟨ns, fun fa H3 hn3 ef o3 ts3 => ?_⟩⟩
        refine ⟨(show 2 ≤ sizeLine by decide), fun p hp => ?_⟩
        have sp : Same H3 (upd H3 p (.tup [.str "refused", .str "none"])) := same_new hp
        refine ⟨_, _, .tup (SqT.of (sp _ _ ef)) (.cons (.str _) (.cons (.str _) .nil)), .tup (SqT.of upd_same) (.cons (.str _) (.cons (.str _) .nil)), shD, shD, _, rfl, ?_⟩
        rw [SeqAt.eqv_refl _ (SeqAt.canLay_of_shaped shD)]
        refine iteF ?_
        try dsimp only [tNext]
        exact ⟨_, rfl, ts3.same sp, oA.trans (o3.trans (off_same sp))⟩
      · rintro σ HA ⟨u, rfl, _⟩
        exact q HA
end
end KP
namespace L2
open PySem PySem.Spec PyProof.Rows BK
end L2
namespace L2
open PySem PySem.Spec PyProof.Rows BK
/-- where a code's table lies -/
def tblIn (K : PySem.W.Frag) (cd : Value) : Option Addr := match cd with
  | .ref c => (match K.lookup c with
      | some ⟨_, _, .fields vs, _⟩ => (match (vs : Array Value)[11]? with | some (Value.ref p) => some p | _ => none)
      | _ => none)
  | _ => none
def tblNe (K : PySem.W.Frag) (a b : Value) : Bool := match tblIn K a, tblIn K b with
  | some p, some q => p != q
  | _, _ => false
theorem tbl_of {K : PySem.W.Frag} {h : Heap} (X : K.In h) {c B p : Addr} {ps : Array Value} (e : tblIn K (.ref c) = some p) (t : h.TableAt c B ps) : p = B := by
  obtain ⟨⟨o, vs, e1, _, e3, e4⟩, _⟩ := t
  unfold tblIn at e
  dsimp only at e
  cases hk : K.lookup c with
  | none => rw [hk] at e; cases e
  | some o' =>
    have e5 := X c o' hk
    rw [e1] at e5
    cases e5
    rw [hk] at e
    obtain ⟨x1, x2, x3, x4⟩ := o
    have e3' : x3 = .fields vs := e3
    subst e3'
    have e6 : (match vs[11]? with | some (Value.ref p) => some p | _ => none) = some p := e
    rw [e4] at e6
    exact (Option.some.inj e6).symm
theorem tbl_ne {K : PySem.W.Frag} {h : Heap} (X : K.In h) {c B c2 B2 : Addr} {ps ps2 : Array Value} (e : tblNe K (.ref c) (.ref c2) = true) (t : h.TableAt c B ps) (t2 : h.TableAt c2 B2 ps2) : B2 ≠ B := by
  unfold tblNe at e
  cases h1 : tblIn K (.ref c) with
  | none => rw [h1] at e; cases e
  | some p =>
    cases h2 : tblIn K (.ref c2) with
    | none => rw [h1, h2] at e; cases e
    | some q =>
      rw [h1, h2] at e
      have e' : (p != q) = true := e
      have := tbl_of X h1 t
      have := tbl_of X h2 t2
      subst_vars
      intro z
      rw [z] at e'
      simp at e'
end L2
namespace L2
open PySem PySem.Spec PyProof.Rows BK
/-- the law's call, any number of code tables tracked -/
theorem law_callTN {P : Program} {w : World} {K : PySem.W.Frag} {mg mb : Str → Option Value} {k : Nat} {fa a : Addr} {tabs : List (Addr × Addr)} {fd : FuncData} {x : Str} {sp : Sp} {s1 : Shared} {vs : List Value} {ns : List Int}
    (KX : K.In s1.heap) (hns : s1.heap.Ns mainGlobals mg) (hb : s1.heap.Ns builtinsNs mb) (hbb : ∀ x : Str, x ≠ "__name__" → mb x = bootBuiltins x) (hlim : s1.heap.NoLimit) (hg : s1.gens = #[])
    (ha : s1.heap.get? a = some { cls := .type "list", data := .seq vs.toArray }) (hi : IntsAre vs ns) (hl : ns.length ≤ sizeLine) (hr : Room k callerA)
    (ht : ∀ t ∈ tabs, s1.heap.IsCode t.1 t.2 #[] ∧ s1.heap.TableAt t.1 t.2 #[] ∧ K.lookup t.2 = none) (hM : BB s1.heap mg)
    (F : ∀ base : Heap, K.In base → base.Ns mainGlobals mg → (∀ t ∈ tabs, CodeB base t.1 t.2) → BB base mg → FnOk P w K mg base CX0 k fa fd [x] sp) (hbind : ∀ (s : Shared) (u : Value), BindsTo s fd ⟨[u], []⟩ [(x, u)])
    (hsp : ∀ H : Hp, SqL K H a (ns.map V.int) → (∀ t ∈ tabs, H t.2 = some (.tbl #[])) → sp [.ref a] H (fun v _ => v = .bl true) fun _ _ _ => False) :
    codeAny (model P w) callerA (.call (.ref fa) ⟨[.ref a], []⟩) (fun r s' => r = .ok (.ret (.bool true)) ∧ OldK s1.heap s'.heap ∧ s'.os = s1.os ∧ AllBare s'.gens) s1 := by
  have rv := vals_ints hi
  have lenV := hi.length
  have hT : ∀ {b : Addr}, b ∈ tabs.map (·.2) → ∃ c, s1.heap.TableAt c b #[] ∧ K.lookup b = none ∧ s1.heap.get? b = some { cls := .none, data := .fields #[] } := fun {b} hb => by
    obtain ⟨t, h1, rfl⟩ := List.mem_map.mp hb
    exact ⟨t.1, (ht t h1).2.1, (ht t h1).2.2, (ht t h1).2.1.2⟩
  have core : ∀ H : Hp, SqL K H a (ns.map V.int) → (∀ b ∈ tabs.map (·.2), H b = some (.tbl #[])) → HOk P w H s1.heap → (∀ b, H b ≠ none → b = a ∨ b ∈ tabs.map (·.2)) → (H a ≠ none → K.lookup a = none) → (∀ u, H a = some u → ∃ ob xs, u = .frz ob (.lst xs)) →
      codeAny (model P w) callerA (.call (.ref fa) ⟨[.ref a], []⟩) (fun r s' => r = .ok (.ret (.bool true)) ∧ OldK s1.heap s'.heap ∧ s'.os = s1.os ∧ AllBare s'.gens) s1 := by
    intro H hS hHB hok hA hK hfz
    have base_of : ∀ {b : Addr} {o : Obj}, s1.heap.get? b = some o → H b = none → (hidT s1.heap H).get? b = some o := fun e n => hidT_get e n
    have noA : ∀ {b : Addr} {o : Obj}, s1.heap.get? b = some o → o.cls ≠ .type "list" ∨ o.dict ≠ none ∨ (∀ q m, o.data ≠ .seq q m) → o.cls ≠ .none ∨ (∀ q, o.data ≠ .fields q) → H b = none := fun {b o} e d1 d2 => by
      cases q : H b with
      | none => rfl
      | some u =>
        exfalso
        rcases hA b (by rw [q]; simp) with z | z
        · subst z
          rw [ha] at e; cases e
          rcases d1 with d | d | d
          · exact d rfl
          · exact d rfl
          · exact d _ _ rfl
        · obtain ⟨_, _, _, e2⟩ := hT z
          rw [e2] at e; cases e
          rcases d2 with d | d
          · exact d rfl
          · exact d _ rfl
    have nsK : ∀ {b : Addr} {m : Str → Option Value}, s1.heap.Ns b m → (hidT s1.heap H).Ns b m := fun {b m} ⟨o, es, ep, e, d, r⟩ => ⟨o, es, ep, base_of e (noA e (.inr (.inr fun q m z => by rw [d] at z; cases z)) (.inr fun q z => by rw [d] at z; cases z)), d, r⟩
    have hKb : K.In (hidT s1.heap H) := fun b o e => base_of (KX b o e) (by
      cases q : H b with
      | none => rfl
      | some u =>
        exfalso
        rcases hA b (by rw [q]; simp) with z | z
        · subst z
          rw [hK (by rw [q]; simp)] at e; cases e
        · obtain ⟨_, _, e2, _⟩ := hT z
          rw [e2] at e; cases e)
    have hMod : Mod K mg (hidT s1.heap H) := ⟨hKb, nsK hns, ⟨mb, nsK hb, hbb⟩, let ⟨mc, h1, h2⟩ := hlim; ⟨mc, nsK h1, h2⟩⟩
    have hCB : ∀ t ∈ tabs, CodeB (hidT s1.heap H) t.1 t.2 := fun t h1 => (CodeB.of (ht t h1).1 (ht t h1).2.1).keep fun o e => by
      obtain ⟨⟨o2, vs2, e2, hc2, hd2, _⟩, _⟩ := (ht t h1).2.1
      rw [e2] at e; cases e
      exact base_of e2 (noA e2 (.inl (by rw [hc2]; decide)) (.inl (by rw [hc2]; decide)))
    have hBB : BB (hidT s1.heap H) mg := by
      obtain ⟨bm, ob, m1, m2, m3, m4, m5, m6, m7⟩ := hM
      exact ⟨bm, ob, nsK m1, m2, m3, base_of m4 (noA m4 (.inl (by rw [m5]; decide)) (.inl (by rw [m5]; decide))), m5, m6, m7⟩
    have e0 : Env0 P w K mg (hidT s1.heap H) callerA [] s1 H := ⟨rfl, hMod, fun b o e => of_hidT e, Nat.le_of_eq (hidT_size _ _), trivial, fun b hb => absurd (show b ∈ ([] : List Addr) from hb) (by simp), hok, .of_eq hg⟩
    refine codeAny_mono ((F _ hKb (nsK hns) hCB hBB).run callerA [] s1 H ⟨[.ref a], []⟩ [.ref a] [.ref a] _ _ hr e0 (hbind s1 (.ref a)) (.cons rfl .nil) (hsp H hS fun t h1 => hHB _ (List.mem_map.mpr ⟨t, h1, rfl⟩))) fun r s' h => ?_
    cases r with
    | error e => exact False.elim h
    | ok fl =>
      cases fl with
      | next => exact False.elim h
      | brk => exact False.elim h
      | cont => exact False.elim h
      | ret u =>
        obtain ⟨v, H', os, bare, un, hok', r', q⟩ := h
        have q' : v = .bl true := q
        subst q'
        obtain rfl : u = Value.bool true := r'
        have nfs : ∀ b, b ∉ frs [] := fun b z => absurd (show b ∈ ([] : List Addr) from z) (by simp)
        have main : ∀ b o, s1.heap.get? b = some o → asItWas s1.heap s'.heap b o ∧ ∃ o', s'.heap.get? b = some o' := fun b o e => by
          cases q : H b with
          | none =>
            have := un.keep b o e q (nfs b) (by simp)
            exact ⟨.inl this, _, this⟩
          | some u =>
            rcases hA b (by rw [q]; simp) with z | z
            · subst z
              obtain ⟨ob, xs, rfl⟩ := hfz u q
              have z2 := un.frzs b ob _ q
              obtain ⟨e1, _⟩ := hok b _ q
              obtain ⟨e2, _⟩ := hok' b _ z2
              rw [e] at e1; cases e1
              exact ⟨.inl e2, _, e2⟩
            · obtain ⟨more, z2⟩ := un.tbls b #[] (hHB b z)
              have e2 : s'.heap.get? b = some { cls := .none, data := .fields (#[] ++ more) } := hok' b _ z2
              obtain ⟨_, tb, _, hT'⟩ := hT z
              rw [hT'] at e; cases e
              exact ⟨.inr (.inl ⟨tb.isCodeTable, rfl, #[], more, rfl, e2⟩), _, e2⟩
        exact ⟨rfl, ⟨fun b o e => (main b o e).1, fun b o e => (main b o e).2⟩, os, bare⟩
  have aB : a ∉ tabs.map (·.2) := fun z => by obtain ⟨_, _, _, e⟩ := hT z; rw [e] at ha; cases ha
  cases hk : K.lookup a with
  | some o =>
    have e := KX a o hk
    rw [ha] at e
    cases e
    refine core (fun b => if b ∈ tabs.map (·.2) then some (.tbl #[]) else none) (.inr ⟨_, vs.toArray, _, hk, rfl, rfl, rfl, by rw [List.size_toArray, lenV]; exact hl, by simpa using rv⟩) (fun b hb => if_pos hb) (fun b u z => ?_) (fun b z => ?_) (fun z => absurd (if_neg aB) z) (fun u z => by have z' := (if_neg aB).symm.trans z; cases z')
    · by_cases hb : b ∈ tabs.map (·.2)
      · have z' := (if_pos hb).symm.trans z
        cases z'
        exact (hT hb).choose_spec.2.2
      · have z' := (if_neg hb).symm.trans z
        cases z'
    · by_cases hb : b ∈ tabs.map (·.2)
      · exact .inr hb
      · exact absurd (if_neg hb) z
  | none =>
    refine core (fun b => if b ∈ tabs.map (·.2) then some (.tbl #[]) else if b = a then some (.frz { cls := .type "list", data := .seq vs.toArray } (.lst (ns.map V.int))) else none) (.inl (.inr ⟨{ cls := .type "list", data := .seq vs.toArray }, (if_neg aB).trans (if_pos rfl)⟩)) (fun b hb => if_pos hb) (fun b u z => ?_) (fun b z => ?_) (fun _ => hk) (fun u z => ?_)
    · by_cases hb : b ∈ tabs.map (·.2)
      · have z' := (if_pos hb).symm.trans z
        cases z'
        exact (hT hb).choose_spec.2.2
      · have z1 := (if_neg hb).symm.trans z
        by_cases hb2 : b = a
        · have z' := (if_pos hb2).symm.trans z1
          cases z'
          subst hb2
          exact ⟨ha, by rw [List.length_map]; exact hl, vs, _, rv, ha⟩
        · have z' := (if_neg hb2).symm.trans z1
          cases z'
    · by_cases hb : b ∈ tabs.map (·.2)
      · exact .inr hb
      · by_cases hb2 : b = a
        · exact .inl hb2
        · exact absurd ((if_neg hb).trans (if_neg hb2)) z
    · have z' := ((if_neg aB).trans (if_pos rfl)).symm.trans z
      exact ⟨_, _, (Option.some.inj z').symm⟩
/-- what the head wants of a law over a program with three defs that make code -/
theorem walk_ofT3 {l : PySem.W.OpenLaw} {k : Nat} {q : Program} {loose : List Str} {XP : (Str → Option Value) → Heap → Prop} {YP : World → Heap → Prop} {d : DefRec} {K : Params → PySem.W.Frag} {sp : PySem.W.Frag → Addr → Addr → Addr → Sp} {gn gn2 gn3 : Str}
    (hn : l.most = some 63) (hdf : d.params.defaults = []) (hr : Room k callerA) (hY : ∀ (w : World) (h : Heap), YP w h → (K w.params).In h) (hrec : ∃ d2, (recsOf q).find? (fun e => e.name == gn) = some d2) (hrec2 : ∃ d2, (recsOf q).find? (fun e => e.name == gn2) = some d2) (hrec3 : ∃ d2, (recsOf q).find? (fun e => e.name == gn3) = some d2)
    (F : ∀ (w : World) (mg : Str → Option Value) (fa : Addr) (h : Heap), (K w.params).In h → h.Ns mainGlobals mg → mg d.name = some (.ref fa) →
      PySem.W.kb_classed (K w.params) = true ∧ ∃ (fd : FuncData) (f1 : Addr) (o1 : Obj) (fd1 : FuncData) (f2 : Addr) (o2 : Obj) (fd2 : FuncData) (f3 : Addr) (o3 : Obj) (fd3 : FuncData), (∀ (s : Shared) (u : Value), BindsTo s fd ⟨[u], []⟩ [("script", u)]) ∧ mg gn = some (.ref f1) ∧ (K w.params).lookup f1 = some o1 ∧ o1.data = .func fd1 ∧ mg gn2 = some (.ref f2) ∧ (K w.params).lookup f2 = some o2 ∧ o2.data = .func fd2 ∧ mg gn3 = some (.ref f3) ∧ (K w.params).lookup f3 = some o3 ∧ o3.data = .func fd3 ∧ tblNe (K w.params) fd1.code fd2.code = true ∧ tblNe (K w.params) fd1.code fd3.code = true ∧ tblNe (K w.params) fd2.code fd3.code = true ∧
        ∀ (c B c2 B2 c3 B3 : Addr) (base : Heap), fd1.code = .ref c → fd2.code = .ref c2 → fd3.code = .ref c3 → (K w.params).In base → base.Ns mainGlobals mg → CodeB base c B → CodeB base c2 B2 → CodeB base c3 B3 → BB base mg → FnOk l.prog w (K w.params) mg base CX0 k fa fd ["script"] (sp (K w.params) B B2 B3))
    (hsp : ∀ (K : PySem.W.Frag) (B B2 B3 : Addr) (H : Hp) (a : Addr) (ns : List Int), ns.length ≤ 63 → SqL K H a (ns.map V.int) → Tab B H → H B2 = some (.tbl #[]) → Tab B3 H → B2 ≠ B → B3 ≠ B → B3 ≠ B2 → sp K B B2 B3 [.ref a] H (fun v _ => v = .bl true) fun _ _ _ => False) :
    PySem.W.WalkO q loose XP YP l.row.toRowW d [] (fun f vs => PySem.call f vs) := by
  refine Att.attach_call hn hdf fun w s0 s1 mg mb fa o pm cd doc a vs ns G Y ho hd hcd hmg hobj hints hlen hg => ?_
  have KX := hY w _ Y
  obtain ⟨kb, fd, f1, o1, fd1, f2, o2, fd2, f3, o3, fd3, hb, hm1, hl1, hd1, hm2, hl2, hd2', hm3, hl3, hd3', n12, n13, n23, hF⟩ := F w mg fa _ KX G.T.g hmg
  obtain ⟨d2, hd2⟩ := hrec
  obtain ⟨d3, hd3⟩ := hrec2
  obtain ⟨d4, hd4⟩ := hrec3
  obtain ⟨c, B, hc, Bd⟩ := PySem.W.based_of_top G.T hd2 hm1 (KX _ _ hl1) hd1
  obtain ⟨c2, B2, hc2, Bd2⟩ := PySem.W.based_of_top G.T hd3 hm2 (KX _ _ hl2) hd2'
  obtain ⟨c3, B3, hc3, Bd3⟩ := PySem.W.based_of_top G.T hd4 hm3 (KX _ _ hl3) hd3'
  have hBK : (K w.params).lookup B = none := by
    cases e : (K w.params).lookup B with
    | none => rfl
    | some ob =>
      exfalso
      have h1 := KX _ _ e
      have h2 := List.all_eq_true.mp kb (B, ob) (PySem.W.kb_mem e)
      rw [Bd.tab.2] at h1
      cases h1
      simp only [Bool.or_eq_true, decide_eq_true_eq, beq_iff_eq] at h2
      rcases h2 with (h2 | h2) | h2
      · exact h2 rfl
      · exact Bd.notStatics h2
      · exact Bd.ne_of_ns G.T.g h2.symm
  have hBK2 : (K w.params).lookup B2 = none := by
    cases e : (K w.params).lookup B2 with
    | none => rfl
    | some ob =>
      exfalso
      have h1 := KX _ _ e
      have h2 := List.all_eq_true.mp kb (B2, ob) (PySem.W.kb_mem e)
      rw [Bd2.tab.2] at h1
      cases h1
      simp only [Bool.or_eq_true, decide_eq_true_eq, beq_iff_eq] at h2
      rcases h2 with (h2 | h2) | h2
      · exact h2 rfl
      · exact Bd2.notStatics h2
      · exact Bd2.ne_of_ns G.T.g h2.symm
  have hBK3 : (K w.params).lookup B3 = none := by
    cases e : (K w.params).lookup B3 with
    | none => rfl
    | some ob =>
      exfalso
      have h1 := KX _ _ e
      have h2 := List.all_eq_true.mp kb (B3, ob) (PySem.W.kb_mem e)
      rw [Bd3.tab.2] at h1
      cases h1
      simp only [Bool.or_eq_true, decide_eq_true_eq, beq_iff_eq] at h2
      rcases h2 with (h2 | h2) | h2
      · exact h2 rfl
      · exact Bd3.notStatics h2
      · exact Bd3.ne_of_ns G.T.g h2.symm
  rw [hc, hc2] at n12
  rw [hc, hc3] at n13
  rw [hc2, hc3] at n23
  have ne12 := tbl_ne KX n12 Bd.tab Bd2.tab
  have ne13 := tbl_ne KX n13 Bd.tab Bd3.tab
  have ne23 := tbl_ne KX n23 Bd2.tab Bd3.tab
  have m1 : (c, B) ∈ [(c, B), (c2, B2), (c3, B3)] := by simp
  have m2 : (c2, B2) ∈ [(c, B), (c2, B2), (c3, B3)] := by simp
  have m3 : (c3, B3) ∈ [(c, B), (c2, B2), (c3, B3)] := by simp
  refine law_callTN (tabs := [(c, B), (c2, B2), (c3, B3)]) KX G.T.g G.T.b G.T.builtins G.T.nolimit hg hobj hints (Nat.le_trans hlen (by decide)) hr (fun t ht => ?_) (PySem.W.bmod_of_top G.T)
    (fun base kb nb cb bb => hF c B c2 B2 c3 B3 base hc hc2 hc3 kb nb (cb _ m1) (cb _ m2) (cb _ m3) bb) hb fun H hS tb => hsp _ B B2 B3 H a ns hlen hS ⟨_, tb _ m1, trivial⟩ (tb _ m2) ⟨_, tb _ m3, trivial⟩ ne12 ne13 ne23
  simp only [List.mem_cons, List.not_mem_nil, or_false] at ht
  rcases ht with rfl | rfl | rfl
  · exact ⟨Bd.code, Bd.tab, hBK⟩
  · exact ⟨Bd2.code, Bd2.tab, hBK2⟩
  · exact ⟨Bd3.code, Bd3.tab, hBK3⟩
end L2
namespace KP
open PySem L2 BK
theorem all_mk {l : PySem.W.OpenLaw} {w : World} {K : PySem.W.Frag} {h : Heap} {mg : Str → Option Value} {fa f1 f2 f3 f4 f5 f6 f7 f8 f9 f10 f11 f12 f13 f14 f15 f16 f17 f18 f19 f20 yE y0 y1 y2 y3 y4 y5 : Addr} (X : K.In h) (G : h.Ns mainGlobals mg) (hfa : mg "law" = some (.ref fa))
    {od1 an1 od2 an2 od3 an3 od4 an4 od5 an5 od6 an6 od7 an7 od8 an8 od9 an9 od10 an10 od11 an11 od12 an12 od13 an13 od14 an14 od15 an15 od16 an16 od17 an17 od18 an18 od19 an19 od20 an20 : Option Addr} {sl1 sl2 sl3 sl4 sl5 sl6 sl7 sl8 sl9 sl10 sl11 sl12 sl13 sl14 sl15 sl16 sl17 sl18 sl19 sl20 : Array (Option Value)} {oc1 kV1 dc1 pm1 cd1 ct1 oc2 kV2 dc2 pm2 cd2 ct2 oc3 kV3 dc3 pm3 cd3 ct3 oc4 kV4 dc4 pm4 cd4 ct4 oc5 kV5 dc5 pm5 cd5 ct5 oc6 kV6 dc6 pm6 cd6 ct6 oc7 kV7 dc7 pm7 cd7 ct7 oc8 kV8 dc8 pm8 cd8 ct8 oc9 kV9 dc9 pm9 cd9 ct9 oc10 kV10 dc10 pm10 cd10 ct10 oc11 kV11 dc11 pm11 cd11 ct11 oc12 kV12 dc12 pm12 cd12 ct12 oc13 kV13 dc13 pm13 cd13 ct13 oc14 kV14 dc14 pm14 cd14 ct14 oc15 kV15 dc15 pm15 cd15 ct15 oc16 kV16 dc16 pm16 cd16 ct16 oc17 kV17 dc17 pm17 cd17 ct17 oc18 kV18 dc18 pm18 cd18 ct18 oc19 kV19 dc19 pm19 cd19 ct19 oc20 kV20 dc20 pm20 cd20 ct20 : Value} {tm : Tok} {tw : Tok}
    (a1 : PySem.W.nsIn K mainGlobals "is_whole" = some (some (.ref f1))) (l1 : K.lookup f1 = some ⟨oc1, od1, .func (PySem.W.fnOf "is_whole" "is_whole" (defArgs s_is_whole) (defBody s_is_whole) (defScope s_is_whole) .none kV1 dc1 pm1 an1 cd1 ct1), sl1⟩) (c1 : PySem.W.codeIn K cd1 "is_whole" = true) (k1 : PySem.W.keepIn K (.ref f1) = true)
    (a2 : PySem.W.nsIn K mainGlobals "is_text" = some (some (.ref f2))) (l2 : K.lookup f2 = some ⟨oc2, od2, .func (PySem.W.fnOf "is_text" "is_text" (defArgs s_is_text) (defBody s_is_text) (defScope s_is_text) .none kV2 dc2 pm2 an2 cd2 ct2), sl2⟩) (c2 : PySem.W.codeIn K cd2 "is_text" = true) (k2 : PySem.W.keepIn K (.ref f2) = true)
    (a3 : PySem.W.nsIn K mainGlobals "is_rising" = some (some (.ref f3))) (l3 : K.lookup f3 = some ⟨oc3, od3, .func (PySem.W.fnOf "is_rising" "is_rising" (defArgs s_is_rising) (defBody s_is_rising) (defScope s_is_rising) .none kV3 dc3 pm3 an3 cd3 ct3), sl3⟩) (c3 : PySem.W.codeIn K cd3 "is_rising" = true) (k3 : PySem.W.keepIn K (.ref f3) = true)
    (a4 : PySem.W.nsIn K mainGlobals "is_word" = some (some (.ref f4))) (l4 : K.lookup f4 = some ⟨oc4, od4, .func (PySem.W.fnOf "is_word" "is_word" (defArgs s_is_word) (defBody s_is_word) (defScope s_is_word) .none kV4 dc4 pm4 an4 cd4 ct4), sl4⟩) (c4 : PySem.W.codeIn K cd4 "is_word" = true) (k4 : PySem.W.keepIn K (.ref f4) = true)
    (a5 : PySem.W.nsIn K mainGlobals "is_entry" = some (some (.ref f5))) (l5 : K.lookup f5 = some ⟨oc5, od5, .func (PySem.W.fnOf "is_entry" "is_entry" (defArgs s_is_entry) (defBody s_is_entry) (defScope s_is_entry) .none kV5 dc5 pm5 an5 cd5 ct5), sl5⟩) (c5 : PySem.W.codeIn K cd5 "is_entry" = true) (k5 : PySem.W.keepIn K (.ref f5) = true)
    (a6 : PySem.W.nsIn K mainGlobals "is_book" = some (some (.ref f6))) (l6 : K.lookup f6 = some ⟨oc6, od6, .func (PySem.W.fnOf "is_book" "is_book" (defArgs s_is_book) (defBody s_is_book) (defScope s_is_book) .none kV6 dc6 pm6 an6 cd6 ct6), sl6⟩) (c6 : PySem.W.codeIn K cd6 "is_book" = true) (k6 : PySem.W.keepIn K (.ref f6) = true)
    (a7 : PySem.W.nsIn K mainGlobals "is_number" = some (some (.ref f7))) (l7 : K.lookup f7 = some ⟨oc7, od7, .func (PySem.W.fnOf "is_number" "is_number" (defArgs s_is_number) (defBody s_is_number) (defScope s_is_number) .none kV7 dc7 pm7 an7 cd7 ct7), sl7⟩) (c7 : PySem.W.codeIn K cd7 "is_number" = true) (k7 : PySem.W.keepIn K (.ref f7) = true)
    (a8 : PySem.W.nsIn K mainGlobals "read_entry" = some (some (.ref f8))) (l8 : K.lookup f8 = some ⟨oc8, od8, .func (PySem.W.fnOf "read_entry" "read_entry" (defArgs s_read_entry) (defBody s_read_entry) (defScope s_read_entry) .none kV8 dc8 pm8 an8 cd8 ct8), sl8⟩) (c8 : PySem.W.codeIn K cd8 "read_entry" = true) (k8 : PySem.W.keepIn K (.ref f8) = true)
    (a9 : PySem.W.nsIn K mainGlobals "read_book" = some (some (.ref f9))) (l9 : K.lookup f9 = some ⟨oc9, od9, .func (PySem.W.fnOf "read_book" "read_book" (defArgs s_read_book) (defBody s_read_book) (defScope s_read_book) .none kV9 dc9 pm9 an9 cd9 ct9), sl9⟩) (c9 : PySem.W.codeIn K cd9 "read_book" = true) (k9 : PySem.W.keepIn K (.ref f9) = true)
    (a10 : PySem.W.nsIn K mainGlobals "_law_cell" = some (some (.ref f10))) (l10 : K.lookup f10 = some ⟨oc10, od10, .func (PySem.W.fnOf "_law_cell" "_law_cell" (defArgs s_cell) (defBody s_cell) (defScope s_cell) .none kV10 dc10 pm10 an10 cd10 ct10), sl10⟩) (c10 : PySem.W.codeIn K cd10 "_law_cell" = true) (k10 : PySem.W.keepIn K (.ref f10) = true)
    (a11 : PySem.W.nsIn K mainGlobals "_law_mixed" = some (some (.ref f11))) (l11 : K.lookup f11 = some ⟨oc11, od11, .func (PySem.W.fnOf "_law_mixed" "_law_mixed" (defArgs s_mixed) (defBody s_mixed) (defScope s_mixed) .none kV11 dc11 pm11 an11 cd11 ct11), sl11⟩) (c11 : PySem.W.codeIn K cd11 "_law_mixed" = true) (k11 : PySem.W.keepIn K (.ref f11) = true)
    (a12 : PySem.W.nsIn K mainGlobals "_law_letters" = some (some (.ref f12))) (l12 : K.lookup f12 = some ⟨oc12, od12, .func (PySem.W.fnOf "_law_letters" "_law_letters" (defArgs s_letters) (defBody s_letters) (defScope s_letters) .none kV12 dc12 pm12 an12 cd12 ct12), sl12⟩) (c12 : PySem.W.codeIn K cd12 "_law_letters" = true) (k12 : PySem.W.keepIn K (.ref f12) = true)
    (a13 : PySem.W.nsIn K mainGlobals "_law_written" = some (some (.ref f13))) (l13 : K.lookup f13 = some ⟨oc13, od13, .func (PySem.W.fnOf "_law_written" "_law_written" (defArgs s_written) (defBody s_written) (defScope s_written) .none kV13 dc13 pm13 an13 cd13 ct13), sl13⟩) (c13 : PySem.W.codeIn K cd13 "_law_written" = true) (k13 : PySem.W.keepIn K (.ref f13) = true)
    (a14 : PySem.W.nsIn K mainGlobals "_law_number" = some (some (.ref f14))) (l14 : K.lookup f14 = some ⟨oc14, od14, .func (PySem.W.fnOf "_law_number" "_law_number" (defArgs s_number) (defBody s_number) (defScope s_number) .none kV14 dc14 pm14 an14 cd14 ct14), sl14⟩) (c14 : PySem.W.codeIn K cd14 "_law_number" = true) (k14 : PySem.W.keepIn K (.ref f14) = true)
    (a15 : PySem.W.nsIn K mainGlobals "_law_writes" = some (some (.ref f15))) (l15 : K.lookup f15 = some ⟨oc15, od15, .func (PySem.W.fnOf "_law_writes" "_law_writes" (defArgs s_writes) (defBody s_writes) (defScope s_writes) .none kV15 dc15 pm15 an15 cd15 ct15), sl15⟩) (c15 : PySem.W.codeIn K cd15 "_law_writes" = true) (k15 : PySem.W.keepIn K (.ref f15) = true)
    (a16 : PySem.W.nsIn K mainGlobals "_law_odd" = some (some (.ref f16))) (l16 : K.lookup f16 = some ⟨oc16, od16, .func (PySem.W.fnOf "_law_odd" "_law_odd" (defArgs s_odd) (defBody s_odd) (defScope s_odd) .none kV16 dc16 pm16 an16 cd16 ct16), sl16⟩) (c16 : PySem.W.codeIn K cd16 "_law_odd" = true) (k16 : PySem.W.keepIn K (.ref f16) = true)
    (a17 : PySem.W.nsIn K mainGlobals "_law_spoilt" = some (some (.ref f17))) (l17 : K.lookup f17 = some ⟨oc17, od17, .func (PySem.W.fnOf "_law_spoilt" "_law_spoilt" (defArgs s_spoilt) (defBody s_spoilt) (defScope s_spoilt) .none kV17 dc17 pm17 an17 cd17 ct17), sl17⟩) (c17 : PySem.W.codeIn K cd17 "_law_spoilt" = true) (k17 : PySem.W.keepIn K (.ref f17) = true)
    (a18 : PySem.W.nsIn K mainGlobals "_law_read" = some (some (.ref f18))) (l18 : K.lookup f18 = some ⟨oc18, od18, .func (PySem.W.fnOf "_law_read" "_law_read" (defArgs s_read) (defBody s_read) (defScope s_read) .none kV18 dc18 pm18 an18 cd18 ct18), sl18⟩) (c18 : PySem.W.codeIn K cd18 "_law_read" = true) (k18 : PySem.W.keepIn K (.ref f18) = true)
    (a19 : PySem.W.nsIn K mainGlobals "_law_text" = some (some (.ref f19))) (l19 : K.lookup f19 = some ⟨oc19, od19, .func (PySem.W.fnOf "_law_text" "_law_text" (defArgs s_text) (defBody s_text) (defScope s_text) .none kV19 dc19 pm19 an19 cd19 ct19), sl19⟩) (c19 : PySem.W.codeIn K cd19 "_law_text" = true) (k19 : PySem.W.keepIn K (.ref f19) = true)
    (a20 : PySem.W.nsIn K mainGlobals "law" = some (some (.ref f20))) (l20 : K.lookup f20 = some ⟨oc20, od20, .func (PySem.W.fnOf "law" "law" (defArgs s_law) (defBody s_law) (defScope s_law) .none kV20 dc20 pm20 an20 cd20 ct20), sl20⟩) (c20 : PySem.W.codeIn K cd20 "law" = true) (k20 : PySem.W.keepIn K (.ref f20) = true)
    (z1 : PySem.W.nsIn K mainGlobals "isinstance" = some none) (z2 : PySem.W.nsIn K mainGlobals "int" = some none) (z3 : PySem.W.nsIn K mainGlobals "bool" = some none) (z4 : PySem.W.nsIn K mainGlobals "str" = some none) (z5 : PySem.W.nsIn K mainGlobals "list" = some none) (z6 : PySem.W.nsIn K mainGlobals "dict" = some none) (z7 : PySem.W.nsIn K mainGlobals "all" = some none) (z8 : PySem.W.nsIn K mainGlobals "len" = some none) (z9 : PySem.W.nsIn K mainGlobals "max" = some none) (z10 : PySem.W.nsIn K mainGlobals "min" = some none) (z11 : PySem.W.nsIn K mainGlobals "range" = some none) (z12 : PySem.W.nsIn K mainGlobals "sorted" = some none) (z13 : PySem.W.nsIn K mainGlobals "enumerate" = some none) (z14 : PySem.W.nsIn K mainGlobals "any" = some none) (z15 : PySem.W.nsIn K mainGlobals "reversed" = some none) (z16 : PySem.W.nsIn K mainGlobals "zip" = some none) (z17 : PySem.W.nsIn K mainGlobals "sum" = some none) (z18 : PySem.W.nsIn K mainGlobals "tuple" = some none) (z19 : PySem.W.nsIn K mainGlobals "set" = some none) (z20 : PySem.W.nsIn K mainGlobals "abs" = some none) (z21 : PySem.W.nsIn K mainGlobals "repr" = some none) (qyE : PySem.W.nsIn K mainGlobals "CutError" = some (some (.ref yE))) (qy0 : PySem.W.nsIn K mainGlobals "NoPlace" = some (some (.ref y0))) (qy1 : PySem.W.nsIn K mainGlobals "NoCut" = some (some (.ref y1))) (qy2 : PySem.W.nsIn K mainGlobals "NoText" = some (some (.ref y2))) (qy3 : PySem.W.nsIn K mainGlobals "NoWord" = some (some (.ref y3))) (qy4 : PySem.W.nsIn K mainGlobals "NoWriting" = some (some (.ref y4))) (qy5 : PySem.W.nsIn K mainGlobals "NoRow" = some (some (.ref y5))) (qv : PySem.W.nsIn K mainGlobals "ValueError" = some none) (qb : errsB K yE [y0, y1, y2, y3, y4, y5] = true) (hm : PySem.W.nsIn K mainGlobals "MOST_LETTERS" = some (some (.int 12 tm))) (hq : PySem.W.nsIn K mainGlobals "NO_WORDS" = some (some (.str "-" tw))) (kb : PySem.W.kb_classed K = true) (tn : tblNe K cd2 cd6 = true) (tn2 : tblNe K cd2 cd7 = true) (tn3 : tblNe K cd6 cd7 = true) :
    PySem.W.kb_classed K = true ∧ ∃ (fd : FuncData) (f1 : Addr) (o1 : Obj) (fd1 : FuncData) (f2 : Addr) (o2 : Obj) (fd2 : FuncData) (f3 : Addr) (o3 : Obj) (fd3 : FuncData), (∀ (s : Shared) (u : Value), BindsTo s fd ⟨[u], []⟩ [("script", u)]) ∧ mg "is_text" = some (.ref f1) ∧ K.lookup f1 = some o1 ∧ o1.data = .func fd1 ∧ mg "is_book" = some (.ref f2) ∧ K.lookup f2 = some o2 ∧ o2.data = .func fd2 ∧ mg "is_number" = some (.ref f3) ∧ K.lookup f3 = some o3 ∧ o3.data = .func fd3 ∧ tblNe K fd1.code fd2.code = true ∧ tblNe K fd1.code fd3.code = true ∧ tblNe K fd2.code fd3.code = true ∧
      ∀ (c B c2 B2 c3 B3 : Addr) (base : Heap), fd1.code = .ref c → fd2.code = .ref c2 → fd3.code = .ref c3 → K.In base → base.Ns mainGlobals mg → CodeB base c B → CodeB base c2 B2 → CodeB base c3 B3 → BB base mg → FnOk l.prog w K mg base CX0 9 fa fd ["script"] (sp_law K B B2 B3) := by
  have e := hfa.symm.trans (PySem.W.mg_of X G a20)
  cases e
  have T : Blt mg := ⟨PySem.W.mg_none_of X G z1, PySem.W.mg_none_of X G z2, PySem.W.mg_none_of X G z3, PySem.W.mg_none_of X G z4, PySem.W.mg_none_of X G z5, PySem.W.mg_none_of X G z6, PySem.W.mg_none_of X G z7, PySem.W.mg_none_of X G z8, PySem.W.mg_none_of X G z9, PySem.W.mg_none_of X G z10, PySem.W.mg_none_of X G z11, PySem.W.mg_none_of X G z12, PySem.W.mg_none_of X G z13, PySem.W.mg_none_of X G z14, PySem.W.mg_none_of X G z15, PySem.W.mg_none_of X G z16, PySem.W.mg_none_of X G z17, PySem.W.mg_none_of X G z18, PySem.W.mg_none_of X G z19, PySem.W.mg_none_of X G z20, PySem.W.mg_none_of X G z21⟩
  have hNW := PySem.W.mg_of X G hq
  have hML := PySem.W.mg_of X G hm
  have R : Errs K mg yE y0 y1 y2 y3 y4 y5 := ⟨qb, PySem.W.mg_of X G qyE, PySem.W.mg_of X G qy0, PySem.W.mg_of X G qy1, PySem.W.mg_of X G qy2, PySem.W.mg_of X G qy3, PySem.W.mg_of X G qy4, PySem.W.mg_of X G qy5, PySem.W.mg_none_of X G qv⟩
  have F1 := fun_mk (st := s_is_whole) l1 c1 k1
  have b1 := FB.mk (PySem.W.mg_of X G a1) k1 (F1.binds (ps := ["thing"]) fun _ _ _ _ _ _ us hl => match us, hl with | [_], _ => rfl)
  have F2 := fun_mk (st := s_is_text) l2 c2 k2
  have b2 := FB.mk (PySem.W.mg_of X G a2) k2 (F2.binds (ps := ["thing"]) fun _ _ _ _ _ _ us hl => match us, hl with | [_], _ => rfl)
  have F3 := fun_mk (st := s_is_rising) l3 c3 k3
  have b3 := FB.mk (PySem.W.mg_of X G a3) k3 (F3.binds (ps := ["things"]) fun _ _ _ _ _ _ us hl => match us, hl with | [_], _ => rfl)
  have F4 := fun_mk (st := s_is_word) l4 c4 k4
  have b4 := FB.mk (PySem.W.mg_of X G a4) k4 (F4.binds (ps := ["thing"]) fun _ _ _ _ _ _ us hl => match us, hl with | [_], _ => rfl)
  have F5 := fun_mk (st := s_is_entry) l5 c5 k5
  have b5 := FB.mk (PySem.W.mg_of X G a5) k5 (F5.binds (ps := ["thing"]) fun _ _ _ _ _ _ us hl => match us, hl with | [_], _ => rfl)
  have F6 := fun_mk (st := s_is_book) l6 c6 k6
  have b6 := FB.mk (PySem.W.mg_of X G a6) k6 (F6.binds (ps := ["thing"]) fun _ _ _ _ _ _ us hl => match us, hl with | [_], _ => rfl)
  have F7 := fun_mk (st := s_is_number) l7 c7 k7
  have b7 := FB.mk (PySem.W.mg_of X G a7) k7 (F7.binds (ps := ["text"]) fun _ _ _ _ _ _ us hl => match us, hl with | [_], _ => rfl)
  have F8 := fun_mk (st := s_read_entry) l8 c8 k8
  have b8 := FB.mk (PySem.W.mg_of X G a8) k8 (F8.binds (ps := ["text"]) fun _ _ _ _ _ _ us hl => match us, hl with | [_], _ => rfl)
  have F9 := fun_mk (st := s_read_book) l9 c9 k9
  have b9 := FB.mk (PySem.W.mg_of X G a9) k9 (F9.binds (ps := ["text"]) fun _ _ _ _ _ _ us hl => match us, hl with | [_], _ => rfl)
  have F10 := fun_mk (st := s_cell) l10 c10 k10
  have b10 := FB.mk (PySem.W.mg_of X G a10) k10 (F10.binds (ps := ["script", "k"]) fun _ _ _ _ _ _ us hl => match us, hl with | [_, _], _ => rfl)
  have F11 := fun_mk (st := s_mixed) l11 c11 k11
  have b11 := FB.mk (PySem.W.mg_of X G a11) k11 (F11.binds (ps := ["cell", "k"]) fun _ _ _ _ _ _ us hl => match us, hl with | [_, _], _ => rfl)
  have F12 := fun_mk (st := s_letters) l12 c12 k12
  have b12 := FB.mk (PySem.W.mg_of X G a12) k12 (F12.binds (ps := ["cell", "many", "wide"]) fun _ _ _ _ _ _ us hl => match us, hl with | [_, _, _], _ => rfl)
  have F13 := fun_mk (st := s_written) l13 c13 k13
  have b13 := FB.mk (PySem.W.mg_of X G a13) k13 (F13.binds (ps := ["cell"]) fun _ _ _ _ _ _ us hl => match us, hl with | [_], _ => rfl)
  have F14 := fun_mk (st := s_number) l14 c14 k14
  have b14 := FB.mk (PySem.W.mg_of X G a14) k14 (F14.binds (ps := ["word"]) fun _ _ _ _ _ _ us hl => match us, hl with | [_], _ => rfl)
  have F15 := fun_mk (st := s_writes) l15 c15 k15
  have b15 := FB.mk (PySem.W.mg_of X G a15) k15 (F15.binds (ps := ["text"]) fun _ _ _ _ _ _ us hl => match us, hl with | [_], _ => rfl)
  have F16 := fun_mk (st := s_odd) l16 c16 k16
  have b16 := FB.mk (PySem.W.mg_of X G a16) k16 (F16.binds (ps := ["cell"]) fun _ _ _ _ _ _ us hl => match us, hl with | [_], _ => rfl)
  have F17 := fun_mk (st := s_spoilt) l17 c17 k17
  have b17 := FB.mk (PySem.W.mg_of X G a17) k17 (F17.binds (ps := ["text", "cell"]) fun _ _ _ _ _ _ us hl => match us, hl with | [_, _], _ => rfl)
  have F18 := fun_mk (st := s_read) l18 c18 k18
  have b18 := FB.mk (PySem.W.mg_of X G a18) k18 (F18.binds (ps := ["thing"]) fun _ _ _ _ _ _ us hl => match us, hl with | [_], _ => rfl)
  have F19 := fun_mk (st := s_text) l19 c19 k19
  have b19 := FB.mk (PySem.W.mg_of X G a19) k19 (F19.binds (ps := ["book"]) fun _ _ _ _ _ _ us hl => match us, hl with | [_], _ => rfl)
  have F20 := fun_mk (st := s_law) l20 c20 k20
  refine ⟨kb, PySem.W.fnOf "law" "law" (defArgs s_law) (defBody s_law) (defScope s_law) .none kV20 dc20 pm20 an20 cd20 ct20, f2, _, PySem.W.fnOf "is_text" "is_text" (defArgs s_is_text) (defBody s_is_text) (defScope s_is_text) .none kV2 dc2 pm2 an2 cd2 ct2, f6, _, PySem.W.fnOf "is_book" "is_book" (defArgs s_is_book) (defBody s_is_book) (defScope s_is_book) .none kV6 dc6 pm6 an6 cd6 ct6, f7, _, PySem.W.fnOf "is_number" "is_number" (defArgs s_is_number) (defBody s_is_number) (defScope s_is_number) .none kV7 dc7 pm7 an7 cd7 ct7, fun s v => .of_eq rfl, PySem.W.mg_of X G a2, l2, rfl, PySem.W.mg_of X G a6, l6, rfl, PySem.W.mg_of X G a7, l7, rfl, tn, tn2, tn3, fun cA B cB B2 cC B3 base hc hcc hccc kb nb cb cb2 cb3 bb => ?_⟩
  have hc2 : cd2 = .ref cA := hc
  subst hc2
  have hc3 : cd6 = .ref cB := hcc
  subst hc3
  have hc4 : cd7 = .ref cC := hccc
  subst hc4
  have G1 := ok_is_whole (P := l.prog) (w := w) (base := base) F1 T 
  have G2 := ok_is_text (P := l.prog) (w := w) (base := base) (B := B) ⟨_, _, _, _, _, _, _, _, rfl, l2, c2⟩ T cb bb
  have G3 := ok_is_rising (P := l.prog) (w := w) (base := base) F3 T 
  have G4 := ok_is_word (P := l.prog) (w := w) (base := base) F4 T hML b2 G2
  have G5 := ok_is_entry (P := l.prog) (w := w) (base := base) F5 T b4 G4 b1 G1
  have G6 := ok_is_book (P := l.prog) (w := w) (base := base) (B := B) (Bq := B2) ⟨_, _, _, _, _, _, _, _, rfl, l6, c6⟩ T cb2 bb b5 G5 b3 G3
  have G7 := ok_is_number (P := l.prog) (w := w) (base := base) (B := B3) ⟨_, _, _, _, _, _, _, _, rfl, l7, c7⟩ T cb3 bb
  have G8X := ok_read_entryX (P := l.prog) (w := w) (base := base) F8 T R b7 G7
  have G9X := ok_read_bookX (P := l.prog) (w := w) (base := base) F9 T hNW R b8 G8X b6 G6
  have G10 := ok_cell (P := l.prog) (w := w) (base := base) F10 T 
  have G11 := ok_mixed (P := l.prog) (w := w) (base := base) F11 T 
  have G12 := ok_letters (P := l.prog) (w := w) (base := base) F12 T 
  have G13 := ok_written (P := l.prog) (w := w) (base := base) F13 T b11 G11 b12 G12
  have G14 := ok_number (P := l.prog) (w := w) (base := base) F14 T 
  have G15 := ok_writes (P := l.prog) (w := w) (base := base) F15 T b14 G14
  have G16 := ok_odd (P := l.prog) (w := w) (base := base) F16 T 
  have G17 := ok_spoilt (P := l.prog) (w := w) (base := base) F17 T 
  have G18 := ok_read (P := l.prog) (w := w) (base := base) F18 T R b9 G9X
  have G19 := ok_text (P := l.prog) (w := w) (base := base) F19 T 
  exact ok_law (P := l.prog) (w := w) (base := base) F20 T b10 G10 b16 G16 b17 G17 b13 G13 b18 G18 b15 G15 b19 G19
end KP
open PySem PySem.W PyProof.Rows
set_option maxRecDepth 100000 in
set_option maxHeartbeats 0 in
theorem PySem.Challenge.cw_bookcuts_k54_texts_that_write_no_book_holds : PySem.Challenge.rw_bookcuts_k54_texts_that_write_no_book.Holds := by
  w_on; o_law; k_head; (case hw => w_witness2)
  k_fill
  refine L2.walk_ofT3 (l := PySem.Challenge.rw_bookcuts_k54_texts_that_write_no_book) (gn := "is_text") (gn2 := "is_book") (gn3 := "is_number") (k := 9) (sp := KP.sp_law) rfl rfl ⟨rfl, by decide, by decide, rfl⟩ (fun w h Y => PySem.W.kIn_of Y) ⟨_, rfl⟩ ⟨_, rfl⟩ ⟨_, rfl⟩ ?F ?S
  case F =>
    intro w mg fa h KX G hmg
    refine' KP.all_mk KX G hmg ?a1 ?l1 ?c1 ?k1 ?a2 ?l2 ?c2 ?k2 ?a3 ?l3 ?c3 ?k3 ?a4 ?l4 ?c4 ?k4 ?a5 ?l5 ?c5 ?k5 ?a6 ?l6 ?c6 ?k6 ?a7 ?l7 ?c7 ?k7 ?a8 ?l8 ?c8 ?k8 ?a9 ?l9 ?c9 ?k9 ?a10 ?l10 ?c10 ?k10 ?a11 ?l11 ?c11 ?k11 ?a12 ?l12 ?c12 ?k12 ?a13 ?l13 ?c13 ?k13 ?a14 ?l14 ?c14 ?k14 ?a15 ?l15 ?c15 ?k15 ?a16 ?l16 ?c16 ?k16 ?a17 ?l17 ?c17 ?k17 ?a18 ?l18 ?c18 ?k18 ?a19 ?l19 ?c19 ?k19 ?a20 ?l20 ?c20 ?k20 ?z1 ?z2 ?z3 ?z4 ?z5 ?z6 ?z7 ?z8 ?z9 ?z10 ?z11 ?z12 ?z13 ?z14 ?z15 ?z16 ?z17 ?z18 ?z19 ?z20 ?z21 ?qyE ?qy0 ?qy1 ?qy2 ?qy3 ?qy4 ?qy5 ?qv ?qb ?hm ?hq ?kb ?tn ?tn2 ?tn3
    (case a1 => k_is); (case l1 => k_is); (case c1 => k_is); (case k1 => k_is)
    (case a2 => k_is); (case l2 => k_is); (case c2 => k_is); (case k2 => k_is)
    (case a3 => k_is); (case l3 => k_is); (case c3 => k_is); (case k3 => k_is)
    (case a4 => k_is); (case l4 => k_is); (case c4 => k_is); (case k4 => k_is)
    (case a5 => k_is); (case l5 => k_is); (case c5 => k_is); (case k5 => k_is)
    (case a6 => k_is); (case l6 => k_is); (case c6 => k_is); (case k6 => k_is)
    (case a7 => k_is); (case l7 => k_is); (case c7 => k_is); (case k7 => k_is)
    (case a8 => k_is); (case l8 => k_is); (case c8 => k_is); (case k8 => k_is)
    (case a9 => k_is); (case l9 => k_is); (case c9 => k_is); (case k9 => k_is)
    (case a10 => k_is); (case l10 => k_is); (case c10 => k_is); (case k10 => k_is)
    (case a11 => k_is); (case l11 => k_is); (case c11 => k_is); (case k11 => k_is)
    (case a12 => k_is); (case l12 => k_is); (case c12 => k_is); (case k12 => k_is)
    (case a13 => k_is); (case l13 => k_is); (case c13 => k_is); (case k13 => k_is)
    (case a14 => k_is); (case l14 => k_is); (case c14 => k_is); (case k14 => k_is)
    (case a15 => k_is); (case l15 => k_is); (case c15 => k_is); (case k15 => k_is)
    (case a16 => k_is); (case l16 => k_is); (case c16 => k_is); (case k16 => k_is)
    (case a17 => k_is); (case l17 => k_is); (case c17 => k_is); (case k17 => k_is)
    (case a18 => k_is); (case l18 => k_is); (case c18 => k_is); (case k18 => k_is)
    (case a19 => k_is); (case l19 => k_is); (case c19 => k_is); (case k19 => k_is)
    (case a20 => k_is); (case l20 => k_is); (case c20 => k_is); (case k20 => k_is)
    (case z1 => k_is); (case z2 => k_is); (case z3 => k_is); (case z4 => k_is); (case z5 => k_is); (case z6 => k_is); (case z7 => k_is); (case z8 => k_is); (case z9 => k_is); (case z10 => k_is); (case z11 => k_is); (case z12 => k_is); (case z13 => k_is); (case z14 => k_is); (case z15 => k_is); (case z16 => k_is); (case z17 => k_is); (case z18 => k_is); (case z19 => k_is); (case z20 => k_is); (case z21 => k_is)
    (case qyE => k_is); (case qy0 => k_is); (case qy1 => k_is); (case qy2 => k_is); (case qy3 => k_is); (case qy4 => k_is); (case qy5 => k_is); (case qv => k_is); (case qb => kernel_rfl)
    (case hm => k_is)
    (case hq => k_is)
    (case kb => exact rfl)
    (case tn => exact rfl)
    (case tn2 => exact rfl); (case tn3 => exact rfl)
  case S => exact fun K B B2 B3 H a ns hl hS tb tb2 tb3 n1 n2 n3 => ⟨a, ns, rfl, hS, hl, tb, tb2, tb3, n1, n2, n3, fun _ => rfl⟩
