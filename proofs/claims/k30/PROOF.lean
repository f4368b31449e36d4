import PyProof.Rows.All
import Wide.All
import OpenK.AllK
import Wide.FinOn
import Lean
import PyProof.EqAt
import PyProof.EqKinds
import PyProof.TupleCall
import OpenK.KOwn
import PyProof.InstStoreFacts
import PyProof.EnumFor
import PyProof.EnumMake
import PyProof.EnumStmt
import KE.KDictList
import PyProof.ListRange
import PyProof.Rows.SetFrom
import PyProof.WalksMore
import PySem.Challenge.RW_crosshall_k30_what_is_no_net
-- CHANGE: your row's module here, as the last of these rows
set_option Elab.async false
set_option linter.all false
set_option maxRecDepth 100000
/-! THE HAND LAYER, for ints, bools, texts, own classes, LISTS and tuples (index, slices, in, append, pop ..), calls, loops. Paste it whole ahead of your own text; what your proof does not reach may be deleted. -/
namespace L2
open PySem PySem.Spec PyProof.Rows

/-  a key: an int or a str -/
abbrev Key := Sum Int Str
def keyIs : Key → Value → Bool
  | .inl k, v => Value.isInt k v
  | .inr x, v => Value.isStrOf x v
def keyH (w : World) : Key → Int
  | .inl k => hashInt k
  | .inr x => hashStr w x
theorem keyIs_shape : ∀ {k : Key} {v : Value}, keyIs k v = true → (∃ i t, k = Sum.inl i ∧ v = Value.int i t) ∨ (∃ x t, k = Sum.inr x ∧ v = Value.str x t)
  | .inl i, v, h => by
    obtain ⟨t, e⟩ := Value.isInt_shape (k := i) (v := v) h
    exact .inl ⟨i, t, rfl, e⟩
  | .inr x, v, h => by
    obtain ⟨t, e⟩ := Value.isStrOf_shape (x := x) (v := v) h
    exact .inr ⟨x, t, rfl, e⟩
theorem key_ll (a b : Int) : decide ((Sum.inl a : Key) = Sum.inl b) = (a == b) := by
  by_cases e : a = b
  · subst e; simp
  · have h : ¬ (Sum.inl a : Key) = Sum.inl b := fun q => e (Sum.inl.inj q)
    rw [decide_eq_false h]
    exact (beq_eq_false_iff_ne.mpr e).symm
theorem key_rr (a b : Str) : decide ((Sum.inr a : Key) = Sum.inr b) = decide (a = b) := by
  by_cases e : a = b
  · subst e; simp
  · have h : ¬ (Sum.inr a : Key) = Sum.inr b := fun q => e (Sum.inr.inj q)
    rw [decide_eq_false h, decide_eq_false e]
theorem key_lr (a : Int) (b : Str) : decide ((Sum.inl a : Key) = Sum.inr b) = false := decide_eq_false (fun q => nomatch q)
theorem key_rl (a : Str) (b : Int) : decide ((Sum.inr a : Key) = Sum.inl b) = false := decide_eq_false (fun q => nomatch q)

def mixKind (prog : Program) (w : World) : PySem.KeyKind prog w Key where
  is := keyIs
  hash := keyH w
  inj := fun v a b ha hb => by
    rcases keyIs_shape ha with ⟨i, t, rfl, rfl⟩ | ⟨x, t, rfl, rfl⟩
    · rcases keyIs_shape hb with ⟨j, u, rfl, e⟩ | ⟨y, u, rfl, e⟩
      · injection e with e1 _; rw [e1]
      · exact nomatch e
    · rcases keyIs_shape hb with ⟨j, u, rfl, e⟩ | ⟨y, u, rfl, e⟩
      · exact nomatch e
      · injection e with e1 _; rw [e1]
  byValue := fun k v h => by
    rcases keyIs_shape h with ⟨i, t, rfl, rfl⟩ | ⟨x, t, rfl, rfl⟩ <;> rfl
  pyHash := fun hv h => by
    rcases keyIs_shape hv with ⟨i, t, rfl, rfl⟩ | ⟨x, t, rfl, rfl⟩
    · exact wpAny_pyHash_int h
    · exact wpAny_pyHash_str h
  eqBool := fun hu hv h => by
    rcases keyIs_shape hu with ⟨i, t, rfl, rfl⟩ | ⟨x, t, rfl, rfl⟩
    · rcases keyIs_shape hv with ⟨j, u, rfl, rfl⟩ | ⟨y, u, rfl, rfl⟩
      · rw [key_ll] at h; exact wpAny_eqBool_int h
      · rw [key_lr] at h; exact SeqAt.EqAt.int_str i t y u _ _ _ _ h
    · rcases keyIs_shape hv with ⟨j, u, rfl, rfl⟩ | ⟨y, u, rfl, rfl⟩
      · rw [key_rl] at h; exact SeqAt.EqAt.str_int x t j u _ _ _ _ h
      · rw [key_rr] at h; exact wpAny_eqBool_str h
  «strs» := fun k x t v h => by
    rcases keyIs_shape h with ⟨i, u, rfl, e⟩ | ⟨y, u, rfl, e⟩
    · exact nomatch e
    · injection e with e1 _
      subst e1
      cases v <;> rfl

/-  an item of a key that is a tuple: None, an int, a text -/
abbrev NKey := Option Key
def nIs : NKey → Value → Bool
  | none, .none => true
  | none, _ => false
  | some k, v => keyIs k v
def nH (w : World) : NKey → Int
  | none => reduceHash 0xFCA86420
  | some k => keyH w k
theorem nIs_shape : ∀ {k : NKey} {v : Value}, nIs k v = true → (k = none ∧ v = Value.none) ∨ ∃ q, k = some q ∧ keyIs q v = true
  | none, v, h => by cases v <;> first | exact .inl ⟨rfl, rfl⟩ | exact nomatch h
  | some k, v, h => .inr ⟨k, rfl, h⟩
theorem key_not_none {q : Key} (h : keyIs q Value.none = true) : False := by
  rcases keyIs_shape h with ⟨_, _, _, e⟩ | ⟨_, _, _, e⟩ <;> exact nomatch e
theorem pyHash_none {prog : Program} {w : World} {A : Around} {E : Value → Shared → Prop} {s : Shared} {Q : Int → Shared → Prop} (h : Q (reduceHash 0xFCA86420) { s with toks := s.toks + 1 }) : wpAny (model prog w) A (pyHash .none) Q E s :=
  PySem.W.pyHash_slot (T := "NoneType") rfl F.slot_NoneType_hash F.entry_NoneType_hash (F.args_NoneType_hash_1 _) (beq_builtin_none _) (.inl rfl) (wpAny_bind (wpAny_pure (wpAny_bind (wpAny_mkInt (wpAny_pure ⟨_, _, rfl, h⟩)))))
theorem eqBool_none {prog : Program} {w : World} {A : Around} {E : Value → Shared → Prop} {s : Shared} {Q : Bool → Shared → Prop} (h : Q true s) : wpAny (model prog w) A (eqBool .none .none) Q E s := by
  unfold eqBool
  try with_reducible refine wpAny_holding ?_
  show wpAny _ _ (if (Value.none == Value.none) = true then _ else _) Q E s
  rw [if_pos (by decide)]
  exact wpAny_bind (wpAny_rule (wpAny_pure h))
def optKind (prog : Program) (w : World) : PySem.KeyKind prog w NKey where
  is := nIs
  hash := nH w
  inj := fun v a b ha hb => by
    rcases nIs_shape ha with ⟨rfl, rfl⟩ | ⟨q, rfl, hq⟩
    · rcases nIs_shape hb with ⟨rfl, _⟩ | ⟨q', rfl, hq'⟩
      · rfl
      · exact (key_not_none hq').elim
    · rcases nIs_shape hb with ⟨rfl, rfl⟩ | ⟨q', rfl, hq'⟩
      · exact (key_not_none hq).elim
      · rw [(mixKind prog w).inj v q q' hq hq']
  byValue := fun k v h => by
    rcases nIs_shape h with ⟨rfl, rfl⟩ | ⟨q, rfl, hq⟩
    · rfl
    · exact (mixKind prog w).byValue q v hq
  pyHash := fun hv h => by
    rcases nIs_shape hv with ⟨rfl, rfl⟩ | ⟨q, rfl, hq⟩
    · exact pyHash_none h
    · exact (mixKind prog w).pyHash hq h
  eqBool := fun {A E s a b u v Q} hu hv h => by
    rcases nIs_shape hu with ⟨rfl, rfl⟩ | ⟨q, rfl, hq⟩
    · rcases nIs_shape hv with ⟨rfl, rfl⟩ | ⟨q', rfl, hq'⟩
      · exact eqBool_none (by simpa using h)
      · have h' : Q false s := by simpa using h
        rcases keyIs_shape hq' with ⟨i, t, rfl, rfl⟩ | ⟨x, t, rfl, rfl⟩
        · exact SeqAt.EqAt.none_int i t _ _ _ _ h'
        · exact SeqAt.EqAt.none_str x t _ _ _ _ h'
    · rcases nIs_shape hv with ⟨rfl, rfl⟩ | ⟨q', rfl, hq'⟩
      · have h' : Q false s := by simpa using h
        rcases keyIs_shape hq with ⟨i, t, rfl, rfl⟩ | ⟨x, t, rfl, rfl⟩
        · exact SeqAt.EqAt.int_none i t _ _ _ _ h'
        · exact SeqAt.EqAt.str_none x t _ _ _ _ h'
      · refine (mixKind prog w).eqBool hq hq' ?_
        have e : decide ((some q : NKey) = some q') = decide (q = q') := by simp
        rw [← e]; exact h
  «strs» := fun k x t v h => by
    rcases nIs_shape h with ⟨rfl, e⟩ | ⟨q, rfl, hq⟩
    · exact nomatch e
    · exact (mixKind prog w).strs q x t v hq
end L2

namespace L2
open PySem PySem.Spec PyProof.Rows

/-  a value, without the heap -/
inductive V where
  | non | bl (b : Bool) | int (i : Int) | str (x : Str) | byt (b : Array UInt8) | flt (b : UInt64) | ref (a : Addr) | ty (n : String)
  deriving DecidableEq

def RelV : V → Value → Prop
  | .non, u => u = Value.none
  | .bl b, u => u = Value.bool b
  | .int i, u => ∃ t, u = Value.int i t
  | .str x, u => ∃ t, u = Value.str x t
  | .byt b, u => ∃ t, u = Value.bytes b t
  | .flt b, u => ∃ t, u = Value.float b t
  | .ref a, u => u = Value.ref a
  | .ty n, u => u = Value.type n

abbrev Vals : List V → List Value → Prop := Paired RelV
theorem Vals.length {xs : List V} {us : List Value} (r : Vals xs us) : xs.length = us.length := Paired.length r
theorem Vals.get : ∀ {xs : List V} {us : List Value} {i : Nat} {x : V}, Vals xs us → xs[i]? = some x → ∃ u, us[i]? = some u ∧ RelV x u
  | _, _, _, _, .nil, e => by simp at e
  | _, _, 0, _, .cons r _, e => by simp at e; subst e; exact ⟨_, rfl, r⟩
  | _, _, i + 1, x, .cons _ t, e => by
    obtain ⟨u, h1, h2⟩ := Vals.get (i := i) (x := x) t (by simpa using e)
    exact ⟨u, by simpa using h1, h2⟩
theorem Vals.append : ∀ {xs ys : List V} {us ws : List Value}, Vals xs us → Vals ys ws → Vals (xs ++ ys) (us ++ ws)
  | _, _, _, _, .nil, s => s
  | _, _, _, _, .cons r t, s => .cons r (Vals.append t s)
theorem Vals.take : ∀ {xs : List V} {us : List Value} (n : Nat), Vals xs us → Vals (xs.take n) (us.take n)
  | _, _, 0, _ => .nil
  | _, _, _ + 1, .nil => .nil
  | _, _, n + 1, .cons r t => .cons r (Vals.take n t)
theorem Vals.drop : ∀ {xs : List V} {us : List Value} (n : Nat), Vals xs us → Vals (xs.drop n) (us.drop n)
  | _, _, 0, r => r
  | _, _, _ + 1, .nil => .nil
  | _, _, n + 1, .cons _ t => Vals.drop n t

def RelO : Option V → Option Value → Prop
  | some v, some u => RelV v u
  | none, none => True
  | _, _ => False
def KV {κ : Type} : List (κ × V) → List (κ × Value) → Prop := Paired fun (p : κ × V) (q : κ × Value) => p.1 = q.1 ∧ RelV p.2 q.2

/-  a key of a dict (00_mix): an int or a text -/
def kV : Key → V
  | .inl i => .int i
  | .inr x => .str x

/-  an item of a key that is a tuple -/
def nV : NKey → V
  | none => .non
  | some k => kV k

/-  what stands at a tracked address -/
inductive HO where
  /-  a list -/
  | lst (xs : List V)
  /-  a tuple (never changes) -/
  | tup (xs : List V)
  /-  a dict whose keys are ints and texts; one whose keys are tuples of ints and texts (the empty one is both) -/
  | dK (kvs : List (Key × V)) | dT (kvs : List (List NKey × V))
  /-  a set of ints: its members, its size -/
  | set (S : Int → Bool) (n : Nat)
  /-  an instance of the class at C, its dict at dx, its attributes -/
  | ins (C dx : Addr) (fs : List (Str × V))
  /-  the dict of the instance at x -/
  | own (x : Addr)
  /-  the dict of an exception -/
  | xd (fs : List (Str × V))
  /-  a bound method, f of x -/
  | met (f x : Addr)
  /-  a range object lo, lo + 1, .. below hi -/
  | rng (lo hi : Int)
  /-  a thing that is known to the object (the script; a dict while a loop walks it): read, never written while it is so -/
  | frz (o : Obj) (u : HO)
  /-  a code object's table -/
  | tbl (ps : Array Value)
  /-  any other thing, by what is true of its one object (a def of one's own: SetO a S n := HO.ext fun h => ..) -/
  | ext (φ : Heap → Prop)

abbrev Hp := Addr → Option HO
def upd (H : Hp) (a : Addr) (o : HO) : Hp := fun b => if b = a then some o else H b
theorem upd_same {H : Hp} {a : Addr} {o : HO} : upd H a o a = some o := by unfold upd; rw [if_pos rfl]
theorem upd_ne {H : Hp} {a b : Addr} {o : HO} (h : b ≠ a) : upd H a o b = H b := by unfold upd; rw [if_neg h]
theorem ne_of_none {H : Hp} {a b : Addr} {o : HO} (h : H a = some o) (h' : H b = none) : a ≠ b := by
  intro e; subst e; rw [h] at h'; cases h'

section
variable (P : Program) (w : World)
def ObjOk (H : Hp) (h : Heap) (a : Addr) : HO → Prop
  | .lst xs => xs.length ≤ sizeLine ∧ ∃ (its : List Value) (n : Nat), Vals xs its ∧ h.get? a = some { cls := .type "list", data := .seq its.toArray n }
  | .tup xs => xs.length ≤ sizeLine ∧ ∃ its : List Value, Vals xs its ∧ IsTup h a its.toArray
  | .dK kvs => kvs.length ≤ sizeLine ∧ (a == sysModules) = false ∧ ∃ vs, KV kvs vs ∧ h.DictOf (mixKind P w) a vs
  | .dT kvs => kvs.length ≤ sizeLine ∧ (a == sysModules) = false ∧ ∃ xs : List (List NKey × Addr × Value),
      Paired (fun (p : List NKey × V) (q : List NKey × Addr × Value) => p.1 = q.1 ∧ H q.2.1 = some (.tup (p.1.map nV)) ∧ RelV p.2 q.2.2) kvs xs ∧
      ∃ o es ep, h.get? a = some o ∧ o.ExactDict ∧ o.data = .dict es ep ∧ es.toList = xs.map (entryOfKey (tupleKind (optKind P w))) ∧ (xs.map (·.1)).Nodup
  | .set S n => h.SetOf (intKind P w) a S n
  | .ins C dx fs => H dx = some (.own a) ∧ fs.length ≤ 1000 ∧ dx ≠ a ∧ h.get? a = some (PySem.W.instObj C dx) ∧
      ∃ mA, h.Ns1 dx mA ∧ (∀ f, RelO (fs.lookup f) (mA f)) ∧ PySem.Within mA (fs.map (·.1))
  | .own _ => ∃ o, h.get? a = some o
  | .xd fs => ∃ mA, h.Ns1 a mA ∧ ∀ f, RelO (fs.lookup f) (mA f)
  | .rng lo hi => ∃ t u v, h.get? a = some { cls := .type "range", data := .fields #[.int lo t, .int hi u, .int 1 v] }
  | .frz o u => h.get? a = some o ∧ ObjOk H h a u
  | .tbl ps => h.get? a = some { cls := .none, data := .fields ps }
  | .met f x => h.get? a = some (PySem.W.methodObj (.ref f) (.ref x))
  | .ext φ => φ h ∧ (∃ o, h.get? a = some o) ∧ ∀ h1 h2 : Heap, φ h1 → (∀ o, h1.get? a = some o → h2.get? a = some o) → φ h2
/-  the abstract heap is held -/
def HOk (H : Hp) (h : Heap) : Prop := ∀ a o, H a = some o → ObjOk P w H h a o
end

section
variable {P : Program} {w : World} {H H' : Hp} {h h' : Heap} {a : Addr} {o : HO}
theorem ObjOk.lt (x : ObjOk P w H h a o) : a < h.objs.size := by
  cases o with
  | lst xs => obtain ⟨_, _, _, _, e⟩ := x; exact Heap.lt_size e
  | tup xs => obtain ⟨_, _, _, p⟩ := x; exact p.lt
  | dK kvs => obtain ⟨_, _, _, _, o, _, _, e, _⟩ := x; exact Heap.lt_size e
  | dT kvs => obtain ⟨_, _, _, _, o, _, _, e, _⟩ := x; exact Heap.lt_size e
  | set S n => obtain ⟨o, _, _, _, e, _⟩ := x; exact Heap.lt_size e
  | ins C dx fs => obtain ⟨_, _, _, e, _⟩ := x; exact Heap.lt_size e
  | own y => obtain ⟨_, e⟩ := x; exact Heap.lt_size e
  | xd fs => obtain ⟨_, ⟨_, _, _, e, _⟩, _⟩ := x; exact Heap.lt_size e
  | rng lo hi => obtain ⟨_, _, _, e⟩ := x; exact Heap.lt_size e
  | frz ob u => obtain ⟨e, _⟩ := x; exact Heap.lt_size e
  | tbl ps => exact Heap.lt_size (show h.get? a = some _ from x)
  | met f y => exact Heap.lt_size (show h.get? a = some _ from x)
  | ext φ => obtain ⟨_, ⟨_, e⟩, _⟩ := x; exact Heap.lt_size e
theorem Paired.mapP {α β : Type} {F G : α → β → Prop} : ∀ {l₁ : List α} {l₂ : List β}, Paired F l₁ l₂ → (∀ a b, F a b → G a b) → Paired G l₁ l₂
  | _, _, .nil, _ => .nil
  | _, _, .cons r t, f => .cons (f _ _ r) (Paired.mapP t f)
/-  what an object's description leans on: its own object, its own dict, the tuples -/
theorem ObjOk.stay (x : ObjOk P w H h a o) (k : ∀ b u, (b = a ∨ H b = some (.own a)) → h.get? b = some u → h'.get? b = some u)
    (ho : ∀ b, H b = some (.own a) → H' b = some (.own a)) (ht : ∀ b xs, H b = some (.tup xs) → H' b = some (.tup xs)) : ObjOk P w H' h' a o := by
  induction o with
  | lst xs => obtain ⟨z, its, n, r, e⟩ := x; exact ⟨z, its, n, r, k _ _ (.inl rfl) e⟩
  | tup xs => obtain ⟨z, its, r, ob, e, c⟩ := x; exact ⟨z, its, r, ob, k _ _ (.inl rfl) e, c⟩
  | dK kvs => obtain ⟨z, y, vs, r, ob, es, ep, e, c⟩ := x; exact ⟨z, y, vs, r, ob, es, ep, k _ _ (.inl rfl) e, c⟩
  | dT kvs =>
    obtain ⟨z, y, xs, r, ob, es, ep, e, c⟩ := x
    exact ⟨z, y, xs, Paired.mapP r fun p q z => ⟨z.1, ht _ _ z.2.1, z.2.2⟩, ob, es, ep, k _ _ (.inl rfl) e, c⟩
  | set S n => obtain ⟨ob, es, ep, t, e, c⟩ := x; exact ⟨ob, es, ep, t, k _ _ (.inl rfl) e, c⟩
  | ins C dx fs =>
    obtain ⟨d, z, ne, e, mA, ⟨od, es, ep, e2, c⟩, r⟩ := x
    exact ⟨ho _ d, z, ne, k _ _ (.inl rfl) e, mA, ⟨od, es, ep, k _ _ (.inr d) e2, c⟩, r⟩
  | own y => obtain ⟨ob, e⟩ := x; exact ⟨ob, k _ _ (.inl rfl) e⟩
  | xd fs => obtain ⟨mA, ⟨od, es, ep, e, c⟩, r⟩ := x; exact ⟨mA, ⟨od, es, ep, k _ _ (.inl rfl) e, c⟩, r⟩
  | rng lo hi => obtain ⟨t, u, v, e⟩ := x; exact ⟨t, u, v, k _ _ (.inl rfl) e⟩
  | frz ob u ih => obtain ⟨e, q⟩ := x; exact ⟨k _ _ (.inl rfl) e, ih q⟩
  | tbl ps =>
    have e : h.get? a = some { cls := .none, data := .fields ps } := x
    show h'.get? a = some { cls := .none, data := .fields ps }
    exact k a _ (.inl rfl) e
  | met f y =>
    have e : h.get? a = some (PySem.W.methodObj (.ref f) (.ref y)) := x
    show h'.get? a = some (PySem.W.methodObj (.ref f) (.ref y))
    exact k a _ (.inl rfl) e
  | ext φ => obtain ⟨p, ⟨o, e⟩, st⟩ := x; exact ⟨st _ _ p fun o q => k _ _ (.inl rfl) q, ⟨o, k _ _ (.inl rfl) e⟩, st⟩
theorem HOk.lt (x : HOk P w H h) (e : H a = some o) : a < h.objs.size := (x a o e).lt
theorem HOk.fresh (x : HOk P w H h) (e : h.objs.size ≤ a) : H a = none := by
  cases q : H a with
  | none => rfl
  | some u => exact absurd (Nat.lt_of_lt_of_le (x.lt q) e) (Nat.lt_irrefl _)
/-  every object of the heap is kept -/
theorem HOk.kept (x : HOk P w H h) (k : ∀ b u, h.get? b = some u → h'.get? b = some u) : HOk P w H h' := fun a o e =>
  (x a o e).stay (fun b u _ q => k b u q) (fun _ q => q) fun _ _ q => q
/-  a new object is laid and tracked -/
theorem HOk.laid (x : HOk P w H h) (k : ∀ b u, h.get? b = some u → h'.get? b = some u) (hp : h.objs.size ≤ a) (new : ObjOk P w (upd H a o) h' a o) : HOk P w (upd H a o) h' := fun b u e => by
  have hn := x.fresh hp
  by_cases hb : b = a
  · subst hb; rw [upd_same] at e; cases e; exact new
  · rw [upd_ne hb] at e
    exact (x b u e).stay (fun c v _ q => k c v q) (fun c q => by rw [upd_ne (ne_of_none q hn)]; exact q) fun c xs q => by rw [upd_ne (ne_of_none q hn)]; exact q
end

/-  what may be read as u: it is u, or a known u -/
def Rd (H : Hp) (a : Addr) (u : HO) : Prop := H a = some u ∨ ∃ o, H a = some (.frz o u)
theorem Rd.ok {P : Program} {w : World} {H : Hp} {h : Heap} {a : Addr} {u : HO} (r : Rd H a u) (x : HOk P w H h) : ObjOk P w H h a u := by
  rcases r with r | ⟨o, r⟩
  · exact x a u r
  · obtain ⟨_, q⟩ := x a _ r
    exact q
/-  what may be written -/
def Mut : Option HO → Prop
  | some (.lst _) => True
  | some (.dK _) => True
  | some (.dT _) => True
  | some (.set _ _) => True
  | some (.ins _ _ _) => True
  | some (.ext _) => True
  | _ => False
section
variable {P : Program} {w : World} {H : Hp} {h h' : Heap} {x e : Addr} {o' : HO}
/-  the object at e is changed: x itself, or the dict of the instance x -/
theorem HOk.write (ok : HOk P w H h) (mu : Mut (H x)) (he : e = x ∨ H e = some (.own x)) (k : ∀ b u, b ≠ e → h.get? b = some u → h'.get? b = some u) (heo : ∃ u, h'.get? e = some u)
    (new : ObjOk P w (upd H x o') h' x o') : HOk P w (upd H x o') h' := fun b u q => by
  have nown : ∀ c y, H c = some (.own y) → c ≠ x := fun c y r z => by subst z; rw [r] at mu; exact mu
  have ntup : ∀ c xs, H c = some (.tup xs) → c ≠ x := fun c xs r z => by subst z; rw [r] at mu; exact mu
  by_cases hb : b = x
  · subst hb; rw [upd_same] at q; cases q; exact new
  · rw [upd_ne hb] at q
    by_cases hbe : b = e
    · have q' : H b = some (.own x) := by
        rcases he with z | z
        · exact absurd (hbe.trans z) hb
        · rw [hbe]; exact z
      rw [q] at q'; cases q'
      obtain ⟨v, hv⟩ := heo
      exact ⟨v, by rw [hbe]; exact hv⟩
    · refine (ok b u q).stay (fun c v hc r => k c v ?_ r) (fun c r => by rw [upd_ne (nown c b r)]; exact r) fun c xs r => by rw [upd_ne (ntup c xs r)]; exact r
      rcases hc with rfl | hc
      · exact hbe
      · rintro rfl
        rcases he with z | z
        · exact nown c b hc z
        · rw [hc] at z; cases z; exact hb rfl
end

/-! ### kept unless tracked; of the frames at fs (the callers') the slots may change (an exception that passes writes there); of the records at ex (iterators) nothing is said -/
structure Un (fs ex : List Addr) (H H' : Hp) (h h' : Heap) : Prop where
  keep : ∀ b o, h.get? b = some o → H b = none → b ∉ fs → b ∉ ex → h'.get? b = some o
  slot : ∀ b o, h.get? b = some o → H b = none → b ∈ fs → b ∉ ex → ∃ sl, h'.get? b = some { o with slots := sl }
  free : ∀ b o, h.get? b = some o → H b = none → b ∉ ex → H' b = none
  there : ∀ b o, h.get? b = some o → b ∉ ex → ∃ o', h'.get? b = some o'
  tups : ∀ b xs, H b = some (.tup xs) → H' b = some (.tup xs)
  frzs : ∀ b o u, H b = some (.frz o u) → H' b = some (.frz o u)
  tbls : ∀ b ps, H b = some (.tbl ps) → ∃ more, H' b = some (.tbl (ps ++ more))
section
variable {fs fs' ex ex' : List Addr} {H H1 H2 : Hp} {h h1 h2 h' : Heap} {a x e : Addr} {o : HO}
theorem Un.any (u : Un fs ex H H1 h h1) {b : Addr} {ob : Obj} (q : h.get? b = some ob) (n : H b = none) (hx : b ∉ ex) : ∃ sl, h1.get? b = some { ob with slots := sl } := by
  by_cases hb : b ∈ fs
  · exact u.slot b ob q n hb hx
  · exact ⟨ob.slots, u.keep b ob q n hb hx⟩
theorem Un.kept (k : ∀ b u, h.get? b = some u → h'.get? b = some u) : Un fs ex H H h h' :=
  ⟨fun b ob q _ _ _ => k b ob q, fun b ob q _ _ _ => ⟨ob.slots, k b ob q⟩, fun _ _ _ n _ => n, fun b ob q _ => ⟨ob, k b ob q⟩, fun _ _ q => q, fun _ _ _ q => q, fun _ ps q => ⟨#[], by rw [q]; simp⟩⟩
theorem Un.refl : Un fs ex H H h h := Un.kept fun _ _ q => q
theorem Un.laid (k : ∀ b u, h.get? b = some u → h'.get? b = some u) (hp : h.objs.size ≤ a) (hn : H a = none) : Un fs ex H (upd H a o) h h' where
  keep := fun b u q _ _ _ => k b u q
  slot := fun b u q _ _ _ => ⟨u.slots, k b u q⟩
  free := fun b u q n _ => by rw [upd_ne (Nat.ne_of_lt (Nat.lt_of_lt_of_le (Heap.lt_size q) hp))]; exact n
  there := fun b u q _ => ⟨u, k b u q⟩
  tups := fun b xs q => by rw [upd_ne (ne_of_none q hn)]; exact q
  frzs := fun b u xs q => by rw [upd_ne (ne_of_none q hn)]; exact q
  tbls := fun b ps q => ⟨#[], by rw [upd_ne (ne_of_none q hn), q]; simp⟩
theorem Un.write (mu : Mut (H x)) (he : e = x ∨ H e = some (.own x)) (k : ∀ b u, b ≠ e → h.get? b = some u → h'.get? b = some u) (heo : ∃ u, h'.get? e = some u) : Un fs ex H (upd H x o) h h' := by
  have hx : ∀ b, H b = none → b ≠ x := fun b n z => by subst z; rw [n] at mu; exact mu
  have hb : ∀ b, H b = none → b ≠ e := fun b n z => by
    subst z
    rcases he with r | r
    · exact hx b n r
    · rw [n] at r; cases r
  have hm : ∀ b u, H b = some u → ¬ Mut (some u) → b ≠ x := fun b u q nm z => by subst z; rw [q] at mu; exact nm mu
  refine ⟨fun b u q n _ _ => k b u (hb b n) q, fun b u q n _ _ => ⟨u.slots, k b u (hb b n) q⟩, fun b u q n _ => by rw [upd_ne (hx b n)]; exact n, fun b u q _ => ?_,
    fun b xs q => by rw [upd_ne (hm b _ q fun z => z)]; exact q, fun b u xs q => by rw [upd_ne (hm b _ q fun z => z)]; exact q, fun b ps q => ⟨#[], by rw [upd_ne (hm b _ q fun z => z), q]; simp⟩⟩
  by_cases hbe : b = e
  · subst hbe; exact heo
  · exact ⟨u, k b u hbe q⟩
end

/-! ### the heap without what is tracked -/
def trk (h : Heap) (H : Hp) : List Addr := (List.range h.objs.size).filter fun a => (H a).isSome
def hidT (h : Heap) (H : Hp) : Heap := PySem.W.hideAll h (trk h H)
theorem hidT_size (h : Heap) (H : Hp) : (hidT h H).objs.size = h.objs.size := PySem.W.hideAll_size _ _
theorem hidT_get {h : Heap} {H : Hp} {b : Addr} {o : Obj} (e : h.get? b = some o) (n : H b = none) : (hidT h H).get? b = some o :=
  PySem.W.hideAll_get _ e fun hm => by
    have q : (H b).isSome = true := (List.mem_filter.mp hm).2
    rw [n] at q; simp at q
theorem of_hidT {h : Heap} {H : Hp} {b : Addr} {o : Obj} (e : (hidT h H).get? b = some o) : h.get? b = some o ∧ H b = none := by
  have e' : h.get? b = some o := PySem.W.of_hideAll (trk h H) e
  refine ⟨e', ?_⟩
  cases q : H b with
  | none => rfl
  | some x =>
    have hm : b ∈ trk h H := List.mem_filter.mpr ⟨List.mem_range.mpr (Heap.lt_size e'), by simp [q]⟩
    have z : (hidT h H).get? b = none := PySem.W.hideAll_none (trk h H) hm
    rw [z] at e; cases e

/-! ### OpenK's ledger, filled with every new object but one -/
end L2

namespace L2
open PySem PySem.Spec PyProof.Rows

/-  the module's facts, over the base: the heap at the law's entry without what is tracked there -/
structure Mod (K : PySem.W.Frag) (mg : Str → Option Value) (base : Heap) : Prop where
  kin : K.In base
  glob : base.Ns mainGlobals mg
  blt : ∃ mb, base.Ns builtinsNs mb ∧ ∀ x : Str, x ≠ "__name__" → mb x = bootBuiltins x
  nolimit : base.NoLimit

/-  the context: a def's body (or a comprehension's block) running. base: fixed through the whole law; s₀, H₀: the entry; outer: the frames whose slots others may change (a def's callers); stack: all frames that run;
   ex: iterators that were made ahead of the entry and are walked here (a comprehension's); fn: the names whose cells were made at the entry (a def: all; a comprehension's block: its own); calm: not within an except suite; pn: pins that every state bears; xe: what is wanted of an exception that leaves the code -/
structure Cx where
  prog : Program
  w : World
  K : PySem.W.Frag
  mg : Str → Option Value
  base : Heap
  A : Around
  N : List Str
  s₀ : Shared
  H₀ : Hp
  env : Env
  outer : List Env
  stack : List Env
  ex : List Addr
  fn : Str → Bool
  calm : Bool
  pn : List (Addr × Obj)
  xe : Value → Shared → Prop
/-  the callers' frames -/
def frs (l : List Env) : List Addr := l.filterMap (·.frame)
abbrev Cx.fs (X : Cx) : List Addr := frs X.outer

def Vis (sc : Scope) (x : Str) : Prop := sc.names.lookup x = some .local ∨ sc.names.lookup x = some .cell ∨ sc.names.lookup x = some .free
def Loc (sc : Scope) (x : Str) : Prop := sc.names.lookup x = some .local ∨ sc.names.lookup x = some .cell
def Look (env : Env) (h : Heap) (m : Str → Option Value) (x : Str) (u : Value) : Prop :=
  (env.kindOf x = some .local ∧ m x = some u) ∨ ((env.kindOf x = some .cell ∨ env.kindOf x = some .free) ∧ ∃ c, env.cells.lookup x = some c ∧ h.IsCell c (some u))

structure Cx.Ok (X : Cx) : Prop where
  mod : Mod X.K X.mg X.base
  kind : X.env.scope.kind = .function
  glob : X.env.globals = mainGlobals
  blt : X.env.builtins = builtinsNs
  above : X.s₀.heap.objs.size ≤ X.env.locals
  inj : ∀ x y c, X.env.cells.lookup x = some c → X.env.cells.lookup y = some c → x = y
  has : ∀ x, (X.env.kindOf x = some .cell ∨ X.env.kindOf x = some .free) → ∃ c, X.env.cells.lookup x = some c
  cab : ∀ x c, X.fn x = true → X.env.cells.lookup x = some c → X.s₀.heap.objs.size ≤ c
  hd : X.calm = true → X.A.handled = none
  frames : X.A.frames = some X.stack
  stk : X.stack = X.outer ∨ (X.stack = X.env :: X.outer ∧ X.env.frame = some X.env.locals)
  exf : ∀ b ∈ X.ex, b ≠ X.env.locals ∧ ∀ x c, X.env.cells.lookup x = some c → c ≠ b
  bs : ∀ b o, X.base.get? b = some o → X.s₀.heap.get? b = some o ∧ X.H₀ b = none
  bsz : X.base.objs.size ≤ X.s₀.heap.objs.size
  noex : ∀ b o, X.base.get? b = some o → b ∉ X.ex
  exfs : ∀ b ∈ X.ex, b ∉ X.fs
  funs : X.s₀.heap.FunFrames X.base X.outer
  frf : ∀ b ∈ X.fs, X.H₀ b = none

structure Inv (X : Cx) (pins : List (Addr × Obj)) (σ : List (Option V)) (H : Hp) (s : Shared) : Prop where
  ok : X.Ok
  os : s.os = X.s₀.os
  bare : AllBare s.gens
  base : Un X.fs X.ex X.H₀ H X.s₀.heap s.heap
  loc : ∃ m, s.heap.Ns X.env.locals m ∧ ∀ (i : Nat) (x : Str) (v : V), X.N[i]? = some x → σ[i]? = some (some v) → Vis X.env.scope x → ∃ u, RelV v u ∧ Look X.env s.heap m x u
  cell : ∀ x c, X.env.cells.lookup x = some c → ∃ v, s.heap.IsCell c v
  free : H X.env.locals = none
  freeC : ∀ x c, X.env.cells.lookup x = some c → H c = none
  pin : ∀ p ∈ X.pn ++ pins, s.heap.get? p.1 = some p.2 ∧ H p.1 = none ∧ p.1 ≠ X.env.locals ∧ p.1 ∉ X.fs ∧ ∀ v, p.2.data ≠ .cell v
  hok : HOk X.prog X.w H s.heap
  len : σ.length = X.N.length

section
variable {X : Cx} {pins : List (Addr × Obj)} {σ : List (Option V)} {H H' : Hp} {s : Shared} {h' : Heap}

theorem Cx.Ok.nofr (ok : X.Ok) {b : Addr} {o : Obj} (e : X.base.get? b = some o) : b ∉ X.fs := fun hb => by
  have := (ok.funs.mem hb).1
  rw [e] at this; cases this
theorem Inv.bs (I : Inv X pins σ H s) : ∀ b o, X.base.get? b = some o → s.heap.get? b = some o ∧ H b = none := fun b o e =>
  ⟨I.base.keep b o (I.ok.bs b o e).1 (I.ok.bs b o e).2 (I.ok.nofr e) (I.ok.noex b o e), I.base.free b o (I.ok.bs b o e).1 (I.ok.bs b o e).2 (I.ok.noex b o e)⟩
theorem Inv.bk (I : Inv X pins σ H s) : ∀ b o, X.base.get? b = some o → s.heap.get? b = some o := fun b o e => (I.bs b o e).1
theorem Inv.mod (I : Inv X pins σ H s) : Mod X.K X.mg X.base := I.ok.mod
theorem Inv.kIn (I : Inv X pins σ H s) : X.K.In s.heap := I.ok.mod.kin.keeps I.bk
theorem Inv.lt (I : Inv X pins σ H s) : X.env.locals < s.heap.objs.size := let ⟨_, hn, _⟩ := I.loc; hn.lt
theorem Inv.sz (I : Inv X pins σ H s) : X.s₀.heap.objs.size ≤ s.heap.objs.size := Nat.le_trans I.ok.above (Nat.le_of_lt I.lt)
theorem Inv.nofs (I : Inv X pins σ H s) {a : Addr} (h : s.heap.objs.size ≤ a) : a ∉ X.fs := fun hb => by
  obtain ⟨_, o, ho, _⟩ := I.ok.funs.mem hb
  exact absurd (Nat.lt_of_lt_of_le (Heap.lt_size ho) (Nat.le_trans I.sz h)) (Nat.lt_irrefl _)
theorem Inv.cne (I : Inv X pins σ H s) : ∀ x c, X.env.cells.lookup x = some c → c ≠ X.env.locals := fun x c e z => by
  obtain ⟨v, o, ho, hd⟩ := I.cell x c e
  obtain ⟨m, ⟨o', es, ep, ho', hd', _⟩, _⟩ := I.loc
  rw [z, ho'] at ho; cases ho; rw [hd'] at hd; cases hd
theorem Inv.funs (I : Inv X pins σ H s) : s.heap.FunFrames X.base X.outer := by
  have all : ∀ (l : List Env), (∀ b ∈ frs l, b ∈ X.fs) → X.s₀.heap.FunFrames X.base l → s.heap.FunFrames X.base l := by
    intro l
    induction l with
    | nil => intro _ _; trivial
    | cons env r ih =>
      intro hs hl
      obtain ⟨hk, ⟨L, o, hf, hn, ho, hd⟩, hr⟩ := hl
      have hL : L ∈ X.fs := hs L (by unfold frs; rw [List.filterMap_cons, hf]; exact List.mem_cons_self)
      obtain ⟨sl, e⟩ := I.base.slot L o ho (I.ok.frf L hL) hL fun z => I.ok.exfs L z hL
      exact ⟨hk, ⟨L, _, hf, hn, e, hd⟩, ih (fun b hb => hs b (by unfold frs; rw [List.filterMap_cons, hf]; exact List.mem_cons_of_mem _ hb)) hr⟩
  exact all X.outer (fun _ hb => hb) I.ok.funs

/-  the frames that run, for a call -/
theorem Inv.stack (I : Inv X pins σ H s) : s.heap.FunFrames X.base X.stack := by
  rcases I.ok.stk with e | ⟨e, hf⟩
  · rw [e]; exact I.funs
  · rw [e]
    obtain ⟨m, hn, _⟩ := I.loc
    refine .cons (by rw [I.ok.kind]; decide) hf hn ?_ I.funs
    exact Heap.get?_none_of_le (Nat.le_trans I.ok.bsz I.ok.above)
theorem Inv.stkSub (I : Inv X pins σ H s) : ∀ b ∈ frs X.stack, b ∈ X.env.locals :: X.fs := fun b hb => by
  rcases I.ok.stk with e | ⟨e, hf⟩
  · rw [e] at hb; exact List.mem_cons_of_mem _ hb
  · rw [e] at hb
    unfold frs at hb
    rw [List.filterMap_cons, hf] at hb
    exact hb
theorem Inv.stkFree (I : Inv X pins σ H s) : ∀ b ∈ frs X.stack, H b = none := fun b hb => by
  rcases List.mem_cons.mp (I.stkSub b hb) with e | hb
  · rw [e]; exact I.free
  · obtain ⟨_, o, ho, _⟩ := I.ok.funs.mem hb
    exact I.base.free b o ho (I.ok.frf b hb) fun z => I.ok.exfs b z hb

/-  THE STEP: the untracked objects but the frame and the records at ch are kept (the callers' frames up to slots), the frame's map is kept, the new abstract heap is held -/
theorem Inv.step {g' : Array GenState} {t' : Nat} {d' : Drawn} {ch : List Addr} (I : Inv X pins σ H s)
    (hch : ∀ b ∈ ch, (b ∈ X.ex ∨ X.s₀.heap.objs.size ≤ b) ∧ b ≠ X.env.locals ∧ (∀ x c, X.env.cells.lookup x = some c → c ≠ b) ∧ ∀ p ∈ X.pn ++ pins, p.1 ≠ b)
    (keep : ∀ b o, b ≠ X.env.locals → b ∉ X.fs → b ∉ ch → s.heap.get? b = some o → H b = none → h'.get? b = some o)
    (slot : ∀ b o, b ≠ X.env.locals → b ∈ X.fs → b ∉ ch → s.heap.get? b = some o → H b = none → ∃ sl, h'.get? b = some { o with slots := sl }) (free : ∀ b o, b ∉ ch → s.heap.get? b = some o → H b = none → H' b = none)
    (there : ∀ b o, b ∉ ch → s.heap.get? b = some o → ∃ o', h'.get? b = some o')
    (tups : ∀ b xs, H b = some (.tup xs) → H' b = some (.tup xs)) (frzs : ∀ b o u, H b = some (.frz o u) → H' b = some (.frz o u)) (tbls : ∀ b ps, H b = some (.tbl ps) → ∃ more, H' b = some (.tbl (ps ++ more)))
    (ns : ∀ m, s.heap.Ns X.env.locals m → h'.Ns X.env.locals m) (hok : HOk X.prog X.w H' h') (hg : AllBare g') :
    Inv X pins σ H' { s with heap := h', gens := g', drawn := d', toks := t' } := by
  have neL : ∀ b o, X.s₀.heap.get? b = some o → b ≠ X.env.locals := fun b o e => Nat.ne_of_lt (Nat.lt_of_lt_of_le (Heap.lt_size e) I.ok.above)
  have neC : ∀ b o, X.s₀.heap.get? b = some o → b ∉ X.ex → b ∉ ch := fun b o e hx hb => by
    rcases (hch b hb).1 with z | z
    · exact hx z
    · exact absurd (Nat.lt_of_lt_of_le (Heap.lt_size e) z) (Nat.lt_irrefl _)
  have cellK : ∀ x c, X.env.cells.lookup x = some c → ∀ v, s.heap.IsCell c v → h'.IsCell c v := fun x c e v ⟨o, ho, hd⟩ => by
    have nch : c ∉ ch := fun z => (hch c z).2.2.1 x c e rfl
    by_cases hc : c ∈ X.fs
    · obtain ⟨sl, q⟩ := slot c o (I.cne x c e) hc nch ho (I.freeC x c e)
      exact ⟨_, q, hd⟩
    · exact ⟨o, keep c o (I.cne x c e) hc nch ho (I.freeC x c e), hd⟩
  refine ⟨I.ok, I.os, hg, ⟨fun b o e n hb hx => ?_, fun b o e n hb hx => ?_, fun b o e n hx => ?_, fun b o e hx => ?_, fun b xs e => tups b xs (I.base.tups b xs e), fun b o xs e => frzs b o xs (I.base.frzs b o xs e), fun b ps e => ?_⟩, ?_, fun x c e => ?_, ?_, fun x c e => ?_, fun p hp => ?_, hok, I.len⟩
  · exact keep b o (neL b o e) hb (neC b o e hx) (I.base.keep b o e n hb hx) (I.base.free b o e n hx)
  · obtain ⟨sl, e1⟩ := I.base.slot b o e n hb hx
    obtain ⟨sl', e2⟩ := slot b _ (neL b o e) hb (neC b o e hx) e1 (I.base.free b o e n hx)
    exact ⟨sl', e2⟩
  · obtain ⟨o', e1⟩ := I.base.there b o e hx
    exact free b o' (neC b o e hx) e1 (I.base.free b o e n hx)
  · obtain ⟨o', e1⟩ := I.base.there b o e hx
    exact there b o' (neC b o e hx) e1
  · obtain ⟨m1, e1⟩ := I.base.tbls b ps e
    obtain ⟨m2, e2⟩ := tbls b _ e1
    exact ⟨m1 ++ m2, by rw [e2, Array.append_assoc]⟩
  · obtain ⟨m, hn, hl⟩ := I.loc
    refine ⟨m, ns m hn, fun i x v e1 e2 e3 => ?_⟩
    obtain ⟨u, r, l⟩ := hl i x v e1 e2 e3
    refine ⟨u, r, ?_⟩
    rcases l with l | ⟨k, c, e, z⟩
    · exact .inl l
    · exact .inr ⟨k, c, e, cellK x c e _ z⟩
  · obtain ⟨v, z⟩ := I.cell x c e
    exact ⟨v, cellK x c e v z⟩
  · obtain ⟨m, ⟨o, _, _, ho, _⟩, _⟩ := I.loc
    exact free _ o (fun z => (hch _ z).2.1 rfl) ho I.free
  · obtain ⟨v, o, ho, hd⟩ := I.cell x c e
    exact free c o (fun z => (hch c z).2.2.1 x c e rfl) ho (I.freeC x c e)
  · obtain ⟨e, n, ne, nf, d⟩ := I.pin p hp
    have nch : p.1 ∉ ch := fun z => (hch p.1 z).2.2.2 p hp rfl
    exact ⟨keep p.1 p.2 ne nf nch e n, free p.1 p.2 nch e n, ne, nf, d⟩
/-  .. where the frame's own object is kept too -/
theorem Inv.un {t' : Nat} (I : Inv X pins σ H s) (u : Un X.fs [] H H' s.heap h') (hok : HOk X.prog X.w H' h') : Inv X pins σ H' { s with heap := h', toks := t' } := by
  obtain ⟨m, ⟨o, es, ep, ho, r⟩, _⟩ := id I.loc
  obtain ⟨sl, hL⟩ := u.any ho I.free (by simp)
  exact I.step (g' := s.gens) (d' := s.drawn) (ch := []) (fun _ z => nomatch z) (fun b o _ hb _ e n => u.keep b o e n hb (by simp)) (fun b o _ hb _ e n => u.slot b o e n hb (by simp)) (fun b o _ e n => u.free b o e n (by simp)) (fun b o _ e => u.there b o e (by simp)) u.tups u.frzs u.tbls (fun m' hm => by
    obtain ⟨o', es', ep', ho', r'⟩ := hm
    rw [ho] at ho'; cases ho'
    exact ⟨_, es', ep', hL, r'⟩) hok I.bare
/-  behind a call (or a comprehension's block): the slots of this frame may have changed too, the records at ch may have turned -/
theorem Inv.call {g' : Array GenState} {t' : Nat} {d' : Drawn} {ch : List Addr} (I : Inv X pins σ H s) (u : Un (frs X.stack) ch H H' s.heap h') (hok : HOk X.prog X.w H' h') (hg : AllBare g')
    (hch : ∀ b ∈ ch, (b ∈ X.ex ∨ X.s₀.heap.objs.size ≤ b) ∧ b ≠ X.env.locals ∧ (∀ x c, X.env.cells.lookup x = some c → c ≠ b) ∧ ∀ p ∈ X.pn ++ pins, p.1 ≠ b) :
    Inv X pins σ H' { s with heap := h', gens := g', drawn := d', toks := t' } := by
  obtain ⟨m, ⟨o, es, ep, ho, r⟩, _⟩ := id I.loc
  obtain ⟨sl, hL⟩ := u.any ho I.free fun z => (hch _ z).2.1 rfl
  exact I.step (ch := ch) hch (fun b o hL hb hc e n => u.keep b o e n (fun z => (List.mem_cons.mp (I.stkSub b z)).elim hL hb) hc) (fun b o _ _ hc e n => u.any e n hc) (fun b o hc e n => u.free b o e n hc) (fun b o hc e => u.there b o e hc) u.tups u.frzs u.tbls (fun m' hm => by
    obtain ⟨o', es', ep', ho', r'⟩ := hm
    rw [ho] at ho'; cases ho'
    exact ⟨_, es', ep', hL, r'⟩) hok hg
/-  an untracked record of ours (an iterator) has turned -/
theorem Inv.turned {t' : Nat} {it : Addr} (I : Inv X pins σ H s) (k : ∀ b o, b ≠ it → s.heap.get? b = some o → h'.get? b = some o) (hn : H it = none) (hL : it ≠ X.env.locals)
    (h1 : it ∈ X.ex ∨ X.s₀.heap.objs.size ≤ it) (h2 : ∀ x c, X.env.cells.lookup x = some c → c ≠ it) (h3 : ∀ p ∈ X.pn ++ pins, p.1 ≠ it) : Inv X pins σ H { s with heap := h', toks := t' } := by
  have nit : ∀ b u, H b = some u → b ≠ it := fun b u e z => by rw [z, hn] at e; cases e
  refine I.step (g' := s.gens) (d' := s.drawn) (ch := [it]) (fun b hb => ?_) (fun b o _ _ hc e _ => k b o (fun z => hc (by simp [z])) e) (fun b o _ _ hc e _ => ⟨o.slots, k b o (fun z => hc (by simp [z])) e⟩) (fun _ _ _ _ n => n)
    (fun b o hc e => ⟨o, k b o (fun z => hc (by simp [z])) e⟩) (fun _ _ e => e) (fun _ _ _ e => e) (fun b ps e => ⟨#[], by rw [e]; simp⟩) (fun m hm => ?_) (fun b u e => ?_) I.bare
  · have e : b = it := by simpa using hb
    subst e
    exact ⟨h1, hL, h2, h3⟩
  · obtain ⟨o, es, ep, ho, r⟩ := hm
    exact ⟨o, es, ep, k _ o (Ne.symm hL) ho, r⟩
  · refine (I.hok b u e).stay (fun c v hc q => k c v ?_ q) (fun _ q => q) fun _ _ q => q
    rcases hc with z | z
    · rw [z]; exact nit b u e
    · exact nit c _ z
theorem Inv.tok (I : Inv X pins σ H s) (t : Nat) : Inv X pins σ H { s with toks := t } := I.un (h' := s.heap) (t' := t) Un.refl I.hok
/-  all objects kept -/
theorem Inv.kept {t' : Nat} (I : Inv X pins σ H s) (k : ∀ b u, s.heap.get? b = some u → h'.get? b = some u) : Inv X pins σ H { s with heap := h', toks := t' } := I.un (Un.kept k) (I.hok.kept k)
/-  a new object laid and tracked -/
theorem Inv.laid {a : Addr} {o : HO} {t' : Nat} (I : Inv X pins σ H s) (k : ∀ b u, s.heap.get? b = some u → h'.get? b = some u) (hp : s.heap.objs.size ≤ a) (new : ObjOk X.prog X.w (upd H a o) h' a o) :
    Inv X pins σ (upd H a o) { s with heap := h', toks := t' } := I.un (Un.laid k hp (I.hok.fresh hp)) (I.hok.laid k hp new)
/-  an object written -/
theorem Inv.write {x e : Addr} {o : HO} {t' : Nat} (I : Inv X pins σ H s) (mu : Mut (H x)) (he : e = x ∨ H e = some (.own x)) (k : ∀ b u, b ≠ e → s.heap.get? b = some u → h'.get? b = some u) (heo : ∃ u, h'.get? e = some u)
    (new : ObjOk X.prog X.w (upd H x o) h' x o) : Inv X pins σ (upd H x o) { s with heap := h', toks := t' } := I.un (Un.write mu he k heo) (I.hok.write mu he k heo new)
theorem Inv.pins_of {pins' : List (Addr × Obj)} (I : Inv X pins σ H s) (h : ∀ p ∈ pins', s.heap.get? p.1 = some p.2 ∧ H p.1 = none ∧ p.1 ≠ X.env.locals ∧ p.1 ∉ X.fs ∧ ∀ v, p.2.data ≠ .cell v) : Inv X pins' σ H s :=
  ⟨I.ok, I.os, I.bare, I.base, I.loc, I.cell, I.free, I.freeC, fun p hp => (List.mem_append.mp hp).elim (fun z => I.pin p (List.mem_append_left _ z)) (h p), I.hok, I.len⟩

theorem nodup_ix {N : List Str} (hN : N.Nodup) {i j : Nat} {x : Str} (a : N[i]? = some x) (b : N[j]? = some x) : i = j := by
  obtain ⟨h1, e1⟩ := List.getElem?_eq_some_iff.mp a
  obtain ⟨h2, e2⟩ := List.getElem?_eq_some_iff.mp b
  exact (List.getElem_inj hN).mp (e1.trans e2.symm)

/-  a name is stored; what changed -/
theorem store_ok2 {M : Model} {A : Around} {E : Value → Shared → Prop} {i : Nat} {x : Str} {v : V} {u : Value} {Q : Unit → Shared → Prop} (I : Inv X pins σ H s) (hN : X.N.Nodup) (hi : X.N[i]? = some x) (hx : Loc X.env.scope x) (r : RelV v u)
    (h : ∀ s', Inv X pins (σ.set i (some v)) H s' → (∃ a, Heap.SameBut a s.heap s'.heap ∧ (a = X.env.locals ∨ X.env.cells.lookup x = some a)) → Q () s') (hf : X.fn x = true ∨ X.env.scope.names.lookup x = some .local := by first | exact .inl rfl | exact .inr rfl | assumption) : wpAny M A (storeName X.env x u) Q E s := by
  obtain ⟨m, hn, hl⟩ := id I.loc
  have hcls : (X.env.scope.kind == .class || (X.env.scope.kind == .module && X.env.locals != X.env.globals)) = false := by rw [I.ok.kind]; rfl
  have hiσ : i < σ.length := by rw [I.len]; exact (List.getElem?_eq_some_iff.mp hi).1
  have cne := I.cne
  have tracked : ∀ {a : Addr} {h' : Heap}, (∃ o, s.heap.get? a = some o ∧ H a = none) → Heap.SameBut a s.heap h' → HOk X.prog X.w H h' := fun {a h'} ha hs b ob e => by
    obtain ⟨_, _, hfree⟩ := ha
    refine (I.hok b ob e).stay (fun c w' hc q => (hs.2 c ?_).trans q) (fun _ q => q) fun _ _ q => q
    rintro rfl
    rcases hc with rfl | hc
    · rw [hfree] at e; cases e
    · rw [hfree] at hc; cases hc
  rcases hx with hk | hk
  · refine wpAny_storeName_local hk hn (fun h' hn' hs => ?_) hcls
    obtain ⟨oL, _, _, hoL, _⟩ := id hn
    refine h _ ⟨I.ok, I.os, I.bare, ⟨fun b o e n hb hx => ?_, fun b o e n hb hx => ?_, I.base.free, fun b o e hx => ?_, I.base.tups, I.base.frzs, I.base.tbls⟩, ⟨_, hn', fun j y v' e1 e2 e3 => ?_⟩, fun y c e => ?_, I.free, I.freeC, fun p hp => ?_, tracked ⟨oL, hoL, I.free⟩ hs, by simpa using I.len⟩ ⟨_, hs, .inl rfl⟩
    · exact (hs.2 b (Nat.ne_of_lt (Nat.lt_of_lt_of_le (Heap.lt_size e) I.ok.above))).trans (I.base.keep b o e n hb hx)
    · obtain ⟨sl, e1⟩ := I.base.slot b o e n hb hx
      exact ⟨sl, (hs.2 b (Nat.ne_of_lt (Nat.lt_of_lt_of_le (Heap.lt_size e) I.ok.above))).trans e1⟩
    · obtain ⟨o', e1⟩ := I.base.there b o e hx
      exact ⟨o', (hs.2 b (Nat.ne_of_lt (Nat.lt_of_lt_of_le (Heap.lt_size e) I.ok.above))).trans e1⟩
    · by_cases hj : j = i
      · subst hj
        rw [hi] at e1; cases e1
        rw [List.getElem?_set_self hiσ] at e2
        cases e2
        exact ⟨u, r, .inl ⟨hk, by simp⟩⟩
      · rw [List.getElem?_set_ne (Ne.symm hj)] at e2
        obtain ⟨u', r', q⟩ := hl j y v' e1 e2 e3
        refine ⟨u', r', ?_⟩
        rcases q with ⟨k, e⟩ | ⟨k, c, e, z⟩
        · refine .inl ⟨k, ?_⟩
          have : y ≠ x := fun e => hj (nodup_ix hN e1 (e ▸ hi))
          simp [this, e]
        · exact .inr ⟨k, c, e, z.sameBut hs (cne y c e)⟩
    · obtain ⟨w', z⟩ := I.cell y c e
      exact ⟨w', z.sameBut hs (cne y c e)⟩
    · obtain ⟨e, n, ne, nf, d⟩ := I.pin p hp
      exact ⟨(hs.2 p.1 ne).trans e, n, ne, nf, d⟩
  · have hfn : X.fn x = true := by
      rcases hf with z | z
      · exact z
      · rw [z] at hk; cases hk
    obtain ⟨c, hc⟩ := I.ok.has x (.inl hk)
    obtain ⟨w', z⟩ := I.cell x c hc
    refine wpAny_storeName_cell I.ok.kind hk hc z (fun h' hc' hs => ?_)
    obtain ⟨oc, hoc, hocd⟩ := id z
    refine h { s with heap := h' } ⟨I.ok, I.os, I.bare, ⟨fun b o e n hb hx => ?_, fun b o e n hb hx => ?_, I.base.free, fun b o e hx => ?_, I.base.tups, I.base.frzs, I.base.tbls⟩, ⟨m, hn.sameBut hs (Ne.symm (cne x c hc)), fun j y v' e1 e2 e3 => ?_⟩, fun y c' e => ?_, I.free, I.freeC, fun p hp => ?_, tracked ⟨oc, hoc, I.freeC x c hc⟩ hs, by simpa using I.len⟩ ⟨c, hs, .inr hc⟩
    · exact (hs.2 b (Nat.ne_of_lt (Nat.lt_of_lt_of_le (Heap.lt_size e) (I.ok.cab x c hfn hc)))).trans (I.base.keep b o e n hb hx)
    · obtain ⟨sl, e1⟩ := I.base.slot b o e n hb hx
      exact ⟨sl, (hs.2 b (Nat.ne_of_lt (Nat.lt_of_lt_of_le (Heap.lt_size e) (I.ok.cab x c hfn hc)))).trans e1⟩
    · obtain ⟨o', e1⟩ := I.base.there b o e hx
      exact ⟨o', (hs.2 b (Nat.ne_of_lt (Nat.lt_of_lt_of_le (Heap.lt_size e) (I.ok.cab x c hfn hc)))).trans e1⟩
    · by_cases hj : j = i
      · subst hj
        rw [hi] at e1; cases e1
        rw [List.getElem?_set_self hiσ] at e2
        cases e2
        exact ⟨u, r, .inr ⟨.inl hk, c, hc, hc'⟩⟩
      · rw [List.getElem?_set_ne (Ne.symm hj)] at e2
        obtain ⟨u', r', q⟩ := hl j y v' e1 e2 e3
        refine ⟨u', r', ?_⟩
        rcases q with q | ⟨k, c', e, z'⟩
        · exact .inl q
        · refine .inr ⟨k, c', e, z'.sameBut hs ?_⟩
          rintro rfl
          exact hj (nodup_ix hN e1 (I.ok.inj _ _ _ e hc ▸ hi))
    · by_cases hcc : c' = c
      · subst hcc; exact ⟨_, hc'⟩
      · obtain ⟨w2, z2⟩ := I.cell y c' e
        exact ⟨w2, z2.sameBut hs hcc⟩
    · obtain ⟨e, n, ne, nf, d⟩ := I.pin p hp
      refine ⟨(hs.2 p.1 ?_).trans e, n, ne, nf, d⟩
      intro q
      rw [q, hoc] at e
      have q' : oc = p.2 := Option.some.inj e
      exact d w' (by rw [← q']; exact hocd)
theorem store_ok {M : Model} {A : Around} {E : Value → Shared → Prop} {i : Nat} {x : Str} {v : V} {u : Value} {Q : Unit → Shared → Prop} (I : Inv X pins σ H s) (hN : X.N.Nodup) (hi : X.N[i]? = some x) (hx : Loc X.env.scope x) (r : RelV v u)
    (h : ∀ s', Inv X pins (σ.set i (some v)) H s' → Q () s') (hf : X.fn x = true ∨ X.env.scope.names.lookup x = some .local := by first | exact .inl rfl | exact .inr rfl | assumption) : wpAny M A (storeName X.env x u) Q E s :=
  store_ok2 I hN hi hx r (fun s' I' _ => h s' I') hf
/-  behind a call or a block, the state as it is -/
theorem Inv.call' {s' : Shared} {ch : List Addr} (I : Inv X pins σ H s) (ho : s'.os = s.os) (u : Un (frs X.stack) ch H H' s.heap s'.heap) (hok : HOk X.prog X.w H' s'.heap) (hg : AllBare s'.gens)
    (hch : ∀ b ∈ ch, (b ∈ X.ex ∨ X.s₀.heap.objs.size ≤ b) ∧ b ≠ X.env.locals ∧ (∀ x c, X.env.cells.lookup x = some c → c ≠ b) ∧ ∀ p ∈ X.pn ++ pins, p.1 ≠ b) : Inv X pins σ H' s' := by
  obtain ⟨h', g', d', t', o'⟩ := s'
  have e : o' = s.os := ho
  subst e
  exact I.call (g' := g') (t' := t') (d' := d') u hok hg hch
end

/-! ### the judgements -/
/-  an exception: its class, its own dict's address (where it has one), the abstract heap behind it -/
abbrev XK := Value → Option Addr → Hp → Prop
abbrev St := List (Option V)
abbrev VK := V → Hp → Prop
/-  an expression's reading; a test's; an argument list's -/
abbrev TE := St → Hp → VK → Prop
abbrev TT := St → Hp → (Bool → Hp → Prop) → Prop
abbrev TA := St → Hp → (List V → Hp → Prop) → Prop
/-  what is wanted behind a statement -/
structure Ends where
  nx : St → Hp → Prop
  rt : VK
  bk : St → Hp → Prop := fun _ _ => False
  ct : St → Hp → Prop := fun _ _ => False
abbrev TS := Ends → St → Hp → Prop

def EP (X : Cx) (pins : List (Addr × Obj)) (σ : St) (Q : VK) (u : Value) (s' : Shared) : Prop := ∃ v H', Inv X pins σ H' s' ∧ RelV v u ∧ Q v H'
def TP (X : Cx) (pins : List (Addr × Obj)) (σ : St) (Q : Bool → Hp → Prop) (b : Bool) (s' : Shared) : Prop := ∃ H', Inv X pins σ H' s' ∧ Q b H'
def AP (X : Cx) (pins : List (Addr × Obj)) (σ : St) (Q : List V → Hp → Prop) (us : List Value) (s' : Shared) : Prop := ∃ vs H', Inv X pins σ H' s' ∧ Vals vs us ∧ Q vs H'
def SP (X : Cx) (pins : List (Addr × Obj)) (D : Ends) (f : Flow) (s' : Shared) : Prop :=
  match f with
  | .next => ∃ σ' H', Inv X pins σ' H' s' ∧ D.nx σ' H'
  | .brk => ∃ σ' H', Inv X pins σ' H' s' ∧ D.bk σ' H'
  | .cont => ∃ σ' H', Inv X pins σ' H' s' ∧ D.ct σ' H'
  | .ret u => ∃ v σ' H', Inv X pins σ' H' s' ∧ RelV v u ∧ D.rt v H'

def PE (X : Cx) (e : Expr) (t : TE) : Prop :=
  ∀ (pins : List (Addr × Obj)) (s : Shared) (σ : St) (H : Hp) (Q : VK), Inv X pins σ H s → t σ H Q → wpAny (model X.prog X.w) X.A (eval e X.env) (EP X pins σ Q) X.xe s
def PT (X : Cx) (e : Expr) (t : TT) : Prop :=
  ∀ (pins : List (Addr × Obj)) (s : Shared) (σ : St) (H : Hp) (Q : Bool → Hp → Prop), Inv X pins σ H s → t σ H Q → wpAny (model X.prog X.w) X.A (isTrue e X.env (eval e X.env)) (TP X pins σ Q) X.xe s
/-  a test whatever its 'whole' is (and, or) -/
def PW (X : Cx) (e : Expr) (t : TT) : Prop :=
  ∀ (whole : Sem Value) (pins : List (Addr × Obj)) (s : Shared) (σ : St) (H : Hp) (Q : Bool → Hp → Prop), Inv X pins σ H s → t σ H Q → wpAny (model X.prog X.w) X.A (isTrue e X.env whole) (TP X pins σ Q) X.xe s
theorem PW.pt {X : Cx} {e : Expr} {t : TT} (h : PW X e t) : PT X e t := h _
/-  an argument list (no star), from the left -/
def PA (X : Cx) (es : List Expr) (t : TA) : Prop :=
  ∀ (pos : Pos) (pins : List (Addr × Obj)) (s : Shared) (σ : St) (H : Hp) (Q : List V → Hp → Prop), Inv X pins σ H s → t σ H Q → wpAny (model X.prog X.w) X.A (spliced (backTo pos (starEach es X.env))) (AP X pins σ Q) X.xe s
def PS (X : Cx) (st : Stmt) (t : TS) : Prop :=
  ∀ (pins : List (Addr × Obj)) (s : Shared) (σ : St) (H : Hp) (D : Ends), Inv X pins σ H s → t D σ H → wpAny (model X.prog X.w) X.A (exec st X.env) (SP X pins D) X.xe s
def PSs (X : Cx) (st : List Stmt) (t : TS) : Prop :=
  ∀ (pins : List (Addr × Obj)) (s : Shared) (σ : St) (H : Hp) (D : Ends), Inv X pins σ H s → t D σ H → wpAny (model X.prog X.w) X.A (execs st X.env) (SP X pins D) X.xe s
/-  weaken the end -/
theorem thn {α : Type} {t : Sem α} {Q Q' : α → Shared → Prop} {M : Model} {A : Around} {E : Value → Shared → Prop} {s : Shared} (h : wpAny M A t Q E s) (hQ : ∀ a s, Q a s → Q' a s) : wpAny M A t Q' E s := wpAny_mono h hQ fun _ _ x => x
end L2

namespace L2
open PySem PySem.Spec PyProof.Rows
section
variable {X : Cx}


/-! ### names and constants -/
def tVar (i : Nat) : TE := fun σ H Q => ∃ v, σ[i]? = some (some v) ∧ Q v H
def tC (v : V) : TE := fun _ H Q => Q v H
theorem pe_var {i : Nat} {x : Str} {pos : Pos} (hN : X.N[i]? = some x) (hv : Vis X.env.scope x) (hd : (x == ("__debug__" : Str)) = false := by decide) (hcd : (x == ("__classdict__" : Str)) = false := by decide) : PE X (.Name x pos) (tVar i) := by
  intro pins s σ H Q I h
  obtain ⟨v, e, h⟩ := h
  obtain ⟨m, hn, hl⟩ := I.loc
  obtain ⟨u, r, l⟩ := hl i x v hN e hv
  have fin : EP X pins σ Q u s := ⟨v, H, I, r, h⟩
  rcases l with ⟨hk, hm⟩ | ⟨hk, c, hc, hcell⟩
  · exact wpAny_Name (wpAny_loadName_local I.ok.kind hk hn hm fin) hd
  · rcases hk with hk | hk
    · exact wpAny_Name (wpAny_loadName_cell I.ok.kind hk hc hcell fin) hd
    · exact wpAny_Name (wpAny_loadName_free I.ok.kind hk hc hcell fin hcd) hd
theorem pe_int {i j pos} : PE X (.Constant (.int i) j pos) (tC (.int i)) := fun _ _ _ H _ I h => wpAny_Constant_int ⟨.int i, H, I.tok _, ⟨_, rfl⟩, h⟩
theorem pe_bl {b j pos} : PE X (.Constant (.bool b) j pos) (tC (.bl b)) := fun _ _ _ H _ I h => Constant_bool ⟨.bl b, H, I, rfl, h⟩
theorem pe_str {x j pos} : PE X (.Constant (.str x) j pos) (tC (.str x)) := fun _ _ _ H _ I h => Calls.Constant_str ⟨.str x, H, I.tok _, ⟨_, rfl⟩, h⟩

/-  a global name of the def -/
def Gl (X : Cx) (x : Str) : Prop := X.env.kindOf x = some .globalImplicit
theorem ld_glob {E : Value → Shared → Prop} {pins : List (Addr × Obj)} {s : Shared} {σ : St} {H : Hp} {x : Str} {u : Value} {pos : Pos} {Q : Value → Shared → Prop} (I : Inv X pins σ H s) (hg : Gl X x) (hm : X.mg x = some u) (h : Q u s)
    (hd : (x == ("__debug__" : Str)) = false := by decide) : wpAny (model X.prog X.w) X.A (eval (.Name x pos) X.env) Q E s :=
  Calls.Name_function_global I.ok.kind hg (Calls.loadGlobal_global (by rw [I.ok.glob]; exact I.mod.glob.keeps I.bk) hm h) hd
theorem ld_blt {E : Value → Shared → Prop} {pins : List (Addr × Obj)} {s : Shared} {σ : St} {H : Hp} {x : Str} {u : Value} {pos : Pos} {Q : Value → Shared → Prop} (I : Inv X pins σ H s) (hg : Gl X x) (hm : X.mg x = none) (hv : bootBuiltins x = some u) (h : Q u s)
    (hn : x ≠ "__name__" := by decide) (hd : (x == ("__debug__" : Str)) = false := by decide) : wpAny (model X.prog X.w) X.A (eval (.Name x pos) X.env) Q E s := by
  obtain ⟨mb, h1, h2⟩ := I.mod.blt
  exact Calls.Name_function_global I.ok.kind hg (Calls.loadGlobal_builtin (by rw [I.ok.glob]; exact I.mod.glob.keeps I.bk) hm (by rw [I.ok.blt]; exact h1.keeps I.bk) ((h2 x hn).trans hv) h) hd
/-  a module's constant, a class, a function, as a value -/
theorem pe_glob {x : Str} {v : V} {u : Value} {pos : Pos} (hg : Gl X x) (hm : X.mg x = some u) (r : RelV v u) (hd : (x == ("__debug__" : Str)) = false := by decide) : PE X (.Name x pos) (tC v) :=
  fun _ _ _ H _ I h => ld_glob I hg hm ⟨v, H, I, r, h⟩ hd
theorem pe_bltn {x : Str} {v : V} {u : Value} {pos : Pos} (hg : Gl X x) (hm : X.mg x = none) (hv : bootBuiltins x = some u) (r : RelV v u) (hn : x ≠ "__name__" := by decide) (hd : (x == ("__debug__" : Str)) = false := by decide) : PE X (.Name x pos) (tC v) :=
  fun _ _ _ H _ I h => ld_blt I hg hm hv ⟨v, H, I, r, h⟩ hn hd

/-! ### arithmetic -/
variable {a b : Expr} {ta tb : TE} {pos : Pos}

/-! ### comparisons -/
/-  a comparison as a value, as a test -/
def tB (t : TE) : TT := fun σ H Q => t σ H fun x H1 => ∃ c, x = .bl c ∧ Q c H1
/-  an expression whose value is a bool, as a test -/
theorem pt_val {e : Expr} {t : TE} (h : PE X e t) (he : ∀ whole, isTrue e X.env whole = (do let v ← whole; standAt e.pos; holding [v] (truthy v)) := by intro _; rfl) : PT X e (tB t) := by
  intro pins s σ H Q I hw
  refine isTrue_plain (thn (h pins s σ H _ I hw) fun v s1 ⟨x, H1, I1, r1, q1⟩ => ?_) (he _)
  obtain ⟨d, rfl, q⟩ := q1
  cases r1
  exact wpAny_truthy_bool ⟨H1, I1, q⟩

/-! ### and, or, not -/
variable {tA tB' : TT} {rest : List Expr}
def tAnd (t u : TT) : TT := fun σ H Q => t σ H fun c H1 => if c = true then u σ H1 Q else Q false H1
def tOr (t u : TT) : TT := fun σ H Q => t σ H fun c H1 => if c = true then Q true H1 else u σ H1 Q
def tNot (t : TT) : TT := fun σ H Q => t σ H fun c H1 => Q (!c) H1
theorem pw_and1 (ha : PT X a tA) : PW X (.BoolOp .And [a] pos) tA := by
  intro wh pins s σ H Q I h
  refine isTrue_and (thn (ha pins s σ H Q I h) fun c s1 e => ?_)
  cases c with
  | true => exact isTrue_and_nil e
  | false => exact e
theorem pw_or1 (ha : PT X a tA) : PW X (.BoolOp .Or [a] pos) tA := by
  intro wh pins s σ H Q I h
  refine isTrue_or (thn (ha pins s σ H Q I h) fun c s1 e => ?_)
  cases c with
  | false => exact isTrue_or_nil e
  | true => exact e
theorem pw_and (ha : PT X a tA) (hb : PW X (.BoolOp .And (b :: rest) pos) tB') : PW X (.BoolOp .And (a :: b :: rest) pos) (tAnd tA tB') := by
  intro wh pins s σ H Q I h
  refine isTrue_and (thn (ha pins s σ H _ I h) fun c s1 ⟨H1, I1, q1⟩ => ?_)
  cases c with
  | true => exact hb wh pins s1 σ H1 Q I1 q1
  | false => exact ⟨H1, I1, q1⟩
theorem pw_or (ha : PT X a tA) (hb : PW X (.BoolOp .Or (b :: rest) pos) tB') : PW X (.BoolOp .Or (a :: b :: rest) pos) (tOr tA tB') := by
  intro wh pins s σ H Q I h
  refine isTrue_or (thn (ha pins s σ H _ I h) fun c s1 ⟨H1, I1, q1⟩ => ?_)
  cases c with
  | true => exact ⟨H1, I1, q1⟩
  | false => exact hb wh pins s1 σ H1 Q I1 q1
theorem pt_not (ha : PT X a tA) : PT X (.UnaryOp .Not a pos) (tNot tA) := by
  intro pins s σ H Q I h
  exact isTrue_not (ha pins s σ H (fun c H1 => Q (!c) H1) I h)
/-  .. as values (bools) -/
def tAndV (ta tb : TE) : TE := fun σ H Q => ta σ H fun x H1 => ∃ c, x = .bl c ∧ if c = true then tb σ H1 Q else Q (.bl false) H1
def tOrV (ta tb : TE) : TE := fun σ H Q => ta σ H fun x H1 => ∃ c, x = .bl c ∧ if c = true then Q (.bl true) H1 else tb σ H1 Q
def tNotV (ta : TE) : TE := fun σ H Q => ta σ H fun x H1 => ∃ c, x = .bl c ∧ Q (.bl (!c)) H1
theorem pe_one {op} {t : TE} (h : PE X a t) : PE X (.BoolOp op [a] pos) t := fun pins s σ H Q I hw => BoolOp_one (h pins s σ H Q I hw)
theorem pe_and (ha : PE X a ta) (hb : PE X (.BoolOp .And (b :: rest) pos) tb) : PE X (.BoolOp .And (a :: b :: rest) pos) (tAndV ta tb) := by
  intro pins s σ H Q I h
  refine BoolOp_and (thn (ha pins s σ H _ I h) fun v s1 ⟨x, H1, I1, r1, q1⟩ => ?_)
  obtain ⟨c, rfl, q1⟩ := q1
  cases r1
  refine wpAny_truthy_bool ?_
  cases c with
  | true => exact hb pins s1 σ H1 Q I1 q1
  | false => exact ⟨.bl false, H1, I1, rfl, q1⟩
/-  a if t else b -/
def tIf (t : TT) (ta tb : TE) : TE := fun σ H Q => t σ H fun c H1 => if c = true then ta σ H1 Q else tb σ H1 Q
end
end L2

namespace L2
open PySem PySem.Spec PyProof.Rows

/-! ### a list, a tuple that is read: tracked, frozen, or an object of the module -/
def SqL (K : PySem.W.Frag) (H : Hp) (a : Addr) (xs : List V) : Prop :=
  Rd H a (.lst xs) ∨
    ∃ (o : Obj) (its : Array Value) (n : Nat), K.lookup a = some o ∧ o.cls = .type "list" ∧ o.dict = none ∧ o.data = .seq its n ∧ its.size ≤ sizeLine ∧ Vals xs its.toList
def SqT (K : PySem.W.Frag) (H : Hp) (a : Addr) (xs : List V) : Prop :=
  Rd H a (.tup xs) ∨
    ∃ (o : Obj) (its : Array Value) (n : Nat), K.lookup a = some o ∧ o.cls = .type "tuple" ∧ o.data = .seq its n ∧ its.size ≤ sizeLine ∧ Vals xs its.toList
def absV : Value → Option V
  | .none => some .non
  | .bool b => some (.bl b)
  | .int i _ => some (.int i)
  | .str x _ => some (.str x)
  | .bytes b _ => some (.byt b)
  | .float b _ => some (.flt b)
  | .ref a => some (.ref a)
  | .type n => some (.ty n)
  | _ => none
theorem RelV.abs {x : V} {u : Value} (r : RelV x u) : absV u = some x := by
  cases x with
  | non => cases r; rfl
  | bl _ => cases r; rfl
  | int _ => obtain ⟨t, rfl⟩ := r; rfl
  | str _ => obtain ⟨t, rfl⟩ := r; rfl
  | byt _ => obtain ⟨t, rfl⟩ := r; rfl
  | flt _ => obtain ⟨t, rfl⟩ := r; rfl
  | ref _ => cases r; rfl
  | ty _ => cases r; rfl
theorem RelV.inj {x y : V} {u : Value} (r : RelV x u) (q : RelV y u) : x = y := Option.some.inj (r.abs.symm.trans q.abs)
theorem Vals.inj : ∀ {xs ys : List V} {us : List Value}, Vals xs us → Vals ys us → xs = ys
  | _, _, _, .nil, .nil => rfl
  | _, _, _, .cons r t, .cons r' t' => by rw [r.inj r', Vals.inj t t']
section
variable {X : Cx} {pins : List (Addr × Obj)} {σ : St} {H : Hp} {s : Shared} {a : Addr} {xs ys : List V}
theorem SqL.of {K : PySem.W.Frag} (h : H a = some (.lst xs)) : SqL K H a xs := .inl (.inl h)
theorem SqT.of {K : PySem.W.Frag} (h : H a = some (.tup xs)) : SqT K H a xs := .inl (.inl h)
theorem Inv.list (I : Inv X pins σ H s) (h : SqL X.K H a xs) : ∃ its : List Value, Vals xs its ∧ PlainL s.heap a its.toArray ∧ xs.length ≤ sizeLine := by
  rcases h with h | ⟨o, its, n, hk, hc, hd, hs, hz, r⟩
  · obtain ⟨z, its, n, r, e⟩ := h.ok I.hok
    exact ⟨its, r, ⟨_, n, e, rfl, rfl, rfl⟩, z⟩
  · refine ⟨its.toList, r, ⟨o, n, I.kIn a o hk, hc, hd, by simpa using hs⟩, ?_⟩
    have e := r.length
    simp only [Array.length_toList] at e
    omega
theorem Inv.tuple (I : Inv X pins σ H s) (h : SqT X.K H a xs) : ∃ its : List Value, Vals xs its ∧ IsTup s.heap a its.toArray ∧ xs.length ≤ sizeLine := by
  rcases h with h | ⟨o, its, n, hk, hc, hs, hz, r⟩
  · obtain ⟨z, its, r, p⟩ := h.ok I.hok
    exact ⟨its, r, p, z⟩
  · refine ⟨its.toList, r, ⟨o, I.kIn a o hk, hc, n, by simpa using hs⟩, ?_⟩
    have e := r.length
    simp only [Array.length_toList] at e
    omega
theorem Inv.list_inj (I : Inv X pins σ H s) (h : SqL X.K H a xs) (h' : SqL X.K H a ys) : xs = ys := by
  obtain ⟨its, r, ⟨o, n, e, _, _, d⟩, _⟩ := I.list h
  obtain ⟨its', r', ⟨o', n', e', _, _, d'⟩, _⟩ := I.list h'
  rw [e] at e'; cases e'
  rw [d] at d'
  injection d' with d1 _
  have : its = its' := by simpa using congrArg Array.toList d1
  subst this
  exact r.inj r'
end

/-! ### another wish about exceptions -/
abbrev Cx.wish (X : Cx) (E : Value → Shared → Prop) : Cx := { X with xe := E }
/-  no exception leaves -/
abbrev Cx.nox (X : Cx) : Cx := X.wish fun _ _ => False
theorem Cx.Ok.wish {X : Cx} (ok : X.Ok) (E : Value → Shared → Prop) : (X.wish E).Ok :=
  ⟨ok.mod, ok.kind, ok.glob, ok.blt, ok.above, ok.inj, ok.has, ok.cab, ok.hd, ok.frames, ok.stk, ok.exf, ok.bs, ok.bsz, ok.noex, ok.exfs, ok.funs, ok.frf⟩
theorem Cx.Ok.unwish {X : Cx} {E : Value → Shared → Prop} (ok : (X.wish E).Ok) : X.Ok :=
  ⟨ok.mod, ok.kind, ok.glob, ok.blt, ok.above, ok.inj, ok.has, ok.cab, ok.hd, ok.frames, ok.stk, ok.exf, ok.bs, ok.bsz, ok.noex, ok.exfs, ok.funs, ok.frf⟩
section
variable {X : Cx} {pins : List (Addr × Obj)} {σ : St} {H : Hp} {s : Shared} {E : Value → Shared → Prop}
theorem Inv.wish (I : Inv X pins σ H s) (E : Value → Shared → Prop) : Inv (X.wish E) pins σ H s := ⟨I.ok.wish E, I.os, I.bare, I.base, I.loc, I.cell, I.free, I.freeC, I.pin, I.hok, I.len⟩
theorem Inv.unwish (I : Inv (X.wish E) pins σ H s) : Inv X pins σ H s := ⟨I.ok.unwish, I.os, I.bare, I.base, I.loc, I.cell, I.free, I.freeC, I.pin, I.hok, I.len⟩
theorem SP.unwish {D : Ends} {f : Flow} {s' : Shared} (h : SP (X.wish E) pins D f s') : SP X pins D f s' := by
  cases f with
  | next => obtain ⟨σ', H', I, q⟩ := h; exact ⟨σ', H', I.unwish, q⟩
  | brk => obtain ⟨σ', H', I, q⟩ := h; exact ⟨σ', H', I.unwish, q⟩
  | cont => obtain ⟨σ', H', I, q⟩ := h; exact ⟨σ', H', I.unwish, q⟩
  | ret u => obtain ⟨v, σ', H', I, r, q⟩ := h; exact ⟨v, σ', H', I.unwish, r, q⟩
theorem PSs.nox {st : List Stmt} {t : TS} (h : PSs X.nox st t) : PSs X st t := fun pins s σ H D I hw =>
  wpAny_mono (h pins s σ H D (I.wish _) hw) (fun _ _ q => q.unwish) fun _ _ z => False.elim z
end

/-! ### blocks and small statements -/
section
variable {X : Cx} {st : Stmt} {rest : List Stmt} {t u : TS} {e : Expr} {te : TE} {pos : Pos}
def tNext : TS := fun D σ H => D.nx σ H
def tSeq (t u : TS) : TS := fun D σ H => t { D with nx := u D } σ H
theorem pss_nil : PSs X [] tNext := fun _ _ σ H _ I h => wpAny_execs_nil ⟨σ, H, I, h⟩
theorem pss_cons (h1 : PS X st t) (h2 : PSs X rest u) : PSs X (st :: rest) (tSeq t u) := by
  intro pins s σ H D I h
  refine wpAny_execs_cons (thn (h1 pins s σ H { D with nx := u D } I h) fun f s1 q => ?_)
  cases f with
  | next =>
    obtain ⟨σ', H', I', q⟩ := q
    exact h2 pins s1 σ' H' D I' q
  | ret v => exact q
  | brk => exact q
  | cont => exact q
theorem pss_one (h1 : PS X st t) : PSs X [st] t := by
  intro pins s σ H D I h
  refine wpAny_execs_cons (thn (h1 pins s σ H D I h) fun f s1 q => ?_)
  cases f with
  | next => exact wpAny_execs_nil q
  | ret v => exact q
  | brk => exact q
  | cont => exact q
/-  in a def's body nothing is shown -/
theorem Inv.quiet {pins : List (Addr × Obj)} {σ : St} {H : Hp} {s : Shared} (I : Inv X pins σ H s) : interactive X.env = false := by simp [interactive, I.ok.kind]
/-  an expression whose value is dropped -/
def tDrop (te : TE) : TS := fun D σ H => te σ H fun _ H1 => D.nx σ H1
theorem ps_expr (he : PE X e te) (hs : swapsWith e none pos.line X.env = pure false := by rfl) : PS X (.Expr e pos) (tDrop te) := by
  intro pins s σ H D I h
  exact wpAny_Expr_any (thn (he pins s σ H _ I h) fun v s1 ⟨x, H1, I1, r1, q1⟩ => ⟨σ, H1, I1, q1⟩) I.quiet hs
def tRet (te : TE) : TS := fun D σ H => te σ H D.rt
theorem ps_ret (he : PE X e te) : PS X (.Return (some e) pos) (tRet te) := by
  intro pins s σ H D I h
  exact wpAny_Return_some (thn (he pins s σ H _ I h) fun v s1 ⟨x, H1, I1, r1, q1⟩ => ⟨x, σ, H1, I1, r1, q1⟩)
def tRetN : TS := fun D _ H => D.rt .non H
def tIfS (c : TT) (t u : TS) : TS := fun D σ H => c σ H fun b H1 => if b = true then t D σ H1 else u D σ H1
theorem ps_if {c : Expr} {a b : List Stmt} {tc : TT} (hc : PT X c tc) (ha : PSs X a t) (hb : PSs X b u) : PS X (.If c a b pos) (tIfS tc t u) := by
  intro pins s σ H D I h
  refine wpAny_If (thn (hc pins s σ H _ I h) fun d s1 ⟨H1, I1, q1⟩ => ?_)
  cases d with
  | true => exact ha pins s1 σ H1 D I1 q1
  | false => exact hb pins s1 σ H1 D I1 q1
end

/-! ### targets -/
abbrev TG := V → St → Hp → (St → Hp → Prop) → Prop
abbrev TGs := List V → St → Hp → (St → Hp → Prop) → Prop
def PG (X : Cx) (target : Expr) (t : TG) : Prop :=
  ∀ (pins : List (Addr × Obj)) (s : Shared) (σ : St) (H : Hp) (v : V) (u : Value) (Q : St → Hp → Prop), Inv X pins σ H s → RelV v u → t v σ H Q →
    wpAny (model X.prog X.w) X.A (assign target X.env u) (fun _ s' => ∃ σ' H', Inv X pins σ' H' s' ∧ Q σ' H') X.xe s
/-  several targets, one after another -/
def PGs (X : Cx) (ts : List Expr) (t : TGs) : Prop :=
  ∀ (pins : List (Addr × Obj)) (s : Shared) (σ : St) (H : Hp) (vs : List V) (us : List Value) (Q : St → Hp → Prop), Inv X pins σ H s → Vals vs us → t vs σ H Q →
    wpAny (model X.prog X.w) X.A (assignInOrder ((assignEach ts X.env).map (·.2)) us) (fun _ s' => ∃ σ' H', Inv X pins σ' H' s' ∧ Q σ' H') X.xe s
/-  o[i] = v, by values -/
abbrev TSet := V → V → V → Hp → (Hp → Prop) → Prop
def PSet (X : Cx) (t : TSet) : Prop :=
  ∀ (pins : List (Addr × Obj)) (s : Shared) (σ : St) (H : Hp) (o i v : V) (ov iv u : Value) (Q : Hp → Prop), Inv X pins σ H s → RelV o ov → RelV i iv → RelV v u → t o i v H Q →
    wpAny (model X.prog X.w) X.A (setItem ov iv u) (fun _ s' => ∃ H', Inv X pins σ H' s' ∧ Q H') X.xe s
section
variable {X : Cx} {pos : Pos}
def gName (i : Nat) : TG := fun v σ H Q => Q (σ.set i (some v)) H
theorem pg_name {i : Nat} {x : Str} (hN : X.N.Nodup) (hi : X.N[i]? = some x) (hx : Loc X.env.scope x) (hf : X.fn x = true ∨ X.env.scope.names.lookup x = some .local := by first | exact .inl rfl | exact .inr rfl | assumption) : PG X (.Name x pos) (gName i) := by
  intro pins s σ H v u Q I r h
  exact wpAny_assign_Name (store_ok I hN hi hx r (fun s' I' => ⟨_, H, I', h⟩) hf)
def gNil : TGs := fun vs σ H Q => vs = [] ∧ Q σ H
def gCons (t : TG) (u : TGs) : TGs := fun vs σ H Q => ∃ v r, vs = v :: r ∧ t v σ H fun σ' H' => u r σ' H' Q
theorem pgs_nil : PGs X [] gNil := by
  intro pins s σ H vs us Q I r h
  obtain ⟨e, h⟩ := h
  subst e
  cases r
  exact assignInOrder_nil ⟨σ, H, I, h⟩
theorem pgs_cons {e : Expr} {es : List Expr} {t : TG} {u : TGs} (h1 : PG X e t) (h2 : PGs X es u)
    (hs : (assignEach (e :: es) X.env).map (·.2) = assign e X.env :: (assignEach es X.env).map (·.2) := by rfl) : PGs X (e :: es) (gCons t u) := by
  intro pins s σ H vs us Q I r h
  obtain ⟨v, vr, e1, h⟩ := h
  subst e1
  cases r with
  | cons r rr =>
    rw [hs]
    refine assignInOrder_cons (thn (h1 pins s σ H _ _ _ I r h) fun _ s1 ⟨σ1, H1, I1, q1⟩ => ?_)
    exact h2 pins s1 σ1 H1 _ _ Q I1 rr q1
/-  (a, b, ..) = a tuple of that length -/
def gTup (K : PySem.W.Frag) (n : Nat) (t : TGs) : TG := fun v σ H Q => ∃ a xs, v = .ref a ∧ SqT K H a xs ∧ xs.length = n ∧ t xs σ H Q
theorem pg_tup {es : List Expr} {k : Nat} {t : TGs} {n : Nat} (hc : X.calm = true) (h : PGs X es t)
    (hn : (assignEach es X.env).length = n := by rfl) (hst : (assignEach es X.env).findIdx? (·.1) = none := by rfl) : PG X (.Tuple es k pos) (gTup X.K n t) := by
  intro pins s σ H v u Q I r hw
  obtain ⟨a, xs, e1, hq, hl, hw⟩ := hw
  subst e1
  cases r
  obtain ⟨its, rv, ht, hz⟩ := I.tuple hq
  refine assign_Tuple_tuple (I.ok.hd hc) ht (by simp [hn, ← hl, rv.length]) hst fun h' hx => ?_
  have I1 : Inv X pins σ H { s with heap := h' } := I.kept (t' := s.toks) fun b o e => hx b o (Nat.ne_of_lt (Heap.lt_size e)) e
  exact h pins _ σ H xs _ Q I1 (by simpa using rv) hw
/-  target = value -/
def tAsg (te : TE) (g : TG) : TS := fun D σ H => te σ H fun x H1 => g x σ H1 D.nx
theorem ps_asg {tg e : Expr} {te : TE} {g : TG} (he : PE X e te) (hg : PG X tg g) (hs : swapsWithSole [tg] e pos.line X.env = pure false := by rfl) (hw : swappedStores [tg] e X.env = pure none := by rfl)
    (h1 : (assignEach [tg] X.env).map (·.2) = [assign tg X.env] := by rfl) : PS X (.Assign [tg] e pos) (tAsg te g) := by
  intro pins s σ H D I h
  refine wpAny_Assign_stores (thn (he pins s σ H _ I h) fun v s1 ⟨x, H1, I1, r1, q1⟩ => ?_) hs hw
  rw [h1]
  exact thn (hg pins s1 σ H1 x v _ I1 r1 q1) fun _ s2 q => q
/-  name = value -/
theorem ps_set {i : Nat} {x : Str} {e : Expr} {te : TE} {pos' : Pos} (hN : X.N.Nodup) (hi : X.N[i]? = some x) (hx : Loc X.env.scope x) (he : PE X e te) (hs : swapsWith e (some (.Name x pos')) pos.line X.env = pure false := by rfl) (hf : X.fn x = true ∨ X.env.scope.names.lookup x = some .local := by first | exact .inl rfl | exact .inr rfl | assumption) :
    PS X (.Assign [.Name x pos'] e pos) (tAsg te (gName i)) := by
  intro pins s σ H D I h
  refine wpAny_Assign_Name (thn (he pins s σ H _ I h) fun v s1 ⟨y, H1, I1, r1, q1⟩ => ?_) hs
  exact store_ok I1 hN hi hx r1 (fun s2 I2 => ⟨_, H1, I2, q1⟩) hf
end

/-! ### while -/
section
variable {X : Cx} {pos : Pos}
end

/-! ### what a loop or a comprehension walks -/
/-  at turn i: it yields x (the heap may grow), or it stops -/
structure It where
  go : Nat → Hp → Prop
  yld : Nat → Hp → V → Hp → Prop
  stop : Nat → Hp → Prop
/-  the iterator's own objects may turn: they are not the frame's, not pinned, younger than the entry (or a comprehension's own) -/
def FpOk (X : Cx) (pins : List (Addr × Obj)) (H : Hp) (b : Addr) : Prop :=
  H b = none ∧ b ≠ X.env.locals ∧ b ∉ X.fs ∧ (b ∈ X.ex ∨ X.s₀.heap.objs.size ≤ b) ∧ (∀ x c, X.env.cells.lookup x = some c → c ≠ b) ∧ ∀ p ∈ X.pn ++ pins, p.1 ≠ b
theorem Inv.fpOk {X : Cx} {pins : List (Addr × Obj)} {σ : St} {H H' : Hp} {s : Shared} {b : Addr} (I : Inv X pins σ H s) (hb : s.heap.objs.size ≤ b) (hn : H' b = none) : FpOk X pins H' b := by
  refine ⟨hn, Nat.ne_of_gt (Nat.lt_of_lt_of_le I.lt hb), I.nofs hb, .inr (Nat.le_trans I.sz hb), fun x c e z => ?_, fun p hp z => ?_⟩
  · obtain ⟨v, q⟩ := I.cell x c e
    exact absurd (Nat.lt_of_lt_of_le q.lt (by rw [z]; exact hb)) (Nat.lt_irrefl _)
  · exact absurd (Nat.lt_of_lt_of_le (Heap.lt_size (I.pin p hp).1) (by rw [z]; exact hb)) (Nat.lt_irrefl _)
structure Turn (P : Program) (w : World) (K : PySem.W.Frag) (tg : Expr) (J : It) (fp : List Addr) (it : Addr) (tn : Nat → Heap → Prop) : Prop where
  mem : it ∈ fp
  obj : ∀ i h, tn i h → ∀ b ∈ fp, ∃ o, h.get? b = some o ∧ ∀ v, o.data ≠ .cell v
  keep : ∀ i h h', tn i h → (∀ b ∈ fp, ∀ o, h.get? b = some o → h'.get? b = some o) → tn i h'
  item : ∀ (X : Cx), X.prog = P → X.w = w → X.K = K → X.calm = true → ∀ (i : Nat) (pins : List (Addr × Obj)) (s : Shared) (σ : St) (H : Hp) (E : Value → Shared → Prop), Inv X pins σ H s → (∀ b ∈ fp, FpOk X pins H b) → tn i s.heap → J.go i H →
    wpAny (model P w) X.A (pyNext (.ref it)) (fun r s1 => ∃ u, r = some u ∧
      wpAny (model P w) X.A (letOwnedTupleGo tg (.ref it) u) (fun _ s2 => ∃ x H', Inv X pins σ H' s2 ∧ RelV x u ∧ J.yld i H x H' ∧ tn (i + 1) s2.heap ∧ ∀ b ∈ fp, H' b = none) E s1) E s
  done : ∀ (X : Cx), X.prog = P → X.w = w → X.K = K → X.calm = true → ∀ (i : Nat) (pins : List (Addr × Obj)) (s : Shared) (σ : St) (H : Hp) (E : Value → Shared → Prop), Inv X pins σ H s → (∀ b ∈ fp, FpOk X pins H b) → tn i s.heap → J.stop i H →
    wpAny (model P w) X.A (pyNext (.ref it)) (fun r s1 => r = none ∧ Inv X pins σ H s1) E s
  self : ∀ (A : Around) (i : Nat) (s : Shared) (Q : Value → Shared → Prop) (E : Value → Shared → Prop), tn i s.heap → Q (.ref it) s → wpAny (model P w) A (pyIter (.ref it)) Q E s
abbrev TI := St → Hp → (It → Hp → Prop) → Prop
/-  an iterator has come -/
def PIE (X : Cx) (pins : List (Addr × Obj)) (σ : St) (tg : Expr) (R : It → Hp → Prop) (itv : Value) (s2 : Shared) : Prop :=
  ∃ (it : Addr) (fp : List Addr) (tn : Nat → Heap → Prop) (J : It) (H' : Hp), itv = .ref it ∧ Inv X pins σ H' s2 ∧ Turn X.prog X.w X.K tg J fp it tn ∧ tn 0 s2.heap ∧ (∀ b ∈ fp, FpOk X pins H' b) ∧ R J H'
def PI (X : Cx) (tg iter : Expr) (wi : TI) : Prop :=
  ∀ (pins : List (Addr × Obj)) (s : Shared) (σ : St) (H : Hp) (R : It → Hp → Prop), Inv X pins σ H s → wi σ H R →
    wpAny (model X.prog X.w) X.A (eval iter X.env) (fun v s1 => wpAny (model X.prog X.w) X.A (pyIter v) (PIE X pins σ tg R) X.xe s1) X.xe s

/-  the step ahead of the store is nothing for an iterator that keeps no tuple -/
theorem go_of {M : Model} {A : Around} {E : Value → Shared → Prop} {s : Shared} {tg : Expr} {it : Addr} {u : Value} {o : Obj} {n : String} {vs : Array Value} {Q : Unit → Shared → Prop} (ho : s.heap.get? it = some o) (hc : o.cls = .type n) (hd : o.data = .fields vs)
    (hn : ["enumerate", "zip", "dict_itemiterator", "dict_reverseitemiterator", "odict_iterator", "itertools.zip_longest", "itertools.pairwise"].contains n = false) (hQ : Q () s) : wpAny M A (letOwnedTupleGo tg (.ref it) u) Q E s := by
  unfold letOwnedTupleGo
  cases tg <;> first
    | exact wpAny_pure hQ
    | (cases u <;> first
        | exact wpAny_pure hQ
        | (refine wpAny_bind (wpAny_load ho ?_)
           rw [hc, hd]
           show wpAny M A (if (["enumerate", "zip", "dict_itemiterator", "dict_reverseitemiterator", "odict_iterator", "itertools.zip_longest", "itertools.pairwise"].contains n && vs[0]? == some (rawInt _)) = true then _ else _) Q E s
           rw [if_neg (by intro h; rw [hn, Bool.false_and] at h; cases h)]
           exact wpAny_pure hQ))

/-  the list at a, as it stands at each turn (a loop may append to it) -/
def Itl (K : PySem.W.Frag) (a : Addr) : It :=
  ⟨fun i H => ∃ xs x, SqL K H a xs ∧ xs[i]? = some x, fun i H x H' => H' = H ∧ ∀ xs, SqL K H a xs → xs[i]? = some x, fun i H => ∃ xs, SqL K H a xs ∧ xs.length ≤ i⟩
def Itt (K : PySem.W.Frag) (a : Addr) : It :=
  ⟨fun i H => ∃ xs x, SqT K H a xs ∧ xs[i]? = some x, fun i H x H' => H' = H ∧ ∀ xs, SqT K H a xs → xs[i]? = some x, fun i H => ∃ xs, SqT K H a xs ∧ xs.length ≤ i⟩
/-  lo, lo + 1, .. (n of them) -/
def Itr (lo : Int) (n : Nat) : It := ⟨fun i _ => i < n, fun i H x H' => H' = H ∧ x = .int (lo + i), fun i _ => n ≤ i⟩
theorem turn_list {P : Program} {w : World} {K : PySem.W.Frag} {tg : Expr} (a it : Addr) : Turn P w K tg (Itl K a) [it] it (fun i h => h.IsListIter it a i) where
  mem := by simp
  obj := fun i h st b hb => by
    have e : b = it := by simpa using hb
    subst e
    obtain ⟨o, e, c, d⟩ := st
    exact ⟨o, e, fun v z => by rw [d] at z; cases z⟩
  keep := fun i h h' st k => st.at fun o e => k it (by simp) o e
  item := by
    intro X hP hw hK hc i pins s σ H E I hf st hg
    subst hP hw hK
    obtain ⟨xs, x, hq, hx⟩ := hg
    obtain ⟨its, rv, p, hz⟩ := I.list hq
    obtain ⟨u, hu, ru⟩ := rv.get hx
    obtain ⟨f0, f1, f2, f3, f4, f5⟩ := hf it (by simp)
    refine wpAny_pyNext_list_item st p.isList (x := u) (by simpa using hu) fun h' st' sb => ?_
    have I1 : Inv X pins σ H { s with heap := h' } := I.turned (t' := s.toks) (fun b o hb e => (sb.2 b hb).trans e) f0 f1 f3 f4 f5
    obtain ⟨o, e, c, d⟩ := id st'
    exact ⟨u, rfl, go_of (s := { s with heap := h' }) e c d (by decide) ⟨x, H, I1, ru, ⟨rfl, fun ys hy => by rw [I.list_inj hy hq]; exact hx⟩, st', fun b hb => (hf b hb).1⟩⟩
  done := by
    intro X hP hw hK hc i pins s σ H E I hf st hg
    subst hP hw hK
    obtain ⟨xs, hq, hx⟩ := hg
    obtain ⟨its, rv, p, hz⟩ := I.list hq
    obtain ⟨f0, f1, f2, f3, f4, f5⟩ := hf it (by simp)
    have hl := rv.length
    exact wpAny_pyNext_list_end (I.ok.hd hc) st p.isList (by simp; omega) fun h' eb => ⟨rfl, I.turned (t' := s.toks) (fun b o hb e => eb b o hb e) f0 f1 f3 f4 f5⟩
  self := fun _ _ _ _ _ st h => wpAny_pyIter_listiter st h
theorem turn_range {P : Program} {w : World} {K : PySem.W.Frag} {tg : Expr} (it : Addr) (lo : Int) (n : Nat) : Turn P w K tg (Itr lo n) [it] it (fun i h => IsRangeIter h it (lo + (i : Nat) * 1) ((n : Int) - (i : Nat)) 1) where
  mem := by simp
  obj := fun i h st b hb => by
    have e : b = it := by simpa using hb
    subst e
    exact ⟨_, st, fun v z => by
      have z' : Data.fields _ = Data.cell v := z
      cases z'⟩
  keep := fun i h h' st k => k it (by simp) _ st
  item := by
    intro X hP hw hK hc i pins s σ H E I hf st hg
    subst hP hw hK
    obtain ⟨f0, f1, f2, f3, f4, f5⟩ := hf it (by simp)
    have W := Walks.range (prog := X.prog) (w := X.w) (I.ok.hd hc) it lo 1 n
    refine W.item i s _ _ hg st fun v h' tk hv st' kk => ?_
    obtain ⟨t, rfl⟩ := hv
    have I1 : Inv X pins σ H { s with heap := h', toks := tk } := I.turned (fun b o hb e => kk b o (by simpa using hb) e) f0 f1 f3 f4 f5
    refine ⟨_, rfl, go_of (s := { s with heap := h', toks := tk }) (n := "range_iterator") st' rfl rfl (by decide) ⟨.int (lo + i), H, I1, ⟨t, ?_⟩, ⟨rfl, rfl⟩, st', fun b hb => (hf b hb).1⟩⟩
    rw [Int.mul_one]
  done := by
    intro X hP hw hK hc i pins s σ H E I hf st hg
    subst hP hw hK
    obtain ⟨f0, f1, f2, f3, f4, f5⟩ := hf it (by simp)
    exact wpAny_pyNext_range_end (I.ok.hd hc) st (by have : n ≤ i := hg; omega) fun h' eb => ⟨rfl, I.turned (t' := s.toks) (fun b o hb e => eb b o hb e) f0 f1 f3 f4 f5⟩
  self := fun _ _ _ _ _ st h => wpAny_pyIter_rangeiter st h
end L2

namespace L2
open PySem PySem.Spec PyProof.Rows
section
variable {X : Cx} {tg : Expr}
def iList (K : PySem.W.Frag) (tl : TE) : TI := fun σ H R => tl σ H fun x H1 => ∃ a, x = .ref a ∧ (∃ xs, SqL K H1 a xs) ∧ R (Itl K a) H1
def iTup (K : PySem.W.Frag) (tl : TE) : TI := fun σ H R => tl σ H fun x H1 => ∃ a, x = .ref a ∧ (∃ xs, SqT K H1 a xs) ∧ R (Itt K a) H1
theorem pi_list {l : Expr} {tl : TE} (hl : PE X l tl) : PI X tg l (iList X.K tl) := by
  intro pins s σ H R I h
  refine thn (hl pins s σ H _ I h) fun v s1 ⟨x, H1, I1, r1, q1⟩ => ?_
  obtain ⟨a, e, ⟨xs, hq⟩, q⟩ := q1
  subst e
  cases r1
  obtain ⟨its, rv, p, hz⟩ := I1.list hq
  refine wpAny_pyIter_list p.isList ?_
  refine ⟨s1.heap.objs.size, [s1.heap.objs.size], _, _, H1, rfl, I1.kept (t' := s1.toks) fun b o e => Heap.get?_push_of_some _ e, turn_list a _, ⟨_, Heap.get?_push_size _ rfl, rfl, rfl⟩, fun b hb => ?_, q⟩
  have e : b = s1.heap.objs.size := by simpa using hb
  subst e
  exact I1.fpOk (Nat.le_refl _) (I1.hok.fresh (Nat.le_refl _))
/-  a range object just made, walked -/
theorem range_it {pins : List (Addr × Obj)} {σ : St} {H : Hp} {s : Shared} {R : It → Hp → Prop} {E : Value → Shared → Prop} {lo hi : Int} {t u v : Tok} {tk : Nat} (I : Inv X pins σ H s) (h1 : -(2 ^ 62) ≤ lo) (h2 : lo < 2 ^ 62) (h3 : -(2 ^ 62) ≤ hi) (h4 : hi < 2 ^ 62)
    (q : R (Itr lo (hi - lo).toNat) H) : wpAny (model X.prog X.w) X.A (pyIter (.ref s.heap.objs.size)) (PIE X pins σ tg R) E { s with heap := s.heap.push { cls := .type "range", data := .fields #[.int lo t, .int hi u, .int 1 v] }, toks := tk } := by
  refine wpAny_pyIter_range (IsRange.new ..) (small_one h1 h2 h3 h4) ?_
  have I1 : Inv X pins σ H { s with heap := s.heap.push { cls := .type "range", data := .fields #[.int lo t, .int hi u, .int 1 v] }, toks := tk } := I.kept fun b o e => Heap.get?_push_of_some _ e
  refine ⟨(s.heap.push { cls := .type "range", data := .fields #[.int lo t, .int hi u, .int 1 v] }).objs.size, [(s.heap.push { cls := .type "range", data := .fields #[.int lo t, .int hi u, .int 1 v] }).objs.size], _, _, H, rfl,
    I1.kept (t' := tk) fun b o e => Heap.get?_push_of_some _ e, turn_range _ lo (hi - lo).toNat, ?_, fun b hb => ?_, q⟩
  · have e1 : lo + ((0 : Nat) : Int) * 1 = lo := by simp
    have e2 : (((hi - lo).toNat : Nat) : Int) - ((0 : Nat) : Int) = Builtin.Range.rangeSize lo hi 1 := by rw [rangeSize_one]; split <;> omega
    show IsRangeIter _ _ (lo + ((0 : Nat) : Int) * 1) ((((hi - lo).toNat : Nat) : Int) - ((0 : Nat) : Int)) 1
    rw [e1, e2]
    exact Heap.get?_push_size _ rfl
  · have e : b = (s.heap.push { cls := .type "range", data := .fields #[.int lo t, .int hi u, .int 1 v] }).objs.size := by simpa using hb
    subst e
    exact I1.fpOk (Nat.le_refl _) (I1.hok.fresh (Nat.le_refl _))
def iRng1 (ta : TA) : TI := fun σ H R => ta σ H fun vs H1 => ∃ j : Int, vs = [.int j] ∧ -(2 ^ 62) ≤ j ∧ j < 2 ^ 62 ∧ R (Itr 0 j.toNat) H1
def iRng2 (ta : TA) : TI := fun σ H R => ta σ H fun vs H1 => ∃ i j : Int, vs = [.int i, .int j] ∧ (-(2 ^ 62) ≤ i ∧ i < 2 ^ 62 ∧ -(2 ^ 62) ≤ j ∧ j < 2 ^ 62) ∧ R (Itr i (j - i).toNat) H1
theorem pi_range1 {a : Expr} {ta : TA} {p pos : Pos} (hg : Gl X "range") (hm : X.mg "range" = none) (ha : PA X [a] ta) (hs : starEach [a] X.env = [(false, eval a X.env)] := by rfl) : PI X tg (.Call (.Name "range" p) [a] [] pos) (iRng1 ta) := by
  intro pins s σ H R I h
  refine Call_ (ld_blt I hg hm boot_range (PyProof.Rows.callWith_type1 (thn (ha pos pins s σ H _ I h) fun us s1 ⟨vs, H1, I1, r1, q1⟩ => ?_) hs rfl))
  obtain ⟨j, e, q1, q2, q⟩ := q1
  subst e
  cases r1 with
  | cons r rr =>
    cases rr
    obtain ⟨t, rfl⟩ := r
    exact call_range_1 (range_it I1 (by omega) (by omega) q1 q2 (by simpa using q))

/-! ### for -/
/-  W: the invariant by the turn and a measure; N: what the body is to reach -/
def tFor (wi : TI) (g : TG) (tb : TS) : TS := fun D σ H => wi σ H fun J H1 => ∃ W : Nat → Nat → St → Hp → Prop, (∃ m, W 0 m σ H1) ∧ ∀ i m σ H, W i m σ H →
  (J.stop i H ∧ D.nx σ H) ∨ (J.go i H ∧ ∃ N : St → Hp → Prop, (∀ σ' H', N σ' H' → ∃ m', m' < m ∧ W (i + 1) m' σ' H') ∧ ∀ x H', J.yld i H x H' → g x σ H' fun σ2 H2 => tb { D with nx := N, ct := N, bk := D.nx } σ2 H2)
/-  the records at fp as they stand -/
def pinsAt (fp : List Addr) (h : Heap) : List (Addr × Obj) := fp.filterMap fun b => (h.get? b).map fun o => (b, o)
theorem mem_pinsAt {fp : List Addr} {h : Heap} {b : Addr} {o : Obj} (hb : b ∈ fp) (e : h.get? b = some o) : (b, o) ∈ pinsAt fp h := List.mem_filterMap.mpr ⟨b, hb, by rw [e]; rfl⟩
theorem of_pinsAt {fp : List Addr} {h : Heap} {p : Addr × Obj} (hp : p ∈ pinsAt fp h) : p.1 ∈ fp ∧ h.get? p.1 = some p.2 := by
  obtain ⟨b, hb, e⟩ := List.mem_filterMap.mp hp
  cases q : h.get? b with
  | none => rw [q] at e; cases e
  | some o =>
    rw [q] at e
    have e' : (b, o) = p := Option.some.inj e
    subst e'
    exact ⟨hb, q⟩
theorem Inv.pinned {pins : List (Addr × Obj)} {σ : St} {H : Hp} {s : Shared} {fp : List Addr} (I : Inv X pins σ H s) (hf : ∀ b ∈ fp, FpOk X pins H b) (ho : ∀ b ∈ fp, ∃ o, s.heap.get? b = some o ∧ ∀ v, o.data ≠ .cell v) : Inv X (pins ++ pinsAt fp s.heap) σ H s :=
  I.pins_of fun p hp => (List.mem_append.mp hp).elim (fun z => I.pin p (List.mem_append_right _ z)) fun z => by
    obtain ⟨hb, e⟩ := of_pinsAt z
    obtain ⟨f0, f1, f2, _⟩ := hf p.1 hb
    obtain ⟨o, e', d⟩ := ho p.1 hb
    rw [e] at e'; cases e'
    exact ⟨e, f0, f1, f2, d⟩
theorem Inv.unpinned {pins pl : List (Addr × Obj)} {σ : St} {H : Hp} {s : Shared} (I : Inv X (pins ++ pl) σ H s) : Inv X pins σ H s := I.pins_of fun p hp => I.pin p (List.mem_append_right _ (List.mem_append_left _ hp))
theorem ps_for {iter : Expr} {body : List Stmt} {wi : TI} {g : TG} {tb : TS} {pos : Pos} (hp : PassesOwn (model X.prog X.w) X.A X.env X.xe) (hc : X.calm = true) (hi : PI X tg iter wi) (hg : PG X tg g) (hb : PSs X body tb)
    (hs : ∀ x, foldedSetIterable iter X.env x = pure x := by intro _; rfl) : PS X (.For tg iter body [] pos) (tFor wi g tb) := by
  intro pins s σ H D I h
  refine wpAny_For (thn (hi pins s σ H _ I h) fun v s1 h1 => thn h1 fun itv s2 h2 => ?_) hs
  obtain ⟨it, fp, tn, J, H2, e, I2, T, st2, f2, W, ⟨m0, w0⟩, turn⟩ := h2
  subst e
  -- what stays true of the iterator's objects through the loop
  have stat : ∀ {H' : Hp}, (∀ b ∈ fp, H' b = none) → ∀ b ∈ fp, FpOk X pins H' b := fun hn b hb => ⟨hn b hb, (f2 b hb).2⟩
  refine codeAny_forLoop_any (fun n s' => ∃ i σ' H', Inv X pins σ' H' s' ∧ tn i s'.heap ∧ (∀ b ∈ fp, H' b = none) ∧ W i n σ' H') ?_ m0 ⟨0, σ, H2, I2, st2, fun b hb => (f2 b hb).1, w0⟩
  rintro n s3 ⟨i, σ3, H3, I3, st3, fr3, w3⟩
  rcases turn i n σ3 H3 w3 with ⟨stop, qn⟩ | ⟨go, N, hN, step⟩
  · refine wpAny_passesOwn hp (thn (T.done X rfl rfl rfl hc i pins s3 σ3 H3 X.xe I3 (stat fr3) st3 stop) fun r s4 ⟨hr, I4⟩ => ?_)
    subst hr
    exact wpAny_execs_nil ⟨σ3, H3, I4, qn⟩
  · refine wpAny_passesOwn hp (thn (T.item X rfl rfl rfl hc i pins s3 σ3 H3 X.xe I3 (stat fr3) st3 go) fun r s4 ⟨u, hr, h4⟩ => ?_)
    subst hr
    refine wpAny_passesOwn hp (thn h4 fun _ s5 ⟨x, H5, I5, r5, y5, st5, fr5⟩ => ?_)
    have I5' := I5.pinned (stat fr5) (T.obj _ _ st5)
    refine wpAny_passesOwn hp (thn (hg _ s5 σ3 H5 x u _ I5' r5 (step x H5 y5)) fun _ s6 ⟨σ6, H6, I6, q6⟩ => ?_)
    refine wpAny_passesOwn hp (thn (hb _ s6 σ6 H6 _ I6 q6) fun f s7 q7 => ?_)
    have again : ∀ {σ7 : St} {H7 : Hp}, Inv X (pins ++ pinsAt fp s5.heap) σ7 H7 s7 → N σ7 H7 → ∃ m, m < n ∧ ∃ i σ' H', Inv X pins σ' H' s7 ∧ tn i s7.heap ∧ (∀ b ∈ fp, H' b = none) ∧ W i m σ' H' := fun {σ7 H7} I7 n7 => by
      obtain ⟨m', hm, w7⟩ := hN σ7 H7 n7
      refine ⟨m', hm, i + 1, σ7, H7, I7.unpinned, T.keep _ _ _ st5 fun b hb o e => (I7.pin (b, o) (List.mem_append_right _ (List.mem_append_right _ (mem_pinsAt hb e)))).1, fun b hb => ?_, w7⟩
      obtain ⟨o, e, d⟩ := T.obj _ _ st5 b hb
      exact (I7.pin (b, o) (List.mem_append_right _ (List.mem_append_right _ (mem_pinsAt hb e)))).2.1
    cases f with
    | next => obtain ⟨σ7, H7, I7, n7⟩ := q7; exact again I7 n7
    | cont => obtain ⟨σ7, H7, I7, n7⟩ := q7; exact again I7 n7
    | brk => obtain ⟨σ7, H7, I7, q7⟩ := q7; exact ⟨σ7, H7, I7.unpinned, q7⟩
    | ret v => obtain ⟨x7, σ7, H7, I7, r7, q7⟩ := q7; exact ⟨x7, σ7, H7, I7.unpinned, r7, q7⟩
end

/-! ### the forms one uses -/
end L2

namespace L2
open PySem PySem.Spec PyProof.Rows

abbrev R2 := V → V → Hp → VK → Prop
/-  a two-place operation on values: f is binaryOp op, inplaceOp op or compareOp op -/
def OpR (X : Cx) (f : Value → Value → Sem Value) (r : R2) : Prop :=
  ∀ (pins : List (Addr × Obj)) (s : Shared) (σ : St) (H : Hp) (x y : V) (v u : Value) (Q : VK), Inv X pins σ H s → RelV x v → RelV y u → r x y H Q →
    wpAny (model X.prog X.w) X.A (f v u) (EP X pins σ Q) X.xe s
/-  a one-place operation -/
def UnR (X : Cx) (f : Value → Sem Value) (r : V → Hp → VK → Prop) : Prop :=
  ∀ (pins : List (Addr × Obj)) (s : Shared) (σ : St) (H : Hp) (x : V) (v : Value) (Q : VK), Inv X pins σ H s → RelV x v → r x H Q →
    wpAny (model X.prog X.w) X.A (f v) (EP X pins σ Q) X.xe s
/-  a call of a value that is known (a builtin, a type) with values -/
def CallR (X : Cx) (f : Value) (r : List V → Hp → VK → Prop) : Prop :=
  ∀ (pins : List (Addr × Obj)) (s : Shared) (σ : St) (H : Hp) (xs : List V) (us : List Value) (Q : VK), Inv X pins σ H s → Vals xs us → r xs H Q →
    wpAny (model X.prog X.w) X.A (call f us) (EP X pins σ Q) X.xe s

def tOp (r : R2) (ta tb : TE) : TE := fun σ H Q => ta σ H fun x H1 => tb σ H1 fun y H2 => r x y H2 Q
def tUn (r : V → Hp → VK → Prop) (ta : TE) : TE := fun σ H Q => ta σ H fun x H1 => r x H1 Q
/-  ints in, under C, and a value out -/
def rI (C : Int → Int → Prop) (g : Int → Int → V) : R2 := fun x y H Q => ∃ i j, x = .int i ∧ y = .int j ∧ C i j ∧ Q (g i j) H
def rI0 (g : Int → Int → V) : R2 := fun x y H Q => ∃ i j, x = .int i ∧ y = .int j ∧ Q (g i j) H
def rU (g : Int → V) : V → Hp → VK → Prop := fun x H Q => ∃ i, x = .int i ∧ Q (g i) H

section
variable {X : Cx} {a b c : Expr} {ta tb tc : TE} {pos : Pos}

theorem binT (ha : PE X a ta) (hb : PE X b tb) {pins : List (Addr × Obj)} {s : Shared} {σ : St} {H : Hp} {R : V → V → Hp → Prop} (I : Inv X pins σ H s)
    (h : ta σ H fun x H1 => tb σ H1 fun y H2 => R x y H2) {Q : Value → Shared → Prop} {f : Value → Value → Sem Value}
    (hf : ∀ v u s2 x y H2, Inv X pins σ H2 s2 → RelV x v → RelV y u → R x y H2 → wpAny (model X.prog X.w) X.A (f v u) Q X.xe s2) :
    wpAny (model X.prog X.w) X.A (eval a X.env) (fun v s₁ => wpAny (model X.prog X.w) X.A (eval b X.env) (fun u s₂ => wpAny (model X.prog X.w) X.A (f v u) Q X.xe s₂) X.xe s₁) X.xe s := by
  refine thn (ha pins s σ H _ I h) fun v s1 ⟨x, H1, I1, r1, q1⟩ => ?_
  refine thn (hb pins s1 σ H1 _ I1 q1) fun u s2 ⟨y, H2, I2, r2, q2⟩ => ?_
  exact hf v u s2 x y H2 I2 r1 r2 q2

theorem pe_op {op : Operator} {r : R2} (ho : OpR X (binaryOp op) r) (ha : PE X a ta) (hb : PE X b tb) : PE X (.BinOp a op b pos) (tOp r ta tb) := by
  intro pins s σ H Q I h
  exact wpAny_BinOp (binT ha hb I h fun v u s2 x y H2 I2 rx ry q => ho pins s2 σ H2 x y v u Q I2 rx ry q)
theorem pe_un {op : UnaryOp} {r : V → Hp → VK → Prop} (ho : UnR X (unaryOp op) r) (ha : PE X a ta) : PE X (.UnaryOp op a pos) (tUn r ta) := by
  intro pins s σ H Q I h
  exact UnaryOp_ (thn (ha pins s σ H _ I h) fun v s1 ⟨x, H1, I1, r1, q1⟩ => ho pins s1 σ H1 x v Q I1 r1 q1)

/-! ### ints -/
theorem opI {f : Value → Value → Sem Value} {C : Int → Int → Prop} {g : Int → Int → Int}
    (rule : ∀ (i j : Int) (t u : Tok) (s : Shared) (Q : Value → Shared → Prop) (E : Value → Shared → Prop), C i j → Q (.int (g i j) s.toks) { s with toks := s.toks + 1 } → wpAny (model X.prog X.w) X.A (f (.int i t) (.int j u)) Q E s) :
    OpR X f (rI C fun i j => .int (g i j)) := by
  intro pins s σ H x y v u Q I rx ry h
  obtain ⟨i, j, rfl, rfl, hc, q⟩ := h
  obtain ⟨t, rfl⟩ := rx
  obtain ⟨t', rfl⟩ := ry
  exact rule i j t t' s _ _ hc ⟨.int (g i j), H, I.tok _, ⟨_, rfl⟩, q⟩
theorem opI0 {f : Value → Value → Sem Value} {g : Int → Int → Int}
    (rule : ∀ (i j : Int) (t u : Tok) (s : Shared) (Q : Value → Shared → Prop) (E : Value → Shared → Prop), Q (.int (g i j) s.toks) { s with toks := s.toks + 1 } → wpAny (model X.prog X.w) X.A (f (.int i t) (.int j u)) Q E s) :
    OpR X f (rI0 fun i j => .int (g i j)) := by
  intro pins s σ H x y v u Q I rx ry h
  obtain ⟨i, j, rfl, rfl, q⟩ := h
  obtain ⟨t, rfl⟩ := rx
  obtain ⟨t', rfl⟩ := ry
  exact rule i j t t' s _ _ ⟨.int (g i j), H, I.tok _, ⟨_, rfl⟩, q⟩
theorem opB0 {f : Value → Value → Sem Value} {g : Int → Int → Bool}
    (rule : ∀ (i j : Int) (t u : Tok) (s : Shared) (Q : Value → Shared → Prop) (E : Value → Shared → Prop), Q (.bool (g i j)) s → wpAny (model X.prog X.w) X.A (f (.int i t) (.int j u)) Q E s) :
    OpR X f (rI0 fun i j => .bl (g i j)) := by
  intro pins s σ H x y v u Q I rx ry h
  obtain ⟨i, j, rfl, rfl, q⟩ := h
  obtain ⟨t, rfl⟩ := rx
  obtain ⟨t', rfl⟩ := ry
  exact rule i j t t' s _ _ ⟨.bl (g i j), H, I, rfl, q⟩

def CPow (i j : Int) : Prop := 0 ≤ j ∧ j ≤ 1000000 ∧ i.natAbs < 2 ^ 64
def CMul (i j : Int) : Prop := (-(2 ^ 64) < i ∧ i < 2 ^ 64) ∨ (-(2 ^ 64) < j ∧ j < 2 ^ 64)
theorem CMul.ok {i j : Int} (h : CMul i j) : IntMulOk i j := by
  rcases h with ⟨h1, h2⟩ | ⟨h1, h2⟩
  · exact .of_left (intBits_le_64 h1 h2)
  · exact .of_right (intBits_le_64 h1 h2)

theorem op_add : OpR X (binaryOp .Add) (rI0 fun i j => .int (i + j)) := opI0 fun _ _ _ _ _ _ _ q => add_int q
theorem op_sub : OpR X (binaryOp .Sub) (rI0 fun i j => .int (i - j)) := opI0 fun _ _ _ _ _ _ _ q => sub_int q
theorem op_mul : OpR X (binaryOp .Mult) (rI CMul fun i j => .int (i * j)) := opI fun _ _ _ _ _ _ _ hc q => mul_int q hc.ok
/-  % by a positive divisor of any size -/
theorem op_mod : OpR X (binaryOp .Mod) (rI (fun _ j => 0 < j) fun i j => .int (i % j)) := opI fun i j _ _ _ _ _ hc q => by
  have h1 : (0 : Int) < j := hc
  exact mod_int' (by omega) (by rw [Int.fmod_eq_emod_of_nonneg i (by omega)]; exact q)
theorem op_pow : OpR X (binaryOp .Pow) (rI CPow fun i j => .int (i ^ j.toNat)) := opI fun _ _ _ _ _ _ _ hc q => pow_int_small hc.1 hc.2.1 hc.2.2 q


theorem unI {f : Value → Sem Value} {g : Int → Int}
    (rule : ∀ (i : Int) (t : Tok) (s : Shared) (Q : Value → Shared → Prop) (E : Value → Shared → Prop), Q (.int (g i) s.toks) { s with toks := s.toks + 1 } → wpAny (model X.prog X.w) X.A (f (.int i t)) Q E s) :
    UnR X f (rU fun i => .int (g i)) := by
  intro pins s σ H x v Q I rx h
  obtain ⟨i, rfl, q⟩ := h
  obtain ⟨t, rfl⟩ := rx
  exact rule i t s _ _ ⟨.int (g i), H, I.tok _, ⟨_, rfl⟩, q⟩
theorem un_neg : UnR X (unaryOp .USub) (rU fun i => .int (-i)) := unI fun _ _ _ _ _ q => neg_int q

/-! ### bools among ints: n += (a < b) -/
end

/-! ### comparisons -/
/-  the scalars that == tells apart as data does -/
def scal : V → V → Bool
  | .non, .non => true | .non, .int _ => true | .int _, .non => true | .non, .bl _ => true | .bl _, .non => true | .non, .str _ => true | .str _, .non => true
  | .int _, .int _ => true | .bl _, .bl _ => true | .str _, .str _ => true | .byt _, .byt _ => true
  | .int _, .str _ => true | .str _, .int _ => true | .bl _, .str _ => true | .str _, .bl _ => true
  | _, _ => false
def rEq : R2 := fun x y H Q => scal x y = true ∧ Q (.bl (decide (x = y))) H
def rNe : R2 := fun x y H Q => scal x y = true ∧ Q (.bl (!decide (x = y))) H

theorem dec_int {i j : Int} : decide (V.int i = V.int j) = (i == j) := by
  rw [Bool.eq_iff_iff]
  simp
theorem dec_bl {i j : Bool} : decide (V.bl i = V.bl j) = (i == j) := by
  rw [Bool.eq_iff_iff]
  simp
theorem dec_str {i j : Str} : decide (V.str i = V.str j) = (i == j) := by
  rw [Bool.eq_iff_iff]
  simp
theorem dec_byt {i j : Array UInt8} : decide (V.byt i = V.byt j) = (i.toList == j.toList) := by
  rw [Bool.eq_iff_iff]
  cases i
  cases j
  simp

section
variable {X : Cx} {a b c : Expr} {ta tb tc : TE} {pos : Pos}
theorem fin_bl {pins : List (Addr × Obj)} {σ : St} {H : Hp} {s : Shared} {Q : VK} {k k' : Bool} (I : Inv X pins σ H s) (q : Q (.bl k) H) (e : k = k') : EP X pins σ Q (.bool k') s := by
  subst e
  exact ⟨.bl k, H, I, rfl, q⟩
theorem op_eq : OpR X (compareOp .Eq) rEq := by
  intro pins s σ H x y v u Q I rx ry h
  obtain ⟨hs, q⟩ := h
  cases x with
  | non =>
    cases rx
    cases y with
    | non => cases ry; exact PySem.EqNone.eq_none_none (fin_bl I q (by simp))
    | bl j => cases ry; exact PySem.EqNone.eq_none_bool (fin_bl I q (by simp))
    | int j => obtain ⟨t', rfl⟩ := ry; exact PySem.EqNone.eq_none_int (fin_bl I q (by simp))
    | str j => obtain ⟨t', rfl⟩ := ry; exact PySem.EqNone.eq_none_str (fin_bl I q (by simp))
    | _ => exact absurd (show false = true from hs) Bool.false_ne_true
  | bl i =>
    cases rx
    cases y with
    | non => cases ry; exact PySem.EqNone.eq_bool_none (fin_bl I q (by simp))
    | bl j => cases ry; exact eq_bool (fin_bl I q dec_bl)
    | str j => obtain ⟨t', rfl⟩ := ry; exact PySem.EqMixed.eq_bool_str (fin_bl I q (by simp))
    | _ => exact absurd (show false = true from hs) Bool.false_ne_true
  | int i =>
    obtain ⟨t, rfl⟩ := rx
    cases y with
    | non => cases ry; exact PySem.EqNone.eq_int_none (fin_bl I q (by simp))
    | int j => obtain ⟨t', rfl⟩ := ry; exact eq_int (fin_bl I q dec_int)
    | str j => obtain ⟨t', rfl⟩ := ry; exact PySem.EqMixed.eq_int_str (fin_bl I q (by simp))
    | _ => exact absurd (show false = true from hs) Bool.false_ne_true
  | str i =>
    obtain ⟨t, rfl⟩ := rx
    cases y with
    | non => cases ry; exact PySem.EqNone.eq_str_none (fin_bl I q (by simp))
    | bl j => cases ry; exact PySem.EqMixed.eq_str_bool (fin_bl I q (by simp))
    | int j => obtain ⟨t', rfl⟩ := ry; exact PySem.EqMixed.eq_str_int (fin_bl I q (by simp))
    | str j => obtain ⟨t', rfl⟩ := ry; exact eq_str (fin_bl I q dec_str)
    | _ => exact absurd (show false = true from hs) Bool.false_ne_true
  | byt i =>
    obtain ⟨t, rfl⟩ := rx
    cases y with
    | byt j => obtain ⟨t', rfl⟩ := ry; exact PySem.W.eq_bytes (fin_bl I q dec_byt)
    | _ => exact absurd (show false = true from hs) Bool.false_ne_true
  | _ => cases y <;> exact absurd (show false = true from hs) Bool.false_ne_true

theorem op_lt : OpR X (compareOp .Lt) (rI0 fun i j => .bl (decide (i < j))) := opB0 fun _ _ _ _ _ _ _ q => lt_int q
theorem op_le : OpR X (compareOp .LtE) (rI0 fun i j => .bl (decide (i ≤ j))) := opB0 fun _ _ _ _ _ _ _ q => le_int q
theorem op_gt : OpR X (compareOp .Gt) (rI0 fun i j => .bl (decide (j < i))) := opB0 fun _ _ _ _ _ _ _ q => gt_int q




theorem nomark (b : Expr) {op : CmpOp} (h : op ≠ .In := by decide) (h2 : op ≠ .NotIn := by decide) : behindInMarks op b = false := by
  have e1 : (op == CmpOp.In) = false := by cases op <;> first | rfl | exact absurd rfl h
  have e2 : (op == CmpOp.NotIn) = false := by cases op <;> first | rfl | exact absurd rfl h2
  cases b <;> simp [behindInMarks, e1, e2]
/-  a comparison as a value; hm: nomark b, or (for in, not in) by with_unfolding_all rfl -/
theorem pe_cmpR {op : CmpOp} {r : R2} (ho : OpR X (compareOp op) r) (ha : PE X a ta) (hb : PE X b tb) (hm : behindInMarks op b = false) : PE X (.Compare a [op] [b] pos) (tOp r ta tb) := by
  intro pins s σ H Q I h
  exact wpAny_Compare1 (binT ha hb I h fun v u s2 x y H2 I2 rx ry q => ho pins s2 σ H2 x y v u Q I2 rx ry q) hm
/-  a reading of a value as a test -/
def tTest (t : TE) : TT := fun σ H Q => t σ H fun x H' => ∃ k, x = .bl k ∧ Q k H'
theorem pt_cmpR {op : CmpOp} {r : R2} (ho : OpR X (compareOp op) r) (ha : PE X a ta) (hb : PE X b tb) (hm : behindInMarks op b = false) : PT X (.Compare a [op] [b] pos) (tTest (tOp r ta tb)) := by
  intro pins s σ H Q I h
  refine wpAny_isTrue_Compare1 (thn (ha pins s σ H _ I h) fun v s1 ⟨x, H1, I1, r1, q1⟩ => thn (hb pins s1 σ H1 _ I1 q1) fun u s2 ⟨y, H2, I2, r2, q2⟩ =>
    thn (ho pins s2 σ H2 x y v u _ I2 r1 r2 q2) fun c s3 ⟨z, H3, I3, r3, k, e, q3⟩ => ?_) hm
  subst e
  cases r3
  exact wpAny_truthy_bool ⟨H3, I3, q3⟩
/-  a op1 b op2 c -/
def tChain (r r' : R2) (ta tb tc : TE) : TE := fun σ H Q => ta σ H fun x H1 => tb σ H1 fun y H2 => r x y H2 fun z H3 => ∃ k, z = .bl k ∧
  (if k = true then tc σ H3 fun w' H4 => r' y w' H4 Q else Q (.bl false) H3)
theorem pt_chain {op op' : CmpOp} {r r' : R2} (ho : OpR X (compareOp op) r) (ho' : OpR X (compareOp op') r') (ha : PE X a ta) (hb : PE X b tb) (hc : PE X c tc)
    (hm : lastMarks [op, op'] [b, c] = false := by with_unfolding_all rfl) : PT X (.Compare a [op, op'] [b, c] pos) (tTest (tChain r r' ta tb tc)) := by
  intro pins s σ H Q I h
  refine isTrue_chain (thn (ha pins s σ H _ I h) fun v s1 ⟨x, H1, I1, r1, q1⟩ => test_link (thn (hb pins s1 σ H1 _ I1 q1) fun u s2 ⟨y, H2, I2, r2, q2⟩ =>
    thn (ho pins s2 σ H2 x y v u _ I2 r1 r2 q2) fun d s3 ⟨z, H3, I3, r3, k, e, q3⟩ => ?_)) hm
  subst e
  cases r3
  refine wpAny_truthy_bool ?_
  cases k with
  | false =>
    obtain ⟨k', e', q'⟩ := q3
    cases e'
    exact ite_ff ⟨H3, I3, q'⟩
  | true =>
    refine ite_tt (test_last (thn (hc pins s3 σ H3 _ I3 q3) fun w' s4 ⟨z', H4, I4, r4, q4⟩ => thn (ho' pins s4 σ H4 y z' u w' _ I4 r2 r4 q4) fun d' s5 ⟨z2, H5, I5, r5, k2, e2, q5⟩ => ?_))
    subst e2
    cases r5
    exact wpAny_truthy_bool ⟨H5, I5, q5⟩

/-! ### truth -/
theorem line63 : (sizeLine : Nat) < 2 ^ 63 := by rw [sizeLine_eq]; decide

/-! ### strs and bytes -/


/-! ### scalar builtins, by CallR -/
theorem vals1 {x : V} {us : List Value} (r : Vals [x] us) : ∃ u, us = [u] ∧ RelV x u := by
  cases r with
  | cons r1 r2 => cases r2; exact ⟨_, rfl, r1⟩
theorem vals2 {x y : V} {us : List Value} (r : Vals [x, y] us) : ∃ u w', us = [u, w'] ∧ RelV x u ∧ RelV y w' := by
  cases r with
  | cons r1 r2 =>
    cases r2 with
    | cons r3 r4 => cases r4; exact ⟨_, _, rfl, r1, r3⟩
/-  len of a str, a bytes, a list, a tuple -/
def LenV (K : PySem.W.Frag) (x : V) (H : Hp) (n : Nat) : Prop :=
  match x with
  | .str y => y.length ≤ sizeLine ∧ n = y.length
  | .byt y => y.size ≤ sizeLine ∧ n = y.size
  | .ref p => (∃ xs, SqL K H p xs ∧ n = xs.length) ∨ ∃ xs, SqT K H p xs ∧ n = xs.length
  | _ => False
end
end L2

namespace L2
open PySem PySem.Spec PyProof.Rows

/-! ### an instance, its attributes a map -/
structure ObjM (h : Heap) (x dx C : Addr) (mA : Str → Option Value) : Prop where
  obj : h.get? x = some (PySem.W.instObj C dx)
  ns : h.Ns1 dx mA
  ne : dx ≠ x

theorem lookIn_ns {h : Heap} {dx : Addr} {mA : Str → Option Value} (n : h.Ns1 dx mA) : ∃ od, h.get? dx = some od ∧ ∀ name, PySem.W.lookIn name od = some (mA name) := by
  obtain ⟨o, es, ep, ho, hd, hk, _, hm⟩ := n
  refine ⟨o, ho, fun name => ?_⟩
  have e := hm name
  unfold nsFind findBy at e
  rw [← Array.find?_toList] at e
  unfold PySem.W.lookIn
  rw [hd]
  dsimp only
  split
  · rename_i y q
    rw [q] at e
    exact congrArg some e
  · rename_i q
    rw [q] at e
    have a : es.toList.any (·.refKey) = false := by
      rw [List.any_eq_false]
      intro y hy
      obtain ⟨z, t, hkey⟩ := hk y (Array.mem_toList_iff.mp hy)
      simp [DictEntry.refKey, hkey]
    have a' : ¬ es.toList.any (·.refKey) = true := by rw [a]; exact Bool.false_ne_true
    rw [if_neg a']
    exact congrArg some e

theorem ObjM.look {h : Heap} {x dx C : Addr} {mA : Str → Option Value} (I : ObjM h x dx C mA) : ∃ od, PySem.W.InstAt h x (PySem.W.instObj C dx) C (some od) ∧ ∀ name, PySem.W.lookIn name od = some (mA name) :=
  let ⟨od, ho, hl⟩ := lookIn_ns I.ns
  ⟨od, ⟨I.obj, rfl, rfl, ho⟩, hl⟩

section
variable {prog : Program} {w : World} {A : Around} {E : Value → Shared → Prop} {s : Shared} {K : PySem.W.Frag} {x dx C f : Addr} {mA : Str → Option Value} {name : Str} {v : Value}



theorem get_meth {pl : Sem Bool} {Q : Value × List Value → Shared → Prop} (X : K.In s.heap) (I : ObjM s.heap x dx C mA) (hg : PySem.W.plainGet K C name = true)
    (hf : PySem.W.findIn K (.ref C) name = some (some (.ref f))) (ht : PySem.W.isFn K (.ref f) = true) (hv : mA name = none) (h : Q (.ref f, [.ref x]) s) :
    wpAny (model prog w) A (getMethod (.ref x) name pl) Q E s := by
  obtain ⟨od, J, hl⟩ := I.look
  exact PySem.W.method_fn X J (PySem.W.plainGet_of hg).1 (PySem.W.plainGet_of hg).2 hf (beq_iff_eq.mp ht) (by show (PySem.W.lookIn name od).map (·.isSome) = some false; rw [hl, hv]; rfl) h


/-  C(..): the dict at the heap's end, the instance behind it; then its __init__ -/
theorem make_map {R : Result → Shared → Prop} {vs : List Value} {kw : List (Str × Value)} (X : K.In s.heap) (hm : PySem.W.makesIn K C = true)
    (hi : PySem.W.findIn K (.ref C) "__init__" = some (some (.ref f))) (hf : PySem.W.typeIn K (.ref f) = some (.type "function"))
    (h : codeAny (model prog w) (A.under (.builtin "type.__call__" ⟨.ref C :: vs, kw⟩)) (.call (.ref f) ⟨.ref (s.heap.objs.size + 1) :: vs, kw⟩) (PySem.W.InitBack (s.heap.objs.size + 1) R)
      { s with heap := (s.heap.push PySem.W.emptyDict).push (PySem.W.instObj C s.heap.objs.size) }) :
    codeAny (model prog w) A (.call (.ref C) ⟨vs, kw⟩) R s := by
  obtain ⟨hh, g, d, t, os⟩ := s
  exact PySem.W.make_core (PySem.W.makes_of X hm) (PySem.W.looks_findIn X hi) (fun self => PySem.W.bind_fn X self hf) (.inl rfl) h
end

/-! ### the attributes as a list of pairs -/
def putF (f : Str) (v : V) : List (Str × V) → List (Str × V)
  | [] => [(f, v)]
  | (g, x) :: r => if g = f then (g, v) :: r else (g, x) :: putF f v r

theorem RelO.none_of {o : Option Value} (r : RelO none o) : o = none := by
  cases o with
  | none => rfl
  | some u => exact (show False from r).elim

section
variable {P : Program} {w : World} {H H' : Hp} {h h' : Heap} {a C dx : Addr} {fs fs' : List (Str × V)}
theorem ins_get (hok : HOk P w H h) (e : H a = some (.ins C dx fs)) : ∃ mA, ObjM h a dx C mA ∧ (∀ f, RelO (fs.lookup f) (mA f)) ∧ PySem.Within mA (fs.map (·.1)) ∧ fs.length ≤ 1000 ∧ H dx = some (.own a) := by
  obtain ⟨d, z, ne, ob, mA, n, r, q⟩ := (show ObjOk P w H h a (.ins C dx fs) from hok a _ e)
  exact ⟨mA, ⟨ob, n, ne⟩, r, q, z, d⟩
end

/-! ### what of the text a class must have -/
structure Cls (K : PySem.W.Frag) (C : Addr) : Prop where
  pg : PySem.W.plainGet K C Str.empty = true
  hd : PySem.W.hasDictIn K C = true
  po : PySem.W.plainOver K C = true
  sa : PySem.W.findIn K (.ref C) "__setattr__" = some (some (.builtin "object.__setattr__"))
theorem Cls.get {K : PySem.W.Frag} {C : Addr} (c : Cls K C) (f : Str) : PySem.W.plainGet K C f = true := c.pg
/-  no class of it has the name -/
def NoAttr (K : PySem.W.Frag) (C : Addr) (f : Str) : Prop := PySem.W.findIn K (.ref C) f = some none
/-  a constant of the class -/
structure Con (K : PySem.W.Frag) (C : Addr) (f : Str) (v : V) (u : Value) : Prop where
  at_ : PySem.W.findIn K (.ref C) f = some (some u)
  rel : RelV v u
  get : PySem.W.specialIn K u "__get__" = some none
  cp : PySem.W.copiedNames.contains f = false
/-  a method: a plain def of the class or of one above it -/
structure Meth (K : PySem.W.Frag) (C : Addr) (m : Str) (f : Addr) : Prop where
  at_ : PySem.W.findIn K (.ref C) m = some (some (.ref f))
  fn : PySem.W.isFn K (.ref f) = true
  kp : PySem.W.keepIn K (.ref f) = true

section
variable {X : Cx} {pins : List (Addr × Obj)} {σ : St} {H : Hp} {s : Shared} {a C dx : Addr} {fs : List (Str × V)} {f : Str} {v : V} {A : Around} {E : Value → Shared → Prop}



theorem getmeth_ok {m : Str} {g : Addr} {pl : Sem Bool} {Q : Value × List Value → Shared → Prop} (I : Inv X pins σ H s) (e : H a = some (.ins C dx fs)) (c : Cls X.K C) (k : Meth X.K C m g) (l : fs.lookup m = none)
    (h : Q (.ref g, [.ref a]) s) : wpAny (model X.prog X.w) A (getMethod (.ref a) m pl) Q E s := by
  obtain ⟨mA, O, r, _, _, _⟩ := ins_get I.hok e
  have hn : mA m = none := RelO.none_of (by rw [← l]; exact r m)
  exact get_meth I.kIn O (c.get m) k.at_ k.fn hn h


/-  a new instance, tracked, without attributes -/
theorem Inv.made (I : Inv X pins σ H s) : Inv X pins σ (upd (upd H s.heap.objs.size (.own (s.heap.objs.size + 1))) (s.heap.objs.size + 1) (.ins C s.heap.objs.size []))
    { s with heap := (s.heap.push PySem.W.emptyDict).push (PySem.W.instObj C s.heap.objs.size) } := by
  have e1 : (s.heap.push PySem.W.emptyDict).get? s.heap.objs.size = some PySem.W.emptyDict := Heap.get?_push_size s.heap rfl
  have e2 : ((s.heap.push PySem.W.emptyDict).push (PySem.W.instObj C s.heap.objs.size)).get? (s.heap.objs.size + 1) = some (PySem.W.instObj C s.heap.objs.size) := by
    have := Heap.get?_push_size (s.heap.push PySem.W.emptyDict) (o := PySem.W.instObj C s.heap.objs.size) rfl
    rwa [Heap.size_push] at this
  have e3 : (s.heap.push PySem.W.emptyDict).Ns s.heap.objs.size (fun _ => none) := ⟨PySem.W.emptyDict, #[], _, e1, rfl, (fun e he => absurd he (by simp)), fun _ => rfl⟩
  have I1 := I.laid (a := s.heap.objs.size) (o := .own (s.heap.objs.size + 1)) (h' := s.heap.push PySem.W.emptyDict) (t' := s.toks) (fun b u q => Heap.get?_push_of_some _ q) (Nat.le_refl _) ⟨_, e1⟩
  refine I1.laid (a := s.heap.objs.size + 1) (o := .ins C s.heap.objs.size []) (t' := s.toks) (fun b u q => Heap.get?_push_of_some _ q) (Nat.le_of_eq (Heap.size_push _ _)) ?_
  have ne : s.heap.objs.size ≠ s.heap.objs.size + 1 := Nat.ne_of_lt (Nat.lt_succ_self _)
  refine ⟨by rw [upd_ne ne, upd_same], Nat.zero_le _, ne, e2, fun _ => none, (Heap.Ns1.of_empty e3).at fun o q => Heap.get?_push_of_some _ q, fun _ => True.intro, fun y hy => absurd rfl hy⟩

end

/-! ### readings and rules -/
/-  e.f, an attribute of the instance -/
def tFld (K : PySem.W.Frag) (ta : TE) (f : Str) : TE := fun σ H Q => ta σ H fun x H1 => ∃ a C dx fs v, x = .ref a ∧ H1 a = some (.ins C dx fs) ∧ Cls K C ∧ NoAttr K C f ∧ fs.lookup f = some v ∧ Q v H1
/-  e.f = value -/
def sFld (K : PySem.W.Frag) (ta tv : TE) (f : Str) : TS := fun D σ H => tv σ H fun y H1 => ta σ H1 fun x H2 => ∃ a C dx fs, x = .ref a ∧ H2 a = some (.ins C dx fs) ∧ Cls K C ∧ NoAttr K C f ∧ fs.length < 1000 ∧
  D.nx σ (upd H2 a (.ins C dx (putF f y fs)))

section
variable {X : Cx} {o e value : Expr} {f : Str} {pos pos' tpos : Pos} {ta tv : TE}

/-  what is between an instance and its method: the tree of a method call -/
theorem methcall_of {pl : Sem Bool} {m : Str} {apos : Pos} {args : List Expr} {pins : List (Addr × Obj)} {s : Shared} {σ : St} {H : Hp} {Q : Value → Shared → Prop} {te : TE} (he : PE X e te) (I : Inv X pins σ H s)
    (h : te σ H fun x H1 => ∃ a C dx fs g, x = .ref a ∧ H1 a = some (.ins C dx fs) ∧ Cls X.K C ∧ Meth X.K C m g ∧ fs.lookup m = none ∧
      ∀ s1, Inv X pins σ H1 s1 → wpAny (model X.prog X.w) X.A (callWith pos (.ref g) [.ref a] (backTo pos (starEach args X.env)) (backToKw pos (keywordEach [] X.env))) Q X.xe s1)
    (ht : eval (.Call (.Attribute e m apos) args [] pos) X.env = (do
      let ov ← eval e X.env
      standAt apos.atName
      let (f, first) ← holding [ov] (getMethod ov m pl)
      callWith pos f first (backTo pos (starEach args X.env)) (backToKw pos (keywordEach [] X.env)))) :
    wpAny (model X.prog X.w) X.A (eval (.Call (.Attribute e m apos) args [] pos) X.env) Q X.xe s := by
  refine PySem.W.methodCall_KW (pl := pl) (thn (he pins s σ H _ I h) fun u s1 ⟨x, H1, I1, rx, a, C, dx, fs, g, ex, ea, c, k, l, q⟩ => ?_) ht
  subst ex
  obtain rfl : u = Value.ref a := rx
  exact getmeth_ok I1 ea c k l (q s1 I1)
end

/-! ### isinstance -/
section
variable {X : Cx} {pins : List (Addr × Obj)} {σ : St} {H : Hp} {s : Shared} {A : Around} {E : Value → Shared → Prop} {Q : Value → Shared → Prop} {c : Value} {b : Bool}
/-  the type of a value, as the fragment's deciders take it; for an instance its class -/
inductive TyOf (K : PySem.W.Frag) (H : Hp) : V → Value → Prop where
  | non : TyOf K H .non (.type "NoneType")
  | bl (x : Bool) : TyOf K H (.bl x) (.type "bool")
  | int (i : Int) : TyOf K H (.int i) (.type "int")
  | str (x : Str) : TyOf K H (.str x) (.type "str")
  | flt (x : UInt64) : TyOf K H (.flt x) (.type "float")
  | lst {a : Addr} {xs : List V} (e : H a = some (.lst xs)) : TyOf K H (.ref a) (.type "list")
  | frz {a : Addr} {o : Obj} {xs : List V} (e : H a = some (.frz o (.lst xs))) : TyOf K H (.ref a) (.type "list")
  | tup {a : Addr} {xs : List V} (e : H a = some (.tup xs)) : TyOf K H (.ref a) (.type "tuple")
  | dK {a : Addr} {kvs : List (Key × V)} (e : H a = some (.dK kvs)) : TyOf K H (.ref a) (.type "dict")
  | dT {a : Addr} {kvs : List (List NKey × V)} (e : H a = some (.dT kvs)) : TyOf K H (.ref a) (.type "dict")
  | ins {a C dx : Addr} {fs : List (Str × V)} (e : H a = some (.ins C dx fs)) (cl : Cls K C) (ha : PySem.W.findIn K (.ref C) "__class__" = some (some (.builtin "object.__class__")))
      (hn : PySem.W.specialIn K (.builtin "object.__class__") "__get__" = some (some (.builtin "getset_descriptor.__get__"))) (htk : PySem.W.takesIn K (.builtin "object.__class__") = some true)
      (hm : PySem.W.mroIn K C (.type "object") = some true) : TyOf K H (.ref a) (.ref C)
end
end L2

namespace L2
open PySem PySem.Spec PyProof.Rows

/-! ### room -/
structure Room (k : Nat) (A : Around) : Prop where
  hd : A.handled = none
  dp : A.depth + 3 * k + 5 < recursionLimit
  un : A.units + 16 * k + 200 < cLine
theorem Room.mono {j k : Nat} {A : Around} (r : Room k A) (h : j ≤ k) : Room j A := ⟨r.hd, by have := r.dp; omega, by have := r.un; omega⟩
theorem Room.deeper {k : Nat} {A : Around} (r : Room (k + 1) A) (env : Env) : Room k (A.deeper env) :=
  ⟨r.hd, by have := r.dp; show A.depth + 1 + 3 * k + 5 < _; omega, by have := r.un; show A.units + 3 + 16 * k + 200 < _; omega⟩
theorem Room.depth {k : Nat} {A : Around} (r : Room k A) : A.depth < recursionLimit := by have := r.dp; omega
theorem Room.units {k : Nat} {A : Around} (r : Room k A) : A.units + 64 < cLine := by have := r.un; omega

/-! ### argument lists and displays -/
def tNil : TA := fun _ H Q => Q [] H
def tCons (ta : TE) (tr : TA) : TA := fun σ H Q => ta σ H fun x H1 => tr σ H1 fun xs H2 => Q (x :: xs) H2
section
variable {X : Cx} {e : Expr} {es : List Expr} {te : TE} {t : TA} {pos : Pos}
theorem pa_nil : PA X [] tNil := fun _ _ _ _ H Q I h => Calls.spliced_nil ⟨[], H, I, .nil, h⟩
theorem pa_cons (ha : PE X e te) (hr : PA X es t) (hs : starEach (e :: es) X.env = (false, eval e X.env) :: starEach es X.env := by rfl) : PA X (e :: es) (tCons te t) := by
  intro pos pins s σ H Q I h
  rw [hs]
  show wpAny _ _ (spliced ((false, eval e X.env) :: backTo pos (starEach es X.env))) _ _ s
  refine Calls.spliced_cons (thn (ha pins s σ H _ I h) fun u s1 ⟨x, H1, I1, r1, q1⟩ => ?_)
  exact thn (hr pos pins s1 σ H1 _ I1 q1) fun us s2 ⟨xs, H2, I2, r2, q2⟩ => ⟨x :: xs, H2, I2, .cons r1 r2, q2⟩

/-  a tuple, a list of written items -/
def tTup (t : TA) : TE := fun σ H Q => t σ H fun xs H1 => xs.length ≤ sizeLine ∧ ∀ p, H1 p = none → Q (.ref p) (upd H1 p (.tup xs))
def tLst (t : TA) : TE := fun σ H Q => t σ H fun xs H1 => xs.length ≤ sizeLine ∧ ∀ p, H1 p = none → Q (.ref p) (upd H1 p (.lst xs))
theorem pe_tup {x1} (h : PA X es t) : PE X (.Tuple es x1 pos) (tTup t) := by
  intro pins s σ H Q I hq
  refine wpAny_Tuple_spliced (thn (h pos pins s σ H _ I hq) fun us s1 ⟨xs, H1, I1, r, z, q⟩ => ⟨by rw [← r.length]; exact z, ?_⟩)
  have hf : H1 s1.heap.objs.size = none := I1.hok.fresh (Nat.le_refl _)
  refine ⟨.ref s1.heap.objs.size, upd H1 s1.heap.objs.size (.tup xs), I1.laid (t' := s1.toks) (fun b u e => Heap.get?_push_of_some _ e) (Nat.le_refl _) ?_, rfl, q _ hf⟩
  exact ⟨z, us, r, ⟨_, Heap.get?_push_size _ rfl, rfl, _, rfl⟩⟩
theorem pe_lst (h : PA X es t) : PE X (.List es pos) (tLst t) := by
  intro pins s σ H Q I hq
  refine wpAny_List_spliced (thn (h pos pins s σ H _ I hq) fun us s1 ⟨xs, H1, I1, r, z, q⟩ => ⟨by rw [← r.length]; exact z, ?_⟩)
  have hf : H1 s1.heap.objs.size = none := I1.hok.fresh (Nat.le_refl _)
  refine ⟨.ref s1.heap.objs.size, upd H1 s1.heap.objs.size (.lst xs), I1.laid (t' := s1.toks) (fun b u e => Heap.get?_push_of_some _ e) (Nat.le_refl _) ?_, rfl, q _ hf⟩
  exact ⟨z, us, 0, r, Heap.get?_push_size _ rfl⟩
end

/-! ### what a def promises -/
/-  a def's promise: the bound arguments in the parameters' order, the heap, the wanted end, the wanted exception -/
abbrev Sp := List V → Hp → VK → XK → Prop
/-  how an exception lies behind a call (file 08 gives it): the callers' frames, abstract heap and state ahead of the call, the wish, the exception, the state -/
abbrev CXT := List Env → Hp → Shared → XK → Value → Shared → Prop

/-  the state at a call -/
structure Env0 (P : Program) (w : World) (K : PySem.W.Frag) (mg : Str → Option Value) (base : Heap) (A : Around) (outer : List Env) (s : Shared) (H : Hp) : Prop where
  frames : A.frames = some outer
  mod : Mod K mg base
  bs : ∀ b o, base.get? b = some o → s.heap.get? b = some o ∧ H b = none
  bsz : base.objs.size ≤ s.heap.objs.size
  funs : s.heap.FunFrames base outer
  frf : ∀ b ∈ frs outer, H b = none
  hok : HOk P w H s.heap
  bare : AllBare s.gens
/-  a call's end -/
def CE (outer : List Env) (P : Program) (w : World) (H : Hp) (s : Shared) (Q : VK) (u : Value) (s' : Shared) : Prop :=
  ∃ v H', s'.os = s.os ∧ AllBare s'.gens ∧ Un (frs outer) [] H H' s.heap s'.heap ∧ HOk P w H' s'.heap ∧ RelV v u ∧ Q v H'
def CR (CX : CXT) (outer : List Env) (P : Program) (w : World) (H : Hp) (s : Shared) (Q : VK) (E : XK) (r : Result) (s' : Shared) : Prop :=
  match r with
  | .ok (.ret u) => CE outer P w H s Q u s'
  | .ok _ => False
  | .error e => CX outer H s E e s'
structure FnOk (P : Program) (w : World) (K : PySem.W.Frag) (mg : Str → Option Value) (base : Heap) (CX : CXT) (k : Nat) (f : Addr) (fd : FuncData) (ps : List Str) (sp : Sp) : Prop where
  len : ∀ vs H Q E, sp vs H Q E → vs.length = ps.length
  run : ∀ (A : Around) (outer : List Env) (s : Shared) (H : Hp) (args : Args) (us : List Value) (vs : List V) (Q : VK) (E : XK), Room k A → Env0 P w K mg base A outer s H → BindsTo s fd args (ps.zip us) → Vals vs us → sp vs H Q E →
    codeAny (model P w) A (.call (.ref f) args) (CR CX outer P w H s Q E) s


section
variable {X : Cx} {pins : List (Addr × Obj)} {σ : St} {H : Hp} {s s' : Shared}
/-  from a body: what a callee wants -/
theorem Inv.env0 (I : Inv X pins σ H s) : Env0 X.prog X.w X.K X.mg X.base X.A X.stack s H :=
  ⟨I.ok.frames, I.ok.mod, I.bs, Nat.le_trans I.ok.bsz I.sz, I.stack, I.stkFree, I.hok, I.bare⟩
/-  behind a call -/
theorem Inv.after {Q : VK} {u : Value} (I : Inv X pins σ H s) (h : CE X.stack X.prog X.w H s Q u s') : EP X pins σ Q u s' := by
  obtain ⟨v, H', os, bare, un, hok, r, q⟩ := h
  obtain ⟨hh, g, d, t, os'⟩ := s'
  obtain rfl : os' = s.os := os
  exact ⟨v, H', I.call (h' := hh) (g' := g) (d' := d) (t' := t) (ch := []) un hok bare (fun b z => absurd z (by simp)), r, q⟩
end

/-! ### calls -/
/-  f(..): the written arguments, then the defaults dvs; E: what is wanted of an exception -/
def tCall (sp : Sp) (dvs : List V) (E : XK) (t : TA) : TE := fun σ H Q => t σ H fun vs H1 => sp (vs ++ dvs) H1 Q E
/-  o.m(..) of an instance of the class at C -/
def tMeth (C : Addr) (m : Str) (sp : Sp) (dvs : List V) (E : XK) (ta : TE) (t : TA) : TE := fun σ H Q => ta σ H fun x H1 => ∃ a dx fs, x = .ref a ∧ H1 a = some (.ins C dx fs) ∧ fs.lookup m = none ∧
  t σ H1 fun vs H2 => sp (x :: (vs ++ dvs)) H2 Q E
/-  C(..): a new instance and its dict, then __init__ -/
def tMake (C : Addr) (sp : Sp) (dvs : List V) (E : XK) (t : TA) : TE := fun σ H Q => t σ H fun vs H1 => ∀ x dx, H1 x = none → H1 dx = none → dx ≠ x →
  sp (.ref x :: (vs ++ dvs)) (upd (upd H1 dx (.own x)) x (.ins C dx [])) (fun v H2 => v = .non ∧ Q (.ref x) H2) E

/-  how the parameters are bound: us the positional arguments, kw the keywords' values by name, ds the defaults that fill up -/
def Binds (K : PySem.W.Frag) (fd : FuncData) (ps : List Str) (ds : List Value) : Prop :=
  ∀ (s : Shared) (us : List Value), K.In s.heap → (us ++ ds).length = ps.length → BindsTo s fd ⟨us, []⟩ (ps.zip (us ++ ds))
/-  every parameter is given -/
theorem Binds.all {K : PySem.W.Frag} {fd : FuncData} {ps : List Str} (h : ∀ us : List Value, us.length = ps.length → bindArgs fd ⟨us, []⟩ = pure (ps.zip us)) : Binds K fd ps [] := fun s us _ hl => by
  rw [List.append_nil] at hl ⊢
  exact .of_eq (h us hl)

/-  an exception of a callee reaches what this body wants of exceptions -/
def Passes (CX : CXT) (X : Cx) (E : XK) : Prop := ∀ (pins : List (Addr × Obj)) (σ : St) (H : Hp) (s : Shared) (e : Value) (s' : Shared), Inv X pins σ H s → CX X.stack H s E e s' → X.xe e s'

section
variable {X : Cx} {CX : CXT} {k : Nat} {f C : Addr} {fd : FuncData} {ps : List Str} {sp : Sp} {dvs : List V} {ds : List Value} {E : XK} {x m : Str} {p pos apos : Pos} {e o : Expr} {es : List Expr} {ta : TE} {t : TA}

/-  the callee runs -/
theorem run_fn {pins : List (Addr × Obj)} {σ : St} {H : Hp} {s : Shared} {Q : VK} {us : List Value} {vs : List V} (F : FnOk X.prog X.w X.K X.mg X.base CX k f fd ps sp) (hr : Room k X.A) (hb : Binds X.K fd ps ds) (hd : Vals dvs ds) (hx : Passes CX X E)
    (I : Inv X pins σ H s) (r : Vals vs us) (h : sp (vs ++ dvs) H Q E) : wpAny (model X.prog X.w) X.A (call (.ref f) us) (EP X pins σ Q) X.xe s := by
  have r2 : Vals (vs ++ dvs) (us ++ ds) := r.append hd
  have hl : (us ++ ds).length = ps.length := by rw [← r2.length]; exact F.len _ _ _ _ h
  refine wpAny_call (codeAny_mono (F.run X.A X.stack s H ⟨us, []⟩ (us ++ ds) (vs ++ dvs) Q E hr I.env0 (hb s us I.kIn hl) r2 h) fun r s' hq => ?_)
  cases r with
  | error e => exact hx pins σ H s e s' I hq
  | ok fl =>
    cases fl with
    | ret u => exact I.after hq
    | next => exact False.elim hq
    | brk => exact False.elim hq
    | cont => exact False.elim hq

theorem pe_call (F : FnOk X.prog X.w X.K X.mg X.base CX k f fd ps sp) (hr : Room k X.A) (hg : Gl X x) (hm : X.mg x = some (.ref f)) (hk : PySem.W.keepIn X.K (.ref f) = true) (hb : Binds X.K fd ps ds) (hd : Vals dvs ds) (hx : Passes CX X E)
    (ha : PA X (e :: es) t) (hdb : (x == ("__debug__" : Str)) = false := by decide) (he : starEach (e :: es) X.env = (false, eval e X.env) :: starEach es X.env := by rfl) (hpl : (backTo pos (starEach es X.env)).any (·.1) = false := by rfl) :
    PE X (.Call (.Name x p) (e :: es) [] pos) (tCall sp dvs E t) := by
  intro pins s σ H Q I h
  refine wpAny_Call_Name_kw (ld_glob I hg hm ?_ hdb)
  refine PySem.W.callWith_K (h₀ := X.base) I.ok.mod.kin hk (thn (ha pos pins s σ H _ I h) fun us s1 ⟨vs, H1, I1, r, q⟩ => ⟨I1.kIn, ?_⟩) he hpl
  exact run_fn F hr hb hd hx I1 r q


/-  what a class must have to be made -/
structure Mk (K : PySem.W.Frag) (C f : Addr) : Prop where
  makes : PySem.W.makesIn K C = true
  init : PySem.W.findIn K (.ref C) "__init__" = some (some (.ref f))
  fn : PySem.W.isFn K (.ref f) = true
  kp : PySem.W.keepIn K (.ref C) = true

end

/-! ### keywords -/
section
variable {X : Cx} {CX : CXT} {k : Nat} {f C : Addr} {fd : FuncData} {ps ks : List Str} {sp : Sp} {E : XK} {x m : Str} {p pos apos kpos : Pos} {e o : Expr} {es : List Expr} {kws : List Keyword} {te ta : TE} {t tk : TA} {nm : Option Str}

/-  how a call with keywords binds: g puts the positional values us and the keywords' values ws (names ks) in the parameters' order, defaults among them -/
structure KBinds (K : PySem.W.Frag) (fd : FuncData) (ps ks : List Str) (g : List Value → List Value → List Value) (gV : List V → List V → List V) : Prop where
  to : ∀ (s : Shared) (us ws : List Value), K.In s.heap → (g us ws).length = ps.length → BindsTo s fd ⟨us, ks.zip ws⟩ (ps.zip (g us ws))
  rel : ∀ {vs : List V} {us : List Value} {zs : List V} {ws : List Value}, Vals vs us → Vals zs ws → Vals (gV vs zs) (g us ws)
variable {g : List Value → List Value → List Value} {gV : List V → List V → List V}
end

/-! ### a def's body keeps its promise -/
/-  names: the parameters first -/
structure FnScope (N P : List Str) (sc : Scope) : Prop where
  kind : sc.kind = .function
  co : sc.isCoroutine = false
  gen : sc.isGenerator = false
  nd : N.Nodup
  pre : N.take P.length = P
  par : ∀ x ∈ P, sc.names.lookup x = some .local ∨ sc.names.lookup x = some .cell
  nofree : ∀ y ∈ sc.names, y.2 ≠ .free

theorem bindL_out {kindOf : Str → Option NameKind} {x : Str} : ∀ {binds : List (Str × Value)} {m : Str → Option Value}, (∀ v, (x, v) ∉ binds) → bindL kindOf binds m x = m x
  | [], _, _ => rfl
  | (n, v) :: r, m, h => by
    unfold bindL
    rw [bindL_out fun w hw => h w (List.mem_cons_of_mem _ hw)]
    split
    · have : x ≠ n := by rintro rfl; exact h v List.mem_cons_self
      simp [this]
    · rfl
theorem bindC_out {kindOf : Str → Option NameKind} {x : Str} : ∀ {binds : List (Str × Value)} {m : Str → Option Value}, (∀ v, (x, v) ∉ binds) → bindC kindOf binds m x = m x
  | [], _, _ => rfl
  | (n, v) :: r, m, h => by
    unfold bindC
    rw [bindC_out fun w hw => h w (List.mem_cons_of_mem _ hw)]
    split
    · rfl
    · have : x ≠ n := by rintro rfl; exact h v List.mem_cons_self
      simp [this]
theorem bindL_get {kindOf : Str → Option NameKind} {x : Str} {v : Value} : ∀ {P : List Str} {vs : List Value} {i : Nat} {m : Str → Option Value}, P.Nodup → P[i]? = some x → vs[i]? = some v → kindOf x = some .local →
    bindL kindOf (P.zip vs) m x = some v
  | [], _, _, _, _, h, _, _ => by simp at h
  | _ :: _, [], _, _, _, _, h, _ => by simp at h
  | p :: P, w :: vs, 0, m, nd, h1, h2, hk => by
    simp at h1 h2; subst h1; subst h2
    show bindL kindOf ((p, w) :: P.zip vs) m p = _
    unfold bindL
    rw [bindL_out fun v hv => (List.nodup_cons.mp nd).1 (List.of_mem_zip hv).1, if_pos hk]
    simp
  | p :: P, w :: vs, i + 1, m, nd, h1, h2, hk => by
    show bindL kindOf ((p, w) :: P.zip vs) m x = _
    unfold bindL
    exact bindL_get (i := i) (List.nodup_cons.mp nd).2 (by simpa using h1) (by simpa using h2) hk
theorem bindC_get {kindOf : Str → Option NameKind} {x : Str} {v : Value} : ∀ {P : List Str} {vs : List Value} {i : Nat} {m : Str → Option Value}, P.Nodup → P[i]? = some x → vs[i]? = some v → kindOf x ≠ some .local →
    bindC kindOf (P.zip vs) m x = some v
  | [], _, _, _, _, h, _, _ => by simp at h
  | _ :: _, [], _, _, _, _, h, _ => by simp at h
  | p :: P, w :: vs, 0, m, nd, h1, h2, hk => by
    simp at h1 h2; subst h1; subst h2
    show bindC kindOf ((p, w) :: P.zip vs) m p = _
    unfold bindC
    rw [bindC_out fun v hv => (List.nodup_cons.mp nd).1 (List.of_mem_zip hv).1, if_neg hk]
    simp
  | p :: P, w :: vs, i + 1, m, nd, h1, h2, hk => by
    show bindC kindOf ((p, w) :: P.zip vs) m x = _
    unfold bindC
    exact bindC_get (i := i) (List.nodup_cons.mp nd).2 (by simpa using h1) (by simpa using h2) hk

/-  the names' values at the entry -/
def start (N : List Str) (vs : List V) : St := vs.map some ++ List.replicate (N.length - vs.length) none

/-  the context of a def's body, at its entry; an exception leaves the frame, then lies as CX says -/
def cxOf (CX : CXT) (P : Program) (w : World) (K : PySem.W.Frag) (mg : Str → Option Value) (base : Heap) (N : List Str) (qual : Str) (scope : Scope) (f : Addr) (cd : Value) (A : Around) (outer : List Env) (s : Shared) (H : Hp) (E : XK) : Cx where
  prog := P
  w := w
  K := K
  mg := mg
  base := base
  A := A.deeper (envOfC qual scope s.heap.objs.size f cd)
  N := N
  s₀ := s
  H₀ := H
  env := envOfC qual scope s.heap.objs.size f cd
  outer := outer
  stack := envOfC qual scope s.heap.objs.size f cd :: outer
  ex := []
  calm := true
  fn := fun _ => true
  pn := []
  xe := fun e s' => wpAny (model P w) (A.deeper (envOfC qual scope s.heap.objs.size f cd)) (leaving (envOfC qual scope s.heap.objs.size f cd) e) (fun _ s'' => CX outer H s E e s'') (fun e' s'' => CX outer H s E e' s'') s'

theorem cell_has {sc : Scope} {n : Nat} {x : Str} (h : sc.names.lookup x = some .cell) : ∃ c, (cellsFrom n sc.names []).lookup x = some c := by
  have q := PySem.W.cellsFrom_some sc.names n [] (.inl h)
  exact Option.isSome_iff_exists.mp q

theorem inv_start {CX : CXT} {P : Program} {w : World} {K : PySem.W.Frag} {mg : Str → Option Value} {base : Heap} {N ps : List Str} {qual : Str} {scope : Scope} {f : Addr} {cd : Value} {A : Around} {outer : List Env} {s s1 : Shared} {H : Hp} {E : XK} {us : List Value} {vs : List V}
    (S : FnScope N ps scope) (hd : A.handled = none) (e0 : Env0 P w K mg base A outer s H) (hl : vs.length = ps.length) (r : Vals vs us)
    (x : InCallC s s.heap.objs.size (bindL (envOfC qual scope s.heap.objs.size f cd).kindOf (ps.zip us) fun _ => none) (cellsFrom (s.heap.objs.size + 1) scope.names []) (bindC (envOfC qual scope s.heap.objs.size f cd).kindOf (ps.zip us) fun _ => none) s1) :
    Inv (cxOf CX P w K mg base N qual scope f cd A outer s H E) [] (start N vs) H s1 := by
  have hpl : ps.length ≤ N.length := by have := congrArg List.length S.pre; rw [List.length_take] at this; omega
  obtain ⟨h1, tk, rfl, hk⟩ := x.done
  have noA : ∀ b : Addr, b ∉ (cxOf CX P w K mg base N qual scope f cd A outer s H E).ex := fun b z => absurd (show b ∈ ([] : List Addr) from z) (by simp)
  refine ⟨⟨e0.mod, S.kind, rfl, rfl, Nat.le_refl _, fun y z c h1 h2 => ?_, fun y hy => ?_, fun y c _ h => ?_, fun _ => hd, Around.frames_deeper e0.frames, .inr ⟨rfl, rfl⟩, fun b z => absurd z (noA b), e0.bs, e0.bsz, fun b _ _ => noA b, fun b z => absurd z (noA b), e0.funs, e0.frf⟩,
    rfl, e0.bare, Un.kept hk, ⟨_, x.toInCall.ns, fun i y v h1 h2 h3 => ?_⟩, fun y c h => ⟨_, x.cell y c h⟩, e0.hok.fresh (Nat.le_refl _), fun y c h => ?_, fun p hp => absurd (show p ∈ ([] : List (Addr × Obj)) from hp) (by simp), e0.hok.kept hk, ?_⟩
  · exact name_of_addr x.apart (PySem.mem_of_lookup h1) (PySem.mem_of_lookup h2)
  · have hy : scope.names.lookup y = some .cell ∨ scope.names.lookup y = some .free := hy
    rcases hy with hy | hy
    · exact cell_has hy
    · exact absurd rfl (S.nofree _ (PySem.mem_of_lookup hy))
  · exact Nat.le_of_lt (x.above y c (PySem.mem_of_lookup h))
  · have hi : i < vs.length := by
      unfold start at h2
      by_cases hi : i < vs.length
      · exact hi
      · rw [List.getElem?_append_right (by simpa using hi)] at h2
        rw [List.getElem?_replicate] at h2
        split at h2 <;> cases h2
    have ha : vs[i]? = some v := by
      unfold start at h2
      rw [List.getElem?_append_left (by simpa using hi), List.getElem?_map] at h2
      cases e : vs[i]? with
      | none => rw [e] at h2; cases h2
      | some a => rw [e] at h2; cases h2; rfl
    obtain ⟨u, hu, rv⟩ := r.get ha
    have hp : ps[i]? = some y := by
      rw [← S.pre, List.getElem?_take_of_lt (by omega)]; exact h1
    have ndP : ps.Nodup := by rw [← S.pre]; exact S.nd.sublist (List.take_sublist _ _)
    refine ⟨u, rv, ?_⟩
    rcases S.par y (List.mem_of_getElem? hp) with k | k
    · exact .inl ⟨k, bindL_get ndP hp hu k⟩
    · obtain ⟨c, e⟩ := cell_has (n := s.heap.objs.size + 1) k
      refine .inr ⟨.inl k, c, e, ?_⟩
      have q := x.cell y c e
      rw [bindC_get ndP hp hu (by show scope.names.lookup y ≠ _; rw [k]; decide)] at q
      exact q
  · exact e0.hok.fresh (Nat.le_of_lt (x.above y c (PySem.mem_of_lookup h)))
  · unfold start
    show _ = N.length
    rw [List.length_append, List.length_map, List.length_replicate]
    omega

/-  THE RULE: a def (or a method) of the text, by its body. The body's reading t is chosen for each entry; it is run at the parameters' values -/
theorem fn_of {CX : CXT} {P : Program} {w : World} {K : PySem.W.Frag} {mg : Str → Option Value} {base : Heap} {k : Nat} {f : Addr} {name qual : Str} {params : Arguments} {body : List Stmt} {scope : Scope} {dV kV doc pm cdv ct oc : Value} {an od : Option Addr}
    {osl : Array (Option Value)} {N ps : List Str} {sp : Sp} (lk : K.lookup f = some ⟨oc, od, .func (PySem.W.fnOf name qual params body scope dV kV doc pm an cdv ct), osl⟩) (hcd : PySem.W.codeIn K cdv qual = true) (S : FnScope N ps scope)
    (len : ∀ vs H Q E, sp vs H Q E → vs.length = ps.length)
    (hbody : ∀ (A : Around) (outer : List Env) (s : Shared) (H : Hp) (vs : List V) (Q : VK) (E : XK), Room k (A.deeper (envOfC qual scope s.heap.objs.size f cdv)) → sp vs H Q E →
      ∃ t, PSs (cxOf CX P w K mg base N qual scope f cdv A outer s H E) body t ∧ t { nx := fun _ H' => Q .non H', rt := Q } (start N vs) H) :
    FnOk P w K mg base CX (k + 1) f (PySem.W.fnOf name qual params body scope dV kV doc pm an cdv ct) ps sp := by
  refine ⟨len, fun A outer s H args us vs Q E hr e0 hb r hsp => ?_⟩
  have hl := len _ _ _ _ hsp
  have KX : K.In s.heap := e0.mod.kin.keeps fun b o e => (e0.bs b o e).1
  have lim : s.heap.NoLimit := e0.mod.nolimit.keeps fun b o e => (e0.bs b o e).1
  have hkind : ∀ y ∈ ps.zip us, scope.names.lookup y.1 = some .local ∨ (scope.names.lookup y.1 = some .cell ∧ ((cellsFrom (s.heap.objs.size + 1) scope.names []).lookup y.1).isSome = true) := fun ⟨n, v⟩ hy => by
    rcases S.par n (List.of_mem_zip hy).1 with q | q
    · exact .inl q
    · exact .inr ⟨q, PySem.W.cellsFrom_some _ _ _ (.inl q)⟩
  refine codeAny_call_function hr.depth (KX _ _ lk) rfl S.co S.gen rfl (PySem.W.codeRec_of KX hcd) (hb _ _ _ _ ?_)
  refine wpAny_newFunctionEnv_cells S.kind hkind fun env he s1 x => ?_
  subst he
  refine ⟨lim.keeps x.toInCall.keep, codeAny_func ?_⟩
  obtain ⟨t, ht, hq⟩ := hbody A outer s H vs Q E (hr.deeper _) hsp
  have I : Inv (cxOf CX P w K mg base N qual scope f cdv A outer s H E) [] (start N vs) H s1 := inv_start S hr.hd e0 hl r x
  refine wpAny_mono (ht [] s1 (start N vs) H _ I hq) (fun fl s' hs => ?_) fun e s' hs => hs
  have fin : ∀ {σ' : St} {H' : Hp} {v : V} {u : Value}, Inv (cxOf CX P w K mg base N qual scope f cdv A outer s H E) [] σ' H' s' → RelV v u → Q v H' → CE outer P w H s Q u s' :=
    fun {σ' H' v u} J rv q => ⟨v, H', J.os, J.bare, J.base, J.hok, rv, q⟩
  cases fl with
  | ret u =>
    obtain ⟨v, σ', H', J, rv, q⟩ := hs
    exact fin J rv q
  | next =>
    obtain ⟨σ', H', J, q⟩ := hs
    exact fin (v := V.non) (u := Value.none) J rfl q
  | brk =>
    obtain ⟨_, _, _, q⟩ := hs
    exact False.elim q
  | cont =>
    obtain ⟨_, _, _, q⟩ := hs
    exact False.elim q
end L2

namespace L2
open PySem PySem.Spec PyProof.Rows
section
variable {X : Cx} {x : Str} {p pos : Pos} {e : Expr} {es : List Expr} {t : TA} {id T : String} {r : List V → Hp → VK → Prop}

def tCB (r : List V → Hp → VK → Prop) (t : TA) : TE := fun σ H Q => t σ H fun vs H1 => r vs H1 Q
/-  f(e, ..), f a built-in function -/
theorem pe_callB (hc : CallR X (.builtin id) r) (hg : Gl X x) (hm : X.mg x = none) (hv : bootBuiltins x = some (.builtin id)) (ha : PA X (e :: es) t) (hn : x ≠ "__name__" := by decide) (hdb : (x == ("__debug__" : Str)) = false := by decide)
    (he : starEach (e :: es) X.env = (false, eval e X.env) :: starEach es X.env := by rfl) (hpl : (backTo pos (starEach es X.env)).any (·.1) = false := by rfl) : PE X (.Call (.Name x p) (e :: es) [] pos) (tCB r t) := by
  intro pins s σ H Q I h
  refine wpAny_Call_Name_kw (ld_blt I hg hm hv ?_ hn hdb)
  exact PyProof.Rows.callWith_builtin1 (thn (ha pos pins s σ H _ I h) fun us s1 ⟨vs, H1, I1, r1, q1⟩ => hc pins s1 σ H1 vs us Q I1 r1 q1) he hpl
/-  T(e, ..), T a built-in type -/
theorem pe_callTy (hc : CallR X (.type T) r) (hg : Gl X x) (hm : X.mg x = none) (hv : bootBuiltins x = some (.type T)) (ha : PA X (e :: es) t) (hn : x ≠ "__name__" := by decide) (hdb : (x == ("__debug__" : Str)) = false := by decide)
    (he : starEach (e :: es) X.env = (false, eval e X.env) :: starEach es X.env := by rfl) (hpl : (backTo pos (starEach es X.env)).any (·.1) = false := by rfl) : PE X (.Call (.Name x p) (e :: es) [] pos) (tCB r t) := by
  intro pins s σ H Q I h
  refine wpAny_Call_Name_kw (ld_blt I hg hm hv ?_ hn hdb)
  exact PyProof.Rows.callWith_type1 (thn (ha pos pins s σ H _ I h) fun us s1 ⟨vs, H1, I1, r1, q1⟩ => hc pins s1 σ H1 vs us Q I1 r1 q1) he hpl
end
end L2

namespace HT
open PySem PyProof.Rows



section
open PySem.SeqAt
open PySem.AutoSeq1 (wpAny_loadPart')
open PySem.MeetsSeq PySem.MeetsSeq2 PySem.MeetsSeq3

end

section
variable {prog : Program} {w : World} {A : Around} {E : Value → Shared → Prop} {s : Shared}



/-! ### t[a:b], not the whole -/
/-  a slice's bound as a place among n (d where it is left out) -/
def sIx (n d : Nat) : Option Int → Nat
  | none => d
  | some v => if v < 0 then (v + (n : Int)).toNat else min v.toNat n
theorem sIx_none (n d : Nat) : sIx n d none = d := rfl
theorem sIx_nat (n d k : Nat) : sIx n d (some (k : Int)) = min k n := by
  show (if (k : Int) < 0 then ((k : Int) + (n : Int)).toNat else min (k : Int).toNat n) = min k n
  rw [if_neg (by omega), Int.toNat_natCast]

end
end HT

namespace L2
open PySem PySem.Spec PyProof.Rows

/-! ### the parts of a slice -/
abbrev TO := St → Hp → (Option Int → Hp → Prop) → Prop
/-  a slice's part (left out, or an int) -/
def PO (X : Cx) (e : Option Expr) (t : TO) : Prop :=
  ∀ (pins : List (Addr × Obj)) (s : Shared) (σ : St) (H : Hp) (Q : Option Int → Hp → Prop), Inv X pins σ H s → t σ H Q →
    wpAny (model X.prog X.w) X.A (evalPart e X.env) (fun u s' => ∃ o H', Inv X pins σ H' s' ∧ IsPart u o ∧ Q o H') X.xe s
def tNoPart : TO := fun _ H Q => Q none H
def tPart (t : TE) : TO := fun σ H Q => t σ H fun x H1 => ∃ i, x = .int i ∧ Q (some i) H1


section
variable {X : Cx} {e : Expr} {te : TE} {lo hi : Option Expr} {tl th : TO} {pos p2 : Pos}

theorem po_none : PO X none tNoPart := by
  intro pins s σ H Q I h
  rw [evalPart_none]
  exact wpAny_pure ⟨none, H, I, .none, h⟩
theorem po_some (h : PE X e te) : PO X (some e) (tPart te) := by
  intro pins s σ H Q I hw
  rw [evalPart_some]
  refine thn (h pins s σ H _ I hw) fun u s1 ⟨x, H1, I1, r1, q1⟩ => ?_
  obtain ⟨i, rfl, q⟩ := q1
  obtain ⟨t, rfl⟩ := r1
  exact ⟨some i, H1, I1, .int i t, q⟩

/-  what a slice of a value is, by values: the slice object stands at sl -/
def SlR (X : Cx) (r : V → Option Int → Option Int → Hp → VK → Prop) : Prop :=
  ∀ (pins : List (Addr × Obj)) (s : Shared) (σ : St) (H : Hp) (x : V) (v vl vu : Value) (lo hi : Option Int) (sl : Addr) (Q : VK), Inv X pins σ H s → RelV x v → s.heap.IsSliceOf sl vl vu .none → IsPart vl lo → IsPart vu hi → r x lo hi H Q →
    ∃ T id, typeLookup (.type T) "__getitem__" = pure (some (.builtin id)) ∧ s.TypeIs v T ∧ wpAny (model X.prog X.w) X.A (getItem v (.ref sl)) (EP X pins σ Q) X.xe s
def tSl (r : V → Option Int → Option Int → Hp → VK → Prop) (te : TE) (tl th : TO) : TE := fun σ H Q => te σ H fun x H1 => tl σ H1 fun l H2 => th σ H2 fun u H3 => r x l u H3 Q
/-  a[lo:hi], any a -/
theorem pe_slice {r : V → Option Int → Option Int → Hp → VK → Prop} (hr : SlR X r) (he : PE X e te) (hl : PO X lo tl) (hu : PO X hi th) : PE X (.Subscript e (.Slice lo hi none p2) pos) (tSl r te tl th) := by
  intro pins s σ H Q I h
  refine Subscript_ (thn (he pins s σ H _ I h) fun v s1 ⟨x, H1, I1, r1, q1⟩ => ?_)
  refine wpAny_Slice (thn (hl pins s1 σ H1 _ I1 q1) fun vl s2 ⟨l, H2, I2, pl, q2⟩ => thn (hu pins s2 σ H2 _ I2 q2) fun vu s3 ⟨u, H3, I3, pu, q3⟩ => ?_)
  rw [evalPart_none]
  refine wpAny_pure ?_
  have I4 : Inv X pins σ H3 { s3 with heap := s3.heap.push { cls := .type "slice", data := .fields #[vl, vu, .none] } } := I3.kept (t' := s3.toks) fun b ob q => Heap.get?_push_of_some _ q
  obtain ⟨T, id, hT, ht, hg⟩ := hr pins { s3 with heap := s3.heap.push { cls := .type "slice", data := .fields #[vl, vu, .none] } } σ H3 x v vl vu l u s3.heap.objs.size Q I4 r1 (Heap.IsSliceOf.new ..) pl pu q3
  show wpAny (model X.prog X.w) X.A (subscriptTail e (.Slice lo hi none p2) v (.ref s3.heap.objs.size)) (EP X pins σ Q) X.xe { s3 with heap := s3.heap.push { cls := .type "slice", data := .fields #[vl, vu, .none] } }
  exact tail_any (ops := [.ref s3.heap.objs.size, v]) ht hT hg (by with_unfolding_all rfl)

/-  the items of xs[lo:hi] -/
def cutV (xs : List V) (lo hi : Option Int) : List V := (xs.drop (HT.sIx xs.length 0 lo)).take (HT.sIx xs.length xs.length hi - HT.sIx xs.length 0 lo)
theorem cutV_length (xs : List V) (lo hi : Option Int) : (cutV xs lo hi).length ≤ xs.length := by
  unfold cutV
  rw [List.length_take, List.length_drop]
  omega

/-! ### t < u, t + u -/
end
end L2

namespace L2
open PySem PySem.Spec PyProof.Rows

/-! ### places -/
/-  the place that an index of any sign means -/
def ixN (n : Nat) (i : Int) : Option Nat := if 0 ≤ i then (if i < n then some i.toNat else none) else if -(n : Int) ≤ i then some (i + n).toNat else none
def atI {α : Type} (xs : List α) (i : Int) : Option α := (ixN xs.length i).bind fun j => xs[j]?
theorem ixN_seq {n : Nat} {i : Int} {j : Nat} (h : ixN n i = some j) : seqIndex? i n = some j ∧ j < n ∧ -(n : Int) ≤ i ∧ i < n := by
  unfold ixN at h
  by_cases h0 : 0 ≤ i
  · rw [if_pos h0] at h
    by_cases h1 : i < n
    · rw [if_pos h1] at h
      have e : i.toNat = j := Option.some.inj h
      exact ⟨by rw [seqIndex_of h0 h1, e], by omega, by omega, h1⟩
    · rw [if_neg h1] at h; cases h
  · rw [if_neg h0] at h
    by_cases h1 : -(n : Int) ≤ i
    · rw [if_pos h1] at h
      have e : (i + n).toNat = j := Option.some.inj h
      exact ⟨by rw [seqIndex_neg (by omega) h1, e], by omega, h1, by omega⟩
    · rw [if_neg h1] at h; cases h
theorem atI_get {α : Type} {xs : List α} {i : Int} {v : α} (h : atI xs i = some v) : ∃ j, seqIndex? i xs.length = some j ∧ xs[j]? = some v ∧ j < xs.length ∧ -(xs.length : Int) ≤ i ∧ i < xs.length := by
  unfold atI at h
  cases e : ixN xs.length i with
  | none => rw [e] at h; cases h
  | some j =>
    rw [e] at h
    obtain ⟨h1, h2, h3, h4⟩ := ixN_seq e
    exact ⟨j, h1, h, h2, h3, h4⟩
theorem atI_nat {α : Type} {xs : List α} {j : Nat} {v : α} (h : xs[j]? = some v) : atI xs (j : Int) = some v := by
  have hj : j < xs.length := (List.getElem?_eq_some_iff.mp h).1
  have e : ixN xs.length (j : Int) = some j := by
    unfold ixN
    rw [if_pos (by omega), if_pos (by omega)]; simp
  unfold atI; rw [e]; exact h

/-! ### what may be subscripted -/
/-  what stands as an index of a plain subscript -/
def PlainIx (b : Expr) : Prop := ∀ o i, subscripted b false o i = operate [o, i] (getItem o i)
/-  a subscript by values -/
def IxR (X : Cx) (r : R2) : Prop :=
  ∀ (value slice : Expr) (pins : List (Addr × Obj)) (s : Shared) (σ : St) (H : Hp) (x y : V) (v u : Value) (Q : VK), Inv X pins σ H s → RelV x v → RelV y u → r x y H Q →
    subscripted slice false v u = operate [v, u] (getItem v u) → wpAny (model X.prog X.w) X.A (subscriptTail value slice v u) (EP X pins σ Q) X.xe s
/-  a call of a builtin's method by values: the receiver, the arguments -/
def MtR (X : Cx) (id : String) (r : V → List V → Hp → VK → Prop) : Prop :=
  ∀ (pins : List (Addr × Obj)) (s : Shared) (σ : St) (H : Hp) (x : V) (xs : List V) (v : Value) (us : List Value) (Q : VK), Inv X pins σ H s → RelV x v → Vals xs us → r x xs H Q →
    wpAny (model X.prog X.w) X.A (call (.builtin id) (v :: us)) (EP X pins σ Q) X.xe s
section
variable {X : Cx} {a b : Expr} {ta tb : TE} {pos : Pos}
/-  a[b] -/
theorem pe_ix {r : R2} (hr : IxR X r) (ha : PE X a ta) (hb : PE X b tb) (hs : PlainIx b) : PE X (.Subscript a b pos) (tOp r ta tb) := by
  intro pins s σ H Q I h
  exact Subscript_ (binT ha hb I h fun v u s2 x y H2 I2 rx ry q => hr a b pins s2 σ H2 x y v u Q I2 rx ry q (hs _ _))

def rIxL (K : PySem.W.Frag) : R2 := fun x y H Q => ∃ p xs i v, x = .ref p ∧ y = .int i ∧ SqL K H p xs ∧ atI xs i = some v ∧ Q v H
def rIxT (K : PySem.W.Frag) : R2 := fun x y H Q => ∃ p xs i v, x = .ref p ∧ y = .int i ∧ SqT K H p xs ∧ atI xs i = some v ∧ Q v H
theorem ix_list : IxR X (rIxL X.K) := by
  intro value slice pins s σ H x y v u Q I rx ry h hs
  obtain ⟨p, xs, i, z, rfl, rfl, hq, he, q⟩ := h
  cases rx
  obtain ⟨t, rfl⟩ := ry
  obtain ⟨its, r, pl, hz⟩ := I.list hq
  obtain ⟨j, h1, h2, h3, h4, h5⟩ := atI_get he
  obtain ⟨w, ew, rw'⟩ := r.get h2
  have hl := r.length
  have hn := line63
  have fin : EP X pins σ Q w s := ⟨z, H, I, rw', q⟩
  by_cases h0 : 0 ≤ i
  · have hj : i.toNat = j := by
      rw [seqIndex_of h0 h5] at h1
      exact Option.some.inj h1
    exact item_listR pl.isList h0 (by omega) (by rw [hj]; simpa using ew) fin hs
  · have hj : (i + (its.toArray.size : Int)).toNat = j := by
      rw [seqIndex_neg (by omega) h4] at h1
      rw [List.size_toArray, ← hl]
      exact Option.some.inj h1
    exact subscriptTail_builtinR (x := w) pl.isList.typeIs slot_list_getitem.lookup
      (wpAny_getItem_list_neg (Q := fun r s' => r = w ∧ EP X pins σ Q r s') pl.isList (by omega) (by rw [List.size_toArray] <;> omega) (by omega) (by rw [hj]; simpa using ew) ⟨rfl, fin⟩) hs
theorem ix_tup : IxR X (rIxT X.K) := by
  intro value slice pins s σ H x y v u Q I rx ry h hs
  obtain ⟨p, xs, i, z, rfl, rfl, hq, he, q⟩ := h
  cases rx
  obtain ⟨t, rfl⟩ := ry
  obtain ⟨its, r, pl, hz⟩ := I.tuple hq
  obtain ⟨j, h1, h2, h3, h4, h5⟩ := atI_get he
  obtain ⟨w, ew, rw'⟩ := r.get h2
  have hl := r.length
  have hn := line63
  have fin : EP X pins σ Q w s := ⟨z, H, I, rw', q⟩
  exact subscriptTail_builtinR (x := w) pl.typeIs slot_tuple_getitem.lookup
    (getItem_tuple (j := j) (Q := fun r s' => r = w ∧ EP X pins σ Q r s') pl (by omega) (by omega) (by rw [List.size_toArray, ← hl]; exact h1) (by simpa using ew) ⟨rfl, fin⟩) hs

/-! ### xs[i] = v, any sign -/

/-! ### slices -/
theorem slice_bounds (lo hi : Option Int) (n : Nat) : (sliceBounds lo hi none n).1 = ((HT.sIx n 0 lo : Nat) : Int) ∧ (sliceBounds lo hi none n).2.1 = ((HT.sIx n n hi : Nat) : Int) ∧ (sliceBounds lo hi none n).2.2 = 1 := by
  refine ⟨?_, ?_, rfl⟩
  · cases lo with
    | none => simp [sliceBounds, HT.sIx]
    | some i =>
      simp only [sliceBounds, HT.sIx, Option.getD_none, show (1 : Int) > 0 by decide, if_true]
      by_cases h : i < 0
      · simp only [h, if_true] <;> omega
      · simp only [h, if_false] <;> omega
  · cases hi with
    | none => simp [sliceBounds, HT.sIx]
    | some i =>
      simp only [sliceBounds, HT.sIx, Option.getD_none, show (1 : Int) > 0 by decide, if_true]
      by_cases h : i < 0
      · simp only [h, if_true] <;> omega
      · simp only [h, if_false] <;> omega
theorem slicePick_cut (its : List Value) (lo hi : Option Int) : slicePick its.toArray lo hi none = ((its.drop (HT.sIx its.length 0 lo)).take (HT.sIx its.length its.length hi - HT.sIx its.length 0 lo)).toArray := by
  obtain ⟨h1, h2, h3⟩ := slice_bounds lo hi its.toArray.size
  unfold slicePick
  rw [h1, h2, h3]
  simp only [sliceRange_one, pick_run, List.size_toArray] <;> rfl
/-  xs[lo:hi] of a list: a new list -/
def rSlL (K : PySem.W.Frag) : V → Option Int → Option Int → Hp → VK → Prop := fun x lo hi H Q => ∃ a xs, x = .ref a ∧ SqL K H a xs ∧ ∀ p, H p = none → Q (.ref p) (upd H p (.lst (cutV xs lo hi)))
theorem sl_list : SlR X (rSlL X.K) := by
  intro pins s σ H x v vl vu lo hi sl Q I rx hs pl pu h
  obtain ⟨a, xs, rfl, hx, q⟩ := h
  cases rx
  obtain ⟨its, r, ht, hz⟩ := I.list hx
  have hlen := r.length
  refine ⟨"list", _, slot_list_getitem.lookup, ht.isList.typeIs, ?_⟩
  refine wpAny_getItem_list_slice ht.isList hs pl pu .none (by simp) ?_ (by rw [List.size_toArray] <;> omega)
  rw [slicePick_cut, ← hlen]
  refine ⟨.ref s.heap.objs.size, _, I.laid (t' := s.toks) (o := .lst (cutV xs lo hi)) (fun b ob q => Heap.get?_push_of_some _ q) (Nat.le_refl _) ?_, rfl, q _ (I.hok.fresh (Nat.le_refl _))⟩
  exact ⟨Nat.le_trans (cutV_length xs lo hi) hz, _, 0, (r.drop (HT.sIx xs.length 0 lo)).take (HT.sIx xs.length xs.length hi - HT.sIx xs.length 0 lo), Heap.get?_push_size _ rfl⟩

/-! ### in, not in: flat items -/

/-! ### len, list(x), tuple(x) of any list or tuple that is read -/
theorem call_len_seq : CallR X (.builtin "len") (fun xs H Q => ∃ p ys, xs = [.ref p] ∧ (SqL X.K H p ys ∨ SqT X.K H p ys) ∧ Q (.int ys.length) H) := by
  intro pins s σ H xs us Q I r h
  obtain ⟨p, ys, rfl, hq, q⟩ := h
  obtain ⟨u, rfl, rx⟩ := vals1 r
  cases rx
  have hn := line63
  rcases hq with hq | hq
  · obtain ⟨its, r', pl, hz⟩ := I.list hq
    have hlen := r'.length
    exact Calls.call_len_list pl.isList (by simp only [List.size_toArray] <;> omega) ⟨.int ys.length, H, I.tok _, ⟨s.toks + 1, by rw [List.size_toArray, hlen]⟩, q⟩
  · obtain ⟨its, r', pl, hz⟩ := I.tuple hq
    have hlen := r'.length
    exact len_tuple pl (by simp only [List.size_toArray] <;> omega) ⟨.int ys.length, H, I.tok _, ⟨s.toks + 1, by rw [List.size_toArray, hlen]⟩, q⟩
theorem call_list_of : CallR X (.type "list") (fun xs H Q => ∃ p ys, xs = [.ref p] ∧ (SqL X.K H p ys ∨ SqT X.K H p ys) ∧ ∀ l, H l = none → Q (.ref l) (upd H l (.lst ys))) := by
  intro pins s σ H xs us Q I r h
  obtain ⟨p, ys, rfl, hq, q⟩ := h
  obtain ⟨u, rfl, rx⟩ := vals1 r
  cases rx
  have fin : ∀ (its : List Value), Vals ys its → ys.length ≤ sizeLine → ∀ (h' : Heap) (c' : Nat), (∀ b o', s.heap.get? b = some o' → h'.get? b = some o') →
      h'.get? s.heap.objs.size = some { cls := .type "list", dict := none, data := .seq its.toArray c', slots := #[] } → EP X pins σ Q (.ref s.heap.objs.size) { s with heap := h' } := fun its r' hz h' c' kp e =>
    ⟨.ref s.heap.objs.size, _, I.laid (t' := s.toks) kp (Nat.le_refl _) (show ObjOk X.prog X.w _ h' _ (.lst ys) from ⟨hz, its, c', r', e⟩), rfl, q _ (I.hok.fresh (Nat.le_refl _))⟩
  rcases hq with hq | hq
  · obtain ⟨its, r', pl, hz⟩ := I.list hq
    have hlen := r'.length
    obtain ⟨o, ho, hc, n, hd⟩ := pl.isList
    exact call_list_seq p (.inl rfl) ho hc hd (fun h' c' kp e => fin its r' hz h' c' kp e) (by simp only [List.size_toArray] <;> omega)
  · obtain ⟨its, r', pl, hz⟩ := I.tuple hq
    have hlen := r'.length
    obtain ⟨o, ho, hc, n, hd⟩ := pl
    exact call_list_seq p (.inr rfl) ho hc hd (fun h' c' kp e => fin its r' hz h' c' kp e) (by simp only [List.size_toArray] <;> omega)

/-! ### the call of a builtin's method: o.m(..) -/
/-  the value is of that builtin type -/
def tyV (K : PySem.W.Frag) (T : String) (x : V) (H : Hp) : Prop := match x with
  | .str _ => T = "str"
  | .int _ => T = "int"
  | .ref p => (T = "list" ∧ ∃ xs, SqL K H p xs) ∨ (T = "tuple" ∧ ∃ o, K.lookup p = some o ∧ o.cls = .type "tuple" ∧ o.dict = none) ∨
      (T = "dict" ∧ ((∃ kvs, H p = some (.dK kvs)) ∨ ∃ kvs, H p = some (.dT kvs))) ∨ (T = "set" ∧ ∃ S n, H p = some (.set S n))
  | _ => False
theorem tyV_is {pins : List (Addr × Obj)} {σ : St} {H : Hp} {s : Shared} {T : String} {x : V} {v : Value} (I : Inv X pins σ H s) (r : RelV x v) (ty : tyV X.K T x H) :
    s.TypeIs v T ∧ ∀ a, v = .ref a → ∃ ob, s.heap.get? a = some ob ∧ ob.dict = none := by
  cases x with
  | str z =>
    obtain ⟨t, rfl⟩ := r
    cases (show T = "str" from ty)
    exact ⟨typeIs_str s z t, fun _ e => nomatch e⟩
  | int i =>
    obtain ⟨t, rfl⟩ := r
    cases (show T = "int" from ty)
    exact ⟨typeIs_int s i t, fun _ e => nomatch e⟩
  | ref p =>
    cases r
    rcases ty with ⟨rfl, xs, hq⟩ | ⟨rfl, o, hk, hc, hd⟩ | ⟨rfl, hk⟩ | ⟨rfl, S, n, hk⟩
    · obtain ⟨its, _, pl, _⟩ := I.list hq
      refine ⟨pl.isList.typeIs, fun a e => ?_⟩
      cases e
      obtain ⟨o, n, e, c, hd, _⟩ := pl
      exact ⟨o, e, hd⟩
    · refine ⟨⟨o, I.kIn p o hk, hc⟩, fun a e => ?_⟩
      cases e
      exact ⟨o, I.kIn _ o hk, hd⟩
    · have z : ∃ o, s.heap.get? p = some o ∧ o.ExactDict := by
        rcases hk with ⟨kvs, hk⟩ | ⟨kvs, hk⟩
        · obtain ⟨_, _, _, _, o, _, _, e, ex, _⟩ := I.hok p _ hk
          exact ⟨o, e, ex⟩
        · obtain ⟨_, _, _, _, o, _, _, e, ex, _⟩ := I.hok p _ hk
          exact ⟨o, e, ex⟩
      obtain ⟨o, e, ex⟩ := z
      refine ⟨⟨o, e, ex.1⟩, fun a e2 => ?_⟩
      cases e2
      exact ⟨o, e, ex.2.1⟩
    · obtain ⟨o, _, _, _, e, ex, _⟩ := I.hok p _ hk
      refine ⟨⟨o, e, ex.1⟩, fun a e2 => ?_⟩
      cases e2
      exact ⟨o, e, ex.2.1⟩
  | _ => exact False.elim ty
def tBM0 (K : PySem.W.Frag) (T : String) (r : V → List V → Hp → VK → Prop) (to : TE) : TE := fun σ H Q => to σ H fun x H1 => tyV K T x H1 ∧ r x [] H1 Q
def tBM (K : PySem.W.Frag) (T : String) (r : V → List V → Hp → VK → Prop) (to : TE) (t : TA) : TE := fun σ H Q => to σ H fun x H1 => tyV K T x H1 ∧ t σ H1 fun xs H2 => r x xs H2 Q
variable {o e : Expr} {es : List Expr} {to : TE} {t : TA} {name : Str} {apos cpos : Pos} {T id : String} {r : V → List V → Hp → VK → Prop}
theorem pe_bm (pa : PlainAttrs T) (slot : Slot T name id) (hty : typeOf (.builtin id) = pure (.type "method_descriptor")) (hm : MtR X id r) (ho : PE X o to) (ha : PA X (e :: es) t)
    (hbase : attributeBase o name X.env (eval o X.env) = eval o X.env := by rfl)
    (hfew : ((backTo cpos (starEach (e :: es) X.env)).all (fun x => !x.1) && (backToKw cpos (keywordEach [] X.env)).all (fun x => x.1.isSome)
      && decide ((e :: es).length + ([] : List Keyword).length + (if ([] : List Keyword).isEmpty then 0 else 1) < 30)) = true := by rfl)
    (hline : (apos.endLine == cpos.line) = true := by rfl) (hs : starEach (e :: es) X.env = (false, eval e X.env) :: starEach es X.env := by rfl) (hplain : (backTo cpos (starEach es X.env)).any (·.1) = false := by rfl) :
    PE X (.Call (.Attribute o name apos) (e :: es) [] cpos) (tBM X.K T r to t) := by
  intro pins s σ H Q I h
  refine wpAny_Call_method_late hbase hfew hline rfl (thn (ho pins s σ H _ I h) fun v s1 ⟨x, H1, I1, r1, ty, q1⟩ => ?_)
  obtain ⟨h1, h2⟩ := tyV_is I1 r1 ty
  refine ⟨T, id, pa, slot, hty, h1, h2, ?_⟩
  have hA := ha cpos pins s1 σ H1 _ I1 q1
  rw [hs] at hA ⊢
  refine Calls.callWith_builtin (by show (false || (backTo cpos (starEach es X.env)).any (·.1)) = false; rw [hplain] <;> rfl) (Calls.evalArgs_plain ?_)
  exact thn hA fun us s2 ⟨vs, H2, I2, r2, q2⟩ => hm pins s2 σ H2 x vs v us Q I2 r1 r2 q2
/- xs.append(e), list.index on a module's tuple .. are MtR facts of 06m -/
end
end L2

namespace L2
open PySem PySem.Spec PyProof.Rows

def MtM (X : Cx) (id : String) (r : V → List V → Hp → VK → Prop) : Prop :=
  ∀ (pins : List (Addr × Obj)) (s : Shared) (σ : St) (H : Hp) (x : V) (xs : List V) (v : Value) (us : List Value) (Q : VK), Inv X pins σ H s → RelV x v → Vals xs us → r x xs H Q →
    wpAny (model X.prog X.w) X.A (call (.builtin id) (v :: us)) (EP X pins σ Q) X.xe s

/-! ### lists of values -/
theorem Vals.one : ∀ {x : V} {us : List Value}, Vals [x] us → ∃ u, us = [u] ∧ RelV x u
  | _, _, .cons r .nil => ⟨_, rfl, r⟩
theorem Vals.rep {xs : List V} {us : List Value} (h : Vals xs us) : ∀ k : Nat, Vals (List.replicate k xs).flatten (List.replicate k us).flatten
  | 0 => .nil
  | k + 1 => by
    rw [List.replicate_succ, List.replicate_succ, List.flatten_cons, List.flatten_cons]
    exact Vals.append h (Vals.rep h k)
theorem foldl_rep (its : List Value) : ∀ (k : Nat) (acc : List Value),
    List.foldl (fun x1 x2 => x1 ++ x2) acc.toArray (List.replicate k its.toArray) = (acc ++ (List.replicate k its).flatten).toArray
  | 0, acc => by simp
  | k + 1, acc => by
    have e : acc.toArray ++ its.toArray = (acc ++ its).toArray := by simp
    have e2 : (acc ++ its) ++ (List.replicate k its).flatten = acc ++ (List.replicate (k + 1) its).flatten := by
      rw [List.replicate_succ, List.flatten_cons, List.append_assoc]
    rw [← e2, ← foldl_rep its k (acc ++ its), ← e, List.replicate_succ, List.foldl_cons]

section
variable {X : Cx} {pins : List (Addr × Obj)} {σ : St} {H : Hp} {s : Shared} {l b : Addr} {xs ys zs : List V}

/-! ### the two steps: a tracked list is rewritten, a new list is laid -/
theorem Inv.lset {its its' : List Value} {n : Nat} {f : Array Value → Array Value} {t' : Nat} (I : Inv X pins σ H s) (hH : H l = some (.lst xs))
    (e : s.heap.get? l = some { cls := .type "list", data := .seq its.toArray n }) (hf : f its.toArray = its'.toArray) (hv : Vals ys its') (hz : ys.length ≤ sizeLine) :
    Inv X pins σ (upd H l (.lst ys)) { s with heap := s.heap.update l (Obj.mapSeq f), toks := t' } := by
  have q := PySem.IsL.update e f
  rw [hf] at q
  refine I.write (x := l) (e := l) (by rw [hH]; exact trivial) (.inl rfl) (fun b' u hb hu => (Heap.get?_update_other s.heap (Obj.mapSeq f) (Ne.symm hb)).trans hu) ⟨_, q⟩ ?_
  exact ⟨hz, its', _, hv, q⟩
theorem Inv.lnew {its : List Value} {t' : Nat} (I : Inv X pins σ H s) (hv : Vals ys its) (hz : ys.length ≤ sizeLine) :
    Inv X pins σ (upd H s.heap.objs.size (.lst ys)) { s with heap := s.heap.push { cls := .type "list", data := .seq its.toArray }, toks := t' } :=
  I.laid (fun _ _ q => Heap.get?_push_of_some _ q) (Nat.le_refl _) ⟨hz, its, 0, hv, Heap.get?_push_size _ rfl⟩
theorem Inv.fresh (I : Inv X pins σ H s) : H s.heap.objs.size = none := I.hok.fresh (Nat.le_refl _)
theorem Inv.lstM (I : Inv X pins σ H s) (hH : H l = some (.lst xs)) : xs.length ≤ sizeLine ∧ ∃ (its : List Value) (n : Nat), Vals xs its ∧ xs.length = its.length ∧ s.heap.get? l = some { cls := .type "list", data := .seq its.toArray n } := by
  obtain ⟨z, its, n, r, e⟩ := I.hok l _ hH
  exact ⟨z, its, n, r, r.length, e⟩

theorem notLongL {n : Nat} (h : n ≤ sizeLine) : Builtin.List.listTooLong n = false := by
  unfold Builtin.List.listTooLong
  exact decide_eq_false (by omega)
end

section
variable {X : Cx}

/-! ### methods -/
def rAppend : V → List V → Hp → VK → Prop := fun x vs H Q => ∃ l xs y, x = .ref l ∧ vs = [y] ∧ H l = some (.lst xs) ∧ xs.length < sizeLine ∧ Q .non (upd H l (.lst (xs ++ [y])))
theorem mt_append : MtM X "list.append" rAppend := by
  intro pins s σ H x vs v us Q I rx rv h
  obtain ⟨l, xs, y, rfl, rfl, hH, hz, q⟩ := h
  cases rx
  obtain ⟨u, rfl, ru⟩ := rv.one
  obtain ⟨z, its, n, r, hl, e⟩ := I.lstM hH
  refine call_meets F.slot_list_append ⟨_, e, rfl⟩ F.entry_list_append (F.args_list_append_2 _ _) (PySem.list_append l its.toArray n u (by rw [List.size_toArray]; omega)) ⟨e, ?_⟩
  refine ⟨.non, _, I.lset (its' := its ++ [u]) hH e (by simp) (r.append (.cons ru .nil)) ?_, rfl, q⟩
  rw [List.length_append, List.length_singleton]
  omega






/-! ### list + list, list += list, list * int -/
def rCat : R2 := fun x y H Q => ∃ l b xs zs, x = .ref l ∧ y = .ref b ∧ H l = some (.lst xs) ∧ H b = some (.lst zs) ∧ xs.length + zs.length ≤ sizeLine ∧ ∀ p, H p = none → Q (.ref p) (upd H p (.lst (xs ++ zs)))
theorem op_cat : OpR X (binaryOp .Add) rCat := by
  intro pins s σ H x y v u Q I rx ry h
  obtain ⟨l, b, xs, zs, rfl, rfl, hH, hB, hz, q⟩ := h
  cases rx
  cases ry
  obtain ⟨z, its, n, r, hl, e⟩ := I.lstM hH
  obtain ⟨z2, its2, n2, r2, hl2, e2⟩ := I.lstM hB
  refine PySem.P.add_list e e2 ?_ (by rw [List.size_toArray, List.size_toArray]; omega)
  have ea : its.toArray ++ its2.toArray = (its ++ its2).toArray := by simp
  rw [ea]
  exact ⟨.ref _, _, I.lnew (t' := s.toks) (r.append r2) (by rw [List.length_append]; omega), rfl, q _ I.fresh⟩
/-  a list times an int (a negative one is nothing) -/
def rRep : R2 := fun x y H Q => ∃ l k xs, x = .ref l ∧ y = .int k ∧ H l = some (.lst xs) ∧ -(2 ^ 63) ≤ k ∧ k < 2 ^ 63 ∧ xs.length * k.toNat ≤ sizeLine ∧
  ∀ p, H p = none → Q (.ref p) (upd H p (.lst (List.replicate k.toNat xs).flatten))
theorem len_rep {α : Type} (xs : List α) (k : Nat) : (List.replicate k xs).flatten.length = k * xs.length := by
  induction k with
  | zero => simp
  | succ k ih => rw [List.replicate_succ, List.flatten_cons, List.length_append, ih, Nat.succ_mul, Nat.add_comm]
theorem op_rep : OpR X (binaryOp .Mult) rRep := by
  intro pins s σ H x y v u Q I rx ry h
  obtain ⟨l, k, xs, rfl, rfl, hH, h1, h2, hz, q⟩ := h
  cases rx
  obtain ⟨t, rfl⟩ := ry
  obtain ⟨z, its, n, r, hl, e⟩ := I.lstM hH
  have hlen : its.toArray.size * k.toNat ≤ sizeLine := by rw [List.size_toArray, ← hl]; exact hz
  have hcap : ¬ its.toArray.size * k.toNat > (2 ^ 63 - 1) / 8 := by
    have : (sizeLine : Nat) ≤ (2 ^ 63 - 1) / 8 := by decide
    omega
  have hfit : ¬ (!Builtin.List.listFitsIndex k) = true := by
    rw [fitsIndex_both h1 h2]
    exact Bool.false_ne_true
  have hlong : ¬ Builtin.List.listTooLong (its.toArray.size * k.toNat) = true := by
    rw [notLongL hlen]
    exact Bool.false_ne_true
  have hnew : List.foldl (fun x1 x2 => x1 ++ x2) #[] (List.replicate (if its.toArray.isEmpty = true then 0 else k.toNat) its.toArray) = (List.replicate k.toNat its).flatten.toArray := by
    have f0 : ∀ m : Nat, List.foldl (fun x1 x2 => x1 ++ x2) #[] (List.replicate m its.toArray) = (List.replicate m its).flatten.toArray := fun m => by
      have := foldl_rep its m []
      rw [List.nil_append] at this
      exact this
    rw [f0]
    cases its with
    | nil => simp
    | cons a r' => rw [if_neg (by simp)]
  refine wpAny_binaryOp_repeat_ref (T := "list") (U := "int") (by decide) ⟨_, e, rfl⟩ (fun s' => typeIs_int s' k t) noFill_list_mul F.fills_int_mul F.slot_int_rmul repeat_list F.slot_int_index.lookup
    (call_meets F.slot_int_rmul (typeIs_int s k t) F.entry_int_rmul (F.args_int_rmul_2 _ _) (int___rmul___int_list k t l its.toArray n)
      ⟨e, rfl, ⟨_, e, rfl⟩, call_meets F.slot_list_mul ⟨_, e, rfl⟩ F.entry_list_mul (F.args_list_mul_2 _ _) (AutoListH.list___mul___list_int_3 l its.toArray n k t hfit hcap hlong) ⟨e, ?_⟩⟩)
  rw [hnew]
  exact ⟨.ref _, _, I.lnew (t' := s.toks) (r.rep k.toNat) (by rw [len_rep, Nat.mul_comm]; exact hz), rfl, q _ I.fresh⟩

/-! ### del xs[i] -/
end

/-! ### xs[a:b] = ys -/
section
variable {prog : Program} {w : World} {A : Around} {E : Value → Shared → Prop} {s : Shared}
set_option maxRecDepth 100000 in
end

section
variable {X : Cx}
end
end L2

namespace L2
open PySem PySem.Spec PyProof.Rows

/-! ### lists of pairs as tables -/
section
variable {κ : Type} [DecidableEq κ]
def valV (kvs : List (κ × V)) (k : κ) : Option V := (kvs.find? fun kv => decide (kv.1 = k)).map (·.2)
/-  in its place, or at the end -/
def putK (kvs : List (κ × V)) (k : κ) (v : V) : List (κ × V) :=
  if (kvs.any fun kv => decide (kv.1 = k)) = true then kvs.map (fun kv => if kv.1 = k then (kv.1, v) else kv) else kvs ++ [(k, v)]
def dropK (kvs : List (κ × V)) (k : κ) : List (κ × V) := kvs.filter fun kv => decide (kv.1 ≠ k)



end


/-! ### a tracked dict, its keys ints and texts or tuples of these -/


section
variable {P : Program} {w : World} {H : Hp} {h : Heap} {a : Addr}
end

/-  what the dict at a holds at the key y -/
def DGet (H : Hp) (a : Addr) (y : V) (r : Option V) : Prop :=
  (∃ kvs k, Rd H a (.dK kvs) ∧ y = kV k ∧ r = valV kvs k) ∨ ∃ kvs k b, Rd H a (.dT kvs) ∧ y = .ref b ∧ H b = some (.tup (k.map nV)) ∧ r = valV kvs k
/-  the heap behind a[y] = v -/
def DPut (H : Hp) (a : Addr) (y v : V) (H' : Hp) : Prop :=
  (∃ kvs k, H a = some (.dK kvs) ∧ y = kV k ∧ kvs.length < sizeLine ∧ H' = upd H a (.dK (putK kvs k v))) ∨
  ∃ kvs k b, H a = some (.dT kvs) ∧ y = .ref b ∧ H b = some (.tup (k.map nV)) ∧ kvs.length < sizeLine ∧ H' = upd H a (.dT (putK kvs k v))


section
variable {X : Cx} {pins : List (Addr × Obj)} {σ : St} {H : Hp} {s : Shared} {a : Addr} {y v : V} {u r : Value} {o : Option V} {A : Around} {E : Value → Shared → Prop}


end

section
variable {X : Cx} {pins : List (Addr × Obj)} {σ : St} {H : Hp} {s : Shared} {a : Addr} {kvs : List (Key × V)} {k : Key} {u : Value} {A : Around} {E : Value → Shared → Prop}
end


/-! ### readings and rules -/


/-  d[y] -/
def tDGet (td ty : TE) : TE := fun σ H Q => td σ H fun x H1 => ty σ H1 fun y H2 => ∃ a v, x = .ref a ∧ DGet H2 a y (some v) ∧ Q v H2
/-  y in d, y not in d -/
def tDIn (ty td : TE) : TE := fun σ H Q => ty σ H fun y H1 => td σ H1 fun x H2 => ∃ a o, x = .ref a ∧ DGet H2 a y o ∧ Q (.bl o.isSome) H2
def tDNotIn (ty td : TE) : TE := fun σ H Q => ty σ H fun y H1 => td σ H1 fun x H2 => ∃ a o, x = .ref a ∧ DGet H2 a y o ∧ Q (.bl (!o.isSome)) H2
/-  d[y] = v -/
def sDPut (td ty tv : TE) : TS := fun D σ H => tv σ H fun v H1 => td σ H1 fun x H2 => ty σ H2 fun y H3 => ∃ a H4, x = .ref a ∧ DPut H3 a y v H4 ∧ D.nx σ H4

section
variable {X : Cx} {o i e value : Expr} {pos pos' tpos : Pos} {td ty tv : TE}
end


/-! ### displays -/
/-  {}, to be a dict of the kind that is wanted -/
def tDNewK : TE := fun _ H Q => ∀ p, H p = none → Q (.ref p) (upd H p (.dK []))
section
variable {X : Cx} {pos : Pos}
end

/-  the pairs of a display, from the left -/
def tPairs : List (TE × TE) → St → Hp → (List (V × V) → Hp → Prop) → Prop
  | [], _, H, Q => Q [] H
  | (tk, tv) :: r, σ, H, Q => tk σ H fun x H1 => tv σ H1 fun y H2 => tPairs r σ H2 fun ps H3 => Q ((x, y) :: ps) H3
abbrev VV : List (V × V) → List (Value × Value) → Prop := Paired fun p q => RelV p.1 q.1 ∧ RelV p.2 q.2
def PPs (X : Cx) (pos : Pos) (keys : List (Option Expr)) (values : List Expr) (trs : List (TE × TE)) : Prop :=
  ∀ (pins : List (Addr × Obj)) (s : Shared) (σ : St) (H : Hp) (Q : List (V × V) → Hp → Prop), Inv X pins σ H s → tPairs trs σ H Q →
    wpAny (model X.prog X.w) X.A (evalPairs (pairTrees keys values X.env pos)) (fun vs s' => ∃ ps H', Inv X pins σ H' s' ∧ VV ps vs ∧ Q ps H') X.xe s

def mergeK (kvs more : List (Key × V)) : List (Key × V) := more.foldl (fun acc kv => putK acc kv.1 kv.2) kvs
/-  {k: v, ..} with keys ints and texts; the new dict stands empty while the pairs are made -/
def tDisp (trs : List (TE × TE)) : TE := fun σ H Q => ∀ p, H p = none → tPairs trs σ (upd H p (.dK [])) fun ps H2 => H2 p = some (.dK []) ∧ ∃ kvs : List (Key × V), ps = kvs.map (fun kv => (kV kv.1, kv.2)) ∧ kvs.length ≤ 15 ∧ Q (.ref p) (upd H2 p (.dK (mergeK [] kvs)))


/-! ### methods -/
/-  a method call o.m(e) of a built-in, with one argument: what must be seen of the text -/
structure M1 (X : Cx) (o : Expr) (m : Str) (apos : Pos) (e : Expr) (cpos : Pos) : Prop where
  base : attributeBase o m X.env (eval o X.env) = eval o X.env
  few : ((backTo cpos (starEach [e] X.env)).all (fun x => !x.1) && (backToKw cpos (keywordEach [] X.env)).all (fun x => x.1.isSome)
    && decide (([e] : List Expr).length + ([] : List Keyword).length + (if ([] : List Keyword).isEmpty then 0 else 1) < 30)) = true
  line : (apos.endLine == cpos.line) = true
  trees : backTo cpos (starEach [e] X.env) = [(false, eval e X.env)]
structure M2 (X : Cx) (o : Expr) (m : Str) (apos : Pos) (e f : Expr) (cpos : Pos) : Prop where
  base : attributeBase o m X.env (eval o X.env) = eval o X.env
  few : ((backTo cpos (starEach [e, f] X.env)).all (fun x => !x.1) && (backToKw cpos (keywordEach [] X.env)).all (fun x => x.1.isSome)
    && decide (([e, f] : List Expr).length + ([] : List Keyword).length + (if ([] : List Keyword).isEmpty then 0 else 1) < 30)) = true
  line : (apos.endLine == cpos.line) = true
  trees : backTo cpos (starEach [e, f] X.env) = [(false, eval e X.env), (false, eval f X.env)]


section
variable {X : Cx} {pins : List (Addr × Obj)} {σ : St} {H : Hp} {s : Shared} {a : Addr} {y d : V} {u r : Value} {o : Option V} {A : Around} {E : Value → Shared → Prop}
end

section
variable {X : Cx} {o e f : Expr} {apos cpos : Pos} {td ty tx : TE}
end

/-! ### dict(d): a copy -/
section
variable {X : Cx} {pins : List (Addr × Obj)} {σ : St} {H : Hp} {s : Shared} {a : Addr} {kvs : List (Key × V)} {A : Around} {E : Value → Shared → Prop}
end


section
variable {X : Cx} {pins : List (Addr × Obj)} {σ : St} {H : Hp} {s : Shared} {a : Addr} {y : V} {u : Value} {A : Around} {E : Value → Shared → Prop}
end
end L2

namespace Att
open PySem PySem.W PySem.Calls PyProof.Rows

/-! ### the script -/
theorem ints_of_wellAll {P : Params} {h : Heap} : ∀ (ns : List Int) (vs : List Value), WellAll P h vs (ns.map WData.int) → IntsAre vs ns := by
  intro ns
  induction ns with
  | nil =>
    intro vs w
    rw [List.map_nil] at w
    cases w
    exact .nil
  | cons n ns ih =>
    intro vs w
    rw [List.map_cons] at w
    cases w with
    | cons a b =>
      cases a
      exact .cons _ _ (ih _ b)

theorem script_of {l : OpenLaw} {n : Nat} (hn : l.most = some n) {P : Params} {h : Heap} {args : List WData} {vals : List Value}
    (hpre : l.row.toRowW.claim.pre args = true) (hwl : WellAll P h vals args) :
    ∃ a vs ns, vals = [Value.ref a] ∧ args = [WData.list (ns.map WData.int)] ∧ h.get? a = some { cls := .type "list", data := .seq vs.toArray } ∧ IntsAre vs ns ∧ ns.length ≤ n := by
  have hsh : WShape.hasAll [] args [.list .int] = true := (pre_splitW hpre).1
  have hc : l.pre.holds [] { args := args } = true := (pre_splitW hpre).2
  obtain ⟨d, r, rfl, h1, h2⟩ := hasAllW_cons hsh
  obtain rfl := hasAllW_nil h2
  obtain ⟨xs, rfl, h3⟩ := hasW_list h1
  obtain ⟨ns, rfl⟩ := items_int h3
  have hlen : ns.length ≤ n := by
    unfold OpenLaw.pre at hc
    have h4 : (WTm.not (.lt (.lit (.int (n : Int))) (.len (.arg 0)))).holds [] { args := [.list (ns.map .int)] } = true := by
      have h4 := (holds_andW hc).1
      rw [hn] at h4
      exact h4
    have h5 := condW_of h4 (w_not (w_lt w_lit (w_len_list (w_arg rfl))))
    rw [List.length_map] at h5
    refine Nat.le_of_not_lt fun q => ?_
    have q' : (n : Int) < ((ns.length : Nat) : Int) := by omega
    first
      | (rw [decide_eq_true q'] at h5; exact absurd h5 (by decide))
      | (simp at h5; omega)
  cases hwl with
  | cons w1 w2 =>
    cases w2
    cases w1 with
    | list ho hall => exact ⟨_, _, ns, rfl, rfl, ho, ints_of_wellAll ns _ hall, hlen⟩

theorem post_true (l : OpenLaw) (args : List WData) : l.row.toRowW.claim.post args (.bool true) args = true :=
  postW_of (r := l.row.toRowW) (X := (true == true))
    (show WShape.has [] (.bool true) .bool = true by first | rfl | decide | simp [WShape.has, WShape.arms, WShape.armsAll])
    (show (WTm.eq .res (.lit (.bool true))).value [] { args := args, res := some (.bool true), after := args } = some (.bool (true == true)) from w_eq_bool (w_res rfl) w_lit) rfl

/-! ### the attachment: holds_open's last premise (the goal 'hc' behind k_head) from a wpAny of the law's body -/

/-  the same from a codeAny of the CALL (for a layer whose function contracts speak of calls) -/
theorem attach_call {l : OpenLaw} {n : Nat} {q : Program} {loose : List Str} {XP : (Str → Option Value) → Heap → Prop} {YP : World → Heap → Prop} {d : DefRec}
    (hn : l.most = some n) (hdf : d.params.defaults = [])
    (call : ∀ (w : World) (s₀ s₁ : Shared) (mg mb : Str → Option Value) (fa : Addr) (o : Obj) (pm cd doc : Value) (a : Addr) (vs : List Value) (ns : List Int),
      Ground q loose [] XP w s₀ mg mb s₁.heap → YP w s₁.heap →
      s₁.heap.get? fa = some o → o.data = .func (docDef d.name d.params d.body d.scope pm cd doc) → s₁.heap.CodeRec cd d.name → mg d.name = some (.ref fa) →
      s₁.heap.get? a = some { cls := .type "list", data := .seq vs.toArray } → IntsAre vs ns → ns.length ≤ n → s₁.gens = #[] →
      codeAny (model l.prog w) callerA (.call (.ref fa) ⟨[.ref a], []⟩) (fun r s' => r = .ok (.ret (.bool true)) ∧ OldK s₁.heap s'.heap ∧ s'.os = s₁.os ∧ AllBare s'.gens) s₁) :
    WalkO q loose XP YP l.row.toRowW d [] (fun f vs => PySem.call f vs) := by
  intro w s₀ s₁ mg mb G Y fa o pm cd doc dV kV ho hd hcd hD hmg hg args vals as hpre hlay hrd hwl hlo
  obtain rfl : dV = .none := Dflts.none hD hdf
  obtain rfl : kV = .none := Dflts.noKw hD
  obtain ⟨a, vs, ns, rfl, rfl, hobj, hints, hlen⟩ := script_of hn hpre hwl
  refine enter_call (codeAny_mono (call w s₀ s₁ mg mb fa o pm cd doc a vs ns G Y ho (fd_plain hd) hcd hmg hobj hints hlen hg) fun r s' hq => ?_)
  obtain ⟨rfl, h2, h3, h4⟩ := hq
  exact ⟨.inl ⟨.bool true, .bool true, [], rfl, fun _ => rfl, .bool true, post_true l _, fun _ => ⟨List.Pairwise.nil, fun _ hm => (nomatch hm)⟩⟩, h2, h3, h4⟩


/-! ### rules over ANY heap (no ledger) from facts about the written part K: the library's own take a ledger (News) for what they write -/
section
variable {prog : Program} {w : World} {A : Around} {E : Value → Shared → Prop} {s : Shared} {K : Frag}


/-  C(..): dict at size, instance at size + 1, then __init__ -/
theorem make_obj {R : Result → Shared → Prop} {C fI : Addr} {rest : List Value} {kw : List (Str × Value)}
    (X : K.In s.heap) (hm : makesIn K C = true) (hi : findIn K (.ref C) "__init__" = some (some (.ref fI))) (hf : isFn K (.ref fI) = true)
    (h : codeAny (model prog w) (A.under (.builtin "type.__call__" ⟨.ref C :: rest, kw⟩)) (.call (.ref fI) ⟨.ref (s.heap.objs.size + 1) :: rest, kw⟩) (InitBack (s.heap.objs.size + 1) R)
      { s with heap := (s.heap.push emptyDict).push (instObj C s.heap.objs.size) }) : codeAny (model prog w) A (.call (.ref C) ⟨rest, kw⟩) R s := by
  obtain ⟨hh, g, d, t, os⟩ := s
  exact make_core (makes_of X hm) (looks_findIn X hi) (fun self => bind_fn X self (beq_iff_eq.mp hf)) (.inl rfl) h

/-  x.name where the instance's dict holds the name and the class does not -/
theorem get_field {x C : Addr} {ox : Obj} {es : List DictEntry} {n : Nat} {name : Str} {expr : Bool} {v : Value} {Q : Value → Shared → Prop}
    (X : K.In s.heap) (I : PySem.W.InstAt s.heap x ox C (some (dictOf es n))) (hg : plainGet K C name = true) (hh : hasDictIn K C = true) (ha : findIn K (.ref C) name = some none)
    (hl : getL name es = some (some v)) (hv : handedIn v = true) (h : Q v { s with toks := s.toks + 1 }) : wpAny (model prog w) A (getAttr (.ref x) name expr) Q E s :=
  get_value X I (plainGet_of hg).1 (findObj_own hh ha rfl hl) hv h


/-! the whole heap as the ledger: makes every rule that writes through a ledger a rule over any heap -/

end
end Att

namespace L2
open PySem PySem.Spec PyProof.Rows

theorem vals_ints : ∀ {vs : List Value} {ns : List Int}, IntsAre vs ns → Vals (ns.map V.int) vs
  | _, _, .nil => .nil
  | _, _, .cons n t h => .cons ⟨t, rfl⟩ (vals_ints h)

/-  nothing is tracked but the script, known to the object (or it is an object of the module) -/
def Only (H : Hp) : Prop := ∀ b, H b = none ∨ ∃ o xs, H b = some (.frz o (.lst xs))

/-  THE HEAD: the law's promise, at the heap behind the top. F, the promise of the law's def, may use that base is part of the heap (so K.In base, base.Ns mainGlobals mg stand in Mod) -/
theorem law_call {P : Program} {w : World} {K : PySem.W.Frag} {mg mb : Str → Option Value} {CX : CXT} {k : Nat} {fa a : Addr} {fd : FuncData} {x : Str} {sp : Sp} {s₁ : Shared} {vs : List Value} {ns : List Int}
    (KX : K.In s₁.heap) (hns : s₁.heap.Ns mainGlobals mg) (hb : s₁.heap.Ns builtinsNs mb) (hbb : ∀ x : Str, x ≠ "__name__" → mb x = bootBuiltins x) (hlim : s₁.heap.NoLimit) (hg : s₁.gens = #[])
    (ha : s₁.heap.get? a = some { cls := .type "list", data := .seq vs.toArray }) (hi : IntsAre vs ns) (hl : ns.length ≤ sizeLine) (hr : Room k callerA)
    (F : ∀ base : Heap, K.In base → base.Ns mainGlobals mg → FnOk P w K mg base CX k fa fd [x] sp) (hbind : ∀ (s : Shared) (u : Value), BindsTo s fd ⟨[u], []⟩ [(x, u)])
    (hsp : ∀ H : Hp, Only H → SqL K H a (ns.map V.int) → sp [.ref a] H (fun v _ => v = .bl true) fun _ _ _ => False)
    (hCX : ∀ H e s', CX [] H s₁ (fun _ _ _ => False) e s' → False) :
    codeAny (model P w) callerA (.call (.ref fa) ⟨[.ref a], []⟩) (fun r s' => r = .ok (.ret (.bool true)) ∧ OldK s₁.heap s'.heap ∧ s'.os = s₁.os ∧ AllBare s'.gens) s₁ := by
  have rv := vals_ints hi
  have lenV := hi.length
  -- from an abstract heap in which nothing but the script may be tracked
  have core : ∀ H : Hp, Only H → SqL K H a (ns.map V.int) → HOk P w H s₁.heap → (∀ b, H b ≠ none → b = a) → (H a ≠ none → K.lookup a = none) →
      codeAny (model P w) callerA (.call (.ref fa) ⟨[.ref a], []⟩) (fun r s' => r = .ok (.ret (.bool true)) ∧ OldK s₁.heap s'.heap ∧ s'.os = s₁.os ∧ AllBare s'.gens) s₁ := by
    intro H hO hS hok hA hK
    have base_of : ∀ {b : Addr} {o : Obj}, s₁.heap.get? b = some o → H b = none → (hidT s₁.heap H).get? b = some o := fun e n => hidT_get e n
    have noA : ∀ {b : Addr} {o : Obj} {es : Array DictEntry} {ep : Nat}, s₁.heap.get? b = some o → o.data = .dict es ep → H b = none := fun {b o es ep} e d => by
      cases q : H b with
      | none => rfl
      | some u =>
        have e' : b = a := hA b (by rw [q]; simp)
        subst e'
        rw [ha] at e; cases e
        have d' : Data.seq vs.toArray _ = Data.dict es ep := d
        cases d'
    have nsK : ∀ {b : Addr} {m : Str → Option Value}, s₁.heap.Ns b m → (hidT s₁.heap H).Ns b m := fun {b m} ⟨o, es, ep, e, d, r⟩ => ⟨o, es, ep, base_of e (noA e d), d, r⟩
    have hKb : K.In (hidT s₁.heap H) := fun b o e => base_of (KX b o e) (by
      cases q : H b with
      | none => rfl
      | some u =>
        have e' : b = a := hA b (by rw [q]; simp)
        subst e'
        rw [hK (by rw [q]; simp)] at e; cases e)
    have hM : Mod K mg (hidT s₁.heap H) := ⟨hKb, nsK hns, ⟨mb, nsK hb, hbb⟩, let ⟨mc, h1, h2⟩ := hlim; ⟨mc, nsK h1, h2⟩⟩
    have e0 : Env0 P w K mg (hidT s₁.heap H) callerA [] s₁ H := ⟨rfl, hM, fun b o e => of_hidT e, Nat.le_of_eq (hidT_size _ _), trivial, fun b hb => absurd (show b ∈ ([] : List Addr) from hb) (by simp), hok, .of_eq hg⟩
    refine codeAny_mono ((F _ hKb (nsK hns)).run callerA [] s₁ H ⟨[.ref a], []⟩ [.ref a] [.ref a] _ _ hr e0 (hbind s₁ (.ref a)) (.cons rfl .nil) (hsp H hO hS)) fun r s' h => ?_
    cases r with
    | error e => exact (hCX H e s' h).elim
    | ok fl =>
      cases fl with
      | next => exact False.elim h
      | brk => exact False.elim h
      | cont => exact False.elim h
      | ret u =>
        obtain ⟨v, H', os, bare, un, hok', r', q⟩ := h
        have q' : v = .bl true := q
        subst q'
        obtain rfl : u = Value.bool true := r'
        refine ⟨rfl, OldK.of_keep fun b o e => ?_, os, bare⟩
        cases q : H b with
        | none => exact un.keep b o e q (by intro z; exact absurd (show b ∈ ([] : List Addr) from z) (by simp)) (by simp)
        | some u =>
          rcases hO b with z | ⟨ob, xs, z⟩
          · rw [q] at z; cases z
          · have z2 := un.frzs b ob _ z
            obtain ⟨e1, _⟩ := hok b _ z
            obtain ⟨e2, _⟩ := hok' b _ z2
            rw [e] at e1; cases e1
            exact e2
  cases hk : K.lookup a with
  | some o =>
    -- the script is one of the module's own objects
    have e := KX a o hk
    rw [ha] at e
    cases e
    refine core (fun _ => none) (fun _ => .inl rfl) (.inr ⟨_, vs.toArray, _, hk, rfl, rfl, rfl, by rw [List.size_toArray, lenV]; exact hl, by simpa using rv⟩) (fun b u z => by have z' : (none : Option HO) = some u := z; cases z') (fun b z => absurd rfl z) fun z => absurd rfl z
  | none =>
    refine core (fun b => if b = a then some (.frz { cls := .type "list", data := .seq vs.toArray } (.lst (ns.map V.int))) else none) (fun b => ?_) (.inl (.inr ⟨{ cls := .type "list", data := .seq vs.toArray }, if_pos rfl⟩)) (fun b u z => ?_) (fun b z => ?_) fun _ => hk
    · by_cases hb : b = a
      · exact .inr ⟨_, _, if_pos hb⟩
      · exact .inl (if_neg hb)
    · by_cases hb : b = a
      · have z' := (if_pos hb).symm.trans z
        cases z'
        subst hb
        exact ⟨ha, by rw [List.length_map]; exact hl, vs, _, rv, ha⟩
      · have z' := (if_neg hb).symm.trans z
        cases z'
    · by_cases hb : b = a
      · exact hb
      · exact absurd (if_neg hb) z
end L2

namespace L2
open PySem PySem.Spec PyProof.Rows

abbrev KOf {K : PySem.W.Frag} {h : Heap} (_ : K.In h) : PySem.W.Frag := K

/-  the goal that k_head leaves (case hc), from the law's promise. F gives the function object fd (K's own) once, then the promise over every base -/
theorem walk_of {l : PySem.W.OpenLaw} {n k : Nat} {q : Program} {loose : List Str} {XP : (Str → Option Value) → Heap → Prop} {YP : World → Heap → Prop} {d : DefRec} {K : Params → PySem.W.Frag} {CX : World → CXT} {sp : World → Sp} {x : Str}
    (hn : l.most = some n) (hn2 : n ≤ sizeLine) (hdf : d.params.defaults = []) (hr : Room k callerA)
    (hY : ∀ (w : World) (h : Heap), YP w h → (K w.params).In h)
    (F : ∀ (w : World) (mg : Str → Option Value) (fa : Addr) (h : Heap), (K w.params).In h → h.Ns mainGlobals mg → mg d.name = some (.ref fa) →
      ∃ fd : FuncData, (∀ (s : Shared) (u : Value), BindsTo s fd ⟨[u], []⟩ [(x, u)]) ∧
        ∀ base : Heap, (K w.params).In base → base.Ns mainGlobals mg → FnOk l.prog w (K w.params) mg base (CX w) k fa fd [x] (sp w))
    (hsp : ∀ (w : World) (H : Hp) (a : Addr) (ns : List Int), ns.length ≤ n → Only H → SqL (K w.params) H a (ns.map V.int) → sp w [.ref a] H (fun v _ => v = .bl true) fun _ _ _ => False)
    (hCX : ∀ (w : World) (H : Hp) (s : Shared) (e : Value) (s' : Shared), CX w [] H s (fun _ _ _ => False) e s' → False) :
    PySem.W.WalkO q loose XP YP l.row.toRowW d [] (fun f vs => PySem.call f vs) := by
  refine Att.attach_call hn hdf fun w s₀ s₁ mg mb fa o pm cd doc a vs ns G Y ho hd hcd hmg hobj hints hlen hg => ?_
  have KX := hY w _ Y
  obtain ⟨fd, hb, hF⟩ := F w mg fa _ KX G.T.g hmg
  exact law_call KX G.T.g G.T.b G.T.builtins G.T.nolimit hg hobj hints (Nat.le_trans hlen hn2) hr hF hb (fun H hO hS => hsp w H a ns hlen hO hS) fun H e s' => hCX w H s₁ e s'
end L2

/- THE LAST THEOREM (shape; LID, My.* are yours):
   My.Adr: a structure of the addresses that your layer names (classes, functions); My.Txt K t: a structure (Prop) of the equations over K;
   My.txt_mk : {K} {implicit addresses ..} (e1 : nsIn K mainGlobals "law" = some (some (.ref f))) (e2 : K.lookup f = some ⟨oc, od, .func (fnOf "law" "law" params body scope dV kV doc pm an cdv ct), sl⟩) (e3 : codeIn K cdv "law" = true) .. : ∃ t, My.Txt K t

set_option maxRecDepth 100000 in
set_option maxHeartbeats 0 in
theorem PySem.Challenge.cw_LID_holds : PySem.Challenge.rw_LID.Holds := by
  w_on; o_law; k_head; (case hw => w_witness2)
  k_fill
  refine L2.walk_of (l := PySem.Challenge.rw_LID) (n := 63) (k := 40) (x := "script") (CX := fun w => ..) (sp := fun _ => My.sp_law) rfl (by decide) rfl ⟨rfl, by decide, by decide⟩ (fun w h Y => PySem.W.kIn_of Y) ?F ?S ?C
  case F =>
    intro w mg fa h KX G hmg
    have T : ∃ t, My.Txt (L2.KOf KX) t := by
      dsimp only [L2.KOf]                          -- K must stand as «<heap const> w.params» for k_is
      refine' My.txt_mk ?e1 ?e2 ?e3 ..
      (case e1 => PySem.W.k_is)                    -- in the order: a name -> its address -> its object -> its parts
      (case e2 => PySem.W.k_is)
      ..
    obtain ⟨t, T⟩ := T
    have e0 := hmg.symm.trans (PySem.W.mg_of KX G T.law)
    cases e0                                       -- fa is the law's own address
    exact ⟨_, fun s u => .of_eq rfl, fun base kb nb => My.law_fn T kb nb⟩     -- if «.of_eq rfl» comes too early: refine' ⟨_, ?b, fun base kb nb => My.law_fn T kb nb⟩; exact fun s u => .of_eq rfl
  case S => exact fun w H a ns hl hO hS => ..
  case C => exact ..
(the tactic k_is has no namespace: write k_is) -/

/-! SHORT WORDS over the layer: a def of the text, its body, what a loop and a test want. -/
namespace L2
open PySem PySem.Spec PyProof.Rows

/-! ### the text by places -/
def defArgs (s : Stmt) : Arguments := match s with
  | .FunctionDef _ a _ _ _ _ _ _ _ _ => a
  | _ => { posonlyargs := [], args := [], vararg := none, kwonlyargs := [], kw_defaults := [], kwarg := none, defaults := [] }
def defBody (s : Stmt) : List Stmt := match s with
  | .FunctionDef _ _ b _ _ _ _ _ _ _ => b
  | _ => []
def defScope (s : Stmt) : Scope := match s with
  | .FunctionDef _ _ _ _ _ _ sc _ _ _ => sc
  | _ => { kind := .function, names := [], isGenerator := false, isCoroutine := false }

/-! ### no exception leaves a def -/
abbrev CX0 : CXT := fun _ _ _ _ _ _ => False
abbrev E0 : XK := fun _ _ _ => False
theorem pass0 {X : Cx} : Passes CX0 X E0 := fun _ _ _ _ _ _ _ h => h.elim

/-! ### a def (or method) of the text as it stands behind the top -/
structure Fun (K : PySem.W.Frag) (x qual : Str) (st : Stmt) (f : Addr) (fd : FuncData) : Prop where
  ex : ∃ (oc : Value) (od : Option Addr) (kV doc pm : Value) (an : Option Addr) (cdv ct : Value) (osl : Array (Option Value)),
    fd = PySem.W.fnOf x qual (defArgs st) (defBody st) (defScope st) .none kV doc pm an cdv ct ∧ K.lookup f = some ⟨oc, od, .func fd, osl⟩ ∧ PySem.W.codeIn K cdv qual = true
  kp : PySem.W.keepIn K (.ref f) = true
section
variable {P : Program} {w : World} {K : PySem.W.Frag} {mg : Str → Option Value} {base : Heap}
/-  THE RULE for a def: its body as a term of rules, and the reading of that term -/
theorem Fun.ok {x qual : Str} {st : Stmt} {f : Addr} {fd : FuncData} {N ps : List Str} {k : Nat} {sp : Sp} (F : Fun K x qual st f fd) (S : FnScope N ps (defScope st)) (len : ∀ vs H Q E, sp vs H Q E → vs.length = ps.length)
    (hbody : ∀ (cdv : Value) (A : Around) (outer : List Env) (s : Shared) (H : Hp) (vs : List V) (Q : VK) (E : XK), Room k (A.deeper (envOfC qual (defScope st) s.heap.objs.size f cdv)) → sp vs H Q E →
      ∃ t, PSs (cxOf CX0 P w K mg base N qual (defScope st) f cdv A outer s H E).nox (defBody st) t ∧ t { nx := fun _ H' => Q .non H', rt := Q } (start N vs) H) : FnOk P w K mg base CX0 (k + 1) f fd ps sp := by
  obtain ⟨oc, od, kV, doc, pm, an, cdv, ct, osl, rfl, lk, hcd⟩ := F.ex
  refine fn_of lk hcd S len fun A outer s H vs Q E hr hsp => ?_
  obtain ⟨t, h, q⟩ := hbody cdv A outer s H vs Q E hr hsp
  exact ⟨t, h.nox, q⟩
/-  how its arguments bind (no defaults): h is «fun _ _ _ _ _ _ us hl => match us, hl with | [_, _], _ => rfl», one _ a parameter -/
theorem Fun.binds {x qual : Str} {st : Stmt} {f : Addr} {fd : FuncData} {ps : List Str} (F : Fun K x qual st f fd)
    (h : ∀ (kV doc pm : Value) (an : Option Addr) (cdv ct : Value) (us : List Value), us.length = ps.length → bindArgs (PySem.W.fnOf x qual (defArgs st) (defBody st) (defScope st) .none kV doc pm an cdv ct) ⟨us, []⟩ = pure (ps.zip us)) : Binds K fd ps [] := by
  obtain ⟨oc, od, kV, doc, pm, an, cdv, ct, osl, rfl, lk, hcd⟩ := F.ex
  exact .all (h kV doc pm an cdv ct)
theorem fun_mk {x qual : Str} {st : Stmt} {f : Addr} {oc : Value} {od an : Option Addr} {osl : Array (Option Value)} {kV doc pm cdv ct : Value} (l : K.lookup f = some ⟨oc, od, .func (PySem.W.fnOf x qual (defArgs st) (defBody st) (defScope st) .none kV doc pm an cdv ct), osl⟩)
    (c : PySem.W.codeIn K cdv qual = true) (k : PySem.W.keepIn K (.ref f) = true) : Fun K x qual st f (PySem.W.fnOf x qual (defArgs st) (defBody st) (defScope st) .none kV doc pm an cdv ct) := ⟨⟨oc, od, kV, doc, pm, an, cdv, ct, osl, rfl, l, c⟩, k⟩
end

/-! ### expressions in short: the name that stands in the i-th slot -/
section
variable {X : Cx}
end

/-! ### tests -/

/-! ### heaps -/
/-  all that was tracked is as it was -/
def Same (H H' : Hp) : Prop := ∀ b o, H b = some o → H' b = some o
theorem Same.refl (H : Hp) : Same H H := fun _ _ h => h
theorem Same.trans {H H1 H2 : Hp} (a : Same H H1) (b : Same H1 H2) : Same H H2 := fun c o h => b c o (a c o h)
theorem Same.seq {K : PySem.W.Frag} {H H' : Hp} {a : Addr} {xs : List V} (e : Same H H') (h : SqL K H a xs) : SqL K H' a xs := by
  rcases h with (h | ⟨o, h⟩) | h
  · exact .inl (.inl (e _ _ h))
  · exact .inl (.inr ⟨o, e _ _ h⟩)
  · exact .inr h

end L2

namespace L2
open PySem PySem.Spec PyProof.Rows
section
variable {X : Cx}
end
/-! ### a dict's pairs: keys that differ -/
section
variable {κ : Type} [DecidableEq κ]
end
end L2
set_option maxHeartbeats 4000000
namespace L2
open PySem PySem.Spec PyProof.Rows

/-! ### list comprehensions -/
/-  the tests behind a comprehension's for -/
abbrev runIfs (ifs : List Expr) (env : Env) : Sem Bool :=
  forIn ifs true fun c r => if r = true then do let ok ← isTrue c env (eval c env); pure (ForInStep.yield ok) else pure (ForInStep.yield r)

theorem comp_loop {prog : Program} {w : World} {A : Around} {R : Result → Shared → Prop} {s : Shared} {elt tg iter : Expr} {ifs : List Expr} {scope : Scope} {pos : Pos} {it acc : Value} {env : Env} (I : Nat → Shared → Prop)
    (turn : ∀ n s, I n s → wpAny (model prog w) A (pyNext it) (fun r s1 => match r with
      | none => R (.ok .next) s1
      | some v => wpAny (model prog w) A (letOwnedTupleGo tg it v) (fun _ s2 => wpAny (model prog w) A (assign tg env v) (fun _ s3 => wpAny (model prog w) A (runIfs ifs env) (fun ok s4 =>
          if ok = true then wpAny (model prog w) A (eval elt env) (fun x s5 => wpAny (model prog w) A (call (.builtin "list.append") [acc, x]) (fun _ s6 => ∃ m, m < n ∧ I m s6) (fun _ _ => False) s5) (fun _ _ => False) s4
          else ∃ m, m < n ∧ I m s4) (fun _ _ => False) s3) (fun _ _ => False) s2) (fun _ _ => False) s1) (fun _ _ => False) s)
    (n : Nat) (h : I n s) : codeAny (model prog w) A (.compLoop (.ListComp elt [⟨tg, iter, ifs, 0⟩] scope pos) 0 it acc env) R s := by
  refine codeAny_loop rfl I (fun n s hI => ?_) n h
  show wpAny _ A ((compTurn (.ListComp elt [⟨tg, iter, ifs, 0⟩] scope pos) 0 it acc env).onRaise (fun x => do noteFrame x env; theTreesLotGoes x)) _ _ s
  refine wpAny_noted (wpAny_noRaise ?_)
  rw [compTurn_list]
  refine wpAny_bind (wpAny_standAt (wpAny_bind (thn (turn n s hI) fun r s1 h1 => ?_)))
  cases r with
  | none => exact wpAny_pure h1
  | some v =>
    refine wpAny_bind (thn h1 fun _ s2 h2 => wpAny_bind (thn h2 fun _ s3 h3 => wpAny_bind (thn h3 fun ok s4 h4 => ?_)))
    cases ok with
    | false => exact wpAny_pure ⟨rfl, h4⟩
    | true => exact wpAny_bind (wpAny_bind (thn h4 fun x s5 h5 => wpAny_bind (thn h5 fun _ s6 h6 => wpAny_pure (wpAny_pure ⟨rfl, h6⟩))))

/-  the cells that a comprehension's block sees -/
theorem closure_go (env : Env) : ∀ (names : List (Str × NameKind)) (cs : List (Str × Addr)), (∀ n, (n, NameKind.free) ∈ names → ∃ c, env.cells.lookup n = some c) → (∀ n c, cs.lookup n = some c → env.cells.lookup n = some c) →
    ∃ cl, (forIn names cs fun (p : Str × NameKind) (r : List (Str × Addr)) => (if p.2 == NameKind.free then do let c ← cellOf env p.1; pure (ForInStep.yield ((p.1, c) :: r)) else pure (ForInStep.yield r) : Sem (ForInStep (List (Str × Addr))))) = pure cl ∧
      (∀ n c, cl.lookup n = some c → env.cells.lookup n = some c) ∧ (∀ n, ((n, NameKind.free) ∈ names ∨ ∃ c, cs.lookup n = some c) → ∃ c, cl.lookup n = some c)
  | [], cs, _, hcs => ⟨cs, rfl, hcs, fun n h => h.elim (fun z => nomatch z) id⟩
  | (m, k) :: r, cs, hn, hcs => by
    cases hk : k == NameKind.free with
    | false =>
      obtain ⟨cl, e, h1, h2⟩ := closure_go env r cs (fun n z => hn n (List.mem_cons_of_mem _ z)) hcs
      refine ⟨cl, ?_, h1, fun n z => h2 n ?_⟩
      · rw [List.forIn_cons]; simp only [hk]; exact e
      · rcases z with z | z
        · rcases List.mem_cons.mp z with q | q
          · cases q; simp at hk
          · exact .inl q
        · exact .inr z
    | true =>
      have ek : k = NameKind.free := by simpa using hk
      subst ek
      obtain ⟨c, hc⟩ := hn m List.mem_cons_self
      obtain ⟨cl, e, h1, h2⟩ := closure_go env r ((m, c) :: cs) (fun n z => hn n (List.mem_cons_of_mem _ z)) (fun n c' z => by
        by_cases q : n = m
        · subst q; simp [List.lookup_cons] at z; subst z; exact hc
        · rw [List.lookup_cons, beq_eq_false_iff_ne.mpr q] at z; exact hcs n c' z)
      refine ⟨cl, ?_, h1, fun n z => h2 n ?_⟩
      · rw [List.forIn_cons]; simp only [cellOf, hc]; exact e
      · rcases z with z | ⟨c', z⟩
        · rcases List.mem_cons.mp z with q | q
          · cases q; exact .inr ⟨c, by simp [List.lookup_cons]⟩
          · exact .inl q
        · by_cases q : n = m
          · subst q; exact .inr ⟨c, by simp [List.lookup_cons]⟩
          · exact .inr ⟨c', by rw [List.lookup_cons, beq_eq_false_iff_ne.mpr q]; exact z⟩
theorem closure_of {scope : Scope} {env : Env} (hn : ∀ n, (n, NameKind.free) ∈ scope.names → ∃ c, env.cells.lookup n = some c) :
    ∃ cl, closureFor scope env = pure cl ∧ (∀ n c, cl.lookup n = some c → env.cells.lookup n = some c) ∧ (∀ n, (n, NameKind.free) ∈ scope.names → ∃ c, cl.lookup n = some c) := by
  obtain ⟨cl, e, h1, h2⟩ := closure_go env scope.names [] hn (fun _ _ z => nomatch z)
  refine ⟨cl, ?_, h1, fun n z => h2 n (.inl z)⟩
  unfold closureFor
  simp only [bind_pure]
  exact e
end L2
set_option maxHeartbeats 4000000
namespace L2
open PySem PySem.Spec PyProof.Rows

/-  a comprehension's names, held against those of the code around it: N its slots' names, rest the same as the block sees them -/
def relNames (names onames : List (Str × NameKind)) : List (Str × NameKind) :=
  names.map fun (n, k) => if (k == .free && onames.lookup n == some .cell) then (n, .cell) else (n, k)
def compOk (sc osc : Scope) (N rest : List Str) : Bool :=
  (sc.kind == .function && osc.kind == .function && sc.names.all fun y => y.2 != .cell && (y.2 != .local || sc.names.lookup y.1 == some .local) && (y.2 != .free || osc.names.lookup y.1 == some .cell || osc.names.lookup y.1 == some .free))
  && N.length == rest.length && (N.zip rest).all fun p => match (relNames sc.names osc.names).lookup p.2 with
    | some .local => false
    | some .cell => p.1 == p.2 && (p.2, NameKind.free) ∈ sc.names && (osc.names.lookup p.2 == some .cell || osc.names.lookup p.2 == some .free)
    | some .free => p.1 == p.2 && (p.2, NameKind.free) ∈ sc.names && (osc.names.lookup p.2 == some .cell || osc.names.lookup p.2 == some .free)
    | _ => true
structure CompSc (sc osc : Scope) (N rest : List Str) : Prop where
  kind : sc.kind = .function
  okind : osc.kind = .function
  cell : ∀ y ∈ sc.names, y.2 ≠ .cell
  loc : ∀ y ∈ sc.names, y.2 = .local → sc.names.lookup y.1 = some .local
  free : ∀ n, (n, NameKind.free) ∈ sc.names → osc.names.lookup n = some .cell ∨ osc.names.lookup n = some .free
  len : N.length = rest.length
  look : ∀ (i : Nat) x, rest[i]? = some x → ((relNames sc.names osc.names).lookup x = some .local ∨ (relNames sc.names osc.names).lookup x = some .cell ∨ (relNames sc.names osc.names).lookup x = some .free) →
    N[i]? = some x ∧ (x, NameKind.free) ∈ sc.names ∧ (osc.names.lookup x = some .cell ∨ osc.names.lookup x = some .free) ∧ ((relNames sc.names osc.names).lookup x = some .cell ∨ (relNames sc.names osc.names).lookup x = some .free)
theorem compOk_is {sc osc : Scope} {N rest : List Str} (h : compOk sc osc N rest = true) : CompSc sc osc N rest := by
  unfold compOk at h
  simp only [Bool.and_eq_true, beq_iff_eq, List.all_eq_true] at h
  obtain ⟨⟨⟨⟨hk, hok⟩, hy⟩, hl⟩, hz⟩ := h
  refine ⟨hk, hok, fun y z e => ?_, fun y z e => ?_, fun n z => ?_, hl, fun i x e v => ?_⟩
  · have := (hy y z).1.1; rw [e] at this; simp at this
  · have := (hy y z).1.2; rw [e] at this; simpa using this
  · have := (hy _ z).2; simpa using this
  · have hi : i < rest.length := (List.getElem?_eq_some_iff.mp e).1
    have hi' : i < N.length := by omega
    have hN : N[i]? = some N[i] := List.getElem?_eq_getElem hi'
    have hm : (N[i], x) ∈ N.zip rest := by
      refine List.mem_of_getElem? (i := i) ?_
      rw [List.getElem?_zip_eq_some]; exact ⟨hN, e⟩
    have q := hz _ hm
    dsimp only at q
    rcases v with v | v | v
    · rw [v] at q; simp at q
    · rw [v] at q; simp only [Bool.and_eq_true, beq_iff_eq, Bool.or_eq_true, decide_eq_true_eq] at q
      obtain ⟨⟨q1, q2⟩, q3⟩ := q
      exact ⟨by rw [hN, q1], q2, q3, .inl v⟩
    · rw [v] at q; simp only [Bool.and_eq_true, beq_iff_eq, Bool.or_eq_true, decide_eq_true_eq] at q
      obtain ⟨⟨q1, q2⟩, q3⟩ := q
      exact ⟨by rw [hN, q1], q2, q3, .inr v⟩
theorem relabel_names {sc : Scope} {env : Env} (hk : env.scope.kind = .function) : (relabel sc env).names = relNames sc.names env.scope.names := by
  unfold relabel relNames Env.kindOf
  simp [hk]
/-  a name that is a cell or free in the block was free in the comprehension's own table -/
theorem rel_free {names onames : List (Str × NameKind)} (hc : ∀ y ∈ names, y.2 ≠ .cell) {x : Str} (h : (relNames names onames).lookup x = some .cell ∨ (relNames names onames).lookup x = some .free) : (x, NameKind.free) ∈ names := by
  have hm : (x, NameKind.cell) ∈ relNames names onames ∨ (x, NameKind.free) ∈ relNames names onames := h.imp PySem.mem_of_lookup PySem.mem_of_lookup
  rcases hm with hm | hm
  · obtain ⟨⟨n, k⟩, hn, e⟩ := List.mem_map.mp hm
    dsimp only at e
    split at e
    · rename_i hh; cases e; simp at hh; obtain ⟨rfl, _⟩ := hh; exact hn
    · cases e; exact absurd rfl (hc _ hn)
  · obtain ⟨⟨n, k⟩, hn, e⟩ := List.mem_map.mp hm
    dsimp only at e
    split at e
    · cases e
    · cases e; exact hn

/-  the context of a comprehension's block -/
def compCx (X : Cx) (scope : Scope) (N' : List Str) (cl : List (Str × Addr)) (s2 : Shared) (H2 : Hp) (C : Addr) (fp : List Addr) : Cx :=
  { X with N := N', s₀ := s2, H₀ := H2, env := compEnvC scope cl C X.env, outer := X.stack, stack := X.stack, ex := fp, fn := fun _ => false, pn := [], xe := fun _ _ => False }

section
variable {X : Cx} {pins : List (Addr × Obj)} {σ : St} {H2 : Hp} {s2 : Shared} {scope : Scope} {own rest : List Str} {cl : List (Str × Addr)} {fp : List Addr} {C : Addr}
theorem compCx_ok (I : Inv X pins σ H2 s2) (S : CompSc scope X.env.scope X.N rest) (h1 : ∀ n c, cl.lookup n = some c → X.env.cells.lookup n = some c) (h2 : ∀ n, (n, NameKind.free) ∈ scope.names → ∃ c, cl.lookup n = some c)
    (hC : s2.heap.objs.size ≤ C) (hf : ∀ b ∈ fp, FpOk X pins H2 b) (ho : ∀ b ∈ fp, ∃ o, s2.heap.get? b = some o) : (compCx X scope (own ++ rest) cl s2 H2 C fp).Ok where
  mod := I.ok.mod
  kind := S.kind
  glob := I.ok.glob
  blt := I.ok.blt
  above := hC
  inj := fun x y c e1 e2 => I.ok.inj x y c (h1 x c e1) (h1 y c e2)
  has := fun x hx => h2 x (rel_free S.cell (by
    have e : (compCx X scope (own ++ rest) cl s2 H2 C fp).env.kindOf x = (relNames scope.names X.env.scope.names).lookup x := congrArg (List.lookup x) (relabel_names (sc := scope) I.ok.kind)
    rw [e] at hx; exact hx))
  cab := fun _ _ z => nomatch z
  hd := I.ok.hd
  frames := I.ok.frames
  stk := .inl rfl
  exf := fun b hb => by
    obtain ⟨o, e⟩ := ho b hb
    exact ⟨Nat.ne_of_lt (Nat.lt_of_lt_of_le (Heap.lt_size e) hC), fun x c e => (hf b hb).2.2.2.2.1 x c (h1 x c e)⟩
  bs := I.bs
  bsz := Nat.le_trans I.ok.bsz I.sz
  noex := fun b o e hb => by
    rcases (hf b hb).2.2.2.1 with z | z
    · exact I.ok.noex b o e z
    · exact absurd (Nat.lt_of_lt_of_le (Heap.lt_size e) (Nat.le_trans I.ok.bsz z)) (Nat.lt_irrefl _)
  exfs := fun b hb z => by
    rcases List.mem_cons.mp (I.stkSub b z) with q | q
    · exact (hf b hb).2.1 q
    · exact (hf b hb).2.2.1 q
  funs := I.stack
  frf := I.stkFree

/-  the block begins: D the list that grows (not tracked), C the block's names -/
theorem comp_start {h1 : Heap} {t1 : Nat} (I : Inv X pins σ H2 s2) (S : CompSc scope X.env.scope X.N rest) (hc1 : ∀ n c, cl.lookup n = some c → X.env.cells.lookup n = some c) (hc2 : ∀ n, (n, NameKind.free) ∈ scope.names → ∃ c, cl.lookup n = some c)
    (hC : s2.heap.objs.size ≤ C) (hf : ∀ b ∈ fp, FpOk X pins H2 b) (ho : ∀ b ∈ fp, ∃ o, s2.heap.get? b = some o)
    (old : ∀ b o, s2.heap.get? b = some o → h1.get? b = some o) (ns : h1.Ns C fun _ => none) :
    Inv (compCx X scope (own ++ rest) cl s2 H2 C fp) [] (List.replicate own.length none ++ σ) H2 { s2 with heap := h1, toks := t1 } := by
  obtain ⟨m, hn, hl⟩ := id I.loc
  have hv : ∀ x, Vis (compCx X scope (own ++ rest) cl s2 H2 C fp).env.scope x → ((relNames scope.names X.env.scope.names).lookup x = some .local ∨ (relNames scope.names X.env.scope.names).lookup x = some .cell ∨ (relNames scope.names X.env.scope.names).lookup x = some .free) := fun x z => by
    have e : (compCx X scope (own ++ rest) cl s2 H2 C fp).env.scope.names = relNames scope.names X.env.scope.names := relabel_names (sc := scope) I.ok.kind
    unfold Vis at z; rw [e] at z; exact z
  refine ⟨compCx_ok I S hc1 hc2 hC hf ho, rfl, I.bare, Un.kept old, ⟨_, ns, fun i x v e1 e2 e3 => ?_⟩, fun x c e => ?_, I.hok.fresh hC, fun x c e => I.freeC x c (hc1 x c e), fun p hp => absurd (show p ∈ ([] : List (Addr × Obj)) from hp) (by simp), I.hok.kept old, ?_⟩
  · have e1' : (own ++ rest)[i]? = some x := e1
    by_cases hi : i < own.length
    · rw [List.getElem?_append_left (by simpa using hi), List.getElem?_replicate] at e2
      split at e2 <;> cases e2
    · have hi' : own.length ≤ i := Nat.le_of_not_lt hi
      rw [List.getElem?_append_right (by simpa using hi'), List.length_replicate] at e2
      rw [List.getElem?_append_right hi'] at e1'
      obtain ⟨q1, q2, q3, q4⟩ := S.look _ x e1' (hv x e3)
      obtain ⟨u, r, l⟩ := hl (i - own.length) x v q1 e2 (q3.elim (fun z => .inr (.inl z)) fun z => .inr (.inr z))
      refine ⟨u, r, .inr ⟨?_, ?_⟩⟩
      · have e : (compCx X scope (own ++ rest) cl s2 H2 C fp).env.kindOf x = (relNames scope.names X.env.scope.names).lookup x := congrArg (List.lookup x) (relabel_names (sc := scope) I.ok.kind)
        rw [e]; exact q4
      · rcases l with ⟨k, _⟩ | ⟨_, c, e, z⟩
        · have k' : X.env.scope.names.lookup x = some .local := k
          rcases q3 with q3 | q3 <;> (rw [q3] at k'; cases k')
        · obtain ⟨c', e'⟩ := hc2 x q2
          have e2 := hc1 x c' e'
          rw [e] at e2; cases e2
          obtain ⟨o, q, d⟩ := z
          exact ⟨c, e', o, old c o q, d⟩
  · obtain ⟨v, o, q, d⟩ := I.cell x c (hc1 x c e)
    exact ⟨v, o, old c o q, d⟩
  · show _ = (own ++ rest).length
    have := I.len; have := S.len
    simp only [List.length_append, List.length_replicate]; omega

/-  the block has ended: the list is tracked, the names around are as they were -/
theorem comp_end {H' : Hp} {s' : Shared} {σ' : St} {D : Addr} {ys : List V} {its : List Value} {n : Nat} {pins' : List (Addr × Obj)} (I : Inv X pins σ H2 s2) (J : Inv (compCx X scope (own ++ rest) cl s2 H2 C fp) pins' σ' H' s') (hf : ∀ b ∈ fp, FpOk X pins H2 b)
    (hD : s2.heap.objs.size ≤ D) (hDn : H' D = none) (hDo : s'.heap.get? D = some { cls := .type "list", data := .seq its.toArray n }) (r : Vals ys its) (hz : ys.length ≤ sizeLine) :
    Inv X pins σ (upd H' D (.lst ys)) s' := by
  have u : Un (frs X.stack) fp H2 H' s2.heap s'.heap := J.base
  have nD : ∀ b o, s2.heap.get? b = some o → b ≠ D := fun b o e => Nat.ne_of_lt (Nat.lt_of_lt_of_le (Heap.lt_size e) hD)
  refine I.call' (ch := fp) J.os ⟨u.keep, u.slot, fun b o e n hx => ?_, u.there, fun b xs e => ?_, fun b o v e => ?_, fun b ps e => ?_⟩ (fun b o e => ?_) J.bare fun b hb => ?_
  · rw [upd_ne (nD b o e)]; exact u.free b o e n hx
  · rw [upd_ne (ne_of_none (u.tups b xs e) hDn)]; exact u.tups b xs e
  · rw [upd_ne (ne_of_none (u.frzs b o v e) hDn)]; exact u.frzs b o v e
  · obtain ⟨more, q⟩ := u.tbls b ps e
    exact ⟨more, by rw [upd_ne (ne_of_none q hDn)]; exact q⟩
  · by_cases hb : b = D
    · subst hb; rw [upd_same] at e; cases e; exact ⟨hz, its, n, r, hDo⟩
    · rw [upd_ne hb] at e
      exact (J.hok b o e).stay (fun c v _ q => q) (fun c q => by rw [upd_ne (ne_of_none q hDn)]; exact q) fun c xs q => by rw [upd_ne (ne_of_none q hDn)]; exact q
  · obtain ⟨_, f1, _, f3, f4, f5⟩ := hf b hb
    exact ⟨f3, f1, f4, f5⟩
end
end L2
set_option maxHeartbeats 4000000
namespace L2
open PySem PySem.Spec PyProof.Rows

/-  the tests behind for: none, or one -/
def PTs (X : Cx) (ifs : List Expr) (t : TT) : Prop :=
  ∀ (pins : List (Addr × Obj)) (s : Shared) (σ : St) (H : Hp) (Q : Bool → Hp → Prop), Inv X pins σ H s → t σ H Q → wpAny (model X.prog X.w) X.A (runIfs ifs X.env) (TP X pins σ Q) X.xe s
def tYes : TT := fun _ H Q => Q true H
theorem pts_nil {X : Cx} : PTs X [] tYes := fun _ _ _ H _ I h => wpAny_tests_nil ⟨H, I, h⟩

/-  what the walk of a comprehension is to show: W by the turn, a measure, the items so far, the block's names, the heap -/
def CompW (J : It) (g : TG) (tt : TT) (te : TE) (fin : List V → Hp → Prop) (σ0 : St) (H1 : Hp) : Prop :=
  ∃ W : Nat → Nat → List V → St → Hp → Prop, (∃ m, W 0 m [] σ0 H1) ∧ ∀ i m ys σ H, W i m ys σ H →
    (J.stop i H ∧ fin ys H) ∨ (J.go i H ∧ ys.length < sizeLine ∧ ∃ N : List V → St → Hp → Prop, (∀ ys' σ' H', N ys' σ' H' → ∃ m', m' < m ∧ W (i + 1) m' ys' σ' H') ∧
      ∀ x H', J.yld i H x H' → g x σ H' fun σ2 H2 => tt σ2 H2 fun b H3 => if b = true then te σ2 H3 fun y H4 => N (ys ++ [y]) σ2 H4 else N ys σ2 H3)

section
variable {X : Cx} {pins : List (Addr × Obj)} {σ : St} {H2 : Hp} {s2 : Shared} {scope : Scope} {own rest : List Str} {cl : List (Str × Addr)} {fp : List Addr} {E : Value → Shared → Prop}
theorem comp_run {elt tg iter : Expr} {ifs : List Expr} {pos : Pos} {J : It} {it : Addr} {tn : Nat → Heap → Prop} {g : TG} {tt : TT} {te : TE} {fin : List V → Hp → Prop} {RR : Value → Addr → Result → Shared → Prop} {D : Nat} (hD : s2.heap.objs.size = D) (hcalm : X.calm = true)
    (I : Inv X pins σ H2 s2) (S : CompSc scope X.env.scope X.N rest) (hc1 : ∀ n c, cl.lookup n = some c → X.env.cells.lookup n = some c) (hc2 : ∀ n, (n, NameKind.free) ∈ scope.names → ∃ c, cl.lookup n = some c)
    (T : Turn X.prog X.w X.K tg J fp it tn) (st : tn 0 s2.heap) (hf : ∀ b ∈ fp, FpOk X pins H2 b)
    (hg : PG (compCx X scope (own ++ rest) cl s2 H2 (D + 1 : Nat) fp) tg g) (ht : PTs (compCx X scope (own ++ rest) cl s2 H2 (D + 1 : Nat) fp) ifs tt)
    (he : PE (compCx X scope (own ++ rest) cl s2 H2 (D + 1 : Nat) fp) elt te)
    (hw : CompW J g tt te fin (List.replicate own.length none ++ σ) H2)
    (hR : ∀ (s' : Shared) (H' : Hp) (ys : List V), Inv X pins σ (upd H' D (.lst ys)) s' → (∃ m, s'.heap.Ns (D + 1 : Nat) m) → H' D = none → H' (D + 1 : Nat) = none → fin ys H' → RR (.ref D) (D + 1 : Nat) (.ok .next) s') :
    wpAny (model X.prog X.w) X.A (newList []) (fun acc s3 => wpAny (model X.prog X.w) X.A (newFunctionEnv scope X.env.globals cl [] X.env.qual none .none (some X.env)) (fun cenv s4 =>
      codeAny (model X.prog X.w) X.A (.compStart (.ListComp elt [⟨tg, iter, ifs, 0⟩] scope pos) 0 (.ref it) acc { cenv with scope := relabel scope X.env }) (RR acc cenv.locals) s4) E s3) E s2 := by
  refine wpAny_newObj_type (wpAny_newFunctionEnv S.cell (by intro y hy; simp at hy) (fun h1 hns hsb => ?_) S.kind)
  dsimp only at hns hsb ⊢
  generalize hHp : s2.heap.push { cls := .type "list", dict := none, data := .seq ([] : List Value).toArray } = Hp2 at hns hsb ⊢
  have hC : Hp2.objs.size = s2.heap.objs.size + 1 := by rw [← hHp, Heap.size_push]
  rw [hD] at hC
  rw [hC] at hns hsb ⊢
  rw [hD]
  have nDC : D ≠ D + 1 := Nat.ne_of_lt (Nat.lt_succ_self _)
  have below : ∀ b o, s2.heap.get? b = some o → b < D := fun b o e => by rw [← hD]; exact Heap.lt_size e
  have old : ∀ b o, s2.heap.get? b = some o → h1.get? b = some o := fun b o e => by
    exact hsb.extBut b o (Nat.ne_of_lt (Nat.lt_succ_of_lt (below b o e))) (Heap.get?_push_of_some _ (hHp ▸ Heap.get?_push_of_some _ e))
  have hDo : h1.get? D = some { cls := .type "list", data := .seq ([] : List Value).toArray 0 } :=
    hsb.extBut _ _ nDC (Heap.get?_push_of_some _ (by rw [← hHp, ← hD]; exact Heap.get?_push_size _ rfl))
  have hfo : ∀ b ∈ fp, ∃ o, s2.heap.get? b = some o := fun b hb => let ⟨o, e, _⟩ := T.obj 0 _ st b hb; ⟨o, e⟩
  have st1 : tn 0 h1 := T.keep _ _ _ st fun b hb o e => old b o e
  have J0 : Inv (compCx X scope (own ++ rest) cl s2 H2 (D + 1 : Nat) fp) [] (List.replicate own.length none ++ σ) H2 { s2 with heap := h1, toks := s2.toks } :=
    comp_start I S hc1 hc2 (by omega) hf hfo old hns
  have nfs : D ∉ (compCx X scope (own ++ rest) cl s2 H2 (D + 1 : Nat) fp).fs := fun z => by
    have z' : D ∈ frs X.stack := z
    rcases List.mem_cons.mp (I.stkSub D z') with q | q
    · exact Nat.lt_irrefl D (by have h := I.lt; rw [← q, hD] at h; exact h)
    · exact I.nofs (Nat.le_of_eq hD) q
  have ncl : ∀ x c, (compCx X scope (own ++ rest) cl s2 H2 (D + 1 : Nat) fp).env.cells.lookup x = some c → c ≠ D := fun x c e z => by
    obtain ⟨v, o, q, d⟩ := I.cell x c (hc1 x c e)
    exact Nat.ne_of_lt (below c o q) z
  have loop : ∀ s3 : Shared, s3 = { s2 with heap := h1, toks := s2.toks } →
      codeAny (model X.prog X.w) X.A (.compLoop (.ListComp elt [⟨tg, iter, ifs, 0⟩] scope pos) 0 (.ref it) (.ref D) (compEnvC scope cl (D + 1) X.env)) (RR (.ref D) (D + 1)) s3 := by
    rintro s3 rfl
    obtain ⟨W, ⟨m0, w0⟩, turn⟩ := hw
    refine comp_loop (fun m s' => ∃ (i : Nat) (ys : List V) (its : List Value) (n : Nat) (σ' : St) (H' : Hp), Inv (compCx X scope (own ++ rest) cl s2 H2 (D + 1 : Nat) fp) [] σ' H' s' ∧ tn i s'.heap ∧ (∀ b ∈ fp, H' b = none) ∧
      s'.heap.get? D = some { cls := .type "list", data := .seq its.toArray n } ∧ H' D = none ∧ Vals ys its ∧ ys.length ≤ sizeLine ∧ W i m ys σ' H') ?_ m0
      ⟨0, [], [], 0, _, H2, J0, st1, fun b hb => (hf b hb).1, hDo, by rw [← hD]; exact I.fresh, .nil, by simp, w0⟩
    rintro m s3 ⟨i, ys, its, n, σ3, H3, J3, st3, fr3, ho3, hn3, r3, z3, w3⟩
    have pin : ∀ {σ' : St} {H' : Hp} {s' : Shared}, Inv (compCx X scope (own ++ rest) cl s2 H2 (D + 1 : Nat) fp) [] σ' H' s' → s'.heap.get? D = some { cls := .type "list", data := .seq its.toArray n } → H' D = none →
        Inv (compCx X scope (own ++ rest) cl s2 H2 (D + 1 : Nat) fp) [(D, { cls := .type "list", data := .seq its.toArray n })] σ' H' s' := fun {σ' H' s'} K1 K2 K3 =>
      K1.pins_of fun p hp => by
        have e : p = (D, { cls := .type "list", data := .seq its.toArray n }) := by simpa using hp
        subst e
        exact ⟨K2, K3, nDC, nfs, fun v z => nomatch z⟩
    have fpk : ∀ {H' : Hp}, (∀ b ∈ fp, H' b = none) → ∀ b ∈ fp, FpOk (compCx X scope (own ++ rest) cl s2 H2 (D + 1 : Nat) fp) [(D, { cls := .type "list", data := .seq its.toArray n })] H' b := fun {H'} fr b hb => by
      obtain ⟨o, e⟩ := hfo b hb
      have lt := below b o e
      refine ⟨fr b hb, Nat.ne_of_lt (Nat.lt_succ_of_lt lt), ?_, .inl hb, fun x c q => (hf b hb).2.2.2.2.1 x c (hc1 x c q), fun p hp => ?_⟩
      · intro z
        have z' : b ∈ frs X.stack := z
        rcases List.mem_cons.mp (I.stkSub b z') with q | q
        · exact (hf b hb).2.1 q
        · exact (hf b hb).2.2.1 q
      · have e : p = (D, { cls := .type "list", data := .seq its.toArray n }) := by
          have hp' : p ∈ [(D, ({ cls := .type "list", data := .seq its.toArray n } : Obj))] := hp
          simpa using hp'
        subst e
        exact Nat.ne_of_gt lt
    have J3p := pin J3 ho3 hn3
    rcases turn i m ys σ3 H3 w3 with ⟨stop, q⟩ | ⟨go, hlt, N, hN, step⟩
    · refine thn (T.done (compCx X scope (own ++ rest) cl s2 H2 (D + 1 : Nat) fp) rfl rfl rfl hcalm i _ s3 σ3 H3 _ J3p (fpk fr3) st3 stop) fun r s4 ⟨hr, J4⟩ => ?_
      subst hr
      have ho4 := J4.pin _ (List.mem_append_right _ List.mem_cons_self)
      refine hR s4 H3 ys (comp_end I J4 hf (by omega) hn3 ho4.1 r3 z3) ?_ hn3 J4.free q
      obtain ⟨mm, hmm, _⟩ := J4.loc
      exact ⟨mm, hmm⟩
    · refine thn (T.item (compCx X scope (own ++ rest) cl s2 H2 (D + 1 : Nat) fp) rfl rfl rfl hcalm i _ s3 σ3 H3 _ J3p (fpk fr3) st3 go) fun r s4 ⟨u, hr, h4⟩ => ?_
      subst hr
      refine thn h4 fun _ s5 ⟨x, H5, J5, r5, y5, st5, fr5⟩ => ?_
      have J5' := J5.pinned (fpk fr5) (T.obj _ _ st5)
      refine thn (hg _ s5 σ3 H5 x u _ J5' r5 (step x H5 y5)) fun _ s6 ⟨σ6, H6, J6, q6⟩ => ?_
      refine thn (ht _ s6 σ6 H6 _ J6 q6) fun b s7 ⟨H7, J7, q7⟩ => ?_
      have stay : ∀ {σ' : St} {H' : Hp} {s' : Shared}, Inv (compCx X scope (own ++ rest) cl s2 H2 (D + 1 : Nat) fp) ([(D, { cls := .type "list", data := .seq its.toArray n })] ++ pinsAt fp s5.heap) σ' H' s' →
          Inv (compCx X scope (own ++ rest) cl s2 H2 (D + 1 : Nat) fp) [] σ' H' s' ∧ tn (i + 1) s'.heap ∧ (∀ b ∈ fp, H' b = none) ∧ s'.heap.get? D = some { cls := .type "list", data := .seq its.toArray n } ∧ H' D = none := fun {σ' H' s'} K1 => by
        refine ⟨K1.pins_of fun p hp => absurd hp (by simp), T.keep _ _ _ st5 fun b hb o e => (K1.pin (b, o) (List.mem_append_right _ (List.mem_append_right _ (mem_pinsAt hb e)))).1, fun b hb => ?_, ?_, ?_⟩
        · obtain ⟨o, e, d⟩ := T.obj _ _ st5 b hb
          exact (K1.pin (b, o) (List.mem_append_right _ (List.mem_append_right _ (mem_pinsAt hb e)))).2.1
        · exact (K1.pin (D, _) (List.mem_append_right _ (List.mem_append_left _ List.mem_cons_self))).1
        · exact (K1.pin (D, _) (List.mem_append_right _ (List.mem_append_left _ List.mem_cons_self))).2.1
      cases b with
      | false =>
        rw [if_neg Bool.false_ne_true] at q7 ⊢
        obtain ⟨k1, k2, k3, k4, k5⟩ := stay J7
        obtain ⟨m', hm, w'⟩ := hN _ _ _ q7
        exact ⟨m', hm, i + 1, ys, its, n, σ6, H7, k1, k2, k3, k4, k5, r3, z3, w'⟩
      | true =>
        rw [if_pos rfl] at q7 ⊢
        refine thn (he _ s7 σ6 H7 _ J7 q7) fun xv s8 ⟨y, H8, J8, r8, q8⟩ => ?_
        obtain ⟨k1, k2, k3, k4, k5⟩ := stay J8
        refine call_meets F.slot_list_append ⟨_, k4, rfl⟩ F.entry_list_append (F.args_list_append_2 _ _) (PySem.list_append D its.toArray n xv (by rw [List.size_toArray, ← r3.length]; omega)) ⟨k4, ?_⟩
        obtain ⟨m', hm, w'⟩ := hN _ _ _ q8
        have ho9 := PySem.IsL.update k4 (fun a => a.push xv)
        have ek : ∀ b o, b ≠ D → s8.heap.get? b = some o → (s8.heap.update D (Obj.mapSeq (fun a => a.push xv))).get? b = some o := fun b o hb e => (Heap.get?_update_other s8.heap (Obj.mapSeq _) (Ne.symm hb)).trans e
        refine ⟨m', hm, i + 1, ys ++ [y], its ++ [xv], (if ((its.toArray.push xv).size == its.toArray.size) = true then n else n + 1), σ6, H8, k1.turned (it := D) (t' := s8.toks) ek k5 nDC (.inr (show s2.heap.objs.size ≤ D by omega)) ncl (fun p hp => absurd (show p ∈ ([] : List (Addr × Obj)) from hp) (by simp)), ?_, k3, ?_, k5, r3.append (.cons r8 .nil), ?_, w'⟩
        · refine T.keep _ _ _ k2 fun b hb o e => ek b o ?_ e
          obtain ⟨o', e'⟩ := hfo b hb
          exact Nat.ne_of_lt (below b o' e')
        · have e2 : its.toArray.push xv = (its ++ [xv]).toArray := by simp
          rw [← e2]; exact ho9
        · simp only [List.length_append, List.length_cons, List.length_nil]; omega
  exact codeAny_compStart_list (loop _ rfl) (T.self X.A 0 _ _ _ st1 (loop _ rfl))
end
end L2
set_option maxHeartbeats 4000000
namespace L2
open PySem PySem.Spec PyProof.Rows

def tComp (k : Nat) (wi : TI) (g : TG) (tt : TT) (te : TE) : TE := fun σ H Q => wi σ H fun J H1 => CompW J g tt te (fun ys H' => ∀ D, H' D = none → Q (.ref D) (upd H' D (.lst ys))) (List.replicate k none ++ σ) H1

section
variable {X : Cx} {elt tg iter : Expr} {ifs : List Expr} {scope : Scope} {pos : Pos} {wi : TI} {g : TG} {tt : TT} {te : TE}
theorem Inv.closed {pins : List (Addr × Obj)} {σ : St} {H : Hp} {s : Shared} {N rest : List Str} (I : Inv X pins σ H s) (S : CompSc scope X.env.scope N rest) :
    ∃ cl, closureFor scope X.env = pure cl ∧ (∀ n c, cl.lookup n = some c → X.env.cells.lookup n = some c) ∧ (∀ n, (n, NameKind.free) ∈ scope.names → ∃ c, cl.lookup n = some c) :=
  closure_of fun n z => I.ok.has n (S.free n z)
theorem Inv.letgo {pins pins' : List (Addr × Obj)} {σ σ' : St} {H H' : Hp} {s s' : Shared} {b : Addr} {h' : Heap} (I : Inv X pins σ H s) (J : Inv X pins σ' H' s') (hb : s.heap.objs.size ≤ b) (hn : H' b = none) (sb : Heap.SameBut b s'.heap h') : Inv X pins σ' H' { s' with heap := h' } := by
  obtain ⟨f0, f1, f2, f3, f4, f5⟩ := I.fpOk hb hn
  exact J.turned (t' := s'.toks) (fun c o hc e => (sb.2 c hc).trans e) f0 f1 f3 f4 f5

/-  name = [..]: the name is a plain local -/
theorem ps_comp {i : Nat} {y : Str} {py spos : Pos} (own rest : List Str) (hcalm : X.calm = true) (S : CompSc scope X.env.scope X.N rest) (hN : X.N.Nodup) (hy : X.N[i]? = some y) (hl : X.env.scope.names.lookup y = some .local) (hi : PI X tg iter wi)
    (hg : ∀ cl s2 H2 C fp, PG (compCx X scope (own ++ rest) cl s2 H2 C fp) tg g) (ht : ∀ cl s2 H2 C fp, PTs (compCx X scope (own ++ rest) cl s2 H2 C fp) ifs tt) (he : ∀ cl s2 H2 C fp, PE (compCx X scope (own ++ rest) cl s2 H2 C fp) elt te)
    (hsw : swapsWith (.ListComp elt [⟨tg, iter, ifs, 0⟩] scope pos) (some (.Name y py)) spos.line X.env = pure true := by rfl)
    (hs : ∀ x, foldedSetIterable iter X.env x = pure x := by intro _; rfl) : PS X (.Assign [.Name y py] (.ListComp elt [⟨tg, iter, ifs, 0⟩] scope pos) spos) (tAsg (tComp own.length wi g tt te) (gName i)) := by
  intro pins s σ H D I h
  obtain ⟨cl, hcl, hc1, hc2⟩ := I.closed S
  rw [exec_Assign_Name_used _ _ _ _ hsw]
  refine wpAny_bind (wpAny_standAt (wpAny_bind ?_))
  show wpAny _ X.A (do let _ ← comprehension (.ListComp elt [⟨tg, iter, ifs, 0⟩] scope pos) scope X.env _ (newList []) false (eval iter X.env) (some (assign (.Name y py) X.env))) _ _ s
  refine wpAny_bind (wpAny_mono (wpAny_comprehension_free (use := some (assign (.Name y py) X.env)) (Q := fun _ s' => SP X pins D .next s') rfl hs hcl S.kind S.loc (thn (hi pins s σ H _ I h) fun v s1 h1 => thn h1 fun itv s2 h2 => ?_)) (fun _ s' hq => wpAny_pure (wpAny_pure hq)) fun _ _ e => e)
  obtain ⟨it, fp, tn, J, H2, e, I2, T, st, hf, hw⟩ := h2
  subst e
  refine comp_run (RR := fun acc C => compPost (model X.prog X.w) X.A X.xe (some (assign (.Name y py) X.env)) (fun _ s' => SP X pins D .next s') acc C) (D := s2.heap.objs.size) rfl hcalm I2 S hc1 hc2 T st hf (hg _ _ _ _ _) (ht _ _ _ _ _) (he _ _ _ _ _) hw ?_
  intro s' H' ys J' ⟨m, hm⟩ hD hC q
  show wpAny _ X.A (assign (.Name y py) X.env (.ref s2.heap.objs.size)) _ _ s'
  refine wpAny_assign_Name (store_ok2 (v := .ref s2.heap.objs.size) J' hN hy (.inl hl) rfl (fun s3 J3 ⟨a, sb, ha⟩ => ?_) (.inr hl))
  have hne : s2.heap.objs.size + 1 ≠ a := by
    rcases ha with ha | ha
    · rw [ha]; exact Nat.ne_of_gt (Nat.lt_succ_of_lt I2.lt)
    · obtain ⟨v, o, e, d⟩ := I2.cell y a ha
      exact Nat.ne_of_gt (Nat.lt_succ_of_lt (Heap.lt_size e))
  refine ⟨m, hm.sameBut sb hne, fun h' sb' => ⟨_, _, I2.letgo (pins' := pins) (b := (s2.heap.objs.size + 1 : Nat)) J3 (Nat.le_succ _) ?_ sb', q _ hD⟩⟩
  rw [upd_ne (Nat.ne_of_gt (Nat.lt_succ_self _))]; exact hC
end

/-! ### the forms one uses -/
/-  one name, over items that are known: the walk J yields xs in order and leaves the heap -/
structure Walk (J : It) (xs : List V) (ok : Hp → Prop) : Prop where
  go : ∀ i H, ok H → i < xs.length → J.go i H
  yld : ∀ i H x H', ok H → i < xs.length → J.yld i H x H' → H' = H ∧ xs[i]? = some x
  stop : ∀ H, ok H → J.stop xs.length H
theorem walk_list {K : PySem.W.Frag} {a : Addr} {xs : List V} : Walk (Itl K a) xs (fun H => SqL K H a xs) where
  go := fun i H q hi => ⟨xs, xs[i], q, by simp [hi]⟩
  yld := fun i H x H' q _ y => ⟨y.1, y.2 xs q⟩
  stop := fun H q => ⟨xs, q, Nat.le_refl _⟩
def rangeV (lo : Int) (n : Nat) : List V := (List.range n).map fun (i : Nat) => V.int (lo + i)
theorem rangeV_len (lo : Int) (n : Nat) : (rangeV lo n).length = n := by simp [rangeV]
theorem rangeV_get {lo : Int} {n i : Nat} (h : i < n) : (rangeV lo n)[i]? = some (.int (lo + i)) := by simp [rangeV, h]
theorem walk_range {lo : Int} {n : Nat} : Walk (Itr lo n) (rangeV lo n) (fun _ => True) where
  go := fun i H _ hi => by rw [rangeV_len] at hi; exact hi
  yld := fun i H x H' _ hi y => ⟨y.1, by rw [rangeV_len] at hi; rw [rangeV_get hi, y.2]⟩
  stop := fun H _ => Nat.le_of_eq (rangeV_len lo n).symm

/-  a loop over such a walk -/
theorem for_walk {J : It} {xs : List V} {ok : Hp → Prop} (w : Walk J xs ok) {g : TG} {tb : TS} {D : Ends} {σ : St} {H : Hp} (Pv : Nat → St → Hp → Prop) (h0 : Pv 0 σ H) (hl : ∀ i σ H, i ≤ xs.length → Pv i σ H → ok H)
    (hs : ∀ i x σ H, xs[i]? = some x → Pv i σ H → g x σ H fun σ2 H2 => tb { D with nx := Pv (i + 1), ct := Pv (i + 1), bk := D.nx } σ2 H2) (hd : ∀ σ H, Pv xs.length σ H → D.nx σ H) :
    ∃ W : Nat → Nat → St → Hp → Prop, (∃ m, W 0 m σ H) ∧ ∀ i m σ H, W i m σ H →
      (J.stop i H ∧ D.nx σ H) ∨ (J.go i H ∧ ∃ N : St → Hp → Prop, (∀ σ' H', N σ' H' → ∃ m', m' < m ∧ W (i + 1) m' σ' H') ∧ ∀ x H', J.yld i H x H' → g x σ H' fun σ2 H2 => tb { D with nx := N, ct := N, bk := D.nx } σ2 H2) := by
  refine ⟨fun i m σ H => m = xs.length - i ∧ i ≤ xs.length ∧ Pv i σ H, ⟨xs.length, by simp, Nat.zero_le _, h0⟩, ?_⟩
  rintro i m σ H ⟨rfl, hi, p⟩
  have q := hl i σ H hi p
  by_cases hlt : i < xs.length
  · refine .inr ⟨w.go i H q hlt, Pv (i + 1), fun σ' H' p' => ⟨xs.length - (i + 1), by omega, rfl, hlt, p'⟩, fun x H' y => ?_⟩
    obtain ⟨e, y'⟩ := w.yld i H x H' q hlt y
    subst e
    exact hs i x σ _ y' p
  · have e : i = xs.length := by omega
    subst e
    exact .inl ⟨w.stop H q, hd σ H p⟩
/-  a comprehension over such a walk, its target one name -/
theorem comp_walk {J : It} {xs : List V} {ok : Hp → Prop} (w : Walk J xs ok) {tt : TT} {te : TE} {fin : List V → Hp → Prop} {σ : St} {H : Hp} (hz : xs.length ≤ sizeLine) (Pv : Nat → List V → Hp → Prop) (h0 : Pv 0 [] H) (hl : ∀ i ys H, i ≤ xs.length → Pv i ys H → ok H)
    (hlen : ∀ i ys H, Pv i ys H → ys.length ≤ i)
    (hs : ∀ i x ys H, xs[i]? = some x → Pv i ys H → tt (some x :: σ) H fun b H3 => if b = true then te (some x :: σ) H3 fun y H4 => (∃ o, some x :: σ = o :: σ) ∧ Pv (i + 1) (ys ++ [y]) H4 else (∃ o, some x :: σ = o :: σ) ∧ Pv (i + 1) ys H3) (hd : ∀ ys H, Pv xs.length ys H → fin ys H) :
    CompW J (gName 0) tt te fin (List.replicate 1 none ++ σ) H := by
  refine ⟨fun i m ys σ' H => m = xs.length - i ∧ i ≤ xs.length ∧ (∃ o, σ' = o :: σ) ∧ Pv i ys H, ⟨xs.length, by simp, Nat.zero_le _, ⟨none, rfl⟩, h0⟩, ?_⟩
  rintro i m ys σ' H ⟨rfl, hi, ⟨o, rfl⟩, p⟩
  have hy := hlen i ys H p
  have q := hl i ys H hi p
  by_cases hlt : i < xs.length
  · refine .inr ⟨w.go i H q hlt, by omega, fun ys' σ' H' => (∃ o, σ' = o :: σ) ∧ Pv (i + 1) ys' H', fun ys' σ' H' p' => ⟨xs.length - (i + 1), by omega, rfl, hlt, p'⟩, fun x H' y => ?_⟩
    obtain ⟨e, y'⟩ := w.yld i H x H' q hlt y
    subst e
    exact hs i x ys _ y' p
  · have e : i = xs.length := by omega
    subst e
    exact .inl ⟨w.stop H q, hd ys H p⟩
end L2
set_option maxHeartbeats 4000000
namespace L2
open PySem PySem.Spec PyProof.Rows

/-! ### the signs of a text, one after another -/
def sgn (c : Nat) : V := .str ⟨#[c]⟩
def Its (z : Str) : It := ⟨fun i _ => i < z.cps.size, fun i H x H' => H' = H ∧ ∃ c, z.cps[i]? = some c ∧ x = sgn c, fun i _ => i = z.cps.size⟩
section
variable {X : Cx} {tg : Expr}
def iStr (tl : TE) : TI := fun σ H R => tl σ H fun x H1 => ∃ z, x = .str z ∧ R (Its z) H1
end

/-! ### values as data -/
mutual
def Rep (K : PySem.W.Frag) (H : Hp) : PyData → V → Prop
  | .none, v => v = .non
  | .bool b, v => v = .bl b
  | .int i, v => v = .int i
  | .str x, v => v = .str x
  | .list ds, v => ∃ a xs, v = .ref a ∧ SqL K H a xs ∧ Reps K H ds xs
  | .tuple ds, v => ∃ a xs, v = .ref a ∧ SqT K H a xs ∧ Reps K H ds xs
  | .dict _, _ => False
def Reps (K : PySem.W.Frag) (H : Hp) : List PyData → List V → Prop
  | [], vs => vs = []
  | d :: ds, vs => ∃ v r, vs = v :: r ∧ Rep K H d v ∧ Reps K H ds r
end
section
variable {X : Cx} {pins : List (Addr × Obj)} {σ : St} {H : Hp} {s : Shared}
mutual
theorem Rep.reads (I : Inv X pins σ H s) : ∀ (d : PyData) (v : V) (u : Value), Rep X.K H d v → RelV v u → ∃ as, Reads s.heap u d as
  | .none, v, u, h, r => by
    have e : v = .non := by simpa [Rep] using h
    subst e; cases r; exact ⟨_, .none⟩
  | .bool b, v, u, h, r => by
    have e : v = .bl b := by simpa [Rep] using h
    subst e; cases r; exact ⟨_, .bool b⟩
  | .int i, v, u, h, r => by
    have e : v = .int i := by simpa [Rep] using h
    subst e; obtain ⟨t, rfl⟩ := r; exact ⟨_, .int i t⟩
  | .str x, v, u, h, r => by
    have e : v = .str x := by simpa [Rep] using h
    subst e; obtain ⟨t, rfl⟩ := r; exact ⟨_, .str x t⟩
  | .list ds, v, u, h, r => by
    obtain ⟨a, xs, rfl, hs, hr⟩ : ∃ a xs, v = .ref a ∧ SqL X.K H a xs ∧ Reps X.K H ds xs := by simpa only [Rep] using h
    cases r
    obtain ⟨its, rv, p, hz⟩ := I.list hs
    obtain ⟨o, ho, hc, n, hd⟩ := p.isList
    obtain ⟨as, q⟩ := Reps.reads I ds xs its hr rv
    exact ⟨_, .list ho hc hd (by simpa using q)⟩
  | .tuple ds, v, u, h, r => by
    obtain ⟨a, xs, rfl, hs, hr⟩ : ∃ a xs, v = .ref a ∧ SqT X.K H a xs ∧ Reps X.K H ds xs := by simpa only [Rep] using h
    cases r
    obtain ⟨its, rv, p, hz⟩ := I.tuple hs
    obtain ⟨o, ho, hc, n, hd⟩ := p
    obtain ⟨as, q⟩ := Reps.reads I ds xs its hr rv
    exact ⟨_, .tuple ho hc hd (by simpa using q)⟩
  | .dict _, v, u, h, r => by simp [Rep] at h
theorem Reps.reads (I : Inv X pins σ H s) : ∀ (ds : List PyData) (vs : List V) (us : List Value), Reps X.K H ds vs → Vals vs us → ∃ as, ReadsAll s.heap us ds as
  | [], vs, us, h, r => by
    have e : vs = [] := by simpa [Reps] using h
    subst e; cases r; exact ⟨_, .nil⟩
  | d :: ds, vs, us, h, r => by
    obtain ⟨v, q, rfl, h1, h2⟩ : ∃ v r, vs = v :: r ∧ Rep X.K H d v ∧ Reps X.K H ds r := by simpa only [Reps] using h
    cases r with
    | cons r1 r2 =>
      obtain ⟨as, q1⟩ := Rep.reads I d v _ h1 r1
      obtain ⟨bs, q2⟩ := Reps.reads I ds q _ h2 r2
      exact ⟨_, .cons q1 q2⟩
end
end
section
variable {X : Cx}
def rEqD (K : PySem.W.Frag) (neg : Bool) : R2 := fun x y H Q => ∃ d e, Rep K H d x ∧ Rep K H e y ∧ SeqAt.shaped d = true ∧ SeqAt.shaped e = true ∧ Q (.bl (if neg then !PyData.eqv d e else PyData.eqv d e)) H
theorem op_eqD (hu : X.A.units + 64 < cLine) : OpR X (compareOp .Eq) (rEqD X.K false) := by
  intro pins s σ H x y v u Q I rx ry h
  obtain ⟨d, e, h1, h2, h3, h4, q⟩ := h
  obtain ⟨as, q1⟩ := Rep.reads I d x v h1 rx
  obtain ⟨bs, q2⟩ := Rep.reads I e y u h2 ry
  exact eq_dataH q1 q2 h3 h4 hu (fin_bl I q rfl)
theorem op_neD (hu : X.A.units + 64 < cLine) : OpR X (compareOp .NotEq) (rEqD X.K true) := by
  intro pins s σ H x y v u Q I rx ry h
  obtain ⟨d, e, h1, h2, h3, h4, q⟩ := h
  obtain ⟨as, q1⟩ := Rep.reads I d x v h1 rx
  obtain ⟨bs, q2⟩ := Rep.reads I e y u h2 ry
  exact ne_dataH q1 q2 h3 h4 hu (fin_bl I q rfl)

/-! ### isinstance, all, any, join -/
theorem bools_of : ∀ {bs : List Bool} {us : List Value}, Vals (bs.map V.bl) us → LSm.BoolsAre us bs
  | [], _, .nil => .nil
  | _ :: _, _, .cons r t => by cases r; exact .cons _ (bools_of t)
def rAll (K : PySem.W.Frag) (g : List Bool → Bool) : List V → Hp → VK → Prop := fun xs H Q => ∃ a bs, xs = [.ref a] ∧ SqL K H a (bs.map V.bl) ∧ Q (.bl (g bs)) H
theorem call_all (hc : X.calm = true) : CallR X (.builtin "all") (rAll X.K fun bs => bs.all id) := by
  intro pins s σ H xs us Q I r h
  obtain ⟨a, bs, rfl, hs, q⟩ := h
  obtain ⟨u, rfl, ru⟩ := vals1 r
  cases ru
  obtain ⟨its, rv, p, hz⟩ := I.list hs
  have hl := p.isList
  have hb := bools_of rv
  have hlt : a < s.heap.objs.size := by obtain ⟨_, e, _⟩ := hl; exact Heap.lt_size e
  refine call_all_walk (wpAny_pyIter_list hl ?_)
  refine ⟨s.heap.objs.size, [s.heap.objs.size, a], [s.heap.objs.size], its.toArray.size, _, _, fun i => (bs[i]?).getD true, rfl, Walks.list (A := X.A.in1) (I.ok.hd hc) _ a (Nat.ne_of_lt hlt) its.toArray,
    ⟨⟨_, Heap.get?_push_size _ rfl, rfl, rfl⟩, hl.push _⟩, fun i v s' Q' E' hP hQ => ?_, fun h' tk hk => ?_⟩
  · obtain ⟨b, e, rfl⟩ := hb.get i v (by simpa using hP)
    simp only [e, Option.getD_some] at hQ
    exact wpAny_truthy_bool hQ
  · have e : ((List.range its.toArray.size).all fun i => (bs[i]?).getD true) = bs.all id := by
      rw [List.size_toArray, hb.length]; exact LSm.range_all bs
    rw [e]
    exact ⟨.bl (bs.all id), H, I.kept (LSm.kept_iter hk), rfl, q⟩

/-! ### is True, is False -/
end
end L2
set_option maxHeartbeats 4000000
namespace L2
open PySem PySem.Spec PyProof.Rows
section
variable {X : Cx}
theorem op_is_bl : OpR X (compareOp .Is) (fun x y H Q => ∃ b, y = .bl b ∧ Q (.bl (decide (x = .bl b))) H) := by
  intro pins s σ H x y v u Q I rx ry h
  obtain ⟨b, rfl, q⟩ := h
  cases ry
  cases x with
  | bl c => cases rx; exact is_bool (fin_bl I q (by cases b <;> cases c <;> rfl))
  | non => cases rx; exact wpAny_pure (fin_bl I q rfl)
  | int i => obtain ⟨t, rfl⟩ := rx; exact wpAny_pure (fin_bl I q rfl)
  | str i => obtain ⟨t, rfl⟩ := rx; exact wpAny_pure (fin_bl I q rfl)
  | byt i => obtain ⟨t, rfl⟩ := rx; exact wpAny_pure (fin_bl I q rfl)
  | flt i => obtain ⟨t, rfl⟩ := rx; exact wpAny_pure (fin_bl I q rfl)
  | ref i => cases rx; exact wpAny_pure (fin_bl I q rfl)
  | ty i => cases rx; exact wpAny_pure (fin_bl I q rfl)
theorem op_isnot_bl : OpR X (compareOp .IsNot) (fun x y H Q => ∃ b, y = .bl b ∧ Q (.bl (!decide (x = .bl b))) H) := by
  intro pins s σ H x y v u Q I rx ry h
  obtain ⟨b, rfl, q⟩ := h
  cases ry
  cases x with
  | bl c => cases rx; exact isnot_bool (fin_bl I q (by cases b <;> cases c <;> rfl))
  | non => cases rx; exact wpAny_pure (fin_bl I q rfl)
  | int i => obtain ⟨t, rfl⟩ := rx; exact wpAny_pure (fin_bl I q rfl)
  | str i => obtain ⟨t, rfl⟩ := rx; exact wpAny_pure (fin_bl I q rfl)
  | byt i => obtain ⟨t, rfl⟩ := rx; exact wpAny_pure (fin_bl I q rfl)
  | flt i => obtain ⟨t, rfl⟩ := rx; exact wpAny_pure (fin_bl I q rfl)
  | ref i => cases rx; exact wpAny_pure (fin_bl I q rfl)
  | ty i => cases rx; exact wpAny_pure (fin_bl I q rfl)

/-! ### a def of the text, called -/
structure DefOk (K : PySem.W.Frag) (mg : Str → Option Value) (x : Str) (st : Stmt) (ps : List Str) (f : Addr) (fd : FuncData) : Prop where
  F : Fun K x x st f fd
  b : Binds K fd ps []
  m : mg x = some (.ref f)
/-! ### names in short -/
theorem pvl (i : Nat) {x : Str} {pos : Pos} (hN : X.N[i]? = some x := by rfl) (hv : X.env.scope.names.lookup x = some .local := by rfl) (hd : (x == ("__debug__" : Str)) = false := by decide) (hcd : (x == ("__classdict__" : Str)) = false := by decide) : PE X (.Name x pos) (tVar i) := pe_var hN (.inl hv) hd hcd
theorem pvc (i : Nat) {x : Str} {pos : Pos} (hN : X.N[i]? = some x := by rfl) (hv : X.env.scope.names.lookup x = some .cell := by rfl) (hd : (x == ("__debug__" : Str)) = false := by decide) (hcd : (x == ("__classdict__" : Str)) = false := by decide) : PE X (.Name x pos) (tVar i) := pe_var hN (.inr (.inl hv)) hd hcd
theorem pgl (i : Nat) {x : Str} {pos : Pos} (hN : X.N.Nodup) (hi : X.N[i]? = some x := by rfl) (hv : X.env.scope.names.lookup x = some .local := by rfl) : PG X (.Name x pos) (gName i) := pg_name hN hi (.inl hv) (.inr hv)
theorem psl (i : Nat) {x : Str} {pos pos' : Pos} {e : Expr} {te : TE} (hN : X.N.Nodup) (he : PE X e te) (hi : X.N[i]? = some x := by rfl) (hv : X.env.scope.names.lookup x = some .local := by rfl) (hs : swapsWith e (some (.Name x pos')) pos.line X.env = pure false := by rfl) :
    PS X (.Assign [.Name x pos'] e pos) (tAsg te (gName i)) := ps_set hN hi (.inl hv) he hs (.inr hv)
theorem pgi {x : Str} {i : Int} {pos : Pos} (hm : ∃ tk, X.mg x = some (.int i tk)) (hg : Gl X x := by rfl) (hd : (x == ("__debug__" : Str)) = false := by decide) : PE X (.Name x pos) (tC (.int i)) := let ⟨t, e⟩ := hm; pe_glob hg e ⟨t, rfl⟩ hd
/-  a type's name -/
theorem pty {x : Str} {T : String} {pos : Pos} (hm : X.mg x = none) (hv : bootBuiltins x = some (.type T)) (hg : Gl X x := by rfl) (hn : x ≠ "__name__" := by decide) (hd : (x == ("__debug__" : Str)) = false := by decide) : PE X (.Name x pos) (tC (.ty T)) := pe_bltn hg hm hv rfl hn hd
end
/-! ### heaps that grew -/
theorem Same.new {H H' : Hp} (e : Same H H') {p : Addr} (h : H' p = none) (o : HO) : Same H (upd H' p o) := fun b q z => by
  rw [upd_ne (ne_of_none (e b q z) h)]; exact e b q z
theorem Same.upd_new {H : Hp} {p : Addr} (h : H p = none) (o : HO) : Same H (upd H p o) := (Same.refl H).new h o
/-  an object that is not of H is changed -/
theorem Same.set {H H' : Hp} (e : Same H H') {p : Addr} (h : H p = none) (o : HO) : Same H (upd H' p o) := fun b q z => by
  rw [upd_ne (ne_of_none z h)]; exact e b q z
end L2
set_option maxHeartbeats 4000000
namespace L2
open PySem PySem.Spec PyProof.Rows
theorem bt_len : bootBuiltins "len" = some (.builtin "len") := by decide +kernel
theorem bt_all : bootBuiltins "all" = some (.builtin "all") := by decide +kernel
theorem bt_isinstance : bootBuiltins "isinstance" = some (.builtin "isinstance") := by decide +kernel
theorem bt_list : bootBuiltins "list" = some (.type "list") := by decide +kernel
/-! ### helps for the reading -/
theorem small_line {n : Nat} (h : n ≤ 1000000) : n ≤ sizeLine := by rw [sizeLine_eq]; omega
/-! ### the kinds of plain things -/
def plainTs : List String := ["NoneType", "bool", "int", "str", "list", "tuple", "dict"]
structure Pl (K : PySem.W.Frag) (H : Hp) (x : V) (T : String) : Prop where
  ty : TyOf K H x (.type T)
  mem : T ∈ plainTs
  sz : ∀ z, x = .str z → z.length ≤ sizeLine
def isiN (T S : String) : Bool := T == S || (T == "bool" && S == "int")
/-  isinstance of a plain thing -/
def rIsP (K : PySem.W.Frag) : List V → Hp → VK → Prop := fun xs H Q => ∃ x S T, xs = [x, .ty S] ∧ Pl K H x T ∧ S ∈ plainTs ∧ Q (.bl (isiN T S)) H
end L2
set_option maxHeartbeats 4000000
namespace L2
open PySem PySem.Spec PyProof.Rows
section
variable {X : Cx}
end
/-! ### loops over what is known -/
/-! ### items -/
theorem ixL_of {K : PySem.W.Frag} {H : Hp} {p : Addr} {xs : List V} {i : Int} {Q : VK} (h : SqL K H p xs) (h0 : 0 ≤ i) (h1 : i < xs.length) (q : ∀ v, xs[i.toNat]? = some v → Q v H) : rIxL K (.ref p) (.int i) H Q := by
  have hj : i.toNat < xs.length := by omega
  refine ⟨p, xs, i, xs[i.toNat], rfl, rfl, h, ?_, q _ (List.getElem?_eq_getElem hj)⟩
  have e := atI_nat (List.getElem?_eq_getElem hj)
  rwa [Int.toNat_of_nonneg h0] at e
/-! ### texts put together of their signs -/
/-! ### == of lists of truths -/
end L2
set_option maxHeartbeats 4000000
namespace L2
open PySem PySem.Spec PyProof.Rows
/-! ### the rules that name the text's own objects, for a letter K -/
section
variable {X : Cx} {K : PySem.W.Frag} (e : X.K = K)
include e
theorem k_all (hc : X.calm = true) : CallR X (.builtin "all") (rAll K fun bs => bs.all id) := by subst e; exact call_all hc
def rLenS (K : PySem.W.Frag) : List V → Hp → VK → Prop := fun xs H Q => ∃ p ys, xs = [.ref p] ∧ (SqL K H p ys ∨ SqT K H p ys) ∧ Q (.int ys.length) H
theorem k_len : CallR X (.builtin "len") (rLenS K) := by subst e; exact call_len_seq
def rLenV (K : PySem.W.Frag) : List V → Hp → VK → Prop := fun xs H Q => ∃ x n, xs = [x] ∧ LenV K x H n ∧ Q (.int n) H
def rListOf (K : PySem.W.Frag) : List V → Hp → VK → Prop := fun xs H Q => ∃ p ys, xs = [.ref p] ∧ (SqL K H p ys ∨ SqT K H p ys) ∧ ∀ l, H l = none → Q (.ref l) (upd H l (.lst ys))
theorem k_list : CallR X (.type "list") (rListOf K) := by subst e; exact call_list_of
def rTupleOf (K : PySem.W.Frag) : List V → Hp → VK → Prop := fun xs H Q => ∃ p ys, xs = [.ref p] ∧ ((SqL K H p ys ∧ ∀ l, H l = none → Q (.ref l) (upd H l (.tup ys))) ∨ (SqT K H p ys ∧ Q (.ref p) H))
theorem k_ixL : IxR X (rIxL K) := by subst e; exact ix_list
theorem k_ixT : IxR X (rIxT K) := by subst e; exact ix_tup
theorem k_slL : SlR X (rSlL K) := by subst e; exact sl_list
theorem k_eqD (hu : X.A.units + 64 < cLine) : OpR X (compareOp .Eq) (rEqD K false) := by subst e; exact op_eqD hu
theorem k_neD (hu : X.A.units + 64 < cLine) : OpR X (compareOp .NotEq) (rEqD K true) := by subst e; exact op_neD hu
theorem k_piL {tg l : Expr} {tl : TE} (hl : PE X l tl) : PI X tg l (iList K tl) := by subst e; exact pi_list hl
theorem k_pgT {es : List Expr} {k : Nat} {t : TGs} {n : Nat} {pos : Pos} (hc : X.calm = true) (h : PGs X es t) (hn : (assignEach es X.env).length = n := by rfl) (hst : (assignEach es X.env).findIdx? (·.1) = none := by rfl) : PG X (.Tuple es k pos) (gTup K n t) := by subst e; exact pg_tup hc h hn hst
theorem k_bm {o a : Expr} {es : List Expr} {to : TE} {t : TA} {name : Str} {apos cpos : Pos} {T id : String} {r : V → List V → Hp → VK → Prop} (pa : PlainAttrs T) (slot : Slot T name id) (hty : typeOf (.builtin id) = pure (.type "method_descriptor")) (hm : MtR X id r) (ho : PE X o to) (ha : PA X (a :: es) t)
    (hbase : attributeBase o name X.env (eval o X.env) = eval o X.env := by rfl)
    (hfew : ((backTo cpos (starEach (a :: es) X.env)).all (fun x => !x.1) && (backToKw cpos (keywordEach [] X.env)).all (fun x => x.1.isSome)
      && decide ((a :: es).length + ([] : List Keyword).length + (if ([] : List Keyword).isEmpty then 0 else 1) < 30)) = true := by rfl)
    (hline : (apos.endLine == cpos.line) = true := by rfl) (hs : starEach (a :: es) X.env = (false, eval a X.env) :: starEach es X.env := by rfl) (hplain : (backTo cpos (starEach es X.env)).any (·.1) = false := by rfl) :
    PE X (.Call (.Attribute o name apos) (a :: es) [] cpos) (tBM K T r to t) := by subst e; exact pe_bm pa slot hty hm ho ha hbase hfew hline hs hplain
end
end L2
namespace L2
open PySem PySem.Spec PyProof.Rows
/-! ### arguments without stars, by a look -/
def notStar : Expr → Bool
  | .Starred _ _ => false
  | _ => true
theorem star_cons {e : Expr} {es : List Expr} {env : Env} (h : notStar e = true) : starEach (e :: es) env = (false, eval e env) :: starEach es env := by
  cases e <;> first | rfl | cases h
theorem star_none {env : Env} : ∀ {es : List Expr}, es.all notStar = true → (starEach es env).any (·.1) = false
  | [], _ => rfl
  | e :: es, h => by
    rw [List.all_cons, Bool.and_eq_true] at h
    rw [star_cons h.1, List.any_cons, star_none h.2]; rfl
theorem back_none {env : Env} {pos : Pos} {es : List Expr} (h : es.all notStar = true) : (backTo pos (starEach es env)).any (·.1) = false := by
  have := star_none (env := env) h
  unfold backTo
  rw [List.any_map]
  exact this
section
variable {X : Cx} {e : Expr} {es : List Expr} {te : TE} {t : TA}
theorem pal (hn : notStar e = true) (ha : PE X e te) (hr : PA X es t) : PA X (e :: es) (tCons te t) := pa_cons ha hr (star_cons hn)
theorem pe_defL {x : Str} {st : Stmt} {ps : List Str} {f : Addr} {fd : FuncData} {k : Nat} {sp : Sp} {p pos : Pos} (D : DefOk X.K X.mg x st ps f fd) (G : FnOk X.prog X.w X.K X.mg X.base CX0 k f fd ps sp) (hr : Room k X.A)
    (hg : Gl X x) (hdb : (x == ("__debug__" : Str)) = false) (hn : (e :: es).all notStar = true) (ha : PA X (e :: es) t) :
    PE X (.Call (.Name x p) (e :: es) [] pos) (tCall sp [] E0 t) :=
  have h : notStar e = true ∧ es.all notStar = true := by rw [List.all_cons, Bool.and_eq_true] at hn; exact hn
  pe_call G hr hg D.m D.F.kp D.b .nil pass0 ha hdb (star_cons h.1) (back_none h.2)
theorem pe_cB {x : Str} {p pos : Pos} {id : String} {r : List V → Hp → VK → Prop} (hc : CallR X (.builtin id) r) (hm : X.mg x = none) (hv : bootBuiltins x = some (.builtin id)) (hg : Gl X x) (hn : x ≠ "__name__") (hdb : (x == ("__debug__" : Str)) = false)
    (hs : (e :: es).all notStar = true) (ha : PA X (e :: es) t) : PE X (.Call (.Name x p) (e :: es) [] pos) (tCB r t) :=
  have h : notStar e = true ∧ es.all notStar = true := by rw [List.all_cons, Bool.and_eq_true] at hs; exact hs
  pe_callB hc hg hm hv ha hn hdb (star_cons h.1) (back_none h.2)
theorem pe_cTy {x : Str} {p pos : Pos} {T : String} {r : List V → Hp → VK → Prop} (hc : CallR X (.type T) r) (hm : X.mg x = none) (hv : bootBuiltins x = some (.type T)) (hg : Gl X x) (hn : x ≠ "__name__") (hdb : (x == ("__debug__" : Str)) = false)
    (hs : (e :: es).all notStar = true) (ha : PA X (e :: es) t) : PE X (.Call (.Name x p) (e :: es) [] pos) (tCB r t) :=
  have h : notStar e = true ∧ es.all notStar = true := by rw [List.all_cons, Bool.and_eq_true] at hs; exact hs
  pe_callTy hc hg hm hv ha hn hdb (star_cons h.1) (back_none h.2)
theorem back_all {env : Env} {pos : Pos} {es : List Expr} (h : es.all notStar = true) : (backTo pos (starEach es env)).all (fun x => !x.1) = true := by
  have := back_none (env := env) (pos := pos) h
  rw [List.any_eq_false] at this
  rw [List.all_eq_true]
  intro x hx
  have := this x hx
  simpa using this
theorem k_bmL {K : PySem.W.Frag} {o a : Expr} {to : TE} {name : Str} {apos cpos : Pos} {T id : String} {r : V → List V → Hp → VK → Prop} (ek : X.K = K) (pa : PlainAttrs T) (slot : Slot T name id) (hty : typeOf (.builtin id) = pure (.type "method_descriptor")) (hm : MtR X id r)
    (hbase : attributeBase o name X.env (eval o X.env) = eval o X.env) (hs : (a :: es).all notStar = true) (hsz : decide ((a :: es).length + 0 + 0 < 30) = true) (hline : (apos.endLine == cpos.line) = true) (ho : PE X o to) (ha : PA X (a :: es) t) :
    PE X (.Call (.Attribute o name apos) (a :: es) [] cpos) (tBM K T r to t) :=
  have h : notStar a = true ∧ es.all notStar = true := by rw [List.all_cons, Bool.and_eq_true] at hs; exact hs
  k_bm ek pa slot hty hm ho ha hbase (by rw [back_all hs]; exact hsz) hline (star_cons h.1) (back_none h.2)
end
end L2
namespace L2
open PySem PySem.Spec PyProof.Rows
/-  what the walk of a loop is to show -/
def ForW (J : It) (g : TG) (tb : TS) (D : Ends) (σ : St) (H1 : Hp) : Prop := ∃ W : Nat → Nat → St → Hp → Prop, (∃ m, W 0 m σ H1) ∧ ∀ i m σ H, W i m σ H →
  (J.stop i H ∧ D.nx σ H) ∨ (J.go i H ∧ ∃ N : St → Hp → Prop, (∀ σ' H', N σ' H' → ∃ m', m' < m ∧ W (i + 1) m' σ' H') ∧ ∀ x H', J.yld i H x H' → g x σ H' fun σ2 H2 => tb { D with nx := N, ct := N, bk := D.nx } σ2 H2)
theorem for_in {wi : TI} {g : TG} {tb : TS} {D : Ends} {σ : St} {H : Hp} (h : wi σ H fun J H1 => ForW J g tb D σ H1) : tFor wi g tb D σ H := h
theorem ForW.of {g : TG} {tb : TS} {D : Ends} {σ : St} {H : Hp} {J : It} {xs : List V} {ok : Hp → Prop} (w : Walk J xs ok) (Pv : Nat → St → Hp → Prop) (h0 : Pv 0 σ H) (hl : ∀ i σ H, i ≤ xs.length → Pv i σ H → ok H)
    (hs : ∀ i x σ H, xs[i]? = some x → Pv i σ H → g x σ H fun σ2 H2 => tb { D with nx := Pv (i + 1), ct := Pv (i + 1), bk := D.nx } σ2 H2) (hd : ∀ σ H, Pv xs.length σ H → D.nx σ H) : ForW J g tb D σ H := for_walk w Pv h0 hl hs hd
end L2
set_option maxHeartbeats 4000000
namespace L2
open PySem PySem.Spec PyProof.Rows
/-! ### slices of texts -/
def cutL {α : Type} (xs : List α) (lo hi : Option Int) : List α := (xs.drop (HT.sIx xs.length 0 lo)).take (HT.sIx xs.length xs.length hi - HT.sIx xs.length 0 lo)
section
variable {X : Cx}
def rSlS : V → Option Int → Option Int → Hp → VK → Prop := fun x lo hi H Q => ∃ z, x = .str z ∧ z.length ≤ sizeLine ∧ Q (.str ⟨(cutL z.cps.toList lo hi).toArray⟩) H
/-! ### find, startswith, < -/
def rFind : V → List V → Hp → VK → Prop := fun x vs H Q => ∃ z y, x = .str z ∧ vs = [.str y] ∧ Q (.int (Txt.find z y)) H
def rStarts : V → List V → Hp → VK → Prop := fun x vs H Q => ∃ z y, x = .str z ∧ vs = [.str y] ∧ Q (.bl (Txt.startswith z y)) H
end
end L2
namespace L2
open PySem
theorem range_item {lo : Int} {n i : Nat} {x : V} (h : (rangeV lo n)[i]? = some x) : i < n ∧ x = .int (lo + i) := by
  have hi : i < n := by have := (List.getElem?_eq_some_iff.mp h).1; rwa [rangeV_len] at this
  rw [rangeV_get hi] at h
  cases h
  exact ⟨hi, rfl⟩
end L2
set_option maxHeartbeats 4000000
namespace L2
open PySem PySem.Spec PyProof.Rows PySem.NumText
/-! ### numbers as texts -/
def dgs (m : Nat) : List Nat := (Nat.toDigits 10 m).map Char.toNat
def numS (n : Int) : List Nat := if n < 0 then 45 :: dgs n.natAbs else dgs n.natAbs
/-! ### cuts -/
theorem cut_from {α : Type} (xs : List α) (k : Nat) : cutL xs (some (k : Int)) none = xs.drop k := by
  unfold cutL
  rw [HT.sIx_nat, HT.sIx_none]
  by_cases h : k ≤ xs.length
  · rw [Nat.min_eq_left h, List.take_of_length_le (by rw [List.length_drop]; omega)]
  · rw [Nat.min_eq_right (by omega), List.drop_length, List.drop_of_length_le (by omega)]; simp
theorem cut_to {α : Type} (xs : List α) (k : Nat) : cutL xs none (some (k : Int)) = xs.take k := by
  unfold cutL
  rw [HT.sIx_nat, HT.sIx_none, List.drop_zero, Nat.sub_zero]
  by_cases h : k ≤ xs.length
  · rw [Nat.min_eq_left h]
  · rw [Nat.min_eq_right (by omega), List.take_length, List.take_of_length_le (by omega)]
section
variable {X : Cx}
/-! ### int(text), str(value), text * n -/
def rIntT : List V → Hp → VK → Prop := fun xs H Q => ∃ z n, xs = [.str z] ∧ intText? z = some n ∧ z.length ≤ 640 ∧ Q (.int n) H
/-  str of a number or a text -/
def rStrA : List V → Hp → VK → Prop := fun xs H Q => (∃ i, xs = [.int i] ∧ i.natAbs < 10 ^ 100 ∧ Q (.str ⟨(numS i).toArray⟩) H) ∨ ∃ z, xs = [.str z] ∧ Q (.str z) H
end
end L2
namespace L2
open PySem PySem.Spec PyProof.Rows
section
variable {X : Cx}
def rRepS : R2 := fun x y H Q => ∃ z n, x = .str z ∧ y = .int n ∧ MulOk z n ∧ Q (.str (Txt.mul z n)) H
end
end L2
namespace L2
open PySem
/-! ### while -/
end L2
set_option maxHeartbeats 1000000
namespace L2
open PySem PySem.Spec PyProof.Rows
/-! ### an exception in flight: its own object and its last entry, both untracked and not of the heap G -/
def Trc (H : Hp) (h G : Heap) (e : Addr) (C : Value) (ed : Option Addr) (fl : Value) : Prop :=
  G.get? e = none ∧ H e = none ∧ ∃ oe vs, h.get? e = some oe ∧ oe.cls = C ∧ oe.dict = ed ∧ oe.data = .fields vs ∧ 1 < vs.size ∧
    ((vs[1]? = some .none ∧ fl = .none) ∨ ∃ T oT ts, vs[1]? = some (.ref T) ∧ G.get? T = none ∧ T ≠ e ∧ H T = none ∧ h.get? T = some oT ∧ oT.data = .fields ts ∧ ts[3]? = some fl)
/-  what stays: all but the exception's own records, the frames up to slots -/
structure Kp (H : Hp) (G : Heap) (fs : List Addr) (h h' : Heap) : Prop where
  keep : ∀ b o, h.get? b = some o → b ∉ fs → (G.get? b ≠ none ∨ H b ≠ none) → h'.get? b = some o
  slot : ∀ b o, h.get? b = some o → b ∈ fs → ∃ sl, h'.get? b = some { o with slots := sl }
  there : ∀ b o, h.get? b = some o → ∃ o', h'.get? b = some o'
  size : h.objs.size ≤ h'.objs.size
theorem Kp.refl (H : Hp) (G : Heap) (fs : List Addr) (h : Heap) : Kp H G fs h h := ⟨fun _ _ e _ _ => e, fun _ o e _ => ⟨o.slots, e⟩, fun _ o e => ⟨o, e⟩, Nat.le_refl _⟩
section
variable {M : Model} {A : Around} {E : Value → Shared → Prop} {s : Shared} {Q : Unit → Shared → Prop} {base : Heap} {env : Env} {outer : List Env} {L e : Addr} {C : Value} {ed : Option Addr} {G : Heap} {H : Hp}
theorem entry_wp {oe : Obj} {vs : Array Value} {head : Value} {hadNext : Bool} (hfr : A.frames = some (env :: outer)) (hl : s.heap.FunFrames base (env :: outer)) (hf : env.frame = some L)
    (he : s.heap.get? e = some oe) (hd : oe.data = .fields vs) (hsz : 1 < vs.size)
    (h : ∀ h' T oT ts, s.heap.objs.size ≤ T → h'.get? e = some (oe.mapFields (·.setIfInBounds 1 (.ref T))) → h'.get? T = some oT → oT.data = .fields ts → ts[3]? = some (rawInt L) →
      (∀ b o, b ≠ e → s.heap.get? b = some o → b ∉ frs (env :: outer) → h'.get? b = some o) → (∀ b o, b ≠ e → s.heap.get? b = some o → ∃ sl, h'.get? b = some { o with slots := sl }) → s.heap.objs.size ≤ h'.objs.size → Q () { s with heap := h' }) :
    wpAny M A (do let a ← frameOf env; let pl ← entryPlaceOf L hadNext; let b ← EntryCells.newEntry head a .none (rawInt L) .none pl; setField (.ref e) 1 b) Q E s := by
  have hene : e ∉ frs (env :: outer) := fun hm => by
    obtain ⟨_, o, ho, hnf⟩ := hl.mem hm
    rw [he] at ho
    cases ho
    exact hnf vs hd
  refine wpAny_bind (wpAny_frameOf_fun hfr hl hf fun h₁ hs₁ => ?_)
  refine wpAny_bind (wpAny_entryPlaceOf fun pl hpl => ?_)
  unfold EntryCells.newEntry newFields
  refine wpAny_bind (wpAny_newObj_type ?_ (hpl.sizeOk5 _ _ _ _ _))
  have he₁ : h₁.get? e = some oe := (hs₁.2.1 e hene).trans he
  generalize hO : ({ cls := .type "traceback", dict := none, data := .fields ([head, .ref L, .none, rawInt L, .none] ++ (if pl.isEmpty then List.replicate 6 Value.none else pl)).toArray } : Obj) = O
  have he₂ := Heap.get?_push_of_some (h := h₁) O he₁
  have hTe : h₁.objs.size ≠ e := Nat.ne_of_gt (Heap.lt_size he₁)
  refine wpAny_setField he₂ hd hsz (h _ h₁.objs.size O _ (Nat.le_of_eq hs₁.1.symm) (Heap.get?_update_self _ he₂ (Obj.isFreed_of_fields (Obj.data_mapFields hd _))) ?_ (by rw [← hO]) ?_ ?_ ?_ ?_)
  · rw [Heap.get?_update_other _ _ (Ne.symm hTe)]
    exact Heap.get?_push_size h₁ (by rw [← hO]; rfl)
  · first | (simp; done) | (rcases hpl with rfl | ⟨_, _, _, _, _, _, _, rfl⟩ <;> simp)
  · intro b o hb ho hn
    rw [Heap.get?_update_other _ _ (Ne.symm hb)]
    exact Heap.get?_push_of_some _ ((hs₁.2.1 b hn).trans ho)
  · intro b o hb ho
    obtain ⟨sl, e1⟩ := hs₁.2.2 b o ho
    exact ⟨sl, by rw [Heap.get?_update_other _ _ (Ne.symm hb)]; exact Heap.get?_push_of_some _ e1⟩
  · rw [Heap.size_after_update, Heap.size_push, hs₁.1]
    exact Nat.le_succ _
/-  the frame is noted -/
theorem note_wp (hfr : A.frames = some (env :: outer)) (hl : s.heap.FunFrames base (env :: outer)) (hf : env.frame = some L) (hH : ∀ b, s.heap.objs.size ≤ b → H b = none) (hG : ∀ b, s.heap.objs.size ≤ b → G.get? b = none) (t : Trc H s.heap G e C ed .none)
    (h : ∀ h', Trc H h' G e C ed (rawInt L) → h'.FunFrames base (env :: outer) → Kp H G (frs (env :: outer)) s.heap h' → Q () { s with heap := h' }) : wpAny M A (noteFrame (.ref e) env) Q E s := by
  obtain ⟨hn, hHe, oe, vs, he, hc, hdi, hd, hsz, ht⟩ := t
  unfold noteFrame
  simp only [hf]
  have nfr : ∀ b o ws, s.heap.get? b = some o → o.data = .fields ws → b ∉ frs (env :: outer) := fun b o ws ho hw hm => by
    obtain ⟨_, o', ho', hnf⟩ := hl.mem hm
    rw [ho] at ho'
    cases ho'
    exact hnf ws hw
  have fin : ∀ (s1 : Shared) (h' : Heap) (T : Addr) (oT : Obj) (ts : Array Value), s.heap.objs.size ≤ T → h'.get? e = some (oe.mapFields (·.setIfInBounds 1 (.ref T))) → h'.get? T = some oT → oT.data = .fields ts → ts[3]? = some (rawInt L) →
      (∀ b o, s.heap.get? b = some o → b ∉ frs (env :: outer) → (G.get? b ≠ none ∨ H b ≠ none) → h'.get? b = some o) → (∀ b o, s.heap.get? b = some o → (∀ ws, o.data ≠ .fields ws) → ∃ sl, h'.get? b = some { o with slots := sl }) →
      (∀ b o, s.heap.get? b = some o → ∃ o', h'.get? b = some o') → s.heap.objs.size ≤ h'.objs.size → Q () { s with heap := h' } := by
    intro s1 h' T oT ts hT e1 e2 e3 e4 k1 k2 k3 k4
    have le : e < s.heap.objs.size := Heap.lt_size he
    refine h h' ⟨hn, hHe, _, _, e1, by rw [Obj.cls_mapFields]; exact hc, ?_, Obj.data_mapFields hd _, by simpa using hsz, .inr ⟨T, oT, ts, by simp [hsz], hG T hT, Nat.ne_of_gt (Nat.lt_of_lt_of_le le hT), hH T hT, e2, e3, e4⟩⟩ (hl.of_keeps fun b o hb hnf => ?_) ⟨k1, fun b o hb hm => ?_, k3, k4⟩
    · rw [← hdi]
      obtain ⟨c, d, dt, sl⟩ := oe
      cases dt <;> rfl
    · obtain ⟨sl, q⟩ := k2 b o hb hnf
      exact ⟨_, q, rfl⟩
    · obtain ⟨_, o', ho', hnf⟩ := hl.mem hm
      rw [hb] at ho'
      cases ho'
      exact k2 b o hb hnf
  have nee : ∀ b o, s.heap.get? b = some o → (G.get? b ≠ none ∨ H b ≠ none) → b ≠ e := fun b o hb hx z => by
    subst z
    rcases hx with hx | hx
    · exact hx hn
    · exact hx hHe
  rcases ht with ⟨h1, _⟩ | ⟨T, oT, ts, h1, hT, hTe, hHT, gT, hdT, h3⟩
  · refine wpAny_bind (wpAny_field he hd h1 ?_)
    rw [if_neg (by decide)]
    refine entry_wp hfr hl hf he hd hsz fun h' T' oT' ts' q1 q2 q3 q4 q5 q6 q7 q8 => fin s h' T' oT' ts' q1 q2 q3 q4 q5 (fun b o hb hm hx => q6 b o (nee b o hb hx) hb hm) (fun b o hb hnf => q7 b o (fun z => ?_) hb) (fun b o hb => ?_) q8
    · subst z
      rw [he] at hb
      cases hb
      exact hnf vs hd
    · by_cases z : b = e
      · subst z
        exact ⟨_, q2⟩
      · obtain ⟨sl, q⟩ := q7 b o z hb
        exact ⟨_, q⟩
  · refine wpAny_bind (wpAny_field he hd h1 ?_)
    rw [if_pos (show (Value.ref T != Value.none) = true from by simp)]
    refine wpAny_bind (wpAny_field gT hdT h3 ?_)
    rw [if_neg (show ¬ ((Value.none == rawInt L) = true) from by simp [rawInt])]
    refine wpAny_bind (wpAny_setField gT hdT (Array.getElem?_eq_some_iff.mp h3).1 ?_)
    have other : ∀ b, b ≠ T → (s.heap.update T (Obj.mapFields (·.setIfInBounds 3 Value.none))).get? b = s.heap.get? b := fun b hb => Heap.get?_update_other _ _ (Ne.symm hb)
    have self := Heap.get?_update_self (Obj.mapFields (·.setIfInBounds 3 Value.none)) gT (Obj.isFreed_of_fields (Obj.data_mapFields hdT _))
    have neT : ∀ b o, s.heap.get? b = some o → (G.get? b ≠ none ∨ H b ≠ none) → b ≠ T := fun b o hb hx z => by
      subst z
      rcases hx with hx | hx
      · exact hx hT
      · exact hx hHT
    have neF : ∀ b o, s.heap.get? b = some o → (∀ ws, o.data ≠ .fields ws) → b ≠ T := fun b o hb hnf z => by
      subst z
      rw [gT] at hb
      cases hb
      exact hnf ts hdT
    have sz : (s.heap.update T (Obj.mapFields (·.setIfInBounds 3 Value.none))).objs.size = s.heap.objs.size := Heap.size_after_update ..
    refine entry_wp hfr (hl.of_keeps fun b o hb hnf => ⟨o, (other b (neF b o hb hnf)).trans hb, rfl⟩) hf ((other e (Ne.symm hTe)).trans he) hd hsz
      fun h' T' oT' ts' q1 q2 q3 q4 q5 q6 q7 q8 => fin s h' T' oT' ts' (by rw [sz] at q1; exact q1) q2 q3 q4 q5 (fun b o hb hm hx => q6 b o (nee b o hb hx) ((other b (neT b o hb hx)).trans hb) hm)
        (fun b o hb hnf => q7 b o (fun z => ?_) ((other b (neF b o hb hnf)).trans hb)) (fun b o hb => ?_) (by rw [sz] at q8; exact q8)
    · subst z
      rw [he] at hb
      cases hb
      exact hnf vs hd
    · by_cases z : b = e
      · subst z
        exact ⟨_, q2⟩
      · by_cases y : b = T
        · subst y
          obtain ⟨sl, q⟩ := q7 b _ z self
          exact ⟨_, q⟩
        · obtain ⟨sl, q⟩ := q7 b o z ((other b y).trans hb)
          exact ⟨_, q⟩
/-  the flight ends -/
theorem flight_wp {fl : Value} (hl : s.heap.FunFrames base outer) (t : Trc H s.heap G e C ed fl)
    (h : ∀ h', Trc H h' G e C ed .none → h'.FunFrames base outer → Kp H G [] s.heap h' → (∀ b o, s.heap.get? b = some o → (∀ ws, o.data ≠ .fields ws) → h'.get? b = some o) → Q () { s with heap := h' }) : wpAny M A (setFlight (.ref e) none) Q E s := by
  obtain ⟨hn, hHe, oe, vs, he, hc, hdi, hd, hsz, ht⟩ := t
  unfold setFlight
  rcases ht with ⟨h1, _⟩ | ⟨T, oT, ts, h1, hT, hTe, hHT, gT, hdT, h3⟩
  · refine wpAny_bind (wpAny_field he hd h1 ?_)
    rw [if_neg (by decide)]
    exact wpAny_pure (h s.heap ⟨hn, hHe, oe, vs, he, hc, hdi, hd, hsz, .inl ⟨h1, rfl⟩⟩ hl (Kp.refl ..) fun _ _ e _ => e)
  · have hs3 : 3 < ts.size := (Array.getElem?_eq_some_iff.mp h3).1
    refine wpAny_bind (wpAny_field he hd h1 ?_)
    rw [if_pos (show (Value.ref T != Value.none) = true from by simp)]
    have other : ∀ b, b ≠ T → (s.heap.update T (Obj.mapFields (·.setIfInBounds 3 ((none : Option Addr).elim Value.none fun f => rawInt f)))).get? b = s.heap.get? b := fun b hb => Heap.get?_update_other _ _ (Ne.symm hb)
    have self := Heap.get?_update_self (Obj.mapFields (·.setIfInBounds 3 ((none : Option Addr).elim Value.none fun f => rawInt f))) gT (Obj.isFreed_of_fields (Obj.data_mapFields hdT _))
    refine wpAny_setField gT hdT hs3 (h _ ⟨hn, hHe, oe, vs, (other e (Ne.symm hTe)).trans he, hc, hdi, hd, hsz, .inr ⟨T, _, _, h1, hT, hTe, hHT, self, Obj.data_mapFields hdT _, by simp [hs3]⟩⟩ (hl.of_keeps fun b o hb hnf => ⟨o, (other b fun z => ?_).trans hb, rfl⟩)
      ⟨fun b o hb _ hx => (other b fun z => ?_).trans hb, fun _ _ _ hm => (nomatch hm), fun b o hb => ?_, Nat.le_of_eq (Heap.size_after_update ..).symm⟩ fun b o hb hnf => (other b fun z => ?_).trans hb)
    · subst z
      rw [gT] at hb
      cases hb
      exact hnf ts hdT
    · subst z
      rcases hx with hx | hx
      · exact hx hT
      · exact hx hHT
    · by_cases z : b = T
      · subst z
        exact ⟨_, self⟩
      · exact ⟨o, (other b z).trans hb⟩
    · subst z
      rw [gT] at hb
      cases hb
      exact hnf ts hdT
end
end L2
set_option maxHeartbeats 1000000
namespace L2
open PySem PySem.Spec PyProof.Rows
/-  an exception behind a call -/
def CXE (P : Program) (w : World) : CXT := fun outer H s E e s' => ∃ a C ed H', e = .ref a ∧ s'.os = s.os ∧ AllBare s'.gens ∧ Un (frs outer) [] H H' s.heap s'.heap ∧ HOk P w H' s'.heap ∧ Trc H' s'.heap s.heap a C ed .none ∧ E C ed H'
theorem Trc.older {H : Hp} {h G G' : Heap} {e : Addr} {C : Value} {ed : Option Addr} {fl : Value} (t : Trc H h G e C ed fl) (hm : ∀ b, G.get? b = none → G'.get? b = none) : Trc H h G' e C ed fl := by
  obtain ⟨hn, hHe, oe, vs, he, hc, hdi, hd, hsz, ht⟩ := t
  refine ⟨hm _ hn, hHe, oe, vs, he, hc, hdi, hd, hsz, ?_⟩
  rcases ht with ht | ⟨T, oT, ts, h1, hT, r⟩
  · exact .inl ht
  · exact .inr ⟨T, oT, ts, h1, hm _ hT, r⟩
theorem get_none {h : Heap} {b : Addr} (hb : h.objs.size ≤ b) : h.get? b = none := Heap.get?_none_of_le hb
theorem Inv.back {X : Cx} {pins : List (Addr × Obj)} {σ : St} {H : Hp} {s : Shared} (I : Inv X pins σ H s) (hex : X.ex = []) (b : Addr) (e : s.heap.get? b = none) : X.s₀.heap.get? b = none := by
  cases q : X.s₀.heap.get? b with
  | none => rfl
  | some o =>
    obtain ⟨o', e'⟩ := I.base.there b o q (by rw [hex]; simp)
    rw [e] at e'; cases e'
/-  the heap G has all that the context leans on -/
structure Cov (X : Cx) (pins : List (Addr × Obj)) (G : Heap) : Prop where
  loc : G.get? X.env.locals ≠ none
  cell : ∀ x c, X.env.cells.lookup x = some c → G.get? c ≠ none
  pin : ∀ p ∈ X.pn ++ pins, G.get? p.1 ≠ none
  old : ∀ b, G.get? b = none → X.s₀.heap.get? b = none
theorem Inv.cov {X : Cx} {pins : List (Addr × Obj)} {σ : St} {H : Hp} {s : Shared} (I : Inv X pins σ H s) (hex : X.ex = []) : Cov X pins s.heap :=
  ⟨by obtain ⟨m, ⟨o, _, _, ho, _⟩, _⟩ := I.loc; rw [ho]; simp, fun x c e => by obtain ⟨v, o, ho, _⟩ := I.cell x c e; rw [ho]; simp, fun p hp => by rw [(I.pin p hp).1]; simp, I.back hex⟩
/-  a context whose exceptions are told by E, at states S -/
structure Told (X : Cx) (S : St → Prop) (E : XK) : Prop where
  ex : X.ex = []
  on : ∀ pins σ H s a C ed G, S σ → Inv X pins σ H s → Trc H s.heap G a C ed .none → Cov X pins G → (∀ b, s.heap.get? b = none → G.get? b = none) → E C ed H → X.xe (.ref a) s
theorem Told.passes {X : Cx} {S : St → Prop} {E : XK} (T : Told X S E) {pins : List (Addr × Obj)} {σ : St} {H : Hp} {s s' : Shared} {e : Value} (hS : S σ) (I : Inv X pins σ H s) (h : CXE X.prog X.w X.stack H s E e s') : X.xe e s' := by
  obtain ⟨a, C, ed, H', rfl, os, bare, un, hok, t, q⟩ := h
  have J : Inv X pins σ H' s' := I.call' os un hok bare (fun b z => absurd z (by simp))
  refine T.on pins σ H' s' a C ed s.heap hS J t (I.cov T.ex) (fun b e => ?_) q
  cases z : s.heap.get? b with
  | none => rfl
  | some o =>
    obtain ⟨o', e'⟩ := un.there b o z (by simp)
    rw [e] at e'; cases e'
theorem Kp.hok {P : Program} {w : World} {H : Hp} {G : Heap} {fs : List Addr} {h h' : Heap} (k : Kp H G fs h h') (hf : ∀ b ∈ fs, H b = none) (ok : HOk P w H h) : HOk P w H h' := fun a o e =>
  (ok a o e).stay (fun b u hb q => by
    have hn : H b ≠ none := by
      rcases hb with rfl | hb
      · rw [e]; simp
      · rw [hb]; simp
    exact k.keep b u q (fun z => hn (hf b z)) (.inr hn)) (fun _ q => q) fun _ _ q => q
/-  it leaves the frame -/
theorem leave_own {X : Cx} {pins : List (Addr × Obj)} {σ : St} {H : Hp} {s : Shared} {a : Addr} {C : Value} {ed : Option Addr} {E : XK} {E' : Value → Shared → Prop} (hf : X.env.frame = some X.env.locals) (hst : X.stack = X.env :: X.outer) (hex : X.ex = [])
    (I : Inv X pins σ H s) (t : Trc H s.heap X.s₀.heap a C ed .none) (q : E C ed H) :
    wpAny (model X.prog X.w) X.A (leaving X.env (.ref a)) (fun _ s' => CXE X.prog X.w X.outer X.H₀ X.s₀ E (.ref a) s') E' s := by
  have stk : s.heap.FunFrames X.base (X.env :: X.outer) := hst ▸ I.stack
  have sfr : ∀ b ∈ frs (X.env :: X.outer), H b = none := hst ▸ I.stkFree
  unfold leaving
  refine wpAny_bind (note_wp (hst ▸ I.ok.frames) stk hf (fun b hb => I.hok.fresh hb) (fun b hb => I.back hex b (get_none hb)) t fun h1 t1 f1 k1 => ?_)
  refine flight_wp (s := { s with heap := h1 }) (outer := X.env :: X.outer) f1 t1 fun h2 t2 f2 k2 _ => ?_
  have hlt : ∀ b o, X.s₀.heap.get? b = some o → X.s₀.heap.get? b ≠ none := fun b o e => by rw [e]; simp
  have hnl : ∀ b o, X.s₀.heap.get? b = some o → b ≠ X.env.locals := fun b o e => Nat.ne_of_lt (Nat.lt_of_lt_of_le (Heap.lt_size e) I.ok.above)
  have mem : ∀ b, b ∈ frs (X.env :: X.outer) → b = X.env.locals ∨ b ∈ frs X.outer := fun b hb => by
    unfold frs at hb ⊢
    rw [List.filterMap_cons, hf] at hb
    exact List.mem_cons.mp hb
  have mem2 : ∀ b, b ∈ frs X.outer → b ∈ frs (X.env :: X.outer) := fun b hb => by
    unfold frs at hb ⊢
    rw [List.filterMap_cons, hf]
    exact List.mem_cons_of_mem _ hb
  refine ⟨a, C, ed, H, rfl, I.os, I.bare, ⟨fun b o e hn hb _ => ?_, fun b o e hn hb _ => ?_, fun b o e hn _ => ?_, fun b o e _ => ?_, I.base.tups, I.base.frzs, I.base.tbls⟩, k2.hok (fun _ z => absurd z (by simp)) (k1.hok sfr I.hok), t2, q⟩
  · have e1 := I.base.keep b o e hn hb (by rw [hex]; simp)
    have e2 := k1.keep b o e1 (fun z => (mem b z).elim (hnl b o e) hb) (.inl (hlt b o e))
    exact k2.keep b o e2 (by simp) (.inl (hlt b o e))
  · obtain ⟨sl, e1⟩ := I.base.slot b o e hn hb (by rw [hex]; simp)
    obtain ⟨sl', e2⟩ := k1.slot b _ e1 (mem2 b hb)
    exact ⟨sl', k2.keep b _ e2 (by simp) (.inl (hlt b o e))⟩
  · exact I.base.free b o e hn (by rw [hex]; simp)
  · obtain ⟨o1, e1⟩ := I.base.there b o e (by rw [hex]; simp)
    obtain ⟨o2, e2⟩ := k1.there b o1 e1
    exact k2.there b o2 e2
theorem told_cx {P : Program} {w : World} {K : PySem.W.Frag} {mg : Str → Option Value} {base : Heap} {N : List Str} {qual : Str} {scope : Scope} {f : Addr} {cd : Value} {A : Around} {outer : List Env} {s : Shared} {H : Hp} {E : XK} :
    Told (cxOf (CXE P w) P w K mg base N qual scope f cd A outer s H E) (fun _ => True) E := ⟨rfl, fun _ _ _ _ _ _ _ _ _ I t c _ q => leave_own (X := cxOf (CXE P w) P w K mg base N qual scope f cd A outer s H E) rfl rfl rfl I (t.older c.old) q⟩
/-  THE RULE for a def out of which exceptions may come -/
theorem Fun.okX {P : Program} {w : World} {K : PySem.W.Frag} {mg : Str → Option Value} {base : Heap} {x qual : Str} {st : Stmt} {f : Addr} {fd : FuncData} {N ps : List Str} {k : Nat} {sp : Sp} (F : Fun K x qual st f fd) (S : FnScope N ps (defScope st)) (len : ∀ vs H Q E, sp vs H Q E → vs.length = ps.length)
    (hbody : ∀ (cdv : Value) (A : Around) (outer : List Env) (s : Shared) (H : Hp) (vs : List V) (Q : VK) (E : XK), Room k (A.deeper (envOfC qual (defScope st) s.heap.objs.size f cdv)) → sp vs H Q E →
      ∃ t, PSs (cxOf (CXE P w) P w K mg base N qual (defScope st) f cdv A outer s H E) (defBody st) t ∧ t { nx := fun _ H' => Q .non H', rt := Q } (start N vs) H) : FnOk P w K mg base (CXE P w) (k + 1) f fd ps sp := by
  obtain ⟨oc, od, kV, doc, pm, an, cdv, ct, osl, rfl, lk, hcd⟩ := F.ex
  exact fn_of lk hcd S len fun A outer s H vs Q E hr hsp => hbody cdv A outer s H vs Q E hr hsp
section
variable {X : Cx} {k : Nat} {f C : Addr} {fd : FuncData} {ps : List Str} {sp : Sp} {x m : Str} {p pos apos : Pos} {e o : Expr} {es : List Expr} {ta : TE} {t : TA} {S : St → Prop} {E : XK}
theorem run_fnX {pins : List (Addr × Obj)} {σ : St} {H : Hp} {s : Shared} {Q : VK} {us : List Value} {vs : List V} (T : Told X S E) (F : FnOk X.prog X.w X.K X.mg X.base (CXE X.prog X.w) k f fd ps sp) (hr : Room k X.A) (hb : Binds X.K fd ps []) (hS : S σ)
    (I : Inv X pins σ H s) (r : Vals vs us) (h : sp vs H Q E) : wpAny (model X.prog X.w) X.A (call (.ref f) us) (EP X pins σ Q) X.xe s := by
  have hl : (us ++ ([] : List Value)).length = ps.length := by rw [List.append_nil, ← r.length]; exact F.len _ _ _ _ h
  have bd := hb s us I.kIn hl
  rw [List.append_nil] at bd
  refine wpAny_call (codeAny_mono (F.run X.A X.stack s H ⟨us, []⟩ us vs Q E hr I.env0 bd r h) fun r s' hq => ?_)
  match r, hq with
  | .error e, hq => exact T.passes hS I hq
  | .ok (.ret u), hq => exact I.after hq
  | .ok .next, hq => exact False.elim hq
  | .ok .brk, hq => exact False.elim hq
  | .ok .cont, hq => exact False.elim hq
/-  f(..), out of which exceptions may come -/
def tCallX (S : St → Prop) (sp : Sp) (E : XK) (t : TA) : TE := fun σ H Q => t σ H fun vs H1 => S σ ∧ sp vs H1 Q E
theorem pe_defX {st : Stmt} (T : Told X S E) (D : DefOk X.K X.mg x st ps f fd) (G : FnOk X.prog X.w X.K X.mg X.base (CXE X.prog X.w) k f fd ps sp) (hr : Room k X.A)
    (hg : Gl X x) (hdb : (x == ("__debug__" : Str)) = false) (hn : (e :: es).all notStar = true) (ha : PA X (e :: es) t) :
    PE X (.Call (.Name x p) (e :: es) [] pos) (tCallX S sp E t) := by
  have hs : notStar e = true ∧ es.all notStar = true := by rw [List.all_cons, Bool.and_eq_true] at hn; exact hn
  intro pins s σ H Q I h
  refine wpAny_Call_Name_kw (ld_glob I hg D.m ?_ hdb)
  refine PySem.W.callWith_K (h₀ := X.base) I.ok.mod.kin D.F.kp (thn (ha pos pins s σ H _ I h) fun us s1 ⟨vs, H1, I1, r, hS, q⟩ => ⟨I1.kIn, ?_⟩) (star_cons hs.1) (back_none hs.2)
  exact run_fnX T G hr D.b hS I1 r q
end
end L2
set_option maxHeartbeats 1000000
namespace L2
open PySem PySem.Spec PyProof.Rows
/-! ### own exceptions under ValueError -/
abbrev vbm : List Value := [.type "ValueError", .type "Exception", .type "BaseException", .type "object"]
theorem ns_any {K : PySem.W.Frag} {h : Heap} {N : Addr} {mg : Str → Option Value} {n : Str} {r : Option Value} (X : K.In h) (G : h.Ns N mg) (e : PySem.W.nsIn K N n = some r) : mg n = r := by
  obtain ⟨o, es, ep, ho, hd, _, hf⟩ := G
  unfold PySem.W.nsIn at e
  split at e
  · rename_i q
    have z := X _ _ q
    rw [ho] at z
    cases z
    cases hd
    rw [← hf]
    unfold nsFind findBy
    rw [← Array.find?_toList]
    split at e
    · rename_i he
      rw [he]
      exact Option.some.inj e
    · rename_i he
      rw [he]
      split at e
      · cases e
      · exact Option.some.inj e
  · cases e
/-  the class at C is an exception's under ValueError, with (or without) an own __init__ -/
def exB (K : PySem.W.Frag) (C : Addr) (ini : Option Value) : Bool := match K.lookup C with
  | some ⟨.type "type", _, .cls cd, sl⟩ => (match cd.mro, sl.toList with
    | .ref C' :: bm, [_, _, _, _, some (.builtin n), _] => C' == C && (n == "ValueError.__new__" && (PySem.W.tailIn K vbm bm && (!cd.hasDel && (PySem.W.nsOkIn K cd.ns && PySem.W.nsIn K cd.ns "__init__" == some ini))))
    | _, _ => false)
  | _ => false
theorem exB_obj {K : PySem.W.Frag} {h : Heap} {C : Addr} {ini : Option Value} (X : K.In h) (q : exB K C ini = true) :
    ∃ nm qn N bs bm hd sn sub ab col dd k0 k1 k2 k3 k5, h.get? C = some (excClassObj nm qn C N bs bm hd sn sub ab col dd k0 k1 k2 k3 k5 "ValueError.__new__") ∧ (∃ mN, h.Ns N mN ∧ mN "__init__" = ini) ∧ OwnTail h vbm bm := by
  unfold exB at q
  split at q
  · rename_i dd cd sl ho
    split at q
    · rename_i C' bm k0 k1 k2 k3 n k5 hm hs
      simp only [Bool.and_eq_true, beq_iff_eq, Bool.not_eq_true'] at q
      obtain ⟨rfl, rfl, ht, hdel, hok, hni⟩ := q
      obtain ⟨nm, bs, mro, ns, qn, hd, sn, sub, ab, col, del⟩ := cd
      obtain ⟨l⟩ := sl
      dsimp only at hm hdel hok hni hs
      subst hm hdel hs
      have hN : h.Ns ns (h.nsMap ns) := .of_isNs (PySem.W.isNs_of_in X hok)
      exact ⟨nm, qn, ns, bs, bm, hd, sn, sub, ab, col, dd, k0, k1, k2, k3, k5, X _ _ ho, ⟨_, hN, ns_any X hN hni⟩, PySem.W.tail_of_in X ht⟩
    · cases q
  · cases q
theorem exB_base {h : Heap} {bm : List Value} (T : OwnTail h vbm bm) : bm.contains (.type "BaseException") = true := T.hasType (by decide)
theorem ObjOk.got {P : Program} {w : World} {H : Hp} {h : Heap} {a : Addr} {o : HO} (x : ObjOk P w H h a o) : ∃ u, h.get? a = some u := by
  cases o with
  | lst xs => obtain ⟨_, _, _, _, e⟩ := x; exact ⟨_, e⟩
  | tup xs => obtain ⟨_, _, _, _, e, _⟩ := x; exact ⟨_, e⟩
  | dK kvs => obtain ⟨_, _, _, _, o, _, _, e, _⟩ := x; exact ⟨_, e⟩
  | dT kvs => obtain ⟨_, _, _, _, o, _, _, e, _⟩ := x; exact ⟨_, e⟩
  | set S n => obtain ⟨o, _, _, _, e, _⟩ := x; exact ⟨_, e⟩
  | ins C dx fs => obtain ⟨_, _, _, e, _⟩ := x; exact ⟨_, e⟩
  | own y => exact x
  | xd fs => obtain ⟨_, ⟨_, _, _, e, _⟩, _⟩ := x; exact ⟨_, e⟩
  | rng lo hi => obtain ⟨_, _, _, e⟩ := x; exact ⟨_, e⟩
  | frz ob u => obtain ⟨e, _⟩ := x; exact ⟨_, e⟩
  | tbl ps => exact ⟨_, (show h.get? a = some _ from x)⟩
  | met f y => exact ⟨_, (show h.get? a = some _ from x)⟩
  | ext φ => obtain ⟨_, e, _⟩ := x; exact e
theorem HOk.unheld {P : Program} {w : World} {H : Hp} {h : Heap} {a : Addr} (x : HOk P w H h) (e : h.get? a = none) : H a = none := by
  cases q : H a with
  | none => rfl
  | some o =>
    obtain ⟨u, e'⟩ := (x a o q).got
    rw [e] at e'; cases e'
theorem made_trc {H : Hp} {h h' G : Heap} {e : Addr} {C : Value} {vs : List Value} (m : Heap.MadeExcOf h h' e C vs) (hG : ∀ b, h.get? b = none → G.get? b = none) (hH : ∀ b, h.get? b = none → H b = none) : Trc H h' G e C none .none := by
  obtain ⟨t, he, _, _⟩ := m.there
  exact ⟨hG e m.new, hH e m.new, _, _, he, rfl, rfl, rfl, Nat.lt_of_sub_eq_succ rfl, .inl ⟨rfl, rfl⟩⟩
section
variable {X : Cx} {e : Expr} {es : List Expr} {t : TA} {S : St → Prop} {E : XK}
/-  raise C(..), C without an __init__ of its own -/
def tRaise (S : St → Prop) (E : XK) (C : Addr) (t : TA) : TS := fun _ σ H => t σ H fun vs H1 => S σ ∧ vs.length ≤ sizeLine ∧ E (.ref C) none H1
theorem ps_raise {x : Str} {np cpos pos : Pos} {C : Addr} (T : Told X S E) (hcalm : X.calm = true) (q : exB X.K C none = true) (hg : Gl X x) (hm : X.mg x = some (.ref C)) (hdb : (x == ("__debug__" : Str)) = false) (hn : (e :: es).all notStar = true) (ha : PA X (e :: es) t) :
    PS X (.Raise (some (.Call (.Name x np) (e :: es) [] cpos)) none pos) (tRaise S E C t) := by
  intro pins s σ H D I h
  have hs : notStar e = true ∧ es.all notStar = true := by rw [List.all_cons, Bool.and_eq_true] at hn; exact hn
  obtain ⟨nm, qn, N, bs, bm, hd, sn, sub, ab, col, dd, k0, k1, k2, k3, k5, hC, ⟨mN, hN, hni⟩, TL⟩ := exB_obj I.ok.mod.kin q
  have F := PySem.F.excBase_ValueError
  refine wpAny_Raise_call_subU (nm := nm) (q := qn) (C := C) (N := N) (bs := bs) (bm := bm) (hdct := hd) (sn := sn) (sub := sub) (ab := ab) (col := col) (dd := dd) (k0 := k0) (k1 := k1) (k2 := k2) (k3 := k3) (k5 := k5) F (by decide) F (exB_base TL) (I.ok.hd hcalm) (back_none hn) hni (ld_glob I hg hm ⟨rfl, ?_⟩ hdb)
  have hst := star_cons (es := es) (env := X.env) hs.1
  have ha2 := ha cpos pins s σ H _ I h
  rw [hst] at ha2 ⊢
  refine Calls.evalArgs_plain (thn ha2 fun us s1 z => ?_)
  obtain ⟨vs, H1, I1, r, hS, hl, qE⟩ := z
  refine ⟨rfl, by rw [← r.length]; exact hl, I1.bk _ _ hC, hN.keeps I1.bk, TL.keeps I1.bk, fun h' a m => ?_⟩
  have J : Inv X pins σ H1 { s1 with heap := h' } := by
    have := I1.kept (h' := h') (t' := s1.toks) m.keeps
    exact this
  refine T.on pins σ H1 _ a (.ref C) none s1.heap hS J (made_trc m (fun b hb => hb) fun b hb => I1.hok.unheld hb) (I1.cov T.ex) (fun b hb => ?_) qE
  cases z : s1.heap.get? b with
  | none => rfl
  | some o =>
    have := m.keeps b o z
    rw [show h'.get? b = none from hb] at this; cases this
end
end L2
set_option maxHeartbeats 1000000
namespace L2
open PySem PySem.Spec PyProof.Rows
section
variable {X : Cx} {pins : List (Addr × Obj)} {σ : St} {H : Hp} {s : Shared} {G : Heap}
/-  the exception's own records have changed -/
theorem Inv.kp {h' : Heap} (I : Inv X pins σ H s) (c : Cov X pins G) (k : Kp H G (frs X.stack) s.heap h') : Inv X pins σ H { s with heap := h' } := by
  have any : ∀ b o, s.heap.get? b = some o → G.get? b ≠ none → ∃ sl, h'.get? b = some { o with slots := sl } := fun b o e hg => by
    by_cases hb : b ∈ frs X.stack
    · exact k.slot b o e hb
    · exact ⟨o.slots, k.keep b o e hb (.inl hg)⟩
  have hG : ∀ b o, X.s₀.heap.get? b = some o → G.get? b ≠ none := fun b o e z => by
    have := c.old b z
    rw [e] at this; cases this
  have nL : ∀ b o, X.s₀.heap.get? b = some o → b ≠ X.env.locals := fun b o e => Nat.ne_of_lt (Nat.lt_of_lt_of_le (Heap.lt_size e) I.ok.above)
  have cellK : ∀ x cc, X.env.cells.lookup x = some cc → ∀ v, s.heap.IsCell cc v → h'.IsCell cc v := fun x cc e v ⟨o, ho, hd⟩ => by
    obtain ⟨sl, q⟩ := any cc o ho (c.cell x cc e)
    exact ⟨_, q, hd⟩
  refine ⟨I.ok, I.os, I.bare, ⟨fun b o e hn hb hx => ?_, fun b o e hn hb hx => ?_, I.base.free, fun b o e hx => ?_, I.base.tups, I.base.frzs, I.base.tbls⟩, ?_, fun x cc e => ?_, I.free, I.freeC, fun p hp => ?_, k.hok I.stkFree I.hok, I.len⟩
  · exact k.keep b o (I.base.keep b o e hn hb hx) (fun z => (List.mem_cons.mp (I.stkSub b z)).elim (nL b o e) hb) (.inl (hG b o e))
  · obtain ⟨sl, e1⟩ := I.base.slot b o e hn hb hx
    obtain ⟨sl', e2⟩ := any b _ e1 (hG b o e)
    exact ⟨sl', e2⟩
  · obtain ⟨o1, e1⟩ := I.base.there b o e hx
    exact k.there b o1 e1
  · obtain ⟨m, ⟨o, es, ep, ho, r⟩, hl⟩ := I.loc
    obtain ⟨sl, q⟩ := any _ o ho c.loc
    refine ⟨m, ⟨_, es, ep, q, r⟩, fun i x v e1 e2 e3 => ?_⟩
    obtain ⟨u, ru, l⟩ := hl i x v e1 e2 e3
    refine ⟨u, ru, ?_⟩
    rcases l with l | ⟨kk, cc, e, z⟩
    · exact .inl l
    · exact .inr ⟨kk, cc, e, cellK x cc e _ z⟩
  · obtain ⟨v, z⟩ := I.cell x cc e
    exact ⟨v, cellK x cc e v z⟩
  · obtain ⟨e, n, ne, nf, d⟩ := I.pin p hp
    exact ⟨k.keep p.1 p.2 e (fun z => (List.mem_cons.mp (I.stkSub p.1 z)).elim ne nf) (.inl (c.pin p hp)), n, ne, nf, d⟩
/-  an untracked object of ours is tracked from here on -/
theorem Inv.hold {a : Addr} {o : HO} (I : Inv X pins σ H s) (c : Cov X pins G) (ha : G.get? a = none) (hH : H a = none) (ok : ObjOk X.prog X.w (upd H a o) s.heap a o) : Inv X pins σ (upd H a o) s := by
  have ne : ∀ b, G.get? b ≠ none → b ≠ a := fun b h z => by subst z; exact h ha
  have ne2 : ∀ b u, H b = some u → b ≠ a := fun b u h z => by subst z; rw [hH] at h; cases h
  have neo : ∀ b o', X.s₀.heap.get? b = some o' → b ≠ a := fun b o' e z => by
    subst z
    have := c.old b ha
    rw [e] at this; cases this
  refine ⟨I.ok, I.os, I.bare, ⟨I.base.keep, I.base.slot, fun b o' e hn hx => by rw [upd_ne (neo b o' e)]; exact I.base.free b o' e hn hx, I.base.there, fun b xs e => ?_, fun b o' u e => ?_, fun b ps e => ?_⟩, I.loc, I.cell, by rw [upd_ne (ne _ c.loc)]; exact I.free, fun x cc e => by rw [upd_ne (ne _ (c.cell x cc e))]; exact I.freeC x cc e, fun p hp => ?_, fun b u e => ?_, I.len⟩
  · have := I.base.tups b xs e
    rw [upd_ne (ne2 b _ this)]; exact this
  · have := I.base.frzs b o' u e
    rw [upd_ne (ne2 b _ this)]; exact this
  · obtain ⟨m, this⟩ := I.base.tbls b ps e
    exact ⟨m, by rw [upd_ne (ne2 b _ this)]; exact this⟩
  · obtain ⟨e, n, r⟩ := I.pin p hp
    exact ⟨e, by rw [upd_ne (ne _ (c.pin p hp))]; exact n, r⟩
  · by_cases z : b = a
    · subst z
      rw [upd_same] at e
      cases e
      exact ok
    · rw [upd_ne z] at e
      exact (I.hok b u e).stay (fun _ _ _ q => q) (fun d q => by rw [upd_ne (ne2 d _ q)]; exact q) fun d xs q => by rw [upd_ne (ne2 d _ q)]; exact q
/-  a name is unbound -/
theorem name_gone {M : Model} {A : Around} {E : Value → Shared → Prop} {i : Nat} {n : Str} {pos : Pos} {Q : Unit → Shared → Prop} (I : Inv X pins σ H s) (hN : X.N.Nodup) (hi : X.N[i]? = some n) (hk : X.env.scope.names.lookup n = some .local)
    (h : ∀ s', Inv X pins (σ.set i none) H s' → Q () s') : wpAny M A (do bindName X.env n .none; unbindBehindTheSuite X.env n pos) Q E s := by
  refine wpAny_bind (wpAny_bindName (store_ok (v := .non) I hN hi (.inl hk) rfl (fun s1 I1 => ?_) (.inr hk)))
  have hcls : (X.env.scope.kind == .class || (X.env.scope.kind == .module && X.env.locals != X.env.globals)) = false := by rw [I.ok.kind]; rfl
  have hiσ : i < σ.length := by rw [I.len]; exact (List.getElem?_eq_some_iff.mp hi).1
  obtain ⟨m, hn, hl⟩ := id I1.loc
  obtain ⟨u, ru, l⟩ := hl i n .non hi (List.getElem?_set_self hiσ) (.inl hk)
  have hv : m n = some u := by
    rcases l with l | ⟨l, _⟩
    · exact l.2
    · have l2 : X.env.scope.names.lookup n = some .cell ∨ X.env.scope.names.lookup n = some .free := l
      rw [hk] at l2
      rcases l2 with l2 | l2 <;> cases l2
  unfold unbindBehindTheSuite
  refine wpAny_onRaise (wpAny_unbindName_local hk hn hv hcls fun h' u' hn' hs => h _ ?_)
  obtain ⟨oL, _, _, hoL, _⟩ := id hn
  refine ⟨I1.ok, I1.os, I1.bare, ⟨fun b o e n hb hx => ?_, fun b o e n hb hx => ?_, I1.base.free, fun b o e hx => ?_, I1.base.tups, I1.base.frzs, I1.base.tbls⟩, ⟨_, hn', fun j y v' e1 e2 e3 => ?_⟩, fun y c e => ?_, I1.free, I1.freeC, fun p hp => ?_, fun b ob e => ?_, by simpa using I.len⟩
  · exact (hs.2 b (Nat.ne_of_lt (Nat.lt_of_lt_of_le (Heap.lt_size e) I1.ok.above))).trans (I1.base.keep b o e n hb hx)
  · obtain ⟨sl, e1⟩ := I1.base.slot b o e n hb hx
    exact ⟨sl, (hs.2 b (Nat.ne_of_lt (Nat.lt_of_lt_of_le (Heap.lt_size e) I1.ok.above))).trans e1⟩
  · obtain ⟨o', e1⟩ := I1.base.there b o e hx
    exact ⟨o', (hs.2 b (Nat.ne_of_lt (Nat.lt_of_lt_of_le (Heap.lt_size e) I1.ok.above))).trans e1⟩
  · by_cases hj : j = i
    · subst hj
      rw [List.getElem?_set_self hiσ] at e2
      cases e2
    · rw [List.getElem?_set_ne (Ne.symm hj)] at e2
      obtain ⟨w, rw', q⟩ := hl j y v' e1 (by rw [List.getElem?_set_ne (Ne.symm hj)]; exact e2) e3
      refine ⟨w, rw', ?_⟩
      rcases q with ⟨kk, e⟩ | ⟨kk, c, e, z⟩
      · refine .inl ⟨kk, ?_⟩
        have : y ≠ n := fun e => hj (nodup_ix hN e1 (e ▸ hi))
        simp [this, e]
      · exact .inr ⟨kk, c, e, z.sameBut hs (I1.cne y c e)⟩
  · obtain ⟨w', z⟩ := I1.cell y c e
    exact ⟨w', z.sameBut hs (I1.cne y c e)⟩
  · obtain ⟨e, n, ne, nf, d⟩ := I1.pin p hp
    exact ⟨(hs.2 p.1 ne).trans e, n, ne, nf, d⟩
  · refine (I1.hok b ob e).stay (fun c w' hc q => (hs.2 c ?_).trans q) (fun _ q => q) fun _ _ q => q
    rintro rfl
    rcases hc with rfl | hc
    · rw [I1.free] at e; cases e
    · rw [I1.free] at hc; cases hc
end
end L2
set_option maxHeartbeats 1000000
namespace L2
open PySem PySem.Spec PyProof.Rows
/-! ### try -/
/-  a caught exception, tracked -/
def ExO (a : Addr) (C : Value) (ed : Option Addr) : HO := .ext fun h => ∃ oe vs, h.get? a = some oe ∧ oe.cls = C ∧ oe.dict = ed ∧ oe.data = .fields vs
theorem exo_ok {P : Program} {w : World} {H : Hp} {h : Heap} {a : Addr} {C : Value} {ed : Option Addr} (x : ∃ oe vs, h.get? a = some oe ∧ oe.cls = C ∧ oe.dict = ed ∧ oe.data = .fields vs) : ObjOk P w H h a (ExO a C ed) :=
  ⟨x, (let ⟨oe, _, e, _⟩ := x; ⟨oe, e⟩), fun h1 h2 ⟨oe, vs, e, r⟩ k => ⟨oe, vs, k oe e, r⟩⟩
/-  the body of a try -/
def Cx.inTry (X : Cx) (pins : List (Addr × Obj)) (W : Value → Shared → Prop) : Cx := { X with xe := W, pn := X.pn ++ pins }
/-  the suite of a handler -/
def Cx.inHand (X : Cx) (a : Addr) : Cx := { X with A := X.A.mark (some (.ref a)), calm := false, xe := fun _ _ => False }
section
variable {X : Cx} {pins : List (Addr × Obj)} {σ : St} {H : Hp} {s : Shared} {G : Heap} {W : Value → Shared → Prop}
theorem Inv.inTry (I : Inv X pins σ H s) : Inv (X.inTry pins W) [] σ H s :=
  have ok := I.ok
  ⟨⟨ok.mod, ok.kind, ok.glob, ok.blt, ok.above, ok.inj, ok.has, ok.cab, ok.hd, ok.frames, ok.stk, ok.exf, ok.bs, ok.bsz, ok.noex, ok.exfs, ok.funs, ok.frf⟩, I.os, I.bare, I.base, I.loc, I.cell, I.free, I.freeC,
    fun p hp => I.pin p (by rw [List.append_nil] at hp; exact hp), I.hok, I.len⟩
theorem Inv.offTry {pins' : List (Addr × Obj)} (I : Inv (X.inTry pins W) pins' σ H s) : Inv X pins σ H s :=
  have ok := I.ok
  ⟨⟨ok.mod, ok.kind, ok.glob, ok.blt, ok.above, ok.inj, ok.has, ok.cab, ok.hd, ok.frames, ok.stk, ok.exf, ok.bs, ok.bsz, ok.noex, ok.exfs, ok.funs, ok.frf⟩, I.os, I.bare, I.base, I.loc, I.cell, I.free, I.freeC,
    fun p hp => I.pin p (List.mem_append_left _ hp), I.hok, I.len⟩
theorem Cov.offTry {pins' : List (Addr × Obj)} (c : Cov (X.inTry pins W) pins' G) : Cov X pins G := ⟨c.loc, c.cell, fun p hp => c.pin p (List.mem_append_left _ hp), c.old⟩
theorem Inv.inHand {a : Addr} (I : Inv X pins σ H s) : Inv (X.inHand a) pins σ H s :=
  have ok := I.ok
  ⟨⟨ok.mod, ok.kind, ok.glob, ok.blt, ok.above, ok.inj, ok.has, ok.cab, (fun z => nomatch z), ok.frames, ok.stk, ok.exf, ok.bs, ok.bsz, ok.noex, ok.exfs, ok.funs, ok.frf⟩, I.os, I.bare, I.base, I.loc, I.cell, I.free, I.freeC, I.pin, I.hok, I.len⟩
theorem Inv.offHand {a : Addr} (I : Inv (X.inHand a) pins σ H s) (ox : X.Ok) : Inv X pins σ H s := ⟨ox, I.os, I.bare, I.base, I.loc, I.cell, I.free, I.freeC, I.pin, I.hok, I.len⟩
end
/-  what the try's body owes at an exception -/
def tryW (X : Cx) (pins : List (Addr × Obj)) (σ : St) (E : XK) : Value → Shared → Prop := fun e s => ∃ a C ed H G, e = .ref a ∧ Inv X pins σ H s ∧ Trc H s.heap G a C ed .none ∧ Cov X pins G ∧ (∀ b, s.heap.get? b = none → G.get? b = none) ∧ E C ed H
theorem told_try {X : Cx} {pins : List (Addr × Obj)} {σ : St} {E : XK} (hex : X.ex = []) : Told (X.inTry pins (tryW X pins σ E)) (fun σ' => σ' = σ) E :=
  ⟨hex, fun _ _ H _ a C ed G hS I t c hG q => ⟨a, C, ed, H, G, rfl, by subst hS; exact I.offTry, t, c.offTry, hG, q⟩⟩
/-  handlers, from the first on -/
def PH (X : Cx) (hs : List ExceptHandler) (th : Value → Option Addr → TS) : Prop :=
  ∀ (pins : List (Addr × Obj)) (s : Shared) (σ : St) (H : Hp) (D : Ends) (a : Addr) (C : Value) (ed : Option Addr) (G : Heap), Inv X pins σ H s → Trc H s.heap G a C ed .none → Cov X pins G → th C ed D σ H →
    wpAny (model X.prog X.w) X.A (handleBy (.ref a) X.env hs) (SP X pins D) X.xe s
theorem ph_nil {X : Cx} : PH X [] (fun _ _ _ _ _ => False) := fun _ _ _ _ _ _ _ _ _ _ _ _ h => h.elim
/-  the class at C is the one at B, or stands under it -/
def subB (K : PySem.W.Frag) (C B : Addr) : Bool := match K.lookup C with
  | some ⟨_, _, .cls cd, _⟩ => cd.mro.contains (.ref B)
  | _ => false
theorem sub_of {K : PySem.W.Frag} {h : Heap} {C B : Addr} {ini : Option Value} {nm qn : Str} {N : Addr} {bs bm : List Value} {hd : Bool} {sn : List Str} {sub : List Value} {ab : Bool} {col : Option Bool} {dd : Option Addr} {k0 k1 k2 k3 k5 : Option Value} {nw : String} (X : K.In h) (q : exB K C ini = true)
    (hC : h.get? C = some (excClassObj nm qn C N bs bm hd sn sub ab col dd k0 k1 k2 k3 k5 nw)) : subB K C B = (Value.ref C :: bm).contains (.ref B) := by
  unfold exB at q
  split at q
  · rename_i ho
    have e := X _ _ ho
    rw [hC] at e
    cases e
    unfold subB
    rw [ho]
  · cases q
theorem match_own {M : Model} {A : Around} {E : Value → Shared → Prop} {h : Heap} {g : Array GenState} {d : Drawn} {t : Nat} {os : OsState} {e C B : Addr} {oe : Obj} {Q : Bool → Shared → Prop}
    {nm qn : Str} {N : Addr} {bs bm : List Value} {hd : Bool} {sn : List Str} {sub : List Value} {ab : Bool} {col : Option Bool} {dd : Option Addr} {k0 k1 k2 k3 k5 : Option Value} {nw : String}
    {nm' qn' : Str} {N' : Addr} {bs' bm' : List Value} {hd' : Bool} {sn' : List Str} {sub' : List Value} {ab' : Bool} {col' : Option Bool} {dd' : Option Addr} {l0 l1 l2 l3 l5 : Option Value} {nw' : String}
    (hC : h.get? C = some (excClassObj nm qn C N bs bm hd sn sub ab col dd k0 k1 k2 k3 k5 nw)) (hB : h.get? B = some (excClassObj nm' qn' B N' bs' bm' hd' sn' sub' ab' col' dd' l0 l1 l2 l3 l5 nw'))
    (he : h.get? e = some oe) (hcls : oe.cls = .ref C) (hbase : bm'.contains (.type "BaseException") = true) (hq : Q ((Value.ref C :: bm).contains (.ref B)) ⟨h, g, d, t, os⟩) : wpAny M A (excMatches (.ref e) (.ref B)) Q E ⟨h, g, d, t, os⟩ := by
  have hcB : (Value.ref B :: bm').contains (.type "BaseException") = true := by rw [List.contains_cons, hbase, Bool.or_true]
  have f := tc_notTuple
  unfold excMatches
  repeat (first | (with_reducible refine wpAny_loadPart_at he ?_; rw [hcls]) | with_reducible refine wpAny_loadPart_at hB ?_ | (with_reducible refine wpAny_isSubtype_exc hB ?_; rw [hcB]) | with_reducible refine wpAny_isSubtype_exc hC ?_ | wp_step)
  cases hb : (Value.ref C :: bm).contains (.ref B) <;> (rw [hb] at hq; wp_walk; exact hq)
end L2
set_option maxHeartbeats 1000000
namespace L2
open PySem PySem.Spec PyProof.Rows
/-  the ends behind a handler's suite: its name is unbound -/
def offE (i : Nat) (D : Ends) : Ends := { nx := fun σ H => D.nx (σ.set i none) H, rt := D.rt, bk := fun σ H => D.bk (σ.set i none) H, ct := fun σ H => D.ct (σ.set i none) H }
/-  except B as n: suite -/
def tAs (K : PySem.W.Frag) (B : Addr) (i : Nat) (ts : TS) (thr : Value → Option Addr → TS) : Value → Option Addr → TS := fun C ed D σ H => ∃ Cc ini b, C = .ref Cc ∧ exB K Cc ini = true ∧ subB K Cc B = b ∧
  if b = true then (∀ a, H a = none → ts (offE i D) (σ.set i (some (.ref a))) (upd H a (ExO a C ed))) else thr C ed D σ H
section
variable {X : Cx}
theorem Kp.wide' {H : Hp} {G : Heap} {h h' : Heap} {fs : List Addr} (k : Kp H G [] h h') (hd : ∀ b ∈ fs, ∀ o, h.get? b = some o → ∃ sl, h'.get? b = some { o with slots := sl }) : Kp H G fs h h' :=
  ⟨fun b o e _ hx => k.keep b o e (by simp) hx, fun b o e hm => hd b hm o e, k.there, k.size⟩
theorem ph_as {x n : Str} {np hpos : Pos} {b₀ : Stmt} {suite : List Stmt} {rest : List ExceptHandler} {ts : TS} {thr : Value → Option Addr → TS} {B : Addr} {i : Nat} {inB : Option Value} (hg : Gl X x) (hm : X.mg x = some (.ref B)) (qB : exB X.K B inB = true) (hdb : (x == ("__debug__" : Str)) = false)
    (hN : X.N.Nodup) (hi : X.N[i]? = some n) (hk : X.env.scope.names.lookup n = some .local) (hsu : ∀ a, PSs (X.inHand a) (b₀ :: suite) ts) (hr : PH X rest thr) :
    PH X (.ExceptHandler (some (.Name x np)) (some n) (b₀ :: suite) hpos :: rest) (tAs X.K B i ts thr) := by
  intro pins s σ H D a C ed G I t c h
  obtain ⟨Cc, ini, b, rfl, q, hb, h⟩ := h
  have Ih : Inv (X.inHand a) pins σ H s := I.inHand
  refine wpAny_handleBy_cons (codeAny_handlers_test (ld_glob (X := X.inHand a) Ih hg hm ?_ hdb)) (by intro z; cases z)
  obtain ⟨_, qn, N, bs, bm, hd, sn, sub, ab, col, dd, k0, k1, k2, k3, k5, hC, _, TL⟩ := exB_obj I.kIn q
  obtain ⟨_, qn', N', bs', bm', hd', sn', sub', ab', col', dd', l0, l1, l2, l3, l5, hB, _, TB⟩ := exB_obj I.kIn qB
  obtain ⟨ha, hHa, oe, vs, he, hcl, hdi, hda, hsz, htb⟩ := id t
  obtain ⟨sh, sg, sd, stk, sos⟩ := s
  refine match_own hC hB he hcl (exB_base TB) ?_
  rw [← sub_of I.kIn q hC, hb]
  cases b with
  | false =>
    rw [if_neg Bool.false_ne_true] at h
    exact hr pins _ σ H D a _ ed G I t c h
  | true =>
    rw [if_pos rfl] at h
    refine codeAny_handlers_suite_as ?_
    refine flight_wp (outer := X.stack) I.stack t fun h1 t1 f1 kp1 kn1 => ?_
    have I1 : Inv X pins σ H { heap := h1, gens := sg, drawn := sd, toks := stk, os := sos } := I.kp c (kp1.wide' fun b hm o e => ?_)
    · have Ia : Inv X pins σ (upd H a (ExO a (.ref Cc) ed)) { heap := h1, gens := sg, drawn := sd, toks := stk, os := sos } := by
        obtain ⟨_, _, oe1, vs1, he1, hcl1, hdi1, hda1, _⟩ := id t1
        exact I1.hold c ha hHa (exo_ok ⟨oe1, vs1, he1, hcl1, hdi1, hda1⟩)
      refine store_ok (X := X.inHand a) (v := .ref a) Ia.inHand hN hi (.inl hk) rfl (fun s2 I2 => ?_) (.inr hk)
      refine wpAny_mono (hsu a pins s2 _ _ _ I2 (h a hHa)) (fun f s3 z => ?_) fun _ _ z => z.elim
      show wpAny _ X.A (do bindName X.env n .none; unbindBehindTheSuite X.env n hpos) _ _ s3
      cases f with
      | next =>
        obtain ⟨σ', H', J, z⟩ := z
        exact name_gone (J.offHand I.ok) hN hi hk fun s4 J4 => ⟨_, H', J4, z⟩
      | brk =>
        obtain ⟨σ', H', J, z⟩ := z
        exact name_gone (J.offHand I.ok) hN hi hk fun s4 J4 => ⟨_, H', J4, z⟩
      | cont =>
        obtain ⟨σ', H', J, z⟩ := z
        exact name_gone (J.offHand I.ok) hN hi hk fun s4 J4 => ⟨_, H', J4, z⟩
      | ret u =>
        obtain ⟨v, σ', H', J, rv, z⟩ := z
        exact name_gone (J.offHand I.ok) hN hi hk fun s4 J4 => ⟨v, _, H', J4, rv, z⟩
    · obtain ⟨_, o', ho', hnf⟩ := I.stack.mem hm
      have e' := ho'.symm.trans e
      cases e'
      exact ⟨o.slots, kn1 b o ho' hnf⟩
/-  try: body, handlers -/
def tTry (tb : St → XK → TS) (th : Value → Option Addr → TS) : TS := fun D σ H => tb σ (fun C ed H' => th C ed D σ H') D σ H
theorem ps_try {body : List Stmt} {h₀ : ExceptHandler} {hs : List ExceptHandler} {pos : Pos} {tb : St → XK → TS} {th : Value → Option Addr → TS} (hst : X.stack = X.env :: X.outer) (hfr : X.env.frame = some X.env.locals)
    (hb : ∀ (pins : List (Addr × Obj)) (σ : St) (E : XK), PSs (X.inTry pins (tryW X pins σ E)) body (tb σ E)) (hh : PH X (h₀ :: hs) th) : PS X (.Try body (h₀ :: hs) [] [] pos) (tTry tb th) := by
  intro pins s σ H D I h
  refine wpAny_Try_except (wpAny_mono (hb pins σ _ [] s σ H D I.inTry h) (fun f s1 z => ?_) fun e s1 z => ?_)
  · cases f with
    | next =>
      obtain ⟨σ', H', J, z⟩ := z
      exact wpAny_execs_nil ⟨σ', H', J.offTry, z⟩
    | brk =>
      obtain ⟨σ', H', J, z⟩ := z
      exact ⟨σ', H', J.offTry, z⟩
    | cont =>
      obtain ⟨σ', H', J, z⟩ := z
      exact ⟨σ', H', J.offTry, z⟩
    | ret u =>
      obtain ⟨v, σ', H', J, rv, z⟩ := z
      exact ⟨v, σ', H', J.offTry, rv, z⟩
  · obtain ⟨a, C, ed, H', G, rfl, J, t, c, hG, q⟩ := z
    refine note_wp (hst ▸ J.ok.frames) (hst ▸ J.stack) hfr (fun b hb => J.hok.fresh hb) ?_ t fun h1 t1 f1 k1 => ?_
    · exact fun b hb => hG b (get_none hb)
    · have J1 : Inv X pins σ H' { s1 with heap := h1 } := J.kp c (hst ▸ k1)
      refine flight_wp (s := { s1 with heap := h1 }) (outer := X.env :: X.outer) f1 t1 fun h2 t2 f2 k2 kn2 => ?_
      have J2 : Inv X pins σ H' { s1 with heap := h2 } := J1.kp c (k2.wide' fun b hm o e => ?_)
      · exact hh pins _ σ H' D a C ed G J2 t2 c q
      · have fs1 : h1.FunFrames X.base X.stack := hst ▸ f1
        obtain ⟨_, o', ho', hnf⟩ := fs1.mem hm
        have e' := ho'.symm.trans e
        cases e'
        exact ⟨o.slots, kn2 b o ho' hnf⟩
end
end L2
set_option maxHeartbeats 1000000
namespace L2
open PySem PySem.Spec PyProof.Rows
/-! ### what is asked of a caught exception -/
section
variable {prog : Program} {w : World} {A : Around} {E : Value → Shared → Prop} {s : Shared} {K : PySem.W.Frag} {a C : Addr} {ox : Obj} {od : Option Obj} {name : Str}
/-  the class of an exception, as it is asked by K -/
structure XCls (K : PySem.W.Frag) (C : Addr) : Prop where
  ga : PySem.W.findIn K (.ref C) "__getattribute__" = some (some (.builtin "BaseException.__getattribute__"))
  gh : PySem.W.findIn K (.ref C) "__getattr__" = some none
  base : PySem.W.mroIn K C (.type "BaseException") = some true
  obj : PySem.W.mroIn K C (.type "object") = some true
  hd : PySem.W.hasDictIn K C = true
  cl : PySem.W.findIn K (.ref C) "__class__" = some (some (.builtin "object.__class__"))
  cg : PySem.W.specialIn K (.builtin "object.__class__") "__get__" = some (some (.builtin "getset_descriptor.__get__"))
  ct : PySem.W.takesIn K (.builtin "object.__class__") = some true
theorem xga_call {tk : Tok} {R : Result → Shared → Prop} (c : XCls K C) (X : K.In s.heap) (I : PySem.W.InstAt s.heap a ox C od)
    (h : wpAny (model prog w) A.in1 (Builtin.«object.__getattribute__» ⟨[.ref a, .str name tk], []⟩) (fun fin s' => match fin with | .done f => R (.ok f) s' | .again c' => c'.quiet = true ∧ codeAny (model prog w) A c' R s') (fun e s' => R (.error e) s') s) :
    codeAny (model prog w) A (.call (.builtin "BaseException.__getattribute__") ⟨[.ref a, .str name tk], []⟩) R s := by
  have hi : PySem.W.Looks (model prog w) s.heap (isInstance (.ref a) (.type "BaseException")) true := I.type.andThen (PySem.W.looks_mroIn X c.base)
  have hk : builtinKind "BaseException.__getattribute__" = some .slot := by decide +kernel
  have hs : splitId "BaseException.__getattribute__" = some ("BaseException", "__getattribute__") := by decide +kernel
  refine codeAny_call_builtin PySem.F.attr_ValueError.ga.plain PySem.F.entry_bexc_ga (@PySem.W.check_slot (model prog w) _ _ s "BaseException.__getattribute__" "BaseException" "__getattribute__" (.ref a) [.str name tk] [] _ hk hs hi (PySem.F.args_bexc_ga _ _) ?_)
  exact h
theorem xget_by {tk : Tok} {fill expr : Bool} {v : Value} {Q : Value → Shared → Prop} (c : XCls K C) (X : K.In s.heap) (I : PySem.W.InstAt s.heap a ox C od) (hh : PySem.W.handedIn v = true)
    (h : ∀ R : Result → Shared → Prop, R (.ok (.ret v)) s → codeAny (model prog w) A (.call (.builtin "BaseException.__getattribute__") ⟨[.ref a, .str name tk], []⟩) R s) (q : Q v s) :
    wpAny (model prog w) A (getAttrBy (.ref a) (.str name tk) fill expr) Q E s := by
  obtain ⟨sh, g, d, t, os⟩ := s
  have L0 := I.type (M := model prog w)
  have L1 := PySem.W.looks_findIn (M := model prog w) X c.ga
  have L2 := PySem.W.looks_findIn (M := model prog w) X c.gh
  have f3 := PySem.F.attr_ValueError.ga.bind (.ref a)
  have hx2 : (Value.builtin "BaseException.__getattribute__" == Value.builtin "object.__getattribute__") = false := by decide +kernel
  unfold getAttrBy
  refine wpAny_holding (wpAny_bind (L0.at (wpAny_bind (L1.at ?_))))
  dsimp only
  rw [hx2, Bool.and_false, if_neg Bool.false_ne_true]
  unfold getAttrByItsOwn hookBefore
  refine wpAny_bind ?_
  rw [if_pos (show onTheHeap (Value.ref C) = true from rfl)]
  refine L2.at (wpAny_bind (wpAny_attempt (wpAny_holding ?_)))
  unfold callGetattribute boundAndCalled
  rw [if_neg (by cases expr <;> decide)]
  rw [f3]
  refine wpAny_bind (wpAny_pure (wpAny_call (h _ ?_)))
  show wpAny _ _ (handedOut v) _ _ _
  rw [PySem.W.handedOut_of hh]
  exact wpAny_pure q
/-  its class -/
theorem xget_class {tk : Tok} {R : Result → Shared → Prop} (c : XCls K C) (X : K.In s.heap) (I : PySem.W.InstAt s.heap a ox C od) (q : R (.ok (.ret (.ref C))) s) :
    codeAny (model prog w) A (.call (.builtin "BaseException.__getattribute__") ⟨[.ref a, .str "__class__" tk], []⟩) R s := by
  have hf : PySem.W.findObj K C od "__class__" = some (.bind (.builtin "getset_descriptor.__get__") (.builtin "object.__class__")) := by
    obtain ⟨cd, hc, _⟩ := PySem.W.any_some c.hd
    unfold PySem.W.findObj
    rw [hc, Option.bind_some, c.cl, Option.bind_some]
    simp [c.cg, c.ct]
  refine xga_call c X I ?_
  obtain ⟨sh, g, d, t, os⟩ := s
  have L0 := I.type (M := model prog w)
  have L1 := PySem.W.looks_find (M := model prog w) X I hf
  unfold Builtin.«object.__getattribute__»
  refine wpAny_bind (wpAny_pure (wpAny_bind (wpAny_pure (wpAny_bind (L0.at (wpAny_bind (L1.at ?_)))))))
  dsimp only
  refine wpAny_bind (wpAny_holding (wpAny_call (PySem.W.class_get (s := ⟨sh, g, d, t, os⟩) X I c.obj ?_)))
  exact wpAny_pure q
end
end L2
set_option maxHeartbeats 1000000
namespace L2
open PySem PySem.Spec PyProof.Rows
section
variable {K : PySem.W.Frag} {a C : Addr}
theorem kitx_exc (c : XCls K C) : PySem.W.KitX K (.ref a) (.ref C) (fun h => ∃ ox od, PySem.W.InstAt h a ox C od) where
  ty := fun _ _ _ ⟨_, _, I⟩ => I.type
  it := fun _ _ X _ => by
    obtain ⟨cd, hc, _⟩ := PySem.W.any_some c.hd
    unfold PySem.W.clsIn at hc
    split at hc
    · rename_i ho
      intro A' Q' E' s' k q
      unfold isType loadHead
      exact wpAny_bind (wpAny_loadPart (k _ _ (X _ _ ho)) (wpAny_pure q))
    · cases hc
  ne := fun h tp dd its n sl X htp => by
    obtain ⟨cd, hc, _⟩ := PySem.W.any_some c.hd
    refine Bool.eq_false_iff.mpr fun q => ?_
    have e : C = tp := Value.ref.inj (beq_iff_eq.mp q)
    subst e
    unfold PySem.W.clsIn at hc
    split at hc
    · rename_i ho
      have z := (X _ _ ho).symm.trans htp
      cases z
    · cases hc
  ca := fun {prog w A E Q s} X p k => by
    obtain ⟨ox, od, I⟩ := p
    unfold getAttr? getAttrBy?
    refine wpAny_bind (wpAny_mkText (wpAny_bind (wpAny_attempt ?_)))
    refine xget_by (s := { s with toks := s.toks + 1 }) c X I rfl (fun R q => xget_class (s := { s with toks := s.toks + 1 }) c X I q) ?_
    exact wpAny_pure k
end
/-  the dict of a tracked exception is known -/
def XdOk (H : Hp) (ed : Option Addr) : Prop := ed = none ∨ ∃ dx fs, ed = some dx ∧ H dx = some (.xd fs)
section
variable {P : Program} {w : World} {H : Hp} {h : Heap} {a C : Addr} {ed : Option Addr}
theorem exo_inst (hok : HOk P w H h) (e : H a = some (ExO a (.ref C) ed)) (hd : XdOk H ed) : ∃ ox od, PySem.W.InstAt h a ox C od := by
  obtain ⟨⟨oe, vs, e1, e2, e3, e4⟩, _⟩ := (show ObjOk P w H h a (ExO a (.ref C) ed) from hok a _ e)
  have hn : PySem.W.notCls oe = true := by
    obtain ⟨c, d, dt, sl⟩ := oe
    cases e4
    rfl
  rcases hd with rfl | ⟨dx, fs, rfl, hx⟩
  · exact ⟨oe, none, e1, e2, hn, by rw [e3]; trivial⟩
  · obtain ⟨mA, hns, _⟩ := (show ObjOk P w H h dx (.xd fs) from hok dx _ hx)
    obtain ⟨od, ho, _⟩ := lookIn_ns hns
    exact ⟨oe, some od, e1, e2, hn, by rw [e3]; exact ho⟩
end
section
variable {X : Cx}
/-  isinstance(e, B) of a caught exception -/
def rIsX (K : PySem.W.Frag) : List V → Hp → VK → Prop := fun xs H Q => ∃ a C ed b, H a = some (ExO a (.ref C) ed) ∧ XdOk H ed ∧ XCls K C ∧ ((∃ B, xs = [.ref a, .ref B] ∧ PySem.W.kitOne K (.ref C) (.ref B) = some b) ∨ ∃ S, xs = [.ref a, .ty S] ∧ PySem.W.kitOne K (.ref C) (.type S) = some b) ∧ Q (.bl b) H
theorem call_isX : CallR X (.builtin "isinstance") (rIsX X.K) := by
  intro pins s σ H xs us Q I r h
  obtain ⟨a, C, ed, b, e, hd, c, hx, q⟩ := h
  have J := exo_inst I.hok e hd
  rcases hx with ⟨B, rfl, hk⟩ | ⟨S, rfl, hk⟩
  · obtain ⟨u, z, rfl, ru, rz⟩ := vals2 r
    cases (show u = Value.ref a from ru)
    cases (show z = Value.ref B from rz)
    exact PySem.W.kia_one (kitx_exc c) I.kIn J hk (fun z => nomatch z) fun tk => ⟨.bl b, H, I.tok _, rfl, q⟩
  · obtain ⟨u, z, rfl, ru, rz⟩ := vals2 r
    cases (show u = Value.ref a from ru)
    cases rz
    exact PySem.W.kia_one (kitx_exc c) I.kIn J hk (fun z => nomatch z) fun tk => ⟨.bl b, H, I.tok _, rfl, q⟩
theorem k_isX {K : PySem.W.Frag} (e : X.K = K) : CallR X (.builtin "isinstance") (rIsX K) := by subst e; exact call_isX
/-  e.f of a caught exception -/
def tXF (K : PySem.W.Frag) (te : TE) (f : Str) : TE := fun σ H Q => te σ H fun x H1 => ∃ a C dx fs v, x = .ref a ∧ H1 a = some (ExO a (.ref C) (some dx)) ∧ H1 dx = some (.xd fs) ∧ XCls K C ∧ NoAttr K C f ∧ fs.lookup f = some v ∧ Q v H1
end
end L2
set_option maxHeartbeats 1000000
namespace L2
open PySem PySem.Spec PyProof.Rows
/-! ### an exception's own __init__ -/
section
variable {prog : Program} {w : World} {A : Around} {E : Value → Shared → Prop} {h : Heap} {g : Array GenState} {d : Drawn} {t : Nat} {os : OsState} {K : PySem.W.Frag}
variable {nm q : Str} {C N a : Addr} {bs bm : List Value} {sn : List Str} {sub : List Value} {ab : Bool} {col : Option Bool} {dd : Option Addr} {k0 k1 k2 k3 k5 : Option Value} {newId : String} {name : Str} {v : Value} {o : Obj} {vs : Array Value}
end
end L2
set_option maxHeartbeats 1000000
namespace L2
open PySem PySem.Spec PyProof.Rows
/-  a new exception, tracked while its __init__ runs -/
def ExN (a : Addr) (C : Value) (ed : Option Addr) : HO := .ext fun h => ∃ oe vs, h.get? a = some oe ∧ oe.cls = C ∧ oe.dict = ed ∧ oe.data = .fields vs ∧ 1 < vs.size ∧ vs[1]? = some .none
/-  a thing is tracked no more -/
def dropH (H : Hp) (a : Addr) : Hp := fun b => if b = a then none else H b
section
variable {X : Cx} {pins : List (Addr × Obj)} {σ : St} {H : Hp} {s : Shared} {a : Addr}
/-  self.f = y in the __init__ of an exception -/
def sXset (K : PySem.W.Frag) (ta tv : TE) (f : Str) : TS := fun D σ H => tv σ H fun y H1 => ta σ H1 fun x H2 => ∃ a C ini, x = .ref a ∧ H2 a = some (ExN a (.ref C) none) ∧ exB K C ini = true ∧ PySem.W.hasDictIn K C = true ∧
  PySem.W.findIn K (.ref C) "__setattr__" = some (some (.builtin "object.__setattr__")) ∧ NoAttr K C f ∧ ∀ dx, H2 dx = none → dx ≠ a → D.nx σ (upd (upd H2 dx (.xd [(f, y)])) a (ExN a (.ref C) (some dx)))
end
end L2
set_option maxHeartbeats 1000000
namespace L2
open PySem PySem.Spec PyProof.Rows
section
variable {prog : Program} {w : World} {A : Around} {E : Value → Shared → Prop} {h : Heap} {g : Array GenState} {d : Drawn} {t : Nat} {os : OsState}
variable {nm qn : Str} {C N : Addr} {bs bm : List Value} {hd : Bool} {sn : List Str} {sub : List Value} {ab : Bool} {col : Option Bool} {dd : Option Addr} {k0 k1 k2 k3 k5 : Option Value}
end
section
variable {X : Cx} {e : Expr} {es : List Expr} {t : TA} {S : St → Prop} {E : XK} {k : Nat} {f C : Addr} {fd : FuncData} {ps : List Str} {sp : Sp}
/-  raise C(..), C with an __init__ of its own -/
def tRaiseI (S : St → Prop) (E : XK) (C : Addr) (sp : Sp) (t : TA) : TS := fun _ σ H => t σ H fun vs H1 => S σ ∧ vs.length ≤ sizeLine ∧ ∀ a, H1 a = none → sp (.ref a :: vs) (upd H1 a (ExN a (.ref C) none)) (fun v H2 => v = .non ∧ ∃ ed, H2 a = some (ExN a (.ref C) ed) ∧ E (.ref C) ed (dropH H2 a)) E0
end
end L2
set_option maxHeartbeats 1000000
namespace L2
open PySem PySem.Spec PyProof.Rows
section
variable {X : Cx} {k : Nat} {f C : Addr} {fd : FuncData} {ps : List Str} {sp : Sp} {x m : Str} {p pos apos : Pos} {e o : Expr} {es : List Expr} {ta : TE} {t : TA} {S : St → Prop} {E : XK}
/-  o.m(..), out of which exceptions may come -/
def tMethX (S : St → Prop) (C : Addr) (m : Str) (sp : Sp) (E : XK) (ta : TE) (t : TA) : TE := fun σ H Q => ta σ H fun x H1 => ∃ a dx fs, x = .ref a ∧ H1 a = some (.ins C dx fs) ∧ fs.lookup m = none ∧ t σ H1 fun vs H2 => S σ ∧ sp (x :: vs) H2 Q E
/-  C(..), out of whose __init__ exceptions may come -/
def tMakeX (S : St → Prop) (C : Addr) (sp : Sp) (E : XK) (t : TA) : TE := fun σ H Q => t σ H fun vs H1 => S σ ∧ ∀ x dx, H1 x = none → H1 dx = none → dx ≠ x → sp (.ref x :: vs) (upd (upd H1 dx (.own x)) x (.ins C dx [])) (fun v H2 => v = .non ∧ Q (.ref x) H2) E
end
end L2
set_option maxHeartbeats 1000000
namespace L2
open PySem PySem.Spec PyProof.Rows
/-! ### what a text's classes and methods are -/
/-  the j-th row of a class's body -/
def inCls (s : Stmt) (j : Nat) : Stmt := match s with
  | .ClassDef _ _ _ b _ _ _ _ _ _ _ => b.getD j (.Pass ⟨0, 0, 0, 0⟩)
  | _ => .Pass ⟨0, 0, 0, 0⟩
structure MthOk (K : PySem.W.Frag) (x qual : Str) (st : Stmt) (ps : List Str) (f : Addr) (fd : FuncData) : Prop where
  F : Fun K x qual st f fd
  b : Binds K fd ps []
  fn : PySem.W.isFn K (.ref f) = true
/-  an exception's class -/
structure ExcOk (K : PySem.W.Frag) (mg : Str → Option Value) (x : Str) (c : Addr) (ini : Option Value) : Prop where
  m : mg x = some (.ref c)
  x : exB K c ini = true
  kp : PySem.W.keepIn K (.ref c) = true
  xc : XCls K c
  sa : PySem.W.findIn K (.ref c) "__setattr__" = some (some (.builtin "object.__setattr__"))
/-  a class of one's own -/
structure OwnOk (K : PySem.W.Frag) (mg : Str → Option Value) (x : Str) (c fi : Addr) : Prop where
  m : mg x = some (.ref c)
  cls : Cls K c
  mkr : Mk K c fi
theorem exc_mk {K : PySem.W.Frag} {h : Heap} {mg : Str → Option Value} {x : Str} {c : Addr} {ini : Option Value} (X : K.In h) (G : h.Ns mainGlobals mg) (a : PySem.W.nsIn K mainGlobals x = some (some (.ref c))) (e : exB K c ini = true) (kp : PySem.W.keepIn K (.ref c) = true)
    (ga : PySem.W.findIn K (.ref c) "__getattribute__" = some (some (.builtin "BaseException.__getattribute__"))) (gh : PySem.W.findIn K (.ref c) "__getattr__" = some none) (ba : PySem.W.mroIn K c (.type "BaseException") = some true) (ob : PySem.W.mroIn K c (.type "object") = some true) (hd : PySem.W.hasDictIn K c = true)
    (cl : PySem.W.findIn K (.ref c) "__class__" = some (some (.builtin "object.__class__"))) (cg : PySem.W.specialIn K (.builtin "object.__class__") "__get__" = some (some (.builtin "getset_descriptor.__get__"))) (ct : PySem.W.takesIn K (.builtin "object.__class__") = some true)
    (sa : PySem.W.findIn K (.ref c) "__setattr__" = some (some (.builtin "object.__setattr__"))) : ExcOk K mg x c ini := ⟨PySem.W.mg_of X G a, e, kp, ⟨ga, gh, ba, ob, hd, cl, cg, ct⟩, sa⟩
section
variable {X : Cx}
/-  a class's name as a value -/
theorem pgcl {x : Str} {c : Addr} {pos : Pos} (hm : X.mg x = some (.ref c)) (hg : Gl X x) (hd : (x == ("__debug__" : Str)) = false) : PE X (.Name x pos) (tC (.ref c)) := pe_glob hg hm rfl hd
end
theorem bt_ValueError : bootBuiltins "ValueError" = some (.type "ValueError") := by decide +kernel
/-  a def out of which no exception comes calls one that might: it owes what keeps that from raising -/
theorem told_no {X : Cx} (hex : X.ex = []) : Told X (fun _ => True) (fun _ _ _ => False) := ⟨hex, fun _ _ _ _ _ _ _ _ _ _ _ _ _ q => q.elim⟩
end L2
set_option maxHeartbeats 1000000
namespace L2
open PySem PySem.Spec PyProof.Rows
/-! ### enumerate of a list -/
section
variable {X : Cx}
end
end L2
set_option maxHeartbeats 4000000
namespace L2
open PySem PySem.Spec PyProof.Rows
/-! ### what a dict's keys are collected to -/
section
variable {prog : Program} {w : World} {A : Around} {E : Value → Shared → Prop} {s : Shared} {T : String} {r d : Addr} {n : Nat} {P : Nat → Value → Prop} {OK : Heap → Prop}
end
end L2
namespace L2
open PySem PySem.Spec PyProof.Rows
section
variable {X : Cx}
def rSortD : List V → Hp → VK → Prop := fun xs H Q => ∃ d kvs, ∃ ks : List Int, xs = [.ref d] ∧ H d = some (.dK kvs) ∧ kvs.map (·.1) = ks.map Sum.inl ∧ kvs.length < 64 ∧
  ∀ p, ∀ ms : List Int, H p = none → ms.Perm ks → ms.Pairwise (· ≤ ·) → Q (.ref p) (upd H p (.lst (ms.map V.int)))
end
end L2
set_option maxHeartbeats 4000000
namespace L2
open PySem PySem.Spec PyProof.Rows
open AutoSeq1 (wpAny_loadPart')
/-! ### enumerate of a tuple -/
section
variable {prog : Program} {w : World} {A : Around} {E : Value → Shared → Prop} {s : Shared}
end
end L2
namespace L2
open PySem PySem.Spec PyProof.Rows
section
variable {X : Cx}
/-  d.pop(k), k there -/
def rDPop : V → List V → Hp → VK → Prop := fun x vs H Q => ∃ d kvs k v, x = .ref d ∧ vs = [kV k] ∧ H d = some (.dK kvs) ∧ valV kvs k = some v ∧ Q v (upd H d (.dK (dropK kvs k)))
end
end L2
set_option maxHeartbeats 4000000
namespace L2
open PySem PySem.Spec PyProof.Rows
section
variable {X : Cx}
end
end L2
namespace L2
open PySem PySem.Spec PyProof.Rows
section
variable {X : Cx} {k : Nat} {f C : Addr} {fd : FuncData} {ps : List Str} {sp : Sp} {x m : Str} {p pos apos : Pos} {e o : Expr} {es : List Expr} {ta : TE} {t : TA}
end
end L2
set_option maxHeartbeats 4000000
namespace L2
open PySem PySem.Spec PyProof.Rows
section
variable {X : Cx}
/-  xs.index(z), xs a list of texts -/
def rIndexS (K : PySem.W.Frag) : V → List V → Hp → VK → Prop := fun x vs H Q => ∃ l, ∃ ns : List Str, ∃ z, ∃ j : Nat, x = .ref l ∧ vs = [.str z] ∧ SqL K H l (ns.map V.str) ∧ ns[j]? = some z ∧ (∀ m, m < j → ns[m]? ≠ some z) ∧ Q (.int j) H
end
end L2
set_option maxHeartbeats 4000000
namespace L2
open PySem PySem.Spec PyProof.Rows
/-! ### a raise inside a comprehension: an exception that may bear any mark of flight -/
section
variable {M : Model} {A : Around} {E : Value → Shared → Prop} {s : Shared} {Q : Unit → Shared → Prop} {base : Heap} {env : Env} {outer : List Env} {L e : Addr} {C : Value} {ed : Option Addr} {G : Heap} {H : Hp}
theorem note_any {fl : Value} (hfr : A.frames = some (env :: outer)) (hl : s.heap.FunFrames base (env :: outer)) (hf : env.frame = some L) (hH : ∀ b, s.heap.objs.size ≤ b → H b = none) (hG : ∀ b, s.heap.objs.size ≤ b → G.get? b = none) (t : Trc H s.heap G e C ed fl)
    (h : ∀ h', Trc H h' G e C ed (rawInt L) → h'.FunFrames base (env :: outer) → Kp H G (frs (env :: outer)) s.heap h' → Q () { s with heap := h' }) : wpAny M A (noteFrame (.ref e) env) Q E s := by
  obtain ⟨hn, hHe, oe, vs, he, hc, hdi, hd, hsz, ht⟩ := t
  unfold noteFrame
  simp only [hf]
  have nfr : ∀ b o ws, s.heap.get? b = some o → o.data = .fields ws → b ∉ frs (env :: outer) := fun b o ws ho hw hm => by
    obtain ⟨_, o', ho', hnf⟩ := hl.mem hm
    rw [ho] at ho'
    cases ho'
    exact hnf ws hw
  have fin : ∀ (s1 : Shared) (h' : Heap) (T : Addr) (oT : Obj) (ts : Array Value), s.heap.objs.size ≤ T → h'.get? e = some (oe.mapFields (·.setIfInBounds 1 (.ref T))) → h'.get? T = some oT → oT.data = .fields ts → ts[3]? = some (rawInt L) →
      (∀ b o, s.heap.get? b = some o → b ∉ frs (env :: outer) → (G.get? b ≠ none ∨ H b ≠ none) → h'.get? b = some o) → (∀ b o, s.heap.get? b = some o → (∀ ws, o.data ≠ .fields ws) → ∃ sl, h'.get? b = some { o with slots := sl }) →
      (∀ b o, s.heap.get? b = some o → ∃ o', h'.get? b = some o') → s.heap.objs.size ≤ h'.objs.size → Q () { s with heap := h' } := by
    intro s1 h' T oT ts hT e1 e2 e3 e4 k1 k2 k3 k4
    have le : e < s.heap.objs.size := Heap.lt_size he
    refine h h' ⟨hn, hHe, _, _, e1, by rw [Obj.cls_mapFields]; exact hc, ?_, Obj.data_mapFields hd _, by simpa using hsz, .inr ⟨T, oT, ts, by simp [hsz], hG T hT, Nat.ne_of_gt (Nat.lt_of_lt_of_le le hT), hH T hT, e2, e3, e4⟩⟩ (hl.of_keeps fun b o hb hnf => ?_) ⟨k1, fun b o hb hm => ?_, k3, k4⟩
    · rw [← hdi]
      obtain ⟨c, d, dt, sl⟩ := oe
      cases dt <;> rfl
    · obtain ⟨sl, q⟩ := k2 b o hb hnf
      exact ⟨_, q, rfl⟩
    · obtain ⟨_, o', ho', hnf⟩ := hl.mem hm
      rw [hb] at ho'
      cases ho'
      exact k2 b o hb hnf
  have nee : ∀ b o, s.heap.get? b = some o → (G.get? b ≠ none ∨ H b ≠ none) → b ≠ e := fun b o hb hx z => by
    subst z
    rcases hx with hx | hx
    · exact hx hn
    · exact hx hHe
  rcases ht with ⟨h1, _⟩ | ⟨T, oT, ts, h1, hT, hTe, hHT, gT, hdT, h3⟩
  · refine wpAny_bind (wpAny_field he hd h1 ?_)
    rw [if_neg (by decide)]
    refine entry_wp hfr hl hf he hd hsz fun h' T' oT' ts' q1 q2 q3 q4 q5 q6 q7 q8 => fin s h' T' oT' ts' q1 q2 q3 q4 q5 (fun b o hb hm hx => q6 b o (nee b o hb hx) hb hm) (fun b o hb hnf => q7 b o (fun z => ?_) hb) (fun b o hb => ?_) q8
    · subst z
      rw [he] at hb
      cases hb
      exact hnf vs hd
    · by_cases z : b = e
      · subst z
        exact ⟨_, q2⟩
      · obtain ⟨sl, q⟩ := q7 b o z hb
        exact ⟨_, q⟩
  · refine wpAny_bind (wpAny_field he hd h1 ?_)
    rw [if_pos (show (Value.ref T != Value.none) = true from by simp)]
    refine wpAny_bind (wpAny_field gT hdT h3 ?_)
    by_cases hfl : (fl == rawInt L) = true
    · rw [if_pos hfl]
      have efl : fl = rawInt L := by simpa using hfl
      subst efl
      exact wpAny_pure (h s.heap ⟨hn, hHe, oe, vs, he, hc, hdi, hd, hsz, .inr ⟨T, oT, ts, h1, hT, hTe, hHT, gT, hdT, h3⟩⟩ hl (Kp.refl ..))
    rw [if_neg hfl]
    refine wpAny_bind (wpAny_setField gT hdT (Array.getElem?_eq_some_iff.mp h3).1 ?_)
    have other : ∀ b, b ≠ T → (s.heap.update T (Obj.mapFields (·.setIfInBounds 3 Value.none))).get? b = s.heap.get? b := fun b hb => Heap.get?_update_other _ _ (Ne.symm hb)
    have self := Heap.get?_update_self (Obj.mapFields (·.setIfInBounds 3 Value.none)) gT (Obj.isFreed_of_fields (Obj.data_mapFields hdT _))
    have neT : ∀ b o, s.heap.get? b = some o → (G.get? b ≠ none ∨ H b ≠ none) → b ≠ T := fun b o hb hx z => by
      subst z
      rcases hx with hx | hx
      · exact hx hT
      · exact hx hHT
    have neF : ∀ b o, s.heap.get? b = some o → (∀ ws, o.data ≠ .fields ws) → b ≠ T := fun b o hb hnf z => by
      subst z
      rw [gT] at hb
      cases hb
      exact hnf ts hdT
    have sz : (s.heap.update T (Obj.mapFields (·.setIfInBounds 3 Value.none))).objs.size = s.heap.objs.size := Heap.size_after_update ..
    refine entry_wp hfr (hl.of_keeps fun b o hb hnf => ⟨o, (other b (neF b o hb hnf)).trans hb, rfl⟩) hf ((other e (Ne.symm hTe)).trans he) hd hsz
      fun h' T' oT' ts' q1 q2 q3 q4 q5 q6 q7 q8 => fin s h' T' oT' ts' (by rw [sz] at q1; exact q1) q2 q3 q4 q5 (fun b o hb hm hx => q6 b o (nee b o hb hx) ((other b (neT b o hb hx)).trans hb) hm)
        (fun b o hb hnf => q7 b o (fun z => ?_) ((other b (neF b o hb hnf)).trans hb)) (fun b o hb => ?_) (by rw [sz] at q8; exact q8)
    · subst z
      rw [he] at hb
      cases hb
      exact hnf vs hd
    · by_cases z : b = e
      · subst z
        exact ⟨_, q2⟩
      · by_cases y : b = T
        · subst y
          obtain ⟨sl, q⟩ := q7 b _ z self
          exact ⟨_, q⟩
        · obtain ⟨sl, q⟩ := q7 b o z ((other b y).trans hb)
          exact ⟨_, q⟩
theorem flight_any {fl : Value} {o : Option Addr} (hl : s.heap.FunFrames base outer) (t : Trc H s.heap G e C ed fl)
    (h : ∀ h' fl', Trc H h' G e C ed fl' → h'.FunFrames base outer → Kp H G [] s.heap h' → (∀ b o, s.heap.get? b = some o → (∀ ws, o.data ≠ .fields ws) → h'.get? b = some o) → Q () { s with heap := h' }) : wpAny M A (setFlight (.ref e) o) Q E s := by
  obtain ⟨hn, hHe, oe, vs, he, hc, hdi, hd, hsz, ht⟩ := t
  unfold setFlight
  rcases ht with ⟨h1, _⟩ | ⟨T, oT, ts, h1, hT, hTe, hHT, gT, hdT, h3⟩
  · refine wpAny_bind (wpAny_field he hd h1 ?_)
    rw [if_neg (by decide)]
    exact wpAny_pure (h s.heap .none ⟨hn, hHe, oe, vs, he, hc, hdi, hd, hsz, .inl ⟨h1, rfl⟩⟩ hl (Kp.refl ..) fun _ _ e _ => e)
  · have hs3 : 3 < ts.size := (Array.getElem?_eq_some_iff.mp h3).1
    refine wpAny_bind (wpAny_field he hd h1 ?_)
    rw [if_pos (show (Value.ref T != Value.none) = true from by simp)]
    have other : ∀ b, b ≠ T → (s.heap.update T (Obj.mapFields (·.setIfInBounds 3 (o.elim Value.none fun f => rawInt f)))).get? b = s.heap.get? b := fun b hb => Heap.get?_update_other _ _ (Ne.symm hb)
    have self := Heap.get?_update_self (Obj.mapFields (·.setIfInBounds 3 (o.elim Value.none fun f => rawInt f))) gT (Obj.isFreed_of_fields (Obj.data_mapFields hdT _))
    refine wpAny_setField gT hdT hs3 (h _ (o.elim Value.none fun f => rawInt f) ⟨hn, hHe, oe, vs, (other e (Ne.symm hTe)).trans he, hc, hdi, hd, hsz, .inr ⟨T, _, _, h1, hT, hTe, hHT, self, Obj.data_mapFields hdT _, by simp [hs3]⟩⟩ (hl.of_keeps fun b ob hb hnf => ⟨ob, (other b fun z => ?_).trans hb, rfl⟩)
      ⟨fun b ob hb _ hx => (other b fun z => ?_).trans hb, fun _ _ _ hm => (nomatch hm), fun b ob hb => ?_, Nat.le_of_eq (Heap.size_after_update ..).symm⟩ fun b ob hb hnf => (other b fun z => ?_).trans hb)
    · subst z
      rw [gT] at hb
      cases hb
      exact hnf ts hdT
    · subst z
      rcases hx with hx | hx
      · exact hx hT
      · exact hx hHT
    · by_cases z : b = T
      · subst z
        exact ⟨_, self⟩
      · exact ⟨ob, (other b z).trans hb⟩
    · subst z
      rw [gT] at hb
      cases hb
      exact hnf ts hdT
end
theorem leave_any {X : Cx} {fl : Value} {pins : List (Addr × Obj)} {σ : St} {H : Hp} {s : Shared} {a : Addr} {C : Value} {ed : Option Addr} {E : XK} {E' : Value → Shared → Prop} (hf : X.env.frame = some X.env.locals) (hst : X.stack = X.env :: X.outer) (hex : X.ex = [])
    (I : Inv X pins σ H s) (t : Trc H s.heap X.s₀.heap a C ed fl) (q : E C ed H) :
    wpAny (model X.prog X.w) X.A (leaving X.env (.ref a)) (fun _ s' => CXE X.prog X.w X.outer X.H₀ X.s₀ E (.ref a) s') E' s := by
  have stk : s.heap.FunFrames X.base (X.env :: X.outer) := hst ▸ I.stack
  have sfr : ∀ b ∈ frs (X.env :: X.outer), H b = none := hst ▸ I.stkFree
  unfold leaving
  refine wpAny_bind (note_any (hst ▸ I.ok.frames) stk hf (fun b hb => I.hok.fresh hb) (fun b hb => I.back hex b (get_none hb)) t fun h1 t1 f1 k1 => ?_)
  refine flight_wp (s := { s with heap := h1 }) (outer := X.env :: X.outer) f1 t1 fun h2 t2 f2 k2 _ => ?_
  have hlt : ∀ b o, X.s₀.heap.get? b = some o → X.s₀.heap.get? b ≠ none := fun b o e => by rw [e]; simp
  have hnl : ∀ b o, X.s₀.heap.get? b = some o → b ≠ X.env.locals := fun b o e => Nat.ne_of_lt (Nat.lt_of_lt_of_le (Heap.lt_size e) I.ok.above)
  have mem : ∀ b, b ∈ frs (X.env :: X.outer) → b = X.env.locals ∨ b ∈ frs X.outer := fun b hb => by
    unfold frs at hb ⊢
    rw [List.filterMap_cons, hf] at hb
    exact List.mem_cons.mp hb
  have mem2 : ∀ b, b ∈ frs X.outer → b ∈ frs (X.env :: X.outer) := fun b hb => by
    unfold frs at hb ⊢
    rw [List.filterMap_cons, hf]
    exact List.mem_cons_of_mem _ hb
  refine ⟨a, C, ed, H, rfl, I.os, I.bare, ⟨fun b o e hn hb _ => ?_, fun b o e hn hb _ => ?_, fun b o e hn _ => ?_, fun b o e _ => ?_, I.base.tups, I.base.frzs, I.base.tbls⟩, k2.hok (fun _ z => absurd z (by simp)) (k1.hok sfr I.hok), t2, q⟩
  · have e1 := I.base.keep b o e hn hb (by rw [hex]; simp)
    have e2 := k1.keep b o e1 (fun z => (mem b z).elim (hnl b o e) hb) (.inl (hlt b o e))
    exact k2.keep b o e2 (by simp) (.inl (hlt b o e))
  · obtain ⟨sl, e1⟩ := I.base.slot b o e hn hb (by rw [hex]; simp)
    obtain ⟨sl', e2⟩ := k1.slot b _ e1 (mem2 b hb)
    exact ⟨sl', k2.keep b _ e2 (by simp) (.inl (hlt b o e))⟩
  · exact I.base.free b o e hn (by rw [hex]; simp)
  · obtain ⟨o1, e1⟩ := I.base.there b o e (by rw [hex]; simp)
    obtain ⟨o2, e2⟩ := k1.there b o1 e1
    exact k2.there b o2 e2
/-  a def's body hands on exceptions of any mark -/
structure Leaves (X : Cx) (E : XK) : Prop where
  ex : X.ex = []
  stk : X.stack = X.env :: X.outer
  fr : X.env.frame = some X.env.locals
  on : ∀ pins σ H s a C ed fl, Inv X pins σ H s → Trc H s.heap X.s₀.heap a C ed fl → E C ed H → X.xe (.ref a) s
theorem leaves_cx {P : Program} {w : World} {K : PySem.W.Frag} {mg : Str → Option Value} {base : Heap} {N : List Str} {qual : Str} {scope : Scope} {f : Addr} {cd : Value} {A : Around} {outer : List Env} {s : Shared} {H : Hp} {E : XK} :
    Leaves (cxOf (CXE P w) P w K mg base N qual scope f cd A outer s H E) E := ⟨rfl, rfl, rfl, fun _ _ _ _ _ _ _ _ I t q => leave_any (X := cxOf (CXE P w) P w K mg base N qual scope f cd A outer s H E) rfl rfl rfl I t q⟩
/-  a block that hands on what comes out of a call -/
structure ToldC (X : Cx) (E : XK) : Prop where
  on : ∀ pins σ H s e s', Inv X pins σ H s → CXE X.prog X.w X.stack H s E e s' → X.xe e s'
section
variable {X : Cx} {k : Nat} {f C : Addr} {fd : FuncData} {ps : List Str} {sp : Sp} {x m : Str} {p pos apos : Pos} {e o : Expr} {es : List Expr} {ta : TE} {t : TA} {E : XK}
theorem run_fnC {pins : List (Addr × Obj)} {σ : St} {H : Hp} {s : Shared} {Q : VK} {us : List Value} {vs : List V} (T : ToldC X E) (F : FnOk X.prog X.w X.K X.mg X.base (CXE X.prog X.w) k f fd ps sp) (hr : Room k X.A) (hb : Binds X.K fd ps [])
    (I : Inv X pins σ H s) (r : Vals vs us) (h : sp vs H Q E) : wpAny (model X.prog X.w) X.A (call (.ref f) us) (EP X pins σ Q) X.xe s := by
  have hl : (us ++ ([] : List Value)).length = ps.length := by rw [List.append_nil, ← r.length]; exact F.len _ _ _ _ h
  have bd := hb s us I.kIn hl
  rw [List.append_nil] at bd
  refine wpAny_call (codeAny_mono (F.run X.A X.stack s H ⟨us, []⟩ us vs Q E hr I.env0 bd r h) fun r s' hq => ?_)
  match r, hq with
  | .error e, hq => exact T.on _ _ _ _ _ _ I hq
  | .ok (.ret u), hq => exact I.after hq
  | .ok .next, hq => exact False.elim hq
  | .ok .brk, hq => exact False.elim hq
  | .ok .cont, hq => exact False.elim hq
theorem pe_defC {st : Stmt} (T : ToldC X E) (D : DefOk X.K X.mg x st ps f fd) (G : FnOk X.prog X.w X.K X.mg X.base (CXE X.prog X.w) k f fd ps sp) (hr : Room k X.A)
    (hg : Gl X x) (hdb : (x == ("__debug__" : Str)) = false) (hn : (e :: es).all notStar = true) (ha : PA X (e :: es) t) :
    PE X (.Call (.Name x p) (e :: es) [] pos) (tCallX (fun _ => True) sp E t) := by
  have hs : notStar e = true ∧ es.all notStar = true := by rw [List.all_cons, Bool.and_eq_true] at hn; exact hn
  intro pins s σ H Q I h
  refine wpAny_Call_Name_kw (ld_glob I hg D.m ?_ hdb)
  refine PySem.W.callWith_K (h₀ := X.base) I.ok.mod.kin D.F.kp (thn (ha pos pins s σ H _ I h) fun us s1 ⟨vs, H1, I1, r, _, q⟩ => ⟨I1.kIn, ?_⟩) (star_cons hs.1) (back_none hs.2)
  exact run_fnC T G hr D.b I1 r q
end
/-  the comprehension's block, out of which exceptions may come -/
def compCxE (X : Cx) (scope : Scope) (N' : List Str) (cl : List (Str × Addr)) (s2 : Shared) (H2 : Hp) (C : Addr) (fp : List Addr) (xe : Value → Shared → Prop) : Cx := { compCx X scope N' cl s2 H2 C fp with xe := xe }
section
variable {X : Cx} {pins : List (Addr × Obj)} {σ : St} {H : Hp} {s : Shared} {W : Value → Shared → Prop}
theorem Inv.toXe (I : Inv X pins σ H s) : Inv { X with xe := W } pins σ H s :=
  have ok := I.ok
  ⟨⟨ok.mod, ok.kind, ok.glob, ok.blt, ok.above, ok.inj, ok.has, ok.cab, ok.hd, ok.frames, ok.stk, ok.exf, ok.bs, ok.bsz, ok.noex, ok.exfs, ok.funs, ok.frf⟩, I.os, I.bare, I.base, I.loc, I.cell, I.free, I.freeC, I.pin, I.hok, I.len⟩
theorem Inv.offXe (I : Inv { X with xe := W } pins σ H s) : Inv X pins σ H s :=
  have ok := I.ok
  ⟨⟨ok.mod, ok.kind, ok.glob, ok.blt, ok.above, ok.inj, ok.has, ok.cab, ok.hd, ok.frames, ok.stk, ok.exf, ok.bs, ok.bsz, ok.noex, ok.exfs, ok.funs, ok.frf⟩, I.os, I.bare, I.base, I.loc, I.cell, I.free, I.freeC, I.pin, I.hok, I.len⟩
end
theorem comp_loopX {Ex : Value → Shared → Prop} {prog : Program} {w : World} {A : Around} {R : Result → Shared → Prop} {s : Shared} {elt tg iter : Expr} {ifs : List Expr} {scope : Scope} {pos : Pos} {it acc : Value} {env : Env} (I : Nat → Shared → Prop)
    (turn : ∀ n s, I n s → wpAny (model prog w) A (pyNext it) (fun r s1 => match r with
      | none => R (.ok .next) s1
      | some v => wpAny (model prog w) A (letOwnedTupleGo tg it v) (fun _ s2 => wpAny (model prog w) A (assign tg env v) (fun _ s3 => wpAny (model prog w) A (runIfs ifs env) (fun ok s4 =>
          if ok = true then wpAny (model prog w) A (eval elt env) (fun x s5 => wpAny (model prog w) A (call (.builtin "list.append") [acc, x]) (fun _ s6 => ∃ m, m < n ∧ I m s6) (fun _ _ => False) s5) Ex s4
          else ∃ m, m < n ∧ I m s4) Ex s3) Ex s2) (fun _ _ => False) s1) (fun _ _ => False) s)
    (hEx : ∀ e s', Ex e s' → notedBy (model prog w) A env (fun x s'' => R (.error x) s'') e s') (n : Nat) (h : I n s) : codeAny (model prog w) A (.compLoop (.ListComp elt [⟨tg, iter, ifs, 0⟩] scope pos) 0 it acc env) R s := by
  refine codeAny_loop rfl I (fun n s hI => ?_) n h
  show wpAny _ A ((compTurn (.ListComp elt [⟨tg, iter, ifs, 0⟩] scope pos) 0 it acc env).onRaise (fun x => do noteFrame x env; theTreesLotGoes x)) _ _ s
  refine wpAny_noted ?_
  have no : ∀ (e : Value) (s' : Shared), False → notedBy (model prog w) A env (fun x s'' => R (.error x) s'') e s' := fun _ _ z => z.elim
  rw [compTurn_list]
  refine wpAny_bind (wpAny_standAt (wpAny_bind (wpAny_mono (turn n s hI) (fun r s1 h1 => ?_) no)))
  cases r with
  | none => exact wpAny_pure h1
  | some v =>
    refine wpAny_bind (wpAny_mono h1 (fun _ s2 h2 => wpAny_bind (wpAny_mono h2 (fun _ s3 h3 => wpAny_bind (wpAny_mono h3 (fun ok s4 h4 => ?_) hEx)) hEx)) no)
    cases ok with
    | false => exact wpAny_pure ⟨rfl, h4⟩
    | true => exact wpAny_bind (wpAny_bind (wpAny_mono h4 (fun x s5 h5 => wpAny_bind (wpAny_mono h5 (fun _ s6 h6 => wpAny_pure (wpAny_pure ⟨rfl, h6⟩)) no)) hEx))
/-  what comes out of the block -/
def xeOf (X' : Cx) (EX : XK) : Value → Shared → Prop := fun e s' => ∃ pins σ H s, Inv X' pins σ H s ∧ CXE X'.prog X'.w X'.stack H s EX e s'
theorem told_comp {X : Cx} {scope : Scope} {N' : List Str} {cl : List (Str × Addr)} {s2 : Shared} {H2 : Hp} {C : Addr} {fp : List Addr} {EX : XK} : ToldC (compCxE X scope N' cl s2 H2 C fp (xeOf (compCx X scope N' cl s2 H2 C fp) EX)) EX :=
  ⟨fun pins σ H s e s' I h => ⟨pins, σ, H, s, Inv.offXe I, h⟩⟩
section
variable {X : Cx} {pins : List (Addr × Obj)} {σ : St} {H2 : Hp} {s2 : Shared} {scope : Scope} {own rest : List Str} {cl : List (Str × Addr)} {fp : List Addr} {E : Value → Shared → Prop}
theorem comp_runX {EX : XK} {elt tg iter : Expr} {ifs : List Expr} {pos : Pos} {J : It} {it : Addr} {tn : Nat → Heap → Prop} {g : TG} {tt : TT} {te : TE} {fin : List V → Hp → Prop} {RR : Value → Addr → Result → Shared → Prop} {D : Nat} (hD : s2.heap.objs.size = D) (hcalm : X.calm = true)
    (I : Inv X pins σ H2 s2) (S : CompSc scope X.env.scope X.N rest) (hc1 : ∀ n c, cl.lookup n = some c → X.env.cells.lookup n = some c) (hc2 : ∀ n, (n, NameKind.free) ∈ scope.names → ∃ c, cl.lookup n = some c)
    (T : Turn X.prog X.w X.K tg J fp it tn) (st : tn 0 s2.heap) (hf : ∀ b ∈ fp, FpOk X pins H2 b)
    (hg : PG (compCxE X scope (own ++ rest) cl s2 H2 (D + 1 : Nat) fp (xeOf (compCx X scope (own ++ rest) cl s2 H2 (D + 1 : Nat) fp) EX)) tg g) (ht : PTs (compCxE X scope (own ++ rest) cl s2 H2 (D + 1 : Nat) fp (xeOf (compCx X scope (own ++ rest) cl s2 H2 (D + 1 : Nat) fp) EX)) ifs tt)
    (he : PE (compCxE X scope (own ++ rest) cl s2 H2 (D + 1 : Nat) fp (xeOf (compCx X scope (own ++ rest) cl s2 H2 (D + 1 : Nat) fp) EX)) elt te)
    (hX : ∀ e s', xeOf (compCx X scope (own ++ rest) cl s2 H2 (D + 1 : Nat) fp) EX e s' → notedBy (model X.prog X.w) X.A (compEnvC scope cl (D + 1) X.env) (fun x s'' => RR (.ref D) (D + 1 : Nat) (.error x) s'') e s')
    (hw : CompW J g tt te fin (List.replicate own.length none ++ σ) H2)
    (hR : ∀ (s' : Shared) (H' : Hp) (ys : List V), Inv X pins σ (upd H' D (.lst ys)) s' → (∃ m, s'.heap.Ns (D + 1 : Nat) m) → H' D = none → H' (D + 1 : Nat) = none → fin ys H' → RR (.ref D) (D + 1 : Nat) (.ok .next) s') :
    wpAny (model X.prog X.w) X.A (newList []) (fun acc s3 => wpAny (model X.prog X.w) X.A (newFunctionEnv scope X.env.globals cl [] X.env.qual none .none (some X.env)) (fun cenv s4 =>
      codeAny (model X.prog X.w) X.A (.compStart (.ListComp elt [⟨tg, iter, ifs, 0⟩] scope pos) 0 (.ref it) acc { cenv with scope := relabel scope X.env }) (RR acc cenv.locals) s4) E s3) E s2 := by
  refine wpAny_newObj_type (wpAny_newFunctionEnv S.cell (by intro y hy; simp at hy) (fun h1 hns hsb => ?_) S.kind)
  dsimp only at hns hsb ⊢
  generalize hHp : s2.heap.push { cls := .type "list", dict := none, data := .seq ([] : List Value).toArray } = Hp2 at hns hsb ⊢
  have hC : Hp2.objs.size = s2.heap.objs.size + 1 := by rw [← hHp, Heap.size_push]
  rw [hD] at hC
  rw [hC] at hns hsb ⊢
  rw [hD]
  have nDC : D ≠ D + 1 := Nat.ne_of_lt (Nat.lt_succ_self _)
  have below : ∀ b o, s2.heap.get? b = some o → b < D := fun b o e => by rw [← hD]; exact Heap.lt_size e
  have old : ∀ b o, s2.heap.get? b = some o → h1.get? b = some o := fun b o e => by
    exact hsb.extBut b o (Nat.ne_of_lt (Nat.lt_succ_of_lt (below b o e))) (Heap.get?_push_of_some _ (hHp ▸ Heap.get?_push_of_some _ e))
  have hDo : h1.get? D = some { cls := .type "list", data := .seq ([] : List Value).toArray 0 } :=
    hsb.extBut _ _ nDC (Heap.get?_push_of_some _ (by rw [← hHp, ← hD]; exact Heap.get?_push_size _ rfl))
  have hfo : ∀ b ∈ fp, ∃ o, s2.heap.get? b = some o := fun b hb => let ⟨o, e, _⟩ := T.obj 0 _ st b hb; ⟨o, e⟩
  have st1 : tn 0 h1 := T.keep _ _ _ st fun b hb o e => old b o e
  have J0 : Inv (compCx X scope (own ++ rest) cl s2 H2 (D + 1 : Nat) fp) [] (List.replicate own.length none ++ σ) H2 { s2 with heap := h1, toks := s2.toks } :=
    comp_start I S hc1 hc2 (by omega) hf hfo old hns
  have nfs : D ∉ (compCx X scope (own ++ rest) cl s2 H2 (D + 1 : Nat) fp).fs := fun z => by
    have z' : D ∈ frs X.stack := z
    rcases List.mem_cons.mp (I.stkSub D z') with q | q
    · exact Nat.lt_irrefl D (by have h := I.lt; rw [← q, hD] at h; exact h)
    · exact I.nofs (Nat.le_of_eq hD) q
  have ncl : ∀ x c, (compCx X scope (own ++ rest) cl s2 H2 (D + 1 : Nat) fp).env.cells.lookup x = some c → c ≠ D := fun x c e z => by
    obtain ⟨v, o, q, d⟩ := I.cell x c (hc1 x c e)
    exact Nat.ne_of_lt (below c o q) z
  have loop : ∀ s3 : Shared, s3 = { s2 with heap := h1, toks := s2.toks } →
      codeAny (model X.prog X.w) X.A (.compLoop (.ListComp elt [⟨tg, iter, ifs, 0⟩] scope pos) 0 (.ref it) (.ref D) (compEnvC scope cl (D + 1) X.env)) (RR (.ref D) (D + 1)) s3 := by
    rintro s3 rfl
    obtain ⟨W, ⟨m0, w0⟩, turn⟩ := hw
    refine comp_loopX (Ex := xeOf (compCx X scope (own ++ rest) cl s2 H2 (D + 1 : Nat) fp) EX) (fun m s' => ∃ (i : Nat) (ys : List V) (its : List Value) (n : Nat) (σ' : St) (H' : Hp), Inv (compCx X scope (own ++ rest) cl s2 H2 (D + 1 : Nat) fp) [] σ' H' s' ∧ tn i s'.heap ∧ (∀ b ∈ fp, H' b = none) ∧
      s'.heap.get? D = some { cls := .type "list", data := .seq its.toArray n } ∧ H' D = none ∧ Vals ys its ∧ ys.length ≤ sizeLine ∧ W i m ys σ' H') ?_ hX m0
      ⟨0, [], [], 0, _, H2, J0, st1, fun b hb => (hf b hb).1, hDo, by rw [← hD]; exact I.fresh, .nil, by simp, w0⟩
    rintro m s3 ⟨i, ys, its, n, σ3, H3, J3, st3, fr3, ho3, hn3, r3, z3, w3⟩
    have pin : ∀ {σ' : St} {H' : Hp} {s' : Shared}, Inv (compCx X scope (own ++ rest) cl s2 H2 (D + 1 : Nat) fp) [] σ' H' s' → s'.heap.get? D = some { cls := .type "list", data := .seq its.toArray n } → H' D = none →
        Inv (compCx X scope (own ++ rest) cl s2 H2 (D + 1 : Nat) fp) [(D, { cls := .type "list", data := .seq its.toArray n })] σ' H' s' := fun {σ' H' s'} K1 K2 K3 =>
      K1.pins_of fun p hp => by
        have e : p = (D, { cls := .type "list", data := .seq its.toArray n }) := by simpa using hp
        subst e
        exact ⟨K2, K3, nDC, nfs, fun v z => nomatch z⟩
    have fpk : ∀ {H' : Hp}, (∀ b ∈ fp, H' b = none) → ∀ b ∈ fp, FpOk (compCx X scope (own ++ rest) cl s2 H2 (D + 1 : Nat) fp) [(D, { cls := .type "list", data := .seq its.toArray n })] H' b := fun {H'} fr b hb => by
      obtain ⟨o, e⟩ := hfo b hb
      have lt := below b o e
      refine ⟨fr b hb, Nat.ne_of_lt (Nat.lt_succ_of_lt lt), ?_, .inl hb, fun x c q => (hf b hb).2.2.2.2.1 x c (hc1 x c q), fun p hp => ?_⟩
      · intro z
        have z' : b ∈ frs X.stack := z
        rcases List.mem_cons.mp (I.stkSub b z') with q | q
        · exact (hf b hb).2.1 q
        · exact (hf b hb).2.2.1 q
      · have e : p = (D, { cls := .type "list", data := .seq its.toArray n }) := by
          have hp' : p ∈ [(D, ({ cls := .type "list", data := .seq its.toArray n } : Obj))] := hp
          simpa using hp'
        subst e
        exact Nat.ne_of_gt lt
    have J3p := pin J3 ho3 hn3
    rcases turn i m ys σ3 H3 w3 with ⟨stop, q⟩ | ⟨go, hlt, N, hN, step⟩
    · refine thn (T.done (compCx X scope (own ++ rest) cl s2 H2 (D + 1 : Nat) fp) rfl rfl rfl hcalm i _ s3 σ3 H3 _ J3p (fpk fr3) st3 stop) fun r s4 ⟨hr, J4⟩ => ?_
      subst hr
      have ho4 := J4.pin _ (List.mem_append_right _ List.mem_cons_self)
      refine hR s4 H3 ys (comp_end I J4 hf (by omega) hn3 ho4.1 r3 z3) ?_ hn3 J4.free q
      obtain ⟨mm, hmm, _⟩ := J4.loc
      exact ⟨mm, hmm⟩
    · refine thn (T.item (compCx X scope (own ++ rest) cl s2 H2 (D + 1 : Nat) fp) rfl rfl rfl hcalm i _ s3 σ3 H3 _ J3p (fpk fr3) st3 go) fun r s4 ⟨u, hr, h4⟩ => ?_
      subst hr
      refine thn h4 fun _ s5 ⟨x, H5, J5, r5, y5, st5, fr5⟩ => ?_
      have J5' := J5.pinned (fpk fr5) (T.obj _ _ st5)
      refine thn (hg _ s5 σ3 H5 x u _ (Inv.toXe J5') r5 (step x H5 y5)) fun _ s6 ⟨σ6, H6, J6, q6⟩ => ?_
      refine thn (ht _ s6 σ6 H6 _ J6 q6) fun b s7 ⟨H7, J7, q7⟩ => ?_
      have stay : ∀ {σ' : St} {H' : Hp} {s' : Shared}, Inv (compCx X scope (own ++ rest) cl s2 H2 (D + 1 : Nat) fp) ([(D, { cls := .type "list", data := .seq its.toArray n })] ++ pinsAt fp s5.heap) σ' H' s' →
          Inv (compCx X scope (own ++ rest) cl s2 H2 (D + 1 : Nat) fp) [] σ' H' s' ∧ tn (i + 1) s'.heap ∧ (∀ b ∈ fp, H' b = none) ∧ s'.heap.get? D = some { cls := .type "list", data := .seq its.toArray n } ∧ H' D = none := fun {σ' H' s'} K1 => by
        refine ⟨K1.pins_of fun p hp => absurd hp (by simp), T.keep _ _ _ st5 fun b hb o e => (K1.pin (b, o) (List.mem_append_right _ (List.mem_append_right _ (mem_pinsAt hb e)))).1, fun b hb => ?_, ?_, ?_⟩
        · obtain ⟨o, e, d⟩ := T.obj _ _ st5 b hb
          exact (K1.pin (b, o) (List.mem_append_right _ (List.mem_append_right _ (mem_pinsAt hb e)))).2.1
        · exact (K1.pin (D, _) (List.mem_append_right _ (List.mem_append_left _ List.mem_cons_self))).1
        · exact (K1.pin (D, _) (List.mem_append_right _ (List.mem_append_left _ List.mem_cons_self))).2.1
      cases b with
      | false =>
        rw [if_neg Bool.false_ne_true] at q7 ⊢
        obtain ⟨k1, k2, k3, k4, k5⟩ := stay (Inv.offXe J7)
        obtain ⟨m', hm, w'⟩ := hN _ _ _ q7
        exact ⟨m', hm, i + 1, ys, its, n, σ6, H7, k1, k2, k3, k4, k5, r3, z3, w'⟩
      | true =>
        rw [if_pos rfl] at q7 ⊢
        refine thn (he _ s7 σ6 H7 _ J7 q7) fun xv s8 ⟨y, H8, J8, r8, q8⟩ => ?_
        obtain ⟨k1, k2, k3, k4, k5⟩ := stay (Inv.offXe J8)
        refine call_meets F.slot_list_append ⟨_, k4, rfl⟩ F.entry_list_append (F.args_list_append_2 _ _) (PySem.list_append D its.toArray n xv (by rw [List.size_toArray, ← r3.length]; omega)) ⟨k4, ?_⟩
        obtain ⟨m', hm, w'⟩ := hN _ _ _ q8
        have ho9 := PySem.IsL.update k4 (fun a => a.push xv)
        have ek : ∀ b o, b ≠ D → s8.heap.get? b = some o → (s8.heap.update D (Obj.mapSeq (fun a => a.push xv))).get? b = some o := fun b o hb e => (Heap.get?_update_other s8.heap (Obj.mapSeq _) (Ne.symm hb)).trans e
        refine ⟨m', hm, i + 1, ys ++ [y], its ++ [xv], (if ((its.toArray.push xv).size == its.toArray.size) = true then n else n + 1), σ6, H8, k1.turned (it := D) (t' := s8.toks) ek k5 nDC (.inr (show s2.heap.objs.size ≤ D by omega)) ncl (fun p hp => absurd (show p ∈ ([] : List (Addr × Obj)) from hp) (by simp)), ?_, k3, ?_, k5, r3.append (.cons r8 .nil), ?_, w'⟩
        · refine T.keep _ _ _ k2 fun b hb o e => ek b o ?_ e
          obtain ⟨o', e'⟩ := hfo b hb
          exact Nat.ne_of_lt (below b o' e')
        · have e2 : its.toArray.push xv = (its ++ [xv]).toArray := by simp
          rw [← e2]; exact ho9
        · simp only [List.length_append, List.length_cons, List.length_nil]; omega
  exact codeAny_compStart_list (loop _ rfl) (T.self X.A 0 _ _ _ st1 (loop _ rfl))
end
section
variable {X : Cx} {pins : List (Addr × Obj)} {σ : St} {H2 : Hp} {s2 : Shared} {scope : Scope} {N' : List Str} {cl : List (Str × Addr)} {fp : List Addr} {C : Addr} {EX : XK} {use : Option (Value → Sem Unit)} {QQ : Value → Shared → Prop} {acc : Value}
theorem comp_throw (L : Leaves X EX) (I : Inv X pins σ H2 s2) (hf : ∀ b ∈ fp, FpOk X pins H2 b) (hC : s2.heap.objs.size ≤ C) : ∀ e s', xeOf (compCx X scope N' cl s2 H2 C fp) EX e s' →
    notedBy (model X.prog X.w) X.A (compEnvC scope cl C X.env) (fun x s'' => compPost (model X.prog X.w) X.A X.xe use QQ acc C (.error x) s'') e s' := by
  rintro e s' ⟨pins1, σ1, H1, s1, J1, a, Cv, ed, H', rfl, os, bare, un, hok, t, q⟩
  have J : Inv (compCx X scope N' cl s2 H2 C fp) pins1 σ1 H' s' := J1.call' os un hok bare (fun b z => absurd z (by simp))
  have u : Un (frs X.stack) fp H2 H' s2.heap s'.heap := J.base
  have u1 : Un (frs X.stack) fp H2 H1 s2.heap s1.heap := J1.base
  have hfr : X.A.frames = some (X.env :: X.outer) := L.stk ▸ I.ok.frames
  have hst : X.stack = X.env :: X.outer := L.stk
  have hfun : s'.heap.FunFrames X.base (X.env :: X.outer) := hst ▸ (show s'.heap.FunFrames X.base X.stack from J.stack)
  have sfr : ∀ b ∈ frs (X.env :: X.outer), H' b = none := hst ▸ (show ∀ b ∈ frs X.stack, H' b = none from J.stkFree)
  have low : ∀ b o, s2.heap.get? b = some o → b ≠ C := fun b o z => Nat.ne_of_lt (Nat.lt_of_lt_of_le (Heap.lt_size z) hC)
  have frl : ∀ b ∈ frs X.stack, b ≠ C := fun b hb => by
    obtain ⟨_, o, ho, _⟩ := I.stack.mem hb
    exact low b o ho
  have hG : ∀ b, s'.heap.objs.size ≤ b → s1.heap.get? b = none := fun b hb => by
    cases z : s1.heap.get? b with
    | none => rfl
    | some o =>
      obtain ⟨o', e'⟩ := un.there b o z (by simp)
      exact absurd (Heap.lt_size e') (Nat.not_lt.mpr hb)
  show wpAny _ X.A (noteFrame (.ref a) (compEnvC scope cl C X.env)) _ _ s'
  have en : noteFrame (.ref a) (compEnvC scope cl C X.env) = noteFrame (.ref a) X.env := rfl
  rw [en]
  refine note_wp hfr hfun L.fr (fun b hb => J.hok.fresh hb) hG t fun h1 t1 f1 k1 => ?_
  have c1 : s1.heap.get? C ≠ none := by
    obtain ⟨m, ⟨o, _, _, ho, _⟩, _⟩ := J1.loc
    have ho' : s1.heap.get? C = some o := ho
    rw [ho']; simp
  have fC : H' C = none := J.free
  have old : ∀ b, s1.heap.get? b = none → X.s₀.heap.get? b = none := fun b hb => by
    cases z : X.s₀.heap.get? b with
    | none => rfl
    | some o =>
      obtain ⟨o1, e1⟩ := I.base.there b o z (by rw [L.ex]; simp)
      have nf : b ∉ fp := fun hfb => by
        rcases (hf b hfb).2.2.2.1 with y | y
        · rw [L.ex] at y
          cases y
        · exact absurd (Heap.lt_size z) (Nat.not_lt.mpr y)
      obtain ⟨o2, e2⟩ := u1.there b o1 e1 nf
      rw [hb] at e2
      cases e2
  have fin : ∃ m, ({ s' with heap := h1 } : Shared).heap.Ns C m ∧ ∀ h', Heap.SameBut C h1 h' → ∀ cenv : Env, cenv.locals = C → wpAny (model X.prog X.w) X.A (PySem.passOn "comprehension.variables-let-go" (.ref a) cenv : Sem Value) (fun _ _ => False) X.xe { s' with heap := h' } := by
    obtain ⟨m, ⟨o, es, ep, ho, hr⟩, _⟩ := J.loc
    have ho' : s'.heap.get? C = some o := ho
    refine ⟨m, ⟨o, es, ep, k1.keep C o ho' (fun z => frl C (hst ▸ z) rfl) (.inl c1), hr⟩, fun h3 sb cenv _ => ?_⟩
    have nC : ∀ b, s1.heap.get? b = none → b ≠ C := fun b hb z => by subst z; exact c1 hb
    have st3 : ∀ b, b ≠ C → h3.get? b = h1.get? b := fun b hb => sb.2 b hb
    obtain ⟨hn, hHe, oe, vs, he, hc, hdi, hd, hsz, ht⟩ := t1
    rcases ht with ⟨_, z⟩ | ⟨T, oT, ts, hv, hT, hTe, hHT, gT, hdT, h3'⟩
    · exact absurd z (by simp [rawInt])
    have he3 : h3.get? a = some oe := (st3 a (nC a hn)).trans he
    have t3 : Trc H' h3 s1.heap a Cv ed (rawInt X.env.locals) := ⟨hn, hHe, oe, vs, he3, hc, hdi, hd, hsz, .inr ⟨T, oT, ts, hv, hT, hTe, hHT, (st3 T (nC T hT)).trans gT, hdT, h3'⟩⟩
    unfold PySem.passOn
    refine wpAny_bind (wpAny_field (s := { s' with heap := h3 }) he3 hd hv ?_)
    rw [if_neg (show ¬ ((Value.ref T == Value.none) = true) from by simp)]
    refine wpAny_bind (flight_any (s := { s' with heap := h3 }) (base := X.base) (outer := []) trivial t3 fun h4 fl' t4 _ k4 _ => wpAny_throw ?_)
    have hok4 : HOk X.prog X.w H' h4 := k4.hok (fun _ z => absurd z (by simp)) (fun b ob eb => ((k1.hok sfr (show HOk X.prog X.w H' s'.heap from J.hok)) b ob eb).stay (fun c v hb qq => by
      have hne : H' c ≠ none := by
        rcases hb with rfl | hb
        · rw [eb]; simp
        · rw [hb]; simp
      exact (st3 c fun z => hne (by rw [z]; exact fC)).trans qq) (fun _ qq => qq) fun _ _ qq => qq)
    have in1 : ∀ b o, s2.heap.get? b = some o → b ∉ fp → s1.heap.get? b ≠ none := fun b o z hx => by
      obtain ⟨o', e'⟩ := u1.there b o z hx
      rw [e']; simp
    have I4 : Inv X pins σ H' { s' with heap := h4 } := by
      refine I.call' (s' := { s' with heap := h4 }) (ch := fp) J.os ⟨fun b o z n hb hx => ?_, fun b o z n hb hx => ?_, u.free, fun b o z hx => ?_, u.tups, u.frzs, u.tbls⟩ hok4 bare fun b hb => ?_
      · have e1 := u.keep b o z n hb hx
        have e2 := k1.keep b o e1 (by rw [← hst]; exact hb) (.inl (in1 b o z hx))
        exact k4.keep b o ((st3 b (low b o z)).trans e2) (by simp) (.inl (in1 b o z hx))
      · obtain ⟨sl, e1⟩ := u.slot b o z n hb hx
        obtain ⟨sl', e2⟩ := k1.slot b _ e1 (by rw [← hst]; exact hb)
        exact ⟨sl', k4.keep b _ ((st3 b (low b o z)).trans e2) (by simp) (.inl (in1 b o z hx))⟩
      · obtain ⟨o1, e1⟩ := u.there b o z hx
        obtain ⟨o2, e2⟩ := k1.there b o1 e1
        exact k4.there b o2 ((st3 b (low b o z)).trans e2)
      · obtain ⟨_, f1, _, f3, f4, f5⟩ := hf b hb
        exact ⟨f3, f1, f4, f5⟩
    exact L.on pins σ H' _ a Cv ed fl' I4 (t4.older old) q
  cases use <;> exact fin
end
section
variable {X : Cx} {elt tg iter : Expr} {ifs : List Expr} {scope : Scope} {pos : Pos} {wi : TI} {g : TG} {tt : TT} {te : TE} {EX : XK}
/-  [.. for ..] in a def's body, whose item may raise -/
theorem pe_compX (L : Leaves X EX) (own rest : List Str) (hcalm : X.calm = true) (S : CompSc scope X.env.scope X.N rest) (hi : PI X tg iter wi)
    (hg : ∀ cl s2 H2 C fp xe, PG (compCxE X scope (own ++ rest) cl s2 H2 C fp xe) tg g) (ht : ∀ cl s2 H2 C fp xe, PTs (compCxE X scope (own ++ rest) cl s2 H2 C fp xe) ifs tt) (he : ∀ cl s2 H2 C fp xe, ToldC (compCxE X scope (own ++ rest) cl s2 H2 C fp xe) EX → PE (compCxE X scope (own ++ rest) cl s2 H2 C fp xe) elt te)
    (hs : ∀ x, foldedSetIterable iter X.env x = pure x := by intro _; rfl) : PE X (.ListComp elt [⟨tg, iter, ifs, 0⟩] scope pos) (tComp own.length wi g tt te) := by
  intro pins s σ H Q I h
  obtain ⟨cl, hcl, hc1, hc2⟩ := I.closed S
  rw [eval_ListComp]
  refine wpAny_comprehension_free (use := none) rfl hs hcl S.kind S.loc (thn (hi pins s σ H _ I h) fun v s1 h1 => thn h1 fun itv s2 h2 => ?_)
  obtain ⟨it, fp, tn, J, H2, e, I2, T, st, hf, hw⟩ := h2
  subst e
  refine comp_runX (EX := EX) (RR := fun acc C => compPost (model X.prog X.w) X.A X.xe none (EP X pins σ Q) acc C) (D := s2.heap.objs.size) rfl hcalm I2 S hc1 hc2 T st hf (hg _ _ _ _ _ _) (ht _ _ _ _ _ _) (he _ _ _ _ _ _ told_comp) (comp_throw L I2 hf (Nat.le_succ _)) hw ?_
  intro s' H' ys J' ⟨m, hm⟩ hD hC q
  refine ⟨m, hm, fun h' sb => ⟨.ref s2.heap.objs.size, _, I2.letgo (pins' := pins) (b := (s2.heap.objs.size + 1 : Nat)) J' (Nat.le_succ _) ?_ sb, rfl, q _ hD⟩⟩
  rw [upd_ne (Nat.ne_of_gt (Nat.lt_succ_self _))]; exact hC
end
end L2
set_option maxHeartbeats 4000000
namespace L2
open PySem PySem.Spec PyProof.Rows
/-! ### set(list), set(tuple): of keys of one kind -/
section
variable {prog : Program} {w : World} {A : Around} {R : Result → Shared → Prop} {I : Addr} {fp wr : List Addr} {G : Array GenState → Array GenState → Prop} {n : Nat} {P : Nat → Value → Prop} {St : Nat → Shared → Prop}
variable {α : Type} [DecidableEq α] [BEq α] [LawfulBEq α] {knd : PySem.KeyKind prog w α}
end
section
variable {prog : Program} {w : World} {A : Around} {E : Value → Shared → Prop} {s : Shared}
set_option maxHeartbeats 3200000 in
variable {α : Type} [DecidableEq α] [BEq α] [LawfulBEq α] {knd : PySem.KeyKind prog w α}
end
end L2
set_option maxHeartbeats 4000000
namespace L2
open PySem PySem.Spec PyProof.Rows
section
variable {X : Cx}
end
end L2
set_option maxHeartbeats 4000000
namespace L2
open PySem PySem.Spec PyProof.Rows
section
variable {X : Cx}
end
end L2
set_option maxHeartbeats 4000000
namespace L2
open PySem PySem.Spec PyProof.Rows
/-! ### what is never reached; isinstance of an exception, by a tuple of classes -/
section
variable {X : Cx}
def tStop : TS := fun _ _ _ => False
theorem pss_stop {rest : List Stmt} : PSs X rest tStop := fun _ _ _ _ _ _ h => h.elim
theorem refs_eq : ∀ {Bs : List Addr} {its : List Value}, Vals (Bs.map V.ref) its → its = Bs.map Value.ref
  | [], _, r => by cases r; rfl
  | b :: Bs, _, r => by
    cases r with
    | cons h t =>
      cases (show _ = Value.ref b from h)
      rw [refs_eq t]
      rfl
def rIsXT (K : PySem.W.Frag) : List V → Hp → VK → Prop := fun xs H Q => ∃ a tp C ed b, ∃ Bs : List Addr, xs = [.ref a, .ref tp] ∧ H a = some (ExO a (.ref C) ed) ∧ XdOk H ed ∧ XCls K C ∧ SqT K H tp (Bs.map V.ref) ∧ PySem.W.kitAny K (.ref C) (Bs.map Value.ref) = some b ∧ Q (.bl b) H
theorem call_isXT : CallR X (.builtin "isinstance") (rIsXT X.K) := by
  intro pins s σ H xs us Q I r h
  obtain ⟨a, tp, C, ed, b, Bs, rfl, e, hd, c, ht, hk, q⟩ := h
  obtain ⟨u, z, rfl, ru, rz⟩ := vals2 r
  cases (show u = Value.ref a from ru)
  cases (show z = Value.ref tp from rz)
  have J := exo_inst I.hok e hd
  obtain ⟨its, r', pl, _⟩ := I.tuple ht
  obtain ⟨⟨tc, td, tdat, tsl⟩, ho, hc, n, hdat⟩ := pl
  simp only at hc hdat
  subst hc; subst hdat
  obtain rfl := refs_eq r'
  exact PySem.W.kia_tup (kitx_exc c) I.kIn J ho hk (fun z => nomatch z) fun tk => ⟨.bl b, H, I.tok _, rfl, q⟩
theorem k_isXT {K : PySem.W.Frag} (e : X.K = K) : CallR X (.builtin "isinstance") (rIsXT K) := by subst e; exact call_isXT
end
end L2
namespace NS
open PySem L2
seal L2.PE L2.PT L2.PA L2.PS L2.PSs L2.PG L2.PI L2.PTs L2.PW L2.PO L2.PGs L2.PPs L2.OpR L2.CallR L2.IxR L2.SlR L2.UnR L2.PSet
def top (i : Nat) : Stmt := PySem.Challenge.pw_crosshall_k30_what_is_no_net.main.body.getD i (.Pass ⟨0, 0, 0, 0⟩)
abbrev s_asked_arc : Stmt := top 11
abbrev s_asked_net : Stmt := top 12
abbrev s_flow_of : Stmt := top 18
abbrev s_asked_flow : Stmt := top 19
abbrev s_greatest_on : Stmt := top 22
abbrev s_least_on : Stmt := top 23
abbrev s_l_draw : Stmt := top 25
abbrev s_l_arcs : Stmt := top 26
abbrev s_l_spoilt : Stmt := top 27
abbrev s_l_called : Stmt := top 28
abbrev s_l_refused : Stmt := top 29
abbrev s_law : Stmt := top 30
abbrev s_NoSuch___init__ : Stmt := inCls (top 6) 0
abbrev s_NoVeil___init__ : Stmt := inCls (top 7) 0
theorem sc_asked_arc : FnScope ["many", "arc"] ["many", "arc"] (defScope s_asked_arc) := ⟨rfl, rfl, rfl, by decide +kernel, rfl, by decide +kernel, by decide +kernel⟩
theorem sc_asked_net : FnScope ["many", "arcs"] ["many", "arcs"] (defScope s_asked_net) := ⟨rfl, rfl, rfl, by decide +kernel, rfl, by decide +kernel, by decide +kernel⟩
theorem sc_flow_of : FnScope ["many", "arcs"] ["many", "arcs"] (defScope s_flow_of) := ⟨rfl, rfl, rfl, by decide +kernel, rfl, by decide +kernel, by decide +kernel⟩
theorem sc_asked_flow : FnScope ["many", "arcs", "flow"] ["many", "arcs", "flow"] (defScope s_asked_flow) := ⟨rfl, rfl, rfl, by decide +kernel, rfl, by decide +kernel, by decide +kernel⟩
theorem sc_greatest_on : FnScope ["many", "arcs", "flow", "at", "arc", "stream", "number", "nodes"] ["many", "arcs", "flow", "at"] (defScope s_greatest_on) := ⟨rfl, rfl, rfl, by decide +kernel, rfl, by decide +kernel, by decide +kernel⟩
theorem sc_least_on : FnScope ["many", "arcs", "flow", "at", "arc", "stream", "number", "nodes"] ["many", "arcs", "flow", "at"] (defScope s_least_on) := ⟨rfl, rfl, rfl, by decide +kernel, rfl, by decide +kernel, by decide +kernel⟩
theorem sc_l_draw : FnScope ["_law_script", "_law_k", "_law_many", "_law_number"] ["_law_script", "_law_k", "_law_many"] (defScope s_l_draw) := ⟨rfl, rfl, rfl, by decide +kernel, rfl, by decide +kernel, by decide +kernel⟩
theorem sc_l_arcs : FnScope ["_law_script", "_law_nodes", "_law_size", "_law_unit", "_law_arcs_here", "_law_k", "_law_one", "_law_other", "_law_least"] ["_law_script", "_law_nodes", "_law_size", "_law_unit"] (defScope s_l_arcs) := ⟨rfl, rfl, rfl, by decide +kernel, rfl, by decide +kernel, by decide +kernel⟩
theorem sc_l_spoilt : FnScope ["_law_script", "_law_nodes", "_law_arcs_here", "_law_way", "_law_at", "_law_one", "_law_other", "_law_least", "_law_most", "_law_far", "_law_bad"] ["_law_script", "_law_nodes", "_law_arcs_here"] (defScope s_l_spoilt) := ⟨rfl, rfl, rfl, by decide +kernel, rfl, by decide +kernel, by decide +kernel⟩
theorem sc_l_called : FnScope ["_law_way", "_law_nodes", "_law_arcs_here", "_law_flow"] ["_law_way", "_law_nodes", "_law_arcs_here"] (defScope s_l_called) := ⟨rfl, rfl, rfl, by decide +kernel, rfl, by decide +kernel, by decide +kernel⟩
theorem sc_l_refused : FnScope ["_law_way", "_law_nodes", "_law_arcs_here", "_law_kinds", "e", "_law_other"] ["_law_way", "_law_nodes", "_law_arcs_here"] (defScope s_l_refused) := ⟨rfl, rfl, rfl, by decide +kernel, rfl, by decide +kernel, by decide +kernel⟩
theorem sc_law : FnScope ["_law_script", "_law_sort", "_law_nodes", "_law_size", "_law_arcs_here", "_law_handed", "_law_bad", "_law_way"] ["_law_script"] (defScope s_law) := ⟨rfl, rfl, rfl, by decide +kernel, rfl, by decide +kernel, by decide +kernel⟩
theorem sc_NoSuch___init__ : FnScope ["self", "number"] ["self", "number"] (defScope s_NoSuch___init__) := ⟨rfl, rfl, rfl, by decide +kernel, rfl, by decide +kernel, by decide +kernel⟩
theorem sc_NoVeil___init__ : FnScope ["self", "cell"] ["self", "cell"] (defScope s_NoVeil___init__) := ⟨rfl, rfl, rfl, by decide +kernel, rfl, by decide +kernel, by decide +kernel⟩
structure Txt (K : PySem.W.Frag) (mg : Str → Option Value) (f : Nat → Addr) (fd : Nat → FuncData) : Prop where
  d_asked_arc : DefOk K mg "asked_arc" s_asked_arc ["many", "arc"] (f 11) (fd 11)
  d_asked_net : DefOk K mg "asked_net" s_asked_net ["many", "arcs"] (f 12) (fd 12)
  d_flow_of : DefOk K mg "flow_of" s_flow_of ["many", "arcs"] (f 18) (fd 18)
  d_asked_flow : DefOk K mg "asked_flow" s_asked_flow ["many", "arcs", "flow"] (f 19) (fd 19)
  d_greatest_on : DefOk K mg "greatest_on" s_greatest_on ["many", "arcs", "flow", "at"] (f 22) (fd 22)
  d_least_on : DefOk K mg "least_on" s_least_on ["many", "arcs", "flow", "at"] (f 23) (fd 23)
  d_l_draw : DefOk K mg "_law_draw" s_l_draw ["_law_script", "_law_k", "_law_many"] (f 25) (fd 25)
  d_l_arcs : DefOk K mg "_law_arcs" s_l_arcs ["_law_script", "_law_nodes", "_law_size", "_law_unit"] (f 26) (fd 26)
  d_l_spoilt : DefOk K mg "_law_spoilt" s_l_spoilt ["_law_script", "_law_nodes", "_law_arcs_here"] (f 27) (fd 27)
  d_l_called : DefOk K mg "_law_called" s_l_called ["_law_way", "_law_nodes", "_law_arcs_here"] (f 28) (fd 28)
  d_l_refused : DefOk K mg "_law_refused" s_l_refused ["_law_way", "_law_nodes", "_law_arcs_here"] (f 29) (fd 29)
  d_law : DefOk K mg "law" s_law ["_law_script"] (f 30) (fd 30)
  d_NoSuch___init__ : MthOk K "__init__" "NoSuch.__init__" s_NoSuch___init__ ["self", "number"] (f 7000) (fd 7000)
  d_NoVeil___init__ : MthOk K "__init__" "NoVeil.__init__" s_NoVeil___init__ ["self", "cell"] (f 8000) (fd 8000)
  x_CrossError : ExcOk K mg "CrossError" (f 1) none
  x_NoHead : ExcOk K mg "NoHead" (f 2) none
  x_NoNet : ExcOk K mg "NoNet" (f 3) none
  x_NoWhole : ExcOk K mg "NoWhole" (f 4) none
  x_NoGroups : ExcOk K mg "NoGroups" (f 5) none
  x_NoSuch : ExcOk K mg "NoSuch" (f 6) (some (.ref (f 7000)))
  x_NoVeil : ExcOk K mg "NoVeil" (f 7) (some (.ref (f 8000)))
  na_NoSuch_number : PySem.W.findIn K (.ref (f 6)) "number" = some none
  na_NoVeil_cell : PySem.W.findIn K (.ref (f 7)) "cell" = some none
  su_NoNet_CrossError : subB K (f 3) (f 1) = true
  ki_NoNet_CrossError : PySem.W.kitOne K (.ref (f 3)) (.ref (f 1)) = some true
  su_NoNet_NoHead : subB K (f 3) (f 2) = false
  ki_NoNet_NoHead : PySem.W.kitOne K (.ref (f 3)) (.ref (f 2)) = some false
  su_NoNet_NoNet : subB K (f 3) (f 3) = true
  ki_NoNet_NoNet : PySem.W.kitOne K (.ref (f 3)) (.ref (f 3)) = some true
  su_NoNet_NoWhole : subB K (f 3) (f 4) = false
  ki_NoNet_NoWhole : PySem.W.kitOne K (.ref (f 3)) (.ref (f 4)) = some false
  su_NoNet_NoGroups : subB K (f 3) (f 5) = false
  ki_NoNet_NoGroups : PySem.W.kitOne K (.ref (f 3)) (.ref (f 5)) = some false
  su_NoNet_NoSuch : subB K (f 3) (f 6) = false
  ki_NoNet_NoSuch : PySem.W.kitOne K (.ref (f 3)) (.ref (f 6)) = some false
  su_NoNet_NoVeil : subB K (f 3) (f 7) = false
  ki_NoNet_NoVeil : PySem.W.kitOne K (.ref (f 3)) (.ref (f 7)) = some false
  kv_NoNet : PySem.W.kitOne K (.ref (f 3)) (.type "ValueError") = some true
  n_ValueError : mg "ValueError" = none
  n_all : mg "all" = none
  n_isinstance : mg "isinstance" = none
  n_len : mg "len" = none
  n_list : mg "list" = none
  n_range : mg "range" = none
  g_MOST_NODES : ∃ tk, mg "MOST_NODES" = some (.int (120) tk)
  g_MOST_ARCS : ∃ tk, mg "MOST_ARCS" = some (.int (300) tk)
theorem txt_mk {K : PySem.W.Frag} {h : Heap} {mg : Str → Option Value} (X : K.In h) (G : h.Ns mainGlobals mg)
    {f11 : Addr} {od11 an11 : Option Addr} {sl11 : Array (Option Value)} {oc11 kV11 dc11 pm11 cd11 ct11 : Value}
    {f12 : Addr} {od12 an12 : Option Addr} {sl12 : Array (Option Value)} {oc12 kV12 dc12 pm12 cd12 ct12 : Value}
    {f18 : Addr} {od18 an18 : Option Addr} {sl18 : Array (Option Value)} {oc18 kV18 dc18 pm18 cd18 ct18 : Value}
    {f19 : Addr} {od19 an19 : Option Addr} {sl19 : Array (Option Value)} {oc19 kV19 dc19 pm19 cd19 ct19 : Value}
    {f22 : Addr} {od22 an22 : Option Addr} {sl22 : Array (Option Value)} {oc22 kV22 dc22 pm22 cd22 ct22 : Value}
    {f23 : Addr} {od23 an23 : Option Addr} {sl23 : Array (Option Value)} {oc23 kV23 dc23 pm23 cd23 ct23 : Value}
    {f25 : Addr} {od25 an25 : Option Addr} {sl25 : Array (Option Value)} {oc25 kV25 dc25 pm25 cd25 ct25 : Value}
    {f26 : Addr} {od26 an26 : Option Addr} {sl26 : Array (Option Value)} {oc26 kV26 dc26 pm26 cd26 ct26 : Value}
    {f27 : Addr} {od27 an27 : Option Addr} {sl27 : Array (Option Value)} {oc27 kV27 dc27 pm27 cd27 ct27 : Value}
    {f28 : Addr} {od28 an28 : Option Addr} {sl28 : Array (Option Value)} {oc28 kV28 dc28 pm28 cd28 ct28 : Value}
    {f29 : Addr} {od29 an29 : Option Addr} {sl29 : Array (Option Value)} {oc29 kV29 dc29 pm29 cd29 ct29 : Value}
    {f30 : Addr} {od30 an30 : Option Addr} {sl30 : Array (Option Value)} {oc30 kV30 dc30 pm30 cd30 ct30 : Value}
    {f7000 : Addr} {od7000 an7000 : Option Addr} {sl7000 : Array (Option Value)} {oc7000 kV7000 dc7000 pm7000 cd7000 ct7000 : Value}
    {f8000 : Addr} {od8000 an8000 : Option Addr} {sl8000 : Array (Option Value)} {oc8000 kV8000 dc8000 pm8000 cd8000 ct8000 : Value}
    {f1 : Addr}
    {f2 : Addr}
    {f3 : Addr}
    {f4 : Addr}
    {f5 : Addr}
    {f6 : Addr}
    {f7 : Addr}
    (a1 : PySem.W.nsIn K mainGlobals "CrossError" = some (some (.ref f1)))
    (a2 : PySem.W.nsIn K mainGlobals "NoHead" = some (some (.ref f2)))
    (a3 : PySem.W.nsIn K mainGlobals "NoNet" = some (some (.ref f3)))
    (a4 : PySem.W.nsIn K mainGlobals "NoWhole" = some (some (.ref f4)))
    (a5 : PySem.W.nsIn K mainGlobals "NoGroups" = some (some (.ref f5)))
    (a6 : PySem.W.nsIn K mainGlobals "NoSuch" = some (some (.ref f6)))
    (a7 : PySem.W.nsIn K mainGlobals "NoVeil" = some (some (.ref f7)))
    (a11 : PySem.W.nsIn K mainGlobals "asked_arc" = some (some (.ref f11)))
    (l11 : K.lookup f11 = some ⟨oc11, od11, .func (PySem.W.fnOf "asked_arc" "asked_arc" (defArgs s_asked_arc) (defBody s_asked_arc) (defScope s_asked_arc) .none kV11 dc11 pm11 an11 cd11 ct11), sl11⟩) (c11 : PySem.W.codeIn K cd11 "asked_arc" = true) (k11 : PySem.W.keepIn K (.ref f11) = true)
    (a12 : PySem.W.nsIn K mainGlobals "asked_net" = some (some (.ref f12)))
    (l12 : K.lookup f12 = some ⟨oc12, od12, .func (PySem.W.fnOf "asked_net" "asked_net" (defArgs s_asked_net) (defBody s_asked_net) (defScope s_asked_net) .none kV12 dc12 pm12 an12 cd12 ct12), sl12⟩) (c12 : PySem.W.codeIn K cd12 "asked_net" = true) (k12 : PySem.W.keepIn K (.ref f12) = true)
    (a18 : PySem.W.nsIn K mainGlobals "flow_of" = some (some (.ref f18)))
    (l18 : K.lookup f18 = some ⟨oc18, od18, .func (PySem.W.fnOf "flow_of" "flow_of" (defArgs s_flow_of) (defBody s_flow_of) (defScope s_flow_of) .none kV18 dc18 pm18 an18 cd18 ct18), sl18⟩) (c18 : PySem.W.codeIn K cd18 "flow_of" = true) (k18 : PySem.W.keepIn K (.ref f18) = true)
    (a19 : PySem.W.nsIn K mainGlobals "asked_flow" = some (some (.ref f19)))
    (l19 : K.lookup f19 = some ⟨oc19, od19, .func (PySem.W.fnOf "asked_flow" "asked_flow" (defArgs s_asked_flow) (defBody s_asked_flow) (defScope s_asked_flow) .none kV19 dc19 pm19 an19 cd19 ct19), sl19⟩) (c19 : PySem.W.codeIn K cd19 "asked_flow" = true) (k19 : PySem.W.keepIn K (.ref f19) = true)
    (a22 : PySem.W.nsIn K mainGlobals "greatest_on" = some (some (.ref f22)))
    (l22 : K.lookup f22 = some ⟨oc22, od22, .func (PySem.W.fnOf "greatest_on" "greatest_on" (defArgs s_greatest_on) (defBody s_greatest_on) (defScope s_greatest_on) .none kV22 dc22 pm22 an22 cd22 ct22), sl22⟩) (c22 : PySem.W.codeIn K cd22 "greatest_on" = true) (k22 : PySem.W.keepIn K (.ref f22) = true)
    (a23 : PySem.W.nsIn K mainGlobals "least_on" = some (some (.ref f23)))
    (l23 : K.lookup f23 = some ⟨oc23, od23, .func (PySem.W.fnOf "least_on" "least_on" (defArgs s_least_on) (defBody s_least_on) (defScope s_least_on) .none kV23 dc23 pm23 an23 cd23 ct23), sl23⟩) (c23 : PySem.W.codeIn K cd23 "least_on" = true) (k23 : PySem.W.keepIn K (.ref f23) = true)
    (a25 : PySem.W.nsIn K mainGlobals "_law_draw" = some (some (.ref f25)))
    (l25 : K.lookup f25 = some ⟨oc25, od25, .func (PySem.W.fnOf "_law_draw" "_law_draw" (defArgs s_l_draw) (defBody s_l_draw) (defScope s_l_draw) .none kV25 dc25 pm25 an25 cd25 ct25), sl25⟩) (c25 : PySem.W.codeIn K cd25 "_law_draw" = true) (k25 : PySem.W.keepIn K (.ref f25) = true)
    (a26 : PySem.W.nsIn K mainGlobals "_law_arcs" = some (some (.ref f26)))
    (l26 : K.lookup f26 = some ⟨oc26, od26, .func (PySem.W.fnOf "_law_arcs" "_law_arcs" (defArgs s_l_arcs) (defBody s_l_arcs) (defScope s_l_arcs) .none kV26 dc26 pm26 an26 cd26 ct26), sl26⟩) (c26 : PySem.W.codeIn K cd26 "_law_arcs" = true) (k26 : PySem.W.keepIn K (.ref f26) = true)
    (a27 : PySem.W.nsIn K mainGlobals "_law_spoilt" = some (some (.ref f27)))
    (l27 : K.lookup f27 = some ⟨oc27, od27, .func (PySem.W.fnOf "_law_spoilt" "_law_spoilt" (defArgs s_l_spoilt) (defBody s_l_spoilt) (defScope s_l_spoilt) .none kV27 dc27 pm27 an27 cd27 ct27), sl27⟩) (c27 : PySem.W.codeIn K cd27 "_law_spoilt" = true) (k27 : PySem.W.keepIn K (.ref f27) = true)
    (a28 : PySem.W.nsIn K mainGlobals "_law_called" = some (some (.ref f28)))
    (l28 : K.lookup f28 = some ⟨oc28, od28, .func (PySem.W.fnOf "_law_called" "_law_called" (defArgs s_l_called) (defBody s_l_called) (defScope s_l_called) .none kV28 dc28 pm28 an28 cd28 ct28), sl28⟩) (c28 : PySem.W.codeIn K cd28 "_law_called" = true) (k28 : PySem.W.keepIn K (.ref f28) = true)
    (a29 : PySem.W.nsIn K mainGlobals "_law_refused" = some (some (.ref f29)))
    (l29 : K.lookup f29 = some ⟨oc29, od29, .func (PySem.W.fnOf "_law_refused" "_law_refused" (defArgs s_l_refused) (defBody s_l_refused) (defScope s_l_refused) .none kV29 dc29 pm29 an29 cd29 ct29), sl29⟩) (c29 : PySem.W.codeIn K cd29 "_law_refused" = true) (k29 : PySem.W.keepIn K (.ref f29) = true)
    (a30 : PySem.W.nsIn K mainGlobals "law" = some (some (.ref f30)))
    (l30 : K.lookup f30 = some ⟨oc30, od30, .func (PySem.W.fnOf "law" "law" (defArgs s_law) (defBody s_law) (defScope s_law) .none kV30 dc30 pm30 an30 cd30 ct30), sl30⟩) (c30 : PySem.W.codeIn K cd30 "law" = true) (k30 : PySem.W.keepIn K (.ref f30) = true)
    (a7000 : PySem.W.findIn K (.ref f6) "__init__" = some (some (.ref f7000)))
    (l7000 : K.lookup f7000 = some ⟨oc7000, od7000, .func (PySem.W.fnOf "__init__" "NoSuch.__init__" (defArgs s_NoSuch___init__) (defBody s_NoSuch___init__) (defScope s_NoSuch___init__) .none kV7000 dc7000 pm7000 an7000 cd7000 ct7000), sl7000⟩) (c7000 : PySem.W.codeIn K cd7000 "NoSuch.__init__" = true) (k7000 : PySem.W.keepIn K (.ref f7000) = true)
    (b7000 : PySem.W.isFn K (.ref f7000) = true)
    (a8000 : PySem.W.findIn K (.ref f7) "__init__" = some (some (.ref f8000)))
    (l8000 : K.lookup f8000 = some ⟨oc8000, od8000, .func (PySem.W.fnOf "__init__" "NoVeil.__init__" (defArgs s_NoVeil___init__) (defBody s_NoVeil___init__) (defScope s_NoVeil___init__) .none kV8000 dc8000 pm8000 an8000 cd8000 ct8000), sl8000⟩) (c8000 : PySem.W.codeIn K cd8000 "NoVeil.__init__" = true) (k8000 : PySem.W.keepIn K (.ref f8000) = true)
    (b8000 : PySem.W.isFn K (.ref f8000) = true)
    (x_CrossError_e : exB K f1 none = true)
    (x_CrossError_kp : PySem.W.keepIn K (.ref f1) = true)
    (x_CrossError_ga : PySem.W.findIn K (.ref f1) "__getattribute__" = some (some (.builtin "BaseException.__getattribute__")))
    (x_CrossError_gh : PySem.W.findIn K (.ref f1) "__getattr__" = some none)
    (x_CrossError_ba : PySem.W.mroIn K f1 (.type "BaseException") = some true)
    (x_CrossError_ob : PySem.W.mroIn K f1 (.type "object") = some true)
    (x_CrossError_hd : PySem.W.hasDictIn K f1 = true)
    (x_CrossError_cl : PySem.W.findIn K (.ref f1) "__class__" = some (some (.builtin "object.__class__")))
    (x_CrossError_cg : PySem.W.specialIn K (.builtin "object.__class__") "__get__" = some (some (.builtin "getset_descriptor.__get__")))
    (x_CrossError_ct : PySem.W.takesIn K (.builtin "object.__class__") = some true)
    (x_CrossError_sa : PySem.W.findIn K (.ref f1) "__setattr__" = some (some (.builtin "object.__setattr__")))
    (x_NoHead_e : exB K f2 none = true)
    (x_NoHead_kp : PySem.W.keepIn K (.ref f2) = true)
    (x_NoHead_ga : PySem.W.findIn K (.ref f2) "__getattribute__" = some (some (.builtin "BaseException.__getattribute__")))
    (x_NoHead_gh : PySem.W.findIn K (.ref f2) "__getattr__" = some none)
    (x_NoHead_ba : PySem.W.mroIn K f2 (.type "BaseException") = some true)
    (x_NoHead_ob : PySem.W.mroIn K f2 (.type "object") = some true)
    (x_NoHead_hd : PySem.W.hasDictIn K f2 = true)
    (x_NoHead_cl : PySem.W.findIn K (.ref f2) "__class__" = some (some (.builtin "object.__class__")))
    (x_NoHead_cg : PySem.W.specialIn K (.builtin "object.__class__") "__get__" = some (some (.builtin "getset_descriptor.__get__")))
    (x_NoHead_ct : PySem.W.takesIn K (.builtin "object.__class__") = some true)
    (x_NoHead_sa : PySem.W.findIn K (.ref f2) "__setattr__" = some (some (.builtin "object.__setattr__")))
    (x_NoNet_e : exB K f3 none = true)
    (x_NoNet_kp : PySem.W.keepIn K (.ref f3) = true)
    (x_NoNet_ga : PySem.W.findIn K (.ref f3) "__getattribute__" = some (some (.builtin "BaseException.__getattribute__")))
    (x_NoNet_gh : PySem.W.findIn K (.ref f3) "__getattr__" = some none)
    (x_NoNet_ba : PySem.W.mroIn K f3 (.type "BaseException") = some true)
    (x_NoNet_ob : PySem.W.mroIn K f3 (.type "object") = some true)
    (x_NoNet_hd : PySem.W.hasDictIn K f3 = true)
    (x_NoNet_cl : PySem.W.findIn K (.ref f3) "__class__" = some (some (.builtin "object.__class__")))
    (x_NoNet_cg : PySem.W.specialIn K (.builtin "object.__class__") "__get__" = some (some (.builtin "getset_descriptor.__get__")))
    (x_NoNet_ct : PySem.W.takesIn K (.builtin "object.__class__") = some true)
    (x_NoNet_sa : PySem.W.findIn K (.ref f3) "__setattr__" = some (some (.builtin "object.__setattr__")))
    (x_NoWhole_e : exB K f4 none = true)
    (x_NoWhole_kp : PySem.W.keepIn K (.ref f4) = true)
    (x_NoWhole_ga : PySem.W.findIn K (.ref f4) "__getattribute__" = some (some (.builtin "BaseException.__getattribute__")))
    (x_NoWhole_gh : PySem.W.findIn K (.ref f4) "__getattr__" = some none)
    (x_NoWhole_ba : PySem.W.mroIn K f4 (.type "BaseException") = some true)
    (x_NoWhole_ob : PySem.W.mroIn K f4 (.type "object") = some true)
    (x_NoWhole_hd : PySem.W.hasDictIn K f4 = true)
    (x_NoWhole_cl : PySem.W.findIn K (.ref f4) "__class__" = some (some (.builtin "object.__class__")))
    (x_NoWhole_cg : PySem.W.specialIn K (.builtin "object.__class__") "__get__" = some (some (.builtin "getset_descriptor.__get__")))
    (x_NoWhole_ct : PySem.W.takesIn K (.builtin "object.__class__") = some true)
    (x_NoWhole_sa : PySem.W.findIn K (.ref f4) "__setattr__" = some (some (.builtin "object.__setattr__")))
    (x_NoGroups_e : exB K f5 none = true)
    (x_NoGroups_kp : PySem.W.keepIn K (.ref f5) = true)
    (x_NoGroups_ga : PySem.W.findIn K (.ref f5) "__getattribute__" = some (some (.builtin "BaseException.__getattribute__")))
    (x_NoGroups_gh : PySem.W.findIn K (.ref f5) "__getattr__" = some none)
    (x_NoGroups_ba : PySem.W.mroIn K f5 (.type "BaseException") = some true)
    (x_NoGroups_ob : PySem.W.mroIn K f5 (.type "object") = some true)
    (x_NoGroups_hd : PySem.W.hasDictIn K f5 = true)
    (x_NoGroups_cl : PySem.W.findIn K (.ref f5) "__class__" = some (some (.builtin "object.__class__")))
    (x_NoGroups_cg : PySem.W.specialIn K (.builtin "object.__class__") "__get__" = some (some (.builtin "getset_descriptor.__get__")))
    (x_NoGroups_ct : PySem.W.takesIn K (.builtin "object.__class__") = some true)
    (x_NoGroups_sa : PySem.W.findIn K (.ref f5) "__setattr__" = some (some (.builtin "object.__setattr__")))
    (x_NoSuch_e : exB K f6 (some (.ref f7000)) = true)
    (x_NoSuch_kp : PySem.W.keepIn K (.ref f6) = true)
    (x_NoSuch_ga : PySem.W.findIn K (.ref f6) "__getattribute__" = some (some (.builtin "BaseException.__getattribute__")))
    (x_NoSuch_gh : PySem.W.findIn K (.ref f6) "__getattr__" = some none)
    (x_NoSuch_ba : PySem.W.mroIn K f6 (.type "BaseException") = some true)
    (x_NoSuch_ob : PySem.W.mroIn K f6 (.type "object") = some true)
    (x_NoSuch_hd : PySem.W.hasDictIn K f6 = true)
    (x_NoSuch_cl : PySem.W.findIn K (.ref f6) "__class__" = some (some (.builtin "object.__class__")))
    (x_NoSuch_cg : PySem.W.specialIn K (.builtin "object.__class__") "__get__" = some (some (.builtin "getset_descriptor.__get__")))
    (x_NoSuch_ct : PySem.W.takesIn K (.builtin "object.__class__") = some true)
    (x_NoSuch_sa : PySem.W.findIn K (.ref f6) "__setattr__" = some (some (.builtin "object.__setattr__")))
    (x_NoVeil_e : exB K f7 (some (.ref f8000)) = true)
    (x_NoVeil_kp : PySem.W.keepIn K (.ref f7) = true)
    (x_NoVeil_ga : PySem.W.findIn K (.ref f7) "__getattribute__" = some (some (.builtin "BaseException.__getattribute__")))
    (x_NoVeil_gh : PySem.W.findIn K (.ref f7) "__getattr__" = some none)
    (x_NoVeil_ba : PySem.W.mroIn K f7 (.type "BaseException") = some true)
    (x_NoVeil_ob : PySem.W.mroIn K f7 (.type "object") = some true)
    (x_NoVeil_hd : PySem.W.hasDictIn K f7 = true)
    (x_NoVeil_cl : PySem.W.findIn K (.ref f7) "__class__" = some (some (.builtin "object.__class__")))
    (x_NoVeil_cg : PySem.W.specialIn K (.builtin "object.__class__") "__get__" = some (some (.builtin "getset_descriptor.__get__")))
    (x_NoVeil_ct : PySem.W.takesIn K (.builtin "object.__class__") = some true)
    (x_NoVeil_sa : PySem.W.findIn K (.ref f7) "__setattr__" = some (some (.builtin "object.__setattr__")))
    (v_na_NoSuch_number : PySem.W.findIn K (.ref f6) "number" = some none)
    (v_na_NoVeil_cell : PySem.W.findIn K (.ref f7) "cell" = some none)
    (v_su_NoNet_CrossError : subB K f3 f1 = true)
    (v_ki_NoNet_CrossError : PySem.W.kitOne K (.ref f3) (.ref f1) = some true)
    (v_su_NoNet_NoHead : subB K f3 f2 = false)
    (v_ki_NoNet_NoHead : PySem.W.kitOne K (.ref f3) (.ref f2) = some false)
    (v_su_NoNet_NoNet : subB K f3 f3 = true)
    (v_ki_NoNet_NoNet : PySem.W.kitOne K (.ref f3) (.ref f3) = some true)
    (v_su_NoNet_NoWhole : subB K f3 f4 = false)
    (v_ki_NoNet_NoWhole : PySem.W.kitOne K (.ref f3) (.ref f4) = some false)
    (v_su_NoNet_NoGroups : subB K f3 f5 = false)
    (v_ki_NoNet_NoGroups : PySem.W.kitOne K (.ref f3) (.ref f5) = some false)
    (v_su_NoNet_NoSuch : subB K f3 f6 = false)
    (v_ki_NoNet_NoSuch : PySem.W.kitOne K (.ref f3) (.ref f6) = some false)
    (v_su_NoNet_NoVeil : subB K f3 f7 = false)
    (v_ki_NoNet_NoVeil : PySem.W.kitOne K (.ref f3) (.ref f7) = some false)
    (v_kv_NoNet : PySem.W.kitOne K (.ref f3) (.type "ValueError") = some true)
    (z_ValueError : PySem.W.nsIn K mainGlobals "ValueError" = some none)
    (z_all : PySem.W.nsIn K mainGlobals "all" = some none)
    (z_isinstance : PySem.W.nsIn K mainGlobals "isinstance" = some none)
    (z_len : PySem.W.nsIn K mainGlobals "len" = some none)
    (z_list : PySem.W.nsIn K mainGlobals "list" = some none)
    (z_range : PySem.W.nsIn K mainGlobals "range" = some none)
    {tk_MOST_NODES : Tok} (y_MOST_NODES : PySem.W.nsIn K mainGlobals "MOST_NODES" = some (some (.int (120) tk_MOST_NODES)))
    {tk_MOST_ARCS : Tok} (y_MOST_ARCS : PySem.W.nsIn K mainGlobals "MOST_ARCS" = some (some (.int (300) tk_MOST_ARCS)))
    : ∃ f fd, Txt K mg f fd ∧ f 30 = f30 ∧ ∃ kV dc pm an cd ct, fd 30 = PySem.W.fnOf "law" "law" (defArgs s_law) (defBody s_law) (defScope s_law) .none kV dc pm an cd ct := by
  refine ⟨fun i => match i with | 11 => f11 | 12 => f12 | 18 => f18 | 19 => f19 | 22 => f22 | 23 => f23 | 25 => f25 | 26 => f26 | 27 => f27 | 28 => f28 | 29 => f29 | 30 => f30 | 7000 => f7000 | 8000 => f8000 | 1 => f1 | 2 => f2 | 3 => f3 | 4 => f4 | 5 => f5 | 6 => f6 | 7 => f7 | _ => 0, fun i => match i with | 11 => PySem.W.fnOf "asked_arc" "asked_arc" (defArgs s_asked_arc) (defBody s_asked_arc) (defScope s_asked_arc) .none kV11 dc11 pm11 an11 cd11 ct11 | 12 => PySem.W.fnOf "asked_net" "asked_net" (defArgs s_asked_net) (defBody s_asked_net) (defScope s_asked_net) .none kV12 dc12 pm12 an12 cd12 ct12 | 18 => PySem.W.fnOf "flow_of" "flow_of" (defArgs s_flow_of) (defBody s_flow_of) (defScope s_flow_of) .none kV18 dc18 pm18 an18 cd18 ct18 | 19 => PySem.W.fnOf "asked_flow" "asked_flow" (defArgs s_asked_flow) (defBody s_asked_flow) (defScope s_asked_flow) .none kV19 dc19 pm19 an19 cd19 ct19 | 22 => PySem.W.fnOf "greatest_on" "greatest_on" (defArgs s_greatest_on) (defBody s_greatest_on) (defScope s_greatest_on) .none kV22 dc22 pm22 an22 cd22 ct22 | 23 => PySem.W.fnOf "least_on" "least_on" (defArgs s_least_on) (defBody s_least_on) (defScope s_least_on) .none kV23 dc23 pm23 an23 cd23 ct23 | 25 => PySem.W.fnOf "_law_draw" "_law_draw" (defArgs s_l_draw) (defBody s_l_draw) (defScope s_l_draw) .none kV25 dc25 pm25 an25 cd25 ct25 | 26 => PySem.W.fnOf "_law_arcs" "_law_arcs" (defArgs s_l_arcs) (defBody s_l_arcs) (defScope s_l_arcs) .none kV26 dc26 pm26 an26 cd26 ct26 | 27 => PySem.W.fnOf "_law_spoilt" "_law_spoilt" (defArgs s_l_spoilt) (defBody s_l_spoilt) (defScope s_l_spoilt) .none kV27 dc27 pm27 an27 cd27 ct27 | 28 => PySem.W.fnOf "_law_called" "_law_called" (defArgs s_l_called) (defBody s_l_called) (defScope s_l_called) .none kV28 dc28 pm28 an28 cd28 ct28 | 29 => PySem.W.fnOf "_law_refused" "_law_refused" (defArgs s_l_refused) (defBody s_l_refused) (defScope s_l_refused) .none kV29 dc29 pm29 an29 cd29 ct29 | 30 => PySem.W.fnOf "law" "law" (defArgs s_law) (defBody s_law) (defScope s_law) .none kV30 dc30 pm30 an30 cd30 ct30 | 7000 => PySem.W.fnOf "__init__" "NoSuch.__init__" (defArgs s_NoSuch___init__) (defBody s_NoSuch___init__) (defScope s_NoSuch___init__) .none kV7000 dc7000 pm7000 an7000 cd7000 ct7000 | 8000 => PySem.W.fnOf "__init__" "NoVeil.__init__" (defArgs s_NoVeil___init__) (defBody s_NoVeil___init__) (defScope s_NoVeil___init__) .none kV8000 dc8000 pm8000 an8000 cd8000 ct8000 | _ => PySem.W.fnOf "law" "law" (defArgs s_law) (defBody s_law) (defScope s_law) .none kV30 dc30 pm30 an30 cd30 ct30, ⟨?_, ?_, ?_, ?_, ?_, ?_, ?_, ?_, ?_, ?_, ?_, ?_, ?_, ?_, ?_, ?_, ?_, ?_, ?_, ?_, ?_, ?_, ?_, ?_, ?_, ?_, ?_, ?_, ?_, ?_, ?_, ?_, ?_, ?_, ?_, ?_, ?_, ?_, ?_, ?_, ?_, ?_, ?_, ?_, ?_, ?_⟩, rfl, _, _, _, _, _, _, rfl⟩
  · exact (by have F := fun_mk (st := s_asked_arc) l11 c11 k11; exact ⟨F, F.binds (ps := ["many", "arc"]) fun _ _ _ _ _ _ us hl => match us, hl with | [_, _], _ => rfl, PySem.W.mg_of X G a11⟩)
  · exact (by have F := fun_mk (st := s_asked_net) l12 c12 k12; exact ⟨F, F.binds (ps := ["many", "arcs"]) fun _ _ _ _ _ _ us hl => match us, hl with | [_, _], _ => rfl, PySem.W.mg_of X G a12⟩)
  · exact (by have F := fun_mk (st := s_flow_of) l18 c18 k18; exact ⟨F, F.binds (ps := ["many", "arcs"]) fun _ _ _ _ _ _ us hl => match us, hl with | [_, _], _ => rfl, PySem.W.mg_of X G a18⟩)
  · exact (by have F := fun_mk (st := s_asked_flow) l19 c19 k19; exact ⟨F, F.binds (ps := ["many", "arcs", "flow"]) fun _ _ _ _ _ _ us hl => match us, hl with | [_, _, _], _ => rfl, PySem.W.mg_of X G a19⟩)
  · exact (by have F := fun_mk (st := s_greatest_on) l22 c22 k22; exact ⟨F, F.binds (ps := ["many", "arcs", "flow", "at"]) fun _ _ _ _ _ _ us hl => match us, hl with | [_, _, _, _], _ => rfl, PySem.W.mg_of X G a22⟩)
  · exact (by have F := fun_mk (st := s_least_on) l23 c23 k23; exact ⟨F, F.binds (ps := ["many", "arcs", "flow", "at"]) fun _ _ _ _ _ _ us hl => match us, hl with | [_, _, _, _], _ => rfl, PySem.W.mg_of X G a23⟩)
  · exact (by have F := fun_mk (st := s_l_draw) l25 c25 k25; exact ⟨F, F.binds (ps := ["_law_script", "_law_k", "_law_many"]) fun _ _ _ _ _ _ us hl => match us, hl with | [_, _, _], _ => rfl, PySem.W.mg_of X G a25⟩)
  · exact (by have F := fun_mk (st := s_l_arcs) l26 c26 k26; exact ⟨F, F.binds (ps := ["_law_script", "_law_nodes", "_law_size", "_law_unit"]) fun _ _ _ _ _ _ us hl => match us, hl with | [_, _, _, _], _ => rfl, PySem.W.mg_of X G a26⟩)
  · exact (by have F := fun_mk (st := s_l_spoilt) l27 c27 k27; exact ⟨F, F.binds (ps := ["_law_script", "_law_nodes", "_law_arcs_here"]) fun _ _ _ _ _ _ us hl => match us, hl with | [_, _, _], _ => rfl, PySem.W.mg_of X G a27⟩)
  · exact (by have F := fun_mk (st := s_l_called) l28 c28 k28; exact ⟨F, F.binds (ps := ["_law_way", "_law_nodes", "_law_arcs_here"]) fun _ _ _ _ _ _ us hl => match us, hl with | [_, _, _], _ => rfl, PySem.W.mg_of X G a28⟩)
  · exact (by have F := fun_mk (st := s_l_refused) l29 c29 k29; exact ⟨F, F.binds (ps := ["_law_way", "_law_nodes", "_law_arcs_here"]) fun _ _ _ _ _ _ us hl => match us, hl with | [_, _, _], _ => rfl, PySem.W.mg_of X G a29⟩)
  · exact (by have F := fun_mk (st := s_law) l30 c30 k30; exact ⟨F, F.binds (ps := ["_law_script"]) fun _ _ _ _ _ _ us hl => match us, hl with | [_], _ => rfl, PySem.W.mg_of X G a30⟩)
  · exact (by have F := fun_mk (st := s_NoSuch___init__) l7000 c7000 k7000; exact ⟨F, F.binds (ps := ["self", "number"]) fun _ _ _ _ _ _ us hl => match us, hl with | [_, _], _ => rfl, b7000⟩)
  · exact (by have F := fun_mk (st := s_NoVeil___init__) l8000 c8000 k8000; exact ⟨F, F.binds (ps := ["self", "cell"]) fun _ _ _ _ _ _ us hl => match us, hl with | [_, _], _ => rfl, b8000⟩)
  · exact (exc_mk X G a1 x_CrossError_e x_CrossError_kp x_CrossError_ga x_CrossError_gh x_CrossError_ba x_CrossError_ob x_CrossError_hd x_CrossError_cl x_CrossError_cg x_CrossError_ct x_CrossError_sa)
  · exact (exc_mk X G a2 x_NoHead_e x_NoHead_kp x_NoHead_ga x_NoHead_gh x_NoHead_ba x_NoHead_ob x_NoHead_hd x_NoHead_cl x_NoHead_cg x_NoHead_ct x_NoHead_sa)
  · exact (exc_mk X G a3 x_NoNet_e x_NoNet_kp x_NoNet_ga x_NoNet_gh x_NoNet_ba x_NoNet_ob x_NoNet_hd x_NoNet_cl x_NoNet_cg x_NoNet_ct x_NoNet_sa)
  · exact (exc_mk X G a4 x_NoWhole_e x_NoWhole_kp x_NoWhole_ga x_NoWhole_gh x_NoWhole_ba x_NoWhole_ob x_NoWhole_hd x_NoWhole_cl x_NoWhole_cg x_NoWhole_ct x_NoWhole_sa)
  · exact (exc_mk X G a5 x_NoGroups_e x_NoGroups_kp x_NoGroups_ga x_NoGroups_gh x_NoGroups_ba x_NoGroups_ob x_NoGroups_hd x_NoGroups_cl x_NoGroups_cg x_NoGroups_ct x_NoGroups_sa)
  · exact (exc_mk X G a6 x_NoSuch_e x_NoSuch_kp x_NoSuch_ga x_NoSuch_gh x_NoSuch_ba x_NoSuch_ob x_NoSuch_hd x_NoSuch_cl x_NoSuch_cg x_NoSuch_ct x_NoSuch_sa)
  · exact (exc_mk X G a7 x_NoVeil_e x_NoVeil_kp x_NoVeil_ga x_NoVeil_gh x_NoVeil_ba x_NoVeil_ob x_NoVeil_hd x_NoVeil_cl x_NoVeil_cg x_NoVeil_ct x_NoVeil_sa)
  · exact v_na_NoSuch_number
  · exact v_na_NoVeil_cell
  · exact v_su_NoNet_CrossError
  · exact v_ki_NoNet_CrossError
  · exact v_su_NoNet_NoHead
  · exact v_ki_NoNet_NoHead
  · exact v_su_NoNet_NoNet
  · exact v_ki_NoNet_NoNet
  · exact v_su_NoNet_NoWhole
  · exact v_ki_NoNet_NoWhole
  · exact v_su_NoNet_NoGroups
  · exact v_ki_NoNet_NoGroups
  · exact v_su_NoNet_NoSuch
  · exact v_ki_NoNet_NoSuch
  · exact v_su_NoNet_NoVeil
  · exact v_ki_NoNet_NoVeil
  · exact v_kv_NoNet
  · exact (PySem.W.mg_none_of X G z_ValueError)
  · exact (PySem.W.mg_none_of X G z_all)
  · exact (PySem.W.mg_none_of X G z_isinstance)
  · exact (PySem.W.mg_none_of X G z_len)
  · exact (PySem.W.mg_none_of X G z_list)
  · exact (PySem.W.mg_none_of X G z_range)
  · exact ⟨_, PySem.W.mg_of X G y_MOST_NODES⟩
  · exact ⟨_, PySem.W.mg_of X G y_MOST_ARCS⟩
local macro_rules | `(tactic| walk_at "py") => `(tactic| ((try dsimp only [cxOf, L2.Cx.inTry, L2.Cx.inHand]); simp only [L2.start, tSeq, tNext, tIfS, tRet, tRetN, tAsg, tDrop, gName, tVar, tC, tOp, tUn, tCall, tCB, tCons, tNil, tTest, tB, tNot, tAnd, tOr, tAndV, tOrV, tNotV, tIf, tChain, tLst, tTup, tBM, tBM0, rI, rI0, rU, rEq, rNe, scal, tComp, iStr, iList, iTup, iRng1, iRng2, tYes, rIsP, rAll, rLenS, rLenV, rListOf, rTupleOf, tDisp, tPairs, tSl, tPart, tNoPart, rSlS, rSlL, rFind, rStarts, rIntT, rStrA, rRepS, tCallX, tRaise, tRaiseI, tTry, tAs, offE, tXF, sXset, tMethX, tMakeX, rIsX, tFld, sFld, tMeth, rSortD, rDPop, tDNewK, 
  List.map_cons, List.map_nil, List.cons_append, List.nil_append, List.length_cons, List.length_nil, List.getElem?_cons_zero, List.getElem?_cons_succ, Option.some.injEq, exists_eq_left', exists_eq_left, List.set_cons_zero, List.set_cons_succ, List.cons.injEq, and_true, true_and, V.int.injEq, V.str.injEq, V.bl.injEq, V.ref.injEq, V.ty.injEq, exists_and_left, exists_and_right, List.append_nil, reduceCtorEq, false_and, and_false, exists_false, or_false, false_or, decide_true, decide_false, Bool.not_true, Bool.not_false, if_true, if_false, Bool.false_eq_true, ite_true, ite_false, and_assoc, Nat.reduceAdd, Nat.reduceSub, List.replicate_succ, List.replicate_zero, Nat.zero_add, Nat.add_zero, Nat.sub_self]))
local macro_rules | `(tactic| walk_at "dc") => `(tactic| ((try dsimp only [cxOf, L2.Cx.inTry, L2.Cx.inHand]); simp only [L2.start, tSeq, tNext, tIfS, tRet, tRetN, tAsg, tDrop, gName, tVar, tC, tOp, tUn, tCall, tCB, tCons, tNil, tTest, tB, tNot, tAnd, tOr, tAndV, tOrV, tNotV, tIf, tChain, tLst, tTup, tBM, tBM0, rI, rI0, rU, rEq, rNe, scal, tComp, iStr, iList, iTup, iRng1, iRng2, tYes, rIsP, rAll, rLenS, rLenV, rListOf, rTupleOf, tDisp, tPairs, tSl, tPart, tNoPart, rSlS, rSlL, rFind, rStarts, rIntT, rStrA, rRepS, tCallX, tRaise, tRaiseI, tTry, tAs, offE, tXF, sXset, tMethX, tMakeX, rIsX, tFld, sFld, tMeth, rSortD, rDPop, tDNewK, tDIn, tDNotIn, tDGet, sDPut, rIndexS, tStop, 
  List.map_cons, List.map_nil, List.cons_append, List.nil_append, List.length_cons, List.length_nil, List.getElem?_cons_zero, List.getElem?_cons_succ, Option.some.injEq, exists_eq_left', exists_eq_left, List.set_cons_zero, List.set_cons_succ, List.cons.injEq, and_true, true_and, V.int.injEq, V.str.injEq, V.bl.injEq, V.ref.injEq, V.ty.injEq, exists_and_left, exists_and_right, List.append_nil, reduceCtorEq, false_and, and_false, exists_false, or_false, false_or, decide_true, decide_false, Bool.not_true, Bool.not_false, if_true, if_false, Bool.false_eq_true, ite_true, ite_false, and_assoc, Nat.reduceAdd, Nat.reduceSub, List.replicate_succ, List.replicate_zero, Nat.zero_add, Nat.add_zero, Nat.sub_self]))
local macro_rules | `(tactic| walk_at "dl") => `(tactic| ((try dsimp only [cxOf, L2.Cx.inTry, L2.Cx.inHand]); simp only [L2.start, tSeq, tNext, tIfS, tRet, tRetN, tAsg, tDrop, gName, tVar, tC, tOp, tUn, tCall, tCB, tCons, tNil, tTest, tB, tNot, tAnd, tOr, tAndV, tOrV, tNotV, tIf, tChain, tLst, tTup, tBM, tBM0, rI, rI0, rU, rEq, rNe, scal, tComp, iStr, iList, iTup, iRng1, iRng2, tYes, rIsP, rAll, rLenS, rLenV, rListOf, rTupleOf, tDisp, tPairs, tSl, tPart, tNoPart, rSlS, rSlL, rFind, rStarts, rIntT, rStrA, rRepS, tCallX, tRaise, tRaiseI, tTry, tAs, offE, tXF, sXset, tMethX, tMakeX, rIsX, tFld, sFld, tMeth, rSortD, rDPop, tDNewK, tDIn, tDNotIn, tDGet, sDPut, rIndexS, tStop, 
  List.map_cons, List.map_nil, List.cons_append, List.nil_append, List.length_cons, List.length_nil, List.getElem?_cons_zero, List.getElem?_cons_succ, Option.some.injEq, exists_eq_left', exists_eq_left, List.set_cons_zero, List.set_cons_succ, List.cons.injEq, and_true, true_and, V.int.injEq, V.str.injEq, V.bl.injEq, V.ref.injEq, V.ty.injEq, exists_and_left, exists_and_right, List.append_nil, reduceCtorEq, false_and, and_false, exists_false, or_false, false_or, decide_true, decide_false, Bool.not_true, Bool.not_false, if_true, if_false, Bool.false_eq_true, ite_true, ite_false, and_assoc, Nat.reduceAdd, Nat.reduceSub, List.replicate_succ, List.replicate_zero, Nat.zero_add, Nat.add_zero, Nat.sub_self, Int.reduceEq, Int.reduceLT, Int.reduceLE, ↓reduceIte, decide_eq_true_eq]))
local macro_rules | `(tactic| walk_at "sd") => `(tactic| repeat (refine And.intro (by first | decide | omega | exact Or.inl ⟨by omega, by omega⟩ | exact Or.inr ⟨by omega, by omega⟩ | exact ⟨by omega, by omega⟩ | exact ⟨by decide, by decide, by decide⟩) ?_))
section
variable {P : Program} {w : World} {K : PySem.W.Frag} {mg : Str → Option Value} {base : Heap} {f : Nat → Addr} {fd : Nat → FuncData}
structure Arc where
  a : Int
  b : Int
  l : Int
  u : Int
def Arc.vs (A : Arc) : List V := [.int A.a, .int A.b, .int A.l, .int A.u]
def Arc.Ok (m : Int) (A : Arc) : Prop := 0 ≤ A.a ∧ A.a < m ∧ 0 ≤ A.b ∧ A.b < m ∧ A.a ≠ A.b ∧ 0 ≤ A.l ∧ A.l ≤ A.u
/-  the arcs of a list -/
def Arcs (H : Hp) (l : Addr) (xs : List V) (as : List Arc) : Prop := H l = some (.lst xs) ∧ xs.length = as.length ∧ ∀ (i : Nat) x A, xs[i]? = some x → as[i]? = some A → ∃ p, x = .ref p ∧ H p = some (.tup A.vs)
theorem Arcs.mono {H H' : Hp} {l : Addr} {xs : List V} {as : List Arc} (s : Same H H') (h : Arcs H l xs as) : Arcs H' l xs as := ⟨s _ _ h.1, h.2.1, fun i x A a b => by
  obtain ⟨p, e, g⟩ := h.2.2 i x A a b
  exact ⟨p, e, s _ _ g⟩⟩
theorem Arcs.at {H : Hp} {l : Addr} {xs : List V} {as : List Arc} (h : Arcs H l xs as) {i : Nat} {x : V} (hx : xs[i]? = some x) : ∃ p A, x = .ref p ∧ as[i]? = some A ∧ H p = some (.tup A.vs) := by
  have hi : i < as.length := by rw [← h.2.1]; exact (List.getElem?_eq_some_iff.mp hx).1
  obtain ⟨p, e, g⟩ := h.2.2 i x _ hx (List.getElem?_eq_getElem hi)
  exact ⟨p, _, e, List.getElem?_eq_getElem hi, g⟩
def NetOk (m : Int) (as : List Arc) : Prop := 1 ≤ m ∧ m ≤ 120 ∧ as.length ≤ 300 ∧ ∀ A ∈ as, A.Ok m
def sp_asked_arc (K : PySem.W.Frag) (f : Nat → Addr) : Sp := fun vs H Q E => ∃ m p A, vs = [.int m, .ref p] ∧ H p = some (.tup (Arc.vs A)) ∧ (A.Ok m → Q (.bl true) H) ∧ (¬ A.Ok m → E (.ref (f 3)) none H)
theorem ok_asked_arc (T : Txt K mg f fd) : FnOk P w K mg base (CXE P w) 1 (f 11) (fd 11) ["many", "arc"] (sp_asked_arc K f) := by
  refine T.d_asked_arc.F.okX sc_asked_arc (fun vs H Q E h => ?_) (fun cdv A outer s H vs Q E hr h => ?_)
  · obtain ⟨m, p, A, rfl, _⟩ := h
    rfl
  · obtain ⟨m, p, A, rfl, hp, k1, k2⟩ := h
    unfold Arc.vs at hp
    refine ⟨_, (pss_cons (ps_if (PW.pt (pw_or (pt_not (pt_chain op_le op_lt pe_int (pe_ix (k_ixT rfl) (pvl 1) pe_int (fun _ _ => rfl)) (pvl 0))) (pw_or1 (pt_not (pt_chain op_le op_lt pe_int (pe_ix (k_ixT rfl) (pvl 1) pe_int (fun _ _ => rfl)) (pvl 0))))))
     (pss_one (ps_raise told_cx rfl T.x_NoNet.x rfl T.x_NoNet.m (by decide) rfl (pal rfl pe_str pa_nil)))
     pss_nil)
     (pss_cons (ps_if (pt_cmpR op_eq (pe_ix (k_ixT rfl) (pvl 1) pe_int (fun _ _ => rfl)) (pe_ix (k_ixT rfl) (pvl 1) pe_int (fun _ _ => rfl)) (nomark _))
     (pss_one (ps_raise told_cx rfl T.x_NoNet.x rfl T.x_NoNet.m (by decide) rfl (pal rfl pe_str pa_nil)))
     pss_nil)
     (pss_cons (ps_if (pt_not (pt_chain op_le op_le pe_int (pe_ix (k_ixT rfl) (pvl 1) pe_int (fun _ _ => rfl)) (pe_ix (k_ixT rfl) (pvl 1) pe_int (fun _ _ => rfl))))
     (pss_one (ps_raise told_cx rfl T.x_NoNet.x rfl T.x_NoNet.m (by decide) rfl (pal rfl pe_str pa_nil)))
     pss_nil)
     (pss_one (ps_ret pe_bl))))), ?_⟩
    walk_at "dc"
    have no : ¬ A.Ok m → (1 ≤ sizeLine ∧ E (Value.ref (f 3)) none H) := fun hn => ⟨small_line (by decide), k2 hn⟩
    refine ⟨p, _, _, _, rfl, rfl, .of hp, atI_nat (j := 0) rfl, _, rfl, ?_⟩
    by_cases c1 : ¬ 0 ≤ A.a
    · rw [if_neg (by simpa using c1)]
      exact no fun z => c1 z.1
    rw [if_pos (decide_eq_true (Decidable.not_not.mp c1))]
    refine ⟨_, rfl, ?_⟩
    by_cases c2 : ¬ A.a < m
    · rw [if_pos (by simpa using c2)]
      exact no fun z => c2 z.2.1
    rw [if_neg (by simpa using c2)]
    refine ⟨p, _, _, _, rfl, rfl, .of hp, atI_nat (j := 1) rfl, _, rfl, ?_⟩
    by_cases c3 : ¬ 0 ≤ A.b
    · rw [if_neg (by simpa using c3)]
      exact no fun z => c3 z.2.2.1
    rw [if_pos (decide_eq_true (Decidable.not_not.mp c3))]
    refine ⟨_, rfl, ?_⟩
    by_cases c4 : ¬ A.b < m
    · rw [if_pos (by simpa using c4)]
      exact no fun z => c4 z.2.2.2.1
    rw [if_neg (by simpa using c4)]
    refine ⟨p, _, _, _, rfl, rfl, .of hp, atI_nat (j := 0) rfl, p, _, _, _, rfl, rfl, .of hp, atI_nat (j := 1) rfl, rfl, ?_⟩
    by_cases c5 : A.a = A.b
    · rw [if_pos (by simpa using c5)]
      exact no fun z => z.2.2.2.2.1 c5
    rw [if_neg (by simpa using c5)]
    refine ⟨p, _, _, _, rfl, rfl, .of hp, atI_nat (j := 2) rfl, _, rfl, ?_⟩
    by_cases c6 : ¬ 0 ≤ A.l
    · rw [if_neg (by simpa using c6)]
      exact no fun z => c6 z.2.2.2.2.2.1
    rw [if_pos (decide_eq_true (Decidable.not_not.mp c6))]
    refine ⟨p, _, _, _, rfl, rfl, .of hp, atI_nat (j := 3) rfl, _, rfl, _, rfl, ?_⟩
    by_cases c7 : ¬ A.l ≤ A.u
    · rw [if_pos (by simpa using c7)]
      exact no fun z => c7 z.2.2.2.2.2.2
    rw [if_neg (by simpa using c7)]
    exact k1 ⟨by omega, by omega, by omega, by omega, c5, by omega, by omega⟩
def sp_asked_net (K : PySem.W.Frag) (f : Nat → Addr) : Sp := fun vs H Q E => ∃ m l xs as, vs = [.int m, .ref l] ∧ Arcs H l xs as ∧ as.length ≤ 1000 ∧ (NetOk m as → ∀ H', Same H H' → Q (.bl true) H') ∧ (¬ NetOk m as → ∀ H', Same H H' → E (.ref (f 3)) none H')
theorem ok_asked_net (T : Txt K mg f fd) : FnOk P w K mg base (CXE P w) 2 (f 12) (fd 12) ["many", "arcs"] (sp_asked_net K f) := by
  refine T.d_asked_net.F.okX sc_asked_net (fun vs H Q E h => ?_) (fun cdv A outer s H vs Q E hr h => ?_)
  · obtain ⟨m, l, xs, as, rfl, _⟩ := h
    rfl
  · obtain ⟨m, l, xs, as, rfl, hA, h1000, k1, k2⟩ := h
    refine ⟨_, (pss_cons (ps_if (pt_not (pt_chain op_le op_le pe_int (pvc 0) (pgi T.g_MOST_NODES)))
     (pss_one (ps_raise told_cx rfl T.x_NoNet.x rfl T.x_NoNet.m (by decide) rfl (pal rfl pe_str pa_nil)))
     pss_nil)
     (pss_cons (ps_if (pt_cmpR op_gt (pe_cB (k_len rfl) T.n_len bt_len rfl (by decide) (by decide) rfl (pal rfl (pvl 1) pa_nil)) (pgi T.g_MOST_ARCS) (nomark _))
     (pss_one (ps_raise told_cx rfl T.x_NoNet.x rfl T.x_NoNet.m (by decide) rfl (pal rfl pe_str pa_nil)))
     pss_nil)
     (pss_one (ps_ret (pe_cB (k_all rfl rfl) T.n_all bt_all rfl (by decide) (by decide) rfl (pal rfl (pe_compX leaves_cx ["arc"] ["many", "arcs"] rfl (show CompSc _ (defScope s_asked_net) ["many", "arcs"] ["many", "arcs"] from compOk_is (by decide +kernel)) (k_piL rfl (pvl 1)) (fun _ _ _ _ _ _ => (pgl 0 (show (["arc", "many", "arcs"] : List Str).Nodup by decide +kernel))) (fun _ _ _ _ _ _ => pts_nil) (fun _ _ _ _ _ _ TC => (pe_defC TC T.d_asked_arc (ok_asked_arc T) (hr.mono (by decide)) rfl (by decide) rfl (pal rfl (pvc 1) (pal rfl (pvl 0) pa_nil))))) pa_nil)))))), ?_⟩
    walk_at "dc"
    have no : ∀ G, Same H G → ¬ NetOk m as → (1 ≤ sizeLine ∧ E (Value.ref (f 3)) none G) := fun G s hn => ⟨small_line (by decide), k2 hn G s⟩
    have hl := hA.2.1
    by_cases c1 : ¬ 1 ≤ m
    · rw [if_neg (by simpa using c1)]
      exact no H (Same.refl _) fun z => c1 z.1
    replace c1 := Decidable.not_not.mp c1
    rw [if_pos (decide_eq_true c1)]
    by_cases c2 : ¬ m ≤ 120
    · rw [if_pos (by simpa using c2)]
      exact no H (Same.refl _) fun z => c2 z.2.1
    rw [if_neg (by simpa using c2)]
    refine ⟨_, .inl (.of hA.1), ?_⟩
    by_cases c3 : 300 < as.length
    · rw [if_pos (by rw [hl]; exact decide_eq_true (by omega))]
      exact no H (Same.refl _) fun z => by have := z.2.2.1; omega
    rw [if_neg (by rw [hl]; simp; omega)]
    refine ⟨⟨_, .of hA.1⟩, ?_⟩
    refine comp_walk (walk_list (xs := xs)) (small_line (by omega)) (fun i ys H' => Same H H' ∧ ys = (List.replicate i true).map V.bl ∧ ∀ j, j < i → ∀ A, as[j]? = some A → A.Ok m) ⟨Same.refl _, rfl, fun _ hm => absurd hm (by omega)⟩ (fun _ _ H' _ q => q.1.seq (.of hA.1)) (fun i ys H' q => by rw [q.2.1, List.length_map, List.length_replicate]; exact Nat.le_refl _) (fun i x ys H3 hx q => ?_) (fun ys H3 q D hD => ?_)
    · obtain ⟨t1, rfl, t3⟩ := q
      obtain ⟨p, A', rfl, hAi, hp⟩ := hA.at hx
      walk_at "dc"
      refine ⟨A', t1 _ _ hp, fun ok => ⟨⟨_, rfl⟩, t1, by rw [List.map_replicate, ← List.replicate_succ', List.replicate_succ], fun j hj B hB => ?_⟩, fun bad => k2 (fun z => bad (z.2.2.2 A' (List.mem_of_getElem? hAi))) _ t1⟩
      rcases Nat.lt_succ_iff_lt_or_eq.mp hj with hj | rfl
      · exact t3 j hj B hB
      · rw [hAi] at hB
        cases hB
        exact ok
    · obtain ⟨t1, rfl, t3⟩ := q
      refine ⟨_, .of upd_same, ?_⟩
      have e : (List.replicate xs.length true).all id = true := by rw [List.all_eq_true]; intro x hx; rw [List.eq_of_mem_replicate hx]; rfl
      rw [e]
      refine k1 ⟨c1, by omega, by omega, fun B hB => ?_⟩ _ (t1.new hD _)
      obtain ⟨j, hj⟩ := List.mem_iff_getElem?.mp hB
      have := (List.getElem?_eq_some_iff.mp hj).1
      exact t3 j (by omega) B hj
def sp_flow_of (K : PySem.W.Frag) (f : Nat → Addr) : Sp := fun vs H Q E => ∃ m l xs as, vs = [.int m, .ref l] ∧ Arcs H l xs as ∧ as.length ≤ 1000 ∧ ¬ NetOk m as ∧ ∀ H', Same H H' → E (.ref (f 3)) none H'
theorem ok_flow_of (T : Txt K mg f fd) : FnOk P w K mg base (CXE P w) 3 (f 18) (fd 18) ["many", "arcs"] (sp_flow_of K f) := by
  refine T.d_flow_of.F.okX sc_flow_of (fun vs H Q E h => ?_) (fun cdv A outer s H vs Q E hr h => ?_)
  · obtain ⟨m, l, xs, as, rfl, _⟩ := h
    rfl
  · obtain ⟨m, l, xs, as, rfl, hA, h1000, hn, k⟩ := h
    refine ⟨_, (pss_cons (ps_expr (pe_defX told_cx T.d_asked_net (ok_asked_net T) (hr.mono (by decide)) rfl (by decide) rfl (pal rfl (pvl 0) (pal rfl (pvl 1) pa_nil))))
     pss_stop), ?_⟩
    walk_at "dc"
    exact ⟨m, l, xs, as, rfl, hA, h1000, fun z => absurd z hn, fun _ => k⟩
def sp_asked_flow (K : PySem.W.Frag) (f : Nat → Addr) : Sp := fun vs H Q E => ∃ m l xs as v, vs = [.int m, .ref l, v] ∧ Arcs H l xs as ∧ as.length ≤ 1000 ∧ ¬ NetOk m as ∧ ∀ H', Same H H' → E (.ref (f 3)) none H'
theorem ok_asked_flow (T : Txt K mg f fd) : FnOk P w K mg base (CXE P w) 3 (f 19) (fd 19) ["many", "arcs", "flow"] (sp_asked_flow K f) := by
  refine T.d_asked_flow.F.okX sc_asked_flow (fun vs H Q E h => ?_) (fun cdv A outer s H vs Q E hr h => ?_)
  · obtain ⟨m, l, xs, as, v, rfl, _⟩ := h
    rfl
  · obtain ⟨m, l, xs, as, v, rfl, hA, h1000, hn, k⟩ := h
    refine ⟨_, (pss_cons (ps_expr (pe_defX told_cx T.d_asked_net (ok_asked_net T) (hr.mono (by decide)) rfl (by decide) rfl (pal rfl (pvl 0) (pal rfl (pvl 1) pa_nil))))
     pss_stop), ?_⟩
    walk_at "dc"
    exact ⟨m, l, xs, as, rfl, hA, h1000, fun z => absurd z hn, fun _ => k⟩
def sp_greatest_on (K : PySem.W.Frag) (f : Nat → Addr) : Sp := fun vs H Q E => ∃ m l xs as v u, vs = [.int m, .ref l, v, u] ∧ Arcs H l xs as ∧ as.length ≤ 1000 ∧ ¬ NetOk m as ∧ ∀ H', Same H H' → E (.ref (f 3)) none H'
theorem ok_greatest_on (T : Txt K mg f fd) : FnOk P w K mg base (CXE P w) 4 (f 22) (fd 22) ["many", "arcs", "flow", "at"] (sp_greatest_on K f) := by
  refine T.d_greatest_on.F.okX sc_greatest_on (fun vs H Q E h => ?_) (fun cdv A outer s H vs Q E hr h => ?_)
  · obtain ⟨m, l, xs, as, v, u, rfl, _⟩ := h
    rfl
  · obtain ⟨m, l, xs, as, v, u, rfl, hA, h1000, hn, k⟩ := h
    refine ⟨_, (pss_cons (ps_expr (pe_defX told_cx T.d_asked_flow (ok_asked_flow T) (hr.mono (by decide)) rfl (by decide) rfl (pal rfl (pvl 0) (pal rfl (pvl 1) (pal rfl (pvl 2) pa_nil)))))
     pss_stop), ?_⟩
    walk_at "dc"
    exact ⟨m, l, xs, as, v, rfl, hA, h1000, hn, k⟩
def sp_least_on (K : PySem.W.Frag) (f : Nat → Addr) : Sp := sp_greatest_on K f
theorem ok_least_on (T : Txt K mg f fd) : FnOk P w K mg base (CXE P w) 4 (f 23) (fd 23) ["many", "arcs", "flow", "at"] (sp_least_on K f) := by
  refine T.d_least_on.F.okX sc_least_on (fun vs H Q E h => ?_) (fun cdv A outer s H vs Q E hr h => ?_)
  · obtain ⟨m, l, xs, as, v, u, rfl, _⟩ := h
    rfl
  · obtain ⟨m, l, xs, as, v, u, rfl, hA, h1000, hn, k⟩ := h
    refine ⟨_, (pss_cons (ps_expr (pe_defX told_cx T.d_asked_flow (ok_asked_flow T) (hr.mono (by decide)) rfl (by decide) rfl (pal rfl (pvl 0) (pal rfl (pvl 1) (pal rfl (pvl 2) pa_nil)))))
     pss_stop), ?_⟩
    walk_at "dc"
    exact ⟨m, l, xs, as, v, rfl, hA, h1000, hn, k⟩
def sp_l_draw (K : PySem.W.Frag) : Sp := fun vs H Q _ => ∃ (a : Addr) (ns : List Int) (k m : Int), vs = [.ref a, .int k, .int m] ∧ SqL K H a (ns.map V.int) ∧ 0 ≤ k ∧ k < 1000000 ∧ 0 < m ∧ ∀ v, 0 ≤ v → v < m → Q (.int v) H
theorem ok_l_draw (T : Txt K mg f fd) : FnOk P w K mg base CX0 1 (f 25) (fd 25) ["_law_script", "_law_k", "_law_many"] (sp_l_draw K) := by
  refine T.d_l_draw.F.ok sc_l_draw (fun vs H Q E h => ?_) (fun cdv A outer s H vs Q E hr h => ?_)
  · obtain ⟨a, ns, k, m, rfl, _⟩ := h
    rfl
  · obtain ⟨a, ns, i, m, rfl, hs, h0, h1, hm, k⟩ := h
    refine ⟨_, (pss_cons (ps_if (pt_cmpR op_lt (pvl 1) (pe_cB (k_len rfl) T.n_len bt_len rfl (by decide) (by decide) rfl (pal rfl (pvl 0) pa_nil)) (nomark _))
     (pss_one (ps_ret (pe_op op_mod (pe_ix (k_ixL rfl) (pvl 0) (pvl 1) (fun _ _ => rfl)) (pvl 2))))
     pss_nil)
     (pss_cons (psl 3 sc_l_draw.nd (pe_op op_add (pe_op op_mul (pvl 1) (pvl 1)) pe_int))
     (pss_cons (ps_if (pt_cmpR op_gt (pe_cB (k_len rfl) T.n_len bt_len rfl (by decide) (by decide) rfl (pal rfl (pvl 0) pa_nil)) pe_int (nomark _))
     (pss_one (psl 3 sc_l_draw.nd (pe_op op_add (pvl 3) (pe_op op_mod (pe_ix (k_ixL rfl) (pvl 0) (pe_op op_mod (pvl 1) (pe_cB (k_len rfl) T.n_len bt_len rfl (by decide) (by decide) rfl (pal rfl (pvl 0) pa_nil))) (fun _ _ => rfl)) pe_int))))
     pss_nil)
     (pss_one (ps_ret (pe_op op_mod (pe_op op_mod (pe_op op_mul (pe_op op_add (pe_op op_mod (pe_op op_mul (pvl 3) pe_int) pe_int) pe_int) pe_int) pe_int) (pvl 2))))))), ?_⟩
    walk_at "dc"
    have cm : ∀ x : Int, 0 ≤ x % m ∧ x % m < m := fun x => ⟨Int.emod_nonneg _ (by omega), Int.emod_lt_of_pos _ hm⟩
    have fin : ∀ x : Int, Q (V.int (x % m)) H := fun x => k _ (cm x).1 (cm x).2
    refine ⟨_, .inl hs, ?_⟩
    rw [List.length_map]
    by_cases c : i < (ns.length : Int)
    · rw [if_pos (decide_eq_true c)]
      obtain ⟨j, rfl⟩ : ∃ j : Nat, i = (j : Int) := ⟨i.toNat, by omega⟩
      have hj : j < ns.length := by omega
      exact ⟨a, _, _, .int ns[j], rfl, rfl, hs, atI_nat (by rw [List.getElem?_map, List.getElem?_eq_getElem hj]; rfl), _, rfl, hm, fin _⟩
    · rw [if_neg (by simpa using c)]
      refine ⟨.inl ⟨by omega, by omega⟩, _, .inl hs, ?_⟩
      rw [List.length_map]
      have c48 : ∀ x : Int, CMul x 48271 := fun x => .inr ⟨by decide, by decide⟩
      have c40 : ∀ x : Int, CMul x 40692 := fun x => .inr ⟨by decide, by decide⟩
      by_cases c0 : (0 : Int) < (ns.length : Int)
      · rw [if_pos (decide_eq_true c0)]
        refine ⟨_, .inl hs, ?_⟩
        rw [List.length_map]
        refine ⟨c0, ?_⟩
        have b1 := Int.emod_nonneg i (show (ns.length : Int) ≠ 0 by omega)
        have b2 := Int.emod_lt_of_pos i c0
        obtain ⟨j, hj'⟩ : ∃ j : Nat, i % (ns.length : Int) = (j : Int) := ⟨(i % (ns.length : Int)).toNat, by omega⟩
        rw [hj'] at b2 ⊢
        have hj : j < ns.length := by omega
        exact ⟨a, _, _, .int ns[j], rfl, rfl, hs, atI_nat (by rw [List.getElem?_map, List.getElem?_eq_getElem hj]; rfl), _, rfl, by decide, c48 _, by decide, c40 _, by decide, hm, fin _⟩
      · rw [if_neg (by simpa using c0)]
        exact ⟨c48 _, by decide, c40 _, by decide, hm, fin _⟩
theorem other_ok {n one d : Int} (h0 : 0 ≤ one) (h1 : one < n) (h2 : 0 ≤ d) (h3 : d < n - 1) : 0 ≤ (one + 1 + d) % n ∧ (one + 1 + d) % n < n ∧ one ≠ (one + 1 + d) % n := by
  refine ⟨Int.emod_nonneg _ (by omega), Int.emod_lt_of_pos _ (by omega), ?_⟩
  by_cases c : one + 1 + d < n
  · rw [Int.emod_eq_of_lt (by omega) c]
    omega
  · have e : (one + 1 + d) % n = one + 1 + d - n := by
      rw [← Int.sub_emod_right, Int.emod_eq_of_lt (by omega) (by omega)]
    rw [e]
    omega
theorem Arcs.snoc {H : Hp} {p q : Addr} {xs : List V} {as : List Arc} {A : Arc} (h : Arcs H p xs as) (hq : H q = none) : Arcs (upd (upd H q (.tup A.vs)) p (.lst (xs ++ [.ref q]))) p (xs ++ [.ref q]) (as ++ [A]) := by
  obtain ⟨h1, h2, h3⟩ := h
  refine ⟨upd_same, by simp [h2], fun i x B hx hB => ?_⟩
  have nq : q ≠ p := fun e => by rw [e, h1] at hq; cases hq
  by_cases hi : i < xs.length
  · rw [List.getElem?_append_left hi] at hx
    rw [List.getElem?_append_left (by omega)] at hB
    obtain ⟨r, e, g⟩ := h3 i x B hx hB
    have n1 : r ≠ p := fun z => by rw [z, h1] at g; cases g
    have n2 : r ≠ q := fun z => by rw [z, hq] at g; cases g
    exact ⟨r, e, by rw [upd_ne n1, upd_ne n2]; exact g⟩
  · have hil := (List.getElem?_eq_some_iff.mp hx).1
    rw [List.length_append, List.length_singleton] at hil
    obtain rfl : i = xs.length := by omega
    rw [List.getElem?_append_right (Nat.le_refl _), Nat.sub_self] at hx
    rw [List.getElem?_append_right (by omega), h2, Nat.sub_self] at hB
    obtain rfl : V.ref q = x := by simpa using hx
    obtain rfl : A = B := by simpa using hB
    exact ⟨q, rfl, by rw [upd_ne nq, upd_same]⟩
def sp_l_arcs (K : PySem.W.Frag) : Sp := fun vs H Q _ => ∃ (a : Addr) (ns : List Int) (n unit : Int) (sz : Nat), vs = [.ref a, .int n, .int sz, .int unit] ∧ SqL K H a (ns.map V.int) ∧ 1 ≤ n ∧ n ≤ 120 ∧ sz ≤ 300 ∧ (sz = 0 ∨ 2 ≤ n) ∧ 0 ≤ unit ∧
  ∀ H' l xs as, Same H H' → Arcs H' l xs as → NetOk n as → Q (.ref l) H'
theorem ok_l_arcs (T : Txt K mg f fd) : FnOk P w K mg base CX0 2 (f 26) (fd 26) ["_law_script", "_law_nodes", "_law_size", "_law_unit"] (sp_l_arcs K) := by
  refine T.d_l_arcs.F.ok sc_l_arcs (fun vs H Q E h => ?_) (fun cdv A outer s H vs Q E hr h => ?_)
  · obtain ⟨a, ns, n, unit, sz, rfl, _⟩ := h
    rfl
  · obtain ⟨a, ns, n, unit, sz, rfl, hs, h1, h2, h3, h4, h5, k⟩ := h
    refine ⟨_, (pss_cons (psl 4 sc_l_arcs.nd (pe_lst pa_nil))
     (pss_cons (ps_for PassesOwn.never rfl (pi_range1 rfl T.n_range (pal rfl (pvl 2) pa_nil)) (pgl 5 sc_l_arcs.nd)
     (pss_cons (psl 6 sc_l_arcs.nd (pe_defL T.d_l_draw (ok_l_draw T) (hr.mono (by decide)) rfl (by decide) rfl (pal rfl (pvl 0) (pal rfl (pe_op op_add pe_int (pe_op op_mul pe_int (pvl 5))) (pal rfl (pvl 1) pa_nil)))))
     (pss_cons (psl 7 sc_l_arcs.nd (pe_op op_mod (pe_op op_add (pe_op op_add (pvl 6) pe_int) (pe_defL T.d_l_draw (ok_l_draw T) (hr.mono (by decide)) rfl (by decide) rfl (pal rfl (pvl 0) (pal rfl (pe_op op_add pe_int (pe_op op_mul pe_int (pvl 5))) (pal rfl (pe_op op_sub (pvl 1) pe_int) pa_nil))))) (pvl 1)))
     (pss_cons (psl 8 sc_l_arcs.nd (pe_op op_mul (pe_defL T.d_l_draw (ok_l_draw T) (hr.mono (by decide)) rfl (by decide) rfl (pal rfl (pvl 0) (pal rfl (pe_op op_add pe_int (pe_op op_mul pe_int (pvl 5))) (pal rfl pe_int pa_nil)))) (pvl 3)))
     (pss_one (ps_expr (k_bmL rfl PySem.F.plainAttrs_list PySem.F.slot_list_append PySem.F.type_list_append mt_append rfl rfl rfl rfl (pvl 4) (pal rfl (pe_tup (pal rfl (pvl 6) (pal rfl (pvl 7) (pal rfl (pvl 8) (pal rfl (pe_op op_add (pvl 8) (pe_op op_mul (pe_defL T.d_l_draw (ok_l_draw T) (hr.mono (by decide)) rfl (by decide) rfl (pal rfl (pvl 0) (pal rfl (pe_op op_add pe_int (pe_op op_mul pe_int (pvl 5))) (pal rfl pe_int pa_nil)))) (pvl 3))) pa_nil))))) pa_nil))))))))
     (pss_one (ps_ret (pvl 4))))), ?_⟩
    walk_at "dc"
    refine ⟨Nat.zero_le _, fun p hp => ?_⟩
    have s1 := Same.upd_new hp (HO.lst [])
    have g1 : upd H p (HO.lst []) p = some (.lst []) := upd_same
    generalize upd H p (HO.lst []) = H1 at *
    refine for_in ?_
    walk_at "dc"
    refine ⟨by omega, by omega, ?_⟩
    rw [Int.toNat_natCast]
    refine ForW.of walk_range (fun j σ H' => (∃ v5 v6 v7 v8, σ = [some (V.ref a), some (V.int n), some (V.int (sz : Int)), some (V.int unit), some (V.ref p), v5, v6, v7, v8]) ∧ Same H H' ∧ ∃ xs as, Arcs H' p xs as ∧ as.length = j ∧ ∀ A ∈ as, A.Ok n) ⟨⟨none, none, none, none, rfl⟩, s1, [], [], ⟨g1, rfl, fun i x A h => by simp at h⟩, rfl, fun _ h => nomatch h⟩ (fun _ _ _ _ _ => trivial) ?_ ?_
    · rintro j x σ H2 hx ⟨⟨v5, v6, v7, v8, rfl⟩, s2, xs, as, hA, hlj, hok⟩
      obtain ⟨hj, rfl⟩ := range_item hx
      walk_at "dc"
      have hs2 := s2.seq hs
      have hn2 : 2 ≤ n := by omega
      have c4 : CMul 4 (0 + (j : Int)) := .inl ⟨by decide, by decide⟩
      refine ⟨c4, a, ns, _, _, rfl, hs2, by omega, by omega, by omega, fun one o1 o2 => ⟨one, rfl, c4, a, ns, _, _, rfl, hs2, by omega, by omega, by omega, fun d d1 d2 => ⟨d, rfl, by omega, c4, a, ns, _, _, rfl, hs2, by omega, by omega, by decide, fun l l1 l2 => ⟨l, rfl, .inl ⟨by omega, by omega⟩, .inl ⟨rfl, _, .of hA.1⟩, c4, a, ns, _, _, rfl, hs2, by omega, by omega, by decide, fun u u1 u2 => ⟨u, rfl, .inl ⟨by omega, by omega⟩, small_line (by decide), fun q hq => ?_⟩⟩⟩⟩⟩
      obtain ⟨b1, b2, b3⟩ := other_ok o1 o2 d1 d2
      have np : p ≠ q := fun e => by rw [← e, hA.1] at hq; cases hq
      have m1 : 0 ≤ l * unit := Int.mul_nonneg l1 h5
      have m2 : 0 ≤ u * unit := Int.mul_nonneg u1 h5
      have hxl := hA.2.1
      have hA2 := hA.snoc (A := ⟨one, (one + 1 + d) % n, l * unit, l * unit + u * unit⟩) hq
      refine ⟨p, xs, _, rfl, rfl, by rw [upd_ne np]; exact hA.1, by rw [sizeLine_eq]; omega, ⟨_, rfl⟩, (s2.new hq _).set hp _, _, _, hA2, by simp [hlj], fun B hB => ?_⟩
      rcases List.mem_append.mp hB with hB | hB
      · exact hok B hB
      · rw [List.mem_singleton.mp hB]
        exact ⟨o1, o2, b1, b2, b3, m1, by show l * unit ≤ l * unit + u * unit; omega⟩
    · rintro σ H2 ⟨⟨v5, v6, v7, v8, rfl⟩, s2, xs, as, hA, hlj, hok⟩
      rw [rangeV_len] at hlj
      walk_at "dc"
      exact k _ p xs as s2 hA ⟨h1, h2, by omega, hok⟩
theorem arcs_ex {H : Hp} : ∀ (xs : List V), (∀ x ∈ xs, ∃ p A, x = .ref p ∧ H p = some (.tup (Arc.vs A))) → ∃ as : List Arc, xs.length = as.length ∧ ∀ (i : Nat) x A, xs[i]? = some x → as[i]? = some A → ∃ p, x = .ref p ∧ H p = some (.tup A.vs)
  | [], _ => ⟨[], rfl, fun i x A h => by simp at h⟩
  | x :: xs, h => by
    obtain ⟨as, h1, h2⟩ := arcs_ex xs fun y hy => h y (List.mem_cons_of_mem _ hy)
    obtain ⟨p, A, rfl, hp⟩ := h x List.mem_cons_self
    refine ⟨A :: as, by simp [h1], fun i y B hy hB => ?_⟩
    cases i with
    | zero =>
      obtain rfl : V.ref p = y := by simpa using hy
      obtain rfl : A = B := by simpa using hB
      exact ⟨p, rfl, hp⟩
    | succ i => exact h2 i y B (by simpa using hy) (by simpa using hB)
theorem Arc.inj {A B : Arc} (h : A.vs = B.vs) : A = B := by
  obtain ⟨a, b, c, d⟩ := A
  obtain ⟨e, f, g, i⟩ := B
  simpa [Arc.vs] using h
theorem cutV_mem {xs : List V} {lo hi : Option Int} {x : V} (h : x ∈ cutV xs lo hi) : x ∈ xs := by
  unfold cutV at h
  exact List.mem_of_mem_drop (List.mem_of_mem_take h)
def sp_l_spoilt (K : PySem.W.Frag) : Sp := fun vs H Q _ => ∃ (a : Addr) (ns : List Int) (n : Int) (l : Addr) (xs : List V) (as : List Arc), vs = [.ref a, .int n, .ref l] ∧ SqL K H a (ns.map V.int) ∧ Arcs H l xs as ∧ NetOk n as ∧
  ∀ H' p m' l' xs' as', Same H H' → H' p = some (.tup [.int m', .ref l']) → Arcs H' l' xs' as' → ¬ NetOk m' as' → as'.length ≤ 301 → Q (.ref p) H'
theorem ok_l_spoilt (T : Txt K mg f fd) : FnOk P w K mg base CX0 2 (f 27) (fd 27) ["_law_script", "_law_nodes", "_law_arcs_here"] (sp_l_spoilt K) := by
  refine T.d_l_spoilt.F.ok sc_l_spoilt (fun vs H Q E h => ?_) (fun cdv A outer s H vs Q E hr h => ?_)
  · obtain ⟨a, ns, n, l, xs, as, rfl, _⟩ := h
    rfl
  · obtain ⟨a, ns, n, l, xs, as, rfl, hs, hA, hN, k⟩ := h
    refine ⟨_, (pss_cons (psl 3 sc_l_spoilt.nd (pe_defL T.d_l_draw (ok_l_draw T) (hr.mono (by decide)) rfl (by decide) rfl (pal rfl (pvl 0) (pal rfl pe_int (pal rfl pe_int pa_nil)))))
     (pss_cons (ps_if (PW.pt (pw_or (pt_cmpR op_lt (pvl 3) pe_int (nomark _)) (pw_or1 (pt_cmpR op_eq (pe_cB (k_len rfl) T.n_len bt_len rfl (by decide) (by decide) rfl (pal rfl (pvl 2) pa_nil)) pe_int (nomark _)))))
     (pss_one (ps_ret (pe_tup (pal rfl (pe_ix (k_ixL rfl) (pe_lst (pal rfl pe_int (pal rfl pe_int (pal rfl (pe_op op_sub pe_int (pe_op op_pow pe_int pe_int)) pa_nil)))) (pe_op op_mod (pvl 3) pe_int) (fun _ _ => rfl)) (pal rfl (pvl 2) pa_nil)))))
     pss_nil)
     (pss_cons (ps_if (pt_cmpR op_eq (pvl 3) pe_int (nomark _))
     (pss_one (ps_ret (pe_tup (pal rfl (pvl 1) (pal rfl (pe_slice (k_slL rfl) (pe_op op_rep (pvl 2) pe_int) po_none (po_some pe_int)) pa_nil)))))
     pss_nil)
     (pss_cons (psl 4 sc_l_spoilt.nd (pe_defL T.d_l_draw (ok_l_draw T) (hr.mono (by decide)) rfl (by decide) rfl (pal rfl (pvl 0) (pal rfl pe_int (pal rfl (pe_cB (k_len rfl) T.n_len bt_len rfl (by decide) (by decide) rfl (pal rfl (pvl 2) pa_nil)) pa_nil)))))
     (pss_cons (ps_asg (pe_ix (k_ixL rfl) (pvl 2) (pvl 4) (fun _ _ => rfl)) (k_pgT rfl rfl (pgs_cons (pgl 5 sc_l_spoilt.nd) (pgs_cons (pgl 6 sc_l_spoilt.nd) (pgs_cons (pgl 7 sc_l_spoilt.nd) (pgs_cons (pgl 8 sc_l_spoilt.nd) pgs_nil))))))
     (pss_cons (psl 9 sc_l_spoilt.nd (pe_ix (k_ixL rfl) (pe_lst (pal rfl (pe_un un_neg pe_int) (pal rfl (pvl 1) (pal rfl (pe_op op_pow pe_int pe_int) (pal rfl (pe_op op_sub pe_int (pe_op op_pow pe_int pe_int)) pa_nil))))) (pe_defL T.d_l_draw (ok_l_draw T) (hr.mono (by decide)) rfl (by decide) rfl (pal rfl (pvl 0) (pal rfl pe_int (pal rfl pe_int pa_nil)))) (fun _ _ => rfl)))
     (pss_cons (psl 10 sc_l_spoilt.nd (pe_tup (pal rfl (pvl 9) (pal rfl (pvl 6) (pal rfl (pvl 7) (pal rfl (pvl 8) pa_nil))))))
     (pss_cons (ps_if (PW.pt (pw_or (pt_cmpR op_eq (pvl 3) pe_int (nomark _)) (pw_or1 (pt_cmpR op_eq (pvl 3) pe_int (nomark _)))))
     (pss_one (psl 10 sc_l_spoilt.nd (pe_tup (pal rfl (pvl 5) (pal rfl (pvl 9) (pal rfl (pvl 7) (pal rfl (pvl 8) pa_nil)))))))
     pss_nil)
     (pss_cons (ps_if (pt_cmpR op_eq (pvl 3) pe_int (nomark _))
     (pss_one (psl 10 sc_l_spoilt.nd (pe_tup (pal rfl (pvl 5) (pal rfl (pvl 5) (pal rfl (pvl 7) (pal rfl (pvl 8) pa_nil)))))))
     pss_nil)
     (pss_cons (ps_if (pt_cmpR op_eq (pvl 3) pe_int (nomark _))
     (pss_one (psl 10 sc_l_spoilt.nd (pe_tup (pal rfl (pvl 5) (pal rfl (pvl 6) (pal rfl (pe_un un_neg pe_int) (pal rfl (pvl 8) pa_nil)))))))
     pss_nil)
     (pss_cons (ps_if (pt_cmpR op_eq (pvl 3) pe_int (nomark _))
     (pss_one (psl 10 sc_l_spoilt.nd (pe_tup (pal rfl (pvl 5) (pal rfl (pvl 6) (pal rfl (pe_op op_sub pe_int (pe_op op_pow pe_int pe_int)) (pal rfl (pvl 8) pa_nil)))))))
     pss_nil)
     (pss_cons (ps_if (pt_cmpR op_gt (pvl 3) pe_int (nomark _))
     (pss_one (psl 10 sc_l_spoilt.nd (pe_tup (pal rfl (pvl 5) (pal rfl (pvl 6) (pal rfl (pe_op op_add (pvl 7) pe_int) (pal rfl (pvl 7) pa_nil)))))))
     pss_nil)
     (pss_one (ps_ret (pe_tup (pal rfl (pvl 1) (pal rfl (pe_op op_cat (pe_op op_cat (pe_slice (k_slL rfl) (pvl 2) po_none (po_some (pvl 4))) (pe_lst (pal rfl (pvl 10) pa_nil))) (pe_slice (k_slL rfl) (pvl 2) (po_some (pe_op op_add (pvl 4) pe_int)) po_none)) pa_nil))))))))))))))))), ?_⟩
    generalize hB1 : tSeq (tIfS (tTest (tOp _ (tVar 3) (tC (V.int 3)))) _ _) _ = B1
    walk_at "dc"
    refine ⟨a, ns, _, _, rfl, hs, by decide, by decide, by decide, fun way w1 w2 => ?_⟩
    refine ⟨way, rfl, ?_⟩
    have ret1 : CPow 10 30 ∧ 3 ≤ sizeLine ∧ ∀ (p : Addr), H p = none → ∃ i, V.int way = V.int i ∧ (0 : Int) < 3 ∧ rIxL K (V.ref p) (V.int (i % 3)) (upd H p (HO.lst [V.int 0, V.int 121, V.int (0 - 10 ^ Int.toNat 30)])) fun x H1 => 2 ≤ sizeLine ∧ ∀ (p : Addr), H1 p = none → Q (V.ref p) (upd H1 p (HO.tup [x, V.ref l])) := by
      refine ⟨⟨by decide, by decide, by decide⟩, small_line (by decide), fun p hp => ⟨way, rfl, by decide, ?_⟩⟩
      have u := Same.upd_new hp (HO.lst [V.int 0, V.int 121, V.int (0 - 10 ^ Int.toNat 30)])
      have gp : upd H p (HO.lst [V.int 0, V.int 121, V.int (0 - 10 ^ Int.toNat 30)]) p = some (.lst [V.int 0, V.int 121, V.int (0 - 10 ^ Int.toNat 30)]) := upd_same
      generalize upd H p (HO.lst [V.int 0, V.int 121, V.int (0 - 10 ^ Int.toNat 30)]) = H2 at *
      refine ixL_of (.of gp) (Int.emod_nonneg _ (by decide)) (Int.emod_lt_of_pos _ (by decide)) fun x hx => ⟨small_line (by decide), fun q hq => ?_⟩
      obtain ⟨m', rfl, hm'⟩ : ∃ m', x = .int m' ∧ ¬ (1 ≤ m' ∧ m' ≤ 120) := by
        rcases (by omega : way % 3 = 0 ∨ way % 3 = 1 ∨ way % 3 = 2) with h | h | h <;> rw [h] at hx
        · exact ⟨_, (Option.some.inj hx).symm, by decide⟩
        · exact ⟨_, (Option.some.inj hx).symm, by decide⟩
        · exact ⟨_, (Option.some.inj hx).symm, by decide +kernel⟩
      exact k _ q m' l xs as (u.new hq _) upd_same (hA.mono (u.new hq _)) (fun z => hm' ⟨z.1, z.2.1⟩) (by have := hN.2.2.1; omega)
    by_cases c1 : way < 3
    · rw [if_pos (decide_eq_true c1)]
      exact ret1
    rw [if_neg (by simpa using c1)]
    refine ⟨_, .inl (.of hA.1), ?_⟩
    have hxl := hA.2.1
    have hl3 := hN.2.2.1
    by_cases c2 : xs.length = 0
    · rw [if_pos (decide_eq_true (by omega))]
      exact ret1
    rw [if_neg (by simpa using c2)]
    by_cases c3 : way = 3
    · subst c3
      subst hB1
      walk_at "dl"
      have e301 : ((301 : Int).toNat) = 301 := rfl
      refine ⟨l, 301, xs, rfl, rfl, hA.1, by decide, by decide, by rw [sizeLine_eq, e301]; omega, fun p hp => ?_⟩
      have u := Same.upd_new hp (HO.lst (List.replicate (Int.toNat 301) xs).flatten)
      have gp : upd H p (HO.lst (List.replicate (Int.toNat 301) xs).flatten) p = some (.lst (List.replicate (Int.toNat 301) xs).flatten) := upd_same
      generalize upd H p (HO.lst (List.replicate (Int.toNat 301) xs).flatten) = H2 at *
      refine ⟨p, rfl, _, .of gp, fun q hq => ⟨small_line (by decide), fun r hr => ?_⟩⟩
      have u2 := (u.new hq (HO.lst (cutV (List.replicate (Int.toNat 301) xs).flatten none (some 301))))
      have gq : upd H2 q (HO.lst (cutV (List.replicate (Int.toNat 301) xs).flatten none (some 301))) q = some (.lst (cutV (List.replicate (Int.toNat 301) xs).flatten none (some 301))) := upd_same
      generalize upd H2 q (HO.lst (cutV (List.replicate (Int.toNat 301) xs).flatten none (some 301))) = H3 at *
      have u3 := u2.new hr (HO.tup [V.int n, V.ref q])
      have hmem : ∀ x ∈ cutV (List.replicate (Int.toNat 301) xs).flatten none (some 301), ∃ p A, x = .ref p ∧ upd H3 r (HO.tup [V.int n, V.ref q]) p = some (.tup (Arc.vs A)) := fun x hx => by
        have hx2 := cutV_mem hx
        obtain ⟨ys, hys, hxy⟩ := List.mem_flatten.mp hx2
        rw [List.eq_of_mem_replicate hys] at hxy
        obtain ⟨i, hi⟩ := List.mem_iff_getElem?.mp hxy
        obtain ⟨p', A', e1, _, e3⟩ := hA.at hi
        exact ⟨p', A', e1, u3 _ _ e3⟩
      obtain ⟨as', b1, b2⟩ := arcs_ex _ hmem
      have hlen : (cutV (List.replicate (Int.toNat 301) xs).flatten none (some 301)).length = 301 := by
        rw [show cutV (List.replicate (Int.toNat 301) xs).flatten none (some 301) = ((List.replicate (Int.toNat 301) xs).flatten).take 301 from cut_to _ 301, List.length_take, len_rep, e301]
        omega
      exact k _ r n q _ as' u3 upd_same ⟨(Same.upd_new hr _) _ _ gq, b1, b2⟩ (fun z => by have := z.2.2.1; omega) (by omega)
    generalize hB2 : tRet (tTup (tCons (tVar 1) (tCons (tOp rCat _ _) _))) = B2 at hB1
    generalize hB3 : tSeq (tIfS (tOr _ _) _ _) _ = B3 at hB1
    subst hB1
    walk_at "dl"
    rw [if_neg c3]
    refine ⟨_, .inl (.of hA.1), a, ns, _, _, rfl, hs, by decide, by decide, by omega, fun at0 a1 a2 => ?_⟩
    obtain ⟨t, rfl⟩ : ∃ t : Nat, at0 = (t : Int) := ⟨at0.toNat, by omega⟩
    have ht : t < xs.length := by omega
    have hx := List.getElem?_eq_getElem ht
    obtain ⟨p0, A0, e0, hAt, hp0⟩ := hA.at hx
    rw [e0] at hx
    refine ⟨l, xs, _, _, rfl, rfl, .of hA.1, atI_nat hx, p0, _, rfl, .of hp0, rfl, ?_⟩
    simp only [Arc.vs, gCons, gNil, gName]
    walk_at "dl"
    have fin2 : ∀ (G : Hp) (v3 v5 v6 v7 v8 v9 : Option V) (q : Addr) (bad : Arc), Same H G → G q = some (.tup bad.vs) → ¬ bad.Ok n → B2 { nx := fun x H' => Q V.non H', rt := Q } [some (V.ref a), some (V.int n), some (V.ref l), v3, some (V.int (t : Int)), v5, v6, v7, v8, v9, some (V.ref q)] G := by
      intro G v3 v5 v6 v7 v8 v9 q bad sG hq hbad
      subst hB2
      walk_at "dl"
      refine ⟨xs, .of (sG _ _ hA.1), fun r1 hr1 => ⟨small_line (by decide), fun r2 hr2 => ?_⟩⟩
      have v1 := sG.new hr1 (HO.lst (cutV xs none (some (t : Int))))
      have w1 := Same.upd_new hr1 (HO.lst (cutV xs none (some (t : Int))))
      have e1 : upd G r1 (HO.lst (cutV xs none (some (t : Int)))) r1 = some (.lst (cutV xs none (some (t : Int)))) := upd_same
      have hq1 := w1 _ _ hq
      generalize upd G r1 (HO.lst (cutV xs none (some (t : Int)))) = G1 at *
      have v2 := v1.new hr2 (HO.lst [V.ref q])
      have w2 := Same.upd_new hr2 (HO.lst [V.ref q])
      have e2 : upd G1 r2 (HO.lst [V.ref q]) r2 = some (.lst [V.ref q]) := upd_same
      have e1' := w2 _ _ e1
      have hq2 := w2 _ _ hq1
      generalize upd G1 r2 (HO.lst [V.ref q]) = G2 at *
      have et : cutV xs none (some (t : Int)) = xs.take t := cut_to _ _
      have ed : cutV xs (some ((t : Int) + 1)) none = xs.drop (t + 1) := cut_from xs (t + 1)
      have lt : (xs.take t).length = t := by rw [List.length_take]; omega
      have ld : (xs.drop (t + 1)).length = xs.length - (t + 1) := List.length_drop ..
      rw [et] at e1'
      refine ⟨r1, r2, _, _, rfl, rfl, e1', e2, by rw [lt]; exact small_line (by simp; omega), fun r3 hr3 => ⟨xs, .of ((v2.new hr3 _) _ _ hA.1), fun r4 hr4 => ?_⟩⟩
      rw [ed]
      have v3 := v2.new hr3 (HO.lst (xs.take t ++ [V.ref q]))
      have w3 := Same.upd_new hr3 (HO.lst (xs.take t ++ [V.ref q]))
      have e3 : upd G2 r3 (HO.lst (xs.take t ++ [V.ref q])) r3 = some (.lst (xs.take t ++ [V.ref q])) := upd_same
      have hq3 := w3 _ _ hq2
      generalize upd G2 r3 (HO.lst (xs.take t ++ [V.ref q])) = G3 at *
      have v4 := v3.new hr4 (HO.lst (xs.drop (t + 1)))
      have w4 := Same.upd_new hr4 (HO.lst (xs.drop (t + 1)))
      have e4 : upd G3 r4 (HO.lst (xs.drop (t + 1))) r4 = some (.lst (xs.drop (t + 1))) := upd_same
      have e3' := w4 _ _ e3
      have hq4 := w4 _ _ hq3
      generalize upd G3 r4 (HO.lst (xs.drop (t + 1))) = G4 at *
      refine ⟨r3, r4, _, _, rfl, rfl, e3', e4, by rw [List.length_append, lt, ld]; exact small_line (by simp; omega), fun r5 hr5 => ⟨small_line (by decide), fun r6 hr6 => ?_⟩⟩
      have v5 := v4.new hr5 (HO.lst (xs.take t ++ [V.ref q] ++ xs.drop (t + 1)))
      have w5 := Same.upd_new hr5 (HO.lst (xs.take t ++ [V.ref q] ++ xs.drop (t + 1)))
      have e5 : upd G4 r5 (HO.lst (xs.take t ++ [V.ref q] ++ xs.drop (t + 1))) r5 = some (.lst (xs.take t ++ [V.ref q] ++ xs.drop (t + 1))) := upd_same
      have hq5 := w5 _ _ hq4
      generalize upd G4 r5 (HO.lst (xs.take t ++ [V.ref q] ++ xs.drop (t + 1))) = G5 at *
      have v6 := v5.new hr6 (HO.tup [V.int n, V.ref r5])
      have w6 := Same.upd_new hr6 (HO.tup [V.int n, V.ref r5])
      have hmem : ∀ x ∈ xs.take t ++ [V.ref q] ++ xs.drop (t + 1), ∃ p A, x = .ref p ∧ upd G5 r6 (HO.tup [V.int n, V.ref r5]) p = some (.tup (Arc.vs A)) := fun x hx => by
        have old : x ∈ xs → ∃ p A, x = .ref p ∧ upd G5 r6 (HO.tup [V.int n, V.ref r5]) p = some (.tup (Arc.vs A)) := fun hx => by
          obtain ⟨i, hi⟩ := List.mem_iff_getElem?.mp hx
          obtain ⟨p', A', z1, _, z3⟩ := hA.at hi
          exact ⟨p', A', z1, v6 _ _ z3⟩
        rcases List.mem_append.mp hx with hx | hx
        · rcases List.mem_append.mp hx with hx | hx
          · exact old (List.mem_of_mem_take hx)
          · exact ⟨q, bad, List.mem_singleton.mp hx, w6 _ _ hq5⟩
        · exact old (List.mem_of_mem_drop hx)
      obtain ⟨as', b1, b2⟩ := arcs_ex _ hmem
      have b1' : as'.length = xs.length := by
        rw [← b1, List.length_append, List.length_append, lt, ld]
        simp
        omega
      refine k _ r6 n r5 _ as' v6 upd_same ⟨w6 _ _ e5, b1, b2⟩ (fun z => hbad ?_) (by omega)
      have hti : t < as'.length := by omega
      have hgt : (xs.take t ++ [V.ref q] ++ xs.drop (t + 1))[t]? = some (V.ref q) := by
        rw [List.getElem?_append_left (by rw [List.length_append, lt]; simp), List.getElem?_append_right (by omega), lt, Nat.sub_self]
        rfl
      obtain ⟨p', z1, z2⟩ := b2 t _ _ hgt (List.getElem?_eq_getElem hti)
      cases z1
      rw [w6 _ _ hq5] at z2
      have z3 : bad = as'[t] := Arc.inj (by injection z2 with z2; injection z2)
      rw [z3]
      exact z.2.2.2 _ (List.getElem_mem hti)
    refine ⟨⟨by decide, by decide, by decide⟩, ⟨by decide, by decide, by decide⟩, small_line (by decide), fun p1 hp1 => ?_⟩
    have u1 := Same.upd_new hp1 (HO.lst [V.int (-1), V.int n, V.int (10 ^ Int.toNat 30), V.int (0 - 10 ^ Int.toNat 30)])
    have g1 : upd H p1 (HO.lst [V.int (-1), V.int n, V.int (10 ^ Int.toNat 30), V.int (0 - 10 ^ Int.toNat 30)]) p1 = some (.lst [V.int (-1), V.int n, V.int (10 ^ Int.toNat 30), V.int (0 - 10 ^ Int.toNat 30)]) := upd_same
    generalize upd H p1 (HO.lst [V.int (-1), V.int n, V.int (10 ^ Int.toNat 30), V.int (0 - 10 ^ Int.toNat 30)]) = H1 at *
    refine ⟨a, ns, _, _, rfl, u1.seq hs, by decide, by decide, by decide, fun fi f1 f2 => ixL_of (.of g1) f1 f2 fun fv hfv => ⟨small_line (by decide), fun q0 hq0 => ?_⟩⟩
    have hn1 := hN.1
    have hn2 := hN.2.1
    obtain ⟨far, rfl, hfar⟩ : ∃ far, fv = .int far ∧ (far < 0 ∨ n ≤ far) := by
      rcases (by omega : fi = 0 ∨ fi = 1 ∨ fi = 2 ∨ fi = 3) with rfl | rfl | rfl | rfl
      · exact ⟨_, (Option.some.inj hfv).symm, .inl (by decide)⟩
      · exact ⟨_, (Option.some.inj hfv).symm, .inr (Int.le_refl _)⟩
      · refine ⟨_, (Option.some.inj hfv).symm, .inr ?_⟩
        have : (120 : Int) ≤ 10 ^ Int.toNat 30 := by decide +kernel
        omega
      · refine ⟨_, (Option.some.inj hfv).symm, .inl ?_⟩
        decide +kernel
    have u2 := u1.new hq0 (HO.tup [V.int far, V.int A0.b, V.int A0.l, V.int A0.u])
    generalize upd H1 q0 (HO.tup [V.int far, V.int A0.b, V.int A0.l, V.int A0.u]) = H2 at *
    rcases (by omega : way = 4 ∨ way = 5 ∨ way = 6 ∨ way = 7 ∨ way = 8 ∨ way = 9 ∨ way = 10 ∨ way = 11) with rfl | rfl | rfl | rfl | rfl | rfl | rfl | rfl
    all_goals subst hB3
    all_goals walk_at "dl"
    · refine ⟨small_line (by decide), fun q hq => fin2 _ _ _ _ _ _ _ q ⟨A0.a, far, A0.l, A0.u⟩ (u2.new hq _) upd_same fun z => ?_⟩
      have z3 := z.2.2.1
      have z4 := z.2.2.2.1
      simp only at z3 z4
      omega
    · refine ⟨small_line (by decide), fun q hq => fin2 _ _ _ _ _ _ _ q ⟨A0.a, far, A0.l, A0.u⟩ (u2.new hq _) upd_same fun z => ?_⟩
      have z3 := z.2.2.1
      have z4 := z.2.2.2.1
      simp only at z3 z4
      omega
    · exact ⟨small_line (by decide), fun q hq => fin2 _ _ _ _ _ _ _ q ⟨A0.a, A0.a, A0.l, A0.u⟩ (u2.new hq _) upd_same fun z => z.2.2.2.2.1 rfl⟩
    · refine ⟨small_line (by decide), fun q hq => fin2 _ _ _ _ _ _ _ q ⟨A0.a, A0.b, -1, A0.u⟩ (u2.new hq _) upd_same fun z => ?_⟩
      have z3 := z.2.2.2.2.2.1
      simp only at z3
      omega
    · refine ⟨⟨by decide, by decide, by decide⟩, small_line (by decide), fun q hq => fin2 _ _ _ _ _ _ _ q ⟨A0.a, A0.b, 0 - 10 ^ Int.toNat 30, A0.u⟩ (u2.new hq _) upd_same fun z => ?_⟩
      have z3 := z.2.2.2.2.2.1
      simp only at z3
      exact absurd z3 (by decide +kernel)
    all_goals
      refine ⟨small_line (by decide), fun q hq => fin2 _ _ _ _ _ _ _ q ⟨A0.a, A0.b, A0.l + 1, A0.l⟩ (u2.new hq _) upd_same fun z => ?_⟩
      have z3 := z.2.2.2.2.2.2
      simp only at z3
      omega
def sp_l_called (K : PySem.W.Frag) (f : Nat → Addr) : Sp := fun vs H Q E => ∃ (way m : Int) (l : Addr) (xs : List V) (as : List Arc), vs = [.int way, .int m, .ref l] ∧ Arcs H l xs as ∧ as.length ≤ 1000 ∧ ¬ NetOk m as ∧ ∀ H', Same H H' → E (.ref (f 3)) none H'
theorem ok_l_called (T : Txt K mg f fd) : FnOk P w K mg base (CXE P w) 5 (f 28) (fd 28) ["_law_way", "_law_nodes", "_law_arcs_here"] (sp_l_called K f) := by
  refine T.d_l_called.F.okX sc_l_called (fun vs H Q E h => ?_) (fun cdv A outer s H vs Q E hr h => ?_)
  · obtain ⟨way, m, l, xs, as, rfl, _⟩ := h
    rfl
  · obtain ⟨way, m, l, xs, as, rfl, hA, h1000, hn, k⟩ := h
    refine ⟨_, (pss_cons (ps_if (pt_cmpR op_eq (pvl 0) pe_int (nomark _))
     (pss_one (ps_ret (pe_defX told_cx T.d_asked_net (ok_asked_net T) (hr.mono (by decide)) rfl (by decide) rfl (pal rfl (pvl 1) (pal rfl (pvl 2) pa_nil)))))
     pss_nil)
     (pss_cons (ps_if (pt_cmpR op_eq (pvl 0) pe_int (nomark _))
     (pss_one (ps_ret (pe_defX told_cx T.d_flow_of (ok_flow_of T) (hr.mono (by decide)) rfl (by decide) rfl (pal rfl (pvl 1) (pal rfl (pvl 2) pa_nil)))))
     pss_nil)
     (pss_cons (ps_comp ["_law_arc"] ["_law_way", "_law_nodes", "_law_arcs_here", "_law_flow"] rfl (show CompSc _ (defScope s_l_called) ["_law_way", "_law_nodes", "_law_arcs_here", "_law_flow"] ["_law_way", "_law_nodes", "_law_arcs_here", "_law_flow"] from compOk_is (by decide +kernel)) sc_l_called.nd (i := 3) rfl rfl (k_piL rfl (pvl 2)) (fun _ _ _ _ _ => (pgl 0 (show (["_law_arc", "_law_way", "_law_nodes", "_law_arcs_here", "_law_flow"] : List Str).Nodup by decide +kernel))) (fun _ _ _ _ _ => pts_nil) (fun _ _ _ _ _ => (pe_ix (k_ixT rfl) (pvl 0) pe_int (fun _ _ => rfl))))
     (pss_cons (ps_if (pt_cmpR op_eq (pvl 0) pe_int (nomark _))
     (pss_one (ps_ret (pe_defX told_cx T.d_greatest_on (ok_greatest_on T) (hr.mono (by decide)) rfl (by decide) rfl (pal rfl (pvl 1) (pal rfl (pvl 2) (pal rfl (pvl 3) (pal rfl pe_int pa_nil)))))))
     pss_nil)
     (pss_one (ps_ret (pe_defX told_cx T.d_least_on (ok_least_on T) (hr.mono (by decide)) rfl (by decide) rfl (pal rfl (pvl 1) (pal rfl (pvl 2) (pal rfl (pvl 3) (pal rfl pe_int pa_nil))))))))))), ?_⟩
    walk_at "dl"
    by_cases c0 : way = 0
    · rw [if_pos c0]
      exact ⟨m, l, xs, as, rfl, hA, h1000, fun z => absurd z hn, fun _ => k⟩
    rw [if_neg c0]
    by_cases c1 : way = 1
    · rw [if_pos c1]
      exact ⟨m, l, xs, as, rfl, hA, h1000, hn, k⟩
    rw [if_neg c1]
    refine ⟨⟨_, .of hA.1⟩, ?_⟩
    have hxl := hA.2.1
    refine comp_walk (walk_list (xs := xs)) (small_line (by omega)) (fun i ys H' => Same H H' ∧ ys.length = i) ⟨Same.refl _, rfl⟩ (fun _ _ H' _ q => q.1.seq (.of hA.1)) (fun i ys H' q => Nat.le_of_eq q.2) (fun i x ys H3 hx q => ?_) (fun ys H3 q D hD => ?_)
    · obtain ⟨p, A', rfl, hAi, hp⟩ := hA.at hx
      unfold Arc.vs at hp
      walk_at "dl"
      exact ⟨p, _, _, _, rfl, rfl, .of (q.1 _ _ hp), atI_nat (j := 2) rfl, ⟨_, rfl⟩, q.1, by simp [q.2]⟩
    · have s4 := q.1.new hD (HO.lst ys)
      by_cases c2 : way = 2
      · rw [if_pos c2]
        exact ⟨m, l, xs, as, _, _, rfl, hA.mono s4, h1000, hn, fun H' s' => k H' (s4.trans s')⟩
      · rw [if_neg c2]
        exact ⟨m, l, xs, as, _, _, rfl, hA.mono s4, h1000, hn, fun H' s' => k H' (s4.trans s')⟩
def sp_l_refused (K : PySem.W.Frag) (f : Nat → Addr) : Sp := fun vs H Q _ => ∃ (way m : Int) (l : Addr) (xs : List V) (as : List Arc), vs = [.int way, .int m, .ref l] ∧ Arcs H l xs as ∧ as.length ≤ 1000 ∧ ¬ NetOk m as ∧ ∀ H', Same H H' → Q (.bl true) H'
theorem ok_l_refused (T : Txt K mg f fd) : FnOk P w K mg base CX0 6 (f 29) (fd 29) ["_law_way", "_law_nodes", "_law_arcs_here"] (sp_l_refused K f) := by
  refine T.d_l_refused.F.ok sc_l_refused (fun vs H Q E h => ?_) (fun cdv A outer s H vs Q E hr h => ?_)
  · obtain ⟨way, m, l, xs, as, rfl, _⟩ := h
    rfl
  · obtain ⟨way, m, l, xs, as, rfl, hA, h1000, hn, k⟩ := h
    refine ⟨_, (pss_cons (psl 3 sc_l_refused.nd (pe_tup pa_nil))
     (pss_cons (ps_try rfl rfl (fun _ _ _ => (pss_one (ps_expr (pe_defX (told_try rfl) T.d_l_called (ok_l_called T) (hr.mono (by decide)) rfl (by decide) rfl (pal rfl (pvl 0) (pal rfl (pvl 1) (pal rfl (pvl 2) pa_nil)))))))
     (ph_as rfl T.x_NoNet.m T.x_NoNet.x (by decide) sc_l_refused.nd (i := 4) rfl rfl (fun _ => (pss_cons (psl 5 sc_l_refused.nd (pe_cB (k_isXT rfl) T.n_isinstance bt_isinstance rfl (by decide) (by decide) rfl (pal rfl (pvl 4) (pal rfl (pe_tup (pal rfl (pgcl T.x_NoGroups.m rfl (by decide)) (pal rfl (pgcl T.x_NoHead.m rfl (by decide)) (pal rfl (pgcl T.x_NoSuch.m rfl (by decide)) (pal rfl (pgcl T.x_NoVeil.m rfl (by decide)) (pal rfl (pgcl T.x_NoWhole.m rfl (by decide)) pa_nil)))))) pa_nil))))
     (pss_one (psl 3 sc_l_refused.nd (pe_tup (pal rfl (pe_cB (k_isX rfl) T.n_isinstance bt_isinstance rfl (by decide) (by decide) rfl (pal rfl (pvl 4) (pal rfl (pgcl T.x_CrossError.m rfl (by decide)) pa_nil))) (pal rfl (pe_cB (k_isX rfl) T.n_isinstance bt_isinstance rfl (by decide) (by decide) rfl (pal rfl (pvl 4) (pal rfl (pty T.n_ValueError bt_ValueError) pa_nil))) (pal rfl (pvl 5) pa_nil))))))))
     ph_nil))
     (pss_one (ps_ret (pe_cmpR (k_eqD rfl hr.units) (pvl 3) (pe_tup (pal rfl pe_bl (pal rfl pe_bl (pal rfl pe_bl pa_nil)))) (nomark _)))))), ?_⟩
    walk_at "dl"
    refine ⟨Nat.zero_le _, fun p0 hp0 => ?_⟩
    have u0 := Same.upd_new hp0 (HO.tup [])
    generalize upd H p0 (HO.tup []) = H0 at *
    refine ⟨⟨_, rfl⟩, xs, as, hA.mono u0, h1000, hn, fun H1 s1 => ⟨f 3, rfl, ⟨_, T.x_NoNet.x⟩, ?_⟩⟩
    rw [if_pos T.su_NoNet_NoNet]
    intro x hx
    have u7 := (u0.trans s1).new hx (ExO x (Value.ref (f 3)) none)
    have xo : upd H1 x (ExO x (Value.ref (f 3)) none) x = some (ExO x (.ref (f 3)) none) := upd_same
    generalize upd H1 x (ExO x (Value.ref (f 3)) none) = H2 at *
    refine ⟨small_line (by decide), fun p hp => ?_⟩
    have u8 := u7.new hp (HO.tup [V.ref (f 5), V.ref (f 2), V.ref (f 6), V.ref (f 7), V.ref (f 4)])
    have xo8 := (Same.upd_new hp (HO.tup [V.ref (f 5), V.ref (f 2), V.ref (f 6), V.ref (f 7), V.ref (f 4)])) _ _ xo
    have gp : upd H2 p (HO.tup [V.ref (f 5), V.ref (f 2), V.ref (f 6), V.ref (f 7), V.ref (f 4)]) p = some (HO.tup ([f 5, f 2, f 6, f 7, f 4].map V.ref)) := upd_same
    generalize upd H2 p (HO.tup [V.ref (f 5), V.ref (f 2), V.ref (f 6), V.ref (f 7), V.ref (f 4)]) = H3 at *
    refine ⟨x, p, f 3, none, false, [f 5, f 2, f 6, f 7, f 4], rfl, xo8, .inl rfl, T.x_NoNet.xc, .of gp, ?_, x, f 3, none, xo8, .inl rfl, T.x_NoNet.xc, rfl, _, T.ki_NoNet_CrossError, x, f 3, none, xo8, .inl rfl, T.x_NoNet.xc, rfl, _, T.kv_NoNet, small_line (by decide), fun q hq => ⟨small_line (by decide), fun r hr => ?_⟩⟩
    · simp only [List.map_cons, List.map_nil, PySem.W.kitAny, T.ki_NoNet_NoGroups, T.ki_NoNet_NoHead, T.ki_NoNet_NoSuch, T.ki_NoNet_NoVeil, T.ki_NoNet_NoWhole]
    · have u9 := u8.new hq (HO.tup [V.bl true, V.bl true, V.bl false])
      have gq : upd H3 q (HO.tup [V.bl true, V.bl true, V.bl false]) q = some (HO.tup [V.bl true, V.bl true, V.bl false]) := upd_same
      generalize upd H3 q (HO.tup [V.bl true, V.bl true, V.bl false]) = H4 at *
      have rep : ∀ (G : Hp) c, G c = some (HO.tup [V.bl true, V.bl true, V.bl false]) → Rep K G (.tuple [.bool true, .bool true, .bool false]) (.ref c) := fun G c hc => by
        simp only [Rep]; exact ⟨c, _, rfl, .of hc, by simp [Reps, Rep]⟩
      have sh : SeqAt.shaped (.tuple [.bool true, .bool true, .bool false]) = true := by decide
      refine ⟨_, _, rep _ q ((Same.upd_new hr _) _ _ gq), rep _ r upd_same, sh, sh, ?_⟩
      have e : PyData.eqv (.tuple [.bool true, .bool true, .bool false]) (.tuple [.bool true, .bool true, .bool false]) = true := by decide
      rw [e]
      exact k _ (u9.new hr _)
theorem arcs_data {K : PySem.W.Frag} {H : Hp} : ∀ (xs : List V), (∀ x ∈ xs, ∃ p A, x = .ref p ∧ H p = some (.tup (Arc.vs A))) → ∃ ds, Reps K H ds xs ∧ PyData.canLayAll0 ds = true ∧ PyData.depthAll ds ≤ 1 ∧ PyData.eqvAll ds ds = true
  | [], _ => ⟨[], by simp [Reps], by simp [PyData.canLayAll0], by simp [PyData.depthAll], by simp [PyData.eqvAll]⟩
  | x :: xs, h => by
    obtain ⟨ds, h1, h2, h3, h4⟩ := arcs_data (K := K) (H := H) xs (fun u hu => h u (List.mem_cons_of_mem _ hu))
    obtain ⟨p, A, rfl, hp⟩ := h x List.mem_cons_self
    refine ⟨.tuple [.int A.a, .int A.b, .int A.l, .int A.u] :: ds, ?_, ?_, ?_, ?_⟩
    · simp only [Reps]
      exact ⟨_, _, rfl, by simp only [Rep]; exact ⟨p, _, rfl, .of hp, by simp [Reps, Rep, Arc.vs]⟩, h1⟩
    · simp [PyData.canLayAll0, PyData.canLay0, h2]
    · simp only [PyData.depthAll, PyData.depth]
      exact Nat.max_le.mpr ⟨by decide, h3⟩
    · simp [PyData.eqvAll, PyData.eqv, h4]
theorem Arcs.mem {H : Hp} {l : Addr} {xs : List V} {as : List Arc} (h : Arcs H l xs as) : ∀ x ∈ xs, ∃ p A, x = .ref p ∧ H p = some (.tup (Arc.vs A)) := fun x hx => by
  obtain ⟨i, hi⟩ := List.mem_iff_getElem?.mp hx
  obtain ⟨p', A', e1, _, e3⟩ := h.at hi
  exact ⟨p', A', e1, e3⟩
theorem eqA_of {K : PySem.W.Frag} {H : Hp} {a b : Addr} {xs : List V} {neg : Bool} {Q : VK} (h1 : H a = some (.lst xs)) (h2 : H b = some (.lst xs)) (hx : ∀ x ∈ xs, ∃ p A, x = .ref p ∧ H p = some (.tup (Arc.vs A))) (q : Q (.bl (!neg)) H) : rEqD K neg (.ref a) (.ref b) H Q := by
  obtain ⟨ds, r1, r2, r3, r4⟩ := arcs_data (K := K) (H := H) xs hx
  have sh : SeqAt.shaped (.list ds) = true := by
    unfold SeqAt.shaped
    simp only [PyData.canLay0, PyData.depth, r2, Bool.true_and]
    exact decide_eq_true (by omega)
  refine ⟨.list ds, .list ds, ?_, ?_, sh, sh, ?_⟩
  · simp only [Rep]; exact ⟨a, xs, rfl, .of h1, r1⟩
  · simp only [Rep]; exact ⟨b, xs, rfl, .of h2, r1⟩
  · have e : PyData.eqv (.list ds) (.list ds) = true := by simp only [PyData.eqv]; exact r4
    rw [e]
    cases neg <;> exact q
def sp_law (K : PySem.W.Frag) : Sp := fun vs H Q _ => ∃ (a : Addr) (ns : List Int), vs = [.ref a] ∧ SqL K H a (ns.map V.int) ∧ ns.length ≤ 63 ∧ ∀ H', Q (.bl true) H'
theorem ok_law (T : Txt K mg f fd) : FnOk P w K mg base CX0 7 (f 30) (fd 30) ["_law_script"] (sp_law K) := by
  refine T.d_law.F.ok sc_law (fun vs H Q E h => ?_) (fun cdv A outer s H vs Q E hr h => ?_)
  · obtain ⟨a, ns, rfl, _⟩ := h
    rfl
  · obtain ⟨a, ns, rfl, hs, hlen, k⟩ := h
    refine ⟨_, (pss_cons (psl 1 sc_law.nd (pe_defL T.d_l_draw (ok_l_draw T) (hr.mono (by decide)) rfl (by decide) rfl (pal rfl (pvl 0) (pal rfl pe_int (pal rfl pe_int pa_nil)))))
     (pss_cons (psl 2 sc_law.nd (pe_op op_add pe_int (pe_defL T.d_l_draw (ok_l_draw T) (hr.mono (by decide)) rfl (by decide) rfl (pal rfl (pvl 0) (pal rfl pe_int (pal rfl pe_int pa_nil))))))
     (pss_cons (psl 3 sc_law.nd (pe_defL T.d_l_draw (ok_l_draw T) (hr.mono (by decide)) rfl (by decide) rfl (pal rfl (pvl 0) (pal rfl pe_int (pal rfl pe_int pa_nil)))))
     (pss_cons (ps_if (pt_cmpR op_eq (pvl 1) pe_int (nomark _))
     (pss_cons (psl 2 sc_law.nd pe_int)
     (pss_one (psl 3 sc_law.nd pe_int)))
     pss_nil)
     (pss_cons (ps_if (pt_cmpR op_eq (pvl 1) pe_int (nomark _))
     (pss_one (psl 2 sc_law.nd pe_int))
     pss_nil)
     (pss_cons (ps_if (pt_cmpR op_eq (pvl 1) pe_int (nomark _))
     (pss_one (psl 3 sc_law.nd pe_int))
     pss_nil)
     (pss_cons (psl 4 sc_law.nd (pe_defL T.d_l_arcs (ok_l_arcs T) (hr.mono (by decide)) rfl (by decide) rfl (pal rfl (pvl 0) (pal rfl (pvl 2) (pal rfl (pvl 3) (pal rfl (pe_ix (k_ixL rfl) (pe_lst (pal rfl pe_int (pal rfl pe_int (pal rfl (pe_op op_pow pe_int pe_int) pa_nil)))) (pe_defL T.d_l_draw (ok_l_draw T) (hr.mono (by decide)) rfl (by decide) rfl (pal rfl (pvl 0) (pal rfl pe_int (pal rfl pe_int pa_nil)))) (fun _ _ => rfl)) pa_nil))))))
     (pss_cons (psl 5 sc_law.nd (pe_cTy (k_list rfl) T.n_list bt_list rfl (by decide) (by decide) rfl (pal rfl (pvl 4) pa_nil)))
     (pss_cons (ps_if (PW.pt (pw_or (pt_cmpR op_isnot_bl (pe_defX (told_no rfl) T.d_asked_net (ok_asked_net T) (hr.mono (by decide)) rfl (by decide) rfl (pal rfl (pvl 2) (pal rfl (pvl 5) pa_nil))) pe_bl (nomark _)) (pw_or1 (pt_cmpR (k_neD rfl hr.units) (pvl 5) (pvl 4) (nomark _)))))
     (pss_one (ps_ret pe_bl))
     pss_nil)
     (pss_cons (ps_if (pt_cmpR op_eq (pe_defL T.d_l_draw (ok_l_draw T) (hr.mono (by decide)) rfl (by decide) rfl (pal rfl (pvl 0) (pal rfl pe_int (pal rfl pe_int pa_nil)))) pe_int (nomark _))
     (pss_one (ps_ret pe_bl))
     pss_nil)
     (pss_cons (psl 6 sc_law.nd (pe_defL T.d_l_spoilt (ok_l_spoilt T) (hr.mono (by decide)) rfl (by decide) rfl (pal rfl (pvl 0) (pal rfl (pvl 2) (pal rfl (pvl 4) pa_nil)))))
     (pss_cons (psl 5 sc_law.nd (pe_cTy (k_list rfl) T.n_list bt_list rfl (by decide) (by decide) rfl (pal rfl (pe_ix (k_ixT rfl) (pvl 6) pe_int (fun _ _ => rfl)) pa_nil)))
     (pss_cons (ps_for PassesOwn.never rfl (pi_range1 rfl T.n_range (pal rfl pe_int pa_nil)) (pgl 7 sc_law.nd)
     (pss_one (ps_if (PW.pt (pw_and (PW.pt (pw_or (pt_cmpR op_lt (pvl 7) pe_int (nomark _)) (pw_or1 (pt_cmpR op_gt (pe_cB (k_len rfl) T.n_len bt_len rfl (by decide) (by decide) rfl (pal rfl (pvl 5) pa_nil)) pe_int (nomark _))))) (pw_and1 (pt_not (pt_val (pe_defL T.d_l_refused (ok_l_refused T) (hr.mono (by decide)) rfl (by decide) rfl (pal rfl (pvl 7) (pal rfl (pe_ix (k_ixT rfl) (pvl 6) pe_int (fun _ _ => rfl)) (pal rfl (pvl 5) pa_nil)))))))))
     (pss_one (ps_ret pe_bl))
     pss_nil)))
     (pss_one (ps_ret (pe_and (pe_cmpR (k_eqD rfl hr.units) (pvl 5) (pe_ix (k_ixT rfl) (pvl 6) pe_int (fun _ _ => rfl)) (nomark _)) (pe_one (pe_cmpR op_is_bl (pe_defX (told_no rfl) T.d_asked_net (ok_asked_net T) (hr.mono (by decide)) rfl (by decide) rfl (pal rfl (pvl 2) (pal rfl (pvl 4) pa_nil))) pe_bl (nomark _))))))))))))))))))), ?_⟩
    generalize hB1 : tSeq (tAsg (tCall (sp_l_arcs _) _ _ _) _) _ = B1
    walk_at "dl"
    have tail : ∀ (so n : Int) (sz : Nat), 1 ≤ n → n ≤ 120 → sz ≤ 300 → (sz = 0 ∨ 2 ≤ n) → B1 { nx := fun x H' => Q V.non H', rt := Q } [some (V.ref a), some (V.int so), some (V.int n), some (V.int (sz : Int)), none, none, none, none] H := by
      intro so n sz h1 h2 h3 h4
      subst hB1
      walk_at "dl"
      refine ⟨⟨by decide, by decide, by decide⟩, small_line (by decide), fun p0 hp0 => ?_⟩
      have u0 := Same.upd_new hp0 (HO.lst [V.int 1, V.int 1, V.int (10 ^ Int.toNat 58)])
      have g0 : upd H p0 (HO.lst [V.int 1, V.int 1, V.int (10 ^ Int.toNat 58)]) p0 = some (.lst [V.int 1, V.int 1, V.int (10 ^ Int.toNat 58)]) := upd_same
      generalize upd H p0 (HO.lst [V.int 1, V.int 1, V.int (10 ^ Int.toNat 58)]) = H0 at *
      refine ⟨a, ns, _, _, rfl, u0.seq hs, by decide, by decide, by decide, fun ui ui1 ui2 => ixL_of (.of g0) ui1 ui2 fun uv huv => ?_⟩
      obtain ⟨unit, rfl, hu⟩ : ∃ unit, uv = .int unit ∧ 0 ≤ unit := by
        rcases (by omega : ui = 0 ∨ ui = 1 ∨ ui = 2) with rfl | rfl | rfl
        · exact ⟨_, (Option.some.inj huv).symm, by decide⟩
        · exact ⟨_, (Option.some.inj huv).symm, by decide⟩
        · exact ⟨_, (Option.some.inj huv).symm, by decide +kernel⟩
      refine ⟨a, ns, n, unit, sz, rfl, u0.seq hs, h1, h2, h3, h4, hu, fun H1 l xs as s1 hA hN => ⟨l, rfl, xs, .inl (.of hA.1), fun l1 hl1 => ?_⟩⟩
      have S1 := u0.trans s1
      have u1 := Same.upd_new hl1 (HO.lst xs)
      have g1 : upd H1 l1 (HO.lst xs) l1 = some (.lst xs) := upd_same
      generalize upd H1 l1 (HO.lst xs) = H2 at *
      have S2 := S1.trans u1
      have hA2 := hA.mono u1
      have l300 := hN.2.2.1
      refine ⟨n, l1, xs, as, rfl, ⟨g1, hA2.2.1, hA2.2.2⟩, by omega, fun _ H3 s3 => ?_, fun z => absurd hN z⟩
      have S3 := S2.trans s3
      have hA3 := hA2.mono s3
      dsimp only
      rw [if_neg (by simp)]
      refine eqA_of (s3 _ _ g1) hA3.1 hA3.mem ⟨_, rfl, ?_⟩
      rw [if_neg (by decide)]
      refine ⟨a, ns, _, _, rfl, S3.seq hs, by decide, by decide, by decide, fun cz cz1 cz2 => ⟨rfl, ?_⟩⟩
      by_cases c0 : cz = 0
      · rw [if_pos (by rw [c0])]
        exact k _
      rw [if_neg (by simpa using c0)]
      refine ⟨a, ns, n, l, xs, as, rfl, S3.seq hs, hA3, hN, fun H4 pb m' l' xs' as' s4 hpb hB hbad h301 => ⟨pb, _, _, _, rfl, rfl, .of hpb, atI_nat (j := 1) rfl, l', rfl, xs', .inl (.of hB.1), fun l2 hl2 => ?_⟩⟩
      have u5 := Same.upd_new hl2 (HO.lst xs')
      have g5 : upd H4 l2 (HO.lst xs') l2 = some (.lst xs') := upd_same
      generalize upd H4 l2 (HO.lst xs') = H5 at *
      have hB5 := hB.mono u5
      have hpb5 := u5 _ _ hpb
      have S5 := s4.trans u5
      have hA5 := hA3.mono S5
      refine for_in ?_
      walk_at "dl"
      refine ⟨by decide, by decide, ?_⟩
      refine ForW.of (walk_range (n := 4)) (fun j σ H' => (∃ v7, σ = [some (V.ref a), some (V.int so), some (V.int n), some (V.int (sz : Int)), some (V.ref l), some (V.ref l2), some (V.ref pb), v7]) ∧ Same H5 H') ⟨⟨_, rfl⟩, Same.refl _⟩ (fun _ _ _ _ _ => trivial) ?_ ?_
      · rintro j x σ H6 hx ⟨⟨v7, rfl⟩, s6⟩
        obtain ⟨hj, rfl⟩ := range_item hx
        walk_at "dl"
        have hB6 := hB5.mono s6
        have ref : rIxT K (V.ref pb) (V.int 0) H6 fun x H1 => sp_l_refused K f [V.int (0 + (j : Int)), x, V.ref l2] H1 (fun x H1 => ∃ c, x = V.bl c ∧ if (!c) = true then Q (V.bl false) H1 else (∃ v7, some (V.int (0 + (j : Int))) = v7) ∧ Same H5 H1) E0 := by
          refine ⟨pb, _, _, _, rfl, rfl, .of (s6 _ _ hpb5), atI_nat (j := 0) rfl, _, m', l2, xs', as', rfl, ⟨s6 _ _ g5, hB6.2.1, hB6.2.2⟩, by omega, hbad, fun H7 s7 => ⟨_, rfl, ?_⟩⟩
          rw [if_neg (by decide)]
          exact ⟨⟨_, rfl⟩, s6.trans s7⟩
        by_cases cj : 0 + (j : Int) < 2
        · rw [if_pos cj]
          exact ref
        rw [if_neg cj]
        refine ⟨_, .inl (.of (s6 _ _ g5)), ?_⟩
        by_cases cl : 0 < (xs'.length : Int)
        · rw [if_pos cl]
          exact ref
        · rw [if_neg cl]
          exact ⟨⟨_, rfl⟩, s6⟩
      · rintro σ H6 ⟨⟨v7, rfl⟩, s6⟩
        walk_at "dl"
        refine ⟨pb, _, _, _, rfl, rfl, .of (s6 _ _ hpb5), atI_nat (j := 1) rfl, eqA_of (s6 _ _ g5) (s6 _ _ hB5.1) (hB5.mono s6).mem ⟨_, rfl, ?_⟩⟩
        rw [if_pos (by decide)]
        exact ⟨n, l, xs, as, rfl, hA5.mono s6, by omega, fun _ H7 _ => by
          show Q (V.bl (decide (V.bl true = V.bl true))) H7
          rw [decide_eq_true rfl]
          exact k H7, fun z => absurd hN z⟩
    refine ⟨a, ns, _, _, rfl, hs, by decide, by decide, by decide, fun so o1 o2 => ⟨a, ns, _, _, rfl, hs, by decide, by decide, by decide, fun nd n1 n2 => ⟨nd, rfl, a, ns, _, _, rfl, hs, by decide, by decide, by decide, fun sz0 z1 z2 => ?_⟩⟩⟩
    obtain ⟨sz, rfl⟩ : ∃ j : Nat, sz0 = (j : Int) := ⟨sz0.toNat, by omega⟩
    refine ⟨rfl, ?_⟩
    by_cases c13 : so = 13
    · subst c13
      rw [if_pos rfl]
      refine ⟨rfl, ?_⟩
      rw [if_neg (by simp)]
      refine ⟨rfl, ?_⟩
      rw [if_neg (by simp)]
      exact tail 13 1 0 (by decide) (by decide) (by decide) (.inl rfl)
    rw [if_neg (by simpa using c13)]
    refine ⟨rfl, ?_⟩
    by_cases c14 : so = 14
    · subst c14
      rw [if_pos rfl]
      refine ⟨rfl, ?_⟩
      rw [if_neg (by simp)]
      exact tail 14 120 sz (by decide) (by decide) (by omega) (.inr (by decide))
    rw [if_neg (by simpa using c14)]
    refine ⟨rfl, ?_⟩
    by_cases c15 : so = 15
    · subst c15
      rw [if_pos rfl]
      exact tail 15 (2 + nd) 300 (by omega) (by omega) (by decide) (.inr (by omega))
    rw [if_neg (by simpa using c15)]
    exact tail so (2 + nd) sz (by omega) (by omega) (by omega) (.inr (by omega))
end
theorem walk {l : PySem.W.OpenLaw} {q : Program} {loose : List Str} {XP : (Str → Option Value) → Heap → Prop} {YP : World → Heap → Prop} {d : DefRec} {K : Params → PySem.W.Frag} (hn : l.most = some 63) (hdf : d.params.defaults = [])
    (hY : ∀ (w : World) (h : Heap), YP w h → (K w.params).In h)
    (F : ∀ (w : World) (mg : Str → Option Value) (fa : Addr) (h : Heap), (K w.params).In h → h.Ns mainGlobals mg → mg d.name = some (.ref fa) →
      ∃ fd : FuncData, (∀ (s : Shared) (u : Value), BindsTo s fd ⟨[u], []⟩ [("_law_script", u)]) ∧ ∀ base : Heap, (K w.params).In base → base.Ns mainGlobals mg → FnOk l.prog w (K w.params) mg base CX0 7 fa fd ["_law_script"] (sp_law (K w.params))) :
    PySem.W.WalkO q loose XP YP l.row.toRowW d [] (fun f vs => PySem.call f vs) :=
  L2.walk_of (n := 63) (k := 7) (x := "_law_script") (CX := fun _ => CX0) (sp := fun w => sp_law (K w.params)) hn (by decide) hdf ⟨rfl, by decide, by decide⟩ hY F (fun _ _ a ns hl _ hS => ⟨a, ns, rfl, hS, hl, fun _ => rfl⟩) fun _ _ _ _ _ z => z
theorem all_mk {l : PySem.W.OpenLaw} {w : World} {K : PySem.W.Frag} {h : Heap} {mg : Str → Option Value} {fa : Addr} (X : K.In h) (G : h.Ns mainGlobals mg) (hfa : mg "law" = some (.ref fa)) (T : ∃ f fd, Txt K mg f fd ∧ f 30 = f 30 ∧ ∃ kV dc pm an cd ct, fd 30 = PySem.W.fnOf "law" "law" (defArgs s_law) (defBody s_law) (defScope s_law) .none kV dc pm an cd ct) :
    ∃ fd : FuncData, (∀ (s : Shared) (v : Value), BindsTo s fd ⟨[v], []⟩ [("_law_script", v)]) ∧ ∀ base : Heap, K.In base → base.Ns mainGlobals mg → FnOk l.prog w K mg base CX0 7 fa fd ["_law_script"] (sp_law K) := by
  obtain ⟨f, fd, T, _, kV, dc, pm, an, cd, ct, e⟩ := T
  have e2 := hfa.symm.trans T.d_law.m
  cases e2
  exact ⟨fd 30, fun s v => by rw [e]; exact .of_eq rfl, fun base _ _ => ok_law T⟩
end NS
open PySem PySem.W PyProof.Rows
set_option maxRecDepth 100000 in
set_option maxHeartbeats 0 in
theorem PySem.Challenge.cw_crosshall_k30_what_is_no_net_holds : PySem.Challenge.rw_crosshall_k30_what_is_no_net.Holds := by
  w_on; o_law; k_head; (case hw => w_witness2)
  k_fill
  refine NS.walk (l := PySem.Challenge.rw_crosshall_k30_what_is_no_net) rfl rfl (fun w h Y => PySem.W.kIn_of Y) ?F
  case F =>
    intro w mg fa h KX G hmg
    refine NS.all_mk KX G hmg ?_
    suffices TT : ∃ f fd, NS.Txt (L2.KOf KX) mg f fd ∧ f 30 = f 30 ∧ ∃ kV dc pm an cd ct, fd 30 = PySem.W.fnOf "law" "law" (L2.defArgs NS.s_law) (L2.defBody NS.s_law) (L2.defScope NS.s_law) .none kV dc pm an cd ct from TT
    dsimp only [L2.KOf]
    obtain ⟨f, fd, T, _, z⟩ : ∃ f fd, NS.Txt _ mg f fd ∧ f 30 = _ ∧ ∃ kV dc pm an cd ct, fd 30 = PySem.W.fnOf "law" "law" (L2.defArgs NS.s_law) (L2.defBody NS.s_law) (L2.defScope NS.s_law) .none kV dc pm an cd ct := by
      refine' NS.txt_mk KX G ?a1 ?a2 ?a3 ?a4 ?a5 ?a6 ?a7 ?a11 ?l11 ?c11 ?k11 ?a12 ?l12 ?c12 ?k12 ?a18 ?l18 ?c18 ?k18 ?a19 ?l19 ?c19 ?k19 ?a22 ?l22 ?c22 ?k22 ?a23 ?l23 ?c23 ?k23 ?a25 ?l25 ?c25 ?k25 ?a26 ?l26 ?c26 ?k26 ?a27 ?l27 ?c27 ?k27 ?a28 ?l28 ?c28 ?k28 ?a29 ?l29 ?c29 ?k29 ?a30 ?l30 ?c30 ?k30 ?a7000 ?l7000 ?c7000 ?k7000 ?b7000 ?a8000 ?l8000 ?c8000 ?k8000 ?b8000 ?x_CrossError_e ?x_CrossError_kp ?x_CrossError_ga ?x_CrossError_gh ?x_CrossError_ba ?x_CrossError_ob ?x_CrossError_hd ?x_CrossError_cl ?x_CrossError_cg ?x_CrossError_ct ?x_CrossError_sa ?x_NoHead_e ?x_NoHead_kp ?x_NoHead_ga ?x_NoHead_gh ?x_NoHead_ba ?x_NoHead_ob ?x_NoHead_hd ?x_NoHead_cl ?x_NoHead_cg ?x_NoHead_ct ?x_NoHead_sa ?x_NoNet_e ?x_NoNet_kp ?x_NoNet_ga ?x_NoNet_gh ?x_NoNet_ba ?x_NoNet_ob ?x_NoNet_hd ?x_NoNet_cl ?x_NoNet_cg ?x_NoNet_ct ?x_NoNet_sa ?x_NoWhole_e ?x_NoWhole_kp ?x_NoWhole_ga ?x_NoWhole_gh ?x_NoWhole_ba ?x_NoWhole_ob ?x_NoWhole_hd ?x_NoWhole_cl ?x_NoWhole_cg ?x_NoWhole_ct ?x_NoWhole_sa ?x_NoGroups_e ?x_NoGroups_kp ?x_NoGroups_ga ?x_NoGroups_gh ?x_NoGroups_ba ?x_NoGroups_ob ?x_NoGroups_hd ?x_NoGroups_cl ?x_NoGroups_cg ?x_NoGroups_ct ?x_NoGroups_sa ?x_NoSuch_e ?x_NoSuch_kp ?x_NoSuch_ga ?x_NoSuch_gh ?x_NoSuch_ba ?x_NoSuch_ob ?x_NoSuch_hd ?x_NoSuch_cl ?x_NoSuch_cg ?x_NoSuch_ct ?x_NoSuch_sa ?x_NoVeil_e ?x_NoVeil_kp ?x_NoVeil_ga ?x_NoVeil_gh ?x_NoVeil_ba ?x_NoVeil_ob ?x_NoVeil_hd ?x_NoVeil_cl ?x_NoVeil_cg ?x_NoVeil_ct ?x_NoVeil_sa ?v_na_NoSuch_number ?v_na_NoVeil_cell ?v_su_NoNet_CrossError ?v_ki_NoNet_CrossError ?v_su_NoNet_NoHead ?v_ki_NoNet_NoHead ?v_su_NoNet_NoNet ?v_ki_NoNet_NoNet ?v_su_NoNet_NoWhole ?v_ki_NoNet_NoWhole ?v_su_NoNet_NoGroups ?v_ki_NoNet_NoGroups ?v_su_NoNet_NoSuch ?v_ki_NoNet_NoSuch ?v_su_NoNet_NoVeil ?v_ki_NoNet_NoVeil ?v_kv_NoNet ?z_ValueError ?z_all ?z_isinstance ?z_len ?z_list ?z_range ?y_MOST_NODES ?y_MOST_ARCS
      (case a1 => k_is)
      (case a2 => k_is)
      (case a3 => k_is)
      (case a4 => k_is)
      (case a5 => k_is)
      (case a6 => k_is)
      (case a7 => k_is)
      (case a11 => k_is)
      (case l11 => k_is)
      (case c11 => k_is)
      (case k11 => k_is)
      (case a12 => k_is)
      (case l12 => k_is)
      (case c12 => k_is)
      (case k12 => k_is)
      (case a18 => k_is)
      (case l18 => k_is)
      (case c18 => k_is)
      (case k18 => k_is)
      (case a19 => k_is)
      (case l19 => k_is)
      (case c19 => k_is)
      (case k19 => k_is)
      (case a22 => k_is)
      (case l22 => k_is)
      (case c22 => k_is)
      (case k22 => k_is)
      (case a23 => k_is)
      (case l23 => k_is)
      (case c23 => k_is)
      (case k23 => k_is)
      (case a25 => k_is)
      (case l25 => k_is)
      (case c25 => k_is)
      (case k25 => k_is)
      (case a26 => k_is)
      (case l26 => k_is)
      (case c26 => k_is)
      (case k26 => k_is)
      (case a27 => k_is)
      (case l27 => k_is)
      (case c27 => k_is)
      (case k27 => k_is)
      (case a28 => k_is)
      (case l28 => k_is)
      (case c28 => k_is)
      (case k28 => k_is)
      (case a29 => k_is)
      (case l29 => k_is)
      (case c29 => k_is)
      (case k29 => k_is)
      (case a30 => k_is)
      (case l30 => k_is)
      (case c30 => k_is)
      (case k30 => k_is)
      (case a7000 => k_is)
      (case l7000 => k_is)
      (case c7000 => k_is)
      (case k7000 => k_is)
      (case b7000 => k_is)
      (case a8000 => k_is)
      (case l8000 => k_is)
      (case c8000 => k_is)
      (case k8000 => k_is)
      (case b8000 => k_is)
      (case x_CrossError_e => kernel_rfl)
      (case x_CrossError_kp => k_is)
      (case x_CrossError_ga => k_is)
      (case x_CrossError_gh => k_is)
      (case x_CrossError_ba => k_is)
      (case x_CrossError_ob => k_is)
      (case x_CrossError_hd => k_is)
      (case x_CrossError_cl => k_is)
      (case x_CrossError_cg => k_is)
      (case x_CrossError_ct => k_is)
      (case x_CrossError_sa => k_is)
      (case x_NoHead_e => kernel_rfl)
      (case x_NoHead_kp => k_is)
      (case x_NoHead_ga => k_is)
      (case x_NoHead_gh => k_is)
      (case x_NoHead_ba => k_is)
      (case x_NoHead_ob => k_is)
      (case x_NoHead_hd => k_is)
      (case x_NoHead_cl => k_is)
      (case x_NoHead_cg => k_is)
      (case x_NoHead_ct => k_is)
      (case x_NoHead_sa => k_is)
      (case x_NoNet_e => kernel_rfl)
      (case x_NoNet_kp => k_is)
      (case x_NoNet_ga => k_is)
      (case x_NoNet_gh => k_is)
      (case x_NoNet_ba => k_is)
      (case x_NoNet_ob => k_is)
      (case x_NoNet_hd => k_is)
      (case x_NoNet_cl => k_is)
      (case x_NoNet_cg => k_is)
      (case x_NoNet_ct => k_is)
      (case x_NoNet_sa => k_is)
      (case x_NoWhole_e => kernel_rfl)
      (case x_NoWhole_kp => k_is)
      (case x_NoWhole_ga => k_is)
      (case x_NoWhole_gh => k_is)
      (case x_NoWhole_ba => k_is)
      (case x_NoWhole_ob => k_is)
      (case x_NoWhole_hd => k_is)
      (case x_NoWhole_cl => k_is)
      (case x_NoWhole_cg => k_is)
      (case x_NoWhole_ct => k_is)
      (case x_NoWhole_sa => k_is)
      (case x_NoGroups_e => kernel_rfl)
      (case x_NoGroups_kp => k_is)
      (case x_NoGroups_ga => k_is)
      (case x_NoGroups_gh => k_is)
      (case x_NoGroups_ba => k_is)
      (case x_NoGroups_ob => k_is)
      (case x_NoGroups_hd => k_is)
      (case x_NoGroups_cl => k_is)
      (case x_NoGroups_cg => k_is)
      (case x_NoGroups_ct => k_is)
      (case x_NoGroups_sa => k_is)
      (case x_NoSuch_e => kernel_rfl)
      (case x_NoSuch_kp => k_is)
      (case x_NoSuch_ga => k_is)
      (case x_NoSuch_gh => k_is)
      (case x_NoSuch_ba => k_is)
      (case x_NoSuch_ob => k_is)
      (case x_NoSuch_hd => k_is)
      (case x_NoSuch_cl => k_is)
      (case x_NoSuch_cg => k_is)
      (case x_NoSuch_ct => k_is)
      (case x_NoSuch_sa => k_is)
      (case x_NoVeil_e => kernel_rfl)
      (case x_NoVeil_kp => k_is)
      (case x_NoVeil_ga => k_is)
      (case x_NoVeil_gh => k_is)
      (case x_NoVeil_ba => k_is)
      (case x_NoVeil_ob => k_is)
      (case x_NoVeil_hd => k_is)
      (case x_NoVeil_cl => k_is)
      (case x_NoVeil_cg => k_is)
      (case x_NoVeil_ct => k_is)
      (case x_NoVeil_sa => k_is)
      (case v_na_NoSuch_number => k_is)
      (case v_na_NoVeil_cell => k_is)
      (case v_su_NoNet_CrossError => rfl)
      (case v_ki_NoNet_CrossError => rfl)
      (case v_su_NoNet_NoHead => rfl)
      (case v_ki_NoNet_NoHead => rfl)
      (case v_su_NoNet_NoNet => rfl)
      (case v_ki_NoNet_NoNet => rfl)
      (case v_su_NoNet_NoWhole => rfl)
      (case v_ki_NoNet_NoWhole => rfl)
      (case v_su_NoNet_NoGroups => rfl)
      (case v_ki_NoNet_NoGroups => rfl)
      (case v_su_NoNet_NoSuch => rfl)
      (case v_ki_NoNet_NoSuch => rfl)
      (case v_su_NoNet_NoVeil => rfl)
      (case v_ki_NoNet_NoVeil => rfl)
      (case v_kv_NoNet => rfl)
      (case z_ValueError => k_is)
      (case z_all => k_is)
      (case z_isinstance => k_is)
      (case z_len => k_is)
      (case z_list => k_is)
      (case z_range => k_is)
      (case y_MOST_NODES => k_is)
      (case y_MOST_ARCS => k_is)
    exact ⟨f, fd, T, rfl, z⟩
