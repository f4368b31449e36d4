import PyProof.Rows.All
import Wide.All
import OpenK.AllK
import Wide.FinOn
import Lean
import PyProof.EqAt
import PyProof.EqKinds
import PyProof.TupleCall
import OpenK.KOwn
import PyProof.InstStoreFacts
import PyProof.EnumFor
import PyProof.EnumMake
import PyProof.EnumStmt
import KE.KDictList
import PyProof.ListRange
import PyProof.Rows.SetFrom
import PyProof.WalksMore
import PyProof.ZipIter
import PyProof.AttrMissSeq
import KE.KDictOf
import PyProof.MinMaxWalk
import PyProof.Rows.CallKwBuiltin
import KE.KMinKey
import KE.KRevSl
import PyProof.SumAny
import PyProof.P3In
import PySem.Challenge.RW_crosshall_k34_shares_come_to_one
-- CHANGE: your row's module here, as the last of these rows
set_option Elab.async false
set_option linter.all false
set_option maxRecDepth 100000
/-! THE HAND LAYER, for ints, bools, texts, own classes, LISTS and tuples (index, slices, in, append, pop ..), calls, loops. Paste it whole ahead of your own text; what your proof does not reach may be deleted. -/
namespace L2
open PySem PySem.Spec PyProof.Rows

/-  a key: an int or a str -/
abbrev Key := Sum Int Str
def keyIs : Key → Value → Bool
  | .inl k, v => Value.isInt k v
  | .inr x, v => Value.isStrOf x v
def keyH (w : World) : Key → Int
  | .inl k => hashInt k
  | .inr x => hashStr w x
theorem keyIs_shape : ∀ {k : Key} {v : Value}, keyIs k v = true → (∃ i t, k = Sum.inl i ∧ v = Value.int i t) ∨ (∃ x t, k = Sum.inr x ∧ v = Value.str x t)
  | .inl i, v, h => by
    obtain ⟨t, e⟩ := Value.isInt_shape (k := i) (v := v) h
    exact .inl ⟨i, t, rfl, e⟩
  | .inr x, v, h => by
    obtain ⟨t, e⟩ := Value.isStrOf_shape (x := x) (v := v) h
    exact .inr ⟨x, t, rfl, e⟩
theorem key_ll (a b : Int) : decide ((Sum.inl a : Key) = Sum.inl b) = (a == b) := by
  by_cases e : a = b
  · subst e; simp
  · have h : ¬ (Sum.inl a : Key) = Sum.inl b := fun q => e (Sum.inl.inj q)
    rw [decide_eq_false h]
    exact (beq_eq_false_iff_ne.mpr e).symm
theorem key_rr (a b : Str) : decide ((Sum.inr a : Key) = Sum.inr b) = decide (a = b) := by
  by_cases e : a = b
  · subst e; simp
  · have h : ¬ (Sum.inr a : Key) = Sum.inr b := fun q => e (Sum.inr.inj q)
    rw [decide_eq_false h, decide_eq_false e]
theorem key_lr (a : Int) (b : Str) : decide ((Sum.inl a : Key) = Sum.inr b) = false := decide_eq_false (fun q => nomatch q)
theorem key_rl (a : Str) (b : Int) : decide ((Sum.inr a : Key) = Sum.inl b) = false := decide_eq_false (fun q => nomatch q)

def mixKind (prog : Program) (w : World) : PySem.KeyKind prog w Key where
  is := keyIs
  hash := keyH w
  inj := fun v a b ha hb => by
    rcases keyIs_shape ha with ⟨i, t, rfl, rfl⟩ | ⟨x, t, rfl, rfl⟩
    · rcases keyIs_shape hb with ⟨j, u, rfl, e⟩ | ⟨y, u, rfl, e⟩
      · injection e with e1 _; rw [e1]
      · exact nomatch e
    · rcases keyIs_shape hb with ⟨j, u, rfl, e⟩ | ⟨y, u, rfl, e⟩
      · exact nomatch e
      · injection e with e1 _; rw [e1]
  byValue := fun k v h => by
    rcases keyIs_shape h with ⟨i, t, rfl, rfl⟩ | ⟨x, t, rfl, rfl⟩ <;> rfl
  pyHash := fun hv h => by
    rcases keyIs_shape hv with ⟨i, t, rfl, rfl⟩ | ⟨x, t, rfl, rfl⟩
    · exact wpAny_pyHash_int h
    · exact wpAny_pyHash_str h
  eqBool := fun hu hv h => by
    rcases keyIs_shape hu with ⟨i, t, rfl, rfl⟩ | ⟨x, t, rfl, rfl⟩
    · rcases keyIs_shape hv with ⟨j, u, rfl, rfl⟩ | ⟨y, u, rfl, rfl⟩
      · rw [key_ll] at h; exact wpAny_eqBool_int h
      · rw [key_lr] at h; exact SeqAt.EqAt.int_str i t y u _ _ _ _ h
    · rcases keyIs_shape hv with ⟨j, u, rfl, rfl⟩ | ⟨y, u, rfl, rfl⟩
      · rw [key_rl] at h; exact SeqAt.EqAt.str_int x t j u _ _ _ _ h
      · rw [key_rr] at h; exact wpAny_eqBool_str h
  «strs» := fun k x t v h => by
    rcases keyIs_shape h with ⟨i, u, rfl, e⟩ | ⟨y, u, rfl, e⟩
    · exact nomatch e
    · injection e with e1 _
      subst e1
      cases v <;> rfl

/-  an item of a key that is a tuple: None, an int, a text -/
abbrev NKey := Option Key
def nIs : NKey → Value → Bool
  | none, .none => true
  | none, _ => false
  | some k, v => keyIs k v
def nH (w : World) : NKey → Int
  | none => reduceHash 0xFCA86420
  | some k => keyH w k
theorem nIs_shape : ∀ {k : NKey} {v : Value}, nIs k v = true → (k = none ∧ v = Value.none) ∨ ∃ q, k = some q ∧ keyIs q v = true
  | none, v, h => by cases v <;> first | exact .inl ⟨rfl, rfl⟩ | exact nomatch h
  | some k, v, h => .inr ⟨k, rfl, h⟩
theorem key_not_none {q : Key} (h : keyIs q Value.none = true) : False := by
  rcases keyIs_shape h with ⟨_, _, _, e⟩ | ⟨_, _, _, e⟩ <;> exact nomatch e
theorem pyHash_none {prog : Program} {w : World} {A : Around} {E : Value → Shared → Prop} {s : Shared} {Q : Int → Shared → Prop} (h : Q (reduceHash 0xFCA86420) { s with toks := s.toks + 1 }) : wpAny (model prog w) A (pyHash .none) Q E s :=
  PySem.W.pyHash_slot (T := "NoneType") rfl F.slot_NoneType_hash F.entry_NoneType_hash (F.args_NoneType_hash_1 _) (beq_builtin_none _) (.inl rfl) (wpAny_bind (wpAny_pure (wpAny_bind (wpAny_mkInt (wpAny_pure ⟨_, _, rfl, h⟩)))))
theorem eqBool_none {prog : Program} {w : World} {A : Around} {E : Value → Shared → Prop} {s : Shared} {Q : Bool → Shared → Prop} (h : Q true s) : wpAny (model prog w) A (eqBool .none .none) Q E s := by
  unfold eqBool
  try with_reducible refine wpAny_holding ?_
  show wpAny _ _ (if (Value.none == Value.none) = true then _ else _) Q E s
  rw [if_pos (by decide)]
  exact wpAny_bind (wpAny_rule (wpAny_pure h))
def optKind (prog : Program) (w : World) : PySem.KeyKind prog w NKey where
  is := nIs
  hash := nH w
  inj := fun v a b ha hb => by
    rcases nIs_shape ha with ⟨rfl, rfl⟩ | ⟨q, rfl, hq⟩
    · rcases nIs_shape hb with ⟨rfl, _⟩ | ⟨q', rfl, hq'⟩
      · rfl
      · exact (key_not_none hq').elim
    · rcases nIs_shape hb with ⟨rfl, rfl⟩ | ⟨q', rfl, hq'⟩
      · exact (key_not_none hq).elim
      · rw [(mixKind prog w).inj v q q' hq hq']
  byValue := fun k v h => by
    rcases nIs_shape h with ⟨rfl, rfl⟩ | ⟨q, rfl, hq⟩
    · rfl
    · exact (mixKind prog w).byValue q v hq
  pyHash := fun hv h => by
    rcases nIs_shape hv with ⟨rfl, rfl⟩ | ⟨q, rfl, hq⟩
    · exact pyHash_none h
    · exact (mixKind prog w).pyHash hq h
  eqBool := fun {A E s a b u v Q} hu hv h => by
    rcases nIs_shape hu with ⟨rfl, rfl⟩ | ⟨q, rfl, hq⟩
    · rcases nIs_shape hv with ⟨rfl, rfl⟩ | ⟨q', rfl, hq'⟩
      · exact eqBool_none (by simpa using h)
      · have h' : Q false s := by simpa using h
        rcases keyIs_shape hq' with ⟨i, t, rfl, rfl⟩ | ⟨x, t, rfl, rfl⟩
        · exact SeqAt.EqAt.none_int i t _ _ _ _ h'
        · exact SeqAt.EqAt.none_str x t _ _ _ _ h'
    · rcases nIs_shape hv with ⟨rfl, rfl⟩ | ⟨q', rfl, hq'⟩
      · have h' : Q false s := by simpa using h
        rcases keyIs_shape hq with ⟨i, t, rfl, rfl⟩ | ⟨x, t, rfl, rfl⟩
        · exact SeqAt.EqAt.int_none i t _ _ _ _ h'
        · exact SeqAt.EqAt.str_none x t _ _ _ _ h'
      · refine (mixKind prog w).eqBool hq hq' ?_
        have e : decide ((some q : NKey) = some q') = decide (q = q') := by simp
        rw [← e]; exact h
  «strs» := fun k x t v h => by
    rcases nIs_shape h with ⟨rfl, e⟩ | ⟨q, rfl, hq⟩
    · exact nomatch e
    · exact (mixKind prog w).strs q x t v hq
end L2

namespace L2
open PySem PySem.Spec PyProof.Rows

/-  a value, without the heap -/
inductive V where
  | non | bl (b : Bool) | int (i : Int) | str (x : Str) | byt (b : Array UInt8) | flt (b : UInt64) | ref (a : Addr) | ty (n : String)
  deriving DecidableEq

def RelV : V → Value → Prop
  | .non, u => u = Value.none
  | .bl b, u => u = Value.bool b
  | .int i, u => ∃ t, u = Value.int i t
  | .str x, u => ∃ t, u = Value.str x t
  | .byt b, u => ∃ t, u = Value.bytes b t
  | .flt b, u => ∃ t, u = Value.float b t
  | .ref a, u => u = Value.ref a
  | .ty n, u => u = Value.type n

abbrev Vals : List V → List Value → Prop := Paired RelV
theorem Vals.length {xs : List V} {us : List Value} (r : Vals xs us) : xs.length = us.length := Paired.length r
theorem Vals.get : ∀ {xs : List V} {us : List Value} {i : Nat} {x : V}, Vals xs us → xs[i]? = some x → ∃ u, us[i]? = some u ∧ RelV x u
  | _, _, _, _, .nil, e => by simp at e
  | _, _, 0, _, .cons r _, e => by simp at e; subst e; exact ⟨_, rfl, r⟩
  | _, _, i + 1, x, .cons _ t, e => by
    obtain ⟨u, h1, h2⟩ := Vals.get (i := i) (x := x) t (by simpa using e)
    exact ⟨u, by simpa using h1, h2⟩
theorem Vals.set {x : V} {u : Value} (r : RelV x u) : ∀ {xs : List V} {us : List Value} (i : Nat), Vals xs us → Vals (xs.set i x) (us.set i u)
  | _, _, _, .nil => .nil
  | _, _, 0, .cons _ t => .cons r t
  | _, _, i + 1, .cons q t => .cons q (Vals.set r i t)
theorem Vals.append : ∀ {xs ys : List V} {us ws : List Value}, Vals xs us → Vals ys ws → Vals (xs ++ ys) (us ++ ws)
  | _, _, _, _, .nil, s => s
  | _, _, _, _, .cons r t, s => .cons r (Vals.append t s)

def RelO : Option V → Option Value → Prop
  | some v, some u => RelV v u
  | none, none => True
  | _, _ => False
def KV {κ : Type} : List (κ × V) → List (κ × Value) → Prop := Paired fun (p : κ × V) (q : κ × Value) => p.1 = q.1 ∧ RelV p.2 q.2

/-  a key of a dict (00_mix): an int or a text -/
def kV : Key → V
  | .inl i => .int i
  | .inr x => .str x

/-  an item of a key that is a tuple -/
def nV : NKey → V
  | none => .non
  | some k => kV k

/-  what stands at a tracked address -/
inductive HO where
  /-  a list -/
  | lst (xs : List V)
  /-  a tuple (never changes) -/
  | tup (xs : List V)
  /-  a dict whose keys are ints and texts; one whose keys are tuples of ints and texts (the empty one is both) -/
  | dK (kvs : List (Key × V)) | dT (kvs : List (List NKey × V))
  /-  a set of ints: its members, its size -/
  | set (S : Int → Bool) (n : Nat)
  /-  an instance of the class at C, its dict at dx, its attributes -/
  | ins (C dx : Addr) (fs : List (Str × V))
  /-  the dict of the instance at x -/
  | own (x : Addr)
  /-  the dict of an exception -/
  | xd (fs : List (Str × V))
  /-  a bound method, f of x -/
  | met (f x : Addr)
  /-  a range object lo, lo + 1, .. below hi -/
  | rng (lo hi : Int)
  /-  a thing that is known to the object (the script; a dict while a loop walks it): read, never written while it is so -/
  | frz (o : Obj) (u : HO)
  /-  a code object's table -/
  | tbl (ps : Array Value)
  /-  any other thing, by what is true of its one object (a def of one's own: SetO a S n := HO.ext fun h => ..) -/
  | ext (φ : Heap → Prop)

abbrev Hp := Addr → Option HO
def upd (H : Hp) (a : Addr) (o : HO) : Hp := fun b => if b = a then some o else H b
theorem upd_same {H : Hp} {a : Addr} {o : HO} : upd H a o a = some o := by unfold upd; rw [if_pos rfl]
theorem upd_ne {H : Hp} {a b : Addr} {o : HO} (h : b ≠ a) : upd H a o b = H b := by unfold upd; rw [if_neg h]
theorem ne_of_none {H : Hp} {a b : Addr} {o : HO} (h : H a = some o) (h' : H b = none) : a ≠ b := by
  intro e; subst e; rw [h] at h'; cases h'

section
variable (P : Program) (w : World)
def ObjOk (H : Hp) (h : Heap) (a : Addr) : HO → Prop
  | .lst xs => xs.length ≤ sizeLine ∧ ∃ (its : List Value) (n : Nat), Vals xs its ∧ h.get? a = some { cls := .type "list", data := .seq its.toArray n }
  | .tup xs => xs.length ≤ sizeLine ∧ ∃ its : List Value, Vals xs its ∧ IsTup h a its.toArray
  | .dK kvs => kvs.length ≤ sizeLine ∧ (a == sysModules) = false ∧ ∃ vs, KV kvs vs ∧ h.DictOf (mixKind P w) a vs
  | .dT kvs => kvs.length ≤ sizeLine ∧ (a == sysModules) = false ∧ ∃ xs : List (List NKey × Addr × Value),
      Paired (fun (p : List NKey × V) (q : List NKey × Addr × Value) => p.1 = q.1 ∧ H q.2.1 = some (.tup (p.1.map nV)) ∧ RelV p.2 q.2.2) kvs xs ∧
      ∃ o es ep, h.get? a = some o ∧ o.ExactDict ∧ o.data = .dict es ep ∧ es.toList = xs.map (entryOfKey (tupleKind (optKind P w))) ∧ (xs.map (·.1)).Nodup
  | .set S n => h.SetOf (intKind P w) a S n
  | .ins C dx fs => H dx = some (.own a) ∧ fs.length ≤ 1000 ∧ dx ≠ a ∧ h.get? a = some (PySem.W.instObj C dx) ∧
      ∃ mA, h.Ns1 dx mA ∧ (∀ f, RelO (fs.lookup f) (mA f)) ∧ PySem.Within mA (fs.map (·.1))
  | .own _ => ∃ o, h.get? a = some o
  | .xd fs => ∃ mA, h.Ns1 a mA ∧ ∀ f, RelO (fs.lookup f) (mA f)
  | .rng lo hi => ∃ t u v, h.get? a = some { cls := .type "range", data := .fields #[.int lo t, .int hi u, .int 1 v] }
  | .frz o u => h.get? a = some o ∧ ObjOk H h a u
  | .tbl ps => h.get? a = some { cls := .none, data := .fields ps }
  | .met f x => h.get? a = some (PySem.W.methodObj (.ref f) (.ref x))
  | .ext φ => φ h ∧ (∃ o, h.get? a = some o) ∧ ∀ h1 h2 : Heap, φ h1 → (∀ o, h1.get? a = some o → h2.get? a = some o) → φ h2
/-  the abstract heap is held -/
def HOk (H : Hp) (h : Heap) : Prop := ∀ a o, H a = some o → ObjOk P w H h a o
end

section
variable {P : Program} {w : World} {H H' : Hp} {h h' : Heap} {a : Addr} {o : HO}
theorem ObjOk.lt (x : ObjOk P w H h a o) : a < h.objs.size := by
  cases o with
  | lst xs => obtain ⟨_, _, _, _, e⟩ := x; exact Heap.lt_size e
  | tup xs => obtain ⟨_, _, _, p⟩ := x; exact p.lt
  | dK kvs => obtain ⟨_, _, _, _, o, _, _, e, _⟩ := x; exact Heap.lt_size e
  | dT kvs => obtain ⟨_, _, _, _, o, _, _, e, _⟩ := x; exact Heap.lt_size e
  | set S n => obtain ⟨o, _, _, _, e, _⟩ := x; exact Heap.lt_size e
  | ins C dx fs => obtain ⟨_, _, _, e, _⟩ := x; exact Heap.lt_size e
  | own y => obtain ⟨_, e⟩ := x; exact Heap.lt_size e
  | xd fs => obtain ⟨_, ⟨_, _, _, e, _⟩, _⟩ := x; exact Heap.lt_size e
  | rng lo hi => obtain ⟨_, _, _, e⟩ := x; exact Heap.lt_size e
  | frz ob u => obtain ⟨e, _⟩ := x; exact Heap.lt_size e
  | tbl ps => exact Heap.lt_size (show h.get? a = some _ from x)
  | met f y => exact Heap.lt_size (show h.get? a = some _ from x)
  | ext φ => obtain ⟨_, ⟨_, e⟩, _⟩ := x; exact Heap.lt_size e
theorem Paired.mapP {α β : Type} {F G : α → β → Prop} : ∀ {l₁ : List α} {l₂ : List β}, Paired F l₁ l₂ → (∀ a b, F a b → G a b) → Paired G l₁ l₂
  | _, _, .nil, _ => .nil
  | _, _, .cons r t, f => .cons (f _ _ r) (Paired.mapP t f)
/-  what an object's description leans on: its own object, its own dict, the tuples -/
theorem ObjOk.stay (x : ObjOk P w H h a o) (k : ∀ b u, (b = a ∨ H b = some (.own a)) → h.get? b = some u → h'.get? b = some u)
    (ho : ∀ b, H b = some (.own a) → H' b = some (.own a)) (ht : ∀ b xs, H b = some (.tup xs) → H' b = some (.tup xs)) : ObjOk P w H' h' a o := by
  induction o with
  | lst xs => obtain ⟨z, its, n, r, e⟩ := x; exact ⟨z, its, n, r, k _ _ (.inl rfl) e⟩
  | tup xs => obtain ⟨z, its, r, ob, e, c⟩ := x; exact ⟨z, its, r, ob, k _ _ (.inl rfl) e, c⟩
  | dK kvs => obtain ⟨z, y, vs, r, ob, es, ep, e, c⟩ := x; exact ⟨z, y, vs, r, ob, es, ep, k _ _ (.inl rfl) e, c⟩
  | dT kvs =>
    obtain ⟨z, y, xs, r, ob, es, ep, e, c⟩ := x
    exact ⟨z, y, xs, Paired.mapP r fun p q z => ⟨z.1, ht _ _ z.2.1, z.2.2⟩, ob, es, ep, k _ _ (.inl rfl) e, c⟩
  | set S n => obtain ⟨ob, es, ep, t, e, c⟩ := x; exact ⟨ob, es, ep, t, k _ _ (.inl rfl) e, c⟩
  | ins C dx fs =>
    obtain ⟨d, z, ne, e, mA, ⟨od, es, ep, e2, c⟩, r⟩ := x
    exact ⟨ho _ d, z, ne, k _ _ (.inl rfl) e, mA, ⟨od, es, ep, k _ _ (.inr d) e2, c⟩, r⟩
  | own y => obtain ⟨ob, e⟩ := x; exact ⟨ob, k _ _ (.inl rfl) e⟩
  | xd fs => obtain ⟨mA, ⟨od, es, ep, e, c⟩, r⟩ := x; exact ⟨mA, ⟨od, es, ep, k _ _ (.inl rfl) e, c⟩, r⟩
  | rng lo hi => obtain ⟨t, u, v, e⟩ := x; exact ⟨t, u, v, k _ _ (.inl rfl) e⟩
  | frz ob u ih => obtain ⟨e, q⟩ := x; exact ⟨k _ _ (.inl rfl) e, ih q⟩
  | tbl ps =>
    have e : h.get? a = some { cls := .none, data := .fields ps } := x
    show h'.get? a = some { cls := .none, data := .fields ps }
    exact k a _ (.inl rfl) e
  | met f y =>
    have e : h.get? a = some (PySem.W.methodObj (.ref f) (.ref y)) := x
    show h'.get? a = some (PySem.W.methodObj (.ref f) (.ref y))
    exact k a _ (.inl rfl) e
  | ext φ => obtain ⟨p, ⟨o, e⟩, st⟩ := x; exact ⟨st _ _ p fun o q => k _ _ (.inl rfl) q, ⟨o, k _ _ (.inl rfl) e⟩, st⟩
theorem HOk.lt (x : HOk P w H h) (e : H a = some o) : a < h.objs.size := (x a o e).lt
theorem HOk.fresh (x : HOk P w H h) (e : h.objs.size ≤ a) : H a = none := by
  cases q : H a with
  | none => rfl
  | some u => exact absurd (Nat.lt_of_lt_of_le (x.lt q) e) (Nat.lt_irrefl _)
/-  every object of the heap is kept -/
theorem HOk.kept (x : HOk P w H h) (k : ∀ b u, h.get? b = some u → h'.get? b = some u) : HOk P w H h' := fun a o e =>
  (x a o e).stay (fun b u _ q => k b u q) (fun _ q => q) fun _ _ q => q
/-  a new object is laid and tracked -/
theorem HOk.laid (x : HOk P w H h) (k : ∀ b u, h.get? b = some u → h'.get? b = some u) (hp : h.objs.size ≤ a) (new : ObjOk P w (upd H a o) h' a o) : HOk P w (upd H a o) h' := fun b u e => by
  have hn := x.fresh hp
  by_cases hb : b = a
  · subst hb; rw [upd_same] at e; cases e; exact new
  · rw [upd_ne hb] at e
    exact (x b u e).stay (fun c v _ q => k c v q) (fun c q => by rw [upd_ne (ne_of_none q hn)]; exact q) fun c xs q => by rw [upd_ne (ne_of_none q hn)]; exact q
end

/-  what may be read as u: it is u, or a known u -/
def Rd (H : Hp) (a : Addr) (u : HO) : Prop := H a = some u ∨ ∃ o, H a = some (.frz o u)
theorem Rd.ok {P : Program} {w : World} {H : Hp} {h : Heap} {a : Addr} {u : HO} (r : Rd H a u) (x : HOk P w H h) : ObjOk P w H h a u := by
  rcases r with r | ⟨o, r⟩
  · exact x a u r
  · obtain ⟨_, q⟩ := x a _ r
    exact q
/-  what may be written -/
def Mut : Option HO → Prop
  | some (.lst _) => True
  | some (.dK _) => True
  | some (.dT _) => True
  | some (.set _ _) => True
  | some (.ins _ _ _) => True
  | some (.ext _) => True
  | _ => False
section
variable {P : Program} {w : World} {H : Hp} {h h' : Heap} {x e : Addr} {o' : HO}
/-  the object at e is changed: x itself, or the dict of the instance x -/
theorem HOk.write (ok : HOk P w H h) (mu : Mut (H x)) (he : e = x ∨ H e = some (.own x)) (k : ∀ b u, b ≠ e → h.get? b = some u → h'.get? b = some u) (heo : ∃ u, h'.get? e = some u)
    (new : ObjOk P w (upd H x o') h' x o') : HOk P w (upd H x o') h' := fun b u q => by
  have nown : ∀ c y, H c = some (.own y) → c ≠ x := fun c y r z => by subst z; rw [r] at mu; exact mu
  have ntup : ∀ c xs, H c = some (.tup xs) → c ≠ x := fun c xs r z => by subst z; rw [r] at mu; exact mu
  by_cases hb : b = x
  · subst hb; rw [upd_same] at q; cases q; exact new
  · rw [upd_ne hb] at q
    by_cases hbe : b = e
    · have q' : H b = some (.own x) := by
        rcases he with z | z
        · exact absurd (hbe.trans z) hb
        · rw [hbe]; exact z
      rw [q] at q'; cases q'
      obtain ⟨v, hv⟩ := heo
      exact ⟨v, by rw [hbe]; exact hv⟩
    · refine (ok b u q).stay (fun c v hc r => k c v ?_ r) (fun c r => by rw [upd_ne (nown c b r)]; exact r) fun c xs r => by rw [upd_ne (ntup c xs r)]; exact r
      rcases hc with rfl | hc
      · exact hbe
      · rintro rfl
        rcases he with z | z
        · exact nown c b hc z
        · rw [hc] at z; cases z; exact hb rfl
end

/-! ### kept unless tracked; of the frames at fs (the callers') the slots may change (an exception that passes writes there); of the records at ex (iterators) nothing is said -/
structure Un (fs ex : List Addr) (H H' : Hp) (h h' : Heap) : Prop where
  keep : ∀ b o, h.get? b = some o → H b = none → b ∉ fs → b ∉ ex → h'.get? b = some o
  slot : ∀ b o, h.get? b = some o → H b = none → b ∈ fs → b ∉ ex → ∃ sl, h'.get? b = some { o with slots := sl }
  free : ∀ b o, h.get? b = some o → H b = none → b ∉ ex → H' b = none
  there : ∀ b o, h.get? b = some o → b ∉ ex → ∃ o', h'.get? b = some o'
  tups : ∀ b xs, H b = some (.tup xs) → H' b = some (.tup xs)
  frzs : ∀ b o u, H b = some (.frz o u) → H' b = some (.frz o u)
  tbls : ∀ b ps, H b = some (.tbl ps) → ∃ more, H' b = some (.tbl (ps ++ more))
section
variable {fs fs' ex ex' : List Addr} {H H1 H2 : Hp} {h h1 h2 h' : Heap} {a x e : Addr} {o : HO}
theorem Un.any (u : Un fs ex H H1 h h1) {b : Addr} {ob : Obj} (q : h.get? b = some ob) (n : H b = none) (hx : b ∉ ex) : ∃ sl, h1.get? b = some { ob with slots := sl } := by
  by_cases hb : b ∈ fs
  · exact u.slot b ob q n hb hx
  · exact ⟨ob.slots, u.keep b ob q n hb hx⟩
theorem Un.kept (k : ∀ b u, h.get? b = some u → h'.get? b = some u) : Un fs ex H H h h' :=
  ⟨fun b ob q _ _ _ => k b ob q, fun b ob q _ _ _ => ⟨ob.slots, k b ob q⟩, fun _ _ _ n _ => n, fun b ob q _ => ⟨ob, k b ob q⟩, fun _ _ q => q, fun _ _ _ q => q, fun _ ps q => ⟨#[], by rw [q]; simp⟩⟩
theorem Un.refl : Un fs ex H H h h := Un.kept fun _ _ q => q
theorem Un.laid (k : ∀ b u, h.get? b = some u → h'.get? b = some u) (hp : h.objs.size ≤ a) (hn : H a = none) : Un fs ex H (upd H a o) h h' where
  keep := fun b u q _ _ _ => k b u q
  slot := fun b u q _ _ _ => ⟨u.slots, k b u q⟩
  free := fun b u q n _ => by rw [upd_ne (Nat.ne_of_lt (Nat.lt_of_lt_of_le (Heap.lt_size q) hp))]; exact n
  there := fun b u q _ => ⟨u, k b u q⟩
  tups := fun b xs q => by rw [upd_ne (ne_of_none q hn)]; exact q
  frzs := fun b u xs q => by rw [upd_ne (ne_of_none q hn)]; exact q
  tbls := fun b ps q => ⟨#[], by rw [upd_ne (ne_of_none q hn), q]; simp⟩
theorem Un.write (mu : Mut (H x)) (he : e = x ∨ H e = some (.own x)) (k : ∀ b u, b ≠ e → h.get? b = some u → h'.get? b = some u) (heo : ∃ u, h'.get? e = some u) : Un fs ex H (upd H x o) h h' := by
  have hx : ∀ b, H b = none → b ≠ x := fun b n z => by subst z; rw [n] at mu; exact mu
  have hb : ∀ b, H b = none → b ≠ e := fun b n z => by
    subst z
    rcases he with r | r
    · exact hx b n r
    · rw [n] at r; cases r
  have hm : ∀ b u, H b = some u → ¬ Mut (some u) → b ≠ x := fun b u q nm z => by subst z; rw [q] at mu; exact nm mu
  refine ⟨fun b u q n _ _ => k b u (hb b n) q, fun b u q n _ _ => ⟨u.slots, k b u (hb b n) q⟩, fun b u q n _ => by rw [upd_ne (hx b n)]; exact n, fun b u q _ => ?_,
    fun b xs q => by rw [upd_ne (hm b _ q fun z => z)]; exact q, fun b u xs q => by rw [upd_ne (hm b _ q fun z => z)]; exact q, fun b ps q => ⟨#[], by rw [upd_ne (hm b _ q fun z => z), q]; simp⟩⟩
  by_cases hbe : b = e
  · subst hbe; exact heo
  · exact ⟨u, k b u hbe q⟩
end

/-! ### the heap without what is tracked -/
def trk (h : Heap) (H : Hp) : List Addr := (List.range h.objs.size).filter fun a => (H a).isSome
def hidT (h : Heap) (H : Hp) : Heap := PySem.W.hideAll h (trk h H)
theorem hidT_size (h : Heap) (H : Hp) : (hidT h H).objs.size = h.objs.size := PySem.W.hideAll_size _ _
theorem hidT_get {h : Heap} {H : Hp} {b : Addr} {o : Obj} (e : h.get? b = some o) (n : H b = none) : (hidT h H).get? b = some o :=
  PySem.W.hideAll_get _ e fun hm => by
    have q : (H b).isSome = true := (List.mem_filter.mp hm).2
    rw [n] at q; simp at q
theorem of_hidT {h : Heap} {H : Hp} {b : Addr} {o : Obj} (e : (hidT h H).get? b = some o) : h.get? b = some o ∧ H b = none := by
  have e' : h.get? b = some o := PySem.W.of_hideAll (trk h H) e
  refine ⟨e', ?_⟩
  cases q : H b with
  | none => rfl
  | some x =>
    have hm : b ∈ trk h H := List.mem_filter.mpr ⟨List.mem_range.mpr (Heap.lt_size e'), by simp [q]⟩
    have z : (hidT h H).get? b = none := PySem.W.hideAll_none (trk h H) hm
    rw [z] at e; cases e

/-! ### OpenK's ledger, filled with every new object but one -/
end L2

namespace L2
open PySem PySem.Spec PyProof.Rows

/-  the module's facts, over the base: the heap at the law's entry without what is tracked there -/
structure Mod (K : PySem.W.Frag) (mg : Str → Option Value) (base : Heap) : Prop where
  kin : K.In base
  glob : base.Ns mainGlobals mg
  blt : ∃ mb, base.Ns builtinsNs mb ∧ ∀ x : Str, x ≠ "__name__" → mb x = bootBuiltins x
  nolimit : base.NoLimit

/-  the context: a def's body (or a comprehension's block) running. base: fixed through the whole law; s₀, H₀: the entry; outer: the frames whose slots others may change (a def's callers); stack: all frames that run;
   ex: iterators that were made ahead of the entry and are walked here (a comprehension's); fn: the names whose cells were made at the entry (a def: all; a comprehension's block: its own); calm: not within an except suite; pn: pins that every state bears; xe: what is wanted of an exception that leaves the code -/
structure Cx where
  prog : Program
  w : World
  K : PySem.W.Frag
  mg : Str → Option Value
  base : Heap
  A : Around
  N : List Str
  s₀ : Shared
  H₀ : Hp
  env : Env
  outer : List Env
  stack : List Env
  ex : List Addr
  fn : Str → Bool
  calm : Bool
  pn : List (Addr × Obj)
  xe : Value → Shared → Prop
/-  the callers' frames -/
def frs (l : List Env) : List Addr := l.filterMap (·.frame)
abbrev Cx.fs (X : Cx) : List Addr := frs X.outer

def Vis (sc : Scope) (x : Str) : Prop := sc.names.lookup x = some .local ∨ sc.names.lookup x = some .cell ∨ sc.names.lookup x = some .free
def Loc (sc : Scope) (x : Str) : Prop := sc.names.lookup x = some .local ∨ sc.names.lookup x = some .cell
def Look (env : Env) (h : Heap) (m : Str → Option Value) (x : Str) (u : Value) : Prop :=
  (env.kindOf x = some .local ∧ m x = some u) ∨ ((env.kindOf x = some .cell ∨ env.kindOf x = some .free) ∧ ∃ c, env.cells.lookup x = some c ∧ h.IsCell c (some u))

structure Cx.Ok (X : Cx) : Prop where
  mod : Mod X.K X.mg X.base
  kind : X.env.scope.kind = .function
  glob : X.env.globals = mainGlobals
  blt : X.env.builtins = builtinsNs
  above : X.s₀.heap.objs.size ≤ X.env.locals
  inj : ∀ x y c, X.env.cells.lookup x = some c → X.env.cells.lookup y = some c → x = y
  has : ∀ x, (X.env.kindOf x = some .cell ∨ X.env.kindOf x = some .free) → ∃ c, X.env.cells.lookup x = some c
  cab : ∀ x c, X.fn x = true → X.env.cells.lookup x = some c → X.s₀.heap.objs.size ≤ c
  hd : X.calm = true → X.A.handled = none
  frames : X.A.frames = some X.stack
  stk : X.stack = X.outer ∨ (X.stack = X.env :: X.outer ∧ X.env.frame = some X.env.locals)
  exf : ∀ b ∈ X.ex, b ≠ X.env.locals ∧ ∀ x c, X.env.cells.lookup x = some c → c ≠ b
  bs : ∀ b o, X.base.get? b = some o → X.s₀.heap.get? b = some o ∧ X.H₀ b = none
  bsz : X.base.objs.size ≤ X.s₀.heap.objs.size
  noex : ∀ b o, X.base.get? b = some o → b ∉ X.ex
  exfs : ∀ b ∈ X.ex, b ∉ X.fs
  funs : X.s₀.heap.FunFrames X.base X.outer
  frf : ∀ b ∈ X.fs, X.H₀ b = none

structure Inv (X : Cx) (pins : List (Addr × Obj)) (σ : List (Option V)) (H : Hp) (s : Shared) : Prop where
  ok : X.Ok
  os : s.os = X.s₀.os
  bare : AllBare s.gens
  base : Un X.fs X.ex X.H₀ H X.s₀.heap s.heap
  loc : ∃ m, s.heap.Ns X.env.locals m ∧ ∀ (i : Nat) (x : Str) (v : V), X.N[i]? = some x → σ[i]? = some (some v) → Vis X.env.scope x → ∃ u, RelV v u ∧ Look X.env s.heap m x u
  cell : ∀ x c, X.env.cells.lookup x = some c → ∃ v, s.heap.IsCell c v
  free : H X.env.locals = none
  freeC : ∀ x c, X.env.cells.lookup x = some c → H c = none
  pin : ∀ p ∈ X.pn ++ pins, s.heap.get? p.1 = some p.2 ∧ H p.1 = none ∧ p.1 ≠ X.env.locals ∧ p.1 ∉ X.fs ∧ ∀ v, p.2.data ≠ .cell v
  hok : HOk X.prog X.w H s.heap
  len : σ.length = X.N.length

section
variable {X : Cx} {pins : List (Addr × Obj)} {σ : List (Option V)} {H H' : Hp} {s : Shared} {h' : Heap}

theorem Cx.Ok.nofr (ok : X.Ok) {b : Addr} {o : Obj} (e : X.base.get? b = some o) : b ∉ X.fs := fun hb => by
  have := (ok.funs.mem hb).1
  rw [e] at this; cases this
theorem Inv.bs (I : Inv X pins σ H s) : ∀ b o, X.base.get? b = some o → s.heap.get? b = some o ∧ H b = none := fun b o e =>
  ⟨I.base.keep b o (I.ok.bs b o e).1 (I.ok.bs b o e).2 (I.ok.nofr e) (I.ok.noex b o e), I.base.free b o (I.ok.bs b o e).1 (I.ok.bs b o e).2 (I.ok.noex b o e)⟩
theorem Inv.bk (I : Inv X pins σ H s) : ∀ b o, X.base.get? b = some o → s.heap.get? b = some o := fun b o e => (I.bs b o e).1
theorem Inv.mod (I : Inv X pins σ H s) : Mod X.K X.mg X.base := I.ok.mod
theorem Inv.kIn (I : Inv X pins σ H s) : X.K.In s.heap := I.ok.mod.kin.keeps I.bk
theorem Inv.lt (I : Inv X pins σ H s) : X.env.locals < s.heap.objs.size := let ⟨_, hn, _⟩ := I.loc; hn.lt
theorem Inv.sz (I : Inv X pins σ H s) : X.s₀.heap.objs.size ≤ s.heap.objs.size := Nat.le_trans I.ok.above (Nat.le_of_lt I.lt)
theorem Inv.nofs (I : Inv X pins σ H s) {a : Addr} (h : s.heap.objs.size ≤ a) : a ∉ X.fs := fun hb => by
  obtain ⟨_, o, ho, _⟩ := I.ok.funs.mem hb
  exact absurd (Nat.lt_of_lt_of_le (Heap.lt_size ho) (Nat.le_trans I.sz h)) (Nat.lt_irrefl _)
theorem Inv.cne (I : Inv X pins σ H s) : ∀ x c, X.env.cells.lookup x = some c → c ≠ X.env.locals := fun x c e z => by
  obtain ⟨v, o, ho, hd⟩ := I.cell x c e
  obtain ⟨m, ⟨o', es, ep, ho', hd', _⟩, _⟩ := I.loc
  rw [z, ho'] at ho; cases ho; rw [hd'] at hd; cases hd
theorem Inv.funs (I : Inv X pins σ H s) : s.heap.FunFrames X.base X.outer := by
  have all : ∀ (l : List Env), (∀ b ∈ frs l, b ∈ X.fs) → X.s₀.heap.FunFrames X.base l → s.heap.FunFrames X.base l := by
    intro l
    induction l with
    | nil => intro _ _; trivial
    | cons env r ih =>
      intro hs hl
      obtain ⟨hk, ⟨L, o, hf, hn, ho, hd⟩, hr⟩ := hl
      have hL : L ∈ X.fs := hs L (by unfold frs; rw [List.filterMap_cons, hf]; exact List.mem_cons_self)
      obtain ⟨sl, e⟩ := I.base.slot L o ho (I.ok.frf L hL) hL fun z => I.ok.exfs L z hL
      exact ⟨hk, ⟨L, _, hf, hn, e, hd⟩, ih (fun b hb => hs b (by unfold frs; rw [List.filterMap_cons, hf]; exact List.mem_cons_of_mem _ hb)) hr⟩
  exact all X.outer (fun _ hb => hb) I.ok.funs

/-  the frames that run, for a call -/
theorem Inv.stack (I : Inv X pins σ H s) : s.heap.FunFrames X.base X.stack := by
  rcases I.ok.stk with e | ⟨e, hf⟩
  · rw [e]; exact I.funs
  · rw [e]
    obtain ⟨m, hn, _⟩ := I.loc
    refine .cons (by rw [I.ok.kind]; decide) hf hn ?_ I.funs
    exact Heap.get?_none_of_le (Nat.le_trans I.ok.bsz I.ok.above)
theorem Inv.stkSub (I : Inv X pins σ H s) : ∀ b ∈ frs X.stack, b ∈ X.env.locals :: X.fs := fun b hb => by
  rcases I.ok.stk with e | ⟨e, hf⟩
  · rw [e] at hb; exact List.mem_cons_of_mem _ hb
  · rw [e] at hb
    unfold frs at hb
    rw [List.filterMap_cons, hf] at hb
    exact hb
theorem Inv.stkFree (I : Inv X pins σ H s) : ∀ b ∈ frs X.stack, H b = none := fun b hb => by
  rcases List.mem_cons.mp (I.stkSub b hb) with e | hb
  · rw [e]; exact I.free
  · obtain ⟨_, o, ho, _⟩ := I.ok.funs.mem hb
    exact I.base.free b o ho (I.ok.frf b hb) fun z => I.ok.exfs b z hb

/-  THE STEP: the untracked objects but the frame and the records at ch are kept (the callers' frames up to slots), the frame's map is kept, the new abstract heap is held -/
theorem Inv.step {g' : Array GenState} {t' : Nat} {d' : Drawn} {ch : List Addr} (I : Inv X pins σ H s)
    (hch : ∀ b ∈ ch, (b ∈ X.ex ∨ X.s₀.heap.objs.size ≤ b) ∧ b ≠ X.env.locals ∧ (∀ x c, X.env.cells.lookup x = some c → c ≠ b) ∧ ∀ p ∈ X.pn ++ pins, p.1 ≠ b)
    (keep : ∀ b o, b ≠ X.env.locals → b ∉ X.fs → b ∉ ch → s.heap.get? b = some o → H b = none → h'.get? b = some o)
    (slot : ∀ b o, b ≠ X.env.locals → b ∈ X.fs → b ∉ ch → s.heap.get? b = some o → H b = none → ∃ sl, h'.get? b = some { o with slots := sl }) (free : ∀ b o, b ∉ ch → s.heap.get? b = some o → H b = none → H' b = none)
    (there : ∀ b o, b ∉ ch → s.heap.get? b = some o → ∃ o', h'.get? b = some o')
    (tups : ∀ b xs, H b = some (.tup xs) → H' b = some (.tup xs)) (frzs : ∀ b o u, H b = some (.frz o u) → H' b = some (.frz o u)) (tbls : ∀ b ps, H b = some (.tbl ps) → ∃ more, H' b = some (.tbl (ps ++ more)))
    (ns : ∀ m, s.heap.Ns X.env.locals m → h'.Ns X.env.locals m) (hok : HOk X.prog X.w H' h') (hg : AllBare g') :
    Inv X pins σ H' { s with heap := h', gens := g', drawn := d', toks := t' } := by
  have neL : ∀ b o, X.s₀.heap.get? b = some o → b ≠ X.env.locals := fun b o e => Nat.ne_of_lt (Nat.lt_of_lt_of_le (Heap.lt_size e) I.ok.above)
  have neC : ∀ b o, X.s₀.heap.get? b = some o → b ∉ X.ex → b ∉ ch := fun b o e hx hb => by
    rcases (hch b hb).1 with z | z
    · exact hx z
    · exact absurd (Nat.lt_of_lt_of_le (Heap.lt_size e) z) (Nat.lt_irrefl _)
  have cellK : ∀ x c, X.env.cells.lookup x = some c → ∀ v, s.heap.IsCell c v → h'.IsCell c v := fun x c e v ⟨o, ho, hd⟩ => by
    have nch : c ∉ ch := fun z => (hch c z).2.2.1 x c e rfl
    by_cases hc : c ∈ X.fs
    · obtain ⟨sl, q⟩ := slot c o (I.cne x c e) hc nch ho (I.freeC x c e)
      exact ⟨_, q, hd⟩
    · exact ⟨o, keep c o (I.cne x c e) hc nch ho (I.freeC x c e), hd⟩
  refine ⟨I.ok, I.os, hg, ⟨fun b o e n hb hx => ?_, fun b o e n hb hx => ?_, fun b o e n hx => ?_, fun b o e hx => ?_, fun b xs e => tups b xs (I.base.tups b xs e), fun b o xs e => frzs b o xs (I.base.frzs b o xs e), fun b ps e => ?_⟩, ?_, fun x c e => ?_, ?_, fun x c e => ?_, fun p hp => ?_, hok, I.len⟩
  · exact keep b o (neL b o e) hb (neC b o e hx) (I.base.keep b o e n hb hx) (I.base.free b o e n hx)
  · obtain ⟨sl, e1⟩ := I.base.slot b o e n hb hx
    obtain ⟨sl', e2⟩ := slot b _ (neL b o e) hb (neC b o e hx) e1 (I.base.free b o e n hx)
    exact ⟨sl', e2⟩
  · obtain ⟨o', e1⟩ := I.base.there b o e hx
    exact free b o' (neC b o e hx) e1 (I.base.free b o e n hx)
  · obtain ⟨o', e1⟩ := I.base.there b o e hx
    exact there b o' (neC b o e hx) e1
  · obtain ⟨m1, e1⟩ := I.base.tbls b ps e
    obtain ⟨m2, e2⟩ := tbls b _ e1
    exact ⟨m1 ++ m2, by rw [e2, Array.append_assoc]⟩
  · obtain ⟨m, hn, hl⟩ := I.loc
    refine ⟨m, ns m hn, fun i x v e1 e2 e3 => ?_⟩
    obtain ⟨u, r, l⟩ := hl i x v e1 e2 e3
    refine ⟨u, r, ?_⟩
    rcases l with l | ⟨k, c, e, z⟩
    · exact .inl l
    · exact .inr ⟨k, c, e, cellK x c e _ z⟩
  · obtain ⟨v, z⟩ := I.cell x c e
    exact ⟨v, cellK x c e v z⟩
  · obtain ⟨m, ⟨o, _, _, ho, _⟩, _⟩ := I.loc
    exact free _ o (fun z => (hch _ z).2.1 rfl) ho I.free
  · obtain ⟨v, o, ho, hd⟩ := I.cell x c e
    exact free c o (fun z => (hch c z).2.2.1 x c e rfl) ho (I.freeC x c e)
  · obtain ⟨e, n, ne, nf, d⟩ := I.pin p hp
    have nch : p.1 ∉ ch := fun z => (hch p.1 z).2.2.2 p hp rfl
    exact ⟨keep p.1 p.2 ne nf nch e n, free p.1 p.2 nch e n, ne, nf, d⟩
/-  .. where the frame's own object is kept too -/
theorem Inv.un {t' : Nat} (I : Inv X pins σ H s) (u : Un X.fs [] H H' s.heap h') (hok : HOk X.prog X.w H' h') : Inv X pins σ H' { s with heap := h', toks := t' } := by
  obtain ⟨m, ⟨o, es, ep, ho, r⟩, _⟩ := id I.loc
  obtain ⟨sl, hL⟩ := u.any ho I.free (by simp)
  exact I.step (g' := s.gens) (d' := s.drawn) (ch := []) (fun _ z => nomatch z) (fun b o _ hb _ e n => u.keep b o e n hb (by simp)) (fun b o _ hb _ e n => u.slot b o e n hb (by simp)) (fun b o _ e n => u.free b o e n (by simp)) (fun b o _ e => u.there b o e (by simp)) u.tups u.frzs u.tbls (fun m' hm => by
    obtain ⟨o', es', ep', ho', r'⟩ := hm
    rw [ho] at ho'; cases ho'
    exact ⟨_, es', ep', hL, r'⟩) hok I.bare
/-  behind a call (or a comprehension's block): the slots of this frame may have changed too, the records at ch may have turned -/
theorem Inv.call {g' : Array GenState} {t' : Nat} {d' : Drawn} {ch : List Addr} (I : Inv X pins σ H s) (u : Un (frs X.stack) ch H H' s.heap h') (hok : HOk X.prog X.w H' h') (hg : AllBare g')
    (hch : ∀ b ∈ ch, (b ∈ X.ex ∨ X.s₀.heap.objs.size ≤ b) ∧ b ≠ X.env.locals ∧ (∀ x c, X.env.cells.lookup x = some c → c ≠ b) ∧ ∀ p ∈ X.pn ++ pins, p.1 ≠ b) :
    Inv X pins σ H' { s with heap := h', gens := g', drawn := d', toks := t' } := by
  obtain ⟨m, ⟨o, es, ep, ho, r⟩, _⟩ := id I.loc
  obtain ⟨sl, hL⟩ := u.any ho I.free fun z => (hch _ z).2.1 rfl
  exact I.step (ch := ch) hch (fun b o hL hb hc e n => u.keep b o e n (fun z => (List.mem_cons.mp (I.stkSub b z)).elim hL hb) hc) (fun b o _ _ hc e n => u.any e n hc) (fun b o hc e n => u.free b o e n hc) (fun b o hc e => u.there b o e hc) u.tups u.frzs u.tbls (fun m' hm => by
    obtain ⟨o', es', ep', ho', r'⟩ := hm
    rw [ho] at ho'; cases ho'
    exact ⟨_, es', ep', hL, r'⟩) hok hg
/-  an untracked record of ours (an iterator) has turned -/
theorem Inv.turned {t' : Nat} {it : Addr} (I : Inv X pins σ H s) (k : ∀ b o, b ≠ it → s.heap.get? b = some o → h'.get? b = some o) (hn : H it = none) (hL : it ≠ X.env.locals)
    (h1 : it ∈ X.ex ∨ X.s₀.heap.objs.size ≤ it) (h2 : ∀ x c, X.env.cells.lookup x = some c → c ≠ it) (h3 : ∀ p ∈ X.pn ++ pins, p.1 ≠ it) : Inv X pins σ H { s with heap := h', toks := t' } := by
  have nit : ∀ b u, H b = some u → b ≠ it := fun b u e z => by rw [z, hn] at e; cases e
  refine I.step (g' := s.gens) (d' := s.drawn) (ch := [it]) (fun b hb => ?_) (fun b o _ _ hc e _ => k b o (fun z => hc (by simp [z])) e) (fun b o _ _ hc e _ => ⟨o.slots, k b o (fun z => hc (by simp [z])) e⟩) (fun _ _ _ _ n => n)
    (fun b o hc e => ⟨o, k b o (fun z => hc (by simp [z])) e⟩) (fun _ _ e => e) (fun _ _ _ e => e) (fun b ps e => ⟨#[], by rw [e]; simp⟩) (fun m hm => ?_) (fun b u e => ?_) I.bare
  · have e : b = it := by simpa using hb
    subst e
    exact ⟨h1, hL, h2, h3⟩
  · obtain ⟨o, es, ep, ho, r⟩ := hm
    exact ⟨o, es, ep, k _ o (Ne.symm hL) ho, r⟩
  · refine (I.hok b u e).stay (fun c v hc q => k c v ?_ q) (fun _ q => q) fun _ _ q => q
    rcases hc with z | z
    · rw [z]; exact nit b u e
    · exact nit c _ z
theorem Inv.tok (I : Inv X pins σ H s) (t : Nat) : Inv X pins σ H { s with toks := t } := I.un (h' := s.heap) (t' := t) Un.refl I.hok
/-  all objects kept -/
theorem Inv.kept {t' : Nat} (I : Inv X pins σ H s) (k : ∀ b u, s.heap.get? b = some u → h'.get? b = some u) : Inv X pins σ H { s with heap := h', toks := t' } := I.un (Un.kept k) (I.hok.kept k)
/-  a new object laid and tracked -/
theorem Inv.laid {a : Addr} {o : HO} {t' : Nat} (I : Inv X pins σ H s) (k : ∀ b u, s.heap.get? b = some u → h'.get? b = some u) (hp : s.heap.objs.size ≤ a) (new : ObjOk X.prog X.w (upd H a o) h' a o) :
    Inv X pins σ (upd H a o) { s with heap := h', toks := t' } := I.un (Un.laid k hp (I.hok.fresh hp)) (I.hok.laid k hp new)
/-  an object written -/
theorem Inv.write {x e : Addr} {o : HO} {t' : Nat} (I : Inv X pins σ H s) (mu : Mut (H x)) (he : e = x ∨ H e = some (.own x)) (k : ∀ b u, b ≠ e → s.heap.get? b = some u → h'.get? b = some u) (heo : ∃ u, h'.get? e = some u)
    (new : ObjOk X.prog X.w (upd H x o) h' x o) : Inv X pins σ (upd H x o) { s with heap := h', toks := t' } := I.un (Un.write mu he k heo) (I.hok.write mu he k heo new)
theorem Inv.pins_of {pins' : List (Addr × Obj)} (I : Inv X pins σ H s) (h : ∀ p ∈ pins', s.heap.get? p.1 = some p.2 ∧ H p.1 = none ∧ p.1 ≠ X.env.locals ∧ p.1 ∉ X.fs ∧ ∀ v, p.2.data ≠ .cell v) : Inv X pins' σ H s :=
  ⟨I.ok, I.os, I.bare, I.base, I.loc, I.cell, I.free, I.freeC, fun p hp => (List.mem_append.mp hp).elim (fun z => I.pin p (List.mem_append_left _ z)) (h p), I.hok, I.len⟩

theorem nodup_ix {N : List Str} (hN : N.Nodup) {i j : Nat} {x : Str} (a : N[i]? = some x) (b : N[j]? = some x) : i = j := by
  obtain ⟨h1, e1⟩ := List.getElem?_eq_some_iff.mp a
  obtain ⟨h2, e2⟩ := List.getElem?_eq_some_iff.mp b
  exact (List.getElem_inj hN).mp (e1.trans e2.symm)

/-  a name is stored; what changed -/
theorem store_ok2 {M : Model} {A : Around} {E : Value → Shared → Prop} {i : Nat} {x : Str} {v : V} {u : Value} {Q : Unit → Shared → Prop} (I : Inv X pins σ H s) (hN : X.N.Nodup) (hi : X.N[i]? = some x) (hx : Loc X.env.scope x) (r : RelV v u)
    (h : ∀ s', Inv X pins (σ.set i (some v)) H s' → (∃ a, Heap.SameBut a s.heap s'.heap ∧ (a = X.env.locals ∨ X.env.cells.lookup x = some a)) → Q () s') (hf : X.fn x = true ∨ X.env.scope.names.lookup x = some .local := by first | exact .inl rfl | exact .inr rfl | assumption) : wpAny M A (storeName X.env x u) Q E s := by
  obtain ⟨m, hn, hl⟩ := id I.loc
  have hcls : (X.env.scope.kind == .class || (X.env.scope.kind == .module && X.env.locals != X.env.globals)) = false := by rw [I.ok.kind]; rfl
  have hiσ : i < σ.length := by rw [I.len]; exact (List.getElem?_eq_some_iff.mp hi).1
  have cne := I.cne
  have tracked : ∀ {a : Addr} {h' : Heap}, (∃ o, s.heap.get? a = some o ∧ H a = none) → Heap.SameBut a s.heap h' → HOk X.prog X.w H h' := fun {a h'} ha hs b ob e => by
    obtain ⟨_, _, hfree⟩ := ha
    refine (I.hok b ob e).stay (fun c w' hc q => (hs.2 c ?_).trans q) (fun _ q => q) fun _ _ q => q
    rintro rfl
    rcases hc with rfl | hc
    · rw [hfree] at e; cases e
    · rw [hfree] at hc; cases hc
  rcases hx with hk | hk
  · refine wpAny_storeName_local hk hn (fun h' hn' hs => ?_) hcls
    obtain ⟨oL, _, _, hoL, _⟩ := id hn
    refine h _ ⟨I.ok, I.os, I.bare, ⟨fun b o e n hb hx => ?_, fun b o e n hb hx => ?_, I.base.free, fun b o e hx => ?_, I.base.tups, I.base.frzs, I.base.tbls⟩, ⟨_, hn', fun j y v' e1 e2 e3 => ?_⟩, fun y c e => ?_, I.free, I.freeC, fun p hp => ?_, tracked ⟨oL, hoL, I.free⟩ hs, by simpa using I.len⟩ ⟨_, hs, .inl rfl⟩
    · exact (hs.2 b (Nat.ne_of_lt (Nat.lt_of_lt_of_le (Heap.lt_size e) I.ok.above))).trans (I.base.keep b o e n hb hx)
    · obtain ⟨sl, e1⟩ := I.base.slot b o e n hb hx
      exact ⟨sl, (hs.2 b (Nat.ne_of_lt (Nat.lt_of_lt_of_le (Heap.lt_size e) I.ok.above))).trans e1⟩
    · obtain ⟨o', e1⟩ := I.base.there b o e hx
      exact ⟨o', (hs.2 b (Nat.ne_of_lt (Nat.lt_of_lt_of_le (Heap.lt_size e) I.ok.above))).trans e1⟩
    · by_cases hj : j = i
      · subst hj
        rw [hi] at e1; cases e1
        rw [List.getElem?_set_self hiσ] at e2
        cases e2
        exact ⟨u, r, .inl ⟨hk, by simp⟩⟩
      · rw [List.getElem?_set_ne (Ne.symm hj)] at e2
        obtain ⟨u', r', q⟩ := hl j y v' e1 e2 e3
        refine ⟨u', r', ?_⟩
        rcases q with ⟨k, e⟩ | ⟨k, c, e, z⟩
        · refine .inl ⟨k, ?_⟩
          have : y ≠ x := fun e => hj (nodup_ix hN e1 (e ▸ hi))
          simp [this, e]
        · exact .inr ⟨k, c, e, z.sameBut hs (cne y c e)⟩
    · obtain ⟨w', z⟩ := I.cell y c e
      exact ⟨w', z.sameBut hs (cne y c e)⟩
    · obtain ⟨e, n, ne, nf, d⟩ := I.pin p hp
      exact ⟨(hs.2 p.1 ne).trans e, n, ne, nf, d⟩
  · have hfn : X.fn x = true := by
      rcases hf with z | z
      · exact z
      · rw [z] at hk; cases hk
    obtain ⟨c, hc⟩ := I.ok.has x (.inl hk)
    obtain ⟨w', z⟩ := I.cell x c hc
    refine wpAny_storeName_cell I.ok.kind hk hc z (fun h' hc' hs => ?_)
    obtain ⟨oc, hoc, hocd⟩ := id z
    refine h { s with heap := h' } ⟨I.ok, I.os, I.bare, ⟨fun b o e n hb hx => ?_, fun b o e n hb hx => ?_, I.base.free, fun b o e hx => ?_, I.base.tups, I.base.frzs, I.base.tbls⟩, ⟨m, hn.sameBut hs (Ne.symm (cne x c hc)), fun j y v' e1 e2 e3 => ?_⟩, fun y c' e => ?_, I.free, I.freeC, fun p hp => ?_, tracked ⟨oc, hoc, I.freeC x c hc⟩ hs, by simpa using I.len⟩ ⟨c, hs, .inr hc⟩
    · exact (hs.2 b (Nat.ne_of_lt (Nat.lt_of_lt_of_le (Heap.lt_size e) (I.ok.cab x c hfn hc)))).trans (I.base.keep b o e n hb hx)
    · obtain ⟨sl, e1⟩ := I.base.slot b o e n hb hx
      exact ⟨sl, (hs.2 b (Nat.ne_of_lt (Nat.lt_of_lt_of_le (Heap.lt_size e) (I.ok.cab x c hfn hc)))).trans e1⟩
    · obtain ⟨o', e1⟩ := I.base.there b o e hx
      exact ⟨o', (hs.2 b (Nat.ne_of_lt (Nat.lt_of_lt_of_le (Heap.lt_size e) (I.ok.cab x c hfn hc)))).trans e1⟩
    · by_cases hj : j = i
      · subst hj
        rw [hi] at e1; cases e1
        rw [List.getElem?_set_self hiσ] at e2
        cases e2
        exact ⟨u, r, .inr ⟨.inl hk, c, hc, hc'⟩⟩
      · rw [List.getElem?_set_ne (Ne.symm hj)] at e2
        obtain ⟨u', r', q⟩ := hl j y v' e1 e2 e3
        refine ⟨u', r', ?_⟩
        rcases q with q | ⟨k, c', e, z'⟩
        · exact .inl q
        · refine .inr ⟨k, c', e, z'.sameBut hs ?_⟩
          rintro rfl
          exact hj (nodup_ix hN e1 (I.ok.inj _ _ _ e hc ▸ hi))
    · by_cases hcc : c' = c
      · subst hcc; exact ⟨_, hc'⟩
      · obtain ⟨w2, z2⟩ := I.cell y c' e
        exact ⟨w2, z2.sameBut hs hcc⟩
    · obtain ⟨e, n, ne, nf, d⟩ := I.pin p hp
      refine ⟨(hs.2 p.1 ?_).trans e, n, ne, nf, d⟩
      intro q
      rw [q, hoc] at e
      have q' : oc = p.2 := Option.some.inj e
      exact d w' (by rw [← q']; exact hocd)
theorem store_ok {M : Model} {A : Around} {E : Value → Shared → Prop} {i : Nat} {x : Str} {v : V} {u : Value} {Q : Unit → Shared → Prop} (I : Inv X pins σ H s) (hN : X.N.Nodup) (hi : X.N[i]? = some x) (hx : Loc X.env.scope x) (r : RelV v u)
    (h : ∀ s', Inv X pins (σ.set i (some v)) H s' → Q () s') (hf : X.fn x = true ∨ X.env.scope.names.lookup x = some .local := by first | exact .inl rfl | exact .inr rfl | assumption) : wpAny M A (storeName X.env x u) Q E s :=
  store_ok2 I hN hi hx r (fun s' I' _ => h s' I') hf
/-  behind a call or a block, the state as it is -/
theorem Inv.call' {s' : Shared} {ch : List Addr} (I : Inv X pins σ H s) (ho : s'.os = s.os) (u : Un (frs X.stack) ch H H' s.heap s'.heap) (hok : HOk X.prog X.w H' s'.heap) (hg : AllBare s'.gens)
    (hch : ∀ b ∈ ch, (b ∈ X.ex ∨ X.s₀.heap.objs.size ≤ b) ∧ b ≠ X.env.locals ∧ (∀ x c, X.env.cells.lookup x = some c → c ≠ b) ∧ ∀ p ∈ X.pn ++ pins, p.1 ≠ b) : Inv X pins σ H' s' := by
  obtain ⟨h', g', d', t', o'⟩ := s'
  have e : o' = s.os := ho
  subst e
  exact I.call (g' := g') (t' := t') (d' := d') u hok hg hch
end

/-! ### the judgements -/
/-  an exception: its class, its own dict's address (where it has one), the abstract heap behind it -/
abbrev XK := Value → Option Addr → Hp → Prop
abbrev St := List (Option V)
abbrev VK := V → Hp → Prop
/-  an expression's reading; a test's; an argument list's -/
abbrev TE := St → Hp → VK → Prop
abbrev TT := St → Hp → (Bool → Hp → Prop) → Prop
abbrev TA := St → Hp → (List V → Hp → Prop) → Prop
/-  what is wanted behind a statement -/
structure Ends where
  nx : St → Hp → Prop
  rt : VK
  bk : St → Hp → Prop := fun _ _ => False
  ct : St → Hp → Prop := fun _ _ => False
abbrev TS := Ends → St → Hp → Prop

def EP (X : Cx) (pins : List (Addr × Obj)) (σ : St) (Q : VK) (u : Value) (s' : Shared) : Prop := ∃ v H', Inv X pins σ H' s' ∧ RelV v u ∧ Q v H'
def TP (X : Cx) (pins : List (Addr × Obj)) (σ : St) (Q : Bool → Hp → Prop) (b : Bool) (s' : Shared) : Prop := ∃ H', Inv X pins σ H' s' ∧ Q b H'
def AP (X : Cx) (pins : List (Addr × Obj)) (σ : St) (Q : List V → Hp → Prop) (us : List Value) (s' : Shared) : Prop := ∃ vs H', Inv X pins σ H' s' ∧ Vals vs us ∧ Q vs H'
def SP (X : Cx) (pins : List (Addr × Obj)) (D : Ends) (f : Flow) (s' : Shared) : Prop :=
  match f with
  | .next => ∃ σ' H', Inv X pins σ' H' s' ∧ D.nx σ' H'
  | .brk => ∃ σ' H', Inv X pins σ' H' s' ∧ D.bk σ' H'
  | .cont => ∃ σ' H', Inv X pins σ' H' s' ∧ D.ct σ' H'
  | .ret u => ∃ v σ' H', Inv X pins σ' H' s' ∧ RelV v u ∧ D.rt v H'

def PE (X : Cx) (e : Expr) (t : TE) : Prop :=
  ∀ (pins : List (Addr × Obj)) (s : Shared) (σ : St) (H : Hp) (Q : VK), Inv X pins σ H s → t σ H Q → wpAny (model X.prog X.w) X.A (eval e X.env) (EP X pins σ Q) X.xe s
def PT (X : Cx) (e : Expr) (t : TT) : Prop :=
  ∀ (pins : List (Addr × Obj)) (s : Shared) (σ : St) (H : Hp) (Q : Bool → Hp → Prop), Inv X pins σ H s → t σ H Q → wpAny (model X.prog X.w) X.A (isTrue e X.env (eval e X.env)) (TP X pins σ Q) X.xe s
/-  a test whatever its 'whole' is (and, or) -/
def PW (X : Cx) (e : Expr) (t : TT) : Prop :=
  ∀ (whole : Sem Value) (pins : List (Addr × Obj)) (s : Shared) (σ : St) (H : Hp) (Q : Bool → Hp → Prop), Inv X pins σ H s → t σ H Q → wpAny (model X.prog X.w) X.A (isTrue e X.env whole) (TP X pins σ Q) X.xe s
theorem PW.pt {X : Cx} {e : Expr} {t : TT} (h : PW X e t) : PT X e t := h _
/-  an argument list (no star), from the left -/
def PA (X : Cx) (es : List Expr) (t : TA) : Prop :=
  ∀ (pos : Pos) (pins : List (Addr × Obj)) (s : Shared) (σ : St) (H : Hp) (Q : List V → Hp → Prop), Inv X pins σ H s → t σ H Q → wpAny (model X.prog X.w) X.A (spliced (backTo pos (starEach es X.env))) (AP X pins σ Q) X.xe s
def PS (X : Cx) (st : Stmt) (t : TS) : Prop :=
  ∀ (pins : List (Addr × Obj)) (s : Shared) (σ : St) (H : Hp) (D : Ends), Inv X pins σ H s → t D σ H → wpAny (model X.prog X.w) X.A (exec st X.env) (SP X pins D) X.xe s
def PSs (X : Cx) (st : List Stmt) (t : TS) : Prop :=
  ∀ (pins : List (Addr × Obj)) (s : Shared) (σ : St) (H : Hp) (D : Ends), Inv X pins σ H s → t D σ H → wpAny (model X.prog X.w) X.A (execs st X.env) (SP X pins D) X.xe s
/-  weaken the end -/
theorem thn {α : Type} {t : Sem α} {Q Q' : α → Shared → Prop} {M : Model} {A : Around} {E : Value → Shared → Prop} {s : Shared} (h : wpAny M A t Q E s) (hQ : ∀ a s, Q a s → Q' a s) : wpAny M A t Q' E s := wpAny_mono h hQ fun _ _ x => x
end L2

namespace L2
open PySem PySem.Spec PyProof.Rows
section
variable {X : Cx}


/-! ### names and constants -/
def tVar (i : Nat) : TE := fun σ H Q => ∃ v, σ[i]? = some (some v) ∧ Q v H
def tC (v : V) : TE := fun _ H Q => Q v H
theorem pe_var {i : Nat} {x : Str} {pos : Pos} (hN : X.N[i]? = some x) (hv : Vis X.env.scope x) (hd : (x == ("__debug__" : Str)) = false := by decide) (hcd : (x == ("__classdict__" : Str)) = false := by decide) : PE X (.Name x pos) (tVar i) := by
  intro pins s σ H Q I h
  obtain ⟨v, e, h⟩ := h
  obtain ⟨m, hn, hl⟩ := I.loc
  obtain ⟨u, r, l⟩ := hl i x v hN e hv
  have fin : EP X pins σ Q u s := ⟨v, H, I, r, h⟩
  rcases l with ⟨hk, hm⟩ | ⟨hk, c, hc, hcell⟩
  · exact wpAny_Name (wpAny_loadName_local I.ok.kind hk hn hm fin) hd
  · rcases hk with hk | hk
    · exact wpAny_Name (wpAny_loadName_cell I.ok.kind hk hc hcell fin) hd
    · exact wpAny_Name (wpAny_loadName_free I.ok.kind hk hc hcell fin hcd) hd
theorem pe_int {i j pos} : PE X (.Constant (.int i) j pos) (tC (.int i)) := fun _ _ _ H _ I h => wpAny_Constant_int ⟨.int i, H, I.tok _, ⟨_, rfl⟩, h⟩
theorem pe_bl {b j pos} : PE X (.Constant (.bool b) j pos) (tC (.bl b)) := fun _ _ _ H _ I h => Constant_bool ⟨.bl b, H, I, rfl, h⟩
theorem pe_non {j pos} : PE X (.Constant .none j pos) (tC .non) := fun _ _ _ H _ I h => Constant_none ⟨.non, H, I, rfl, h⟩
theorem pe_str {x j pos} : PE X (.Constant (.str x) j pos) (tC (.str x)) := fun _ _ _ H _ I h => Calls.Constant_str ⟨.str x, H, I.tok _, ⟨_, rfl⟩, h⟩

/-  a global name of the def -/
def Gl (X : Cx) (x : Str) : Prop := X.env.kindOf x = some .globalImplicit
theorem ld_glob {E : Value → Shared → Prop} {pins : List (Addr × Obj)} {s : Shared} {σ : St} {H : Hp} {x : Str} {u : Value} {pos : Pos} {Q : Value → Shared → Prop} (I : Inv X pins σ H s) (hg : Gl X x) (hm : X.mg x = some u) (h : Q u s)
    (hd : (x == ("__debug__" : Str)) = false := by decide) : wpAny (model X.prog X.w) X.A (eval (.Name x pos) X.env) Q E s :=
  Calls.Name_function_global I.ok.kind hg (Calls.loadGlobal_global (by rw [I.ok.glob]; exact I.mod.glob.keeps I.bk) hm h) hd
theorem ld_blt {E : Value → Shared → Prop} {pins : List (Addr × Obj)} {s : Shared} {σ : St} {H : Hp} {x : Str} {u : Value} {pos : Pos} {Q : Value → Shared → Prop} (I : Inv X pins σ H s) (hg : Gl X x) (hm : X.mg x = none) (hv : bootBuiltins x = some u) (h : Q u s)
    (hn : x ≠ "__name__" := by decide) (hd : (x == ("__debug__" : Str)) = false := by decide) : wpAny (model X.prog X.w) X.A (eval (.Name x pos) X.env) Q E s := by
  obtain ⟨mb, h1, h2⟩ := I.mod.blt
  exact Calls.Name_function_global I.ok.kind hg (Calls.loadGlobal_builtin (by rw [I.ok.glob]; exact I.mod.glob.keeps I.bk) hm (by rw [I.ok.blt]; exact h1.keeps I.bk) ((h2 x hn).trans hv) h) hd
theorem pe_bltn {x : Str} {v : V} {u : Value} {pos : Pos} (hg : Gl X x) (hm : X.mg x = none) (hv : bootBuiltins x = some u) (r : RelV v u) (hn : x ≠ "__name__" := by decide) (hd : (x == ("__debug__" : Str)) = false := by decide) : PE X (.Name x pos) (tC v) :=
  fun _ _ _ H _ I h => ld_blt I hg hm hv ⟨v, H, I, r, h⟩ hn hd

/-! ### arithmetic -/
variable {a b : Expr} {ta tb : TE} {pos : Pos}

/-! ### comparisons -/
/-  a comparison as a value, as a test -/
def tB (t : TE) : TT := fun σ H Q => t σ H fun x H1 => ∃ c, x = .bl c ∧ Q c H1
/-  an expression whose value is a bool, as a test -/
theorem pt_val {e : Expr} {t : TE} (h : PE X e t) (he : ∀ whole, isTrue e X.env whole = (do let v ← whole; standAt e.pos; holding [v] (truthy v)) := by intro _; rfl) : PT X e (tB t) := by
  intro pins s σ H Q I hw
  refine isTrue_plain (thn (h pins s σ H _ I hw) fun v s1 ⟨x, H1, I1, r1, q1⟩ => ?_) (he _)
  obtain ⟨d, rfl, q⟩ := q1
  cases r1
  exact wpAny_truthy_bool ⟨H1, I1, q⟩

/-! ### and, or, not -/
variable {tA tB' : TT} {rest : List Expr}
def tAnd (t u : TT) : TT := fun σ H Q => t σ H fun c H1 => if c = true then u σ H1 Q else Q false H1
def tOr (t u : TT) : TT := fun σ H Q => t σ H fun c H1 => if c = true then Q true H1 else u σ H1 Q
def tNot (t : TT) : TT := fun σ H Q => t σ H fun c H1 => Q (!c) H1
theorem pw_and1 (ha : PT X a tA) : PW X (.BoolOp .And [a] pos) tA := by
  intro wh pins s σ H Q I h
  refine isTrue_and (thn (ha pins s σ H Q I h) fun c s1 e => ?_)
  cases c with
  | true => exact isTrue_and_nil e
  | false => exact e
theorem pw_or1 (ha : PT X a tA) : PW X (.BoolOp .Or [a] pos) tA := by
  intro wh pins s σ H Q I h
  refine isTrue_or (thn (ha pins s σ H Q I h) fun c s1 e => ?_)
  cases c with
  | false => exact isTrue_or_nil e
  | true => exact e
theorem pw_and (ha : PT X a tA) (hb : PW X (.BoolOp .And (b :: rest) pos) tB') : PW X (.BoolOp .And (a :: b :: rest) pos) (tAnd tA tB') := by
  intro wh pins s σ H Q I h
  refine isTrue_and (thn (ha pins s σ H _ I h) fun c s1 ⟨H1, I1, q1⟩ => ?_)
  cases c with
  | true => exact hb wh pins s1 σ H1 Q I1 q1
  | false => exact ⟨H1, I1, q1⟩
theorem pw_or (ha : PT X a tA) (hb : PW X (.BoolOp .Or (b :: rest) pos) tB') : PW X (.BoolOp .Or (a :: b :: rest) pos) (tOr tA tB') := by
  intro wh pins s σ H Q I h
  refine isTrue_or (thn (ha pins s σ H _ I h) fun c s1 ⟨H1, I1, q1⟩ => ?_)
  cases c with
  | true => exact ⟨H1, I1, q1⟩
  | false => exact hb wh pins s1 σ H1 Q I1 q1
theorem pt_not (ha : PT X a tA) : PT X (.UnaryOp .Not a pos) (tNot tA) := by
  intro pins s σ H Q I h
  exact isTrue_not (ha pins s σ H (fun c H1 => Q (!c) H1) I h)
/-  .. as values (bools) -/
def tAndV (ta tb : TE) : TE := fun σ H Q => ta σ H fun x H1 => ∃ c, x = .bl c ∧ if c = true then tb σ H1 Q else Q (.bl false) H1
def tOrV (ta tb : TE) : TE := fun σ H Q => ta σ H fun x H1 => ∃ c, x = .bl c ∧ if c = true then Q (.bl true) H1 else tb σ H1 Q
def tNotV (ta : TE) : TE := fun σ H Q => ta σ H fun x H1 => ∃ c, x = .bl c ∧ Q (.bl (!c)) H1
theorem pe_one {op} {t : TE} (h : PE X a t) : PE X (.BoolOp op [a] pos) t := fun pins s σ H Q I hw => BoolOp_one (h pins s σ H Q I hw)
theorem pe_and (ha : PE X a ta) (hb : PE X (.BoolOp .And (b :: rest) pos) tb) : PE X (.BoolOp .And (a :: b :: rest) pos) (tAndV ta tb) := by
  intro pins s σ H Q I h
  refine BoolOp_and (thn (ha pins s σ H _ I h) fun v s1 ⟨x, H1, I1, r1, q1⟩ => ?_)
  obtain ⟨c, rfl, q1⟩ := q1
  cases r1
  refine wpAny_truthy_bool ?_
  cases c with
  | true => exact hb pins s1 σ H1 Q I1 q1
  | false => exact ⟨.bl false, H1, I1, rfl, q1⟩
theorem pe_or (ha : PE X a ta) (hb : PE X (.BoolOp .Or (b :: rest) pos) tb) : PE X (.BoolOp .Or (a :: b :: rest) pos) (tOrV ta tb) := by
  intro pins s σ H Q I h
  refine BoolOp_or (thn (ha pins s σ H _ I h) fun v s1 ⟨x, H1, I1, r1, q1⟩ => ?_)
  obtain ⟨c, rfl, q1⟩ := q1
  cases r1
  refine wpAny_truthy_bool ?_
  cases c with
  | false => exact hb pins s1 σ H1 Q I1 q1
  | true => exact ⟨.bl true, H1, I1, rfl, q1⟩
/-  a if t else b -/
def tIf (t : TT) (ta tb : TE) : TE := fun σ H Q => t σ H fun c H1 => if c = true then ta σ H1 Q else tb σ H1 Q
theorem pe_ifExp {c : Expr} (hc : PT X c tA) (ha : PE X a ta) (hb : PE X b tb) : PE X (.IfExp c a b pos) (tIf tA ta tb) := by
  intro pins s σ H Q I h
  refine wpAny_IfExp (thn (hc pins s σ H _ I h) fun d s1 ⟨H1, I1, q1⟩ => ?_)
  cases d with
  | true => exact ha pins s1 σ H1 Q I1 q1
  | false => exact hb pins s1 σ H1 Q I1 q1
end
end L2

namespace L2
open PySem PySem.Spec PyProof.Rows

/-! ### a list, a tuple that is read: tracked, frozen, or an object of the module -/
def SqL (K : PySem.W.Frag) (H : Hp) (a : Addr) (xs : List V) : Prop :=
  Rd H a (.lst xs) ∨
    ∃ (o : Obj) (its : Array Value) (n : Nat), K.lookup a = some o ∧ o.cls = .type "list" ∧ o.dict = none ∧ o.data = .seq its n ∧ its.size ≤ sizeLine ∧ Vals xs its.toList
def SqT (K : PySem.W.Frag) (H : Hp) (a : Addr) (xs : List V) : Prop :=
  Rd H a (.tup xs) ∨
    ∃ (o : Obj) (its : Array Value) (n : Nat), K.lookup a = some o ∧ o.cls = .type "tuple" ∧ o.data = .seq its n ∧ its.size ≤ sizeLine ∧ Vals xs its.toList
def absV : Value → Option V
  | .none => some .non
  | .bool b => some (.bl b)
  | .int i _ => some (.int i)
  | .str x _ => some (.str x)
  | .bytes b _ => some (.byt b)
  | .float b _ => some (.flt b)
  | .ref a => some (.ref a)
  | .type n => some (.ty n)
  | _ => none
theorem RelV.abs {x : V} {u : Value} (r : RelV x u) : absV u = some x := by
  cases x with
  | non => cases r; rfl
  | bl _ => cases r; rfl
  | int _ => obtain ⟨t, rfl⟩ := r; rfl
  | str _ => obtain ⟨t, rfl⟩ := r; rfl
  | byt _ => obtain ⟨t, rfl⟩ := r; rfl
  | flt _ => obtain ⟨t, rfl⟩ := r; rfl
  | ref _ => cases r; rfl
  | ty _ => cases r; rfl
theorem RelV.inj {x y : V} {u : Value} (r : RelV x u) (q : RelV y u) : x = y := Option.some.inj (r.abs.symm.trans q.abs)
theorem Vals.inj : ∀ {xs ys : List V} {us : List Value}, Vals xs us → Vals ys us → xs = ys
  | _, _, _, .nil, .nil => rfl
  | _, _, _, .cons r t, .cons r' t' => by rw [r.inj r', Vals.inj t t']
section
variable {X : Cx} {pins : List (Addr × Obj)} {σ : St} {H : Hp} {s : Shared} {a : Addr} {xs ys : List V}
theorem SqL.of {K : PySem.W.Frag} (h : H a = some (.lst xs)) : SqL K H a xs := .inl (.inl h)
theorem SqT.of {K : PySem.W.Frag} (h : H a = some (.tup xs)) : SqT K H a xs := .inl (.inl h)
theorem Inv.list (I : Inv X pins σ H s) (h : SqL X.K H a xs) : ∃ its : List Value, Vals xs its ∧ PlainL s.heap a its.toArray ∧ xs.length ≤ sizeLine := by
  rcases h with h | ⟨o, its, n, hk, hc, hd, hs, hz, r⟩
  · obtain ⟨z, its, n, r, e⟩ := h.ok I.hok
    exact ⟨its, r, ⟨_, n, e, rfl, rfl, rfl⟩, z⟩
  · refine ⟨its.toList, r, ⟨o, n, I.kIn a o hk, hc, hd, by simpa using hs⟩, ?_⟩
    have e := r.length
    simp only [Array.length_toList] at e
    omega
theorem Inv.tuple (I : Inv X pins σ H s) (h : SqT X.K H a xs) : ∃ its : List Value, Vals xs its ∧ IsTup s.heap a its.toArray ∧ xs.length ≤ sizeLine := by
  rcases h with h | ⟨o, its, n, hk, hc, hs, hz, r⟩
  · obtain ⟨z, its, r, p⟩ := h.ok I.hok
    exact ⟨its, r, p, z⟩
  · refine ⟨its.toList, r, ⟨o, I.kIn a o hk, hc, n, by simpa using hs⟩, ?_⟩
    have e := r.length
    simp only [Array.length_toList] at e
    omega
theorem Inv.list_inj (I : Inv X pins σ H s) (h : SqL X.K H a xs) (h' : SqL X.K H a ys) : xs = ys := by
  obtain ⟨its, r, ⟨o, n, e, _, _, d⟩, _⟩ := I.list h
  obtain ⟨its', r', ⟨o', n', e', _, _, d'⟩, _⟩ := I.list h'
  rw [e] at e'; cases e'
  rw [d] at d'
  injection d' with d1 _
  have : its = its' := by simpa using congrArg Array.toList d1
  subst this
  exact r.inj r'
theorem Inv.tuple_inj (I : Inv X pins σ H s) (h : SqT X.K H a xs) (h' : SqT X.K H a ys) : xs = ys := by
  obtain ⟨its, r, ⟨o, e, _, n, d⟩, _⟩ := I.tuple h
  obtain ⟨its', r', ⟨o', e', _, n', d'⟩, _⟩ := I.tuple h'
  rw [e] at e'; cases e'
  rw [d] at d'
  injection d' with d1 _
  have : its = its' := by simpa using congrArg Array.toList d1
  subst this
  exact r.inj r'
end

/-! ### another wish about exceptions -/
abbrev Cx.wish (X : Cx) (E : Value → Shared → Prop) : Cx := { X with xe := E }
/-  no exception leaves -/
abbrev Cx.nox (X : Cx) : Cx := X.wish fun _ _ => False
theorem Cx.Ok.wish {X : Cx} (ok : X.Ok) (E : Value → Shared → Prop) : (X.wish E).Ok :=
  ⟨ok.mod, ok.kind, ok.glob, ok.blt, ok.above, ok.inj, ok.has, ok.cab, ok.hd, ok.frames, ok.stk, ok.exf, ok.bs, ok.bsz, ok.noex, ok.exfs, ok.funs, ok.frf⟩
theorem Cx.Ok.unwish {X : Cx} {E : Value → Shared → Prop} (ok : (X.wish E).Ok) : X.Ok :=
  ⟨ok.mod, ok.kind, ok.glob, ok.blt, ok.above, ok.inj, ok.has, ok.cab, ok.hd, ok.frames, ok.stk, ok.exf, ok.bs, ok.bsz, ok.noex, ok.exfs, ok.funs, ok.frf⟩
section
variable {X : Cx} {pins : List (Addr × Obj)} {σ : St} {H : Hp} {s : Shared} {E : Value → Shared → Prop}
theorem Inv.wish (I : Inv X pins σ H s) (E : Value → Shared → Prop) : Inv (X.wish E) pins σ H s := ⟨I.ok.wish E, I.os, I.bare, I.base, I.loc, I.cell, I.free, I.freeC, I.pin, I.hok, I.len⟩
theorem Inv.unwish (I : Inv (X.wish E) pins σ H s) : Inv X pins σ H s := ⟨I.ok.unwish, I.os, I.bare, I.base, I.loc, I.cell, I.free, I.freeC, I.pin, I.hok, I.len⟩
theorem SP.unwish {D : Ends} {f : Flow} {s' : Shared} (h : SP (X.wish E) pins D f s') : SP X pins D f s' := by
  cases f with
  | next => obtain ⟨σ', H', I, q⟩ := h; exact ⟨σ', H', I.unwish, q⟩
  | brk => obtain ⟨σ', H', I, q⟩ := h; exact ⟨σ', H', I.unwish, q⟩
  | cont => obtain ⟨σ', H', I, q⟩ := h; exact ⟨σ', H', I.unwish, q⟩
  | ret u => obtain ⟨v, σ', H', I, r, q⟩ := h; exact ⟨v, σ', H', I.unwish, r, q⟩
theorem PSs.nox {st : List Stmt} {t : TS} (h : PSs X.nox st t) : PSs X st t := fun pins s σ H D I hw =>
  wpAny_mono (h pins s σ H D (I.wish _) hw) (fun _ _ q => q.unwish) fun _ _ z => False.elim z
end

/-! ### blocks and small statements -/
section
variable {X : Cx} {st : Stmt} {rest : List Stmt} {t u : TS} {e : Expr} {te : TE} {pos : Pos}
def tNext : TS := fun D σ H => D.nx σ H
def tSeq (t u : TS) : TS := fun D σ H => t { D with nx := u D } σ H
theorem pss_nil : PSs X [] tNext := fun _ _ σ H _ I h => wpAny_execs_nil ⟨σ, H, I, h⟩
theorem pss_cons (h1 : PS X st t) (h2 : PSs X rest u) : PSs X (st :: rest) (tSeq t u) := by
  intro pins s σ H D I h
  refine wpAny_execs_cons (thn (h1 pins s σ H { D with nx := u D } I h) fun f s1 q => ?_)
  cases f with
  | next =>
    obtain ⟨σ', H', I', q⟩ := q
    exact h2 pins s1 σ' H' D I' q
  | ret v => exact q
  | brk => exact q
  | cont => exact q
theorem pss_one (h1 : PS X st t) : PSs X [st] t := by
  intro pins s σ H D I h
  refine wpAny_execs_cons (thn (h1 pins s σ H D I h) fun f s1 q => ?_)
  cases f with
  | next => exact wpAny_execs_nil q
  | ret v => exact q
  | brk => exact q
  | cont => exact q
def tBreak : TS := fun D σ H => D.bk σ H
/-  in a def's body nothing is shown -/
theorem Inv.quiet {pins : List (Addr × Obj)} {σ : St} {H : Hp} {s : Shared} (I : Inv X pins σ H s) : interactive X.env = false := by simp [interactive, I.ok.kind]
/-  an expression whose value is dropped -/
def tDrop (te : TE) : TS := fun D σ H => te σ H fun _ H1 => D.nx σ H1
theorem ps_expr (he : PE X e te) (hs : swapsWith e none pos.line X.env = pure false := by rfl) : PS X (.Expr e pos) (tDrop te) := by
  intro pins s σ H D I h
  exact wpAny_Expr_any (thn (he pins s σ H _ I h) fun v s1 ⟨x, H1, I1, r1, q1⟩ => ⟨σ, H1, I1, q1⟩) I.quiet hs
def tRet (te : TE) : TS := fun D σ H => te σ H D.rt
theorem ps_ret (he : PE X e te) : PS X (.Return (some e) pos) (tRet te) := by
  intro pins s σ H D I h
  exact wpAny_Return_some (thn (he pins s σ H _ I h) fun v s1 ⟨x, H1, I1, r1, q1⟩ => ⟨x, σ, H1, I1, r1, q1⟩)
def tRetN : TS := fun D _ H => D.rt .non H
def tIfS (c : TT) (t u : TS) : TS := fun D σ H => c σ H fun b H1 => if b = true then t D σ H1 else u D σ H1
theorem ps_if {c : Expr} {a b : List Stmt} {tc : TT} (hc : PT X c tc) (ha : PSs X a t) (hb : PSs X b u) : PS X (.If c a b pos) (tIfS tc t u) := by
  intro pins s σ H D I h
  refine wpAny_If (thn (hc pins s σ H _ I h) fun d s1 ⟨H1, I1, q1⟩ => ?_)
  cases d with
  | true => exact ha pins s1 σ H1 D I1 q1
  | false => exact hb pins s1 σ H1 D I1 q1
end

/-! ### targets -/
abbrev TG := V → St → Hp → (St → Hp → Prop) → Prop
abbrev TGs := List V → St → Hp → (St → Hp → Prop) → Prop
def PG (X : Cx) (target : Expr) (t : TG) : Prop :=
  ∀ (pins : List (Addr × Obj)) (s : Shared) (σ : St) (H : Hp) (v : V) (u : Value) (Q : St → Hp → Prop), Inv X pins σ H s → RelV v u → t v σ H Q →
    wpAny (model X.prog X.w) X.A (assign target X.env u) (fun _ s' => ∃ σ' H', Inv X pins σ' H' s' ∧ Q σ' H') X.xe s
/-  several targets, one after another -/
def PGs (X : Cx) (ts : List Expr) (t : TGs) : Prop :=
  ∀ (pins : List (Addr × Obj)) (s : Shared) (σ : St) (H : Hp) (vs : List V) (us : List Value) (Q : St → Hp → Prop), Inv X pins σ H s → Vals vs us → t vs σ H Q →
    wpAny (model X.prog X.w) X.A (assignInOrder ((assignEach ts X.env).map (·.2)) us) (fun _ s' => ∃ σ' H', Inv X pins σ' H' s' ∧ Q σ' H') X.xe s
/-  o[i] = v, by values -/
abbrev TSet := V → V → V → Hp → (Hp → Prop) → Prop
def PSet (X : Cx) (t : TSet) : Prop :=
  ∀ (pins : List (Addr × Obj)) (s : Shared) (σ : St) (H : Hp) (o i v : V) (ov iv u : Value) (Q : Hp → Prop), Inv X pins σ H s → RelV o ov → RelV i iv → RelV v u → t o i v H Q →
    wpAny (model X.prog X.w) X.A (setItem ov iv u) (fun _ s' => ∃ H', Inv X pins σ H' s' ∧ Q H') X.xe s
/-  a op= b, by values -/
abbrev TIp := V → V → Hp → VK → Prop
section
variable {X : Cx} {pos : Pos}
def gName (i : Nat) : TG := fun v σ H Q => Q (σ.set i (some v)) H
theorem pg_name {i : Nat} {x : Str} (hN : X.N.Nodup) (hi : X.N[i]? = some x) (hx : Loc X.env.scope x) (hf : X.fn x = true ∨ X.env.scope.names.lookup x = some .local := by first | exact .inl rfl | exact .inr rfl | assumption) : PG X (.Name x pos) (gName i) := by
  intro pins s σ H v u Q I r h
  exact wpAny_assign_Name (store_ok I hN hi hx r (fun s' I' => ⟨_, H, I', h⟩) hf)
def gNil : TGs := fun vs σ H Q => vs = [] ∧ Q σ H
def gCons (t : TG) (u : TGs) : TGs := fun vs σ H Q => ∃ v r, vs = v :: r ∧ t v σ H fun σ' H' => u r σ' H' Q
theorem pgs_nil : PGs X [] gNil := by
  intro pins s σ H vs us Q I r h
  obtain ⟨e, h⟩ := h
  subst e
  cases r
  exact assignInOrder_nil ⟨σ, H, I, h⟩
theorem pgs_cons {e : Expr} {es : List Expr} {t : TG} {u : TGs} (h1 : PG X e t) (h2 : PGs X es u)
    (hs : (assignEach (e :: es) X.env).map (·.2) = assign e X.env :: (assignEach es X.env).map (·.2) := by rfl) : PGs X (e :: es) (gCons t u) := by
  intro pins s σ H vs us Q I r h
  obtain ⟨v, vr, e1, h⟩ := h
  subst e1
  cases r with
  | cons r rr =>
    rw [hs]
    refine assignInOrder_cons (thn (h1 pins s σ H _ _ _ I r h) fun _ s1 ⟨σ1, H1, I1, q1⟩ => ?_)
    exact h2 pins s1 σ1 H1 _ _ Q I1 rr q1
/-  (a, b, ..) = a tuple of that length -/
def gTup (K : PySem.W.Frag) (n : Nat) (t : TGs) : TG := fun v σ H Q => ∃ a xs, v = .ref a ∧ SqT K H a xs ∧ xs.length = n ∧ t xs σ H Q
theorem pg_tup {es : List Expr} {k : Nat} {t : TGs} {n : Nat} (hc : X.calm = true) (h : PGs X es t)
    (hn : (assignEach es X.env).length = n := by rfl) (hst : (assignEach es X.env).findIdx? (·.1) = none := by rfl) : PG X (.Tuple es k pos) (gTup X.K n t) := by
  intro pins s σ H v u Q I r hw
  obtain ⟨a, xs, e1, hq, hl, hw⟩ := hw
  subst e1
  cases r
  obtain ⟨its, rv, ht, hz⟩ := I.tuple hq
  refine assign_Tuple_tuple (I.ok.hd hc) ht (by simp [hn, ← hl, rv.length]) hst fun h' hx => ?_
  have I1 : Inv X pins σ H { s with heap := h' } := I.kept (t' := s.toks) fun b o e => hx b o (Nat.ne_of_lt (Heap.lt_size e)) e
  exact h pins _ σ H xs _ Q I1 (by simpa using rv) hw
/-  o[i] = .. -/
def gSub (to ti : TE) (t : TSet) : TG := fun v σ H Q => to σ H fun o H1 => ti σ H1 fun i H2 => t o i v H2 fun H3 => Q σ H3
theorem pg_sub {o i : Expr} {to ti : TE} {t : TSet} (ho : PE X o to) (hi : PE X i ti) (hs : PSet X t)
    (ha : ∀ v, assign (.Subscript o i pos) X.env v = (do
      let ov ← holding [v] (eval o X.env)
      let iv ← holding [v, ov] (eval i X.env)
      standAt pos
      holding [v, ov, iv] (setItem ov iv v)
      release [v, ov, iv] []) := by intro _; rfl) : PG X (.Subscript o i pos) (gSub to ti t) := by
  intro pins s σ H v u Q I r h
  rw [ha]
  refine wpAny_bind (wpAny_holding (thn (ho pins s σ H _ I h) fun ov s1 ⟨x, H1, I1, r1, q1⟩ => ?_))
  refine wpAny_bind (wpAny_holding (thn (hi pins s1 σ H1 _ I1 q1) fun iv s2 ⟨y, H2, I2, r2, q2⟩ => ?_))
  refine wpAny_bind (wpAny_standAt (wpAny_bind (wpAny_holding (thn (hs pins s2 σ H2 x y v ov iv u _ I2 r1 r2 r q2) fun _ s3 ⟨H3, I3, q3⟩ => ?_))))
  exact wpAny_release ⟨σ, H3, I3, q3⟩
/-  target = value -/
def tAsg (te : TE) (g : TG) : TS := fun D σ H => te σ H fun x H1 => g x σ H1 D.nx
theorem ps_asg {tg e : Expr} {te : TE} {g : TG} (he : PE X e te) (hg : PG X tg g) (hs : swapsWithSole [tg] e pos.line X.env = pure false := by rfl) (hw : swappedStores [tg] e X.env = pure none := by rfl)
    (h1 : (assignEach [tg] X.env).map (·.2) = [assign tg X.env] := by rfl) : PS X (.Assign [tg] e pos) (tAsg te g) := by
  intro pins s σ H D I h
  refine wpAny_Assign_stores (thn (he pins s σ H _ I h) fun v s1 ⟨x, H1, I1, r1, q1⟩ => ?_) hs hw
  rw [h1]
  exact thn (hg pins s1 σ H1 x v _ I1 r1 q1) fun _ s2 q => q
/-  name = value -/
theorem ps_set {i : Nat} {x : Str} {e : Expr} {te : TE} {pos' : Pos} (hN : X.N.Nodup) (hi : X.N[i]? = some x) (hx : Loc X.env.scope x) (he : PE X e te) (hs : swapsWith e (some (.Name x pos')) pos.line X.env = pure false := by rfl) (hf : X.fn x = true ∨ X.env.scope.names.lookup x = some .local := by first | exact .inl rfl | exact .inr rfl | assumption) :
    PS X (.Assign [.Name x pos'] e pos) (tAsg te (gName i)) := by
  intro pins s σ H D I h
  refine wpAny_Assign_Name (thn (he pins s σ H _ I h) fun v s1 ⟨y, H1, I1, r1, q1⟩ => ?_) hs
  exact store_ok I1 hN hi hx r1 (fun s2 I2 => ⟨_, H1, I2, q1⟩) hf
/-  a, b = x, y with plain local names: stored from the right; the pair itself is not tracked (the opening rows as in PyProof/Rows/TupAssign.lean:23) -/
def tPar (i j : Nat) (ta : TA) : TS := fun D σ H => ta σ H fun vs H1 => ∃ v w, vs = [v, w] ∧ D.nx ((σ.set i (some v)).set j (some w)) H1
theorem ps_par {i j : Nat} {x y : Str} {a b : Expr} {ta : TA} {px py pt : Pos} {kt k2 pt2} (hc : X.calm = true) (hN : X.N.Nodup) (hi : X.N[i]? = some x) (hj : X.N[j]? = some y) (hij : i ≠ j)
    (hx : X.env.scope.names.lookup x = some .local) (hy : X.env.scope.names.lookup y = some .local) (ha : PA X [a, b] ta)
    (hw : swappedStores [.Tuple [.Name x px, .Name y py] kt pt] (.Tuple [a, b] k2 pt2) X.env = pure (some [x, y]))
    (hs : swapsWithSole [.Tuple [.Name x px, .Name y py] kt pt] (.Tuple [a, b] k2 pt2) pos.line X.env = pure false := by rfl) :
    PS X (.Assign [.Tuple [.Name x px, .Name y py] kt pt] (.Tuple [a, b] k2 pt2) pos) (tPar i j ta) := by
  intro pins s σ H D I h
  rw [exec_Assign_arm]
  refine wpAny_bind (wpAny_standAt ?_)
  rw [hs]
  refine wpAny_bind (wpAny_pure ?_)
  rw [if_neg (by decide)]
  refine wpAny_bind (Tuple_ (thn (ha _ pins s σ H _ I h) fun us s1 ⟨vs, H1, I1, r1, q1⟩ => ?_))
  obtain ⟨v, w, e1, q1⟩ := q1
  subst e1
  obtain ⟨u1, u2, rfl, rv, rw'⟩ : ∃ u1 u2, us = [u1, u2] ∧ RelV v u1 ∧ RelV w u2 := by
    cases r1 with
    | cons p q =>
      cases q with
      | cons p' q' =>
        cases q'
        exact ⟨_, _, rfl, p, p'⟩
  refine wpAny_newObj_type ?_ (by show 2 ≤ sizeLine; decide)
  have I2 : Inv X pins σ H1 { s1 with heap := s1.heap.push { cls := .type "tuple", data := .seq [u1, u2].toArray } } := I1.kept (t' := s1.toks) fun b o e => Heap.get?_push_of_some _ e
  rw [hw]
  refine wpAny_bind (wpAny_pure ?_)
  show wpAny (model X.prog X.w) X.A (do rule "assign.swapped-stores"; let items ← unpackItems (.ref s1.heap.objs.size) 2 none; assignInOrder [fun v => bindName X.env y v, fun v => bindName X.env x v] items.reverse; pure Flow.next) _ _ _
  refine wpAny_bind (wpAny_rule (wpAny_bind (unpackItems_tuple (items := #[u1, u2]) (I.ok.hd hc) (IsTup.new s1.heap _) fun h' hx' => ?_)))
  have I3 := I2.kept (h' := h') (t' := s1.toks) fun b o e => hx' b o (Nat.ne_of_lt (Heap.lt_size e)) e
  show wpAny _ _ (assignInOrder [fun v => bindName X.env y v, fun v => bindName X.env x v] [u2, u1] >>= fun _ => pure Flow.next) _ _ _
  refine wpAny_bind (assignInOrder_cons (wpAny_bindName (store_ok I3 hN hj (.inl hy) rw' (fun s2 I4 => ?_) (.inr hy))))
  refine assignInOrder_cons (wpAny_bindName (store_ok I4 hN hi (.inl hx) rv (fun s3 I5 => assignInOrder_nil (wpAny_pure ?_)) (.inr hx)))
  rw [List.set_comm _ _ (Ne.symm hij)] at I5
  exact ⟨_, H1, I5, q1⟩
/-  name op= e -/
def tAug (i : Nat) (te : TE) (ti : TIp) : TS := fun D σ H => ∃ x, σ[i]? = some (some x) ∧ te σ H fun y H1 => ti x y H1 fun z H2 => D.nx (σ.set i (some z)) H2
/-  o[i] op= e -/
def tAugS (to ti te : TE) (tget : V → V → Hp → VK → Prop) (tip : TIp) (tset : TSet) : TS := fun D σ H => to σ H fun o H1 => ti σ H1 fun i H2 => tget o i H2 fun x H3 => te σ H3 fun y H4 => tip x y H4 fun z H5 => tset o i z H5 fun H6 => D.nx σ H6
/-  ints -/
def ipI (f : Int → Int → Int) : TIp := fun x y H Q => ∃ i j, x = .int i ∧ y = .int j ∧ Q (.int (f i j)) H
end

/-! ### while -/
section
variable {X : Cx} {pos : Pos}
/-  the invariant W with its measure -/
def tWhile (c : TT) (tb : TS) : TS := fun D σ H => ∃ W : Nat → St → Hp → Prop, (∃ m, W m σ H) ∧ ∀ m σ H, W m σ H →
  c σ H fun b H1 => if b = true then ∃ N : St → Hp → Prop, (∀ σ' H', N σ' H' → ∃ m', m' < m ∧ W m' σ' H') ∧ tb { D with nx := N, ct := N, bk := D.nx } σ H1 else D.nx σ H1
theorem ps_while {c : Expr} {body : List Stmt} {tc : TT} {tb : TS} (hp : PassesOwn (model X.prog X.w) X.A X.env X.xe) (hc : PT X c tc) (hb : PSs X body tb) : PS X (.While c body [] pos) (tWhile tc tb) := by
  intro pins s σ H D I h
  obtain ⟨W, ⟨m0, w0⟩, turn⟩ := h
  refine wpAny_While (codeAny_whileLoop (fun n s' => ∃ σ' H', Inv X pins σ' H' s' ∧ W n σ' H') ?_ m0 ⟨σ, H, I, w0⟩)
  rintro n s1 ⟨σ1, H1, I1, w1⟩
  refine wpAny_passesOwn hp (thn (hc pins s1 σ1 H1 _ I1 (turn n σ1 H1 w1)) fun b s2 ⟨H2, I2, q2⟩ => ?_)
  cases b with
  | true =>
    obtain ⟨N, hN, q2⟩ := q2
    rw [if_pos rfl]
    refine wpAny_passesOwn hp (thn (hb pins s2 σ1 H2 _ I2 q2) fun f s3 q3 => ?_)
    cases f with
    | next =>
      obtain ⟨σ3, H3, I3, n3⟩ := q3
      obtain ⟨m', hm, w3⟩ := hN σ3 H3 n3
      exact ⟨m', hm, σ3, H3, I3, w3⟩
    | cont =>
      obtain ⟨σ3, H3, I3, n3⟩ := q3
      obtain ⟨m', hm, w3⟩ := hN σ3 H3 n3
      exact ⟨m', hm, σ3, H3, I3, w3⟩
    | brk => exact q3
    | ret v => exact q3
  | false =>
    rw [if_neg Bool.false_ne_true]
    exact wpAny_execs_nil ⟨σ1, H2, I2, q2⟩
end

/-! ### what a loop or a comprehension walks -/
/-  at turn i: it yields x (the heap may grow), or it stops -/
structure It where
  go : Nat → Hp → Prop
  yld : Nat → Hp → V → Hp → Prop
  stop : Nat → Hp → Prop
/-  the iterator's own objects may turn: they are not the frame's, not pinned, younger than the entry (or a comprehension's own) -/
def FpOk (X : Cx) (pins : List (Addr × Obj)) (H : Hp) (b : Addr) : Prop :=
  H b = none ∧ b ≠ X.env.locals ∧ b ∉ X.fs ∧ (b ∈ X.ex ∨ X.s₀.heap.objs.size ≤ b) ∧ (∀ x c, X.env.cells.lookup x = some c → c ≠ b) ∧ ∀ p ∈ X.pn ++ pins, p.1 ≠ b
theorem Inv.fpOk {X : Cx} {pins : List (Addr × Obj)} {σ : St} {H H' : Hp} {s : Shared} {b : Addr} (I : Inv X pins σ H s) (hb : s.heap.objs.size ≤ b) (hn : H' b = none) : FpOk X pins H' b := by
  refine ⟨hn, Nat.ne_of_gt (Nat.lt_of_lt_of_le I.lt hb), I.nofs hb, .inr (Nat.le_trans I.sz hb), fun x c e z => ?_, fun p hp z => ?_⟩
  · obtain ⟨v, q⟩ := I.cell x c e
    exact absurd (Nat.lt_of_lt_of_le q.lt (by rw [z]; exact hb)) (Nat.lt_irrefl _)
  · exact absurd (Nat.lt_of_lt_of_le (Heap.lt_size (I.pin p hp).1) (by rw [z]; exact hb)) (Nat.lt_irrefl _)
structure Turn (P : Program) (w : World) (K : PySem.W.Frag) (tg : Expr) (J : It) (fp : List Addr) (it : Addr) (tn : Nat → Heap → Prop) : Prop where
  mem : it ∈ fp
  obj : ∀ i h, tn i h → ∀ b ∈ fp, ∃ o, h.get? b = some o ∧ ∀ v, o.data ≠ .cell v
  keep : ∀ i h h', tn i h → (∀ b ∈ fp, ∀ o, h.get? b = some o → h'.get? b = some o) → tn i h'
  item : ∀ (X : Cx), X.prog = P → X.w = w → X.K = K → X.calm = true → ∀ (i : Nat) (pins : List (Addr × Obj)) (s : Shared) (σ : St) (H : Hp) (E : Value → Shared → Prop), Inv X pins σ H s → (∀ b ∈ fp, FpOk X pins H b) → tn i s.heap → J.go i H →
    wpAny (model P w) X.A (pyNext (.ref it)) (fun r s1 => ∃ u, r = some u ∧
      wpAny (model P w) X.A (letOwnedTupleGo tg (.ref it) u) (fun _ s2 => ∃ x H', Inv X pins σ H' s2 ∧ RelV x u ∧ J.yld i H x H' ∧ tn (i + 1) s2.heap ∧ ∀ b ∈ fp, H' b = none) E s1) E s
  done : ∀ (X : Cx), X.prog = P → X.w = w → X.K = K → X.calm = true → ∀ (i : Nat) (pins : List (Addr × Obj)) (s : Shared) (σ : St) (H : Hp) (E : Value → Shared → Prop), Inv X pins σ H s → (∀ b ∈ fp, FpOk X pins H b) → tn i s.heap → J.stop i H →
    wpAny (model P w) X.A (pyNext (.ref it)) (fun r s1 => r = none ∧ Inv X pins σ H s1) E s
  self : ∀ (A : Around) (i : Nat) (s : Shared) (Q : Value → Shared → Prop) (E : Value → Shared → Prop), tn i s.heap → Q (.ref it) s → wpAny (model P w) A (pyIter (.ref it)) Q E s
abbrev TI := St → Hp → (It → Hp → Prop) → Prop
/-  an iterator has come -/
def PIE (X : Cx) (pins : List (Addr × Obj)) (σ : St) (tg : Expr) (R : It → Hp → Prop) (itv : Value) (s2 : Shared) : Prop :=
  ∃ (it : Addr) (fp : List Addr) (tn : Nat → Heap → Prop) (J : It) (H' : Hp), itv = .ref it ∧ Inv X pins σ H' s2 ∧ Turn X.prog X.w X.K tg J fp it tn ∧ tn 0 s2.heap ∧ (∀ b ∈ fp, FpOk X pins H' b) ∧ R J H'
def PI (X : Cx) (tg iter : Expr) (wi : TI) : Prop :=
  ∀ (pins : List (Addr × Obj)) (s : Shared) (σ : St) (H : Hp) (R : It → Hp → Prop), Inv X pins σ H s → wi σ H R →
    wpAny (model X.prog X.w) X.A (eval iter X.env) (fun v s1 => wpAny (model X.prog X.w) X.A (pyIter v) (PIE X pins σ tg R) X.xe s1) X.xe s

/-  the step ahead of the store is nothing for an iterator that keeps no tuple -/
theorem go_of {M : Model} {A : Around} {E : Value → Shared → Prop} {s : Shared} {tg : Expr} {it : Addr} {u : Value} {o : Obj} {n : String} {vs : Array Value} {Q : Unit → Shared → Prop} (ho : s.heap.get? it = some o) (hc : o.cls = .type n) (hd : o.data = .fields vs)
    (hn : ["enumerate", "zip", "dict_itemiterator", "dict_reverseitemiterator", "odict_iterator", "itertools.zip_longest", "itertools.pairwise"].contains n = false) (hQ : Q () s) : wpAny M A (letOwnedTupleGo tg (.ref it) u) Q E s := by
  unfold letOwnedTupleGo
  cases tg <;> first
    | exact wpAny_pure hQ
    | (cases u <;> first
        | exact wpAny_pure hQ
        | (refine wpAny_bind (wpAny_load ho ?_)
           rw [hc, hd]
           show wpAny M A (if (["enumerate", "zip", "dict_itemiterator", "dict_reverseitemiterator", "odict_iterator", "itertools.zip_longest", "itertools.pairwise"].contains n && vs[0]? == some (rawInt _)) = true then _ else _) Q E s
           rw [if_neg (by intro h; rw [hn, Bool.false_and] at h; cases h)]
           exact wpAny_pure hQ))

/-  the list at a, as it stands at each turn (a loop may append to it) -/
def Itl (K : PySem.W.Frag) (a : Addr) : It :=
  ⟨fun i H => ∃ xs x, SqL K H a xs ∧ xs[i]? = some x, fun i H x H' => H' = H ∧ ∀ xs, SqL K H a xs → xs[i]? = some x, fun i H => ∃ xs, SqL K H a xs ∧ xs.length ≤ i⟩
def Itt (K : PySem.W.Frag) (a : Addr) : It :=
  ⟨fun i H => ∃ xs x, SqT K H a xs ∧ xs[i]? = some x, fun i H x H' => H' = H ∧ ∀ xs, SqT K H a xs → xs[i]? = some x, fun i H => ∃ xs, SqT K H a xs ∧ xs.length ≤ i⟩
/-  lo, lo + 1, .. (n of them) -/
def Itr (lo : Int) (n : Nat) : It := ⟨fun i _ => i < n, fun i H x H' => H' = H ∧ x = .int (lo + i), fun i _ => n ≤ i⟩
theorem turn_list {P : Program} {w : World} {K : PySem.W.Frag} {tg : Expr} (a it : Addr) : Turn P w K tg (Itl K a) [it] it (fun i h => h.IsListIter it a i) where
  mem := by simp
  obj := fun i h st b hb => by
    have e : b = it := by simpa using hb
    subst e
    obtain ⟨o, e, c, d⟩ := st
    exact ⟨o, e, fun v z => by rw [d] at z; cases z⟩
  keep := fun i h h' st k => st.at fun o e => k it (by simp) o e
  item := by
    intro X hP hw hK hc i pins s σ H E I hf st hg
    subst hP hw hK
    obtain ⟨xs, x, hq, hx⟩ := hg
    obtain ⟨its, rv, p, hz⟩ := I.list hq
    obtain ⟨u, hu, ru⟩ := rv.get hx
    obtain ⟨f0, f1, f2, f3, f4, f5⟩ := hf it (by simp)
    refine wpAny_pyNext_list_item st p.isList (x := u) (by simpa using hu) fun h' st' sb => ?_
    have I1 : Inv X pins σ H { s with heap := h' } := I.turned (t' := s.toks) (fun b o hb e => (sb.2 b hb).trans e) f0 f1 f3 f4 f5
    obtain ⟨o, e, c, d⟩ := id st'
    exact ⟨u, rfl, go_of (s := { s with heap := h' }) e c d (by decide) ⟨x, H, I1, ru, ⟨rfl, fun ys hy => by rw [I.list_inj hy hq]; exact hx⟩, st', fun b hb => (hf b hb).1⟩⟩
  done := by
    intro X hP hw hK hc i pins s σ H E I hf st hg
    subst hP hw hK
    obtain ⟨xs, hq, hx⟩ := hg
    obtain ⟨its, rv, p, hz⟩ := I.list hq
    obtain ⟨f0, f1, f2, f3, f4, f5⟩ := hf it (by simp)
    have hl := rv.length
    exact wpAny_pyNext_list_end (I.ok.hd hc) st p.isList (by simp; omega) fun h' eb => ⟨rfl, I.turned (t' := s.toks) (fun b o hb e => eb b o hb e) f0 f1 f3 f4 f5⟩
  self := fun _ _ _ _ _ st h => wpAny_pyIter_listiter st h
theorem turn_tuple {P : Program} {w : World} {K : PySem.W.Frag} {tg : Expr} (a it : Addr) : Turn P w K tg (Itt K a) [it] it (fun i h => h.IsTupleIter it a i) where
  mem := by simp
  obj := fun i h st b hb => by
    have e : b = it := by simpa using hb
    subst e
    obtain ⟨o, e, c, d⟩ := st
    exact ⟨o, e, fun v z => by rw [d] at z; cases z⟩
  keep := fun i h h' st k => st.at fun o e => k it (by simp) o e
  item := by
    intro X hP hw hK hc i pins s σ H E I hf st hg
    subst hP hw hK
    obtain ⟨xs, x, hq, hx⟩ := hg
    obtain ⟨its, rv, p, hz⟩ := I.tuple hq
    obtain ⟨u, hu, ru⟩ := rv.get hx
    obtain ⟨f0, f1, f2, f3, f4, f5⟩ := hf it (by simp)
    refine wpAny_pyNext_tuple_item st (show s.heap.IsTuple a its.toArray from p) (x := u) (by simpa using hu) fun h' st' sb => ?_
    have I1 : Inv X pins σ H { s with heap := h' } := I.turned (t' := s.toks) (fun b o hb e => (sb.2 b hb).trans e) f0 f1 f3 f4 f5
    obtain ⟨o, e, c, d⟩ := id st'
    exact ⟨u, rfl, go_of (s := { s with heap := h' }) e c d (by decide) ⟨x, H, I1, ru, ⟨rfl, fun ys hy => by rw [I.tuple_inj hy hq]; exact hx⟩, st', fun b hb => (hf b hb).1⟩⟩
  done := by
    intro X hP hw hK hc i pins s σ H E I hf st hg
    subst hP hw hK
    obtain ⟨xs, hq, hx⟩ := hg
    obtain ⟨its, rv, p, hz⟩ := I.tuple hq
    obtain ⟨f0, f1, f2, f3, f4, f5⟩ := hf it (by simp)
    have hl := rv.length
    exact wpAny_pyNext_tuple_end (I.ok.hd hc) st (show s.heap.IsTuple a its.toArray from p) (by simp; omega) fun h' eb => ⟨rfl, I.turned (t' := s.toks) (fun b o hb e => eb b o hb e) f0 f1 f3 f4 f5⟩
  self := fun _ _ _ _ _ st h => wpAny_pyIter_tupleiter st h
theorem turn_range {P : Program} {w : World} {K : PySem.W.Frag} {tg : Expr} (it : Addr) (lo : Int) (n : Nat) : Turn P w K tg (Itr lo n) [it] it (fun i h => IsRangeIter h it (lo + (i : Nat) * 1) ((n : Int) - (i : Nat)) 1) where
  mem := by simp
  obj := fun i h st b hb => by
    have e : b = it := by simpa using hb
    subst e
    exact ⟨_, st, fun v z => by
      have z' : Data.fields _ = Data.cell v := z
      cases z'⟩
  keep := fun i h h' st k => k it (by simp) _ st
  item := by
    intro X hP hw hK hc i pins s σ H E I hf st hg
    subst hP hw hK
    obtain ⟨f0, f1, f2, f3, f4, f5⟩ := hf it (by simp)
    have W := Walks.range (prog := X.prog) (w := X.w) (I.ok.hd hc) it lo 1 n
    refine W.item i s _ _ hg st fun v h' tk hv st' kk => ?_
    obtain ⟨t, rfl⟩ := hv
    have I1 : Inv X pins σ H { s with heap := h', toks := tk } := I.turned (fun b o hb e => kk b o (by simpa using hb) e) f0 f1 f3 f4 f5
    refine ⟨_, rfl, go_of (s := { s with heap := h', toks := tk }) (n := "range_iterator") st' rfl rfl (by decide) ⟨.int (lo + i), H, I1, ⟨t, ?_⟩, ⟨rfl, rfl⟩, st', fun b hb => (hf b hb).1⟩⟩
    rw [Int.mul_one]
  done := by
    intro X hP hw hK hc i pins s σ H E I hf st hg
    subst hP hw hK
    obtain ⟨f0, f1, f2, f3, f4, f5⟩ := hf it (by simp)
    exact wpAny_pyNext_range_end (I.ok.hd hc) st (by have : n ≤ i := hg; omega) fun h' eb => ⟨rfl, I.turned (t' := s.toks) (fun b o hb e => eb b o hb e) f0 f1 f3 f4 f5⟩
  self := fun _ _ _ _ _ st h => wpAny_pyIter_rangeiter st h
end L2

namespace L2
open PySem PySem.Spec PyProof.Rows
section
variable {X : Cx} {tg : Expr}
def iList (K : PySem.W.Frag) (tl : TE) : TI := fun σ H R => tl σ H fun x H1 => ∃ a, x = .ref a ∧ (∃ xs, SqL K H1 a xs) ∧ R (Itl K a) H1
def iTup (K : PySem.W.Frag) (tl : TE) : TI := fun σ H R => tl σ H fun x H1 => ∃ a, x = .ref a ∧ (∃ xs, SqT K H1 a xs) ∧ R (Itt K a) H1
theorem pi_list {l : Expr} {tl : TE} (hl : PE X l tl) : PI X tg l (iList X.K tl) := by
  intro pins s σ H R I h
  refine thn (hl pins s σ H _ I h) fun v s1 ⟨x, H1, I1, r1, q1⟩ => ?_
  obtain ⟨a, e, ⟨xs, hq⟩, q⟩ := q1
  subst e
  cases r1
  obtain ⟨its, rv, p, hz⟩ := I1.list hq
  refine wpAny_pyIter_list p.isList ?_
  refine ⟨s1.heap.objs.size, [s1.heap.objs.size], _, _, H1, rfl, I1.kept (t' := s1.toks) fun b o e => Heap.get?_push_of_some _ e, turn_list a _, ⟨_, Heap.get?_push_size _ rfl, rfl, rfl⟩, fun b hb => ?_, q⟩
  have e : b = s1.heap.objs.size := by simpa using hb
  subst e
  exact I1.fpOk (Nat.le_refl _) (I1.hok.fresh (Nat.le_refl _))
theorem pi_tup {l : Expr} {tl : TE} (hl : PE X l tl) : PI X tg l (iTup X.K tl) := by
  intro pins s σ H R I h
  refine thn (hl pins s σ H _ I h) fun v s1 ⟨x, H1, I1, r1, q1⟩ => ?_
  obtain ⟨a, e, ⟨xs, hq⟩, q⟩ := q1
  subst e
  cases r1
  obtain ⟨its, rv, p, hz⟩ := I1.tuple hq
  refine wpAny_pyIter_tuple (show s1.heap.IsTuple a its.toArray from p) ?_
  refine ⟨s1.heap.objs.size, [s1.heap.objs.size], _, _, H1, rfl, I1.kept (t' := s1.toks) fun b o e => Heap.get?_push_of_some _ e, turn_tuple a _, ⟨_, Heap.get?_push_size _ rfl, rfl, rfl⟩, fun b hb => ?_, q⟩
  have e : b = s1.heap.objs.size := by simpa using hb
  subst e
  exact I1.fpOk (Nat.le_refl _) (I1.hok.fresh (Nat.le_refl _))
/-  a range object just made, walked -/
theorem range_it {pins : List (Addr × Obj)} {σ : St} {H : Hp} {s : Shared} {R : It → Hp → Prop} {E : Value → Shared → Prop} {lo hi : Int} {t u v : Tok} {tk : Nat} (I : Inv X pins σ H s) (h1 : -(2 ^ 62) ≤ lo) (h2 : lo < 2 ^ 62) (h3 : -(2 ^ 62) ≤ hi) (h4 : hi < 2 ^ 62)
    (q : R (Itr lo (hi - lo).toNat) H) : wpAny (model X.prog X.w) X.A (pyIter (.ref s.heap.objs.size)) (PIE X pins σ tg R) E { s with heap := s.heap.push { cls := .type "range", data := .fields #[.int lo t, .int hi u, .int 1 v] }, toks := tk } := by
  refine wpAny_pyIter_range (IsRange.new ..) (small_one h1 h2 h3 h4) ?_
  have I1 : Inv X pins σ H { s with heap := s.heap.push { cls := .type "range", data := .fields #[.int lo t, .int hi u, .int 1 v] }, toks := tk } := I.kept fun b o e => Heap.get?_push_of_some _ e
  refine ⟨(s.heap.push { cls := .type "range", data := .fields #[.int lo t, .int hi u, .int 1 v] }).objs.size, [(s.heap.push { cls := .type "range", data := .fields #[.int lo t, .int hi u, .int 1 v] }).objs.size], _, _, H, rfl,
    I1.kept (t' := tk) fun b o e => Heap.get?_push_of_some _ e, turn_range _ lo (hi - lo).toNat, ?_, fun b hb => ?_, q⟩
  · have e1 : lo + ((0 : Nat) : Int) * 1 = lo := by simp
    have e2 : (((hi - lo).toNat : Nat) : Int) - ((0 : Nat) : Int) = Builtin.Range.rangeSize lo hi 1 := by rw [rangeSize_one]; split <;> omega
    show IsRangeIter _ _ (lo + ((0 : Nat) : Int) * 1) ((((hi - lo).toNat : Nat) : Int) - ((0 : Nat) : Int)) 1
    rw [e1, e2]
    exact Heap.get?_push_size _ rfl
  · have e : b = (s.heap.push { cls := .type "range", data := .fields #[.int lo t, .int hi u, .int 1 v] }).objs.size := by simpa using hb
    subst e
    exact I1.fpOk (Nat.le_refl _) (I1.hok.fresh (Nat.le_refl _))
def iRng1 (ta : TA) : TI := fun σ H R => ta σ H fun vs H1 => ∃ j : Int, vs = [.int j] ∧ -(2 ^ 62) ≤ j ∧ j < 2 ^ 62 ∧ R (Itr 0 j.toNat) H1
def iRng2 (ta : TA) : TI := fun σ H R => ta σ H fun vs H1 => ∃ i j : Int, vs = [.int i, .int j] ∧ (-(2 ^ 62) ≤ i ∧ i < 2 ^ 62 ∧ -(2 ^ 62) ≤ j ∧ j < 2 ^ 62) ∧ R (Itr i (j - i).toNat) H1
theorem pi_range1 {a : Expr} {ta : TA} {p pos : Pos} (hg : Gl X "range") (hm : X.mg "range" = none) (ha : PA X [a] ta) (hs : starEach [a] X.env = [(false, eval a X.env)] := by rfl) : PI X tg (.Call (.Name "range" p) [a] [] pos) (iRng1 ta) := by
  intro pins s σ H R I h
  refine Call_ (ld_blt I hg hm boot_range (PyProof.Rows.callWith_type1 (thn (ha pos pins s σ H _ I h) fun us s1 ⟨vs, H1, I1, r1, q1⟩ => ?_) hs rfl))
  obtain ⟨j, e, q1, q2, q⟩ := q1
  subst e
  cases r1 with
  | cons r rr =>
    cases rr
    obtain ⟨t, rfl⟩ := r
    exact call_range_1 (range_it I1 (by omega) (by omega) q1 q2 (by simpa using q))

/-! ### for -/
/-  W: the invariant by the turn and a measure; N: what the body is to reach -/
def tFor (wi : TI) (g : TG) (tb : TS) : TS := fun D σ H => wi σ H fun J H1 => ∃ W : Nat → Nat → St → Hp → Prop, (∃ m, W 0 m σ H1) ∧ ∀ i m σ H, W i m σ H →
  (J.stop i H ∧ D.nx σ H) ∨ (J.go i H ∧ ∃ N : St → Hp → Prop, (∀ σ' H', N σ' H' → ∃ m', m' < m ∧ W (i + 1) m' σ' H') ∧ ∀ x H', J.yld i H x H' → g x σ H' fun σ2 H2 => tb { D with nx := N, ct := N, bk := D.nx } σ2 H2)
/-  the records at fp as they stand -/
def pinsAt (fp : List Addr) (h : Heap) : List (Addr × Obj) := fp.filterMap fun b => (h.get? b).map fun o => (b, o)
theorem mem_pinsAt {fp : List Addr} {h : Heap} {b : Addr} {o : Obj} (hb : b ∈ fp) (e : h.get? b = some o) : (b, o) ∈ pinsAt fp h := List.mem_filterMap.mpr ⟨b, hb, by rw [e]; rfl⟩
theorem of_pinsAt {fp : List Addr} {h : Heap} {p : Addr × Obj} (hp : p ∈ pinsAt fp h) : p.1 ∈ fp ∧ h.get? p.1 = some p.2 := by
  obtain ⟨b, hb, e⟩ := List.mem_filterMap.mp hp
  cases q : h.get? b with
  | none => rw [q] at e; cases e
  | some o =>
    rw [q] at e
    have e' : (b, o) = p := Option.some.inj e
    subst e'
    exact ⟨hb, q⟩
theorem Inv.pinned {pins : List (Addr × Obj)} {σ : St} {H : Hp} {s : Shared} {fp : List Addr} (I : Inv X pins σ H s) (hf : ∀ b ∈ fp, FpOk X pins H b) (ho : ∀ b ∈ fp, ∃ o, s.heap.get? b = some o ∧ ∀ v, o.data ≠ .cell v) : Inv X (pins ++ pinsAt fp s.heap) σ H s :=
  I.pins_of fun p hp => (List.mem_append.mp hp).elim (fun z => I.pin p (List.mem_append_right _ z)) fun z => by
    obtain ⟨hb, e⟩ := of_pinsAt z
    obtain ⟨f0, f1, f2, _⟩ := hf p.1 hb
    obtain ⟨o, e', d⟩ := ho p.1 hb
    rw [e] at e'; cases e'
    exact ⟨e, f0, f1, f2, d⟩
theorem Inv.unpinned {pins pl : List (Addr × Obj)} {σ : St} {H : Hp} {s : Shared} (I : Inv X (pins ++ pl) σ H s) : Inv X pins σ H s := I.pins_of fun p hp => I.pin p (List.mem_append_right _ (List.mem_append_left _ hp))
theorem ps_for {iter : Expr} {body : List Stmt} {wi : TI} {g : TG} {tb : TS} {pos : Pos} (hp : PassesOwn (model X.prog X.w) X.A X.env X.xe) (hc : X.calm = true) (hi : PI X tg iter wi) (hg : PG X tg g) (hb : PSs X body tb)
    (hs : ∀ x, foldedSetIterable iter X.env x = pure x := by intro _; rfl) : PS X (.For tg iter body [] pos) (tFor wi g tb) := by
  intro pins s σ H D I h
  refine wpAny_For (thn (hi pins s σ H _ I h) fun v s1 h1 => thn h1 fun itv s2 h2 => ?_) hs
  obtain ⟨it, fp, tn, J, H2, e, I2, T, st2, f2, W, ⟨m0, w0⟩, turn⟩ := h2
  subst e
  -- what stays true of the iterator's objects through the loop
  have stat : ∀ {H' : Hp}, (∀ b ∈ fp, H' b = none) → ∀ b ∈ fp, FpOk X pins H' b := fun hn b hb => ⟨hn b hb, (f2 b hb).2⟩
  refine codeAny_forLoop_any (fun n s' => ∃ i σ' H', Inv X pins σ' H' s' ∧ tn i s'.heap ∧ (∀ b ∈ fp, H' b = none) ∧ W i n σ' H') ?_ m0 ⟨0, σ, H2, I2, st2, fun b hb => (f2 b hb).1, w0⟩
  rintro n s3 ⟨i, σ3, H3, I3, st3, fr3, w3⟩
  rcases turn i n σ3 H3 w3 with ⟨stop, qn⟩ | ⟨go, N, hN, step⟩
  · refine wpAny_passesOwn hp (thn (T.done X rfl rfl rfl hc i pins s3 σ3 H3 X.xe I3 (stat fr3) st3 stop) fun r s4 ⟨hr, I4⟩ => ?_)
    subst hr
    exact wpAny_execs_nil ⟨σ3, H3, I4, qn⟩
  · refine wpAny_passesOwn hp (thn (T.item X rfl rfl rfl hc i pins s3 σ3 H3 X.xe I3 (stat fr3) st3 go) fun r s4 ⟨u, hr, h4⟩ => ?_)
    subst hr
    refine wpAny_passesOwn hp (thn h4 fun _ s5 ⟨x, H5, I5, r5, y5, st5, fr5⟩ => ?_)
    have I5' := I5.pinned (stat fr5) (T.obj _ _ st5)
    refine wpAny_passesOwn hp (thn (hg _ s5 σ3 H5 x u _ I5' r5 (step x H5 y5)) fun _ s6 ⟨σ6, H6, I6, q6⟩ => ?_)
    refine wpAny_passesOwn hp (thn (hb _ s6 σ6 H6 _ I6 q6) fun f s7 q7 => ?_)
    have again : ∀ {σ7 : St} {H7 : Hp}, Inv X (pins ++ pinsAt fp s5.heap) σ7 H7 s7 → N σ7 H7 → ∃ m, m < n ∧ ∃ i σ' H', Inv X pins σ' H' s7 ∧ tn i s7.heap ∧ (∀ b ∈ fp, H' b = none) ∧ W i m σ' H' := fun {σ7 H7} I7 n7 => by
      obtain ⟨m', hm, w7⟩ := hN σ7 H7 n7
      refine ⟨m', hm, i + 1, σ7, H7, I7.unpinned, T.keep _ _ _ st5 fun b hb o e => (I7.pin (b, o) (List.mem_append_right _ (List.mem_append_right _ (mem_pinsAt hb e)))).1, fun b hb => ?_, w7⟩
      obtain ⟨o, e, d⟩ := T.obj _ _ st5 b hb
      exact (I7.pin (b, o) (List.mem_append_right _ (List.mem_append_right _ (mem_pinsAt hb e)))).2.1
    cases f with
    | next => obtain ⟨σ7, H7, I7, n7⟩ := q7; exact again I7 n7
    | cont => obtain ⟨σ7, H7, I7, n7⟩ := q7; exact again I7 n7
    | brk => obtain ⟨σ7, H7, I7, q7⟩ := q7; exact ⟨σ7, H7, I7.unpinned, q7⟩
    | ret v => obtain ⟨x7, σ7, H7, I7, r7, q7⟩ := q7; exact ⟨x7, σ7, H7, I7.unpinned, r7, q7⟩
end

/-! ### the forms one uses -/
end L2

namespace L2
open PySem PySem.Spec PyProof.Rows

abbrev R2 := V → V → Hp → VK → Prop
/-  a two-place operation on values: f is binaryOp op, inplaceOp op or compareOp op -/
def OpR (X : Cx) (f : Value → Value → Sem Value) (r : R2) : Prop :=
  ∀ (pins : List (Addr × Obj)) (s : Shared) (σ : St) (H : Hp) (x y : V) (v u : Value) (Q : VK), Inv X pins σ H s → RelV x v → RelV y u → r x y H Q →
    wpAny (model X.prog X.w) X.A (f v u) (EP X pins σ Q) X.xe s
/-  a one-place operation -/
def UnR (X : Cx) (f : Value → Sem Value) (r : V → Hp → VK → Prop) : Prop :=
  ∀ (pins : List (Addr × Obj)) (s : Shared) (σ : St) (H : Hp) (x : V) (v : Value) (Q : VK), Inv X pins σ H s → RelV x v → r x H Q →
    wpAny (model X.prog X.w) X.A (f v) (EP X pins σ Q) X.xe s
/-  a call of a value that is known (a builtin, a type) with values -/
def CallR (X : Cx) (f : Value) (r : List V → Hp → VK → Prop) : Prop :=
  ∀ (pins : List (Addr × Obj)) (s : Shared) (σ : St) (H : Hp) (xs : List V) (us : List Value) (Q : VK), Inv X pins σ H s → Vals xs us → r xs H Q →
    wpAny (model X.prog X.w) X.A (call f us) (EP X pins σ Q) X.xe s
/-  a value's truth -/
def TruR (X : Cx) (r : V → Hp → (Bool → Hp → Prop) → Prop) : Prop :=
  ∀ (pins : List (Addr × Obj)) (s : Shared) (σ : St) (H : Hp) (x : V) (v : Value) (Q : Bool → Hp → Prop), Inv X pins σ H s → RelV x v → r x H Q →
    wpAny (model X.prog X.w) X.A (truthy v) (TP X pins σ Q) X.xe s

def tOp (r : R2) (ta tb : TE) : TE := fun σ H Q => ta σ H fun x H1 => tb σ H1 fun y H2 => r x y H2 Q
def tUn (r : V → Hp → VK → Prop) (ta : TE) : TE := fun σ H Q => ta σ H fun x H1 => r x H1 Q
/-  ints in, under C, and a value out -/
def rI (C : Int → Int → Prop) (g : Int → Int → V) : R2 := fun x y H Q => ∃ i j, x = .int i ∧ y = .int j ∧ C i j ∧ Q (g i j) H
def rI0 (g : Int → Int → V) : R2 := fun x y H Q => ∃ i j, x = .int i ∧ y = .int j ∧ Q (g i j) H
def rU (g : Int → V) : V → Hp → VK → Prop := fun x H Q => ∃ i, x = .int i ∧ Q (g i) H

section
variable {X : Cx} {a b c : Expr} {ta tb tc : TE} {pos : Pos}

theorem binT (ha : PE X a ta) (hb : PE X b tb) {pins : List (Addr × Obj)} {s : Shared} {σ : St} {H : Hp} {R : V → V → Hp → Prop} (I : Inv X pins σ H s)
    (h : ta σ H fun x H1 => tb σ H1 fun y H2 => R x y H2) {Q : Value → Shared → Prop} {f : Value → Value → Sem Value}
    (hf : ∀ v u s2 x y H2, Inv X pins σ H2 s2 → RelV x v → RelV y u → R x y H2 → wpAny (model X.prog X.w) X.A (f v u) Q X.xe s2) :
    wpAny (model X.prog X.w) X.A (eval a X.env) (fun v s₁ => wpAny (model X.prog X.w) X.A (eval b X.env) (fun u s₂ => wpAny (model X.prog X.w) X.A (f v u) Q X.xe s₂) X.xe s₁) X.xe s := by
  refine thn (ha pins s σ H _ I h) fun v s1 ⟨x, H1, I1, r1, q1⟩ => ?_
  refine thn (hb pins s1 σ H1 _ I1 q1) fun u s2 ⟨y, H2, I2, r2, q2⟩ => ?_
  exact hf v u s2 x y H2 I2 r1 r2 q2

theorem pe_op {op : Operator} {r : R2} (ho : OpR X (binaryOp op) r) (ha : PE X a ta) (hb : PE X b tb) : PE X (.BinOp a op b pos) (tOp r ta tb) := by
  intro pins s σ H Q I h
  exact wpAny_BinOp (binT ha hb I h fun v u s2 x y H2 I2 rx ry q => ho pins s2 σ H2 x y v u Q I2 rx ry q)

/-! ### ints -/
theorem opI {f : Value → Value → Sem Value} {C : Int → Int → Prop} {g : Int → Int → Int}
    (rule : ∀ (i j : Int) (t u : Tok) (s : Shared) (Q : Value → Shared → Prop) (E : Value → Shared → Prop), C i j → Q (.int (g i j) s.toks) { s with toks := s.toks + 1 } → wpAny (model X.prog X.w) X.A (f (.int i t) (.int j u)) Q E s) :
    OpR X f (rI C fun i j => .int (g i j)) := by
  intro pins s σ H x y v u Q I rx ry h
  obtain ⟨i, j, rfl, rfl, hc, q⟩ := h
  obtain ⟨t, rfl⟩ := rx
  obtain ⟨t', rfl⟩ := ry
  exact rule i j t t' s _ _ hc ⟨.int (g i j), H, I.tok _, ⟨_, rfl⟩, q⟩
theorem opI0 {f : Value → Value → Sem Value} {g : Int → Int → Int}
    (rule : ∀ (i j : Int) (t u : Tok) (s : Shared) (Q : Value → Shared → Prop) (E : Value → Shared → Prop), Q (.int (g i j) s.toks) { s with toks := s.toks + 1 } → wpAny (model X.prog X.w) X.A (f (.int i t) (.int j u)) Q E s) :
    OpR X f (rI0 fun i j => .int (g i j)) := by
  intro pins s σ H x y v u Q I rx ry h
  obtain ⟨i, j, rfl, rfl, q⟩ := h
  obtain ⟨t, rfl⟩ := rx
  obtain ⟨t', rfl⟩ := ry
  exact rule i j t t' s _ _ ⟨.int (g i j), H, I.tok _, ⟨_, rfl⟩, q⟩
theorem opB0 {f : Value → Value → Sem Value} {g : Int → Int → Bool}
    (rule : ∀ (i j : Int) (t u : Tok) (s : Shared) (Q : Value → Shared → Prop) (E : Value → Shared → Prop), Q (.bool (g i j)) s → wpAny (model X.prog X.w) X.A (f (.int i t) (.int j u)) Q E s) :
    OpR X f (rI0 fun i j => .bl (g i j)) := by
  intro pins s σ H x y v u Q I rx ry h
  obtain ⟨i, j, rfl, rfl, q⟩ := h
  obtain ⟨t, rfl⟩ := rx
  obtain ⟨t', rfl⟩ := ry
  exact rule i j t t' s _ _ ⟨.bl (g i j), H, I, rfl, q⟩

def CDiv (i j : Int) : Prop := 0 < j ∧ j < 1073741824
def CPow (i j : Int) : Prop := 0 ≤ j ∧ j ≤ 1000000 ∧ i.natAbs < 2 ^ 64
def CMul (i j : Int) : Prop := (-(2 ^ 64) < i ∧ i < 2 ^ 64) ∨ (-(2 ^ 64) < j ∧ j < 2 ^ 64)
theorem CMul.ok {i j : Int} (h : CMul i j) : IntMulOk i j := by
  rcases h with ⟨h1, h2⟩ | ⟨h1, h2⟩
  · exact .of_left (intBits_le_64 h1 h2)
  · exact .of_right (intBits_le_64 h1 h2)

theorem op_add : OpR X (binaryOp .Add) (rI0 fun i j => .int (i + j)) := opI0 fun _ _ _ _ _ _ _ q => add_int q
theorem op_sub : OpR X (binaryOp .Sub) (rI0 fun i j => .int (i - j)) := opI0 fun _ _ _ _ _ _ _ q => sub_int q
theorem op_mul : OpR X (binaryOp .Mult) (rI CMul fun i j => .int (i * j)) := opI fun _ _ _ _ _ _ _ hc q => mul_int q hc.ok
/-  // by a positive divisor -/
theorem op_fdiv : OpR X (binaryOp .FloorDiv) (rI CDiv fun i j => .int (i / j)) := opI fun i j _ _ _ _ _ hc q => by
  have h1 : (0 : Int) < j := hc.1
  have h2 : j < 1073741824 := hc.2
  exact floordiv_int (by omega) (by rw [Int.fdiv_eq_ediv_of_nonneg i (by omega)]; exact q) (.inl (PyProof.noPylong_small (by omega)))
/-  % by a positive divisor of any size -/
theorem op_mod : OpR X (binaryOp .Mod) (rI (fun _ j => 0 < j) fun i j => .int (i % j)) := opI fun i j _ _ _ _ _ hc q => by
  have h1 : (0 : Int) < j := hc
  exact mod_int' (by omega) (by rw [Int.fmod_eq_emod_of_nonneg i (by omega)]; exact q)
theorem op_pow : OpR X (binaryOp .Pow) (rI CPow fun i j => .int (i ^ j.toNat)) := opI fun _ _ _ _ _ _ _ hc q => pow_int_small hc.1 hc.2.1 hc.2.2 q



/-! ### bools among ints: n += (a < b) -/
end

/-! ### comparisons -/
/-  the scalars that == tells apart as data does -/
def scal : V → V → Bool
  | .non, .non => true | .non, .int _ => true | .int _, .non => true | .non, .bl _ => true | .bl _, .non => true | .non, .str _ => true | .str _, .non => true
  | .int _, .int _ => true | .bl _, .bl _ => true | .str _, .str _ => true | .byt _, .byt _ => true
  | .int _, .str _ => true | .str _, .int _ => true | .bl _, .str _ => true | .str _, .bl _ => true
  | _, _ => false
def rEq : R2 := fun x y H Q => scal x y = true ∧ Q (.bl (decide (x = y))) H
def rNe : R2 := fun x y H Q => scal x y = true ∧ Q (.bl (!decide (x = y))) H

theorem dec_int {i j : Int} : decide (V.int i = V.int j) = (i == j) := by
  rw [Bool.eq_iff_iff]
  simp
theorem dec_bl {i j : Bool} : decide (V.bl i = V.bl j) = (i == j) := by
  rw [Bool.eq_iff_iff]
  simp
theorem dec_str {i j : Str} : decide (V.str i = V.str j) = (i == j) := by
  rw [Bool.eq_iff_iff]
  simp
theorem dec_byt {i j : Array UInt8} : decide (V.byt i = V.byt j) = (i.toList == j.toList) := by
  rw [Bool.eq_iff_iff]
  cases i
  cases j
  simp

section
variable {X : Cx} {a b c : Expr} {ta tb tc : TE} {pos : Pos}
theorem fin_bl {pins : List (Addr × Obj)} {σ : St} {H : Hp} {s : Shared} {Q : VK} {k k' : Bool} (I : Inv X pins σ H s) (q : Q (.bl k) H) (e : k = k') : EP X pins σ Q (.bool k') s := by
  subst e
  exact ⟨.bl k, H, I, rfl, q⟩
theorem op_eq : OpR X (compareOp .Eq) rEq := by
  intro pins s σ H x y v u Q I rx ry h
  obtain ⟨hs, q⟩ := h
  cases x with
  | non =>
    cases rx
    cases y with
    | non => cases ry; exact PySem.EqNone.eq_none_none (fin_bl I q (by simp))
    | bl j => cases ry; exact PySem.EqNone.eq_none_bool (fin_bl I q (by simp))
    | int j => obtain ⟨t', rfl⟩ := ry; exact PySem.EqNone.eq_none_int (fin_bl I q (by simp))
    | str j => obtain ⟨t', rfl⟩ := ry; exact PySem.EqNone.eq_none_str (fin_bl I q (by simp))
    | _ => exact absurd (show false = true from hs) Bool.false_ne_true
  | bl i =>
    cases rx
    cases y with
    | non => cases ry; exact PySem.EqNone.eq_bool_none (fin_bl I q (by simp))
    | bl j => cases ry; exact eq_bool (fin_bl I q dec_bl)
    | str j => obtain ⟨t', rfl⟩ := ry; exact PySem.EqMixed.eq_bool_str (fin_bl I q (by simp))
    | _ => exact absurd (show false = true from hs) Bool.false_ne_true
  | int i =>
    obtain ⟨t, rfl⟩ := rx
    cases y with
    | non => cases ry; exact PySem.EqNone.eq_int_none (fin_bl I q (by simp))
    | int j => obtain ⟨t', rfl⟩ := ry; exact eq_int (fin_bl I q dec_int)
    | str j => obtain ⟨t', rfl⟩ := ry; exact PySem.EqMixed.eq_int_str (fin_bl I q (by simp))
    | _ => exact absurd (show false = true from hs) Bool.false_ne_true
  | str i =>
    obtain ⟨t, rfl⟩ := rx
    cases y with
    | non => cases ry; exact PySem.EqNone.eq_str_none (fin_bl I q (by simp))
    | bl j => cases ry; exact PySem.EqMixed.eq_str_bool (fin_bl I q (by simp))
    | int j => obtain ⟨t', rfl⟩ := ry; exact PySem.EqMixed.eq_str_int (fin_bl I q (by simp))
    | str j => obtain ⟨t', rfl⟩ := ry; exact eq_str (fin_bl I q dec_str)
    | _ => exact absurd (show false = true from hs) Bool.false_ne_true
  | byt i =>
    obtain ⟨t, rfl⟩ := rx
    cases y with
    | byt j => obtain ⟨t', rfl⟩ := ry; exact PySem.W.eq_bytes (fin_bl I q dec_byt)
    | _ => exact absurd (show false = true from hs) Bool.false_ne_true
  | _ => cases y <;> exact absurd (show false = true from hs) Bool.false_ne_true
theorem op_ne : OpR X (compareOp .NotEq) rNe := by
  intro pins s σ H x y v u Q I rx ry h
  obtain ⟨hs, q⟩ := h
  cases x with
  | non =>
    cases rx
    cases y with
    | non => cases ry; exact PySem.EqNone.ne_none_none (fin_bl I q (by simp))
    | bl j => cases ry; exact PySem.EqNone.ne_none_bool (fin_bl I q (by simp))
    | int j => obtain ⟨t', rfl⟩ := ry; exact PySem.EqNone.ne_none_int (fin_bl I q (by simp))
    | str j => obtain ⟨t', rfl⟩ := ry; exact PySem.EqNone.ne_none_str (fin_bl I q (by simp))
    | _ => exact absurd (show false = true from hs) Bool.false_ne_true
  | bl i =>
    cases rx
    cases y with
    | non => cases ry; exact PySem.EqNone.ne_bool_none (fin_bl I q (by simp))
    | bl j => cases ry; exact ne_bool (fin_bl I q (congrArg not dec_bl))
    | str j => obtain ⟨t', rfl⟩ := ry; exact PySem.EqMixed.ne_bool_str (fin_bl I q (by simp))
    | _ => exact absurd (show false = true from hs) Bool.false_ne_true
  | int i =>
    obtain ⟨t, rfl⟩ := rx
    cases y with
    | non => cases ry; exact PySem.EqNone.ne_int_none (fin_bl I q (by simp))
    | int j => obtain ⟨t', rfl⟩ := ry; exact ne_int (fin_bl I q (congrArg not dec_int))
    | str j => obtain ⟨t', rfl⟩ := ry; exact PySem.EqMixed.ne_int_str (fin_bl I q (by simp))
    | _ => exact absurd (show false = true from hs) Bool.false_ne_true
  | str i =>
    obtain ⟨t, rfl⟩ := rx
    cases y with
    | non => cases ry; exact PySem.EqNone.ne_str_none (fin_bl I q (by simp))
    | bl j => cases ry; exact PySem.EqMixed.ne_str_bool (fin_bl I q (by simp))
    | int j => obtain ⟨t', rfl⟩ := ry; exact PySem.EqMixed.ne_str_int (fin_bl I q (by simp))
    | str j => obtain ⟨t', rfl⟩ := ry; exact ne_str (fin_bl I q (congrArg not dec_str))
    | _ => exact absurd (show false = true from hs) Bool.false_ne_true
  | byt i =>
    obtain ⟨t, rfl⟩ := rx
    cases y with
    | byt j => obtain ⟨t', rfl⟩ := ry; exact PySem.W.ne_bytes (fin_bl I q (congrArg not dec_byt))
    | _ => exact absurd (show false = true from hs) Bool.false_ne_true
  | _ => cases y <;> exact absurd (show false = true from hs) Bool.false_ne_true

theorem op_lt : OpR X (compareOp .Lt) (rI0 fun i j => .bl (decide (i < j))) := opB0 fun _ _ _ _ _ _ _ q => lt_int q
theorem op_gt : OpR X (compareOp .Gt) (rI0 fun i j => .bl (decide (j < i))) := opB0 fun _ _ _ _ _ _ _ q => gt_int q

/-  is None, is not None: the right side a value none -/
theorem op_isN : OpR X (compareOp .Is) (fun x y H Q => y = .non ∧ Q (.bl (decide (x = .non))) H) := by
  intro pins s σ H x y v u Q I rx ry h
  obtain ⟨rfl, q⟩ := h
  cases ry
  refine is_none_gen (fin_bl I q ?_)
  cases x <;> first
    | (cases rx; rfl)
    | (obtain ⟨t, rfl⟩ := rx; rfl)



theorem nomark (b : Expr) {op : CmpOp} (h : op ≠ .In := by decide) (h2 : op ≠ .NotIn := by decide) : behindInMarks op b = false := by
  have e1 : (op == CmpOp.In) = false := by cases op <;> first | rfl | exact absurd rfl h
  have e2 : (op == CmpOp.NotIn) = false := by cases op <;> first | rfl | exact absurd rfl h2
  cases b <;> simp [behindInMarks, e1, e2]
/-  a comparison as a value; hm: nomark b, or (for in, not in) by with_unfolding_all rfl -/
theorem pe_cmpR {op : CmpOp} {r : R2} (ho : OpR X (compareOp op) r) (ha : PE X a ta) (hb : PE X b tb) (hm : behindInMarks op b = false) : PE X (.Compare a [op] [b] pos) (tOp r ta tb) := by
  intro pins s σ H Q I h
  exact wpAny_Compare1 (binT ha hb I h fun v u s2 x y H2 I2 rx ry q => ho pins s2 σ H2 x y v u Q I2 rx ry q) hm
/-  a reading of a value as a test -/
def tTest (t : TE) : TT := fun σ H Q => t σ H fun x H' => ∃ k, x = .bl k ∧ Q k H'
theorem pt_cmpR {op : CmpOp} {r : R2} (ho : OpR X (compareOp op) r) (ha : PE X a ta) (hb : PE X b tb) (hm : behindInMarks op b = false) : PT X (.Compare a [op] [b] pos) (tTest (tOp r ta tb)) := by
  intro pins s σ H Q I h
  refine wpAny_isTrue_Compare1 (thn (ha pins s σ H _ I h) fun v s1 ⟨x, H1, I1, r1, q1⟩ => thn (hb pins s1 σ H1 _ I1 q1) fun u s2 ⟨y, H2, I2, r2, q2⟩ =>
    thn (ho pins s2 σ H2 x y v u _ I2 r1 r2 q2) fun c s3 ⟨z, H3, I3, r3, k, e, q3⟩ => ?_) hm
  subst e
  cases r3
  exact wpAny_truthy_bool ⟨H3, I3, q3⟩
/-  a op1 b op2 c -/
def tChain (r r' : R2) (ta tb tc : TE) : TE := fun σ H Q => ta σ H fun x H1 => tb σ H1 fun y H2 => r x y H2 fun z H3 => ∃ k, z = .bl k ∧
  (if k = true then tc σ H3 fun w' H4 => r' y w' H4 Q else Q (.bl false) H3)

/-! ### truth -/
/-  a value's truth by the abstract heap -/
def TruV (K : PySem.W.Frag) (x : V) (H : Hp) (k : Bool) : Prop :=
  match x with
  | .non => k = false
  | .bl b => k = b
  | .int i => k = (i != 0)
  | .str y => y.length ≤ sizeLine ∧ k = ((y.length : Int) != 0)
  | .byt y => y.size ≤ sizeLine ∧ k = ((y.size : Int) != 0)
  | .ref p => (∃ xs, SqL K H p xs ∧ k = !xs.isEmpty) ∨ (∃ xs, SqT K H p xs ∧ k = !xs.isEmpty) ∨ ∃ kvs, H p = some (.dK kvs) ∧ k = !kvs.isEmpty
  | _ => False
theorem isEmpty_kv {κ : Type} {kvs : List (κ × V)} {vs : List (κ × Value)} (r : KV kvs vs) : (!vs.isEmpty) = !kvs.isEmpty := by
  cases r <;> rfl
theorem isEmpty_of {xs : List V} {its : List Value} (r : Vals xs its) : (!its.toArray.isEmpty) = !xs.isEmpty := by
  cases r <;> simp
theorem line63 : (sizeLine : Nat) < 2 ^ 63 := by rw [sizeLine_eq]; decide
theorem tru_ok : TruR X (fun x H Q => ∃ k, TruV X.K x H k ∧ Q k H) := by
  intro pins s σ H x v Q I rx h
  obtain ⟨k, e, q⟩ := h
  have hl := line63
  have hs : sizeLine = 16777216 := sizeLine_eq
  cases x with
  | non =>
    cases rx
    have e' : k = false := e
    subst e'
    exact truthy_none ⟨H, I, q⟩
  | bl b =>
    cases rx
    have e' : k = b := e
    subst e'
    exact wpAny_truthy_bool ⟨H, I, q⟩
  | int i =>
    obtain ⟨t, rfl⟩ := rx
    have e' : k = (i != 0) := e
    subst e'
    exact PySem.P.truthy_int ⟨H, I, q⟩
  | str y =>
    obtain ⟨t, rfl⟩ := rx
    obtain ⟨hy, e'⟩ : y.length ≤ sizeLine ∧ k = ((y.length : Int) != 0) := e
    subst e'
    exact PySem.P.truthy_str (by omega) ⟨H, I.tok _, q⟩
  | byt y =>
    obtain ⟨t, rfl⟩ := rx
    obtain ⟨hy, e'⟩ : y.size ≤ sizeLine ∧ k = ((y.size : Int) != 0) := e
    subst e'
    exact PySem.W.truthy_bytes (by omega) ⟨H, I.tok _, q⟩
  | ref p =>
    cases rx
    have e' : (∃ xs, SqL X.K H p xs ∧ k = !xs.isEmpty) ∨ (∃ xs, SqT X.K H p xs ∧ k = !xs.isEmpty) ∨ ∃ kvs, H p = some (.dK kvs) ∧ k = !kvs.isEmpty := e
    rcases e' with ⟨xs, hx, e'⟩ | ⟨xs, hx, e'⟩ | ⟨kvs, hx, e'⟩
    · subst e'
      obtain ⟨its, r, pl, hz⟩ := I.list hx
      have hlen := r.length
      exact wpAny_truthy_list pl.isList (by simp only [List.size_toArray]; omega) ⟨H, I.tok _, by rw [isEmpty_of r]; exact q⟩
    · subst e'
      obtain ⟨its, r, pl, hz⟩ := I.tuple hx
      have hlen := r.length
      exact truthy_tuple pl (by simp only [List.size_toArray]; omega) ⟨H, I.tok _, by rw [isEmpty_of r]; exact q⟩
    · subst e'
      obtain ⟨hz, hS, vs, r, m⟩ : kvs.length ≤ sizeLine ∧ (p == sysModules) = false ∧ ∃ vs, KV kvs vs ∧ s.heap.DictOf (mixKind X.prog X.w) p vs := I.hok p _ hx
      have hlen : kvs.length = vs.length := Paired.length r
      exact wpAny_truthy_dict hS m (by omega) ⟨H, I.tok _, by rw [isEmpty_kv r]; exact q⟩
  | _ => exact (show False from e).elim
/-  any expression whose test is its value's truth (a name, a call, a subscript, a field ..: he by fun _ => rfl) -/
theorem pt_truth (ha : PE X a ta) (he : ∀ whole, isTrue a X.env whole = (do let v ← whole; standAt a.pos; holding [v] (truthy v))) :
    PT X a (fun σ H Q => ta σ H fun x H' => ∃ k, TruV X.K x H' k ∧ Q k H') := by
  intro pins s σ H Q I h
  exact isTrue_plain (thn (ha pins s σ H _ I h) fun v s1 ⟨x, H1, I1, r1, q1⟩ => tru_ok pins s1 σ H1 x v Q I1 r1 q1) (he _)

/-! ### strs and bytes -/


/-! ### scalar builtins, by CallR -/
theorem vals1 {x : V} {us : List Value} (r : Vals [x] us) : ∃ u, us = [u] ∧ RelV x u := by
  cases r with
  | cons r1 r2 => cases r2; exact ⟨_, rfl, r1⟩
theorem vals2 {x y : V} {us : List Value} (r : Vals [x, y] us) : ∃ u w', us = [u, w'] ∧ RelV x u ∧ RelV y w' := by
  cases r with
  | cons r1 r2 =>
    cases r2 with
    | cons r3 r4 => cases r4; exact ⟨_, _, rfl, r1, r3⟩
theorem call_abs : CallR X (.builtin "abs") (fun xs H Q => ∃ i, xs = [.int i] ∧ Q (.int (if i < 0 then -i else i)) H) := by
  intro pins s σ H xs us Q I r h
  obtain ⟨i, rfl, q⟩ := h
  obtain ⟨u, rfl, t, rfl⟩ := vals1 r
  exact call_abs_int fun u tk => ⟨.int (if i < 0 then -i else i), H, I.tok _, ⟨_, rfl⟩, q⟩
/-  len of a str, a bytes, a list, a tuple -/
def LenV (K : PySem.W.Frag) (x : V) (H : Hp) (n : Nat) : Prop :=
  match x with
  | .str y => y.length ≤ sizeLine ∧ n = y.length
  | .byt y => y.size ≤ sizeLine ∧ n = y.size
  | .ref p => (∃ xs, SqL K H p xs ∧ n = xs.length) ∨ ∃ xs, SqT K H p xs ∧ n = xs.length
  | _ => False
end
end L2

namespace L2
open PySem PySem.Spec PyProof.Rows

/-! ### an instance, its attributes a map -/
structure ObjM (h : Heap) (x dx C : Addr) (mA : Str → Option Value) : Prop where
  obj : h.get? x = some (PySem.W.instObj C dx)
  ns : h.Ns1 dx mA
  ne : dx ≠ x

theorem lookIn_ns {h : Heap} {dx : Addr} {mA : Str → Option Value} (n : h.Ns1 dx mA) : ∃ od, h.get? dx = some od ∧ ∀ name, PySem.W.lookIn name od = some (mA name) := by
  obtain ⟨o, es, ep, ho, hd, hk, _, hm⟩ := n
  refine ⟨o, ho, fun name => ?_⟩
  have e := hm name
  unfold nsFind findBy at e
  rw [← Array.find?_toList] at e
  unfold PySem.W.lookIn
  rw [hd]
  dsimp only
  split
  · rename_i y q
    rw [q] at e
    exact congrArg some e
  · rename_i q
    rw [q] at e
    have a : es.toList.any (·.refKey) = false := by
      rw [List.any_eq_false]
      intro y hy
      obtain ⟨z, t, hkey⟩ := hk y (Array.mem_toList_iff.mp hy)
      simp [DictEntry.refKey, hkey]
    have a' : ¬ es.toList.any (·.refKey) = true := by rw [a]; exact Bool.false_ne_true
    rw [if_neg a']
    exact congrArg some e

theorem ObjM.look {h : Heap} {x dx C : Addr} {mA : Str → Option Value} (I : ObjM h x dx C mA) : ∃ od, PySem.W.InstAt h x (PySem.W.instObj C dx) C (some od) ∧ ∀ name, PySem.W.lookIn name od = some (mA name) :=
  let ⟨od, ho, hl⟩ := lookIn_ns I.ns
  ⟨od, ⟨I.obj, rfl, rfl, ho⟩, hl⟩

section
variable {prog : Program} {w : World} {A : Around} {E : Value → Shared → Prop} {s : Shared} {K : PySem.W.Frag} {x dx C f : Addr} {mA : Str → Option Value} {name : Str} {v : Value}



theorem get_meth {pl : Sem Bool} {Q : Value × List Value → Shared → Prop} (X : K.In s.heap) (I : ObjM s.heap x dx C mA) (hg : PySem.W.plainGet K C name = true)
    (hf : PySem.W.findIn K (.ref C) name = some (some (.ref f))) (ht : PySem.W.isFn K (.ref f) = true) (hv : mA name = none) (h : Q (.ref f, [.ref x]) s) :
    wpAny (model prog w) A (getMethod (.ref x) name pl) Q E s := by
  obtain ⟨od, J, hl⟩ := I.look
  exact PySem.W.method_fn X J (PySem.W.plainGet_of hg).1 (PySem.W.plainGet_of hg).2 hf (beq_iff_eq.mp ht) (by show (PySem.W.lookIn name od).map (·.isSome) = some false; rw [hl, hv]; rfl) h


/-  C(..): the dict at the heap's end, the instance behind it; then its __init__ -/
theorem make_map {R : Result → Shared → Prop} {vs : List Value} {kw : List (Str × Value)} (X : K.In s.heap) (hm : PySem.W.makesIn K C = true)
    (hi : PySem.W.findIn K (.ref C) "__init__" = some (some (.ref f))) (hf : PySem.W.typeIn K (.ref f) = some (.type "function"))
    (h : codeAny (model prog w) (A.under (.builtin "type.__call__" ⟨.ref C :: vs, kw⟩)) (.call (.ref f) ⟨.ref (s.heap.objs.size + 1) :: vs, kw⟩) (PySem.W.InitBack (s.heap.objs.size + 1) R)
      { s with heap := (s.heap.push PySem.W.emptyDict).push (PySem.W.instObj C s.heap.objs.size) }) :
    codeAny (model prog w) A (.call (.ref C) ⟨vs, kw⟩) R s := by
  obtain ⟨hh, g, d, t, os⟩ := s
  exact PySem.W.make_core (PySem.W.makes_of X hm) (PySem.W.looks_findIn X hi) (fun self => PySem.W.bind_fn X self hf) (.inl rfl) h
end

/-! ### the attributes as a list of pairs -/
def putF (f : Str) (v : V) : List (Str × V) → List (Str × V)
  | [] => [(f, v)]
  | (g, x) :: r => if g = f then (g, v) :: r else (g, x) :: putF f v r

theorem RelO.none_of {o : Option Value} (r : RelO none o) : o = none := by
  cases o with
  | none => rfl
  | some u => exact (show False from r).elim

section
variable {P : Program} {w : World} {H H' : Hp} {h h' : Heap} {a C dx : Addr} {fs fs' : List (Str × V)}
theorem ins_get (hok : HOk P w H h) (e : H a = some (.ins C dx fs)) : ∃ mA, ObjM h a dx C mA ∧ (∀ f, RelO (fs.lookup f) (mA f)) ∧ PySem.Within mA (fs.map (·.1)) ∧ fs.length ≤ 1000 ∧ H dx = some (.own a) := by
  obtain ⟨d, z, ne, ob, mA, n, r, q⟩ := (show ObjOk P w H h a (.ins C dx fs) from hok a _ e)
  exact ⟨mA, ⟨ob, n, ne⟩, r, q, z, d⟩
end

/-! ### what of the text a class must have -/
structure Cls (K : PySem.W.Frag) (C : Addr) : Prop where
  pg : PySem.W.plainGet K C Str.empty = true
  hd : PySem.W.hasDictIn K C = true
  po : PySem.W.plainOver K C = true
  sa : PySem.W.findIn K (.ref C) "__setattr__" = some (some (.builtin "object.__setattr__"))
theorem Cls.get {K : PySem.W.Frag} {C : Addr} (c : Cls K C) (f : Str) : PySem.W.plainGet K C f = true := c.pg
/-  no class of it has the name -/
def NoAttr (K : PySem.W.Frag) (C : Addr) (f : Str) : Prop := PySem.W.findIn K (.ref C) f = some none
/-  a constant of the class -/
structure Con (K : PySem.W.Frag) (C : Addr) (f : Str) (v : V) (u : Value) : Prop where
  at_ : PySem.W.findIn K (.ref C) f = some (some u)
  rel : RelV v u
  get : PySem.W.specialIn K u "__get__" = some none
  cp : PySem.W.copiedNames.contains f = false
/-  a method: a plain def of the class or of one above it -/
structure Meth (K : PySem.W.Frag) (C : Addr) (m : Str) (f : Addr) : Prop where
  at_ : PySem.W.findIn K (.ref C) m = some (some (.ref f))
  fn : PySem.W.isFn K (.ref f) = true
  kp : PySem.W.keepIn K (.ref f) = true

section
variable {X : Cx} {pins : List (Addr × Obj)} {σ : St} {H : Hp} {s : Shared} {a C dx : Addr} {fs : List (Str × V)} {f : Str} {v : V} {A : Around} {E : Value → Shared → Prop}



theorem getmeth_ok {m : Str} {g : Addr} {pl : Sem Bool} {Q : Value × List Value → Shared → Prop} (I : Inv X pins σ H s) (e : H a = some (.ins C dx fs)) (c : Cls X.K C) (k : Meth X.K C m g) (l : fs.lookup m = none)
    (h : Q (.ref g, [.ref a]) s) : wpAny (model X.prog X.w) A (getMethod (.ref a) m pl) Q E s := by
  obtain ⟨mA, O, r, _, _, _⟩ := ins_get I.hok e
  have hn : mA m = none := RelO.none_of (by rw [← l]; exact r m)
  exact get_meth I.kIn O (c.get m) k.at_ k.fn hn h


/-  a new instance, tracked, without attributes -/
theorem Inv.made (I : Inv X pins σ H s) : Inv X pins σ (upd (upd H s.heap.objs.size (.own (s.heap.objs.size + 1))) (s.heap.objs.size + 1) (.ins C s.heap.objs.size []))
    { s with heap := (s.heap.push PySem.W.emptyDict).push (PySem.W.instObj C s.heap.objs.size) } := by
  have e1 : (s.heap.push PySem.W.emptyDict).get? s.heap.objs.size = some PySem.W.emptyDict := Heap.get?_push_size s.heap rfl
  have e2 : ((s.heap.push PySem.W.emptyDict).push (PySem.W.instObj C s.heap.objs.size)).get? (s.heap.objs.size + 1) = some (PySem.W.instObj C s.heap.objs.size) := by
    have := Heap.get?_push_size (s.heap.push PySem.W.emptyDict) (o := PySem.W.instObj C s.heap.objs.size) rfl
    rwa [Heap.size_push] at this
  have e3 : (s.heap.push PySem.W.emptyDict).Ns s.heap.objs.size (fun _ => none) := ⟨PySem.W.emptyDict, #[], _, e1, rfl, (fun e he => absurd he (by simp)), fun _ => rfl⟩
  have I1 := I.laid (a := s.heap.objs.size) (o := .own (s.heap.objs.size + 1)) (h' := s.heap.push PySem.W.emptyDict) (t' := s.toks) (fun b u q => Heap.get?_push_of_some _ q) (Nat.le_refl _) ⟨_, e1⟩
  refine I1.laid (a := s.heap.objs.size + 1) (o := .ins C s.heap.objs.size []) (t' := s.toks) (fun b u q => Heap.get?_push_of_some _ q) (Nat.le_of_eq (Heap.size_push _ _)) ?_
  have ne : s.heap.objs.size ≠ s.heap.objs.size + 1 := Nat.ne_of_lt (Nat.lt_succ_self _)
  refine ⟨by rw [upd_ne ne, upd_same], Nat.zero_le _, ne, e2, fun _ => none, (Heap.Ns1.of_empty e3).at fun o q => Heap.get?_push_of_some _ q, fun _ => True.intro, fun y hy => absurd rfl hy⟩

end

/-! ### readings and rules -/
/-  e.f, an attribute of the instance -/
def tFld (K : PySem.W.Frag) (ta : TE) (f : Str) : TE := fun σ H Q => ta σ H fun x H1 => ∃ a C dx fs v, x = .ref a ∧ H1 a = some (.ins C dx fs) ∧ Cls K C ∧ NoAttr K C f ∧ fs.lookup f = some v ∧ Q v H1
/-  e.f = value -/
def sFld (K : PySem.W.Frag) (ta tv : TE) (f : Str) : TS := fun D σ H => tv σ H fun y H1 => ta σ H1 fun x H2 => ∃ a C dx fs, x = .ref a ∧ H2 a = some (.ins C dx fs) ∧ Cls K C ∧ NoAttr K C f ∧ fs.length < 1000 ∧
  D.nx σ (upd H2 a (.ins C dx (putF f y fs)))

section
variable {X : Cx} {o e value : Expr} {f : Str} {pos pos' tpos : Pos} {ta tv : TE}

/-  what is between an instance and its method: the tree of a method call -/
theorem methcall_of {pl : Sem Bool} {m : Str} {apos : Pos} {args : List Expr} {pins : List (Addr × Obj)} {s : Shared} {σ : St} {H : Hp} {Q : Value → Shared → Prop} {te : TE} (he : PE X e te) (I : Inv X pins σ H s)
    (h : te σ H fun x H1 => ∃ a C dx fs g, x = .ref a ∧ H1 a = some (.ins C dx fs) ∧ Cls X.K C ∧ Meth X.K C m g ∧ fs.lookup m = none ∧
      ∀ s1, Inv X pins σ H1 s1 → wpAny (model X.prog X.w) X.A (callWith pos (.ref g) [.ref a] (backTo pos (starEach args X.env)) (backToKw pos (keywordEach [] X.env))) Q X.xe s1)
    (ht : eval (.Call (.Attribute e m apos) args [] pos) X.env = (do
      let ov ← eval e X.env
      standAt apos.atName
      let (f, first) ← holding [ov] (getMethod ov m pl)
      callWith pos f first (backTo pos (starEach args X.env)) (backToKw pos (keywordEach [] X.env)))) :
    wpAny (model X.prog X.w) X.A (eval (.Call (.Attribute e m apos) args [] pos) X.env) Q X.xe s := by
  refine PySem.W.methodCall_KW (pl := pl) (thn (he pins s σ H _ I h) fun u s1 ⟨x, H1, I1, rx, a, C, dx, fs, g, ex, ea, c, k, l, q⟩ => ?_) ht
  subst ex
  obtain rfl : u = Value.ref a := rx
  exact getmeth_ok I1 ea c k l (q s1 I1)
end

/-! ### isinstance -/
section
variable {X : Cx} {pins : List (Addr × Obj)} {σ : St} {H : Hp} {s : Shared} {A : Around} {E : Value → Shared → Prop} {Q : Value → Shared → Prop} {c : Value} {b : Bool}
/-  the type of a value, as the fragment's deciders take it; for an instance its class -/
inductive TyOf (K : PySem.W.Frag) (H : Hp) : V → Value → Prop where
  | non : TyOf K H .non (.type "NoneType")
  | bl (x : Bool) : TyOf K H (.bl x) (.type "bool")
  | int (i : Int) : TyOf K H (.int i) (.type "int")
  | str (x : Str) : TyOf K H (.str x) (.type "str")
  | flt (x : UInt64) : TyOf K H (.flt x) (.type "float")
  | lst {a : Addr} {xs : List V} (e : H a = some (.lst xs)) : TyOf K H (.ref a) (.type "list")
  | frz {a : Addr} {o : Obj} {xs : List V} (e : H a = some (.frz o (.lst xs))) : TyOf K H (.ref a) (.type "list")
  | tup {a : Addr} {xs : List V} (e : H a = some (.tup xs)) : TyOf K H (.ref a) (.type "tuple")
  | dK {a : Addr} {kvs : List (Key × V)} (e : H a = some (.dK kvs)) : TyOf K H (.ref a) (.type "dict")
  | dT {a : Addr} {kvs : List (List NKey × V)} (e : H a = some (.dT kvs)) : TyOf K H (.ref a) (.type "dict")
  | ins {a C dx : Addr} {fs : List (Str × V)} (e : H a = some (.ins C dx fs)) (cl : Cls K C) (ha : PySem.W.findIn K (.ref C) "__class__" = some (some (.builtin "object.__class__")))
      (hn : PySem.W.specialIn K (.builtin "object.__class__") "__get__" = some (some (.builtin "getset_descriptor.__get__"))) (htk : PySem.W.takesIn K (.builtin "object.__class__") = some true)
      (hm : PySem.W.mroIn K C (.type "object") = some true) : TyOf K H (.ref a) (.ref C)
/-  isinstance(x, c) for one class c, a built-in or an own one: kitOne's answer -/
theorem isinst_ok {x : V} {u t : Value} (I : Inv X pins σ H s) (rx : RelV x u) (ty : TyOf X.K H x t) (e : PySem.W.kitOne X.K t c = some b) (h : ∀ tk, Q (.bool b) { s with toks := tk }) :
    wpAny (model X.prog X.w) A (call (.builtin "isinstance") [u, c]) Q E s := by
  cases ty with
  | non => cases (show u = Value.none from rx); exact PySem.W.kia_one PySem.W.kitx_none I.kIn True.intro e (fun z => nomatch z) h
  | bl y => cases (show u = Value.bool y from rx); exact PySem.W.kia_one PySem.W.kitx_bool I.kIn True.intro e (fun z => nomatch z) h
  | int i => obtain ⟨t, q⟩ := (show ∃ t, u = Value.int i t from rx); cases q; exact PySem.W.kia_one PySem.W.kitx_int I.kIn True.intro e (fun z => nomatch z) h
  | str y => obtain ⟨t, q⟩ := (show ∃ t, u = Value.str y t from rx); cases q; exact PySem.W.kia_one PySem.W.kitx_str I.kIn True.intro e (fun z => nomatch z) h
  | flt y => obtain ⟨t, q⟩ := (show ∃ t, u = Value.float y t from rx); cases q; exact PySem.W.kia_one PySem.W.kitx_float I.kIn True.intro e (fun z => nomatch z) h
  | @lst a xs ea =>
    cases (show u = Value.ref a from rx)
    obtain ⟨_, _, n, _, h1⟩ := (show ObjOk X.prog X.w H s.heap a (.lst xs) from I.hok a _ ea)
    exact PySem.W.kia_one PySem.W.kitx_list I.kIn ⟨_, h1, rfl⟩ e (fun z => nomatch z) h
  | @frz a ob xs ea =>
    cases (show u = Value.ref a from rx)
    obtain ⟨_, _, _, n, _, h1⟩ := (show ObjOk X.prog X.w H s.heap a (.frz ob (.lst xs)) from I.hok a _ ea)
    exact PySem.W.kia_one PySem.W.kitx_list I.kIn ⟨_, h1, rfl⟩ e (fun z => nomatch z) h
  | @tup a xs ea =>
    cases (show u = Value.ref a from rx)
    obtain ⟨_, _, _, p⟩ := (show ObjOk X.prog X.w H s.heap a (.tup xs) from I.hok a _ ea)
    obtain ⟨o, h1, h2, _⟩ := p
    exact PySem.W.kia_one PySem.W.kitx_tuple I.kIn ⟨o, h1, h2⟩ e (fun z => nomatch z) h
  | @dK a kvs ea =>
    cases (show u = Value.ref a from rx)
    obtain ⟨_, _, vs, _, p⟩ := (show ObjOk X.prog X.w H s.heap a (.dK kvs) from I.hok a _ ea)
    obtain ⟨o, es, ep, h1, h2, _⟩ := p
    exact PySem.W.kia_one PySem.W.kitx_dict I.kIn ⟨o, h1, h2.1⟩ e (fun z => nomatch z) h
  | @dT a kvs ea =>
    cases (show u = Value.ref a from rx)
    obtain ⟨_, _, xs, _, o, es, ep, h1, h2, _⟩ := (show ObjOk X.prog X.w H s.heap a (.dT kvs) from I.hok a _ ea)
    exact PySem.W.kia_one PySem.W.kitx_dict I.kIn ⟨o, h1, h2.1⟩ e (fun z => nomatch z) h
  | @ins a C dx fs ea cl ha hn htk hm =>
    cases (show u = Value.ref a from rx)
    obtain ⟨mA, O, _⟩ := ins_get I.hok ea
    obtain ⟨od, J, _⟩ := O.look
    exact PySem.W.kia_one (PySem.W.kitx_own (cl.get _) cl.hd ha hn htk hm) I.kIn J e (fun z => nomatch z) h
end
end L2

namespace L2
open PySem PySem.Spec PyProof.Rows

/-! ### room -/
structure Room (k : Nat) (A : Around) : Prop where
  hd : A.handled = none
  dp : A.depth + 3 * k + 5 < recursionLimit
  un : A.units + 16 * k + 200 < cLine
theorem Room.mono {j k : Nat} {A : Around} (r : Room k A) (h : j ≤ k) : Room j A := ⟨r.hd, by have := r.dp; omega, by have := r.un; omega⟩
theorem Room.deeper {k : Nat} {A : Around} (r : Room (k + 1) A) (env : Env) : Room k (A.deeper env) :=
  ⟨r.hd, by have := r.dp; show A.depth + 1 + 3 * k + 5 < _; omega, by have := r.un; show A.units + 3 + 16 * k + 200 < _; omega⟩
theorem Room.depth {k : Nat} {A : Around} (r : Room k A) : A.depth < recursionLimit := by have := r.dp; omega
theorem Room.units {k : Nat} {A : Around} (r : Room k A) : A.units + 64 < cLine := by have := r.un; omega

/-! ### argument lists and displays -/
def tNil : TA := fun _ H Q => Q [] H
def tCons (ta : TE) (tr : TA) : TA := fun σ H Q => ta σ H fun x H1 => tr σ H1 fun xs H2 => Q (x :: xs) H2
section
variable {X : Cx} {e : Expr} {es : List Expr} {te : TE} {t : TA} {pos : Pos}
theorem pa_nil : PA X [] tNil := fun _ _ _ _ H Q I h => Calls.spliced_nil ⟨[], H, I, .nil, h⟩
theorem pa_cons (ha : PE X e te) (hr : PA X es t) (hs : starEach (e :: es) X.env = (false, eval e X.env) :: starEach es X.env := by rfl) : PA X (e :: es) (tCons te t) := by
  intro pos pins s σ H Q I h
  rw [hs]
  show wpAny _ _ (spliced ((false, eval e X.env) :: backTo pos (starEach es X.env))) _ _ s
  refine Calls.spliced_cons (thn (ha pins s σ H _ I h) fun u s1 ⟨x, H1, I1, r1, q1⟩ => ?_)
  exact thn (hr pos pins s1 σ H1 _ I1 q1) fun us s2 ⟨xs, H2, I2, r2, q2⟩ => ⟨x :: xs, H2, I2, .cons r1 r2, q2⟩

/-  a tuple, a list of written items -/
def tTup (t : TA) : TE := fun σ H Q => t σ H fun xs H1 => xs.length ≤ sizeLine ∧ ∀ p, H1 p = none → Q (.ref p) (upd H1 p (.tup xs))
def tLst (t : TA) : TE := fun σ H Q => t σ H fun xs H1 => xs.length ≤ sizeLine ∧ ∀ p, H1 p = none → Q (.ref p) (upd H1 p (.lst xs))
theorem pe_tup {x1} (h : PA X es t) : PE X (.Tuple es x1 pos) (tTup t) := by
  intro pins s σ H Q I hq
  refine wpAny_Tuple_spliced (thn (h pos pins s σ H _ I hq) fun us s1 ⟨xs, H1, I1, r, z, q⟩ => ⟨by rw [← r.length]; exact z, ?_⟩)
  have hf : H1 s1.heap.objs.size = none := I1.hok.fresh (Nat.le_refl _)
  refine ⟨.ref s1.heap.objs.size, upd H1 s1.heap.objs.size (.tup xs), I1.laid (t' := s1.toks) (fun b u e => Heap.get?_push_of_some _ e) (Nat.le_refl _) ?_, rfl, q _ hf⟩
  exact ⟨z, us, r, ⟨_, Heap.get?_push_size _ rfl, rfl, _, rfl⟩⟩
theorem pe_lst (h : PA X es t) : PE X (.List es pos) (tLst t) := by
  intro pins s σ H Q I hq
  refine wpAny_List_spliced (thn (h pos pins s σ H _ I hq) fun us s1 ⟨xs, H1, I1, r, z, q⟩ => ⟨by rw [← r.length]; exact z, ?_⟩)
  have hf : H1 s1.heap.objs.size = none := I1.hok.fresh (Nat.le_refl _)
  refine ⟨.ref s1.heap.objs.size, upd H1 s1.heap.objs.size (.lst xs), I1.laid (t' := s1.toks) (fun b u e => Heap.get?_push_of_some _ e) (Nat.le_refl _) ?_, rfl, q _ hf⟩
  exact ⟨z, us, 0, r, Heap.get?_push_size _ rfl⟩
end

/-! ### what a def promises -/
/-  a def's promise: the bound arguments in the parameters' order, the heap, the wanted end, the wanted exception -/
abbrev Sp := List V → Hp → VK → XK → Prop
/-  how an exception lies behind a call (file 08 gives it): the callers' frames, abstract heap and state ahead of the call, the wish, the exception, the state -/
abbrev CXT := List Env → Hp → Shared → XK → Value → Shared → Prop

/-  the state at a call -/
structure Env0 (P : Program) (w : World) (K : PySem.W.Frag) (mg : Str → Option Value) (base : Heap) (A : Around) (outer : List Env) (s : Shared) (H : Hp) : Prop where
  frames : A.frames = some outer
  mod : Mod K mg base
  bs : ∀ b o, base.get? b = some o → s.heap.get? b = some o ∧ H b = none
  bsz : base.objs.size ≤ s.heap.objs.size
  funs : s.heap.FunFrames base outer
  frf : ∀ b ∈ frs outer, H b = none
  hok : HOk P w H s.heap
  bare : AllBare s.gens
/-  a call's end -/
def CE (outer : List Env) (P : Program) (w : World) (H : Hp) (s : Shared) (Q : VK) (u : Value) (s' : Shared) : Prop :=
  ∃ v H', s'.os = s.os ∧ AllBare s'.gens ∧ Un (frs outer) [] H H' s.heap s'.heap ∧ HOk P w H' s'.heap ∧ RelV v u ∧ Q v H'
def CR (CX : CXT) (outer : List Env) (P : Program) (w : World) (H : Hp) (s : Shared) (Q : VK) (E : XK) (r : Result) (s' : Shared) : Prop :=
  match r with
  | .ok (.ret u) => CE outer P w H s Q u s'
  | .ok _ => False
  | .error e => CX outer H s E e s'
structure FnOk (P : Program) (w : World) (K : PySem.W.Frag) (mg : Str → Option Value) (base : Heap) (CX : CXT) (k : Nat) (f : Addr) (fd : FuncData) (ps : List Str) (sp : Sp) : Prop where
  len : ∀ vs H Q E, sp vs H Q E → vs.length = ps.length
  run : ∀ (A : Around) (outer : List Env) (s : Shared) (H : Hp) (args : Args) (us : List Value) (vs : List V) (Q : VK) (E : XK), Room k A → Env0 P w K mg base A outer s H → BindsTo s fd args (ps.zip us) → Vals vs us → sp vs H Q E →
    codeAny (model P w) A (.call (.ref f) args) (CR CX outer P w H s Q E) s


section
variable {X : Cx} {pins : List (Addr × Obj)} {σ : St} {H : Hp} {s s' : Shared}
/-  from a body: what a callee wants -/
theorem Inv.env0 (I : Inv X pins σ H s) : Env0 X.prog X.w X.K X.mg X.base X.A X.stack s H :=
  ⟨I.ok.frames, I.ok.mod, I.bs, Nat.le_trans I.ok.bsz I.sz, I.stack, I.stkFree, I.hok, I.bare⟩
/-  behind a call -/
theorem Inv.after {Q : VK} {u : Value} (I : Inv X pins σ H s) (h : CE X.stack X.prog X.w H s Q u s') : EP X pins σ Q u s' := by
  obtain ⟨v, H', os, bare, un, hok, r, q⟩ := h
  obtain ⟨hh, g, d, t, os'⟩ := s'
  obtain rfl : os' = s.os := os
  exact ⟨v, H', I.call (h' := hh) (g' := g) (d' := d) (t' := t) (ch := []) un hok bare (fun b z => absurd z (by simp)), r, q⟩
end

/-! ### calls -/
/-  f(..): the written arguments, then the defaults dvs; E: what is wanted of an exception -/
def tCall (sp : Sp) (dvs : List V) (E : XK) (t : TA) : TE := fun σ H Q => t σ H fun vs H1 => sp (vs ++ dvs) H1 Q E
/-  o.m(..) of an instance of the class at C -/
def tMeth (C : Addr) (m : Str) (sp : Sp) (dvs : List V) (E : XK) (ta : TE) (t : TA) : TE := fun σ H Q => ta σ H fun x H1 => ∃ a dx fs, x = .ref a ∧ H1 a = some (.ins C dx fs) ∧ fs.lookup m = none ∧
  t σ H1 fun vs H2 => sp (x :: (vs ++ dvs)) H2 Q E
/-  C(..): a new instance and its dict, then __init__ -/
def tMake (C : Addr) (sp : Sp) (dvs : List V) (E : XK) (t : TA) : TE := fun σ H Q => t σ H fun vs H1 => ∀ x dx, H1 x = none → H1 dx = none → dx ≠ x →
  sp (.ref x :: (vs ++ dvs)) (upd (upd H1 dx (.own x)) x (.ins C dx [])) (fun v H2 => v = .non ∧ Q (.ref x) H2) E

/-  how the parameters are bound: us the positional arguments, kw the keywords' values by name, ds the defaults that fill up -/
def Binds (K : PySem.W.Frag) (fd : FuncData) (ps : List Str) (ds : List Value) : Prop :=
  ∀ (s : Shared) (us : List Value), K.In s.heap → (us ++ ds).length = ps.length → BindsTo s fd ⟨us, []⟩ (ps.zip (us ++ ds))
/-  every parameter is given -/
theorem Binds.all {K : PySem.W.Frag} {fd : FuncData} {ps : List Str} (h : ∀ us : List Value, us.length = ps.length → bindArgs fd ⟨us, []⟩ = pure (ps.zip us)) : Binds K fd ps [] := fun s us _ hl => by
  rw [List.append_nil] at hl ⊢
  exact .of_eq (h us hl)

/-  an exception of a callee reaches what this body wants of exceptions -/
def Passes (CX : CXT) (X : Cx) (E : XK) : Prop := ∀ (pins : List (Addr × Obj)) (σ : St) (H : Hp) (s : Shared) (e : Value) (s' : Shared), Inv X pins σ H s → CX X.stack H s E e s' → X.xe e s'

section
variable {X : Cx} {CX : CXT} {k : Nat} {f C : Addr} {fd : FuncData} {ps : List Str} {sp : Sp} {dvs : List V} {ds : List Value} {E : XK} {x m : Str} {p pos apos : Pos} {e o : Expr} {es : List Expr} {ta : TE} {t : TA}

/-  the callee runs -/
theorem run_fn {pins : List (Addr × Obj)} {σ : St} {H : Hp} {s : Shared} {Q : VK} {us : List Value} {vs : List V} (F : FnOk X.prog X.w X.K X.mg X.base CX k f fd ps sp) (hr : Room k X.A) (hb : Binds X.K fd ps ds) (hd : Vals dvs ds) (hx : Passes CX X E)
    (I : Inv X pins σ H s) (r : Vals vs us) (h : sp (vs ++ dvs) H Q E) : wpAny (model X.prog X.w) X.A (call (.ref f) us) (EP X pins σ Q) X.xe s := by
  have r2 : Vals (vs ++ dvs) (us ++ ds) := r.append hd
  have hl : (us ++ ds).length = ps.length := by rw [← r2.length]; exact F.len _ _ _ _ h
  refine wpAny_call (codeAny_mono (F.run X.A X.stack s H ⟨us, []⟩ (us ++ ds) (vs ++ dvs) Q E hr I.env0 (hb s us I.kIn hl) r2 h) fun r s' hq => ?_)
  cases r with
  | error e => exact hx pins σ H s e s' I hq
  | ok fl =>
    cases fl with
    | ret u => exact I.after hq
    | next => exact False.elim hq
    | brk => exact False.elim hq
    | cont => exact False.elim hq

theorem pe_call (F : FnOk X.prog X.w X.K X.mg X.base CX k f fd ps sp) (hr : Room k X.A) (hg : Gl X x) (hm : X.mg x = some (.ref f)) (hk : PySem.W.keepIn X.K (.ref f) = true) (hb : Binds X.K fd ps ds) (hd : Vals dvs ds) (hx : Passes CX X E)
    (ha : PA X (e :: es) t) (hdb : (x == ("__debug__" : Str)) = false := by decide) (he : starEach (e :: es) X.env = (false, eval e X.env) :: starEach es X.env := by rfl) (hpl : (backTo pos (starEach es X.env)).any (·.1) = false := by rfl) :
    PE X (.Call (.Name x p) (e :: es) [] pos) (tCall sp dvs E t) := by
  intro pins s σ H Q I h
  refine wpAny_Call_Name_kw (ld_glob I hg hm ?_ hdb)
  refine PySem.W.callWith_K (h₀ := X.base) I.ok.mod.kin hk (thn (ha pos pins s σ H _ I h) fun us s1 ⟨vs, H1, I1, r, q⟩ => ⟨I1.kIn, ?_⟩) he hpl
  exact run_fn F hr hb hd hx I1 r q


/-  what a class must have to be made -/
structure Mk (K : PySem.W.Frag) (C f : Addr) : Prop where
  makes : PySem.W.makesIn K C = true
  init : PySem.W.findIn K (.ref C) "__init__" = some (some (.ref f))
  fn : PySem.W.isFn K (.ref f) = true
  kp : PySem.W.keepIn K (.ref C) = true

end

/-! ### keywords -/
section
variable {X : Cx} {CX : CXT} {k : Nat} {f C : Addr} {fd : FuncData} {ps ks : List Str} {sp : Sp} {E : XK} {x m : Str} {p pos apos kpos : Pos} {e o : Expr} {es : List Expr} {kws : List Keyword} {te ta : TE} {t tk : TA} {nm : Option Str}

/-  how a call with keywords binds: g puts the positional values us and the keywords' values ws (names ks) in the parameters' order, defaults among them -/
structure KBinds (K : PySem.W.Frag) (fd : FuncData) (ps ks : List Str) (g : List Value → List Value → List Value) (gV : List V → List V → List V) : Prop where
  to : ∀ (s : Shared) (us ws : List Value), K.In s.heap → (g us ws).length = ps.length → BindsTo s fd ⟨us, ks.zip ws⟩ (ps.zip (g us ws))
  rel : ∀ {vs : List V} {us : List Value} {zs : List V} {ws : List Value}, Vals vs us → Vals zs ws → Vals (gV vs zs) (g us ws)
variable {g : List Value → List Value → List Value} {gV : List V → List V → List V}
end

/-! ### a def's body keeps its promise -/
/-  names: the parameters first -/
structure FnScope (N P : List Str) (sc : Scope) : Prop where
  kind : sc.kind = .function
  co : sc.isCoroutine = false
  gen : sc.isGenerator = false
  nd : N.Nodup
  pre : N.take P.length = P
  par : ∀ x ∈ P, sc.names.lookup x = some .local ∨ sc.names.lookup x = some .cell
  nofree : ∀ y ∈ sc.names, y.2 ≠ .free

theorem bindL_out {kindOf : Str → Option NameKind} {x : Str} : ∀ {binds : List (Str × Value)} {m : Str → Option Value}, (∀ v, (x, v) ∉ binds) → bindL kindOf binds m x = m x
  | [], _, _ => rfl
  | (n, v) :: r, m, h => by
    unfold bindL
    rw [bindL_out fun w hw => h w (List.mem_cons_of_mem _ hw)]
    split
    · have : x ≠ n := by rintro rfl; exact h v List.mem_cons_self
      simp [this]
    · rfl
theorem bindC_out {kindOf : Str → Option NameKind} {x : Str} : ∀ {binds : List (Str × Value)} {m : Str → Option Value}, (∀ v, (x, v) ∉ binds) → bindC kindOf binds m x = m x
  | [], _, _ => rfl
  | (n, v) :: r, m, h => by
    unfold bindC
    rw [bindC_out fun w hw => h w (List.mem_cons_of_mem _ hw)]
    split
    · rfl
    · have : x ≠ n := by rintro rfl; exact h v List.mem_cons_self
      simp [this]
theorem bindL_get {kindOf : Str → Option NameKind} {x : Str} {v : Value} : ∀ {P : List Str} {vs : List Value} {i : Nat} {m : Str → Option Value}, P.Nodup → P[i]? = some x → vs[i]? = some v → kindOf x = some .local →
    bindL kindOf (P.zip vs) m x = some v
  | [], _, _, _, _, h, _, _ => by simp at h
  | _ :: _, [], _, _, _, _, h, _ => by simp at h
  | p :: P, w :: vs, 0, m, nd, h1, h2, hk => by
    simp at h1 h2; subst h1; subst h2
    show bindL kindOf ((p, w) :: P.zip vs) m p = _
    unfold bindL
    rw [bindL_out fun v hv => (List.nodup_cons.mp nd).1 (List.of_mem_zip hv).1, if_pos hk]
    simp
  | p :: P, w :: vs, i + 1, m, nd, h1, h2, hk => by
    show bindL kindOf ((p, w) :: P.zip vs) m x = _
    unfold bindL
    exact bindL_get (i := i) (List.nodup_cons.mp nd).2 (by simpa using h1) (by simpa using h2) hk
theorem bindC_get {kindOf : Str → Option NameKind} {x : Str} {v : Value} : ∀ {P : List Str} {vs : List Value} {i : Nat} {m : Str → Option Value}, P.Nodup → P[i]? = some x → vs[i]? = some v → kindOf x ≠ some .local →
    bindC kindOf (P.zip vs) m x = some v
  | [], _, _, _, _, h, _, _ => by simp at h
  | _ :: _, [], _, _, _, _, h, _ => by simp at h
  | p :: P, w :: vs, 0, m, nd, h1, h2, hk => by
    simp at h1 h2; subst h1; subst h2
    show bindC kindOf ((p, w) :: P.zip vs) m p = _
    unfold bindC
    rw [bindC_out fun v hv => (List.nodup_cons.mp nd).1 (List.of_mem_zip hv).1, if_neg hk]
    simp
  | p :: P, w :: vs, i + 1, m, nd, h1, h2, hk => by
    show bindC kindOf ((p, w) :: P.zip vs) m x = _
    unfold bindC
    exact bindC_get (i := i) (List.nodup_cons.mp nd).2 (by simpa using h1) (by simpa using h2) hk

/-  the names' values at the entry -/
def start (N : List Str) (vs : List V) : St := vs.map some ++ List.replicate (N.length - vs.length) none

/-  the context of a def's body, at its entry; an exception leaves the frame, then lies as CX says -/
def cxOf (CX : CXT) (P : Program) (w : World) (K : PySem.W.Frag) (mg : Str → Option Value) (base : Heap) (N : List Str) (qual : Str) (scope : Scope) (f : Addr) (cd : Value) (A : Around) (outer : List Env) (s : Shared) (H : Hp) (E : XK) : Cx where
  prog := P
  w := w
  K := K
  mg := mg
  base := base
  A := A.deeper (envOfC qual scope s.heap.objs.size f cd)
  N := N
  s₀ := s
  H₀ := H
  env := envOfC qual scope s.heap.objs.size f cd
  outer := outer
  stack := envOfC qual scope s.heap.objs.size f cd :: outer
  ex := []
  calm := true
  fn := fun _ => true
  pn := []
  xe := fun e s' => wpAny (model P w) (A.deeper (envOfC qual scope s.heap.objs.size f cd)) (leaving (envOfC qual scope s.heap.objs.size f cd) e) (fun _ s'' => CX outer H s E e s'') (fun e' s'' => CX outer H s E e' s'') s'

theorem cell_has {sc : Scope} {n : Nat} {x : Str} (h : sc.names.lookup x = some .cell) : ∃ c, (cellsFrom n sc.names []).lookup x = some c := by
  have q := PySem.W.cellsFrom_some sc.names n [] (.inl h)
  exact Option.isSome_iff_exists.mp q

theorem inv_start {CX : CXT} {P : Program} {w : World} {K : PySem.W.Frag} {mg : Str → Option Value} {base : Heap} {N ps : List Str} {qual : Str} {scope : Scope} {f : Addr} {cd : Value} {A : Around} {outer : List Env} {s s1 : Shared} {H : Hp} {E : XK} {us : List Value} {vs : List V}
    (S : FnScope N ps scope) (hd : A.handled = none) (e0 : Env0 P w K mg base A outer s H) (hl : vs.length = ps.length) (r : Vals vs us)
    (x : InCallC s s.heap.objs.size (bindL (envOfC qual scope s.heap.objs.size f cd).kindOf (ps.zip us) fun _ => none) (cellsFrom (s.heap.objs.size + 1) scope.names []) (bindC (envOfC qual scope s.heap.objs.size f cd).kindOf (ps.zip us) fun _ => none) s1) :
    Inv (cxOf CX P w K mg base N qual scope f cd A outer s H E) [] (start N vs) H s1 := by
  have hpl : ps.length ≤ N.length := by have := congrArg List.length S.pre; rw [List.length_take] at this; omega
  obtain ⟨h1, tk, rfl, hk⟩ := x.done
  have noA : ∀ b : Addr, b ∉ (cxOf CX P w K mg base N qual scope f cd A outer s H E).ex := fun b z => absurd (show b ∈ ([] : List Addr) from z) (by simp)
  refine ⟨⟨e0.mod, S.kind, rfl, rfl, Nat.le_refl _, fun y z c h1 h2 => ?_, fun y hy => ?_, fun y c _ h => ?_, fun _ => hd, Around.frames_deeper e0.frames, .inr ⟨rfl, rfl⟩, fun b z => absurd z (noA b), e0.bs, e0.bsz, fun b _ _ => noA b, fun b z => absurd z (noA b), e0.funs, e0.frf⟩,
    rfl, e0.bare, Un.kept hk, ⟨_, x.toInCall.ns, fun i y v h1 h2 h3 => ?_⟩, fun y c h => ⟨_, x.cell y c h⟩, e0.hok.fresh (Nat.le_refl _), fun y c h => ?_, fun p hp => absurd (show p ∈ ([] : List (Addr × Obj)) from hp) (by simp), e0.hok.kept hk, ?_⟩
  · exact name_of_addr x.apart (PySem.mem_of_lookup h1) (PySem.mem_of_lookup h2)
  · have hy : scope.names.lookup y = some .cell ∨ scope.names.lookup y = some .free := hy
    rcases hy with hy | hy
    · exact cell_has hy
    · exact absurd rfl (S.nofree _ (PySem.mem_of_lookup hy))
  · exact Nat.le_of_lt (x.above y c (PySem.mem_of_lookup h))
  · have hi : i < vs.length := by
      unfold start at h2
      by_cases hi : i < vs.length
      · exact hi
      · rw [List.getElem?_append_right (by simpa using hi)] at h2
        rw [List.getElem?_replicate] at h2
        split at h2 <;> cases h2
    have ha : vs[i]? = some v := by
      unfold start at h2
      rw [List.getElem?_append_left (by simpa using hi), List.getElem?_map] at h2
      cases e : vs[i]? with
      | none => rw [e] at h2; cases h2
      | some a => rw [e] at h2; cases h2; rfl
    obtain ⟨u, hu, rv⟩ := r.get ha
    have hp : ps[i]? = some y := by
      rw [← S.pre, List.getElem?_take_of_lt (by omega)]; exact h1
    have ndP : ps.Nodup := by rw [← S.pre]; exact S.nd.sublist (List.take_sublist _ _)
    refine ⟨u, rv, ?_⟩
    rcases S.par y (List.mem_of_getElem? hp) with k | k
    · exact .inl ⟨k, bindL_get ndP hp hu k⟩
    · obtain ⟨c, e⟩ := cell_has (n := s.heap.objs.size + 1) k
      refine .inr ⟨.inl k, c, e, ?_⟩
      have q := x.cell y c e
      rw [bindC_get ndP hp hu (by show scope.names.lookup y ≠ _; rw [k]; decide)] at q
      exact q
  · exact e0.hok.fresh (Nat.le_of_lt (x.above y c (PySem.mem_of_lookup h)))
  · unfold start
    show _ = N.length
    rw [List.length_append, List.length_map, List.length_replicate]
    omega

/-  THE RULE: a def (or a method) of the text, by its body. The body's reading t is chosen for each entry; it is run at the parameters' values -/
theorem fn_of {CX : CXT} {P : Program} {w : World} {K : PySem.W.Frag} {mg : Str → Option Value} {base : Heap} {k : Nat} {f : Addr} {name qual : Str} {params : Arguments} {body : List Stmt} {scope : Scope} {dV kV doc pm cdv ct oc : Value} {an od : Option Addr}
    {osl : Array (Option Value)} {N ps : List Str} {sp : Sp} (lk : K.lookup f = some ⟨oc, od, .func (PySem.W.fnOf name qual params body scope dV kV doc pm an cdv ct), osl⟩) (hcd : PySem.W.codeIn K cdv qual = true) (S : FnScope N ps scope)
    (len : ∀ vs H Q E, sp vs H Q E → vs.length = ps.length)
    (hbody : ∀ (A : Around) (outer : List Env) (s : Shared) (H : Hp) (vs : List V) (Q : VK) (E : XK), Room k (A.deeper (envOfC qual scope s.heap.objs.size f cdv)) → sp vs H Q E →
      ∃ t, PSs (cxOf CX P w K mg base N qual scope f cdv A outer s H E) body t ∧ t { nx := fun _ H' => Q .non H', rt := Q } (start N vs) H) :
    FnOk P w K mg base CX (k + 1) f (PySem.W.fnOf name qual params body scope dV kV doc pm an cdv ct) ps sp := by
  refine ⟨len, fun A outer s H args us vs Q E hr e0 hb r hsp => ?_⟩
  have hl := len _ _ _ _ hsp
  have KX : K.In s.heap := e0.mod.kin.keeps fun b o e => (e0.bs b o e).1
  have lim : s.heap.NoLimit := e0.mod.nolimit.keeps fun b o e => (e0.bs b o e).1
  have hkind : ∀ y ∈ ps.zip us, scope.names.lookup y.1 = some .local ∨ (scope.names.lookup y.1 = some .cell ∧ ((cellsFrom (s.heap.objs.size + 1) scope.names []).lookup y.1).isSome = true) := fun ⟨n, v⟩ hy => by
    rcases S.par n (List.of_mem_zip hy).1 with q | q
    · exact .inl q
    · exact .inr ⟨q, PySem.W.cellsFrom_some _ _ _ (.inl q)⟩
  refine codeAny_call_function hr.depth (KX _ _ lk) rfl S.co S.gen rfl (PySem.W.codeRec_of KX hcd) (hb _ _ _ _ ?_)
  refine wpAny_newFunctionEnv_cells S.kind hkind fun env he s1 x => ?_
  subst he
  refine ⟨lim.keeps x.toInCall.keep, codeAny_func ?_⟩
  obtain ⟨t, ht, hq⟩ := hbody A outer s H vs Q E (hr.deeper _) hsp
  have I : Inv (cxOf CX P w K mg base N qual scope f cdv A outer s H E) [] (start N vs) H s1 := inv_start S hr.hd e0 hl r x
  refine wpAny_mono (ht [] s1 (start N vs) H _ I hq) (fun fl s' hs => ?_) fun e s' hs => hs
  have fin : ∀ {σ' : St} {H' : Hp} {v : V} {u : Value}, Inv (cxOf CX P w K mg base N qual scope f cdv A outer s H E) [] σ' H' s' → RelV v u → Q v H' → CE outer P w H s Q u s' :=
    fun {σ' H' v u} J rv q => ⟨v, H', J.os, J.bare, J.base, J.hok, rv, q⟩
  cases fl with
  | ret u =>
    obtain ⟨v, σ', H', J, rv, q⟩ := hs
    exact fin J rv q
  | next =>
    obtain ⟨σ', H', J, q⟩ := hs
    exact fin (v := V.non) (u := Value.none) J rfl q
  | brk =>
    obtain ⟨_, _, _, q⟩ := hs
    exact False.elim q
  | cont =>
    obtain ⟨_, _, _, q⟩ := hs
    exact False.elim q
end L2

namespace L2
open PySem PySem.Spec PyProof.Rows
section
variable {X : Cx} {x : Str} {p pos : Pos} {e : Expr} {es : List Expr} {t : TA} {id T : String} {r : List V → Hp → VK → Prop}

def tCB (r : List V → Hp → VK → Prop) (t : TA) : TE := fun σ H Q => t σ H fun vs H1 => r vs H1 Q
/-  f(e, ..), f a built-in function -/
theorem pe_callB (hc : CallR X (.builtin id) r) (hg : Gl X x) (hm : X.mg x = none) (hv : bootBuiltins x = some (.builtin id)) (ha : PA X (e :: es) t) (hn : x ≠ "__name__" := by decide) (hdb : (x == ("__debug__" : Str)) = false := by decide)
    (he : starEach (e :: es) X.env = (false, eval e X.env) :: starEach es X.env := by rfl) (hpl : (backTo pos (starEach es X.env)).any (·.1) = false := by rfl) : PE X (.Call (.Name x p) (e :: es) [] pos) (tCB r t) := by
  intro pins s σ H Q I h
  refine wpAny_Call_Name_kw (ld_blt I hg hm hv ?_ hn hdb)
  exact PyProof.Rows.callWith_builtin1 (thn (ha pos pins s σ H _ I h) fun us s1 ⟨vs, H1, I1, r1, q1⟩ => hc pins s1 σ H1 vs us Q I1 r1 q1) he hpl
/-  T(e, ..), T a built-in type -/
theorem pe_callTy (hc : CallR X (.type T) r) (hg : Gl X x) (hm : X.mg x = none) (hv : bootBuiltins x = some (.type T)) (ha : PA X (e :: es) t) (hn : x ≠ "__name__" := by decide) (hdb : (x == ("__debug__" : Str)) = false := by decide)
    (he : starEach (e :: es) X.env = (false, eval e X.env) :: starEach es X.env := by rfl) (hpl : (backTo pos (starEach es X.env)).any (·.1) = false := by rfl) : PE X (.Call (.Name x p) (e :: es) [] pos) (tCB r t) := by
  intro pins s σ H Q I h
  refine wpAny_Call_Name_kw (ld_blt I hg hm hv ?_ hn hdb)
  exact PyProof.Rows.callWith_type1 (thn (ha pos pins s σ H _ I h) fun us s1 ⟨vs, H1, I1, r1, q1⟩ => hc pins s1 σ H1 vs us Q I1 r1 q1) he hpl
end
end L2

namespace HT
open PySem PyProof.Rows



section
open PySem.SeqAt
open PySem.AutoSeq1 (wpAny_loadPart')
open PySem.MeetsSeq PySem.MeetsSeq2 PySem.MeetsSeq3

end

section
variable {prog : Program} {w : World} {A : Around} {E : Value → Shared → Prop} {s : Shared}



/-! ### t[a:b], not the whole -/
/-  a slice's bound as a place among n (d where it is left out) -/
def sIx (n d : Nat) : Option Int → Nat
  | none => d
  | some v => if v < 0 then (v + (n : Int)).toNat else min v.toNat n

end
end HT

namespace L2
open PySem PySem.Spec PyProof.Rows

/-! ### the parts of a slice -/
abbrev TO := St → Hp → (Option Int → Hp → Prop) → Prop
/-  a slice's part (left out, or an int) -/
def PO (X : Cx) (e : Option Expr) (t : TO) : Prop :=
  ∀ (pins : List (Addr × Obj)) (s : Shared) (σ : St) (H : Hp) (Q : Option Int → Hp → Prop), Inv X pins σ H s → t σ H Q →
    wpAny (model X.prog X.w) X.A (evalPart e X.env) (fun u s' => ∃ o H', Inv X pins σ H' s' ∧ IsPart u o ∧ Q o H') X.xe s
def tNoPart : TO := fun _ H Q => Q none H
def tPart (t : TE) : TO := fun σ H Q => t σ H fun x H1 => ∃ i, x = .int i ∧ Q (some i) H1


section
variable {X : Cx} {e : Expr} {te : TE} {lo hi : Option Expr} {tl th : TO} {pos p2 : Pos}


/-  what a slice of a value is, by values: the slice object stands at sl -/
def SlR (X : Cx) (r : V → Option Int → Option Int → Hp → VK → Prop) : Prop :=
  ∀ (pins : List (Addr × Obj)) (s : Shared) (σ : St) (H : Hp) (x : V) (v vl vu : Value) (lo hi : Option Int) (sl : Addr) (Q : VK), Inv X pins σ H s → RelV x v → s.heap.IsSliceOf sl vl vu .none → IsPart vl lo → IsPart vu hi → r x lo hi H Q →
    ∃ T id, typeLookup (.type T) "__getitem__" = pure (some (.builtin id)) ∧ s.TypeIs v T ∧ wpAny (model X.prog X.w) X.A (getItem v (.ref sl)) (EP X pins σ Q) X.xe s
def tSl (r : V → Option Int → Option Int → Hp → VK → Prop) (te : TE) (tl th : TO) : TE := fun σ H Q => te σ H fun x H1 => tl σ H1 fun l H2 => th σ H2 fun u H3 => r x l u H3 Q

/-  the items of xs[lo:hi] -/
def cutV (xs : List V) (lo hi : Option Int) : List V := (xs.drop (HT.sIx xs.length 0 lo)).take (HT.sIx xs.length xs.length hi - HT.sIx xs.length 0 lo)

/-! ### t < u, t + u -/
end
end L2

namespace L2
open PySem PySem.Spec PyProof.Rows

/-! ### places -/
/-  the place that an index of any sign means -/
def ixN (n : Nat) (i : Int) : Option Nat := if 0 ≤ i then (if i < n then some i.toNat else none) else if -(n : Int) ≤ i then some (i + n).toNat else none
def atI {α : Type} (xs : List α) (i : Int) : Option α := (ixN xs.length i).bind fun j => xs[j]?
theorem ixN_seq {n : Nat} {i : Int} {j : Nat} (h : ixN n i = some j) : seqIndex? i n = some j ∧ j < n ∧ -(n : Int) ≤ i ∧ i < n := by
  unfold ixN at h
  by_cases h0 : 0 ≤ i
  · rw [if_pos h0] at h
    by_cases h1 : i < n
    · rw [if_pos h1] at h
      have e : i.toNat = j := Option.some.inj h
      exact ⟨by rw [seqIndex_of h0 h1, e], by omega, by omega, h1⟩
    · rw [if_neg h1] at h; cases h
  · rw [if_neg h0] at h
    by_cases h1 : -(n : Int) ≤ i
    · rw [if_pos h1] at h
      have e : (i + n).toNat = j := Option.some.inj h
      exact ⟨by rw [seqIndex_neg (by omega) h1, e], by omega, h1, by omega⟩
    · rw [if_neg h1] at h; cases h
theorem atI_get {α : Type} {xs : List α} {i : Int} {v : α} (h : atI xs i = some v) : ∃ j, seqIndex? i xs.length = some j ∧ xs[j]? = some v ∧ j < xs.length ∧ -(xs.length : Int) ≤ i ∧ i < xs.length := by
  unfold atI at h
  cases e : ixN xs.length i with
  | none => rw [e] at h; cases h
  | some j =>
    rw [e] at h
    obtain ⟨h1, h2, h3, h4⟩ := ixN_seq e
    exact ⟨j, h1, h, h2, h3, h4⟩
theorem atI_nat {α : Type} {xs : List α} {j : Nat} {v : α} (h : xs[j]? = some v) : atI xs (j : Int) = some v := by
  have hj : j < xs.length := (List.getElem?_eq_some_iff.mp h).1
  have e : ixN xs.length (j : Int) = some j := by
    unfold ixN
    rw [if_pos (by omega), if_pos (by omega)]; simp
  unfold atI; rw [e]; exact h

/-! ### what may be subscripted -/
/-  what stands as an index of a plain subscript -/
def PlainIx (b : Expr) : Prop := ∀ o i, subscripted b false o i = operate [o, i] (getItem o i)
/-  a subscript by values -/
def IxR (X : Cx) (r : R2) : Prop :=
  ∀ (value slice : Expr) (pins : List (Addr × Obj)) (s : Shared) (σ : St) (H : Hp) (x y : V) (v u : Value) (Q : VK), Inv X pins σ H s → RelV x v → RelV y u → r x y H Q →
    subscripted slice false v u = operate [v, u] (getItem v u) → wpAny (model X.prog X.w) X.A (subscriptTail value slice v u) (EP X pins σ Q) X.xe s
/-  a call of a builtin's method by values: the receiver, the arguments -/
def MtR (X : Cx) (id : String) (r : V → List V → Hp → VK → Prop) : Prop :=
  ∀ (pins : List (Addr × Obj)) (s : Shared) (σ : St) (H : Hp) (x : V) (xs : List V) (v : Value) (us : List Value) (Q : VK), Inv X pins σ H s → RelV x v → Vals xs us → r x xs H Q →
    wpAny (model X.prog X.w) X.A (call (.builtin id) (v :: us)) (EP X pins σ Q) X.xe s
section
variable {X : Cx} {a b : Expr} {ta tb : TE} {pos : Pos}
theorem IxR.or {r r' : R2} (h : IxR X r) (h' : IxR X r') : IxR X (fun x y H Q => r x y H Q ∨ r' x y H Q) := by
  intro value slice pins s σ H x y v u Q I rx ry q hs
  rcases q with q | q
  · exact h value slice pins s σ H x y v u Q I rx ry q hs
  · exact h' value slice pins s σ H x y v u Q I rx ry q hs
/-  a[b] -/
theorem pe_ix {r : R2} (hr : IxR X r) (ha : PE X a ta) (hb : PE X b tb) (hs : PlainIx b) : PE X (.Subscript a b pos) (tOp r ta tb) := by
  intro pins s σ H Q I h
  exact Subscript_ (binT ha hb I h fun v u s2 x y H2 I2 rx ry q => hr a b pins s2 σ H2 x y v u Q I2 rx ry q (hs _ _))

def rIxL (K : PySem.W.Frag) : R2 := fun x y H Q => ∃ p xs i v, x = .ref p ∧ y = .int i ∧ SqL K H p xs ∧ atI xs i = some v ∧ Q v H
def rIxT (K : PySem.W.Frag) : R2 := fun x y H Q => ∃ p xs i v, x = .ref p ∧ y = .int i ∧ SqT K H p xs ∧ atI xs i = some v ∧ Q v H
def rIxS : R2 := fun x y H Q => ∃ z i c, x = .str z ∧ y = .int i ∧ z.length ≤ sizeLine ∧ atI z.cps.toList i = some c ∧ Q (.str ⟨#[c]⟩) H
theorem ix_list : IxR X (rIxL X.K) := by
  intro value slice pins s σ H x y v u Q I rx ry h hs
  obtain ⟨p, xs, i, z, rfl, rfl, hq, he, q⟩ := h
  cases rx
  obtain ⟨t, rfl⟩ := ry
  obtain ⟨its, r, pl, hz⟩ := I.list hq
  obtain ⟨j, h1, h2, h3, h4, h5⟩ := atI_get he
  obtain ⟨w, ew, rw'⟩ := r.get h2
  have hl := r.length
  have hn := line63
  have fin : EP X pins σ Q w s := ⟨z, H, I, rw', q⟩
  by_cases h0 : 0 ≤ i
  · have hj : i.toNat = j := by
      rw [seqIndex_of h0 h5] at h1
      exact Option.some.inj h1
    exact item_listR pl.isList h0 (by omega) (by rw [hj]; simpa using ew) fin hs
  · have hj : (i + (its.toArray.size : Int)).toNat = j := by
      rw [seqIndex_neg (by omega) h4] at h1
      rw [List.size_toArray, ← hl]
      exact Option.some.inj h1
    exact subscriptTail_builtinR (x := w) pl.isList.typeIs slot_list_getitem.lookup
      (wpAny_getItem_list_neg (Q := fun r s' => r = w ∧ EP X pins σ Q r s') pl.isList (by omega) (by rw [List.size_toArray] <;> omega) (by omega) (by rw [hj]; simpa using ew) ⟨rfl, fin⟩) hs
theorem ix_tup : IxR X (rIxT X.K) := by
  intro value slice pins s σ H x y v u Q I rx ry h hs
  obtain ⟨p, xs, i, z, rfl, rfl, hq, he, q⟩ := h
  cases rx
  obtain ⟨t, rfl⟩ := ry
  obtain ⟨its, r, pl, hz⟩ := I.tuple hq
  obtain ⟨j, h1, h2, h3, h4, h5⟩ := atI_get he
  obtain ⟨w, ew, rw'⟩ := r.get h2
  have hl := r.length
  have hn := line63
  have fin : EP X pins σ Q w s := ⟨z, H, I, rw', q⟩
  exact subscriptTail_builtinR (x := w) pl.typeIs slot_tuple_getitem.lookup
    (getItem_tuple (j := j) (Q := fun r s' => r = w ∧ EP X pins σ Q r s') pl (by omega) (by omega) (by rw [List.size_toArray, ← hl]; exact h1) (by simpa using ew) ⟨rfl, fin⟩) hs
theorem ix_str : IxR X rIxS := by
  intro value slice pins s σ H x y v u Q I rx ry h hs
  obtain ⟨z, i, c, rfl, rfl, hz, he, q⟩ := h
  obtain ⟨t, rfl⟩ := rx
  obtain ⟨t', rfl⟩ := ry
  obtain ⟨j, h1, h2, h3, h4, h5⟩ := atI_get he
  have hl : z.cps.toList.length = z.length := by simp [Str.length]
  rw [hl] at h1 h4 h5
  have hn := line63
  exact tail_any (typeIs_str s z t) slot_str_getitem.lookup (getItem_str (c := c) (by
    have e1 : decide (i < -(2 ^ 63 : Int)) = false := decide_eq_false (by omega)
    have e2 : decide (i ≥ 2 ^ 63) = false := decide_eq_false (by omega)
    rw [e1, e2, Bool.or_false]) (by rw [h1]; simpa using h2) ⟨.str ⟨#[c]⟩, H, I.tok _, ⟨_, rfl⟩, q⟩) hs
/-  list, tuple or str -/
def rIx (K : PySem.W.Frag) : R2 := fun x y H Q => rIxL K x y H Q ∨ rIxT K x y H Q ∨ rIxS x y H Q
theorem ix_seq : IxR X (rIx X.K) := ix_list.or (ix_tup.or ix_str)

/-! ### xs[i] = v, any sign -/
/-  the list's object behind a store -/
theorem mapSeq_set (its : List Value) (n j : Nat) (u : Value) : Obj.mapSeq (·.setIfInBounds j u) { cls := .type "list", data := .seq its.toArray n } = { cls := .type "list", data := .seq (its.set j u).toArray n } := by
  simp [Obj.mapSeq]
theorem Inv.lst {pins : List (Addr × Obj)} {σ : St} {H : Hp} {s : Shared} {p : Addr} {xs : List V} (I : Inv X pins σ H s) (h : H p = some (.lst xs)) :
    ∃ (its : List Value) (n : Nat), Vals xs its ∧ s.heap.get? p = some { cls := .type "list", data := .seq its.toArray n } ∧ xs.length ≤ sizeLine := by
  obtain ⟨z, its, n, r, e⟩ := I.hok p _ h
  exact ⟨its, n, r, e, z⟩
/-  the list at p is written by an update of its object -/
theorem Inv.lstUpd {pins : List (Addr × Obj)} {σ : St} {H : Hp} {s : Shared} {p : Addr} {xs ys : List V} {its its' : List Value} {n n' : Nat} {f : Obj → Obj} (I : Inv X pins σ H s) (h : H p = some (.lst xs))
    (ho : s.heap.get? p = some { cls := .type "list", data := .seq its.toArray n }) (hf : f { cls := .type "list", data := .seq its.toArray n } = { cls := .type "list", data := .seq its'.toArray n' }) (r : Vals ys its') (hz : ys.length ≤ sizeLine) (t : Nat) :
    Inv X pins σ (upd H p (.lst ys)) { s with heap := s.heap.update p f, toks := t } := by
  have e : (s.heap.update p f).get? p = some { cls := .type "list", data := .seq its'.toArray n' } := by
    rw [Heap.get?_update_self f ho (by rw [hf] <;> rfl), hf]
  refine I.write (x := p) (e := p) (by rw [h]; trivial) (.inl rfl) (fun b u hb q => (Heap.get?_update_other _ _ (Ne.symm hb)).trans q) ⟨_, e⟩ ?_
  exact ⟨hz, its', n', r, e⟩
def rSetL : V → V → V → Hp → (Hp → Prop) → Prop := fun o i v H Q => ∃ p xs k j, o = .ref p ∧ i = .int k ∧ H p = some (.lst xs) ∧ ixN xs.length k = some j ∧ Q (upd H p (.lst (xs.set j v)))
theorem set_list : PSet X rSetL := by
  intro pins s σ H o i v ov iv u Q I ro ri rv h
  obtain ⟨p, xs, k, j, rfl, rfl, hp, hj, q⟩ := h
  cases ro
  obtain ⟨t, rfl⟩ := ri
  obtain ⟨its, n, r, ho, hz⟩ := I.lst hp
  obtain ⟨h1, h2, h3, h4⟩ := ixN_seq hj
  have hl := r.length
  have hn := line63
  have I' : Inv X pins σ (upd H p (.lst (xs.set j v))) { s with heap := s.heap.update p (Obj.mapSeq (·.setIfInBounds j u)) } :=
    I.lstUpd hp ho (mapSeq_set its n j u) (r.set rv j) (by rw [List.length_set]; exact hz) s.toks
  by_cases h0 : 0 ≤ k
  · have hk : k.toNat = j := by
      rw [seqIndex_of h0 h4] at h1
      exact Option.some.inj h1
    exact PySem.W.ki_setAt ho h0 (by omega) (by rw [List.size_toArray, ← hl]; exact h4) (by rw [hk]; exact ⟨_, I', q⟩)
  · have hk : (k + (its.toArray.size : Int)).toNat = j := by
      rw [seqIndex_neg (by omega) h3] at h1
      rw [List.size_toArray, ← hl]
      exact Option.some.inj h1
    exact PySem.W.ki_setBack ho (by omega) (by rw [List.size_toArray, ← hl]; exact h3) (by omega) (by rw [hk]; exact ⟨_, I', q⟩)

/-! ### slices -/
/-  xs[lo:hi] of a list: a new list -/
def rSlL (K : PySem.W.Frag) : V → Option Int → Option Int → Hp → VK → Prop := fun x lo hi H Q => ∃ a xs, x = .ref a ∧ SqL K H a xs ∧ ∀ p, H p = none → Q (.ref p) (upd H p (.lst (cutV xs lo hi)))

/-! ### in, not in: flat items -/

/-! ### len, list(x), tuple(x) of any list or tuple that is read -/
theorem call_len_seq : CallR X (.builtin "len") (fun xs H Q => ∃ p ys, xs = [.ref p] ∧ (SqL X.K H p ys ∨ SqT X.K H p ys) ∧ Q (.int ys.length) H) := by
  intro pins s σ H xs us Q I r h
  obtain ⟨p, ys, rfl, hq, q⟩ := h
  obtain ⟨u, rfl, rx⟩ := vals1 r
  cases rx
  have hn := line63
  rcases hq with hq | hq
  · obtain ⟨its, r', pl, hz⟩ := I.list hq
    have hlen := r'.length
    exact Calls.call_len_list pl.isList (by simp only [List.size_toArray] <;> omega) ⟨.int ys.length, H, I.tok _, ⟨s.toks + 1, by rw [List.size_toArray, hlen]⟩, q⟩
  · obtain ⟨its, r', pl, hz⟩ := I.tuple hq
    have hlen := r'.length
    exact len_tuple pl (by simp only [List.size_toArray] <;> omega) ⟨.int ys.length, H, I.tok _, ⟨s.toks + 1, by rw [List.size_toArray, hlen]⟩, q⟩
theorem call_list_of : CallR X (.type "list") (fun xs H Q => ∃ p ys, xs = [.ref p] ∧ (SqL X.K H p ys ∨ SqT X.K H p ys) ∧ ∀ l, H l = none → Q (.ref l) (upd H l (.lst ys))) := by
  intro pins s σ H xs us Q I r h
  obtain ⟨p, ys, rfl, hq, q⟩ := h
  obtain ⟨u, rfl, rx⟩ := vals1 r
  cases rx
  have fin : ∀ (its : List Value), Vals ys its → ys.length ≤ sizeLine → ∀ (h' : Heap) (c' : Nat), (∀ b o', s.heap.get? b = some o' → h'.get? b = some o') →
      h'.get? s.heap.objs.size = some { cls := .type "list", dict := none, data := .seq its.toArray c', slots := #[] } → EP X pins σ Q (.ref s.heap.objs.size) { s with heap := h' } := fun its r' hz h' c' kp e =>
    ⟨.ref s.heap.objs.size, _, I.laid (t' := s.toks) kp (Nat.le_refl _) (show ObjOk X.prog X.w _ h' _ (.lst ys) from ⟨hz, its, c', r', e⟩), rfl, q _ (I.hok.fresh (Nat.le_refl _))⟩
  rcases hq with hq | hq
  · obtain ⟨its, r', pl, hz⟩ := I.list hq
    have hlen := r'.length
    obtain ⟨o, ho, hc, n, hd⟩ := pl.isList
    exact call_list_seq p (.inl rfl) ho hc hd (fun h' c' kp e => fin its r' hz h' c' kp e) (by simp only [List.size_toArray] <;> omega)
  · obtain ⟨its, r', pl, hz⟩ := I.tuple hq
    have hlen := r'.length
    obtain ⟨o, ho, hc, n, hd⟩ := pl
    exact call_list_seq p (.inr rfl) ho hc hd (fun h' c' kp e => fin its r' hz h' c' kp e) (by simp only [List.size_toArray] <;> omega)

/-! ### the call of a builtin's method: o.m(..) -/
/-  the value is of that builtin type -/
def tyV (K : PySem.W.Frag) (T : String) (x : V) (H : Hp) : Prop := match x with
  | .str _ => T = "str"
  | .int _ => T = "int"
  | .ref p => (T = "list" ∧ ∃ xs, SqL K H p xs) ∨ (T = "tuple" ∧ ∃ o, K.lookup p = some o ∧ o.cls = .type "tuple" ∧ o.dict = none) ∨
      (T = "dict" ∧ ((∃ kvs, H p = some (.dK kvs)) ∨ ∃ kvs, H p = some (.dT kvs))) ∨ (T = "set" ∧ ∃ S n, H p = some (.set S n))
  | _ => False
theorem tyV_is {pins : List (Addr × Obj)} {σ : St} {H : Hp} {s : Shared} {T : String} {x : V} {v : Value} (I : Inv X pins σ H s) (r : RelV x v) (ty : tyV X.K T x H) :
    s.TypeIs v T ∧ ∀ a, v = .ref a → ∃ ob, s.heap.get? a = some ob ∧ ob.dict = none := by
  cases x with
  | str z =>
    obtain ⟨t, rfl⟩ := r
    cases (show T = "str" from ty)
    exact ⟨typeIs_str s z t, fun _ e => nomatch e⟩
  | int i =>
    obtain ⟨t, rfl⟩ := r
    cases (show T = "int" from ty)
    exact ⟨typeIs_int s i t, fun _ e => nomatch e⟩
  | ref p =>
    cases r
    rcases ty with ⟨rfl, xs, hq⟩ | ⟨rfl, o, hk, hc, hd⟩ | ⟨rfl, hk⟩ | ⟨rfl, S, n, hk⟩
    · obtain ⟨its, _, pl, _⟩ := I.list hq
      refine ⟨pl.isList.typeIs, fun a e => ?_⟩
      cases e
      obtain ⟨o, n, e, c, hd, _⟩ := pl
      exact ⟨o, e, hd⟩
    · refine ⟨⟨o, I.kIn p o hk, hc⟩, fun a e => ?_⟩
      cases e
      exact ⟨o, I.kIn _ o hk, hd⟩
    · have z : ∃ o, s.heap.get? p = some o ∧ o.ExactDict := by
        rcases hk with ⟨kvs, hk⟩ | ⟨kvs, hk⟩
        · obtain ⟨_, _, _, _, o, _, _, e, ex, _⟩ := I.hok p _ hk
          exact ⟨o, e, ex⟩
        · obtain ⟨_, _, _, _, o, _, _, e, ex, _⟩ := I.hok p _ hk
          exact ⟨o, e, ex⟩
      obtain ⟨o, e, ex⟩ := z
      refine ⟨⟨o, e, ex.1⟩, fun a e2 => ?_⟩
      cases e2
      exact ⟨o, e, ex.2.1⟩
    · obtain ⟨o, _, _, _, e, ex, _⟩ := I.hok p _ hk
      refine ⟨⟨o, e, ex.1⟩, fun a e2 => ?_⟩
      cases e2
      exact ⟨o, e, ex.2.1⟩
  | _ => exact False.elim ty
def tBM0 (K : PySem.W.Frag) (T : String) (r : V → List V → Hp → VK → Prop) (to : TE) : TE := fun σ H Q => to σ H fun x H1 => tyV K T x H1 ∧ r x [] H1 Q
def tBM (K : PySem.W.Frag) (T : String) (r : V → List V → Hp → VK → Prop) (to : TE) (t : TA) : TE := fun σ H Q => to σ H fun x H1 => tyV K T x H1 ∧ t σ H1 fun xs H2 => r x xs H2 Q
variable {o e : Expr} {es : List Expr} {to : TE} {t : TA} {name : Str} {apos cpos : Pos} {T id : String} {r : V → List V → Hp → VK → Prop}
theorem pe_bm (pa : PlainAttrs T) (slot : Slot T name id) (hty : typeOf (.builtin id) = pure (.type "method_descriptor")) (hm : MtR X id r) (ho : PE X o to) (ha : PA X (e :: es) t)
    (hbase : attributeBase o name X.env (eval o X.env) = eval o X.env := by rfl)
    (hfew : ((backTo cpos (starEach (e :: es) X.env)).all (fun x => !x.1) && (backToKw cpos (keywordEach [] X.env)).all (fun x => x.1.isSome)
      && decide ((e :: es).length + ([] : List Keyword).length + (if ([] : List Keyword).isEmpty then 0 else 1) < 30)) = true := by rfl)
    (hline : (apos.endLine == cpos.line) = true := by rfl) (hs : starEach (e :: es) X.env = (false, eval e X.env) :: starEach es X.env := by rfl) (hplain : (backTo cpos (starEach es X.env)).any (·.1) = false := by rfl) :
    PE X (.Call (.Attribute o name apos) (e :: es) [] cpos) (tBM X.K T r to t) := by
  intro pins s σ H Q I h
  refine wpAny_Call_method_late hbase hfew hline rfl (thn (ho pins s σ H _ I h) fun v s1 ⟨x, H1, I1, r1, ty, q1⟩ => ?_)
  obtain ⟨h1, h2⟩ := tyV_is I1 r1 ty
  refine ⟨T, id, pa, slot, hty, h1, h2, ?_⟩
  have hA := ha cpos pins s1 σ H1 _ I1 q1
  rw [hs] at hA ⊢
  refine Calls.callWith_builtin (by show (false || (backTo cpos (starEach es X.env)).any (·.1)) = false; rw [hplain] <;> rfl) (Calls.evalArgs_plain ?_)
  exact thn hA fun us s2 ⟨vs, H2, I2, r2, q2⟩ => hm pins s2 σ H2 x vs v us Q I2 r1 r2 q2
/- xs.append(e), list.index on a module's tuple .. are MtR facts of 06m -/
end
end L2

namespace L2
open PySem PySem.Spec PyProof.Rows

def MtM (X : Cx) (id : String) (r : V → List V → Hp → VK → Prop) : Prop :=
  ∀ (pins : List (Addr × Obj)) (s : Shared) (σ : St) (H : Hp) (x : V) (xs : List V) (v : Value) (us : List Value) (Q : VK), Inv X pins σ H s → RelV x v → Vals xs us → r x xs H Q →
    wpAny (model X.prog X.w) X.A (call (.builtin id) (v :: us)) (EP X pins σ Q) X.xe s

/-! ### lists of values -/
theorem Vals.one : ∀ {x : V} {us : List Value}, Vals [x] us → ∃ u, us = [u] ∧ RelV x u
  | _, _, .cons r .nil => ⟨_, rfl, r⟩
theorem Vals.rep {xs : List V} {us : List Value} (h : Vals xs us) : ∀ k : Nat, Vals (List.replicate k xs).flatten (List.replicate k us).flatten
  | 0 => .nil
  | k + 1 => by
    rw [List.replicate_succ, List.replicate_succ, List.flatten_cons, List.flatten_cons]
    exact Vals.append h (Vals.rep h k)
theorem foldl_rep (its : List Value) : ∀ (k : Nat) (acc : List Value),
    List.foldl (fun x1 x2 => x1 ++ x2) acc.toArray (List.replicate k its.toArray) = (acc ++ (List.replicate k its).flatten).toArray
  | 0, acc => by simp
  | k + 1, acc => by
    have e : acc.toArray ++ its.toArray = (acc ++ its).toArray := by simp
    have e2 : (acc ++ its) ++ (List.replicate k its).flatten = acc ++ (List.replicate (k + 1) its).flatten := by
      rw [List.replicate_succ, List.flatten_cons, List.append_assoc]
    rw [← e2, ← foldl_rep its k (acc ++ its), ← e, List.replicate_succ, List.foldl_cons]

section
variable {X : Cx} {pins : List (Addr × Obj)} {σ : St} {H : Hp} {s : Shared} {l b : Addr} {xs ys zs : List V}

/-! ### the two steps: a tracked list is rewritten, a new list is laid -/
theorem Inv.lset {its its' : List Value} {n : Nat} {f : Array Value → Array Value} {t' : Nat} (I : Inv X pins σ H s) (hH : H l = some (.lst xs))
    (e : s.heap.get? l = some { cls := .type "list", data := .seq its.toArray n }) (hf : f its.toArray = its'.toArray) (hv : Vals ys its') (hz : ys.length ≤ sizeLine) :
    Inv X pins σ (upd H l (.lst ys)) { s with heap := s.heap.update l (Obj.mapSeq f), toks := t' } := by
  have q := PySem.IsL.update e f
  rw [hf] at q
  refine I.write (x := l) (e := l) (by rw [hH]; exact trivial) (.inl rfl) (fun b' u hb hu => (Heap.get?_update_other s.heap (Obj.mapSeq f) (Ne.symm hb)).trans hu) ⟨_, q⟩ ?_
  exact ⟨hz, its', _, hv, q⟩
theorem Inv.lnew {its : List Value} {t' : Nat} (I : Inv X pins σ H s) (hv : Vals ys its) (hz : ys.length ≤ sizeLine) :
    Inv X pins σ (upd H s.heap.objs.size (.lst ys)) { s with heap := s.heap.push { cls := .type "list", data := .seq its.toArray }, toks := t' } :=
  I.laid (fun _ _ q => Heap.get?_push_of_some _ q) (Nat.le_refl _) ⟨hz, its, 0, hv, Heap.get?_push_size _ rfl⟩
theorem Inv.fresh (I : Inv X pins σ H s) : H s.heap.objs.size = none := I.hok.fresh (Nat.le_refl _)
theorem Inv.lstM (I : Inv X pins σ H s) (hH : H l = some (.lst xs)) : xs.length ≤ sizeLine ∧ ∃ (its : List Value) (n : Nat), Vals xs its ∧ xs.length = its.length ∧ s.heap.get? l = some { cls := .type "list", data := .seq its.toArray n } := by
  obtain ⟨z, its, n, r, e⟩ := I.hok l _ hH
  exact ⟨z, its, n, r, r.length, e⟩

theorem notLongL {n : Nat} (h : n ≤ sizeLine) : Builtin.List.listTooLong n = false := by
  unfold Builtin.List.listTooLong
  exact decide_eq_false (by omega)
end

section
variable {X : Cx}

/-! ### methods -/
def rAppend : V → List V → Hp → VK → Prop := fun x vs H Q => ∃ l xs y, x = .ref l ∧ vs = [y] ∧ H l = some (.lst xs) ∧ xs.length < sizeLine ∧ Q .non (upd H l (.lst (xs ++ [y])))
theorem mt_append : MtM X "list.append" rAppend := by
  intro pins s σ H x vs v us Q I rx rv h
  obtain ⟨l, xs, y, rfl, rfl, hH, hz, q⟩ := h
  cases rx
  obtain ⟨u, rfl, ru⟩ := rv.one
  obtain ⟨z, its, n, r, hl, e⟩ := I.lstM hH
  refine call_meets F.slot_list_append ⟨_, e, rfl⟩ F.entry_list_append (F.args_list_append_2 _ _) (PySem.list_append l its.toArray n u (by rw [List.size_toArray]; omega)) ⟨e, ?_⟩
  refine ⟨.non, _, I.lset (its' := its ++ [u]) hH e (by simp) (r.append (.cons ru .nil)) ?_, rfl, q⟩
  rw [List.length_append, List.length_singleton]
  omega






/-! ### list + list, list += list, list * int -/
def rCat : R2 := fun x y H Q => ∃ l b xs zs, x = .ref l ∧ y = .ref b ∧ H l = some (.lst xs) ∧ H b = some (.lst zs) ∧ xs.length + zs.length ≤ sizeLine ∧ ∀ p, H p = none → Q (.ref p) (upd H p (.lst (xs ++ zs)))
theorem op_cat : OpR X (binaryOp .Add) rCat := by
  intro pins s σ H x y v u Q I rx ry h
  obtain ⟨l, b, xs, zs, rfl, rfl, hH, hB, hz, q⟩ := h
  cases rx
  cases ry
  obtain ⟨z, its, n, r, hl, e⟩ := I.lstM hH
  obtain ⟨z2, its2, n2, r2, hl2, e2⟩ := I.lstM hB
  refine PySem.P.add_list e e2 ?_ (by rw [List.size_toArray, List.size_toArray]; omega)
  have ea : its.toArray ++ its2.toArray = (its ++ its2).toArray := by simp
  rw [ea]
  exact ⟨.ref _, _, I.lnew (t' := s.toks) (r.append r2) (by rw [List.length_append]; omega), rfl, q _ I.fresh⟩
/-  a list times an int (a negative one is nothing) -/
def rRep : R2 := fun x y H Q => ∃ l k xs, x = .ref l ∧ y = .int k ∧ H l = some (.lst xs) ∧ -(2 ^ 63) ≤ k ∧ k < 2 ^ 63 ∧ xs.length * k.toNat ≤ sizeLine ∧
  ∀ p, H p = none → Q (.ref p) (upd H p (.lst (List.replicate k.toNat xs).flatten))
theorem len_rep {α : Type} (xs : List α) (k : Nat) : (List.replicate k xs).flatten.length = k * xs.length := by
  induction k with
  | zero => simp
  | succ k ih => rw [List.replicate_succ, List.flatten_cons, List.length_append, ih, Nat.succ_mul, Nat.add_comm]
theorem op_rep : OpR X (binaryOp .Mult) rRep := by
  intro pins s σ H x y v u Q I rx ry h
  obtain ⟨l, k, xs, rfl, rfl, hH, h1, h2, hz, q⟩ := h
  cases rx
  obtain ⟨t, rfl⟩ := ry
  obtain ⟨z, its, n, r, hl, e⟩ := I.lstM hH
  have hlen : its.toArray.size * k.toNat ≤ sizeLine := by rw [List.size_toArray, ← hl]; exact hz
  have hcap : ¬ its.toArray.size * k.toNat > (2 ^ 63 - 1) / 8 := by
    have : (sizeLine : Nat) ≤ (2 ^ 63 - 1) / 8 := by decide
    omega
  have hfit : ¬ (!Builtin.List.listFitsIndex k) = true := by
    rw [fitsIndex_both h1 h2]
    exact Bool.false_ne_true
  have hlong : ¬ Builtin.List.listTooLong (its.toArray.size * k.toNat) = true := by
    rw [notLongL hlen]
    exact Bool.false_ne_true
  have hnew : List.foldl (fun x1 x2 => x1 ++ x2) #[] (List.replicate (if its.toArray.isEmpty = true then 0 else k.toNat) its.toArray) = (List.replicate k.toNat its).flatten.toArray := by
    have f0 : ∀ m : Nat, List.foldl (fun x1 x2 => x1 ++ x2) #[] (List.replicate m its.toArray) = (List.replicate m its).flatten.toArray := fun m => by
      have := foldl_rep its m []
      rw [List.nil_append] at this
      exact this
    rw [f0]
    cases its with
    | nil => simp
    | cons a r' => rw [if_neg (by simp)]
  refine wpAny_binaryOp_repeat_ref (T := "list") (U := "int") (by decide) ⟨_, e, rfl⟩ (fun s' => typeIs_int s' k t) noFill_list_mul F.fills_int_mul F.slot_int_rmul repeat_list F.slot_int_index.lookup
    (call_meets F.slot_int_rmul (typeIs_int s k t) F.entry_int_rmul (F.args_int_rmul_2 _ _) (int___rmul___int_list k t l its.toArray n)
      ⟨e, rfl, ⟨_, e, rfl⟩, call_meets F.slot_list_mul ⟨_, e, rfl⟩ F.entry_list_mul (F.args_list_mul_2 _ _) (AutoListH.list___mul___list_int_3 l its.toArray n k t hfit hcap hlong) ⟨e, ?_⟩⟩)
  rw [hnew]
  exact ⟨.ref _, _, I.lnew (t' := s.toks) (r.rep k.toNat) (by rw [len_rep, Nat.mul_comm]; exact hz), rfl, q _ I.fresh⟩

/-! ### del xs[i] -/
end

/-! ### xs[a:b] = ys -/
section
variable {prog : Program} {w : World} {A : Around} {E : Value → Shared → Prop} {s : Shared}
set_option maxRecDepth 100000 in
end

section
variable {X : Cx}
end
end L2

namespace L2
open PySem PySem.Spec PyProof.Rows

/-! ### lists of pairs as tables -/
section
variable {κ : Type} [DecidableEq κ]
def valV (kvs : List (κ × V)) (k : κ) : Option V := (kvs.find? fun kv => decide (kv.1 = k)).map (·.2)
/-  in its place, or at the end -/
def putK (kvs : List (κ × V)) (k : κ) (v : V) : List (κ × V) :=
  if (kvs.any fun kv => decide (kv.1 = k)) = true then kvs.map (fun kv => if kv.1 = k then (kv.1, v) else kv) else kvs ++ [(k, v)]
def dropK (kvs : List (κ × V)) (k : κ) : List (κ × V) := kvs.filter fun kv => decide (kv.1 ≠ k)



end


/-! ### a tracked dict, its keys ints and texts or tuples of these -/


section
variable {P : Program} {w : World} {H : Hp} {h : Heap} {a : Addr}
end

/-  what the dict at a holds at the key y -/
def DGet (H : Hp) (a : Addr) (y : V) (r : Option V) : Prop :=
  (∃ kvs k, Rd H a (.dK kvs) ∧ y = kV k ∧ r = valV kvs k) ∨ ∃ kvs k b, Rd H a (.dT kvs) ∧ y = .ref b ∧ H b = some (.tup (k.map nV)) ∧ r = valV kvs k
/-  the heap behind a[y] = v -/
def DPut (H : Hp) (a : Addr) (y v : V) (H' : Hp) : Prop :=
  (∃ kvs k, H a = some (.dK kvs) ∧ y = kV k ∧ kvs.length < sizeLine ∧ H' = upd H a (.dK (putK kvs k v))) ∨
  ∃ kvs k b, H a = some (.dT kvs) ∧ y = .ref b ∧ H b = some (.tup (k.map nV)) ∧ kvs.length < sizeLine ∧ H' = upd H a (.dT (putK kvs k v))


section
variable {X : Cx} {pins : List (Addr × Obj)} {σ : St} {H : Hp} {s : Shared} {a : Addr} {y v : V} {u r : Value} {o : Option V} {A : Around} {E : Value → Shared → Prop}


end

section
variable {X : Cx} {pins : List (Addr × Obj)} {σ : St} {H : Hp} {s : Shared} {a : Addr} {kvs : List (Key × V)} {k : Key} {u : Value} {A : Around} {E : Value → Shared → Prop}
end


/-! ### readings and rules -/


/-  d[y] -/
def tDGet (td ty : TE) : TE := fun σ H Q => td σ H fun x H1 => ty σ H1 fun y H2 => ∃ a v, x = .ref a ∧ DGet H2 a y (some v) ∧ Q v H2
/-  y in d, y not in d -/
def tDIn (ty td : TE) : TE := fun σ H Q => ty σ H fun y H1 => td σ H1 fun x H2 => ∃ a o, x = .ref a ∧ DGet H2 a y o ∧ Q (.bl o.isSome) H2
def tDNotIn (ty td : TE) : TE := fun σ H Q => ty σ H fun y H1 => td σ H1 fun x H2 => ∃ a o, x = .ref a ∧ DGet H2 a y o ∧ Q (.bl (!o.isSome)) H2
/-  d[y] = v -/
def sDPut (td ty tv : TE) : TS := fun D σ H => tv σ H fun v H1 => td σ H1 fun x H2 => ty σ H2 fun y H3 => ∃ a H4, x = .ref a ∧ DPut H3 a y v H4 ∧ D.nx σ H4

section
variable {X : Cx} {o i e value : Expr} {pos pos' tpos : Pos} {td ty tv : TE}
end


/-! ### displays -/
/-  {}, to be a dict of the kind that is wanted -/
def tDNewK : TE := fun _ H Q => ∀ p, H p = none → Q (.ref p) (upd H p (.dK []))
section
variable {X : Cx} {pos : Pos}
end

/-  the pairs of a display, from the left -/
def tPairs : List (TE × TE) → St → Hp → (List (V × V) → Hp → Prop) → Prop
  | [], _, H, Q => Q [] H
  | (tk, tv) :: r, σ, H, Q => tk σ H fun x H1 => tv σ H1 fun y H2 => tPairs r σ H2 fun ps H3 => Q ((x, y) :: ps) H3
abbrev VV : List (V × V) → List (Value × Value) → Prop := Paired fun p q => RelV p.1 q.1 ∧ RelV p.2 q.2
def PPs (X : Cx) (pos : Pos) (keys : List (Option Expr)) (values : List Expr) (trs : List (TE × TE)) : Prop :=
  ∀ (pins : List (Addr × Obj)) (s : Shared) (σ : St) (H : Hp) (Q : List (V × V) → Hp → Prop), Inv X pins σ H s → tPairs trs σ H Q →
    wpAny (model X.prog X.w) X.A (evalPairs (pairTrees keys values X.env pos)) (fun vs s' => ∃ ps H', Inv X pins σ H' s' ∧ VV ps vs ∧ Q ps H') X.xe s

def mergeK (kvs more : List (Key × V)) : List (Key × V) := more.foldl (fun acc kv => putK acc kv.1 kv.2) kvs
/-  {k: v, ..} with keys ints and texts; the new dict stands empty while the pairs are made -/
def tDisp (trs : List (TE × TE)) : TE := fun σ H Q => ∀ p, H p = none → tPairs trs σ (upd H p (.dK [])) fun ps H2 => H2 p = some (.dK []) ∧ ∃ kvs : List (Key × V), ps = kvs.map (fun kv => (kV kv.1, kv.2)) ∧ kvs.length ≤ 15 ∧ Q (.ref p) (upd H2 p (.dK (mergeK [] kvs)))


/-! ### methods -/
/-  a method call o.m(e) of a built-in, with one argument: what must be seen of the text -/
structure M1 (X : Cx) (o : Expr) (m : Str) (apos : Pos) (e : Expr) (cpos : Pos) : Prop where
  base : attributeBase o m X.env (eval o X.env) = eval o X.env
  few : ((backTo cpos (starEach [e] X.env)).all (fun x => !x.1) && (backToKw cpos (keywordEach [] X.env)).all (fun x => x.1.isSome)
    && decide (([e] : List Expr).length + ([] : List Keyword).length + (if ([] : List Keyword).isEmpty then 0 else 1) < 30)) = true
  line : (apos.endLine == cpos.line) = true
  trees : backTo cpos (starEach [e] X.env) = [(false, eval e X.env)]
structure M2 (X : Cx) (o : Expr) (m : Str) (apos : Pos) (e f : Expr) (cpos : Pos) : Prop where
  base : attributeBase o m X.env (eval o X.env) = eval o X.env
  few : ((backTo cpos (starEach [e, f] X.env)).all (fun x => !x.1) && (backToKw cpos (keywordEach [] X.env)).all (fun x => x.1.isSome)
    && decide (([e, f] : List Expr).length + ([] : List Keyword).length + (if ([] : List Keyword).isEmpty then 0 else 1) < 30)) = true
  line : (apos.endLine == cpos.line) = true
  trees : backTo cpos (starEach [e, f] X.env) = [(false, eval e X.env), (false, eval f X.env)]


section
variable {X : Cx} {pins : List (Addr × Obj)} {σ : St} {H : Hp} {s : Shared} {a : Addr} {y d : V} {u r : Value} {o : Option V} {A : Around} {E : Value → Shared → Prop}
end

section
variable {X : Cx} {o e f : Expr} {apos cpos : Pos} {td ty tx : TE}
end

/-! ### dict(d): a copy -/
section
variable {X : Cx} {pins : List (Addr × Obj)} {σ : St} {H : Hp} {s : Shared} {a : Addr} {kvs : List (Key × V)} {A : Around} {E : Value → Shared → Prop}
end


section
variable {X : Cx} {pins : List (Addr × Obj)} {σ : St} {H : Hp} {s : Shared} {a : Addr} {y : V} {u : Value} {A : Around} {E : Value → Shared → Prop}
end
end L2

namespace Att
open PySem PySem.W PySem.Calls PyProof.Rows

/-! ### the script -/
theorem ints_of_wellAll {P : Params} {h : Heap} : ∀ (ns : List Int) (vs : List Value), WellAll P h vs (ns.map WData.int) → IntsAre vs ns := by
  intro ns
  induction ns with
  | nil =>
    intro vs w
    rw [List.map_nil] at w
    cases w
    exact .nil
  | cons n ns ih =>
    intro vs w
    rw [List.map_cons] at w
    cases w with
    | cons a b =>
      cases a
      exact .cons _ _ (ih _ b)

theorem script_of {l : OpenLaw} {n : Nat} (hn : l.most = some n) {P : Params} {h : Heap} {args : List WData} {vals : List Value}
    (hpre : l.row.toRowW.claim.pre args = true) (hwl : WellAll P h vals args) :
    ∃ a vs ns, vals = [Value.ref a] ∧ args = [WData.list (ns.map WData.int)] ∧ h.get? a = some { cls := .type "list", data := .seq vs.toArray } ∧ IntsAre vs ns ∧ ns.length ≤ n := by
  have hsh : WShape.hasAll [] args [.list .int] = true := (pre_splitW hpre).1
  have hc : l.pre.holds [] { args := args } = true := (pre_splitW hpre).2
  obtain ⟨d, r, rfl, h1, h2⟩ := hasAllW_cons hsh
  obtain rfl := hasAllW_nil h2
  obtain ⟨xs, rfl, h3⟩ := hasW_list h1
  obtain ⟨ns, rfl⟩ := items_int h3
  have hlen : ns.length ≤ n := by
    unfold OpenLaw.pre at hc
    have h4 : (WTm.not (.lt (.lit (.int (n : Int))) (.len (.arg 0)))).holds [] { args := [.list (ns.map .int)] } = true := by
      have h4 := (holds_andW hc).1
      rw [hn] at h4
      exact h4
    have h5 := condW_of h4 (w_not (w_lt w_lit (w_len_list (w_arg rfl))))
    rw [List.length_map] at h5
    refine Nat.le_of_not_lt fun q => ?_
    have q' : (n : Int) < ((ns.length : Nat) : Int) := by omega
    first
      | (rw [decide_eq_true q'] at h5; exact absurd h5 (by decide))
      | (simp at h5; omega)
  cases hwl with
  | cons w1 w2 =>
    cases w2
    cases w1 with
    | list ho hall => exact ⟨_, _, ns, rfl, rfl, ho, ints_of_wellAll ns _ hall, hlen⟩

theorem post_true (l : OpenLaw) (args : List WData) : l.row.toRowW.claim.post args (.bool true) args = true :=
  postW_of (r := l.row.toRowW) (X := (true == true))
    (show WShape.has [] (.bool true) .bool = true by first | rfl | decide | simp [WShape.has, WShape.arms, WShape.armsAll])
    (show (WTm.eq .res (.lit (.bool true))).value [] { args := args, res := some (.bool true), after := args } = some (.bool (true == true)) from w_eq_bool (w_res rfl) w_lit) rfl

/-! ### the attachment: holds_open's last premise (the goal 'hc' behind k_head) from a wpAny of the law's body -/

/-  the same from a codeAny of the CALL (for a layer whose function contracts speak of calls) -/
theorem attach_call {l : OpenLaw} {n : Nat} {q : Program} {loose : List Str} {XP : (Str → Option Value) → Heap → Prop} {YP : World → Heap → Prop} {d : DefRec}
    (hn : l.most = some n) (hdf : d.params.defaults = [])
    (call : ∀ (w : World) (s₀ s₁ : Shared) (mg mb : Str → Option Value) (fa : Addr) (o : Obj) (pm cd doc : Value) (a : Addr) (vs : List Value) (ns : List Int),
      Ground q loose [] XP w s₀ mg mb s₁.heap → YP w s₁.heap →
      s₁.heap.get? fa = some o → o.data = .func (docDef d.name d.params d.body d.scope pm cd doc) → s₁.heap.CodeRec cd d.name → mg d.name = some (.ref fa) →
      s₁.heap.get? a = some { cls := .type "list", data := .seq vs.toArray } → IntsAre vs ns → ns.length ≤ n → s₁.gens = #[] →
      codeAny (model l.prog w) callerA (.call (.ref fa) ⟨[.ref a], []⟩) (fun r s' => r = .ok (.ret (.bool true)) ∧ OldK s₁.heap s'.heap ∧ s'.os = s₁.os ∧ AllBare s'.gens) s₁) :
    WalkO q loose XP YP l.row.toRowW d [] (fun f vs => PySem.call f vs) := by
  intro w s₀ s₁ mg mb G Y fa o pm cd doc dV kV ho hd hcd hD hmg hg args vals as hpre hlay hrd hwl hlo
  obtain rfl : dV = .none := Dflts.none hD hdf
  obtain rfl : kV = .none := Dflts.noKw hD
  obtain ⟨a, vs, ns, rfl, rfl, hobj, hints, hlen⟩ := script_of hn hpre hwl
  refine enter_call (codeAny_mono (call w s₀ s₁ mg mb fa o pm cd doc a vs ns G Y ho (fd_plain hd) hcd hmg hobj hints hlen hg) fun r s' hq => ?_)
  obtain ⟨rfl, h2, h3, h4⟩ := hq
  exact ⟨.inl ⟨.bool true, .bool true, [], rfl, fun _ => rfl, .bool true, post_true l _, fun _ => ⟨List.Pairwise.nil, fun _ hm => (nomatch hm)⟩⟩, h2, h3, h4⟩


/-! ### rules over ANY heap (no ledger) from facts about the written part K: the library's own take a ledger (News) for what they write -/
section
variable {prog : Program} {w : World} {A : Around} {E : Value → Shared → Prop} {s : Shared} {K : Frag}


/-  C(..): dict at size, instance at size + 1, then __init__ -/
theorem make_obj {R : Result → Shared → Prop} {C fI : Addr} {rest : List Value} {kw : List (Str × Value)}
    (X : K.In s.heap) (hm : makesIn K C = true) (hi : findIn K (.ref C) "__init__" = some (some (.ref fI))) (hf : isFn K (.ref fI) = true)
    (h : codeAny (model prog w) (A.under (.builtin "type.__call__" ⟨.ref C :: rest, kw⟩)) (.call (.ref fI) ⟨.ref (s.heap.objs.size + 1) :: rest, kw⟩) (InitBack (s.heap.objs.size + 1) R)
      { s with heap := (s.heap.push emptyDict).push (instObj C s.heap.objs.size) }) : codeAny (model prog w) A (.call (.ref C) ⟨rest, kw⟩) R s := by
  obtain ⟨hh, g, d, t, os⟩ := s
  exact make_core (makes_of X hm) (looks_findIn X hi) (fun self => bind_fn X self (beq_iff_eq.mp hf)) (.inl rfl) h

/-  x.name where the instance's dict holds the name and the class does not -/
theorem get_field {x C : Addr} {ox : Obj} {es : List DictEntry} {n : Nat} {name : Str} {expr : Bool} {v : Value} {Q : Value → Shared → Prop}
    (X : K.In s.heap) (I : PySem.W.InstAt s.heap x ox C (some (dictOf es n))) (hg : plainGet K C name = true) (hh : hasDictIn K C = true) (ha : findIn K (.ref C) name = some none)
    (hl : getL name es = some (some v)) (hv : handedIn v = true) (h : Q v { s with toks := s.toks + 1 }) : wpAny (model prog w) A (getAttr (.ref x) name expr) Q E s :=
  get_value X I (plainGet_of hg).1 (findObj_own hh ha rfl hl) hv h


/-! the whole heap as the ledger: makes every rule that writes through a ledger a rule over any heap -/

end
end Att

namespace L2
open PySem PySem.Spec PyProof.Rows

theorem vals_ints : ∀ {vs : List Value} {ns : List Int}, IntsAre vs ns → Vals (ns.map V.int) vs
  | _, _, .nil => .nil
  | _, _, .cons n t h => .cons ⟨t, rfl⟩ (vals_ints h)

/-  nothing is tracked but the script, known to the object (or it is an object of the module) -/
def Only (H : Hp) : Prop := ∀ b, H b = none ∨ ∃ o xs, H b = some (.frz o (.lst xs))

/-  THE HEAD: the law's promise, at the heap behind the top. F, the promise of the law's def, may use that base is part of the heap (so K.In base, base.Ns mainGlobals mg stand in Mod) -/
theorem law_call {P : Program} {w : World} {K : PySem.W.Frag} {mg mb : Str → Option Value} {CX : CXT} {k : Nat} {fa a : Addr} {fd : FuncData} {x : Str} {sp : Sp} {s₁ : Shared} {vs : List Value} {ns : List Int}
    (KX : K.In s₁.heap) (hns : s₁.heap.Ns mainGlobals mg) (hb : s₁.heap.Ns builtinsNs mb) (hbb : ∀ x : Str, x ≠ "__name__" → mb x = bootBuiltins x) (hlim : s₁.heap.NoLimit) (hg : s₁.gens = #[])
    (ha : s₁.heap.get? a = some { cls := .type "list", data := .seq vs.toArray }) (hi : IntsAre vs ns) (hl : ns.length ≤ sizeLine) (hr : Room k callerA)
    (F : ∀ base : Heap, K.In base → base.Ns mainGlobals mg → FnOk P w K mg base CX k fa fd [x] sp) (hbind : ∀ (s : Shared) (u : Value), BindsTo s fd ⟨[u], []⟩ [(x, u)])
    (hsp : ∀ H : Hp, Only H → SqL K H a (ns.map V.int) → sp [.ref a] H (fun v _ => v = .bl true) fun _ _ _ => False)
    (hCX : ∀ H e s', CX [] H s₁ (fun _ _ _ => False) e s' → False) :
    codeAny (model P w) callerA (.call (.ref fa) ⟨[.ref a], []⟩) (fun r s' => r = .ok (.ret (.bool true)) ∧ OldK s₁.heap s'.heap ∧ s'.os = s₁.os ∧ AllBare s'.gens) s₁ := by
  have rv := vals_ints hi
  have lenV := hi.length
  -- from an abstract heap in which nothing but the script may be tracked
  have core : ∀ H : Hp, Only H → SqL K H a (ns.map V.int) → HOk P w H s₁.heap → (∀ b, H b ≠ none → b = a) → (H a ≠ none → K.lookup a = none) →
      codeAny (model P w) callerA (.call (.ref fa) ⟨[.ref a], []⟩) (fun r s' => r = .ok (.ret (.bool true)) ∧ OldK s₁.heap s'.heap ∧ s'.os = s₁.os ∧ AllBare s'.gens) s₁ := by
    intro H hO hS hok hA hK
    have base_of : ∀ {b : Addr} {o : Obj}, s₁.heap.get? b = some o → H b = none → (hidT s₁.heap H).get? b = some o := fun e n => hidT_get e n
    have noA : ∀ {b : Addr} {o : Obj} {es : Array DictEntry} {ep : Nat}, s₁.heap.get? b = some o → o.data = .dict es ep → H b = none := fun {b o es ep} e d => by
      cases q : H b with
      | none => rfl
      | some u =>
        have e' : b = a := hA b (by rw [q]; simp)
        subst e'
        rw [ha] at e; cases e
        have d' : Data.seq vs.toArray _ = Data.dict es ep := d
        cases d'
    have nsK : ∀ {b : Addr} {m : Str → Option Value}, s₁.heap.Ns b m → (hidT s₁.heap H).Ns b m := fun {b m} ⟨o, es, ep, e, d, r⟩ => ⟨o, es, ep, base_of e (noA e d), d, r⟩
    have hKb : K.In (hidT s₁.heap H) := fun b o e => base_of (KX b o e) (by
      cases q : H b with
      | none => rfl
      | some u =>
        have e' : b = a := hA b (by rw [q]; simp)
        subst e'
        rw [hK (by rw [q]; simp)] at e; cases e)
    have hM : Mod K mg (hidT s₁.heap H) := ⟨hKb, nsK hns, ⟨mb, nsK hb, hbb⟩, let ⟨mc, h1, h2⟩ := hlim; ⟨mc, nsK h1, h2⟩⟩
    have e0 : Env0 P w K mg (hidT s₁.heap H) callerA [] s₁ H := ⟨rfl, hM, fun b o e => of_hidT e, Nat.le_of_eq (hidT_size _ _), trivial, fun b hb => absurd (show b ∈ ([] : List Addr) from hb) (by simp), hok, .of_eq hg⟩
    refine codeAny_mono ((F _ hKb (nsK hns)).run callerA [] s₁ H ⟨[.ref a], []⟩ [.ref a] [.ref a] _ _ hr e0 (hbind s₁ (.ref a)) (.cons rfl .nil) (hsp H hO hS)) fun r s' h => ?_
    cases r with
    | error e => exact (hCX H e s' h).elim
    | ok fl =>
      cases fl with
      | next => exact False.elim h
      | brk => exact False.elim h
      | cont => exact False.elim h
      | ret u =>
        obtain ⟨v, H', os, bare, un, hok', r', q⟩ := h
        have q' : v = .bl true := q
        subst q'
        obtain rfl : u = Value.bool true := r'
        refine ⟨rfl, OldK.of_keep fun b o e => ?_, os, bare⟩
        cases q : H b with
        | none => exact un.keep b o e q (by intro z; exact absurd (show b ∈ ([] : List Addr) from z) (by simp)) (by simp)
        | some u =>
          rcases hO b with z | ⟨ob, xs, z⟩
          · rw [q] at z; cases z
          · have z2 := un.frzs b ob _ z
            obtain ⟨e1, _⟩ := hok b _ z
            obtain ⟨e2, _⟩ := hok' b _ z2
            rw [e] at e1; cases e1
            exact e2
  cases hk : K.lookup a with
  | some o =>
    -- the script is one of the module's own objects
    have e := KX a o hk
    rw [ha] at e
    cases e
    refine core (fun _ => none) (fun _ => .inl rfl) (.inr ⟨_, vs.toArray, _, hk, rfl, rfl, rfl, by rw [List.size_toArray, lenV]; exact hl, by simpa using rv⟩) (fun b u z => by have z' : (none : Option HO) = some u := z; cases z') (fun b z => absurd rfl z) fun z => absurd rfl z
  | none =>
    refine core (fun b => if b = a then some (.frz { cls := .type "list", data := .seq vs.toArray } (.lst (ns.map V.int))) else none) (fun b => ?_) (.inl (.inr ⟨{ cls := .type "list", data := .seq vs.toArray }, if_pos rfl⟩)) (fun b u z => ?_) (fun b z => ?_) fun _ => hk
    · by_cases hb : b = a
      · exact .inr ⟨_, _, if_pos hb⟩
      · exact .inl (if_neg hb)
    · by_cases hb : b = a
      · have z' := (if_pos hb).symm.trans z
        cases z'
        subst hb
        exact ⟨ha, by rw [List.length_map]; exact hl, vs, _, rv, ha⟩
      · have z' := (if_neg hb).symm.trans z
        cases z'
    · by_cases hb : b = a
      · exact hb
      · exact absurd (if_neg hb) z
end L2

namespace L2
open PySem PySem.Spec PyProof.Rows

abbrev KOf {K : PySem.W.Frag} {h : Heap} (_ : K.In h) : PySem.W.Frag := K

/-  the goal that k_head leaves (case hc), from the law's promise. F gives the function object fd (K's own) once, then the promise over every base -/
theorem walk_of {l : PySem.W.OpenLaw} {n k : Nat} {q : Program} {loose : List Str} {XP : (Str → Option Value) → Heap → Prop} {YP : World → Heap → Prop} {d : DefRec} {K : Params → PySem.W.Frag} {CX : World → CXT} {sp : World → Sp} {x : Str}
    (hn : l.most = some n) (hn2 : n ≤ sizeLine) (hdf : d.params.defaults = []) (hr : Room k callerA)
    (hY : ∀ (w : World) (h : Heap), YP w h → (K w.params).In h)
    (F : ∀ (w : World) (mg : Str → Option Value) (fa : Addr) (h : Heap), (K w.params).In h → h.Ns mainGlobals mg → mg d.name = some (.ref fa) →
      ∃ fd : FuncData, (∀ (s : Shared) (u : Value), BindsTo s fd ⟨[u], []⟩ [(x, u)]) ∧
        ∀ base : Heap, (K w.params).In base → base.Ns mainGlobals mg → FnOk l.prog w (K w.params) mg base (CX w) k fa fd [x] (sp w))
    (hsp : ∀ (w : World) (H : Hp) (a : Addr) (ns : List Int), ns.length ≤ n → Only H → SqL (K w.params) H a (ns.map V.int) → sp w [.ref a] H (fun v _ => v = .bl true) fun _ _ _ => False)
    (hCX : ∀ (w : World) (H : Hp) (s : Shared) (e : Value) (s' : Shared), CX w [] H s (fun _ _ _ => False) e s' → False) :
    PySem.W.WalkO q loose XP YP l.row.toRowW d [] (fun f vs => PySem.call f vs) := by
  refine Att.attach_call hn hdf fun w s₀ s₁ mg mb fa o pm cd doc a vs ns G Y ho hd hcd hmg hobj hints hlen hg => ?_
  have KX := hY w _ Y
  obtain ⟨fd, hb, hF⟩ := F w mg fa _ KX G.T.g hmg
  exact law_call KX G.T.g G.T.b G.T.builtins G.T.nolimit hg hobj hints (Nat.le_trans hlen hn2) hr hF hb (fun H hO hS => hsp w H a ns hlen hO hS) fun H e s' => hCX w H s₁ e s'
end L2

/- THE LAST THEOREM (shape; LID, My.* are yours):
   My.Adr: a structure of the addresses that your layer names (classes, functions); My.Txt K t: a structure (Prop) of the equations over K;
   My.txt_mk : {K} {implicit addresses ..} (e1 : nsIn K mainGlobals "law" = some (some (.ref f))) (e2 : K.lookup f = some ⟨oc, od, .func (fnOf "law" "law" params body scope dV kV doc pm an cdv ct), sl⟩) (e3 : codeIn K cdv "law" = true) .. : ∃ t, My.Txt K t

set_option maxRecDepth 100000 in
set_option maxHeartbeats 0 in
theorem PySem.Challenge.cw_LID_holds : PySem.Challenge.rw_LID.Holds := by
  w_on; o_law; k_head; (case hw => w_witness2)
  k_fill
  refine L2.walk_of (l := PySem.Challenge.rw_LID) (n := 63) (k := 40) (x := "script") (CX := fun w => ..) (sp := fun _ => My.sp_law) rfl (by decide) rfl ⟨rfl, by decide, by decide⟩ (fun w h Y => PySem.W.kIn_of Y) ?F ?S ?C
  case F =>
    intro w mg fa h KX G hmg
    have T : ∃ t, My.Txt (L2.KOf KX) t := by
      dsimp only [L2.KOf]                          -- K must stand as «<heap const> w.params» for k_is
      refine' My.txt_mk ?e1 ?e2 ?e3 ..
      (case e1 => PySem.W.k_is)                    -- in the order: a name -> its address -> its object -> its parts
      (case e2 => PySem.W.k_is)
      ..
    obtain ⟨t, T⟩ := T
    have e0 := hmg.symm.trans (PySem.W.mg_of KX G T.law)
    cases e0                                       -- fa is the law's own address
    exact ⟨_, fun s u => .of_eq rfl, fun base kb nb => My.law_fn T kb nb⟩     -- if «.of_eq rfl» comes too early: refine' ⟨_, ?b, fun base kb nb => My.law_fn T kb nb⟩; exact fun s u => .of_eq rfl
  case S => exact fun w H a ns hl hO hS => ..
  case C => exact ..
(the tactic k_is has no namespace: write k_is) -/

/-! SHORT WORDS over the layer: a def of the text, its body, what a loop and a test want. -/
namespace L2
open PySem PySem.Spec PyProof.Rows

/-! ### the text by places -/
def defArgs (s : Stmt) : Arguments := match s with
  | .FunctionDef _ a _ _ _ _ _ _ _ _ => a
  | _ => { posonlyargs := [], args := [], vararg := none, kwonlyargs := [], kw_defaults := [], kwarg := none, defaults := [] }
def defBody (s : Stmt) : List Stmt := match s with
  | .FunctionDef _ _ b _ _ _ _ _ _ _ => b
  | _ => []
def defScope (s : Stmt) : Scope := match s with
  | .FunctionDef _ _ _ _ _ _ sc _ _ _ => sc
  | _ => { kind := .function, names := [], isGenerator := false, isCoroutine := false }

/-! ### no exception leaves a def -/
abbrev CX0 : CXT := fun _ _ _ _ _ _ => False
abbrev E0 : XK := fun _ _ _ => False
theorem pass0 {X : Cx} : Passes CX0 X E0 := fun _ _ _ _ _ _ _ h => h.elim

/-! ### a def (or method) of the text as it stands behind the top -/
structure Fun (K : PySem.W.Frag) (x qual : Str) (st : Stmt) (f : Addr) (fd : FuncData) : Prop where
  ex : ∃ (oc : Value) (od : Option Addr) (kV doc pm : Value) (an : Option Addr) (cdv ct : Value) (osl : Array (Option Value)),
    fd = PySem.W.fnOf x qual (defArgs st) (defBody st) (defScope st) .none kV doc pm an cdv ct ∧ K.lookup f = some ⟨oc, od, .func fd, osl⟩ ∧ PySem.W.codeIn K cdv qual = true
  kp : PySem.W.keepIn K (.ref f) = true
section
variable {P : Program} {w : World} {K : PySem.W.Frag} {mg : Str → Option Value} {base : Heap}
/-  THE RULE for a def: its body as a term of rules, and the reading of that term -/
theorem Fun.ok {x qual : Str} {st : Stmt} {f : Addr} {fd : FuncData} {N ps : List Str} {k : Nat} {sp : Sp} (F : Fun K x qual st f fd) (S : FnScope N ps (defScope st)) (len : ∀ vs H Q E, sp vs H Q E → vs.length = ps.length)
    (hbody : ∀ (cdv : Value) (A : Around) (outer : List Env) (s : Shared) (H : Hp) (vs : List V) (Q : VK) (E : XK), Room k (A.deeper (envOfC qual (defScope st) s.heap.objs.size f cdv)) → sp vs H Q E →
      ∃ t, PSs (cxOf CX0 P w K mg base N qual (defScope st) f cdv A outer s H E).nox (defBody st) t ∧ t { nx := fun _ H' => Q .non H', rt := Q } (start N vs) H) : FnOk P w K mg base CX0 (k + 1) f fd ps sp := by
  obtain ⟨oc, od, kV, doc, pm, an, cdv, ct, osl, rfl, lk, hcd⟩ := F.ex
  refine fn_of lk hcd S len fun A outer s H vs Q E hr hsp => ?_
  obtain ⟨t, h, q⟩ := hbody cdv A outer s H vs Q E hr hsp
  exact ⟨t, h.nox, q⟩
/-  how its arguments bind (no defaults): h is «fun _ _ _ _ _ _ us hl => match us, hl with | [_, _], _ => rfl», one _ a parameter -/
theorem Fun.binds {x qual : Str} {st : Stmt} {f : Addr} {fd : FuncData} {ps : List Str} (F : Fun K x qual st f fd)
    (h : ∀ (kV doc pm : Value) (an : Option Addr) (cdv ct : Value) (us : List Value), us.length = ps.length → bindArgs (PySem.W.fnOf x qual (defArgs st) (defBody st) (defScope st) .none kV doc pm an cdv ct) ⟨us, []⟩ = pure (ps.zip us)) : Binds K fd ps [] := by
  obtain ⟨oc, od, kV, doc, pm, an, cdv, ct, osl, rfl, lk, hcd⟩ := F.ex
  exact .all (h kV doc pm an cdv ct)
theorem fun_mk {x qual : Str} {st : Stmt} {f : Addr} {oc : Value} {od an : Option Addr} {osl : Array (Option Value)} {kV doc pm cdv ct : Value} (l : K.lookup f = some ⟨oc, od, .func (PySem.W.fnOf x qual (defArgs st) (defBody st) (defScope st) .none kV doc pm an cdv ct), osl⟩)
    (c : PySem.W.codeIn K cdv qual = true) (k : PySem.W.keepIn K (.ref f) = true) : Fun K x qual st f (PySem.W.fnOf x qual (defArgs st) (defBody st) (defScope st) .none kV doc pm an cdv ct) := ⟨⟨oc, od, kV, doc, pm, an, cdv, ct, osl, rfl, l, c⟩, k⟩
end

/-! ### expressions in short: the name that stands in the i-th slot -/
section
variable {X : Cx}
end

/-! ### tests -/

/-! ### heaps -/
/-  all that was tracked is as it was -/
def Same (H H' : Hp) : Prop := ∀ b o, H b = some o → H' b = some o
theorem Same.refl (H : Hp) : Same H H := fun _ _ h => h
theorem Same.trans {H H1 H2 : Hp} (a : Same H H1) (b : Same H1 H2) : Same H H2 := fun c o h => b c o (a c o h)
theorem Same.free {H H' : Hp} (e : Same H H') {l : Addr} (h : H' l = Option.none) : H l = Option.none := by
  cases q : H l with
  | none => rfl
  | some o =>
    rw [e l o q] at h
    cases h
theorem Same.seq {K : PySem.W.Frag} {H H' : Hp} {a : Addr} {xs : List V} (e : Same H H') (h : SqL K H a xs) : SqL K H' a xs := by
  rcases h with (h | ⟨o, h⟩) | h
  · exact .inl (.inl (e _ _ h))
  · exact .inl (.inr ⟨o, e _ _ h⟩)
  · exact .inr h

end L2

namespace L2
open PySem PySem.Spec PyProof.Rows
section
variable {X : Cx}
end
/-! ### a dict's pairs: keys that differ -/
section
variable {κ : Type} [DecidableEq κ]
end
end L2
set_option maxHeartbeats 4000000
namespace L2
open PySem PySem.Spec PyProof.Rows

/-! ### list comprehensions -/
/-  the tests behind a comprehension's for -/
abbrev runIfs (ifs : List Expr) (env : Env) : Sem Bool :=
  forIn ifs true fun c r => if r = true then do let ok ← isTrue c env (eval c env); pure (ForInStep.yield ok) else pure (ForInStep.yield r)

theorem comp_loop {prog : Program} {w : World} {A : Around} {R : Result → Shared → Prop} {s : Shared} {elt tg iter : Expr} {ifs : List Expr} {scope : Scope} {pos : Pos} {it acc : Value} {env : Env} (I : Nat → Shared → Prop)
    (turn : ∀ n s, I n s → wpAny (model prog w) A (pyNext it) (fun r s1 => match r with
      | none => R (.ok .next) s1
      | some v => wpAny (model prog w) A (letOwnedTupleGo tg it v) (fun _ s2 => wpAny (model prog w) A (assign tg env v) (fun _ s3 => wpAny (model prog w) A (runIfs ifs env) (fun ok s4 =>
          if ok = true then wpAny (model prog w) A (eval elt env) (fun x s5 => wpAny (model prog w) A (call (.builtin "list.append") [acc, x]) (fun _ s6 => ∃ m, m < n ∧ I m s6) (fun _ _ => False) s5) (fun _ _ => False) s4
          else ∃ m, m < n ∧ I m s4) (fun _ _ => False) s3) (fun _ _ => False) s2) (fun _ _ => False) s1) (fun _ _ => False) s)
    (n : Nat) (h : I n s) : codeAny (model prog w) A (.compLoop (.ListComp elt [⟨tg, iter, ifs, 0⟩] scope pos) 0 it acc env) R s := by
  refine codeAny_loop rfl I (fun n s hI => ?_) n h
  show wpAny _ A ((compTurn (.ListComp elt [⟨tg, iter, ifs, 0⟩] scope pos) 0 it acc env).onRaise (fun x => do noteFrame x env; theTreesLotGoes x)) _ _ s
  refine wpAny_noted (wpAny_noRaise ?_)
  rw [compTurn_list]
  refine wpAny_bind (wpAny_standAt (wpAny_bind (thn (turn n s hI) fun r s1 h1 => ?_)))
  cases r with
  | none => exact wpAny_pure h1
  | some v =>
    refine wpAny_bind (thn h1 fun _ s2 h2 => wpAny_bind (thn h2 fun _ s3 h3 => wpAny_bind (thn h3 fun ok s4 h4 => ?_)))
    cases ok with
    | false => exact wpAny_pure ⟨rfl, h4⟩
    | true => exact wpAny_bind (wpAny_bind (thn h4 fun x s5 h5 => wpAny_bind (thn h5 fun _ s6 h6 => wpAny_pure (wpAny_pure ⟨rfl, h6⟩))))

/-  the cells that a comprehension's block sees -/
theorem closure_go (env : Env) : ∀ (names : List (Str × NameKind)) (cs : List (Str × Addr)), (∀ n, (n, NameKind.free) ∈ names → ∃ c, env.cells.lookup n = some c) → (∀ n c, cs.lookup n = some c → env.cells.lookup n = some c) →
    ∃ cl, (forIn names cs fun (p : Str × NameKind) (r : List (Str × Addr)) => (if p.2 == NameKind.free then do let c ← cellOf env p.1; pure (ForInStep.yield ((p.1, c) :: r)) else pure (ForInStep.yield r) : Sem (ForInStep (List (Str × Addr))))) = pure cl ∧
      (∀ n c, cl.lookup n = some c → env.cells.lookup n = some c) ∧ (∀ n, ((n, NameKind.free) ∈ names ∨ ∃ c, cs.lookup n = some c) → ∃ c, cl.lookup n = some c)
  | [], cs, _, hcs => ⟨cs, rfl, hcs, fun n h => h.elim (fun z => nomatch z) id⟩
  | (m, k) :: r, cs, hn, hcs => by
    cases hk : k == NameKind.free with
    | false =>
      obtain ⟨cl, e, h1, h2⟩ := closure_go env r cs (fun n z => hn n (List.mem_cons_of_mem _ z)) hcs
      refine ⟨cl, ?_, h1, fun n z => h2 n ?_⟩
      · rw [List.forIn_cons]; simp only [hk]; exact e
      · rcases z with z | z
        · rcases List.mem_cons.mp z with q | q
          · cases q; simp at hk
          · exact .inl q
        · exact .inr z
    | true =>
      have ek : k = NameKind.free := by simpa using hk
      subst ek
      obtain ⟨c, hc⟩ := hn m List.mem_cons_self
      obtain ⟨cl, e, h1, h2⟩ := closure_go env r ((m, c) :: cs) (fun n z => hn n (List.mem_cons_of_mem _ z)) (fun n c' z => by
        by_cases q : n = m
        · subst q; simp [List.lookup_cons] at z; subst z; exact hc
        · rw [List.lookup_cons, beq_eq_false_iff_ne.mpr q] at z; exact hcs n c' z)
      refine ⟨cl, ?_, h1, fun n z => h2 n ?_⟩
      · rw [List.forIn_cons]; simp only [cellOf, hc]; exact e
      · rcases z with z | ⟨c', z⟩
        · rcases List.mem_cons.mp z with q | q
          · cases q; exact .inr ⟨c, by simp [List.lookup_cons]⟩
          · exact .inl q
        · by_cases q : n = m
          · subst q; exact .inr ⟨c, by simp [List.lookup_cons]⟩
          · exact .inr ⟨c', by rw [List.lookup_cons, beq_eq_false_iff_ne.mpr q]; exact z⟩
theorem closure_of {scope : Scope} {env : Env} (hn : ∀ n, (n, NameKind.free) ∈ scope.names → ∃ c, env.cells.lookup n = some c) :
    ∃ cl, closureFor scope env = pure cl ∧ (∀ n c, cl.lookup n = some c → env.cells.lookup n = some c) ∧ (∀ n, (n, NameKind.free) ∈ scope.names → ∃ c, cl.lookup n = some c) := by
  obtain ⟨cl, e, h1, h2⟩ := closure_go env scope.names [] hn (fun _ _ z => nomatch z)
  refine ⟨cl, ?_, h1, fun n z => h2 n (.inl z)⟩
  unfold closureFor
  simp only [bind_pure]
  exact e
end L2
set_option maxHeartbeats 4000000
namespace L2
open PySem PySem.Spec PyProof.Rows

/-  a comprehension's names, held against those of the code around it: N its slots' names, rest the same as the block sees them -/
def relNames (names onames : List (Str × NameKind)) : List (Str × NameKind) :=
  names.map fun (n, k) => if (k == .free && onames.lookup n == some .cell) then (n, .cell) else (n, k)
def compOk (sc osc : Scope) (N rest : List Str) : Bool :=
  (sc.kind == .function && osc.kind == .function && sc.names.all fun y => y.2 != .cell && (y.2 != .local || sc.names.lookup y.1 == some .local) && (y.2 != .free || osc.names.lookup y.1 == some .cell || osc.names.lookup y.1 == some .free))
  && N.length == rest.length && (N.zip rest).all fun p => match (relNames sc.names osc.names).lookup p.2 with
    | some .local => false
    | some .cell => p.1 == p.2 && (p.2, NameKind.free) ∈ sc.names && (osc.names.lookup p.2 == some .cell || osc.names.lookup p.2 == some .free)
    | some .free => p.1 == p.2 && (p.2, NameKind.free) ∈ sc.names && (osc.names.lookup p.2 == some .cell || osc.names.lookup p.2 == some .free)
    | _ => true
structure CompSc (sc osc : Scope) (N rest : List Str) : Prop where
  kind : sc.kind = .function
  okind : osc.kind = .function
  cell : ∀ y ∈ sc.names, y.2 ≠ .cell
  loc : ∀ y ∈ sc.names, y.2 = .local → sc.names.lookup y.1 = some .local
  free : ∀ n, (n, NameKind.free) ∈ sc.names → osc.names.lookup n = some .cell ∨ osc.names.lookup n = some .free
  len : N.length = rest.length
  look : ∀ (i : Nat) x, rest[i]? = some x → ((relNames sc.names osc.names).lookup x = some .local ∨ (relNames sc.names osc.names).lookup x = some .cell ∨ (relNames sc.names osc.names).lookup x = some .free) →
    N[i]? = some x ∧ (x, NameKind.free) ∈ sc.names ∧ (osc.names.lookup x = some .cell ∨ osc.names.lookup x = some .free) ∧ ((relNames sc.names osc.names).lookup x = some .cell ∨ (relNames sc.names osc.names).lookup x = some .free)
theorem compOk_is {sc osc : Scope} {N rest : List Str} (h : compOk sc osc N rest = true) : CompSc sc osc N rest := by
  unfold compOk at h
  simp only [Bool.and_eq_true, beq_iff_eq, List.all_eq_true] at h
  obtain ⟨⟨⟨⟨hk, hok⟩, hy⟩, hl⟩, hz⟩ := h
  refine ⟨hk, hok, fun y z e => ?_, fun y z e => ?_, fun n z => ?_, hl, fun i x e v => ?_⟩
  · have := (hy y z).1.1; rw [e] at this; simp at this
  · have := (hy y z).1.2; rw [e] at this; simpa using this
  · have := (hy _ z).2; simpa using this
  · have hi : i < rest.length := (List.getElem?_eq_some_iff.mp e).1
    have hi' : i < N.length := by omega
    have hN : N[i]? = some N[i] := List.getElem?_eq_getElem hi'
    have hm : (N[i], x) ∈ N.zip rest := by
      refine List.mem_of_getElem? (i := i) ?_
      rw [List.getElem?_zip_eq_some]; exact ⟨hN, e⟩
    have q := hz _ hm
    dsimp only at q
    rcases v with v | v | v
    · rw [v] at q; simp at q
    · rw [v] at q; simp only [Bool.and_eq_true, beq_iff_eq, Bool.or_eq_true, decide_eq_true_eq] at q
      obtain ⟨⟨q1, q2⟩, q3⟩ := q
      exact ⟨by rw [hN, q1], q2, q3, .inl v⟩
    · rw [v] at q; simp only [Bool.and_eq_true, beq_iff_eq, Bool.or_eq_true, decide_eq_true_eq] at q
      obtain ⟨⟨q1, q2⟩, q3⟩ := q
      exact ⟨by rw [hN, q1], q2, q3, .inr v⟩
theorem relabel_names {sc : Scope} {env : Env} (hk : env.scope.kind = .function) : (relabel sc env).names = relNames sc.names env.scope.names := by
  unfold relabel relNames Env.kindOf
  simp [hk]
/-  a name that is a cell or free in the block was free in the comprehension's own table -/
theorem rel_free {names onames : List (Str × NameKind)} (hc : ∀ y ∈ names, y.2 ≠ .cell) {x : Str} (h : (relNames names onames).lookup x = some .cell ∨ (relNames names onames).lookup x = some .free) : (x, NameKind.free) ∈ names := by
  have hm : (x, NameKind.cell) ∈ relNames names onames ∨ (x, NameKind.free) ∈ relNames names onames := h.imp PySem.mem_of_lookup PySem.mem_of_lookup
  rcases hm with hm | hm
  · obtain ⟨⟨n, k⟩, hn, e⟩ := List.mem_map.mp hm
    dsimp only at e
    split at e
    · rename_i hh; cases e; simp at hh; obtain ⟨rfl, _⟩ := hh; exact hn
    · cases e; exact absurd rfl (hc _ hn)
  · obtain ⟨⟨n, k⟩, hn, e⟩ := List.mem_map.mp hm
    dsimp only at e
    split at e
    · cases e
    · cases e; exact hn

/-  the context of a comprehension's block -/
def compCx (X : Cx) (scope : Scope) (N' : List Str) (cl : List (Str × Addr)) (s2 : Shared) (H2 : Hp) (C : Addr) (fp : List Addr) : Cx :=
  { X with N := N', s₀ := s2, H₀ := H2, env := compEnvC scope cl C X.env, outer := X.stack, stack := X.stack, ex := fp, fn := fun _ => false, pn := [], xe := fun _ _ => False }

section
variable {X : Cx} {pins : List (Addr × Obj)} {σ : St} {H2 : Hp} {s2 : Shared} {scope : Scope} {own rest : List Str} {cl : List (Str × Addr)} {fp : List Addr} {C : Addr}
theorem compCx_ok (I : Inv X pins σ H2 s2) (S : CompSc scope X.env.scope X.N rest) (h1 : ∀ n c, cl.lookup n = some c → X.env.cells.lookup n = some c) (h2 : ∀ n, (n, NameKind.free) ∈ scope.names → ∃ c, cl.lookup n = some c)
    (hC : s2.heap.objs.size ≤ C) (hf : ∀ b ∈ fp, FpOk X pins H2 b) (ho : ∀ b ∈ fp, ∃ o, s2.heap.get? b = some o) : (compCx X scope (own ++ rest) cl s2 H2 C fp).Ok where
  mod := I.ok.mod
  kind := S.kind
  glob := I.ok.glob
  blt := I.ok.blt
  above := hC
  inj := fun x y c e1 e2 => I.ok.inj x y c (h1 x c e1) (h1 y c e2)
  has := fun x hx => h2 x (rel_free S.cell (by
    have e : (compCx X scope (own ++ rest) cl s2 H2 C fp).env.kindOf x = (relNames scope.names X.env.scope.names).lookup x := congrArg (List.lookup x) (relabel_names (sc := scope) I.ok.kind)
    rw [e] at hx; exact hx))
  cab := fun _ _ z => nomatch z
  hd := I.ok.hd
  frames := I.ok.frames
  stk := .inl rfl
  exf := fun b hb => by
    obtain ⟨o, e⟩ := ho b hb
    exact ⟨Nat.ne_of_lt (Nat.lt_of_lt_of_le (Heap.lt_size e) hC), fun x c e => (hf b hb).2.2.2.2.1 x c (h1 x c e)⟩
  bs := I.bs
  bsz := Nat.le_trans I.ok.bsz I.sz
  noex := fun b o e hb => by
    rcases (hf b hb).2.2.2.1 with z | z
    · exact I.ok.noex b o e z
    · exact absurd (Nat.lt_of_lt_of_le (Heap.lt_size e) (Nat.le_trans I.ok.bsz z)) (Nat.lt_irrefl _)
  exfs := fun b hb z => by
    rcases List.mem_cons.mp (I.stkSub b z) with q | q
    · exact (hf b hb).2.1 q
    · exact (hf b hb).2.2.1 q
  funs := I.stack
  frf := I.stkFree

/-  the block begins: D the list that grows (not tracked), C the block's names -/
theorem comp_start {h1 : Heap} {t1 : Nat} (I : Inv X pins σ H2 s2) (S : CompSc scope X.env.scope X.N rest) (hc1 : ∀ n c, cl.lookup n = some c → X.env.cells.lookup n = some c) (hc2 : ∀ n, (n, NameKind.free) ∈ scope.names → ∃ c, cl.lookup n = some c)
    (hC : s2.heap.objs.size ≤ C) (hf : ∀ b ∈ fp, FpOk X pins H2 b) (ho : ∀ b ∈ fp, ∃ o, s2.heap.get? b = some o)
    (old : ∀ b o, s2.heap.get? b = some o → h1.get? b = some o) (ns : h1.Ns C fun _ => none) :
    Inv (compCx X scope (own ++ rest) cl s2 H2 C fp) [] (List.replicate own.length none ++ σ) H2 { s2 with heap := h1, toks := t1 } := by
  obtain ⟨m, hn, hl⟩ := id I.loc
  have hv : ∀ x, Vis (compCx X scope (own ++ rest) cl s2 H2 C fp).env.scope x → ((relNames scope.names X.env.scope.names).lookup x = some .local ∨ (relNames scope.names X.env.scope.names).lookup x = some .cell ∨ (relNames scope.names X.env.scope.names).lookup x = some .free) := fun x z => by
    have e : (compCx X scope (own ++ rest) cl s2 H2 C fp).env.scope.names = relNames scope.names X.env.scope.names := relabel_names (sc := scope) I.ok.kind
    unfold Vis at z; rw [e] at z; exact z
  refine ⟨compCx_ok I S hc1 hc2 hC hf ho, rfl, I.bare, Un.kept old, ⟨_, ns, fun i x v e1 e2 e3 => ?_⟩, fun x c e => ?_, I.hok.fresh hC, fun x c e => I.freeC x c (hc1 x c e), fun p hp => absurd (show p ∈ ([] : List (Addr × Obj)) from hp) (by simp), I.hok.kept old, ?_⟩
  · have e1' : (own ++ rest)[i]? = some x := e1
    by_cases hi : i < own.length
    · rw [List.getElem?_append_left (by simpa using hi), List.getElem?_replicate] at e2
      split at e2 <;> cases e2
    · have hi' : own.length ≤ i := Nat.le_of_not_lt hi
      rw [List.getElem?_append_right (by simpa using hi'), List.length_replicate] at e2
      rw [List.getElem?_append_right hi'] at e1'
      obtain ⟨q1, q2, q3, q4⟩ := S.look _ x e1' (hv x e3)
      obtain ⟨u, r, l⟩ := hl (i - own.length) x v q1 e2 (q3.elim (fun z => .inr (.inl z)) fun z => .inr (.inr z))
      refine ⟨u, r, .inr ⟨?_, ?_⟩⟩
      · have e : (compCx X scope (own ++ rest) cl s2 H2 C fp).env.kindOf x = (relNames scope.names X.env.scope.names).lookup x := congrArg (List.lookup x) (relabel_names (sc := scope) I.ok.kind)
        rw [e]; exact q4
      · rcases l with ⟨k, _⟩ | ⟨_, c, e, z⟩
        · have k' : X.env.scope.names.lookup x = some .local := k
          rcases q3 with q3 | q3 <;> (rw [q3] at k'; cases k')
        · obtain ⟨c', e'⟩ := hc2 x q2
          have e2 := hc1 x c' e'
          rw [e] at e2; cases e2
          obtain ⟨o, q, d⟩ := z
          exact ⟨c, e', o, old c o q, d⟩
  · obtain ⟨v, o, q, d⟩ := I.cell x c (hc1 x c e)
    exact ⟨v, o, old c o q, d⟩
  · show _ = (own ++ rest).length
    have := I.len; have := S.len
    simp only [List.length_append, List.length_replicate]; omega

/-  the block has ended: the list is tracked, the names around are as they were -/
theorem comp_end {H' : Hp} {s' : Shared} {σ' : St} {D : Addr} {ys : List V} {its : List Value} {n : Nat} {pins' : List (Addr × Obj)} (I : Inv X pins σ H2 s2) (J : Inv (compCx X scope (own ++ rest) cl s2 H2 C fp) pins' σ' H' s') (hf : ∀ b ∈ fp, FpOk X pins H2 b)
    (hD : s2.heap.objs.size ≤ D) (hDn : H' D = none) (hDo : s'.heap.get? D = some { cls := .type "list", data := .seq its.toArray n }) (r : Vals ys its) (hz : ys.length ≤ sizeLine) :
    Inv X pins σ (upd H' D (.lst ys)) s' := by
  have u : Un (frs X.stack) fp H2 H' s2.heap s'.heap := J.base
  have nD : ∀ b o, s2.heap.get? b = some o → b ≠ D := fun b o e => Nat.ne_of_lt (Nat.lt_of_lt_of_le (Heap.lt_size e) hD)
  refine I.call' (ch := fp) J.os ⟨u.keep, u.slot, fun b o e n hx => ?_, u.there, fun b xs e => ?_, fun b o v e => ?_, fun b ps e => ?_⟩ (fun b o e => ?_) J.bare fun b hb => ?_
  · rw [upd_ne (nD b o e)]; exact u.free b o e n hx
  · rw [upd_ne (ne_of_none (u.tups b xs e) hDn)]; exact u.tups b xs e
  · rw [upd_ne (ne_of_none (u.frzs b o v e) hDn)]; exact u.frzs b o v e
  · obtain ⟨more, q⟩ := u.tbls b ps e
    exact ⟨more, by rw [upd_ne (ne_of_none q hDn)]; exact q⟩
  · by_cases hb : b = D
    · subst hb; rw [upd_same] at e; cases e; exact ⟨hz, its, n, r, hDo⟩
    · rw [upd_ne hb] at e
      exact (J.hok b o e).stay (fun c v _ q => q) (fun c q => by rw [upd_ne (ne_of_none q hDn)]; exact q) fun c xs q => by rw [upd_ne (ne_of_none q hDn)]; exact q
  · obtain ⟨_, f1, _, f3, f4, f5⟩ := hf b hb
    exact ⟨f3, f1, f4, f5⟩
end
end L2
set_option maxHeartbeats 4000000
namespace L2
open PySem PySem.Spec PyProof.Rows

/-  the tests behind for: none, or one -/
def PTs (X : Cx) (ifs : List Expr) (t : TT) : Prop :=
  ∀ (pins : List (Addr × Obj)) (s : Shared) (σ : St) (H : Hp) (Q : Bool → Hp → Prop), Inv X pins σ H s → t σ H Q → wpAny (model X.prog X.w) X.A (runIfs ifs X.env) (TP X pins σ Q) X.xe s
def tYes : TT := fun _ H Q => Q true H
theorem pts_nil {X : Cx} : PTs X [] tYes := fun _ _ _ H _ I h => wpAny_tests_nil ⟨H, I, h⟩

/-  what the walk of a comprehension is to show: W by the turn, a measure, the items so far, the block's names, the heap -/
def CompW (J : It) (g : TG) (tt : TT) (te : TE) (fin : List V → Hp → Prop) (σ0 : St) (H1 : Hp) : Prop :=
  ∃ W : Nat → Nat → List V → St → Hp → Prop, (∃ m, W 0 m [] σ0 H1) ∧ ∀ i m ys σ H, W i m ys σ H →
    (J.stop i H ∧ fin ys H) ∨ (J.go i H ∧ ys.length < sizeLine ∧ ∃ N : List V → St → Hp → Prop, (∀ ys' σ' H', N ys' σ' H' → ∃ m', m' < m ∧ W (i + 1) m' ys' σ' H') ∧
      ∀ x H', J.yld i H x H' → g x σ H' fun σ2 H2 => tt σ2 H2 fun b H3 => if b = true then te σ2 H3 fun y H4 => N (ys ++ [y]) σ2 H4 else N ys σ2 H3)

section
variable {X : Cx} {pins : List (Addr × Obj)} {σ : St} {H2 : Hp} {s2 : Shared} {scope : Scope} {own rest : List Str} {cl : List (Str × Addr)} {fp : List Addr} {E : Value → Shared → Prop}
theorem comp_run {elt tg iter : Expr} {ifs : List Expr} {pos : Pos} {J : It} {it : Addr} {tn : Nat → Heap → Prop} {g : TG} {tt : TT} {te : TE} {fin : List V → Hp → Prop} {RR : Value → Addr → Result → Shared → Prop} {D : Nat} (hD : s2.heap.objs.size = D) (hcalm : X.calm = true)
    (I : Inv X pins σ H2 s2) (S : CompSc scope X.env.scope X.N rest) (hc1 : ∀ n c, cl.lookup n = some c → X.env.cells.lookup n = some c) (hc2 : ∀ n, (n, NameKind.free) ∈ scope.names → ∃ c, cl.lookup n = some c)
    (T : Turn X.prog X.w X.K tg J fp it tn) (st : tn 0 s2.heap) (hf : ∀ b ∈ fp, FpOk X pins H2 b)
    (hg : PG (compCx X scope (own ++ rest) cl s2 H2 (D + 1 : Nat) fp) tg g) (ht : PTs (compCx X scope (own ++ rest) cl s2 H2 (D + 1 : Nat) fp) ifs tt)
    (he : PE (compCx X scope (own ++ rest) cl s2 H2 (D + 1 : Nat) fp) elt te)
    (hw : CompW J g tt te fin (List.replicate own.length none ++ σ) H2)
    (hR : ∀ (s' : Shared) (H' : Hp) (ys : List V), Inv X pins σ (upd H' D (.lst ys)) s' → (∃ m, s'.heap.Ns (D + 1 : Nat) m) → H' D = none → H' (D + 1 : Nat) = none → fin ys H' → RR (.ref D) (D + 1 : Nat) (.ok .next) s') :
    wpAny (model X.prog X.w) X.A (newList []) (fun acc s3 => wpAny (model X.prog X.w) X.A (newFunctionEnv scope X.env.globals cl [] X.env.qual none .none (some X.env)) (fun cenv s4 =>
      codeAny (model X.prog X.w) X.A (.compStart (.ListComp elt [⟨tg, iter, ifs, 0⟩] scope pos) 0 (.ref it) acc { cenv with scope := relabel scope X.env }) (RR acc cenv.locals) s4) E s3) E s2 := by
  refine wpAny_newObj_type (wpAny_newFunctionEnv S.cell (by intro y hy; simp at hy) (fun h1 hns hsb => ?_) S.kind)
  dsimp only at hns hsb ⊢
  generalize hHp : s2.heap.push { cls := .type "list", dict := none, data := .seq ([] : List Value).toArray } = Hp2 at hns hsb ⊢
  have hC : Hp2.objs.size = s2.heap.objs.size + 1 := by rw [← hHp, Heap.size_push]
  rw [hD] at hC
  rw [hC] at hns hsb ⊢
  rw [hD]
  have nDC : D ≠ D + 1 := Nat.ne_of_lt (Nat.lt_succ_self _)
  have below : ∀ b o, s2.heap.get? b = some o → b < D := fun b o e => by rw [← hD]; exact Heap.lt_size e
  have old : ∀ b o, s2.heap.get? b = some o → h1.get? b = some o := fun b o e => by
    exact hsb.extBut b o (Nat.ne_of_lt (Nat.lt_succ_of_lt (below b o e))) (Heap.get?_push_of_some _ (hHp ▸ Heap.get?_push_of_some _ e))
  have hDo : h1.get? D = some { cls := .type "list", data := .seq ([] : List Value).toArray 0 } :=
    hsb.extBut _ _ nDC (Heap.get?_push_of_some _ (by rw [← hHp, ← hD]; exact Heap.get?_push_size _ rfl))
  have hfo : ∀ b ∈ fp, ∃ o, s2.heap.get? b = some o := fun b hb => let ⟨o, e, _⟩ := T.obj 0 _ st b hb; ⟨o, e⟩
  have st1 : tn 0 h1 := T.keep _ _ _ st fun b hb o e => old b o e
  have J0 : Inv (compCx X scope (own ++ rest) cl s2 H2 (D + 1 : Nat) fp) [] (List.replicate own.length none ++ σ) H2 { s2 with heap := h1, toks := s2.toks } :=
    comp_start I S hc1 hc2 (by omega) hf hfo old hns
  have nfs : D ∉ (compCx X scope (own ++ rest) cl s2 H2 (D + 1 : Nat) fp).fs := fun z => by
    have z' : D ∈ frs X.stack := z
    rcases List.mem_cons.mp (I.stkSub D z') with q | q
    · exact Nat.lt_irrefl D (by have h := I.lt; rw [← q, hD] at h; exact h)
    · exact I.nofs (Nat.le_of_eq hD) q
  have ncl : ∀ x c, (compCx X scope (own ++ rest) cl s2 H2 (D + 1 : Nat) fp).env.cells.lookup x = some c → c ≠ D := fun x c e z => by
    obtain ⟨v, o, q, d⟩ := I.cell x c (hc1 x c e)
    exact Nat.ne_of_lt (below c o q) z
  have loop : ∀ s3 : Shared, s3 = { s2 with heap := h1, toks := s2.toks } →
      codeAny (model X.prog X.w) X.A (.compLoop (.ListComp elt [⟨tg, iter, ifs, 0⟩] scope pos) 0 (.ref it) (.ref D) (compEnvC scope cl (D + 1) X.env)) (RR (.ref D) (D + 1)) s3 := by
    rintro s3 rfl
    obtain ⟨W, ⟨m0, w0⟩, turn⟩ := hw
    refine comp_loop (fun m s' => ∃ (i : Nat) (ys : List V) (its : List Value) (n : Nat) (σ' : St) (H' : Hp), Inv (compCx X scope (own ++ rest) cl s2 H2 (D + 1 : Nat) fp) [] σ' H' s' ∧ tn i s'.heap ∧ (∀ b ∈ fp, H' b = none) ∧
      s'.heap.get? D = some { cls := .type "list", data := .seq its.toArray n } ∧ H' D = none ∧ Vals ys its ∧ ys.length ≤ sizeLine ∧ W i m ys σ' H') ?_ m0
      ⟨0, [], [], 0, _, H2, J0, st1, fun b hb => (hf b hb).1, hDo, by rw [← hD]; exact I.fresh, .nil, by simp, w0⟩
    rintro m s3 ⟨i, ys, its, n, σ3, H3, J3, st3, fr3, ho3, hn3, r3, z3, w3⟩
    have pin : ∀ {σ' : St} {H' : Hp} {s' : Shared}, Inv (compCx X scope (own ++ rest) cl s2 H2 (D + 1 : Nat) fp) [] σ' H' s' → s'.heap.get? D = some { cls := .type "list", data := .seq its.toArray n } → H' D = none →
        Inv (compCx X scope (own ++ rest) cl s2 H2 (D + 1 : Nat) fp) [(D, { cls := .type "list", data := .seq its.toArray n })] σ' H' s' := fun {σ' H' s'} K1 K2 K3 =>
      K1.pins_of fun p hp => by
        have e : p = (D, { cls := .type "list", data := .seq its.toArray n }) := by simpa using hp
        subst e
        exact ⟨K2, K3, nDC, nfs, fun v z => nomatch z⟩
    have fpk : ∀ {H' : Hp}, (∀ b ∈ fp, H' b = none) → ∀ b ∈ fp, FpOk (compCx X scope (own ++ rest) cl s2 H2 (D + 1 : Nat) fp) [(D, { cls := .type "list", data := .seq its.toArray n })] H' b := fun {H'} fr b hb => by
      obtain ⟨o, e⟩ := hfo b hb
      have lt := below b o e
      refine ⟨fr b hb, Nat.ne_of_lt (Nat.lt_succ_of_lt lt), ?_, .inl hb, fun x c q => (hf b hb).2.2.2.2.1 x c (hc1 x c q), fun p hp => ?_⟩
      · intro z
        have z' : b ∈ frs X.stack := z
        rcases List.mem_cons.mp (I.stkSub b z') with q | q
        · exact (hf b hb).2.1 q
        · exact (hf b hb).2.2.1 q
      · have e : p = (D, { cls := .type "list", data := .seq its.toArray n }) := by
          have hp' : p ∈ [(D, ({ cls := .type "list", data := .seq its.toArray n } : Obj))] := hp
          simpa using hp'
        subst e
        exact Nat.ne_of_gt lt
    have J3p := pin J3 ho3 hn3
    rcases turn i m ys σ3 H3 w3 with ⟨stop, q⟩ | ⟨go, hlt, N, hN, step⟩
    · refine thn (T.done (compCx X scope (own ++ rest) cl s2 H2 (D + 1 : Nat) fp) rfl rfl rfl hcalm i _ s3 σ3 H3 _ J3p (fpk fr3) st3 stop) fun r s4 ⟨hr, J4⟩ => ?_
      subst hr
      have ho4 := J4.pin _ (List.mem_append_right _ List.mem_cons_self)
      refine hR s4 H3 ys (comp_end I J4 hf (by omega) hn3 ho4.1 r3 z3) ?_ hn3 J4.free q
      obtain ⟨mm, hmm, _⟩ := J4.loc
      exact ⟨mm, hmm⟩
    · refine thn (T.item (compCx X scope (own ++ rest) cl s2 H2 (D + 1 : Nat) fp) rfl rfl rfl hcalm i _ s3 σ3 H3 _ J3p (fpk fr3) st3 go) fun r s4 ⟨u, hr, h4⟩ => ?_
      subst hr
      refine thn h4 fun _ s5 ⟨x, H5, J5, r5, y5, st5, fr5⟩ => ?_
      have J5' := J5.pinned (fpk fr5) (T.obj _ _ st5)
      refine thn (hg _ s5 σ3 H5 x u _ J5' r5 (step x H5 y5)) fun _ s6 ⟨σ6, H6, J6, q6⟩ => ?_
      refine thn (ht _ s6 σ6 H6 _ J6 q6) fun b s7 ⟨H7, J7, q7⟩ => ?_
      have stay : ∀ {σ' : St} {H' : Hp} {s' : Shared}, Inv (compCx X scope (own ++ rest) cl s2 H2 (D + 1 : Nat) fp) ([(D, { cls := .type "list", data := .seq its.toArray n })] ++ pinsAt fp s5.heap) σ' H' s' →
          Inv (compCx X scope (own ++ rest) cl s2 H2 (D + 1 : Nat) fp) [] σ' H' s' ∧ tn (i + 1) s'.heap ∧ (∀ b ∈ fp, H' b = none) ∧ s'.heap.get? D = some { cls := .type "list", data := .seq its.toArray n } ∧ H' D = none := fun {σ' H' s'} K1 => by
        refine ⟨K1.pins_of fun p hp => absurd hp (by simp), T.keep _ _ _ st5 fun b hb o e => (K1.pin (b, o) (List.mem_append_right _ (List.mem_append_right _ (mem_pinsAt hb e)))).1, fun b hb => ?_, ?_, ?_⟩
        · obtain ⟨o, e, d⟩ := T.obj _ _ st5 b hb
          exact (K1.pin (b, o) (List.mem_append_right _ (List.mem_append_right _ (mem_pinsAt hb e)))).2.1
        · exact (K1.pin (D, _) (List.mem_append_right _ (List.mem_append_left _ List.mem_cons_self))).1
        · exact (K1.pin (D, _) (List.mem_append_right _ (List.mem_append_left _ List.mem_cons_self))).2.1
      cases b with
      | false =>
        rw [if_neg Bool.false_ne_true] at q7 ⊢
        obtain ⟨k1, k2, k3, k4, k5⟩ := stay J7
        obtain ⟨m', hm, w'⟩ := hN _ _ _ q7
        exact ⟨m', hm, i + 1, ys, its, n, σ6, H7, k1, k2, k3, k4, k5, r3, z3, w'⟩
      | true =>
        rw [if_pos rfl] at q7 ⊢
        refine thn (he _ s7 σ6 H7 _ J7 q7) fun xv s8 ⟨y, H8, J8, r8, q8⟩ => ?_
        obtain ⟨k1, k2, k3, k4, k5⟩ := stay J8
        refine call_meets F.slot_list_append ⟨_, k4, rfl⟩ F.entry_list_append (F.args_list_append_2 _ _) (PySem.list_append D its.toArray n xv (by rw [List.size_toArray, ← r3.length]; omega)) ⟨k4, ?_⟩
        obtain ⟨m', hm, w'⟩ := hN _ _ _ q8
        have ho9 := PySem.IsL.update k4 (fun a => a.push xv)
        have ek : ∀ b o, b ≠ D → s8.heap.get? b = some o → (s8.heap.update D (Obj.mapSeq (fun a => a.push xv))).get? b = some o := fun b o hb e => (Heap.get?_update_other s8.heap (Obj.mapSeq _) (Ne.symm hb)).trans e
        refine ⟨m', hm, i + 1, ys ++ [y], its ++ [xv], (if ((its.toArray.push xv).size == its.toArray.size) = true then n else n + 1), σ6, H8, k1.turned (it := D) (t' := s8.toks) ek k5 nDC (.inr (show s2.heap.objs.size ≤ D by omega)) ncl (fun p hp => absurd (show p ∈ ([] : List (Addr × Obj)) from hp) (by simp)), ?_, k3, ?_, k5, r3.append (.cons r8 .nil), ?_, w'⟩
        · refine T.keep _ _ _ k2 fun b hb o e => ek b o ?_ e
          obtain ⟨o', e'⟩ := hfo b hb
          exact Nat.ne_of_lt (below b o' e')
        · have e2 : its.toArray.push xv = (its ++ [xv]).toArray := by simp
          rw [← e2]; exact ho9
        · simp only [List.length_append, List.length_cons, List.length_nil]; omega
  exact codeAny_compStart_list (loop _ rfl) (T.self X.A 0 _ _ _ st1 (loop _ rfl))
end
end L2
set_option maxHeartbeats 4000000
namespace L2
open PySem PySem.Spec PyProof.Rows

def tComp (k : Nat) (wi : TI) (g : TG) (tt : TT) (te : TE) : TE := fun σ H Q => wi σ H fun J H1 => CompW J g tt te (fun ys H' => ∀ D, H' D = none → Q (.ref D) (upd H' D (.lst ys))) (List.replicate k none ++ σ) H1

section
variable {X : Cx} {elt tg iter : Expr} {ifs : List Expr} {scope : Scope} {pos : Pos} {wi : TI} {g : TG} {tt : TT} {te : TE}
theorem Inv.closed {pins : List (Addr × Obj)} {σ : St} {H : Hp} {s : Shared} {N rest : List Str} (I : Inv X pins σ H s) (S : CompSc scope X.env.scope N rest) :
    ∃ cl, closureFor scope X.env = pure cl ∧ (∀ n c, cl.lookup n = some c → X.env.cells.lookup n = some c) ∧ (∀ n, (n, NameKind.free) ∈ scope.names → ∃ c, cl.lookup n = some c) :=
  closure_of fun n z => I.ok.has n (S.free n z)
theorem Inv.letgo {pins pins' : List (Addr × Obj)} {σ σ' : St} {H H' : Hp} {s s' : Shared} {b : Addr} {h' : Heap} (I : Inv X pins σ H s) (J : Inv X pins σ' H' s') (hb : s.heap.objs.size ≤ b) (hn : H' b = none) (sb : Heap.SameBut b s'.heap h') : Inv X pins σ' H' { s' with heap := h' } := by
  obtain ⟨f0, f1, f2, f3, f4, f5⟩ := I.fpOk hb hn
  exact J.turned (t' := s'.toks) (fun c o hc e => (sb.2 c hc).trans e) f0 f1 f3 f4 f5

theorem pe_comp (own rest : List Str) (hcalm : X.calm = true) (S : CompSc scope X.env.scope X.N rest) (hi : PI X tg iter wi)
    (hg : ∀ cl s2 H2 C fp, PG (compCx X scope (own ++ rest) cl s2 H2 C fp) tg g) (ht : ∀ cl s2 H2 C fp, PTs (compCx X scope (own ++ rest) cl s2 H2 C fp) ifs tt) (he : ∀ cl s2 H2 C fp, PE (compCx X scope (own ++ rest) cl s2 H2 C fp) elt te)
    (hs : ∀ x, foldedSetIterable iter X.env x = pure x := by intro _; rfl) : PE X (.ListComp elt [⟨tg, iter, ifs, 0⟩] scope pos) (tComp own.length wi g tt te) := by
  intro pins s σ H Q I h
  obtain ⟨cl, hcl, hc1, hc2⟩ := I.closed S
  rw [eval_ListComp]
  refine wpAny_comprehension_free (use := none) rfl hs hcl S.kind S.loc (thn (hi pins s σ H _ I h) fun v s1 h1 => thn h1 fun itv s2 h2 => ?_)
  obtain ⟨it, fp, tn, J, H2, e, I2, T, st, hf, hw⟩ := h2
  subst e
  refine comp_run (RR := fun acc C => compPost (model X.prog X.w) X.A X.xe none (EP X pins σ Q) acc C) (D := s2.heap.objs.size) rfl hcalm I2 S hc1 hc2 T st hf (hg _ _ _ _ _) (ht _ _ _ _ _) (he _ _ _ _ _) hw ?_
  intro s' H' ys J' ⟨m, hm⟩ hD hC q
  refine ⟨m, hm, fun h' sb => ⟨.ref s2.heap.objs.size, _, I2.letgo (pins' := pins) (b := (s2.heap.objs.size + 1 : Nat)) J' (Nat.le_succ _) ?_ sb, rfl, q _ hD⟩⟩
  rw [upd_ne (Nat.ne_of_gt (Nat.lt_succ_self _))]; exact hC
/-  name = [..]: the name is a plain local -/
theorem ps_comp {i : Nat} {y : Str} {py spos : Pos} (own rest : List Str) (hcalm : X.calm = true) (S : CompSc scope X.env.scope X.N rest) (hN : X.N.Nodup) (hy : X.N[i]? = some y) (hl : X.env.scope.names.lookup y = some .local) (hi : PI X tg iter wi)
    (hg : ∀ cl s2 H2 C fp, PG (compCx X scope (own ++ rest) cl s2 H2 C fp) tg g) (ht : ∀ cl s2 H2 C fp, PTs (compCx X scope (own ++ rest) cl s2 H2 C fp) ifs tt) (he : ∀ cl s2 H2 C fp, PE (compCx X scope (own ++ rest) cl s2 H2 C fp) elt te)
    (hsw : swapsWith (.ListComp elt [⟨tg, iter, ifs, 0⟩] scope pos) (some (.Name y py)) spos.line X.env = pure true := by rfl)
    (hs : ∀ x, foldedSetIterable iter X.env x = pure x := by intro _; rfl) : PS X (.Assign [.Name y py] (.ListComp elt [⟨tg, iter, ifs, 0⟩] scope pos) spos) (tAsg (tComp own.length wi g tt te) (gName i)) := by
  intro pins s σ H D I h
  obtain ⟨cl, hcl, hc1, hc2⟩ := I.closed S
  rw [exec_Assign_Name_used _ _ _ _ hsw]
  refine wpAny_bind (wpAny_standAt (wpAny_bind ?_))
  show wpAny _ X.A (do let _ ← comprehension (.ListComp elt [⟨tg, iter, ifs, 0⟩] scope pos) scope X.env _ (newList []) false (eval iter X.env) (some (assign (.Name y py) X.env))) _ _ s
  refine wpAny_bind (wpAny_mono (wpAny_comprehension_free (use := some (assign (.Name y py) X.env)) (Q := fun _ s' => SP X pins D .next s') rfl hs hcl S.kind S.loc (thn (hi pins s σ H _ I h) fun v s1 h1 => thn h1 fun itv s2 h2 => ?_)) (fun _ s' hq => wpAny_pure (wpAny_pure hq)) fun _ _ e => e)
  obtain ⟨it, fp, tn, J, H2, e, I2, T, st, hf, hw⟩ := h2
  subst e
  refine comp_run (RR := fun acc C => compPost (model X.prog X.w) X.A X.xe (some (assign (.Name y py) X.env)) (fun _ s' => SP X pins D .next s') acc C) (D := s2.heap.objs.size) rfl hcalm I2 S hc1 hc2 T st hf (hg _ _ _ _ _) (ht _ _ _ _ _) (he _ _ _ _ _) hw ?_
  intro s' H' ys J' ⟨m, hm⟩ hD hC q
  show wpAny _ X.A (assign (.Name y py) X.env (.ref s2.heap.objs.size)) _ _ s'
  refine wpAny_assign_Name (store_ok2 (v := .ref s2.heap.objs.size) J' hN hy (.inl hl) rfl (fun s3 J3 ⟨a, sb, ha⟩ => ?_) (.inr hl))
  have hne : s2.heap.objs.size + 1 ≠ a := by
    rcases ha with ha | ha
    · rw [ha]; exact Nat.ne_of_gt (Nat.lt_succ_of_lt I2.lt)
    · obtain ⟨v, o, e, d⟩ := I2.cell y a ha
      exact Nat.ne_of_gt (Nat.lt_succ_of_lt (Heap.lt_size e))
  refine ⟨m, hm.sameBut sb hne, fun h' sb' => ⟨_, _, I2.letgo (pins' := pins) (b := (s2.heap.objs.size + 1 : Nat)) J3 (Nat.le_succ _) ?_ sb', q _ hD⟩⟩
  rw [upd_ne (Nat.ne_of_gt (Nat.lt_succ_self _))]; exact hC
end

/-! ### the forms one uses -/
/-  one name, over items that are known: the walk J yields xs in order and leaves the heap -/
structure Walk (J : It) (xs : List V) (ok : Hp → Prop) : Prop where
  go : ∀ i H, ok H → i < xs.length → J.go i H
  yld : ∀ i H x H', ok H → i < xs.length → J.yld i H x H' → H' = H ∧ xs[i]? = some x
  stop : ∀ H, ok H → J.stop xs.length H
theorem walk_list {K : PySem.W.Frag} {a : Addr} {xs : List V} : Walk (Itl K a) xs (fun H => SqL K H a xs) where
  go := fun i H q hi => ⟨xs, xs[i], q, by simp [hi]⟩
  yld := fun i H x H' q _ y => ⟨y.1, y.2 xs q⟩
  stop := fun H q => ⟨xs, q, Nat.le_refl _⟩
theorem walk_tup {K : PySem.W.Frag} {a : Addr} {xs : List V} : Walk (Itt K a) xs (fun H => SqT K H a xs) where
  go := fun i H q hi => ⟨xs, xs[i], q, by simp [hi]⟩
  yld := fun i H x H' q _ y => ⟨y.1, y.2 xs q⟩
  stop := fun H q => ⟨xs, q, Nat.le_refl _⟩
def rangeV (lo : Int) (n : Nat) : List V := (List.range n).map fun (i : Nat) => V.int (lo + i)
theorem rangeV_len (lo : Int) (n : Nat) : (rangeV lo n).length = n := by simp [rangeV]
theorem rangeV_get {lo : Int} {n i : Nat} (h : i < n) : (rangeV lo n)[i]? = some (.int (lo + i)) := by simp [rangeV, h]
theorem walk_range {lo : Int} {n : Nat} : Walk (Itr lo n) (rangeV lo n) (fun _ => True) where
  go := fun i H _ hi => by rw [rangeV_len] at hi; exact hi
  yld := fun i H x H' _ hi y => ⟨y.1, by rw [rangeV_len] at hi; rw [rangeV_get hi, y.2]⟩
  stop := fun H _ => Nat.le_of_eq (rangeV_len lo n).symm

/-  a loop over such a walk -/
theorem for_walk {J : It} {xs : List V} {ok : Hp → Prop} (w : Walk J xs ok) {g : TG} {tb : TS} {D : Ends} {σ : St} {H : Hp} (Pv : Nat → St → Hp → Prop) (h0 : Pv 0 σ H) (hl : ∀ i σ H, i ≤ xs.length → Pv i σ H → ok H)
    (hs : ∀ i x σ H, xs[i]? = some x → Pv i σ H → g x σ H fun σ2 H2 => tb { D with nx := Pv (i + 1), ct := Pv (i + 1), bk := D.nx } σ2 H2) (hd : ∀ σ H, Pv xs.length σ H → D.nx σ H) :
    ∃ W : Nat → Nat → St → Hp → Prop, (∃ m, W 0 m σ H) ∧ ∀ i m σ H, W i m σ H →
      (J.stop i H ∧ D.nx σ H) ∨ (J.go i H ∧ ∃ N : St → Hp → Prop, (∀ σ' H', N σ' H' → ∃ m', m' < m ∧ W (i + 1) m' σ' H') ∧ ∀ x H', J.yld i H x H' → g x σ H' fun σ2 H2 => tb { D with nx := N, ct := N, bk := D.nx } σ2 H2) := by
  refine ⟨fun i m σ H => m = xs.length - i ∧ i ≤ xs.length ∧ Pv i σ H, ⟨xs.length, by simp, Nat.zero_le _, h0⟩, ?_⟩
  rintro i m σ H ⟨rfl, hi, p⟩
  have q := hl i σ H hi p
  by_cases hlt : i < xs.length
  · refine .inr ⟨w.go i H q hlt, Pv (i + 1), fun σ' H' p' => ⟨xs.length - (i + 1), by omega, rfl, hlt, p'⟩, fun x H' y => ?_⟩
    obtain ⟨e, y'⟩ := w.yld i H x H' q hlt y
    subst e
    exact hs i x σ _ y' p
  · have e : i = xs.length := by omega
    subst e
    exact .inl ⟨w.stop H q, hd σ H p⟩
/-  a comprehension over such a walk, its target one name -/
theorem comp_walk {J : It} {xs : List V} {ok : Hp → Prop} (w : Walk J xs ok) {tt : TT} {te : TE} {fin : List V → Hp → Prop} {σ : St} {H : Hp} (hz : xs.length ≤ sizeLine) (Pv : Nat → List V → Hp → Prop) (h0 : Pv 0 [] H) (hl : ∀ i ys H, i ≤ xs.length → Pv i ys H → ok H)
    (hlen : ∀ i ys H, Pv i ys H → ys.length ≤ i)
    (hs : ∀ i x ys H, xs[i]? = some x → Pv i ys H → tt (some x :: σ) H fun b H3 => if b = true then te (some x :: σ) H3 fun y H4 => (∃ o, some x :: σ = o :: σ) ∧ Pv (i + 1) (ys ++ [y]) H4 else (∃ o, some x :: σ = o :: σ) ∧ Pv (i + 1) ys H3) (hd : ∀ ys H, Pv xs.length ys H → fin ys H) :
    CompW J (gName 0) tt te fin (List.replicate 1 none ++ σ) H := by
  refine ⟨fun i m ys σ' H => m = xs.length - i ∧ i ≤ xs.length ∧ (∃ o, σ' = o :: σ) ∧ Pv i ys H, ⟨xs.length, by simp, Nat.zero_le _, ⟨none, rfl⟩, h0⟩, ?_⟩
  rintro i m ys σ' H ⟨rfl, hi, ⟨o, rfl⟩, p⟩
  have hy := hlen i ys H p
  have q := hl i ys H hi p
  by_cases hlt : i < xs.length
  · refine .inr ⟨w.go i H q hlt, by omega, fun ys' σ' H' => (∃ o, σ' = o :: σ) ∧ Pv (i + 1) ys' H', fun ys' σ' H' p' => ⟨xs.length - (i + 1), by omega, rfl, hlt, p'⟩, fun x H' y => ?_⟩
    obtain ⟨e, y'⟩ := w.yld i H x H' q hlt y
    subst e
    exact hs i x ys _ y' p
  · have e : i = xs.length := by omega
    subst e
    exact .inl ⟨w.stop H q, hd ys H p⟩
end L2
set_option maxHeartbeats 4000000
namespace L2
open PySem PySem.Spec PyProof.Rows

/-! ### the signs of a text, one after another -/
def sgn (c : Nat) : V := .str ⟨#[c]⟩
def Its (z : Str) : It := ⟨fun i _ => i < z.cps.size, fun i H x H' => H' = H ∧ ∃ c, z.cps[i]? = some c ∧ x = sgn c, fun i _ => i = z.cps.size⟩
section
variable {X : Cx} {tg : Expr}
def iStr (tl : TE) : TI := fun σ H R => tl σ H fun x H1 => ∃ z, x = .str z ∧ R (Its z) H1
end

/-! ### values as data -/
mutual
def Rep (K : PySem.W.Frag) (H : Hp) : PyData → V → Prop
  | .none, v => v = .non
  | .bool b, v => v = .bl b
  | .int i, v => v = .int i
  | .str x, v => v = .str x
  | .list ds, v => ∃ a xs, v = .ref a ∧ SqL K H a xs ∧ Reps K H ds xs
  | .tuple ds, v => ∃ a xs, v = .ref a ∧ SqT K H a xs ∧ Reps K H ds xs
  | .dict _, _ => False
def Reps (K : PySem.W.Frag) (H : Hp) : List PyData → List V → Prop
  | [], vs => vs = []
  | d :: ds, vs => ∃ v r, vs = v :: r ∧ Rep K H d v ∧ Reps K H ds r
end
section
variable {X : Cx} {pins : List (Addr × Obj)} {σ : St} {H : Hp} {s : Shared}
mutual
theorem Rep.reads (I : Inv X pins σ H s) : ∀ (d : PyData) (v : V) (u : Value), Rep X.K H d v → RelV v u → ∃ as, Reads s.heap u d as
  | .none, v, u, h, r => by
    have e : v = .non := by simpa [Rep] using h
    subst e; cases r; exact ⟨_, .none⟩
  | .bool b, v, u, h, r => by
    have e : v = .bl b := by simpa [Rep] using h
    subst e; cases r; exact ⟨_, .bool b⟩
  | .int i, v, u, h, r => by
    have e : v = .int i := by simpa [Rep] using h
    subst e; obtain ⟨t, rfl⟩ := r; exact ⟨_, .int i t⟩
  | .str x, v, u, h, r => by
    have e : v = .str x := by simpa [Rep] using h
    subst e; obtain ⟨t, rfl⟩ := r; exact ⟨_, .str x t⟩
  | .list ds, v, u, h, r => by
    obtain ⟨a, xs, rfl, hs, hr⟩ : ∃ a xs, v = .ref a ∧ SqL X.K H a xs ∧ Reps X.K H ds xs := by simpa only [Rep] using h
    cases r
    obtain ⟨its, rv, p, hz⟩ := I.list hs
    obtain ⟨o, ho, hc, n, hd⟩ := p.isList
    obtain ⟨as, q⟩ := Reps.reads I ds xs its hr rv
    exact ⟨_, .list ho hc hd (by simpa using q)⟩
  | .tuple ds, v, u, h, r => by
    obtain ⟨a, xs, rfl, hs, hr⟩ : ∃ a xs, v = .ref a ∧ SqT X.K H a xs ∧ Reps X.K H ds xs := by simpa only [Rep] using h
    cases r
    obtain ⟨its, rv, p, hz⟩ := I.tuple hs
    obtain ⟨o, ho, hc, n, hd⟩ := p
    obtain ⟨as, q⟩ := Reps.reads I ds xs its hr rv
    exact ⟨_, .tuple ho hc hd (by simpa using q)⟩
  | .dict _, v, u, h, r => by simp [Rep] at h
theorem Reps.reads (I : Inv X pins σ H s) : ∀ (ds : List PyData) (vs : List V) (us : List Value), Reps X.K H ds vs → Vals vs us → ∃ as, ReadsAll s.heap us ds as
  | [], vs, us, h, r => by
    have e : vs = [] := by simpa [Reps] using h
    subst e; cases r; exact ⟨_, .nil⟩
  | d :: ds, vs, us, h, r => by
    obtain ⟨v, q, rfl, h1, h2⟩ : ∃ v r, vs = v :: r ∧ Rep X.K H d v ∧ Reps X.K H ds r := by simpa only [Reps] using h
    cases r with
    | cons r1 r2 =>
      obtain ⟨as, q1⟩ := Rep.reads I d v _ h1 r1
      obtain ⟨bs, q2⟩ := Reps.reads I ds q _ h2 r2
      exact ⟨_, .cons q1 q2⟩
end
end
section
variable {X : Cx}
def rEqD (K : PySem.W.Frag) (neg : Bool) : R2 := fun x y H Q => ∃ d e, Rep K H d x ∧ Rep K H e y ∧ SeqAt.shaped d = true ∧ SeqAt.shaped e = true ∧ Q (.bl (if neg then !PyData.eqv d e else PyData.eqv d e)) H
theorem op_eqD (hu : X.A.units + 64 < cLine) : OpR X (compareOp .Eq) (rEqD X.K false) := by
  intro pins s σ H x y v u Q I rx ry h
  obtain ⟨d, e, h1, h2, h3, h4, q⟩ := h
  obtain ⟨as, q1⟩ := Rep.reads I d x v h1 rx
  obtain ⟨bs, q2⟩ := Rep.reads I e y u h2 ry
  exact eq_dataH q1 q2 h3 h4 hu (fin_bl I q rfl)
theorem op_neD (hu : X.A.units + 64 < cLine) : OpR X (compareOp .NotEq) (rEqD X.K true) := by
  intro pins s σ H x y v u Q I rx ry h
  obtain ⟨d, e, h1, h2, h3, h4, q⟩ := h
  obtain ⟨as, q1⟩ := Rep.reads I d x v h1 rx
  obtain ⟨bs, q2⟩ := Rep.reads I e y u h2 ry
  exact ne_dataH q1 q2 h3 h4 hu (fin_bl I q rfl)

/-! ### isinstance, all, any, join -/
def rIsi (K : PySem.W.Frag) : List V → Hp → VK → Prop := fun xs H Q => ∃ x T t b, xs = [x, .ty T] ∧ TyOf K H x t ∧ PySem.W.kitOne K t (.type T) = some b ∧ Q (.bl b) H
theorem call_isi : CallR X (.builtin "isinstance") (rIsi X.K) := by
  intro pins s σ H xs us Q I r h
  obtain ⟨x, T, t, b, rfl, ty, e, q⟩ := h
  obtain ⟨u, c, rfl, ru, rc⟩ := vals2 r
  cases rc
  exact isinst_ok I ru ty e fun tk => ⟨.bl b, H, I.tok _, rfl, q⟩
theorem bools_of : ∀ {bs : List Bool} {us : List Value}, Vals (bs.map V.bl) us → LSm.BoolsAre us bs
  | [], _, .nil => .nil
  | _ :: _, _, .cons r t => by cases r; exact .cons _ (bools_of t)
def rAll (K : PySem.W.Frag) (g : List Bool → Bool) : List V → Hp → VK → Prop := fun xs H Q => ∃ a bs, xs = [.ref a] ∧ SqL K H a (bs.map V.bl) ∧ Q (.bl (g bs)) H
theorem call_all (hc : X.calm = true) : CallR X (.builtin "all") (rAll X.K fun bs => bs.all id) := by
  intro pins s σ H xs us Q I r h
  obtain ⟨a, bs, rfl, hs, q⟩ := h
  obtain ⟨u, rfl, ru⟩ := vals1 r
  cases ru
  obtain ⟨its, rv, p, hz⟩ := I.list hs
  have hl := p.isList
  have hb := bools_of rv
  have hlt : a < s.heap.objs.size := by obtain ⟨_, e, _⟩ := hl; exact Heap.lt_size e
  refine call_all_walk (wpAny_pyIter_list hl ?_)
  refine ⟨s.heap.objs.size, [s.heap.objs.size, a], [s.heap.objs.size], its.toArray.size, _, _, fun i => (bs[i]?).getD true, rfl, Walks.list (A := X.A.in1) (I.ok.hd hc) _ a (Nat.ne_of_lt hlt) its.toArray,
    ⟨⟨_, Heap.get?_push_size _ rfl, rfl, rfl⟩, hl.push _⟩, fun i v s' Q' E' hP hQ => ?_, fun h' tk hk => ?_⟩
  · obtain ⟨b, e, rfl⟩ := hb.get i v (by simpa using hP)
    simp only [e, Option.getD_some] at hQ
    exact wpAny_truthy_bool hQ
  · have e : ((List.range its.toArray.size).all fun i => (bs[i]?).getD true) = bs.all id := by
      rw [List.size_toArray, hb.length]; exact LSm.range_all bs
    rw [e]
    exact ⟨.bl (bs.all id), H, I.kept (LSm.kept_iter hk), rfl, q⟩

/-! ### is True, is False -/
end
end L2
set_option maxHeartbeats 4000000
namespace L2
open PySem PySem.Spec PyProof.Rows
section
variable {X : Cx}

/-! ### a def of the text, called -/
structure DefOk (K : PySem.W.Frag) (mg : Str → Option Value) (x : Str) (st : Stmt) (ps : List Str) (f : Addr) (fd : FuncData) : Prop where
  F : Fun K x x st f fd
  b : Binds K fd ps []
  m : mg x = some (.ref f)
/-! ### names in short -/
theorem pvl (i : Nat) {x : Str} {pos : Pos} (hN : X.N[i]? = some x := by rfl) (hv : X.env.scope.names.lookup x = some .local := by rfl) (hd : (x == ("__debug__" : Str)) = false := by decide) (hcd : (x == ("__classdict__" : Str)) = false := by decide) : PE X (.Name x pos) (tVar i) := pe_var hN (.inl hv) hd hcd
theorem pvc (i : Nat) {x : Str} {pos : Pos} (hN : X.N[i]? = some x := by rfl) (hv : X.env.scope.names.lookup x = some .cell := by rfl) (hd : (x == ("__debug__" : Str)) = false := by decide) (hcd : (x == ("__classdict__" : Str)) = false := by decide) : PE X (.Name x pos) (tVar i) := pe_var hN (.inr (.inl hv)) hd hcd
theorem pgl (i : Nat) {x : Str} {pos : Pos} (hN : X.N.Nodup) (hi : X.N[i]? = some x := by rfl) (hv : X.env.scope.names.lookup x = some .local := by rfl) : PG X (.Name x pos) (gName i) := pg_name hN hi (.inl hv) (.inr hv)
theorem pgc (i : Nat) {x : Str} {pos : Pos} (hN : X.N.Nodup) (hi : X.N[i]? = some x := by rfl) (hv : X.env.scope.names.lookup x = some .cell := by rfl) (hf : X.fn x = true := by rfl) : PG X (.Name x pos) (gName i) := pg_name hN hi (.inr hv) (.inl hf)
theorem psl (i : Nat) {x : Str} {pos pos' : Pos} {e : Expr} {te : TE} (hN : X.N.Nodup) (he : PE X e te) (hi : X.N[i]? = some x := by rfl) (hv : X.env.scope.names.lookup x = some .local := by rfl) (hs : swapsWith e (some (.Name x pos')) pos.line X.env = pure false := by rfl) :
    PS X (.Assign [.Name x pos'] e pos) (tAsg te (gName i)) := ps_set hN hi (.inl hv) he hs (.inr hv)
theorem psc (i : Nat) {x : Str} {pos pos' : Pos} {e : Expr} {te : TE} (hN : X.N.Nodup) (he : PE X e te) (hi : X.N[i]? = some x := by rfl) (hv : X.env.scope.names.lookup x = some .cell := by rfl) (hs : swapsWith e (some (.Name x pos')) pos.line X.env = pure false := by rfl) (hf : X.fn x = true := by rfl) :
    PS X (.Assign [.Name x pos'] e pos) (tAsg te (gName i)) := ps_set hN hi (.inr hv) he hs (.inl hf)
/-  a type's name -/
theorem pty {x : Str} {T : String} {pos : Pos} (hm : X.mg x = none) (hv : bootBuiltins x = some (.type T)) (hg : Gl X x := by rfl) (hn : x ≠ "__name__" := by decide) (hd : (x == ("__debug__" : Str)) = false := by decide) : PE X (.Name x pos) (tC (.ty T)) := pe_bltn hg hm hv rfl hn hd
end
/-! ### heaps that grew -/
theorem Same.new {H H' : Hp} (e : Same H H') {p : Addr} (h : H' p = none) (o : HO) : Same H (upd H' p o) := fun b q z => by
  rw [upd_ne (ne_of_none (e b q z) h)]; exact e b q z
theorem Same.upd_new {H : Hp} {p : Addr} (h : H p = none) (o : HO) : Same H (upd H p o) := (Same.refl H).new h o
/-  an object that is not of H is changed -/
theorem Same.set {H H' : Hp} (e : Same H H') {p : Addr} (h : H p = none) (o : HO) : Same H (upd H' p o) := fun b q z => by
  rw [upd_ne (ne_of_none z h)]; exact e b q z
end L2
set_option maxHeartbeats 4000000
namespace L2
open PySem PySem.Spec PyProof.Rows
theorem bt_len : bootBuiltins "len" = some (.builtin "len") := by decide +kernel
theorem bt_all : bootBuiltins "all" = some (.builtin "all") := by decide +kernel
theorem bt_abs : bootBuiltins "abs" = some (.builtin "abs") := by decide +kernel
theorem bt_sum : bootBuiltins "sum" = some (.builtin "sum") := by decide +kernel
theorem bt_isinstance : bootBuiltins "isinstance" = some (.builtin "isinstance") := by decide +kernel
theorem bt_int : bootBuiltins "int" = some (.type "int") := by decide +kernel
theorem bt_bool : bootBuiltins "bool" = some (.type "bool") := by decide +kernel
theorem bt_list : bootBuiltins "list" = some (.type "list") := by decide +kernel
theorem bt_tuple : bootBuiltins "tuple" = some (.type "tuple") := by decide +kernel
/-! ### helps for the reading -/
theorem small_line {n : Nat} (h : n ≤ 1000000) : n ≤ sizeLine := by rw [sizeLine_eq]; omega
/-! ### the kinds of plain things -/
def plainTs : List String := ["NoneType", "bool", "int", "str", "list", "tuple", "dict"]
structure Pl (K : PySem.W.Frag) (H : Hp) (x : V) (T : String) : Prop where
  ty : TyOf K H x (.type T)
  mem : T ∈ plainTs
  sz : ∀ z, x = .str z → z.length ≤ sizeLine
def isiN (T S : String) : Bool := T == S || (T == "bool" && S == "int")
theorem isi_plain {K : PySem.W.Frag} {T S : String} (hT : T ∈ plainTs) (hS : S ∈ plainTs) : PySem.W.kitOne K (.type T) (.type S) = some (isiN T S) := by
  simp only [plainTs, List.mem_cons, List.not_mem_nil, or_false] at hT hS
  rcases hT with rfl | rfl | rfl | rfl | rfl | rfl | rfl <;> rcases hS with rfl | rfl | rfl | rfl | rfl | rfl | rfl <;> rfl
theorem Pl.of_int {K : PySem.W.Frag} {H : Hp} {i : Int} : Pl K H (.int i) "int" := ⟨.int i, by decide, fun _ e => by cases e⟩
theorem Pl.of_lst {K : PySem.W.Frag} {H : Hp} {a : Addr} {xs : List V} (h : H a = some (.lst xs)) : Pl K H (.ref a) "list" := ⟨.lst h, by decide, fun _ e => by cases e⟩
theorem Pl.of_tup {K : PySem.W.Frag} {H : Hp} {a : Addr} {xs : List V} (h : H a = some (.tup xs)) : Pl K H (.ref a) "tuple" := ⟨.tup h, by decide, fun _ e => by cases e⟩
/-  isinstance of a plain thing -/
def rIsP (K : PySem.W.Frag) : List V → Hp → VK → Prop := fun xs H Q => ∃ x S T, xs = [x, .ty S] ∧ Pl K H x T ∧ S ∈ plainTs ∧ Q (.bl (isiN T S)) H
theorem call_isP {X : Cx} : CallR X (.builtin "isinstance") (rIsP X.K) := by
  intro pins s σ H xs us Q I r h
  obtain ⟨x, S, T, rfl, p, hS, q⟩ := h
  exact call_isi pins s σ H _ us Q I r ⟨x, S, .type T, _, rfl, p.ty, isi_plain p.mem hS, q⟩
end L2
set_option maxHeartbeats 4000000
namespace L2
open PySem PySem.Spec PyProof.Rows
section
variable {X : Cx}
end
/-! ### loops over what is known -/
/-! ### items -/
/-! ### texts put together of their signs -/
/-! ### == of lists of truths -/
end L2
set_option maxHeartbeats 4000000
namespace L2
open PySem PySem.Spec PyProof.Rows
/-! ### the rules that name the text's own objects, for a letter K -/
section
variable {X : Cx} {K : PySem.W.Frag} (e : X.K = K)
include e
theorem k_isP : CallR X (.builtin "isinstance") (rIsP K) := by subst e; exact call_isP
theorem k_all (hc : X.calm = true) : CallR X (.builtin "all") (rAll K fun bs => bs.all id) := by subst e; exact call_all hc
def rLenS (K : PySem.W.Frag) : List V → Hp → VK → Prop := fun xs H Q => ∃ p ys, xs = [.ref p] ∧ (SqL K H p ys ∨ SqT K H p ys) ∧ Q (.int ys.length) H
theorem k_len : CallR X (.builtin "len") (rLenS K) := by subst e; exact call_len_seq
def rLenV (K : PySem.W.Frag) : List V → Hp → VK → Prop := fun xs H Q => ∃ x n, xs = [x] ∧ LenV K x H n ∧ Q (.int n) H
def rListOf (K : PySem.W.Frag) : List V → Hp → VK → Prop := fun xs H Q => ∃ p ys, xs = [.ref p] ∧ (SqL K H p ys ∨ SqT K H p ys) ∧ ∀ l, H l = none → Q (.ref l) (upd H l (.lst ys))
theorem k_list : CallR X (.type "list") (rListOf K) := by subst e; exact call_list_of
def rTupleOf (K : PySem.W.Frag) : List V → Hp → VK → Prop := fun xs H Q => ∃ p ys, xs = [.ref p] ∧ ((SqL K H p ys ∧ ∀ l, H l = none → Q (.ref l) (upd H l (.tup ys))) ∨ (SqT K H p ys ∧ Q (.ref p) H))
theorem k_ixL : IxR X (rIxL K) := by subst e; exact ix_list
theorem k_ixT : IxR X (rIxT K) := by subst e; exact ix_tup
theorem k_ix : IxR X (rIx K) := by subst e; exact ix_seq
theorem k_eqD (hu : X.A.units + 64 < cLine) : OpR X (compareOp .Eq) (rEqD K false) := by subst e; exact op_eqD hu
theorem k_neD (hu : X.A.units + 64 < cLine) : OpR X (compareOp .NotEq) (rEqD K true) := by subst e; exact op_neD hu
theorem k_piL {tg l : Expr} {tl : TE} (hl : PE X l tl) : PI X tg l (iList K tl) := by subst e; exact pi_list hl
theorem k_piT {tg l : Expr} {tl : TE} (hl : PE X l tl) : PI X tg l (iTup K tl) := by subst e; exact pi_tup hl
theorem k_pgT {es : List Expr} {k : Nat} {t : TGs} {n : Nat} {pos : Pos} (hc : X.calm = true) (h : PGs X es t) (hn : (assignEach es X.env).length = n := by rfl) (hst : (assignEach es X.env).findIdx? (·.1) = none := by rfl) : PG X (.Tuple es k pos) (gTup K n t) := by subst e; exact pg_tup hc h hn hst
theorem k_bm {o a : Expr} {es : List Expr} {to : TE} {t : TA} {name : Str} {apos cpos : Pos} {T id : String} {r : V → List V → Hp → VK → Prop} (pa : PlainAttrs T) (slot : Slot T name id) (hty : typeOf (.builtin id) = pure (.type "method_descriptor")) (hm : MtR X id r) (ho : PE X o to) (ha : PA X (a :: es) t)
    (hbase : attributeBase o name X.env (eval o X.env) = eval o X.env := by rfl)
    (hfew : ((backTo cpos (starEach (a :: es) X.env)).all (fun x => !x.1) && (backToKw cpos (keywordEach [] X.env)).all (fun x => x.1.isSome)
      && decide ((a :: es).length + ([] : List Keyword).length + (if ([] : List Keyword).isEmpty then 0 else 1) < 30)) = true := by rfl)
    (hline : (apos.endLine == cpos.line) = true := by rfl) (hs : starEach (a :: es) X.env = (false, eval a X.env) :: starEach es X.env := by rfl) (hplain : (backTo cpos (starEach es X.env)).any (·.1) = false := by rfl) :
    PE X (.Call (.Attribute o name apos) (a :: es) [] cpos) (tBM K T r to t) := by subst e; exact pe_bm pa slot hty hm ho ha hbase hfew hline hs hplain
end
end L2
namespace L2
open PySem PySem.Spec PyProof.Rows
/-! ### arguments without stars, by a look -/
def notStar : Expr → Bool
  | .Starred _ _ => false
  | _ => true
theorem star_cons {e : Expr} {es : List Expr} {env : Env} (h : notStar e = true) : starEach (e :: es) env = (false, eval e env) :: starEach es env := by
  cases e <;> first | rfl | cases h
theorem star_none {env : Env} : ∀ {es : List Expr}, es.all notStar = true → (starEach es env).any (·.1) = false
  | [], _ => rfl
  | e :: es, h => by
    rw [List.all_cons, Bool.and_eq_true] at h
    rw [star_cons h.1, List.any_cons, star_none h.2]; rfl
theorem back_none {env : Env} {pos : Pos} {es : List Expr} (h : es.all notStar = true) : (backTo pos (starEach es env)).any (·.1) = false := by
  have := star_none (env := env) h
  unfold backTo
  rw [List.any_map]
  exact this
section
variable {X : Cx} {e : Expr} {es : List Expr} {te : TE} {t : TA}
theorem pal (hn : notStar e = true) (ha : PE X e te) (hr : PA X es t) : PA X (e :: es) (tCons te t) := pa_cons ha hr (star_cons hn)
theorem pe_defL {x : Str} {st : Stmt} {ps : List Str} {f : Addr} {fd : FuncData} {k : Nat} {sp : Sp} {p pos : Pos} (D : DefOk X.K X.mg x st ps f fd) (G : FnOk X.prog X.w X.K X.mg X.base CX0 k f fd ps sp) (hr : Room k X.A)
    (hg : Gl X x) (hdb : (x == ("__debug__" : Str)) = false) (hn : (e :: es).all notStar = true) (ha : PA X (e :: es) t) :
    PE X (.Call (.Name x p) (e :: es) [] pos) (tCall sp [] E0 t) :=
  have h : notStar e = true ∧ es.all notStar = true := by rw [List.all_cons, Bool.and_eq_true] at hn; exact hn
  pe_call G hr hg D.m D.F.kp D.b .nil pass0 ha hdb (star_cons h.1) (back_none h.2)
theorem pe_cB {x : Str} {p pos : Pos} {id : String} {r : List V → Hp → VK → Prop} (hc : CallR X (.builtin id) r) (hm : X.mg x = none) (hv : bootBuiltins x = some (.builtin id)) (hg : Gl X x) (hn : x ≠ "__name__") (hdb : (x == ("__debug__" : Str)) = false)
    (hs : (e :: es).all notStar = true) (ha : PA X (e :: es) t) : PE X (.Call (.Name x p) (e :: es) [] pos) (tCB r t) :=
  have h : notStar e = true ∧ es.all notStar = true := by rw [List.all_cons, Bool.and_eq_true] at hs; exact hs
  pe_callB hc hg hm hv ha hn hdb (star_cons h.1) (back_none h.2)
theorem pe_cTy {x : Str} {p pos : Pos} {T : String} {r : List V → Hp → VK → Prop} (hc : CallR X (.type T) r) (hm : X.mg x = none) (hv : bootBuiltins x = some (.type T)) (hg : Gl X x) (hn : x ≠ "__name__") (hdb : (x == ("__debug__" : Str)) = false)
    (hs : (e :: es).all notStar = true) (ha : PA X (e :: es) t) : PE X (.Call (.Name x p) (e :: es) [] pos) (tCB r t) :=
  have h : notStar e = true ∧ es.all notStar = true := by rw [List.all_cons, Bool.and_eq_true] at hs; exact hs
  pe_callTy hc hg hm hv ha hn hdb (star_cons h.1) (back_none h.2)
theorem back_all {env : Env} {pos : Pos} {es : List Expr} (h : es.all notStar = true) : (backTo pos (starEach es env)).all (fun x => !x.1) = true := by
  have := back_none (env := env) (pos := pos) h
  rw [List.any_eq_false] at this
  rw [List.all_eq_true]
  intro x hx
  have := this x hx
  simpa using this
theorem k_bmL {K : PySem.W.Frag} {o a : Expr} {to : TE} {name : Str} {apos cpos : Pos} {T id : String} {r : V → List V → Hp → VK → Prop} (ek : X.K = K) (pa : PlainAttrs T) (slot : Slot T name id) (hty : typeOf (.builtin id) = pure (.type "method_descriptor")) (hm : MtR X id r)
    (hbase : attributeBase o name X.env (eval o X.env) = eval o X.env) (hs : (a :: es).all notStar = true) (hsz : decide ((a :: es).length + 0 + 0 < 30) = true) (hline : (apos.endLine == cpos.line) = true) (ho : PE X o to) (ha : PA X (a :: es) t) :
    PE X (.Call (.Attribute o name apos) (a :: es) [] cpos) (tBM K T r to t) :=
  have h : notStar a = true ∧ es.all notStar = true := by rw [List.all_cons, Bool.and_eq_true] at hs; exact hs
  k_bm ek pa slot hty hm ho ha hbase (by rw [back_all hs]; exact hsz) hline (star_cons h.1) (back_none h.2)
end
end L2
namespace L2
open PySem PySem.Spec PyProof.Rows
/-  what the walk of a loop is to show -/
def ForW (J : It) (g : TG) (tb : TS) (D : Ends) (σ : St) (H1 : Hp) : Prop := ∃ W : Nat → Nat → St → Hp → Prop, (∃ m, W 0 m σ H1) ∧ ∀ i m σ H, W i m σ H →
  (J.stop i H ∧ D.nx σ H) ∨ (J.go i H ∧ ∃ N : St → Hp → Prop, (∀ σ' H', N σ' H' → ∃ m', m' < m ∧ W (i + 1) m' σ' H') ∧ ∀ x H', J.yld i H x H' → g x σ H' fun σ2 H2 => tb { D with nx := N, ct := N, bk := D.nx } σ2 H2)
theorem for_in {wi : TI} {g : TG} {tb : TS} {D : Ends} {σ : St} {H : Hp} (h : wi σ H fun J H1 => ForW J g tb D σ H1) : tFor wi g tb D σ H := h
theorem ForW.of {g : TG} {tb : TS} {D : Ends} {σ : St} {H : Hp} {J : It} {xs : List V} {ok : Hp → Prop} (w : Walk J xs ok) (Pv : Nat → St → Hp → Prop) (h0 : Pv 0 σ H) (hl : ∀ i σ H, i ≤ xs.length → Pv i σ H → ok H)
    (hs : ∀ i x σ H, xs[i]? = some x → Pv i σ H → g x σ H fun σ2 H2 => tb { D with nx := Pv (i + 1), ct := Pv (i + 1), bk := D.nx } σ2 H2) (hd : ∀ σ H, Pv xs.length σ H → D.nx σ H) : ForW J g tb D σ H := for_walk w Pv h0 hl hs hd
end L2
set_option maxHeartbeats 4000000
namespace L2
open PySem PySem.Spec PyProof.Rows
/-! ### slices of texts -/
def cutL {α : Type} (xs : List α) (lo hi : Option Int) : List α := (xs.drop (HT.sIx xs.length 0 lo)).take (HT.sIx xs.length xs.length hi - HT.sIx xs.length 0 lo)
section
variable {X : Cx}
def rSlS : V → Option Int → Option Int → Hp → VK → Prop := fun x lo hi H Q => ∃ z, x = .str z ∧ z.length ≤ sizeLine ∧ Q (.str ⟨(cutL z.cps.toList lo hi).toArray⟩) H
/-! ### find, startswith, < -/
def rFind : V → List V → Hp → VK → Prop := fun x vs H Q => ∃ z y, x = .str z ∧ vs = [.str y] ∧ Q (.int (Txt.find z y)) H
def rStarts : V → List V → Hp → VK → Prop := fun x vs H Q => ∃ z y, x = .str z ∧ vs = [.str y] ∧ Q (.bl (Txt.startswith z y)) H
end
end L2
namespace L2
open PySem
theorem range_item {lo : Int} {n i : Nat} {x : V} (h : (rangeV lo n)[i]? = some x) : i < n ∧ x = .int (lo + i) := by
  have hi : i < n := by have := (List.getElem?_eq_some_iff.mp h).1; rwa [rangeV_len] at this
  rw [rangeV_get hi] at h
  cases h
  exact ⟨hi, rfl⟩
end L2
set_option maxHeartbeats 4000000
namespace L2
open PySem PySem.Spec PyProof.Rows PySem.NumText
/-! ### numbers as texts -/
def dgs (m : Nat) : List Nat := (Nat.toDigits 10 m).map Char.toNat
def numS (n : Int) : List Nat := if n < 0 then 45 :: dgs n.natAbs else dgs n.natAbs
/-! ### cuts -/
section
variable {X : Cx}
/-! ### int(text), str(value), text * n -/
def rIntT : List V → Hp → VK → Prop := fun xs H Q => ∃ z n, xs = [.str z] ∧ intText? z = some n ∧ z.length ≤ 640 ∧ Q (.int n) H
/-  str of a number or a text -/
def rStrA : List V → Hp → VK → Prop := fun xs H Q => (∃ i, xs = [.int i] ∧ i.natAbs < 10 ^ 100 ∧ Q (.str ⟨(numS i).toArray⟩) H) ∨ ∃ z, xs = [.str z] ∧ Q (.str z) H
end
end L2
namespace L2
open PySem PySem.Spec PyProof.Rows
section
variable {X : Cx}
def rRepS : R2 := fun x y H Q => ∃ z n, x = .str z ∧ y = .int n ∧ MulOk z n ∧ Q (.str (Txt.mul z n)) H
end
end L2
namespace L2
open PySem
/-! ### while -/
def WGo (Pv : Nat → St → Hp → Prop) (m : Nat) (tb : TS) (D : Ends) (σ : St) (H1 : Hp) : Prop := ∃ N : St → Hp → Prop, (∀ σ' H', N σ' H' → ∃ m', m' < m ∧ Pv m' σ' H') ∧ tb { D with nx := N, ct := N, bk := D.nx } σ H1
theorem WGo.of {Pv : Nat → St → Hp → Prop} {m : Nat} {tb : TS} {D : Ends} {σ : St} {H1 : Hp} (h : tb { D with nx := fun σ' H' => ∃ m', m' < m ∧ Pv m' σ' H', ct := fun σ' H' => ∃ m', m' < m ∧ Pv m' σ' H', bk := D.nx } σ H1) : WGo Pv m tb D σ H1 := ⟨_, fun _ _ q => q, h⟩
theorem while_in {c : TT} {tb : TS} {D : Ends} {σ : St} {H : Hp} (Pv : Nat → St → Hp → Prop) (h0 : ∃ m, Pv m σ H) (hs : ∀ m σ H, Pv m σ H → c σ H fun b H1 => if b = true then WGo Pv m tb D σ H1 else D.nx σ H1) : tWhile c tb D σ H := ⟨Pv, h0, hs⟩
end L2
set_option maxHeartbeats 1000000
namespace L2
open PySem PySem.Spec PyProof.Rows
/-! ### an exception in flight: its own object and its last entry, both untracked and not of the heap G -/
def Trc (H : Hp) (h G : Heap) (e : Addr) (C : Value) (ed : Option Addr) (fl : Value) : Prop :=
  G.get? e = none ∧ H e = none ∧ ∃ oe vs, h.get? e = some oe ∧ oe.cls = C ∧ oe.dict = ed ∧ oe.data = .fields vs ∧ 1 < vs.size ∧
    ((vs[1]? = some .none ∧ fl = .none) ∨ ∃ T oT ts, vs[1]? = some (.ref T) ∧ G.get? T = none ∧ T ≠ e ∧ H T = none ∧ h.get? T = some oT ∧ oT.data = .fields ts ∧ ts[3]? = some fl)
/-  what stays: all but the exception's own records, the frames up to slots -/
structure Kp (H : Hp) (G : Heap) (fs : List Addr) (h h' : Heap) : Prop where
  keep : ∀ b o, h.get? b = some o → b ∉ fs → (G.get? b ≠ none ∨ H b ≠ none) → h'.get? b = some o
  slot : ∀ b o, h.get? b = some o → b ∈ fs → ∃ sl, h'.get? b = some { o with slots := sl }
  there : ∀ b o, h.get? b = some o → ∃ o', h'.get? b = some o'
  size : h.objs.size ≤ h'.objs.size
section
variable {M : Model} {A : Around} {E : Value → Shared → Prop} {s : Shared} {Q : Unit → Shared → Prop} {base : Heap} {env : Env} {outer : List Env} {L e : Addr} {C : Value} {ed : Option Addr} {G : Heap} {H : Hp}
end
end L2
set_option maxHeartbeats 1000000
namespace L2
open PySem PySem.Spec PyProof.Rows
/-  an exception behind a call -/
def CXE (P : Program) (w : World) : CXT := fun outer H s E e s' => ∃ a C ed H', e = .ref a ∧ s'.os = s.os ∧ AllBare s'.gens ∧ Un (frs outer) [] H H' s.heap s'.heap ∧ HOk P w H' s'.heap ∧ Trc H' s'.heap s.heap a C ed .none ∧ E C ed H'
/-  the heap G has all that the context leans on -/
structure Cov (X : Cx) (pins : List (Addr × Obj)) (G : Heap) : Prop where
  loc : G.get? X.env.locals ≠ none
  cell : ∀ x c, X.env.cells.lookup x = some c → G.get? c ≠ none
  pin : ∀ p ∈ X.pn ++ pins, G.get? p.1 ≠ none
  old : ∀ b, G.get? b = none → X.s₀.heap.get? b = none
/-  a context whose exceptions are told by E, at states S -/
structure Told (X : Cx) (S : St → Prop) (E : XK) : Prop where
  ex : X.ex = []
  on : ∀ pins σ H s a C ed G, S σ → Inv X pins σ H s → Trc H s.heap G a C ed .none → Cov X pins G → (∀ b, s.heap.get? b = none → G.get? b = none) → E C ed H → X.xe (.ref a) s
section
variable {X : Cx} {k : Nat} {f C : Addr} {fd : FuncData} {ps : List Str} {sp : Sp} {x m : Str} {p pos apos : Pos} {e o : Expr} {es : List Expr} {ta : TE} {t : TA} {S : St → Prop} {E : XK}
/-  f(..), out of which exceptions may come -/
def tCallX (S : St → Prop) (sp : Sp) (E : XK) (t : TA) : TE := fun σ H Q => t σ H fun vs H1 => S σ ∧ sp vs H1 Q E
end
end L2
set_option maxHeartbeats 1000000
namespace L2
open PySem PySem.Spec PyProof.Rows
/-! ### own exceptions under ValueError -/
abbrev vbm : List Value := [.type "ValueError", .type "Exception", .type "BaseException", .type "object"]
/-  the class at C is an exception's under ValueError, with (or without) an own __init__ -/
def exB (K : PySem.W.Frag) (C : Addr) (ini : Option Value) : Bool := match K.lookup C with
  | some ⟨.type "type", _, .cls cd, sl⟩ => (match cd.mro, sl.toList with
    | .ref C' :: bm, [_, _, _, _, some (.builtin n), _] => C' == C && (n == "ValueError.__new__" && (PySem.W.tailIn K vbm bm && (!cd.hasDel && (PySem.W.nsOkIn K cd.ns && PySem.W.nsIn K cd.ns "__init__" == some ini))))
    | _, _ => false)
  | _ => false
section
variable {X : Cx} {e : Expr} {es : List Expr} {t : TA} {S : St → Prop} {E : XK}
/-  raise C(..), C without an __init__ of its own -/
def tRaise (S : St → Prop) (E : XK) (C : Addr) (t : TA) : TS := fun _ σ H => t σ H fun vs H1 => S σ ∧ vs.length ≤ sizeLine ∧ E (.ref C) none H1
end
end L2
set_option maxHeartbeats 1000000
namespace L2
open PySem PySem.Spec PyProof.Rows
section
variable {X : Cx} {pins : List (Addr × Obj)} {σ : St} {H : Hp} {s : Shared} {G : Heap}
end
end L2
set_option maxHeartbeats 1000000
namespace L2
open PySem PySem.Spec PyProof.Rows
/-! ### try -/
/-  a caught exception, tracked -/
def ExO (a : Addr) (C : Value) (ed : Option Addr) : HO := .ext fun h => ∃ oe vs, h.get? a = some oe ∧ oe.cls = C ∧ oe.dict = ed ∧ oe.data = .fields vs
section
variable {X : Cx} {pins : List (Addr × Obj)} {σ : St} {H : Hp} {s : Shared} {G : Heap} {W : Value → Shared → Prop}
end
/-  the class at C is the one at B, or stands under it -/
def subB (K : PySem.W.Frag) (C B : Addr) : Bool := match K.lookup C with
  | some ⟨_, _, .cls cd, _⟩ => cd.mro.contains (.ref B)
  | _ => false
end L2
set_option maxHeartbeats 1000000
namespace L2
open PySem PySem.Spec PyProof.Rows
/-  the ends behind a handler's suite: its name is unbound -/
def offE (i : Nat) (D : Ends) : Ends := { nx := fun σ H => D.nx (σ.set i none) H, rt := D.rt, bk := fun σ H => D.bk (σ.set i none) H, ct := fun σ H => D.ct (σ.set i none) H }
/-  except B as n: suite -/
def tAs (K : PySem.W.Frag) (B : Addr) (i : Nat) (ts : TS) (thr : Value → Option Addr → TS) : Value → Option Addr → TS := fun C ed D σ H => ∃ Cc ini b, C = .ref Cc ∧ exB K Cc ini = true ∧ subB K Cc B = b ∧
  if b = true then (∀ a, H a = none → ts (offE i D) (σ.set i (some (.ref a))) (upd H a (ExO a C ed))) else thr C ed D σ H
section
variable {X : Cx}
/-  try: body, handlers -/
def tTry (tb : St → XK → TS) (th : Value → Option Addr → TS) : TS := fun D σ H => tb σ (fun C ed H' => th C ed D σ H') D σ H
end
end L2
set_option maxHeartbeats 1000000
namespace L2
open PySem PySem.Spec PyProof.Rows
/-! ### what is asked of a caught exception -/
section
variable {prog : Program} {w : World} {A : Around} {E : Value → Shared → Prop} {s : Shared} {K : PySem.W.Frag} {a C : Addr} {ox : Obj} {od : Option Obj} {name : Str}
/-  the class of an exception, as it is asked by K -/
structure XCls (K : PySem.W.Frag) (C : Addr) : Prop where
  ga : PySem.W.findIn K (.ref C) "__getattribute__" = some (some (.builtin "BaseException.__getattribute__"))
  gh : PySem.W.findIn K (.ref C) "__getattr__" = some none
  base : PySem.W.mroIn K C (.type "BaseException") = some true
  obj : PySem.W.mroIn K C (.type "object") = some true
  hd : PySem.W.hasDictIn K C = true
  cl : PySem.W.findIn K (.ref C) "__class__" = some (some (.builtin "object.__class__"))
  cg : PySem.W.specialIn K (.builtin "object.__class__") "__get__" = some (some (.builtin "getset_descriptor.__get__"))
  ct : PySem.W.takesIn K (.builtin "object.__class__") = some true
end
end L2
set_option maxHeartbeats 1000000
namespace L2
open PySem PySem.Spec PyProof.Rows
section
variable {K : PySem.W.Frag} {a C : Addr}
end
/-  the dict of a tracked exception is known -/
def XdOk (H : Hp) (ed : Option Addr) : Prop := ed = none ∨ ∃ dx fs, ed = some dx ∧ H dx = some (.xd fs)
section
variable {P : Program} {w : World} {H : Hp} {h : Heap} {a C : Addr} {ed : Option Addr}
end
section
variable {X : Cx}
/-  isinstance(e, B) of a caught exception -/
def rIsX (K : PySem.W.Frag) : List V → Hp → VK → Prop := fun xs H Q => ∃ a C ed b, H a = some (ExO a (.ref C) ed) ∧ XdOk H ed ∧ XCls K C ∧ ((∃ B, xs = [.ref a, .ref B] ∧ PySem.W.kitOne K (.ref C) (.ref B) = some b) ∨ ∃ S, xs = [.ref a, .ty S] ∧ PySem.W.kitOne K (.ref C) (.type S) = some b) ∧ Q (.bl b) H
/-  e.f of a caught exception -/
def tXF (K : PySem.W.Frag) (te : TE) (f : Str) : TE := fun σ H Q => te σ H fun x H1 => ∃ a C dx fs v, x = .ref a ∧ H1 a = some (ExO a (.ref C) (some dx)) ∧ H1 dx = some (.xd fs) ∧ XCls K C ∧ NoAttr K C f ∧ fs.lookup f = some v ∧ Q v H1
end
end L2
set_option maxHeartbeats 1000000
namespace L2
open PySem PySem.Spec PyProof.Rows
/-! ### an exception's own __init__ -/
section
variable {prog : Program} {w : World} {A : Around} {E : Value → Shared → Prop} {h : Heap} {g : Array GenState} {d : Drawn} {t : Nat} {os : OsState} {K : PySem.W.Frag}
variable {nm q : Str} {C N a : Addr} {bs bm : List Value} {sn : List Str} {sub : List Value} {ab : Bool} {col : Option Bool} {dd : Option Addr} {k0 k1 k2 k3 k5 : Option Value} {newId : String} {name : Str} {v : Value} {o : Obj} {vs : Array Value}
end
end L2
set_option maxHeartbeats 1000000
namespace L2
open PySem PySem.Spec PyProof.Rows
/-  a new exception, tracked while its __init__ runs -/
def ExN (a : Addr) (C : Value) (ed : Option Addr) : HO := .ext fun h => ∃ oe vs, h.get? a = some oe ∧ oe.cls = C ∧ oe.dict = ed ∧ oe.data = .fields vs ∧ 1 < vs.size ∧ vs[1]? = some .none
/-  a thing is tracked no more -/
def dropH (H : Hp) (a : Addr) : Hp := fun b => if b = a then none else H b
section
variable {X : Cx} {pins : List (Addr × Obj)} {σ : St} {H : Hp} {s : Shared} {a : Addr}
/-  self.f = y in the __init__ of an exception -/
def sXset (K : PySem.W.Frag) (ta tv : TE) (f : Str) : TS := fun D σ H => tv σ H fun y H1 => ta σ H1 fun x H2 => ∃ a C ini, x = .ref a ∧ H2 a = some (ExN a (.ref C) none) ∧ exB K C ini = true ∧ PySem.W.hasDictIn K C = true ∧
  PySem.W.findIn K (.ref C) "__setattr__" = some (some (.builtin "object.__setattr__")) ∧ NoAttr K C f ∧ ∀ dx, H2 dx = none → dx ≠ a → D.nx σ (upd (upd H2 dx (.xd [(f, y)])) a (ExN a (.ref C) (some dx)))
end
end L2
set_option maxHeartbeats 1000000
namespace L2
open PySem PySem.Spec PyProof.Rows
section
variable {prog : Program} {w : World} {A : Around} {E : Value → Shared → Prop} {h : Heap} {g : Array GenState} {d : Drawn} {t : Nat} {os : OsState}
variable {nm qn : Str} {C N : Addr} {bs bm : List Value} {hd : Bool} {sn : List Str} {sub : List Value} {ab : Bool} {col : Option Bool} {dd : Option Addr} {k0 k1 k2 k3 k5 : Option Value}
end
section
variable {X : Cx} {e : Expr} {es : List Expr} {t : TA} {S : St → Prop} {E : XK} {k : Nat} {f C : Addr} {fd : FuncData} {ps : List Str} {sp : Sp}
/-  raise C(..), C with an __init__ of its own -/
def tRaiseI (S : St → Prop) (E : XK) (C : Addr) (sp : Sp) (t : TA) : TS := fun _ σ H => t σ H fun vs H1 => S σ ∧ vs.length ≤ sizeLine ∧ ∀ a, H1 a = none → sp (.ref a :: vs) (upd H1 a (ExN a (.ref C) none)) (fun v H2 => v = .non ∧ ∃ ed, H2 a = some (ExN a (.ref C) ed) ∧ E (.ref C) ed (dropH H2 a)) E0
end
end L2
set_option maxHeartbeats 1000000
namespace L2
open PySem PySem.Spec PyProof.Rows
section
variable {X : Cx} {k : Nat} {f C : Addr} {fd : FuncData} {ps : List Str} {sp : Sp} {x m : Str} {p pos apos : Pos} {e o : Expr} {es : List Expr} {ta : TE} {t : TA} {S : St → Prop} {E : XK}
/-  o.m(..), out of which exceptions may come -/
def tMethX (S : St → Prop) (C : Addr) (m : Str) (sp : Sp) (E : XK) (ta : TE) (t : TA) : TE := fun σ H Q => ta σ H fun x H1 => ∃ a dx fs, x = .ref a ∧ H1 a = some (.ins C dx fs) ∧ fs.lookup m = none ∧ t σ H1 fun vs H2 => S σ ∧ sp (x :: vs) H2 Q E
/-  C(..), out of whose __init__ exceptions may come -/
def tMakeX (S : St → Prop) (C : Addr) (sp : Sp) (E : XK) (t : TA) : TE := fun σ H Q => t σ H fun vs H1 => S σ ∧ ∀ x dx, H1 x = none → H1 dx = none → dx ≠ x → sp (.ref x :: vs) (upd (upd H1 dx (.own x)) x (.ins C dx [])) (fun v H2 => v = .non ∧ Q (.ref x) H2) E
end
end L2
set_option maxHeartbeats 1000000
namespace L2
open PySem PySem.Spec PyProof.Rows
/-! ### what a text's classes and methods are -/
structure MthOk (K : PySem.W.Frag) (x qual : Str) (st : Stmt) (ps : List Str) (f : Addr) (fd : FuncData) : Prop where
  F : Fun K x qual st f fd
  b : Binds K fd ps []
  fn : PySem.W.isFn K (.ref f) = true
/-  an exception's class -/
structure ExcOk (K : PySem.W.Frag) (mg : Str → Option Value) (x : Str) (c : Addr) (ini : Option Value) : Prop where
  m : mg x = some (.ref c)
  x : exB K c ini = true
  kp : PySem.W.keepIn K (.ref c) = true
  xc : XCls K c
  sa : PySem.W.findIn K (.ref c) "__setattr__" = some (some (.builtin "object.__setattr__"))
/-  a class of one's own -/
structure OwnOk (K : PySem.W.Frag) (mg : Str → Option Value) (x : Str) (c fi : Addr) : Prop where
  m : mg x = some (.ref c)
  cls : Cls K c
  mkr : Mk K c fi
section
variable {X : Cx}
end
end L2
set_option maxHeartbeats 1000000
namespace L2
open PySem PySem.Spec PyProof.Rows
/-! ### enumerate of a list -/
def Ite (K : PySem.W.Frag) (a : Addr) : It where
  go := fun i H => ∃ xs x, SqL K H a xs ∧ xs[i]? = some x
  yld := fun i H y H' => ∃ p x, H p = none ∧ y = .ref p ∧ (∀ ys, SqL K H a ys → ys[i]? = some x) ∧ H' = upd H p (.tup [.int i, x])
  stop := fun i H => ∃ xs, SqL K H a xs ∧ xs.length ≤ i
section
variable {X : Cx}
def iEnum (K : PySem.W.Frag) (ta : TA) : TI := fun σ H R => ta σ H fun vs H1 => ∃ a, vs = [.ref a] ∧ (∃ xs, SqL K H1 a xs) ∧ R (Ite K a) H1
end
end L2
set_option maxHeartbeats 4000000
namespace L2
open PySem PySem.Spec PyProof.Rows
/-! ### what a dict's keys are collected to -/
section
variable {prog : Program} {w : World} {A : Around} {E : Value → Shared → Prop} {s : Shared} {T : String} {r d : Addr} {n : Nat} {P : Nat → Value → Prop} {OK : Heap → Prop}
end
end L2
namespace L2
open PySem PySem.Spec PyProof.Rows
theorem ints_of_ix : ∀ {us : List Value} {ks : List Int}, us.length = ks.length → (∀ (i : Nat) v k, us[i]? = some v → ks[i]? = some k → ∃ t, v = Value.int k t) → IntsAre us ks
  | [], [], _, _ => .nil
  | [], _ :: _, h, _ => by cases h
  | _ :: _, [], h, _ => by cases h
  | u :: us, k :: ks, h, f => by
    obtain ⟨t, rfl⟩ := f 0 u k rfl rfl
    exact .cons k t (ints_of_ix (by simpa using h) fun i v k' a b => f (i + 1) v k' (by simpa using a) (by simpa using b))
theorem vals_of_ints : ∀ {us : List Value} {ks : List Int}, IntsAre us ks → Vals (ks.map V.int) us
  | _, _, .nil => .nil
  | _, _, .cons _ _ t => .cons ⟨_, rfl⟩ (vals_of_ints t)
section
variable {X : Cx}
def rSortD : List V → Hp → VK → Prop := fun xs H Q => ∃ d kvs, ∃ ks : List Int, xs = [.ref d] ∧ H d = some (.dK kvs) ∧ kvs.map (·.1) = ks.map Sum.inl ∧ kvs.length < 64 ∧
  ∀ p, ∀ ms : List Int, H p = none → ms.Perm ks → ms.Pairwise (· ≤ ·) → Q (.ref p) (upd H p (.lst (ms.map V.int)))
end
end L2
set_option maxHeartbeats 4000000
namespace L2
open PySem PySem.Spec PyProof.Rows
open AutoSeq1 (wpAny_loadPart')
/-! ### enumerate of a tuple -/
section
variable {prog : Program} {w : World} {A : Around} {E : Value → Shared → Prop} {s : Shared}
end
end L2
namespace L2
open PySem PySem.Spec PyProof.Rows
section
variable {X : Cx}
/-  d.pop(k), k there -/
def rDPop : V → List V → Hp → VK → Prop := fun x vs H Q => ∃ d kvs k v, x = .ref d ∧ vs = [kV k] ∧ H d = some (.dK kvs) ∧ valV kvs k = some v ∧ Q v (upd H d (.dK (dropK kvs k)))
end
end L2
set_option maxHeartbeats 4000000
namespace L2
open PySem PySem.Spec PyProof.Rows
section
variable {X : Cx}
/-  range(n) as an object -/
def rRng : List V → Hp → VK → Prop := fun xs H Q => ∃ n : Int, xs = [.int n] ∧ -(2 ^ 62) ≤ n ∧ n < 2 ^ 62 ∧ ∀ p, H p = none → Q (.ref p) (upd H p (.rng 0 n))
theorem call_rng : CallR X (.type "range") rRng := by
  intro pins s σ H xs us Q I r h
  obtain ⟨n, rfl, q1, q2, q⟩ := h
  obtain ⟨u, rfl, ru⟩ := vals1 r
  obtain ⟨t, rfl⟩ := ru
  refine call_range_1 ?_
  exact ⟨.ref s.heap.objs.size, upd H s.heap.objs.size (.rng 0 n), I.laid (fun b o e => Heap.get?_push_of_some _ e) (Nat.le_refl _) (show ObjOk X.prog X.w _ _ _ (.rng 0 n) from ⟨_, _, _, Heap.get?_push_size _ rfl⟩), rfl, q _ (I.hok.fresh (Nat.le_refl _))⟩
/-  list(r), r a range from 0 on -/
def rListRng : List V → Hp → VK → Prop := fun xs H Q => ∃ p, ∃ n : Nat, xs = [.ref p] ∧ H p = some (.rng 0 n) ∧ n ≤ 1000 ∧ ∀ l, H l = none → Q (.ref l) (upd H l (.lst ((List.range n).map fun (i : Nat) => V.int i)))
theorem call_listRng (hc : X.calm = true) : CallR X (.type "list") rListRng := by
  intro pins s σ H xs us Q I r h
  obtain ⟨p, n, rfl, hp, hn, q⟩ := h
  obtain ⟨u, rfl, ru⟩ := vals1 r
  cases ru
  obtain ⟨t, t', t'', e⟩ := I.hok p _ hp
  refine call_list_range (n := n) (I.ok.hd hc) e (small_one (by decide) (by decide) (by omega) (by omega)) (by rw [rangeSize_one]; split <;> omega) (by omega) fun h' tk acc c' hk hl hacc => ?_
  refine ⟨.ref s.heap.objs.size, upd H s.heap.objs.size (.lst ((List.range n).map fun (i : Nat) => V.int i)), I.laid (t' := tk) hk (Nat.le_refl _) (show ObjOk X.prog X.w _ h' _ (.lst _) from ⟨by rw [List.length_map, List.length_range, sizeLine_eq]; omega, acc.toList, c', ?_, by rw [Array.toArray_toList]; exact hl⟩), rfl, q _ (I.hok.fresh (Nat.le_refl _))⟩
  have e1 : (List.range n).map (fun (i : Nat) => V.int i) = ((List.range n).map fun (i : Nat) => (i : Int)).map V.int := by rw [List.map_map]; rfl
  rw [e1]
  refine vals_of_ints (ints_of_ix (by rw [Array.length_toList, hacc.1, List.length_map, List.length_range]) fun i v k hv hki => ?_)
  obtain ⟨tt, ev⟩ := hacc.2 i v (by rw [← Array.getElem?_toList]; exact hv)
  have hil := (List.getElem?_eq_some_iff.mp hki).1
  rw [List.length_map, List.length_range] at hil
  rw [List.getElem?_map, List.getElem?_range hil] at hki
  have : (i : Int) = k := by simpa using hki
  refine ⟨tt, ?_⟩
  rw [ev, ← this]
  simp
end
end L2
namespace L2
open PySem PySem.Spec PyProof.Rows
theorem bt_range : bootBuiltins "range" = some (.type "range") := by decide +kernel
section
variable {X : Cx} {k : Nat} {f C : Addr} {fd : FuncData} {ps : List Str} {sp : Sp} {x m : Str} {p pos apos : Pos} {e o : Expr} {es : List Expr} {ta : TE} {t : TA}
end
end L2
set_option maxHeartbeats 4000000
namespace L2
open PySem PySem.Spec PyProof.Rows
section
variable {X : Cx}
/-  xs.index(z), xs a list of texts -/
def rIndexS (K : PySem.W.Frag) : V → List V → Hp → VK → Prop := fun x vs H Q => ∃ l, ∃ ns : List Str, ∃ z, ∃ j : Nat, x = .ref l ∧ vs = [.str z] ∧ SqL K H l (ns.map V.str) ∧ ns[j]? = some z ∧ (∀ m, m < j → ns[m]? ≠ some z) ∧ Q (.int j) H
end
end L2
set_option maxHeartbeats 4000000
namespace L2
open PySem PySem.Spec PyProof.Rows
/-! ### a raise inside a comprehension: an exception that may bear any mark of flight -/
section
variable {M : Model} {A : Around} {E : Value → Shared → Prop} {s : Shared} {Q : Unit → Shared → Prop} {base : Heap} {env : Env} {outer : List Env} {L e : Addr} {C : Value} {ed : Option Addr} {G : Heap} {H : Hp}
end
/-  a def's body hands on exceptions of any mark -/
structure Leaves (X : Cx) (E : XK) : Prop where
  ex : X.ex = []
  stk : X.stack = X.env :: X.outer
  fr : X.env.frame = some X.env.locals
  on : ∀ pins σ H s a C ed fl, Inv X pins σ H s → Trc H s.heap X.s₀.heap a C ed fl → E C ed H → X.xe (.ref a) s
/-  a block that hands on what comes out of a call -/
structure ToldC (X : Cx) (E : XK) : Prop where
  on : ∀ pins σ H s e s', Inv X pins σ H s → CXE X.prog X.w X.stack H s E e s' → X.xe e s'
section
variable {X : Cx} {k : Nat} {f C : Addr} {fd : FuncData} {ps : List Str} {sp : Sp} {x m : Str} {p pos apos : Pos} {e o : Expr} {es : List Expr} {ta : TE} {t : TA} {E : XK}
end
section
variable {X : Cx} {pins : List (Addr × Obj)} {σ : St} {H : Hp} {s : Shared} {W : Value → Shared → Prop}
end
section
variable {X : Cx} {pins : List (Addr × Obj)} {σ : St} {H2 : Hp} {s2 : Shared} {scope : Scope} {own rest : List Str} {cl : List (Str × Addr)} {fp : List Addr} {E : Value → Shared → Prop}
end
section
variable {X : Cx} {pins : List (Addr × Obj)} {σ : St} {H2 : Hp} {s2 : Shared} {scope : Scope} {N' : List Str} {cl : List (Str × Addr)} {fp : List Addr} {C : Addr} {EX : XK} {use : Option (Value → Sem Unit)} {QQ : Value → Shared → Prop} {acc : Value}
end
section
variable {X : Cx} {elt tg iter : Expr} {ifs : List Expr} {scope : Scope} {pos : Pos} {wi : TI} {g : TG} {tt : TT} {te : TE} {EX : XK}
end
end L2
set_option maxHeartbeats 4000000
namespace L2
open PySem PySem.Spec PyProof.Rows
/-! ### set(list), set(tuple): of keys of one kind -/
section
variable {prog : Program} {w : World} {A : Around} {R : Result → Shared → Prop} {I : Addr} {fp wr : List Addr} {G : Array GenState → Array GenState → Prop} {n : Nat} {P : Nat → Value → Prop} {St : Nat → Shared → Prop}
variable {α : Type} [DecidableEq α] [BEq α] [LawfulBEq α] {knd : PySem.KeyKind prog w α}
end
section
variable {prog : Program} {w : World} {A : Around} {E : Value → Shared → Prop} {s : Shared}
set_option maxHeartbeats 3200000 in
variable {α : Type} [DecidableEq α] [BEq α] [LawfulBEq α] {knd : PySem.KeyKind prog w α}
end
end L2
set_option maxHeartbeats 4000000
namespace L2
open PySem PySem.Spec PyProof.Rows
section
variable {X : Cx}
end
end L2
set_option maxHeartbeats 4000000
namespace L2
open PySem PySem.Spec PyProof.Rows
section
variable {X : Cx}
end
end L2
set_option maxHeartbeats 4000000
namespace L2
open PySem PySem.Spec PyProof.Rows
/-! ### what is never reached; isinstance of an exception, by a tuple of classes -/
section
variable {X : Cx}
def tStop : TS := fun _ _ _ => False
end
end L2
set_option maxHeartbeats 4000000
namespace L2
open PySem PySem.Spec PyProof.Rows
/-! ### zip of two lists -/
def Itz (K : PySem.W.Frag) (a b : Addr) : It where
  go := fun i H => ∃ xs ys x y, SqL K H a xs ∧ SqL K H b ys ∧ xs[i]? = some x ∧ ys[i]? = some y
  yld := fun i H v H' => ∃ p x y, H p = none ∧ v = .ref p ∧ (∀ zs, SqL K H a zs → zs[i]? = some x) ∧ (∀ zs, SqL K H b zs → zs[i]? = some y) ∧ H' = upd H p (.tup [x, y])
  stop := fun i H => ∃ xs ys, SqL K H a xs ∧ SqL K H b ys ∧ (xs.length ≤ i ∨ ys.length ≤ i)
theorem turn_zip {P : Program} {w : World} {K : PySem.W.Frag} {elts : List Expr} {x1 : Nat} {tpos : Pos} (z TI TO i1 i2 a b : Addr) (D : ZipApart z TI TO i1 i2 a b) :
    Turn P w K (.Tuple elts x1 tpos) (Itz K a b) [z, TI, TO, i1, i2] z (fun i h => IsZip h z TI TO .none ∧ IsPair h TI (.ref i1) (.ref i2) ∧ (∃ x y, IsPair h TO x y) ∧ h.IsListIter i1 a i ∧ h.IsListIter i2 b i) where
  mem := by simp
  obj := fun i h st c hc => by
    obtain ⟨h1, h2, ⟨x, y, h3⟩, ⟨o4, e4, _, d4⟩, ⟨o5, e5, _, d5⟩⟩ := st
    simp only [List.mem_cons, List.not_mem_nil, or_false] at hc
    rcases hc with rfl | rfl | rfl | rfl | rfl
    · exact ⟨_, h1, fun v z => nomatch z⟩
    · exact ⟨_, h2, fun v z => nomatch z⟩
    · exact ⟨_, h3, fun v z => nomatch z⟩
    · exact ⟨_, e4, fun v z => by rw [d4] at z; cases z⟩
    · exact ⟨_, e5, fun v z => by rw [d5] at z; cases z⟩
  keep := fun i h h' st k => by
    obtain ⟨h1, h2, ⟨x, y, h3⟩, h4, h5⟩ := st
    exact ⟨k z (by simp) _ h1, k TI (by simp) _ h2, ⟨x, y, k TO (by simp) _ h3⟩, h4.at fun o e => k i1 (by simp) o e, h5.at fun o e => k i2 (by simp) o e⟩
  item := by
    intro X hP hw hK hc i pins s σ H E I hf st hg
    subst hP hw hK
    obtain ⟨xs, ys, x, y, hqa, hqb, hx, hy⟩ := hg
    obtain ⟨ia, ra, pa, _⟩ := I.list hqa
    obtain ⟨ib, rb, pb, _⟩ := I.list hqb
    obtain ⟨u, hu, ru⟩ := ra.get hx
    obtain ⟨v, hv, rv⟩ := rb.get hy
    obtain ⟨h1, h2, ⟨ox, oy, h3⟩, h4, h5⟩ := st
    have fr : H s.heap.objs.size = none := I.hok.fresh (Nat.le_refl _)
    have pz : s.heap.objs.size ≠ z := Nat.ne_of_gt (Heap.lt_size h1)
    refine wpAny_pyNext_zip_item D h1 h2 h3 h4 h5 pa.isList pb.isList (x := u) (y := v) (by simpa using hu) (by simpa using hv) fun h' out to' st1 st2 tup sz k => ⟨.ref s.heap.objs.size, rfl, ?_⟩
    refine wpAny_letOwnedTupleGo_zip (s := { s with heap := h' }) out fun h'' hz' sb => ?_
    have kk : ∀ c o, c ∉ [z, TI, TO, i1, i2] → s.heap.get? c = some o → h''.get? c = some o := fun c o hb e =>
      (sb.2 c (fun q => hb (by simp [q]))).trans (k c o (fun q => hb (by simp [q])) (fun q => hb (by simp [q])) (fun q => hb (by simp [q])) (fun q => hb (by simp [q])) e)
    have kt : h''.get? s.heap.objs.size = some { cls := .type "tuple", data := .seq #[u, v] } := (sb.2 _ pz).trans tup
    have nt : ∀ c w', H c = some w' → c ∉ [z, TI, TO, i1, i2] := fun c w' e hb => by
      rw [(hf c hb).1] at e; cases e
    have np : ∀ c w', H c = some w' → c ≠ s.heap.objs.size := fun c w' e q => by subst q; rw [fr] at e; cases e
    have up : ∀ c w', H c = some w' → upd H s.heap.objs.size (.tup [x, y]) c = some w' := fun c w' e => by rw [upd_ne (np c w' e)]; exact e
    have lts : ∀ c ∈ [z, TI, TO, i1, i2], c < s.heap.objs.size := fun c hc => by
      obtain ⟨o4, e4, _, _⟩ := h4
      obtain ⟨o5, e5, _, _⟩ := h5
      simp only [List.mem_cons, List.not_mem_nil, or_false] at hc
      rcases hc with rfl | rfl | rfl | rfl | rfl
      · exact Heap.lt_size h1
      · exact Heap.lt_size h2
      · exact Heap.lt_size h3
      · exact Heap.lt_size e4
      · exact Heap.lt_size e5
    refine ⟨.ref s.heap.objs.size, upd H s.heap.objs.size (.tup [x, y]), ?_, rfl, ⟨_, x, y, fr, rfl, fun zs hz => by rw [I.list_inj hz hqa]; exact hx, fun zs hz => by rw [I.list_inj hz hqb]; exact hy, rfl⟩, ⟨hz', (sb.2 TI D.TIz).trans (k TI _ D.TIz D.TITO D.TIi1 D.TIi2 h2), ⟨u, v, (sb.2 TO D.TOz).trans to'⟩, st1.at fun o e => (sb.2 i1 D.i1z).trans e, st2.at fun o e => (sb.2 i2 D.i2z).trans e⟩, fun c hc => ?_⟩
    · show Inv X pins σ _ { s with heap := h'', gens := s.gens, drawn := s.drawn, toks := s.toks }
      refine Inv.step (s := s) (h' := h'') (t' := s.toks) (g' := s.gens) (d' := s.drawn) (ch := [z, TI, TO, i1, i2]) I (fun c hc => ?_) (fun c o _ _ hb e _ => kk c o hb e) (fun c o _ _ hb e _ => ⟨o.slots, kk c o hb e⟩) (fun c o _ e n => by rw [upd_ne (Nat.ne_of_lt (Heap.lt_size e))]; exact n) (fun c o hb e => ⟨o, kk c o hb e⟩)
        (fun c zs e => up c _ e) (fun c o w' e => up c _ e) (fun c ps e => ⟨#[], by rw [Array.append_empty]; exact up c _ e⟩) (fun m hm => ?_) (fun c w' e => ?_) I.bare
      · obtain ⟨f0, f1, f2, f3, f4, f5⟩ := hf c hc
        exact ⟨f3, f1, f4, f5⟩
      · obtain ⟨o, es, ep, ho, r⟩ := hm
        exact ⟨o, es, ep, kk _ o (fun hb => (hf _ hb).2.1 rfl) ho, r⟩
      · by_cases q : c = s.heap.objs.size
        · subst q
          rw [upd_same] at e
          cases e
          exact ⟨small_line (Nat.le_of_ble_eq_true rfl), [u, v], .cons ru (.cons rv .nil), _, kt, rfl, _, rfl⟩
        · rw [upd_ne q] at e
          refine (I.hok c w' e).stay (fun d o hd y => kk d o ?_ y) (fun d y => up d _ y) fun d zs y => up d _ y
          rcases hd with rfl | hd
          · exact nt _ _ e
          · exact nt _ _ hd
    · rw [upd_ne (Nat.ne_of_lt (lts c hc))]
      exact (hf c hc).1
  done := by
    intro X hP hw hK hc i pins s σ H E I hf st hg
    subst hP hw hK
    obtain ⟨xs, ys, hqa, hqb, hx⟩ := hg
    obtain ⟨ia, ra, pa, _⟩ := I.list hqa
    obtain ⟨ib, rb, pb, _⟩ := I.list hqb
    obtain ⟨h1, h2, ⟨ox, oy, h3⟩, h4, h5⟩ := st
    have la := ra.length
    have lb := rb.length
    refine wpAny_pyNext_zip_end (I.ok.hd hc) D h1 h2 h3 h4 h5 pa.isList pb.isList (by
      rcases hx with hx | hx
      · left; simp; omega
      · right; simp; omega) fun h' k => ⟨rfl, ?_⟩
    have kk : ∀ c o, c ∉ [z, TI, TO, i1, i2] → s.heap.get? c = some o → h'.get? c = some o := fun c o hb e =>
      k c o (fun q => hb (by simp [q])) (fun q => hb (by simp [q])) (fun q => hb (by simp [q])) (fun q => hb (by simp [q])) e
    have nt : ∀ c w', H c = some w' → c ∉ [z, TI, TO, i1, i2] := fun c w' e hb => by
      rw [(hf c hb).1] at e; cases e
    show Inv X pins σ _ { s with heap := h', gens := s.gens, drawn := s.drawn, toks := s.toks }
    refine Inv.step (s := s) (h' := h') (t' := s.toks) (g' := s.gens) (d' := s.drawn) (ch := [z, TI, TO, i1, i2]) I (fun c hc => ?_) (fun c o _ _ hb e _ => kk c o hb e) (fun c o _ _ hb e _ => ⟨o.slots, kk c o hb e⟩) (fun _ _ _ _ n => n) (fun c o hb e => ⟨o, kk c o hb e⟩)
      (fun _ _ e => e) (fun _ _ _ e => e) (fun c ps e => ⟨#[], by rw [Array.append_empty]; exact e⟩) (fun m hm => ?_) (fun c w' e => ?_) I.bare
    · obtain ⟨f0, f1, f2, f3, f4, f5⟩ := hf c hc
      exact ⟨f3, f1, f4, f5⟩
    · obtain ⟨o, es, ep, ho, r⟩ := hm
      exact ⟨o, es, ep, kk _ o (fun hb => (hf _ hb).2.1 rfl) ho, r⟩
    · refine (I.hok c w' e).stay (fun d o hd y => kk d o ?_ y) (fun d y => y) fun d zs y => y
      rcases hd with rfl | hd
      · exact nt _ _ e
      · exact nt _ _ hd
  self := fun _ _ _ _ _ st h => wpAny_pyIter_zip st.1 h
theorem boot_zip : bootBuiltins "zip" = some (.type "zip") := by decide +kernel
section
variable {X : Cx}
def iZip (K : PySem.W.Frag) (ta : TA) : TI := fun σ H R => ta σ H fun vs H1 => ∃ a b, vs = [.ref a, .ref b] ∧ (∃ xs, SqL K H1 a xs) ∧ (∃ ys, SqL K H1 b ys) ∧ R (Itz K a b) H1
theorem pi_zip {a b : Expr} {ta : TA} {p pos tpos : Pos} {elts : List Expr} {x1 : Nat} (hg : Gl X "zip") (hm : X.mg "zip" = none) (ha : PA X [a, b] ta) (hn : notStar a = true) (hn2 : notStar b = true) : PI X (.Tuple elts x1 tpos) (.Call (.Name "zip" p) [a, b] [] pos) (iZip X.K ta) := by
  intro pins s σ H R I h
  refine Call_ (ld_blt I hg hm boot_zip (PyProof.Rows.callWith_type1 (thn (ha pos pins s σ H _ I h) fun us s1 ⟨vs, H1, I1, r1, q1⟩ => ?_) (star_cons hn) (by rw [star_cons hn2]; rfl)))
  obtain ⟨l, m, e, ⟨xs, hq⟩, ⟨ys, hq2⟩, q⟩ := q1
  subst e
  obtain ⟨u, v, rfl, ru, rv⟩ := vals2 r1
  cases (show u = Value.ref l from ru)
  cases (show v = Value.ref m from rv)
  obtain ⟨ia, ra, pa, _⟩ := I1.list hq
  obtain ⟨ib, rb, pb, _⟩ := I1.list hq2
  have la : l < s1.heap.objs.size := by obtain ⟨o, e, _⟩ := pa.isList; exact Heap.lt_size e
  have lb : m < s1.heap.objs.size := by obtain ⟨o, e, _⟩ := pb.isList; exact Heap.lt_size e
  refine call_zip_2 pa.isList pb.isList fun h' hz hTI hTO st1 st2 sz k => ?_
  refine wpAny_pyIter_zip (s := { s1 with heap := h' }) hz ?_
  refine ⟨s1.heap.objs.size + 4, [s1.heap.objs.size + 4, s1.heap.objs.size + 2, s1.heap.objs.size + 3, s1.heap.objs.size, s1.heap.objs.size + 1], _, _, H1, rfl, I1.kept (t' := s1.toks) k, turn_zip _ _ _ _ _ l m ?_, ⟨hz, hTI, ⟨_, _, hTO⟩, st1, st2⟩, fun c hc => ?_, q⟩
  · have la' : Nat.lt l s1.heap.objs.size := la
    have lb' : Nat.lt m s1.heap.objs.size := lb
    generalize s1.heap.objs.size = N at *
    constructor <;> first | exact Nat.ne_of_lt (by simp only [Nat.lt_eq] at *; omega) | exact Nat.ne_of_gt (by simp only [Nat.lt_eq] at *; omega)
  · have hle : s1.heap.objs.size ≤ c := by
      simp only [List.mem_cons, List.not_mem_nil, or_false] at hc
      rcases hc with rfl | rfl | rfl | rfl | rfl
      · exact Nat.le_add_right _ _
      · exact Nat.le_add_right _ _
      · exact Nat.le_add_right _ _
      · exact Nat.le_refl _
      · exact Nat.le_add_right _ _
    exact I1.fpOk hle (I1.hok.fresh hle)
theorem k_zip {K : PySem.W.Frag} {a b : Expr} {ta : TA} {p pos tpos : Pos} {elts : List Expr} {x1 : Nat} (e : X.K = K) (hg : Gl X "zip") (hm : X.mg "zip" = none) (ha : PA X [a, b] ta) (hn : notStar a = true) (hn2 : notStar b = true) : PI X (.Tuple elts x1 tpos) (.Call (.Name "zip" p) [a, b] [] pos) (iZip K ta) := by subst e; exact pi_zip hg hm ha hn hn2
end
/-  a comprehension over zip, its target what it may be -/
theorem comp_zip {K : PySem.W.Frag} {a b : Addr} {xs ys : List V} {g : TG} {tt : TT} {te : TE} {fin : List V → Hp → Prop} {σ : St} {H : Hp} (hz : xs.length ≤ sizeLine) (Pv : Nat → List V → St → Hp → Prop) (h0 : Pv 0 [] σ H) (hl : ∀ i zs σ H, Pv i zs σ H → (SqL K H a xs ∧ SqL K H b ys) ∧ zs.length ≤ i)
    (hs : ∀ (i : Nat) x y zs σ H p, xs[i]? = some x → ys[i]? = some y → Pv i zs σ H → H p = none → g (.ref p) σ (upd H p (.tup [x, y])) fun σ2 H2 => tt σ2 H2 fun b H3 => if b = true then te σ2 H3 fun y H4 => Pv (i + 1) (zs ++ [y]) σ2 H4 else Pv (i + 1) zs σ2 H3)
    (hd : ∀ zs σ H, Pv (min xs.length ys.length) zs σ H → fin zs H) : CompW (Itz K a b) g tt te fin σ H := by
  refine ⟨fun i m zs σ H => m = min xs.length ys.length - i ∧ i ≤ min xs.length ys.length ∧ Pv i zs σ H, ⟨_, rfl, Nat.zero_le _, h0⟩, ?_⟩
  rintro i m zs σ H ⟨rfl, hi, p⟩
  obtain ⟨⟨sa, sb⟩, hy⟩ := hl i zs σ H p
  by_cases e : i = min xs.length ys.length
  · subst e
    exact .inl ⟨⟨xs, ys, sa, sb, by omega⟩, hd zs σ H p⟩
  · have lt : i < min xs.length ys.length := Nat.lt_of_le_of_ne hi e
    have lx : i < xs.length := by omega
    have ly : i < ys.length := by omega
    refine .inr ⟨⟨xs, ys, xs[i], ys[i], sa, sb, List.getElem?_eq_getElem lx, List.getElem?_eq_getElem ly⟩, by omega, Pv (i + 1), fun zs' σ' H' z => ⟨min xs.length ys.length - (i + 1), by omega, rfl, lt, z⟩, fun v H' hv => ?_⟩
    obtain ⟨q, x', y', hq, rfl, hx, hy, rfl⟩ := hv
    exact hs i x' y' zs σ H q (hx xs sa) (hy ys sb) p hq
section
variable {X : Cx}
/-  two names, as a comprehension's target -/
theorem pgl2 (K : PySem.W.Frag) (i j : Nat) {x y : Str} {p1 p2 pos : Pos} {k : Nat} (hN : X.N.Nodup) (e : X.K = K := by rfl) (hc : X.calm = true := by rfl) (hi : X.N[i]? = some x := by rfl) (hj : X.N[j]? = some y := by rfl) (hv : X.env.scope.names.lookup x = some .local := by rfl) (hw : X.env.scope.names.lookup y = some .local := by rfl)
    (h1 : (assignEach [.Name x p1, .Name y p2] X.env).map (·.2) = assign (.Name x p1) X.env :: (assignEach [.Name y p2] X.env).map (·.2) := by rfl) (h2 : (assignEach [.Name y p2] X.env).map (·.2) = assign (.Name y p2) X.env :: (assignEach [] X.env).map (·.2) := by rfl)
    (hn : (assignEach [.Name x p1, .Name y p2] X.env).length = 2 := by rfl) (hst : (assignEach [.Name x p1, .Name y p2] X.env).findIdx? (·.1) = none := by rfl) : PG X (.Tuple [.Name x p1, .Name y p2] k pos) (gTup K 2 (gCons (gName i) (gCons (gName j) gNil))) :=
  k_pgT e hc (pgs_cons (pgl i hN hi hv) (pgs_cons (pgl j hN hj hw) pgs_nil h2) h1) hn hst
end
end L2
set_option maxHeartbeats 4000000
namespace L2
open PySem PySem.Spec PyProof.Rows
/-! ### dict(list of pairs) -/
section
variable {prog : Program} {w : World} {A : Around} {E : Value → Shared → Prop} {s : Shared}
end
section
variable {prog : Program} {w : World} {A : Around} {R : Result → Shared → Prop} {I : Addr} {fp wr : List Addr} {G : Array GenState → Array GenState → Prop} {n : Nat} {P : Nat → Value → Prop} {St : Nat → Shared → Prop}
variable {α : Type} [DecidableEq α] {knd : PySem.KeyKind prog w α}
end
section
variable {prog : Program} {w : World} {A : Around} {E : Value → Shared → Prop} {s : Shared} {α : Type} [DecidableEq α] {knd : PySem.KeyKind prog w α}
end
section
variable {X : Cx}
end
end L2
set_option maxHeartbeats 4000000
namespace HT
open PySem PySem.Spec PyProof.Rows L2
end HT
namespace L2
open PySem PySem.Spec PyProof.Rows HT
/-! ### t[lo:hi] of a tuple, the whole of it as well -/
section
variable {prog : Program} {w : World} {A : Around} {E : Value → Shared → Prop} {s : Shared}
end
section
variable {X : Cx}
end
end L2
set_option maxHeartbeats 4000000
namespace L2
open PySem PySem.Spec PyProof.Rows
/-! ### max(list, default=d), min(list, default=d) -/
section
variable {prog : Program} {w : World} {A : Around} {R : Result → Shared → Prop} {I : Addr} {fp wr : List Addr} {n : Nat} {P : Nat → Value → Prop} {St : Nat → Heap → Prop}
end
section
variable {prog : Program} {w : World} {A : Around} {E : Value → Shared → Prop} {s : Shared}
end
section
variable {prog : Program} {w : World} {A : Around} {R : Result → Shared → Prop} {I : Addr} {fp wr : List Addr} {n : Nat} {P : Nat → Value → Prop} {St : Nat → Heap → Prop}
end
section
variable {prog : Program} {w : World} {A : Around} {E : Value → Shared → Prop} {s : Shared}
end
end L2
set_option maxHeartbeats 4000000
namespace L2
open PySem PySem.Spec PyProof.Rows
section
variable {X : Cx}
theorem int_val {zs : List Int} {its : List Value} {i : Nat} {v : Value} (r : Vals (zs.map V.int) its) (hv : its.toArray[i]? = some v) : i < zs.length ∧ ∃ t, v = .int (zs.getD i 0) t := by
  have hv' : its[i]? = some v := by simpa using hv
  have hm : i < zs.length := by
    have := r.length
    rw [List.length_map] at this
    rw [this]
    exact (List.getElem?_eq_some_iff.mp hv').1
  obtain ⟨u, hu, t, e⟩ := r.get (i := i) (x := V.int zs[i]) (by rw [List.getElem?_map, List.getElem?_eq_getElem hm]; rfl)
  rw [hv'] at hu
  cases hu
  exact ⟨hm, t, by rw [List.getD_eq_getElem?_getD, List.getElem?_eq_getElem hm]; exact e⟩
theorem getD_at {α : Type} {l : List α} {i : Nat} {x d : α} (h : l[i]? = some x) : l.getD i d = x := by rw [List.getD_eq_getElem?_getD, h]; rfl
end
end L2
set_option maxHeartbeats 4000000
namespace L2
open PySem PySem.Spec PyProof.Rows
section
variable {X : Cx}
/-  sum(x), x a list of numbers -/
def rSumI (K : PySem.W.Frag) : List V → Hp → VK → Prop := fun xs H Q => ∃ l, ∃ zs : List Int, xs = [.ref l] ∧ SqL K H l (zs.map V.int) ∧ Q (.int (zs.foldl (· + ·) 0)) H
theorem preSum_fold (zs : List Int) : ∀ k, k ≤ zs.length → preSum (fun i => zs.getD i 0) k = (zs.take k).foldl (· + ·) 0
  | 0, _ => rfl
  | k + 1, h => by
    have hk : k < zs.length := h
    show preSum (fun i => zs.getD i 0) k + zs.getD k 0 = _
    rw [preSum_fold zs k (by omega), List.take_add_one, List.getElem?_eq_getElem hk, List.foldl_append, getD_at (List.getElem?_eq_getElem hk)]
    rfl
theorem call_sum (hc : X.calm = true) : CallR X (.builtin "sum") (rSumI X.K) := by
  intro pins s σ H xs us Q I r h
  obtain ⟨l, zs, rfl, hq, q⟩ := h
  obtain ⟨lv, rfl, rl⟩ := vals1 r
  cases (show lv = Value.ref l from rl)
  obtain ⟨its, r', pl, hz⟩ := I.list hq
  have hl := r'.length
  rw [List.length_map] at hl
  obtain ⟨ol, hol, hcl⟩ := id pl.isList
  have ll : l < s.heap.objs.size := Heap.lt_size hol
  refine call_sum_walkAnyS (wpAny_pyIter_list pl.isList ⟨s.heap.objs.size, _, _, _, _, _, _, fun i => zs.getD i 0, rfl, (Walks.list (by simp [I.ok.hd hc]) s.heap.objs.size l (Nat.ne_of_lt ll) its.toArray).toS, ⟨⟨_, Heap.get?_push_size _ rfl, rfl, rfl⟩, pl.isList.push _⟩, ?_, fun i v hv => (int_val r' hv).2, fun s' t' mv => ?_⟩)
  · intro b hb
    rw [Heap.size_push]
    simp only [List.mem_cons, List.not_mem_nil, or_false] at hb
    rcases hb with rfl | rfl
    · exact Nat.lt_succ_self _
    · exact Nat.lt_succ_of_lt ll
  · obtain ⟨h', g', d', tk', os'⟩ := s'
    obtain rfl : g' = s.gens := mv.gens
    obtain rfl : d' = s.drawn := mv.drawn
    obtain rfl : os' = s.os := mv.os
    have e : preSum (fun i => zs.getD i 0) its.toArray.size = zs.foldl (· + ·) 0 := by
      rw [List.size_toArray, ← hl, preSum_fold zs zs.length (Nat.le_refl _), List.take_length]
    rw [e]
    refine ⟨.int _, H, I.kept (t' := tk') fun b o hb => ?_, ⟨_, rfl⟩, q⟩
    refine mv.heap b o ?_ (Heap.get?_push_of_some _ hb)
    simp only [List.mem_cons, List.not_mem_nil, or_false]
    exact Nat.ne_of_lt (Heap.lt_size hb)
theorem k_sumI {K : PySem.W.Frag} (e : X.K = K) (hc : X.calm = true) : CallR X (.builtin "sum") (rSumI K) := by subst e; exact call_sum hc
end
end L2
set_option maxHeartbeats 4000000
namespace L2
open PySem PySem.Spec PyProof.Rows
section
variable {X : Cx}

end
end L2
set_option maxHeartbeats 4000000
namespace L2
open PySem PySem.Spec PyProof.Rows
section
/-  two lists, held to one another item by item -/
def All2 {α β : Type} (R : α → β → Prop) (xs : List α) (ys : List β) : Prop := xs.length = ys.length ∧ ∀ (i : Nat) x y, xs[i]? = some x → ys[i]? = some y → R x y
variable {α β : Type} {R S : α → β → Prop} {xs : List α} {ys : List β}
theorem All2.nil : All2 R [] [] := ⟨rfl, fun i x y h => by simp at h⟩
theorem All2.mono (h : All2 R xs ys) (f : ∀ x y, R x y → S x y) : All2 S xs ys := ⟨h.1, fun i x y a b => f x y (h.2 i x y a b)⟩
theorem All2.at {i : Nat} {x : α} (h : All2 R xs ys) (hx : xs[i]? = some x) : ∃ y, ys[i]? = some y ∧ R x y := by
  have hi : i < ys.length := by rw [← h.1]; exact (List.getElem?_eq_some_iff.mp hx).1
  exact ⟨_, List.getElem?_eq_getElem hi, h.2 i x _ hx (List.getElem?_eq_getElem hi)⟩
theorem All2.at' {i : Nat} {y : β} (h : All2 R xs ys) (hy : ys[i]? = some y) : ∃ x, xs[i]? = some x ∧ R x y := by
  have hi : i < xs.length := by rw [h.1]; exact (List.getElem?_eq_some_iff.mp hy).1
  exact ⟨_, List.getElem?_eq_getElem hi, h.2 i _ y (List.getElem?_eq_getElem hi) hy⟩
theorem All2.meml {x : α} (h : All2 R xs ys) (hx : x ∈ xs) : ∃ y ∈ ys, R x y := by
  obtain ⟨i, hi⟩ := List.mem_iff_getElem?.mp hx
  obtain ⟨y, hy, r⟩ := h.at hi
  exact ⟨y, List.mem_of_getElem? hy, r⟩
theorem All2.append {xs' : List α} {ys' : List β} (h : All2 R xs ys) (h' : All2 R xs' ys') : All2 R (xs ++ xs') (ys ++ ys') := by
  refine ⟨by simp [h.1, h'.1], fun i x y a b => ?_⟩
  by_cases c : i < xs.length
  · rw [List.getElem?_append_left c] at a
    rw [List.getElem?_append_left (by rw [← h.1]; exact c)] at b
    exact h.2 i x y a b
  · rw [List.getElem?_append_right (by omega)] at a
    rw [List.getElem?_append_right (by rw [← h.1]; omega), ← h.1] at b
    exact h'.2 _ x y a b
theorem All2.one {x : α} {y : β} (h : R x y) : All2 R [x] [y] := ⟨rfl, fun i a b ha hb => by
  cases i with
  | zero => simp at ha hb; subst ha hb; exact h
  | succ i => simp at ha⟩
theorem All2.snoc {x : α} {y : β} (h : All2 R xs ys) (r : R x y) : All2 R (xs ++ [x]) (ys ++ [y]) := h.append (.one r)
theorem All2.cons {x : α} {y : β} (r : R x y) (h : All2 R xs ys) : All2 R (x :: xs) (y :: ys) := (All2.one r).append h
theorem All2.tail {x : α} {y : β} (h : All2 R (x :: xs) (y :: ys)) : R x y ∧ All2 R xs ys :=
  ⟨h.2 0 x y rfl rfl, by simpa using h.1, fun i a b ha hb => h.2 (i + 1) a b (by simpa using ha) (by simpa using hb)⟩
end
abbrev Box := Nat × Nat
def gAt (g : List (List Int)) (b : Box) : Int := (g.getD b.1 []).getD b.2 0
def RowAt (H : Hp) (x : V) (r : List Int) : Prop := ∃ p, x = .ref p ∧ H p = some (.lst (r.map V.int))
def GridV (H : Hp) (xs : List V) (g : List (List Int)) : Prop := All2 (RowAt H) xs g
theorem RowAt.mono {H H' : Hp} {x : V} {r : List Int} (s : Same H H') (h : RowAt H x r) : RowAt H' x r := by
  obtain ⟨p, e, g⟩ := h; exact ⟨p, e, s _ _ g⟩
theorem GridV.mono {H H' : Hp} {xs : List V} {g : List (List Int)} (s : Same H H') (h : GridV H xs g) : GridV H' xs g := All2.mono h fun _ _ => RowAt.mono s
/-  a grid of R rows and C columns, nothing below nought -/
structure GOk (g : List (List Int)) (R C : Nat) : Prop where
  rows : g.length = R
  cols : ∀ r ∈ g, r.length = C
  pos : ∀ r ∈ g, ∀ x ∈ r, 0 ≤ x
def InG (R C : Nat) (b : Box) : Prop := b.1 < R ∧ b.2 < C
theorem GOk.at {g : List (List Int)} {R C : Nat} (h : GOk g R C) {b : Box} (i : InG R C b) : ∃ r, g[b.1]? = some r ∧ r[b.2]? = some (gAt g b) ∧ 0 ≤ gAt g b ∧ r ∈ g := by
  have h1 : b.1 < g.length := by rw [h.rows]; exact i.1
  have e1 := List.getElem?_eq_getElem h1
  have m1 : g[b.1] ∈ g := List.getElem_mem h1
  have h2 : b.2 < g[b.1].length := by rw [h.cols _ m1]; exact i.2
  have e2 := List.getElem?_eq_getElem h2
  have e : gAt g b = g[b.1][b.2] := by
    unfold gAt
    rw [show g.getD b.1 [] = g[b.1] by rw [List.getD_eq_getElem?_getD, e1]; rfl, List.getD_eq_getElem?_getD, e2]; rfl
  exact ⟨_, e1, by rw [e]; exact e2, by rw [e]; exact h.pos _ m1 _ (List.getElem_mem h2), m1⟩
end L2
set_option maxHeartbeats 4000000
namespace L2
open PySem PySem.Spec PyProof.Rows

/-! ### comprehensions that have cells of their own (a comprehension within reads their names) -/
theorem cells_split : ∀ (names : List (Str × NameKind)) (h : Heap) (acc : List (Str × Addr)) (x : Str) (c : Addr), (cellsFrom h.objs.size names acc).lookup x = some c →
    (h.objs.size ≤ c ∧ (x, NameKind.cell) ∈ names ∧ (pushCells h names).IsCell c none) ∨ acc.lookup x = some c
  | [], _, _, _, _, e => .inr e
  | (y, k) :: r, h, acc, x, c, e => by
    unfold cellsFrom at e
    unfold pushCells
    cases hk : k == NameKind.cell with
    | false =>
      rw [hk, if_neg Bool.false_ne_true] at e
      rw [if_neg Bool.false_ne_true]
      rcases cells_split r h acc x c e with ⟨a, b, d⟩ | q
      · exact .inl ⟨a, List.mem_cons_of_mem _ b, d⟩
      · exact .inr q
    | true =>
      have ek : k = NameKind.cell := by simpa using hk
      subst ek
      rw [hk, if_pos rfl] at e
      rw [if_pos rfl]
      have e2 : (cellsFrom (h.push { cls := .type "cell", data := .cell none }).objs.size r ((y, h.objs.size) :: acc)).lookup x = some c := by rw [Heap.size_push]; exact e
      rcases cells_split r _ _ x c e2 with ⟨a, b, d⟩ | q
      · rw [Heap.size_push] at a
        exact .inl ⟨by omega, List.mem_cons_of_mem _ b, d⟩
      · by_cases hx : x = y
        · subst hx
          rw [List.lookup_cons, beq_self_eq_true] at q
          cases q
          exact .inl ⟨Nat.le_refl _, List.mem_cons_self, ⟨_, pushCells_keeps _ _ _ _ (Heap.get?_push_size _ rfl), rfl⟩⟩
        · rw [List.lookup_cons, beq_eq_false_iff_ne.mpr hx] at q
          exact .inr q
theorem cells_old {x : Str} : ∀ (names : List (Str × NameKind)) (n : Nat) (acc : List (Str × Addr)), (x, NameKind.cell) ∉ names → (cellsFrom n names acc).lookup x = acc.lookup x
  | [], _, _, _ => rfl
  | (y, k) :: r, n, acc, h => by
    unfold cellsFrom
    have hr : (x, NameKind.cell) ∉ r := fun z => h (List.mem_cons_of_mem _ z)
    cases hk : k == NameKind.cell with
    | false => rw [if_neg Bool.false_ne_true]; exact cells_old r n acc hr
    | true =>
      have ek : k = NameKind.cell := by simpa using hk
      subst ek
      rw [if_pos rfl, cells_old r _ _ hr, List.lookup_cons, beq_eq_false_iff_ne.mpr (fun e : x = y => h (by rw [e]; exact List.mem_cons_self))]
theorem cells_lo {x : Str} {lo c : Nat} : ∀ (names : List (Str × NameKind)) (n : Nat) (acc : List (Str × Addr)), lo ≤ n → ((x, NameKind.cell) ∈ names ∨ ∀ d, acc.lookup x = some d → lo ≤ d) → (cellsFrom n names acc).lookup x = some c → lo ≤ c
  | [], _, _, _, h, e => h.elim (fun z => nomatch z) fun z => z _ e
  | (y, k) :: r, n, acc, hn, h, e => by
    unfold cellsFrom at e
    cases hk : k == NameKind.cell with
    | false =>
      rw [hk, if_neg Bool.false_ne_true] at e
      refine cells_lo r n acc hn (h.imp (fun z => ?_) id) e
      rcases List.mem_cons.mp z with q | q
      · cases q; simp at hk
      · exact q
    | true =>
      rw [hk, if_pos rfl] at e
      refine cells_lo r (n + 1) _ (by omega) ?_ e
      by_cases hx : x = y
      · subst hx
        exact .inr fun d q => by rw [List.lookup_cons, beq_self_eq_true] at q; cases q; exact hn
      · refine h.imp (fun z => ?_) fun z d q => z d (by rw [List.lookup_cons, beq_eq_false_iff_ne.mpr hx] at q; exact q)
        rcases List.mem_cons.mp z with q | q
        · cases q; exact absurd rfl hx
        · exact q
theorem cells_inj {x y : Str} {c : Nat} : ∀ (names : List (Str × NameKind)) (n : Nat) (acc : List (Str × Addr)), (∀ z d, acc.lookup z = some d → d < n) → (∀ z w d, acc.lookup z = some d → acc.lookup w = some d → z = w) →
    (cellsFrom n names acc).lookup x = some c → (cellsFrom n names acc).lookup y = some c → x = y
  | [], _, _, _, h, e1, e2 => h _ _ _ e1 e2
  | (v, k) :: r, n, acc, hn, h, e1, e2 => by
    unfold cellsFrom at e1 e2
    cases hk : k == NameKind.cell with
    | false =>
      rw [hk, if_neg Bool.false_ne_true] at e1 e2
      exact cells_inj r n acc hn h e1 e2
    | true =>
      rw [hk, if_pos rfl] at e1 e2
      refine cells_inj r (n + 1) ((v, n) :: acc) (fun z d q => ?_) (fun z w d q1 q2 => ?_) e1 e2
      · rw [List.lookup_cons] at q
        split at q
        · cases q; exact Nat.lt_succ_self _
        · exact Nat.lt_succ_of_lt (hn _ _ q)
      · rw [List.lookup_cons] at q1 q2
        split at q1 <;> split at q2
        · rename_i _ a _ b; rw [beq_iff_eq] at a b; rw [a, b]
        · cases q1; exact absurd (hn _ _ q2) (Nat.lt_irrefl _)
        · cases q2; exact absurd (hn _ _ q1) (Nat.lt_irrefl _)
        · exact h _ _ _ q1 q2
theorem wpAny_newEnvC {M : Model} {A : Around} {E : Value → Shared → Prop} {s : Shared} {scope : Scope} {globals : Addr} {cl : List (Str × Addr)} {qual : Str} {func : Option Addr} {code : Value} {outer : Env} {builtins : Addr} {Q : Env → Shared → Prop}
    (hQ : Q (newEnv scope s.heap.objs.size globals (cellsFrom (s.heap.objs.size + 1) scope.names cl) qual func code (some outer) builtins) { s with heap := pushCells (s.heap.push { cls := .type "dict", data := .dict #[] }) scope.names }) :
    wpAny M A (newFunctionEnv scope globals cl [] qual func code (some outer) builtins) Q E s := by
  simp only [newFunctionEnv, Option.isSome_some, if_true]
  refine wpAny_bind (wpAny_alloc ?_)
  refine wpAny_bind (wpAny_layCells _ (fun name kind cells => by cases hkc : kind == NameKind.cell <;> simp [hkc]) _ _ _ _ ?_)
  rw [show ({ s with heap := s.heap.push { cls := .type "dict", data := .dict #[] } } : Shared).heap.objs.size = s.heap.objs.size + 1 from Heap.size_push ..]
  rw [List.forIn_nil]
  exact wpAny_bind (wpAny_pure (wpAny_pure hQ))

structure CompScC (sc osc : Scope) (N rest : List Str) : Prop where
  kind : sc.kind = .function
  okind : osc.kind = .function
  cel : ∀ x, (x, NameKind.cell) ∈ sc.names → sc.names.lookup x = some .cell
  loc : ∀ y ∈ sc.names, y.2 = .local → sc.names.lookup y.1 = some .local
  free : ∀ n, (n, NameKind.free) ∈ sc.names → osc.names.lookup n = some .cell ∨ osc.names.lookup n = some .free
  fre : ∀ n, (n, NameKind.free) ∈ sc.names → sc.names.lookup n = some .free
  len : N.length = rest.length
  look : ∀ (i : Nat) x, rest[i]? = some x → ((relNames sc.names osc.names).lookup x = some .local ∨ (relNames sc.names osc.names).lookup x = some .cell ∨ (relNames sc.names osc.names).lookup x = some .free) →
    N[i]? = some x ∧ (x, NameKind.free) ∈ sc.names ∧ (osc.names.lookup x = some .cell ∨ osc.names.lookup x = some .free) ∧ ((relNames sc.names osc.names).lookup x = some .cell ∨ (relNames sc.names osc.names).lookup x = some .free)
def compOkC (sc osc : Scope) (N rest : List Str) : Bool :=
  (sc.kind == .function && osc.kind == .function && sc.names.all fun y => sc.names.lookup y.1 == some y.2 && (y.2 != .free || osc.names.lookup y.1 == some .cell || osc.names.lookup y.1 == some .free))
  && N.length == rest.length && (N.zip rest).all fun p => match (relNames sc.names osc.names).lookup p.2 with
    | some .local => false
    | some .cell => p.1 == p.2 && (p.2, NameKind.free) ∈ sc.names && (osc.names.lookup p.2 == some .cell || osc.names.lookup p.2 == some .free)
    | some .free => p.1 == p.2 && (p.2, NameKind.free) ∈ sc.names && (osc.names.lookup p.2 == some .cell || osc.names.lookup p.2 == some .free)
    | _ => true
theorem compOkC_is {sc osc : Scope} {N rest : List Str} (h : compOkC sc osc N rest = true) : CompScC sc osc N rest := by
  unfold compOkC at h
  simp only [Bool.and_eq_true, beq_iff_eq, List.all_eq_true] at h
  obtain ⟨⟨⟨⟨hk, hok⟩, hy⟩, hl⟩, hz⟩ := h
  refine ⟨hk, hok, fun x z => (hy _ z).1, fun y z e => by rw [(hy _ z).1, e], fun n z => ?_, fun n z => (hy _ z).1, hl, fun i x e v => ?_⟩
  · have := (hy _ z).2; simpa using this
  · have hi : i < rest.length := (List.getElem?_eq_some_iff.mp e).1
    have hi' : i < N.length := by omega
    have hN : N[i]? = some N[i] := List.getElem?_eq_getElem hi'
    have hm : (N[i], x) ∈ N.zip rest := by
      refine List.mem_of_getElem? (i := i) ?_
      rw [List.getElem?_zip_eq_some]; exact ⟨hN, e⟩
    have q := hz _ hm
    dsimp only at q
    rcases v with v | v | v
    · rw [v] at q; simp at q
    · rw [v] at q; simp only [Bool.and_eq_true, beq_iff_eq, Bool.or_eq_true, decide_eq_true_eq] at q
      obtain ⟨⟨q1, q2⟩, q3⟩ := q
      exact ⟨by rw [hN, q1], q2, q3, .inl v⟩
    · rw [v] at q; simp only [Bool.and_eq_true, beq_iff_eq, Bool.or_eq_true, decide_eq_true_eq] at q
      obtain ⟨⟨q1, q2⟩, q3⟩ := q
      exact ⟨by rw [hN, q1], q2, q3, .inr v⟩
theorem rel_vis {names onames : List (Str × NameKind)} {x : Str} (h : (relNames names onames).lookup x = some .cell ∨ (relNames names onames).lookup x = some .free) : (x, NameKind.free) ∈ names ∨ (x, NameKind.cell) ∈ names := by
  have hm : (x, NameKind.cell) ∈ relNames names onames ∨ (x, NameKind.free) ∈ relNames names onames := h.imp PySem.mem_of_lookup PySem.mem_of_lookup
  rcases hm with hm | hm
  · obtain ⟨⟨n, k⟩, hn, e⟩ := List.mem_map.mp hm
    dsimp only at e
    split at e
    · rename_i hh; cases e; simp at hh; obtain ⟨rfl, _⟩ := hh; exact .inl hn
    · cases e; exact .inr hn
  · obtain ⟨⟨n, k⟩, hn, e⟩ := List.mem_map.mp hm
    dsimp only at e
    split at e
    · cases e
    · cases e; exact .inl hn

def ownC (scope : Scope) : Str → Bool := fun x => scope.names.lookup x == some .cell
/-  the context of such a comprehension's block -/
def compCxC (X : Cx) (scope : Scope) (N' : List Str) (cl : List (Str × Addr)) (s2 : Shared) (H2 : Hp) (C : Addr) (fp : List Addr) : Cx :=
  { X with N := N', s₀ := s2, H₀ := H2, env := compEnvC scope (cellsFrom (C + 1 : Nat) scope.names cl) C X.env, outer := X.stack, stack := X.stack, ex := fp, fn := ownC scope, pn := [], xe := fun _ _ => False }

section
variable {X : Cx} {pins : List (Addr × Obj)} {σ : St} {H2 : Hp} {s2 : Shared} {scope : Scope} {own rest : List Str} {cl : List (Str × Addr)} {fp : List Addr} {C : Nat}
theorem oldC (I : Inv X pins σ H2 s2) (h1 : ∀ n c, cl.lookup n = some c → X.env.cells.lookup n = some c) {x : Str} {c : Addr} (e : cl.lookup x = some c) : c < s2.heap.objs.size := by
  obtain ⟨v, q⟩ := I.cell x c (h1 x c e)
  exact q.lt
theorem splitC (I : Inv X pins σ H2 s2) {x : Str} {c : Addr} (e : (cellsFrom (C + 1) scope.names cl).lookup x = some c) : C + 1 ≤ c ∨ cl.lookup x = some c := by
  by_cases hx : (x, NameKind.cell) ∈ scope.names
  · exact .inl (cells_lo (lo := C + 1) scope.names (C + 1) cl (Nat.le_refl _) (.inl hx) e)
  · rw [cells_old _ _ _ hx] at e; exact .inr e
theorem compCxC_ok (I : Inv X pins σ H2 s2) (S : CompScC scope X.env.scope X.N rest) (h1 : ∀ n c, cl.lookup n = some c → X.env.cells.lookup n = some c) (h2 : ∀ n, (n, NameKind.free) ∈ scope.names → ∃ c, cl.lookup n = some c)
    (hC : s2.heap.objs.size ≤ C) (hf : ∀ b ∈ fp, FpOk X pins H2 b) (ho : ∀ b ∈ fp, ∃ o, s2.heap.get? b = some o) : (compCxC X scope (own ++ rest) cl s2 H2 C fp).Ok where
  mod := I.ok.mod
  kind := S.kind
  glob := I.ok.glob
  blt := I.ok.blt
  above := hC
  inj := fun x y c e1 e2 => cells_inj scope.names (C + 1) cl (fun z d e => Nat.lt_succ_of_lt (Nat.lt_of_lt_of_le (oldC I h1 e) hC)) (fun z w d q1 q2 => I.ok.inj z w d (h1 z d q1) (h1 w d q2)) e1 e2
  has := fun x hx => by
    have e : (compCxC X scope (own ++ rest) cl s2 H2 C fp).env.kindOf x = (relNames scope.names X.env.scope.names).lookup x := congrArg (List.lookup x) (relabel_names (sc := scope) I.ok.kind)
    rw [e] at hx
    refine Option.isSome_iff_exists.mp (PySem.W.cellsFrom_some scope.names (C + 1) cl ?_)
    rcases rel_vis hx with z | z
    · obtain ⟨c, q⟩ := h2 x z
      exact .inr (by rw [q]; rfl)
    · exact .inl (S.cel x z)
  cab := fun x c hx e => by
    have hx' : scope.names.lookup x = some .cell := by
      have z : (scope.names.lookup x == some .cell) = true := hx
      simpa using z
    have := cells_lo (lo := C + 1) scope.names (C + 1) cl (Nat.le_refl _) (.inl (PySem.mem_of_lookup hx')) e
    exact Nat.le_trans hC (Nat.le_of_succ_le this)
  hd := I.ok.hd
  frames := I.ok.frames
  stk := .inl rfl
  exf := fun b hb => by
    obtain ⟨o, e⟩ := ho b hb
    have lt := Heap.lt_size e
    refine ⟨Nat.ne_of_lt (Nat.lt_of_lt_of_le lt hC), fun x c q => ?_⟩
    rcases splitC I q with z | z
    · exact Nat.ne_of_gt (Nat.lt_of_lt_of_le lt (Nat.le_trans hC (Nat.le_of_succ_le z)))
    · exact (hf b hb).2.2.2.2.1 x c (h1 x c z)
  bs := I.bs
  bsz := Nat.le_trans I.ok.bsz I.sz
  noex := fun b o e hb => by
    rcases (hf b hb).2.2.2.1 with z | z
    · exact I.ok.noex b o e z
    · exact absurd (Nat.lt_of_lt_of_le (Heap.lt_size e) (Nat.le_trans I.ok.bsz z)) (Nat.lt_irrefl _)
  exfs := fun b hb z => by
    rcases List.mem_cons.mp (I.stkSub b z) with q | q
    · exact (hf b hb).2.1 q
    · exact (hf b hb).2.2.1 q
  funs := I.stack
  frf := I.stkFree

theorem comp_startC {h1 : Heap} {t1 : Nat} (I : Inv X pins σ H2 s2) (S : CompScC scope X.env.scope X.N rest) (hc1 : ∀ n c, cl.lookup n = some c → X.env.cells.lookup n = some c) (hc2 : ∀ n, (n, NameKind.free) ∈ scope.names → ∃ c, cl.lookup n = some c)
    (hC : s2.heap.objs.size ≤ C) (hf : ∀ b ∈ fp, FpOk X pins H2 b) (ho : ∀ b ∈ fp, ∃ o, s2.heap.get? b = some o)
    (old : ∀ b o, s2.heap.get? b = some o → h1.get? b = some o) (ns : h1.Ns C fun _ => none) (nc : ∀ x c, (cellsFrom (C + 1) scope.names cl).lookup x = some c → h1.IsCell c none ∨ cl.lookup x = some c) :
    Inv (compCxC X scope (own ++ rest) cl s2 H2 C fp) [] (List.replicate own.length none ++ σ) H2 { s2 with heap := h1, toks := t1 } := by
  obtain ⟨m, hn, hl⟩ := id I.loc
  have hv : ∀ x, Vis (compCxC X scope (own ++ rest) cl s2 H2 C fp).env.scope x → ((relNames scope.names X.env.scope.names).lookup x = some .local ∨ (relNames scope.names X.env.scope.names).lookup x = some .cell ∨ (relNames scope.names X.env.scope.names).lookup x = some .free) := fun x z => by
    have e : (compCxC X scope (own ++ rest) cl s2 H2 C fp).env.scope.names = relNames scope.names X.env.scope.names := relabel_names (sc := scope) I.ok.kind
    unfold Vis at z; rw [e] at z; exact z
  refine ⟨compCxC_ok I S hc1 hc2 hC hf ho, rfl, I.bare, Un.kept old, ⟨_, ns, fun i x v e1 e2 e3 => ?_⟩, fun x c e => ?_, I.hok.fresh hC, fun x c e => ?_, fun p hp => absurd (show p ∈ ([] : List (Addr × Obj)) from hp) (by simp), I.hok.kept old, ?_⟩
  · have e1' : (own ++ rest)[i]? = some x := e1
    by_cases hi : i < own.length
    · rw [List.getElem?_append_left (by simpa using hi), List.getElem?_replicate] at e2
      split at e2 <;> cases e2
    · have hi' : own.length ≤ i := Nat.le_of_not_lt hi
      rw [List.getElem?_append_right (by simpa using hi'), List.length_replicate] at e2
      rw [List.getElem?_append_right hi'] at e1'
      obtain ⟨q1, q2, q3, q4⟩ := S.look _ x e1' (hv x e3)
      obtain ⟨u, r, l⟩ := hl (i - own.length) x v q1 e2 (q3.elim (fun z => .inr (.inl z)) fun z => .inr (.inr z))
      refine ⟨u, r, .inr ⟨?_, ?_⟩⟩
      · have e : (compCxC X scope (own ++ rest) cl s2 H2 C fp).env.kindOf x = (relNames scope.names X.env.scope.names).lookup x := congrArg (List.lookup x) (relabel_names (sc := scope) I.ok.kind)
        rw [e]; exact q4
      · rcases l with ⟨k, _⟩ | ⟨_, c, e, z⟩
        · have k' : X.env.scope.names.lookup x = some .local := k
          rcases q3 with q3 | q3 <;> (rw [q3] at k'; cases k')
        · obtain ⟨c', e'⟩ := hc2 x q2
          have e2 := hc1 x c' e'
          rw [e] at e2; cases e2
          obtain ⟨o, q, d⟩ := z
          refine ⟨c, ?_, o, old c o q, d⟩
          show (cellsFrom (C + 1) scope.names cl).lookup x = some c
          rw [cells_old _ _ _ fun z => by have := S.cel x z; rw [S.fre x q2] at this; cases this]
          exact e'
  · rcases nc x c e with z | z
    · exact ⟨_, z⟩
    · obtain ⟨v, o, q, d⟩ := I.cell x c (hc1 x c z)
      exact ⟨v, o, old c o q, d⟩
  · rcases splitC I e with z | z
    · exact I.hok.fresh (Nat.le_trans hC (Nat.le_of_succ_le z))
    · exact I.freeC x c (hc1 x c z)
  · show _ = (own ++ rest).length
    have := I.len; have := S.len
    simp only [List.length_append, List.length_replicate]; omega
theorem comp_endC {H' : Hp} {s' : Shared} {σ' : St} {D : Addr} {ys : List V} {its : List Value} {n : Nat} {pins' : List (Addr × Obj)} (I : Inv X pins σ H2 s2) (J : Inv (compCxC X scope (own ++ rest) cl s2 H2 C fp) pins' σ' H' s') (hf : ∀ b ∈ fp, FpOk X pins H2 b)
    (hD : s2.heap.objs.size ≤ D) (hDn : H' D = none) (hDo : s'.heap.get? D = some { cls := .type "list", data := .seq its.toArray n }) (r : Vals ys its) (hz : ys.length ≤ sizeLine) :
    Inv X pins σ (upd H' D (.lst ys)) s' := by
  have u : Un (frs X.stack) fp H2 H' s2.heap s'.heap := J.base
  have nD : ∀ b o, s2.heap.get? b = some o → b ≠ D := fun b o e => Nat.ne_of_lt (Nat.lt_of_lt_of_le (Heap.lt_size e) hD)
  refine I.call' (ch := fp) J.os ⟨u.keep, u.slot, fun b o e n hx => ?_, u.there, fun b xs e => ?_, fun b o v e => ?_, fun b ps e => ?_⟩ (fun b o e => ?_) J.bare fun b hb => ?_
  · rw [upd_ne (nD b o e)]; exact u.free b o e n hx
  · rw [upd_ne (ne_of_none (u.tups b xs e) hDn)]; exact u.tups b xs e
  · rw [upd_ne (ne_of_none (u.frzs b o v e) hDn)]; exact u.frzs b o v e
  · obtain ⟨more, q⟩ := u.tbls b ps e
    exact ⟨more, by rw [upd_ne (ne_of_none q hDn)]; exact q⟩
  · by_cases hb : b = D
    · subst hb; rw [upd_same] at e; cases e; exact ⟨hz, its, n, r, hDo⟩
    · rw [upd_ne hb] at e
      exact (J.hok b o e).stay (fun c v _ q => q) (fun c q => by rw [upd_ne (ne_of_none q hDn)]; exact q) fun c xs q => by rw [upd_ne (ne_of_none q hDn)]; exact q
  · obtain ⟨_, f1, _, f3, f4, f5⟩ := hf b hb
    exact ⟨f3, f1, f4, f5⟩
end
section
variable {X : Cx} {pins : List (Addr × Obj)} {σ : St} {H2 : Hp} {s2 : Shared} {scope : Scope} {own rest : List Str} {cl : List (Str × Addr)} {fp : List Addr} {E : Value → Shared → Prop}
theorem comp_runC {elt tg iter : Expr} {ifs : List Expr} {pos : Pos} {J : It} {it : Addr} {tn : Nat → Heap → Prop} {g : TG} {tt : TT} {te : TE} {fin : List V → Hp → Prop} {RR : Value → Addr → Result → Shared → Prop} {D : Nat} (hD : s2.heap.objs.size = D) (hcalm : X.calm = true)
    (I : Inv X pins σ H2 s2) (S : CompScC scope X.env.scope X.N rest) (hc1 : ∀ n c, cl.lookup n = some c → X.env.cells.lookup n = some c) (hc2 : ∀ n, (n, NameKind.free) ∈ scope.names → ∃ c, cl.lookup n = some c)
    (T : Turn X.prog X.w X.K tg J fp it tn) (st : tn 0 s2.heap) (hf : ∀ b ∈ fp, FpOk X pins H2 b)
    (hg : PG (compCxC X scope (own ++ rest) cl s2 H2 (D + 1 : Nat) fp) tg g) (ht : PTs (compCxC X scope (own ++ rest) cl s2 H2 (D + 1 : Nat) fp) ifs tt)
    (he : PE (compCxC X scope (own ++ rest) cl s2 H2 (D + 1 : Nat) fp) elt te)
    (hw : CompW J g tt te fin (List.replicate own.length none ++ σ) H2)
    (hR : ∀ (s' : Shared) (H' : Hp) (ys : List V), Inv X pins σ (upd H' D (.lst ys)) s' → (∃ m, s'.heap.Ns (D + 1 : Nat) m) → H' D = none → H' (D + 1 : Nat) = none → fin ys H' → RR (.ref D) (D + 1 : Nat) (.ok .next) s') :
    wpAny (model X.prog X.w) X.A (newList []) (fun acc s3 => wpAny (model X.prog X.w) X.A (newFunctionEnv scope X.env.globals cl [] X.env.qual none .none (some X.env)) (fun cenv s4 =>
      codeAny (model X.prog X.w) X.A (.compStart (.ListComp elt [⟨tg, iter, ifs, 0⟩] scope pos) 0 (.ref it) acc { cenv with scope := relabel scope X.env }) (RR acc cenv.locals) s4) E s3) E s2 := by
  refine wpAny_newObj_type (wpAny_newEnvC ?_)
  dsimp only
  generalize hHp : s2.heap.push { cls := .type "list", dict := none, data := .seq ([] : List Value).toArray } = Hp2
  have hC : Hp2.objs.size = s2.heap.objs.size + 1 := by rw [← hHp, Heap.size_push]
  rw [hD] at hC
  have hC2 : (Hp2.push { cls := .type "dict", data := .dict #[] }).objs.size = D + 1 + 1 := by rw [Heap.size_push, hC]
  have hns : (pushCells (Hp2.push { cls := .type "dict", data := .dict #[] }) scope.names).Ns (D + 1 : Nat) fun _ => none := by
    have := (Heap.Ns.new Hp2 (.type "dict")).keeps (pushCells_keeps scope.names _)
    rw [hC] at this
    exact this
  have nc : ∀ x c, (cellsFrom (D + 1 + 1) scope.names cl).lookup x = some c → (pushCells (Hp2.push { cls := .type "dict", data := .dict #[] }) scope.names).IsCell c none ∨ cl.lookup x = some c := fun x c e => by
    rw [← hC2] at e
    rcases cells_split _ _ _ _ _ e with ⟨_, _, z⟩ | z
    · exact .inl z
    · exact .inr z
  rw [hC]
  rw [hD]
  have nDC : D ≠ D + 1 := Nat.ne_of_lt (Nat.lt_succ_self _)
  have below : ∀ b o, s2.heap.get? b = some o → b < D := fun b o e => by rw [← hD]; exact Heap.lt_size e
  have old : ∀ b o, s2.heap.get? b = some o → (pushCells (Hp2.push { cls := .type "dict", data := .dict #[] }) scope.names).get? b = some o := fun b o e =>
    pushCells_keeps _ _ _ _ (Heap.get?_push_of_some _ (hHp ▸ Heap.get?_push_of_some _ e))
  have hDo : (pushCells (Hp2.push { cls := .type "dict", data := .dict #[] }) scope.names).get? D = some { cls := .type "list", data := .seq ([] : List Value).toArray 0 } :=
    pushCells_keeps _ _ _ _ (Heap.get?_push_of_some _ (by rw [← hHp, ← hD]; exact Heap.get?_push_size _ rfl))
  generalize pushCells (Hp2.push { cls := .type "dict", data := .dict #[] }) scope.names = h1 at hns nc old hDo ⊢
  have hfo : ∀ b ∈ fp, ∃ o, s2.heap.get? b = some o := fun b hb => let ⟨o, e, _⟩ := T.obj 0 _ st b hb; ⟨o, e⟩
  have st1 : tn 0 h1 := T.keep _ _ _ st fun b hb o e => old b o e
  have J0 : Inv (compCxC X scope (own ++ rest) cl s2 H2 (D + 1 : Nat) fp) [] (List.replicate own.length none ++ σ) H2 { s2 with heap := h1, toks := s2.toks } :=
    comp_startC I S hc1 hc2 (by omega) hf hfo old hns nc
  have nfs : D ∉ (compCxC X scope (own ++ rest) cl s2 H2 (D + 1 : Nat) fp).fs := fun z => by
    have z' : D ∈ frs X.stack := z
    rcases List.mem_cons.mp (I.stkSub D z') with q | q
    · exact Nat.lt_irrefl D (by have h := I.lt; rw [← q, hD] at h; exact h)
    · exact I.nofs (Nat.le_of_eq hD) q
  have ncl : ∀ x c, (compCxC X scope (own ++ rest) cl s2 H2 (D + 1 : Nat) fp).env.cells.lookup x = some c → c ≠ D := fun x c e z => by
    rcases splitC I e with q | q
    · have hq : D + 1 + 1 ≤ c := q
      exact Nat.ne_of_gt (Nat.lt_of_lt_of_le (Nat.lt_succ_of_lt (Nat.lt_succ_self D)) hq) z
    · obtain ⟨v, o, q, d⟩ := I.cell x c (hc1 x c q)
      exact Nat.ne_of_lt (below c o q) z
  have loop : ∀ s3 : Shared, s3 = { s2 with heap := h1, toks := s2.toks } →
      codeAny (model X.prog X.w) X.A (.compLoop (.ListComp elt [⟨tg, iter, ifs, 0⟩] scope pos) 0 (.ref it) (.ref D) (compEnvC scope (cellsFrom (D + 1 + 1) scope.names cl) (D + 1) X.env)) (RR (.ref D) (D + 1)) s3 := by
    rintro s3 rfl
    obtain ⟨W, ⟨m0, w0⟩, turn⟩ := hw
    refine comp_loop (fun m s' => ∃ (i : Nat) (ys : List V) (its : List Value) (n : Nat) (σ' : St) (H' : Hp), Inv (compCxC X scope (own ++ rest) cl s2 H2 (D + 1 : Nat) fp) [] σ' H' s' ∧ tn i s'.heap ∧ (∀ b ∈ fp, H' b = none) ∧
      s'.heap.get? D = some { cls := .type "list", data := .seq its.toArray n } ∧ H' D = none ∧ Vals ys its ∧ ys.length ≤ sizeLine ∧ W i m ys σ' H') ?_ m0
      ⟨0, [], [], 0, _, H2, J0, st1, fun b hb => (hf b hb).1, hDo, by rw [← hD]; exact I.fresh, .nil, by simp, w0⟩
    rintro m s3 ⟨i, ys, its, n, σ3, H3, J3, st3, fr3, ho3, hn3, r3, z3, w3⟩
    have pin : ∀ {σ' : St} {H' : Hp} {s' : Shared}, Inv (compCxC X scope (own ++ rest) cl s2 H2 (D + 1 : Nat) fp) [] σ' H' s' → s'.heap.get? D = some { cls := .type "list", data := .seq its.toArray n } → H' D = none →
        Inv (compCxC X scope (own ++ rest) cl s2 H2 (D + 1 : Nat) fp) [(D, { cls := .type "list", data := .seq its.toArray n })] σ' H' s' := fun {σ' H' s'} K1 K2 K3 =>
      K1.pins_of fun p hp => by
        have e : p = (D, { cls := .type "list", data := .seq its.toArray n }) := by simpa using hp
        subst e
        exact ⟨K2, K3, nDC, nfs, fun v z => nomatch z⟩
    have fpk : ∀ {H' : Hp}, (∀ b ∈ fp, H' b = none) → ∀ b ∈ fp, FpOk (compCxC X scope (own ++ rest) cl s2 H2 (D + 1 : Nat) fp) [(D, { cls := .type "list", data := .seq its.toArray n })] H' b := fun {H'} fr b hb => by
      obtain ⟨o, e⟩ := hfo b hb
      have lt := below b o e
      refine ⟨fr b hb, Nat.ne_of_lt (Nat.lt_succ_of_lt lt), ?_, .inl hb, fun x c q => ?_, fun p hp => ?_⟩
      · intro z
        have z' : b ∈ frs X.stack := z
        rcases List.mem_cons.mp (I.stkSub b z') with q | q
        · exact (hf b hb).2.1 q
        · exact (hf b hb).2.2.1 q
      · rcases splitC I q with z | z
        · have hz : D + 1 + 1 ≤ c := z
          exact Nat.ne_of_gt (Nat.lt_of_lt_of_le (Nat.lt_succ_of_lt (Nat.lt_succ_of_lt lt)) hz)
        · exact (hf b hb).2.2.2.2.1 x c (hc1 x c z)
      · have e : p = (D, { cls := .type "list", data := .seq its.toArray n }) := by
          have hp' : p ∈ [(D, ({ cls := .type "list", data := .seq its.toArray n } : Obj))] := hp
          simpa using hp'
        subst e
        exact Nat.ne_of_gt lt
    have J3p := pin J3 ho3 hn3
    rcases turn i m ys σ3 H3 w3 with ⟨stop, q⟩ | ⟨go, hlt, N, hN, step⟩
    · refine thn (T.done (compCxC X scope (own ++ rest) cl s2 H2 (D + 1 : Nat) fp) rfl rfl rfl hcalm i _ s3 σ3 H3 _ J3p (fpk fr3) st3 stop) fun r s4 ⟨hr, J4⟩ => ?_
      subst hr
      have ho4 := J4.pin _ (List.mem_append_right _ List.mem_cons_self)
      refine hR s4 H3 ys (comp_endC I J4 hf (by omega) hn3 ho4.1 r3 z3) ?_ hn3 J4.free q
      obtain ⟨mm, hmm, _⟩ := J4.loc
      exact ⟨mm, hmm⟩
    · refine thn (T.item (compCxC X scope (own ++ rest) cl s2 H2 (D + 1 : Nat) fp) rfl rfl rfl hcalm i _ s3 σ3 H3 _ J3p (fpk fr3) st3 go) fun r s4 ⟨u, hr, h4⟩ => ?_
      subst hr
      refine thn h4 fun _ s5 ⟨x, H5, J5, r5, y5, st5, fr5⟩ => ?_
      have J5' := J5.pinned (fpk fr5) (T.obj _ _ st5)
      refine thn (hg _ s5 σ3 H5 x u _ J5' r5 (step x H5 y5)) fun _ s6 ⟨σ6, H6, J6, q6⟩ => ?_
      refine thn (ht _ s6 σ6 H6 _ J6 q6) fun b s7 ⟨H7, J7, q7⟩ => ?_
      have stay : ∀ {σ' : St} {H' : Hp} {s' : Shared}, Inv (compCxC X scope (own ++ rest) cl s2 H2 (D + 1 : Nat) fp) ([(D, { cls := .type "list", data := .seq its.toArray n })] ++ pinsAt fp s5.heap) σ' H' s' →
          Inv (compCxC X scope (own ++ rest) cl s2 H2 (D + 1 : Nat) fp) [] σ' H' s' ∧ tn (i + 1) s'.heap ∧ (∀ b ∈ fp, H' b = none) ∧ s'.heap.get? D = some { cls := .type "list", data := .seq its.toArray n } ∧ H' D = none := fun {σ' H' s'} K1 => by
        refine ⟨K1.pins_of fun p hp => absurd hp (by simp), T.keep _ _ _ st5 fun b hb o e => (K1.pin (b, o) (List.mem_append_right _ (List.mem_append_right _ (mem_pinsAt hb e)))).1, fun b hb => ?_, ?_, ?_⟩
        · obtain ⟨o, e, d⟩ := T.obj _ _ st5 b hb
          exact (K1.pin (b, o) (List.mem_append_right _ (List.mem_append_right _ (mem_pinsAt hb e)))).2.1
        · exact (K1.pin (D, _) (List.mem_append_right _ (List.mem_append_left _ List.mem_cons_self))).1
        · exact (K1.pin (D, _) (List.mem_append_right _ (List.mem_append_left _ List.mem_cons_self))).2.1
      cases b with
      | false =>
        rw [if_neg Bool.false_ne_true] at q7 ⊢
        obtain ⟨k1, k2, k3, k4, k5⟩ := stay J7
        obtain ⟨m', hm, w'⟩ := hN _ _ _ q7
        exact ⟨m', hm, i + 1, ys, its, n, σ6, H7, k1, k2, k3, k4, k5, r3, z3, w'⟩
      | true =>
        rw [if_pos rfl] at q7 ⊢
        refine thn (he _ s7 σ6 H7 _ J7 q7) fun xv s8 ⟨y, H8, J8, r8, q8⟩ => ?_
        obtain ⟨k1, k2, k3, k4, k5⟩ := stay J8
        refine call_meets F.slot_list_append ⟨_, k4, rfl⟩ F.entry_list_append (F.args_list_append_2 _ _) (PySem.list_append D its.toArray n xv (by rw [List.size_toArray, ← r3.length]; omega)) ⟨k4, ?_⟩
        obtain ⟨m', hm, w'⟩ := hN _ _ _ q8
        have ho9 := PySem.IsL.update k4 (fun a => a.push xv)
        have ek : ∀ b o, b ≠ D → s8.heap.get? b = some o → (s8.heap.update D (Obj.mapSeq (fun a => a.push xv))).get? b = some o := fun b o hb e => (Heap.get?_update_other s8.heap (Obj.mapSeq _) (Ne.symm hb)).trans e
        refine ⟨m', hm, i + 1, ys ++ [y], its ++ [xv], (if ((its.toArray.push xv).size == its.toArray.size) = true then n else n + 1), σ6, H8, k1.turned (it := D) (t' := s8.toks) ek k5 nDC (.inr (show s2.heap.objs.size ≤ D by omega)) ncl (fun p hp => absurd (show p ∈ ([] : List (Addr × Obj)) from hp) (by simp)), ?_, k3, ?_, k5, r3.append (.cons r8 .nil), ?_, w'⟩
        · refine T.keep _ _ _ k2 fun b hb o e => ek b o ?_ e
          obtain ⟨o', e'⟩ := hfo b hb
          exact Nat.ne_of_lt (below b o' e')
        · have e2 : its.toArray.push xv = (its ++ [xv]).toArray := by simp
          rw [← e2]; exact ho9
        · simp only [List.length_append, List.length_cons, List.length_nil]; omega
  exact codeAny_compStart_list (loop _ rfl) (T.self X.A 0 _ _ _ st1 (loop _ rfl))
end
section
variable {X : Cx} {elt tg iter : Expr} {ifs : List Expr} {scope : Scope} {pos : Pos} {wi : TI} {g : TG} {tt : TT} {te : TE}
theorem Inv.closedC {pins : List (Addr × Obj)} {σ : St} {H : Hp} {s : Shared} {N rest : List Str} (I : Inv X pins σ H s) (S : CompScC scope X.env.scope N rest) :
    ∃ cl, closureFor scope X.env = pure cl ∧ (∀ n c, cl.lookup n = some c → X.env.cells.lookup n = some c) ∧ (∀ n, (n, NameKind.free) ∈ scope.names → ∃ c, cl.lookup n = some c) :=
  closure_of fun n z => I.ok.has n (S.free n z)
theorem pe_compC (own rest : List Str) (hcalm : X.calm = true) (S : CompScC scope X.env.scope X.N rest) (hi : PI X tg iter wi)
    (hg : ∀ cl s2 H2 C fp, PG (compCxC X scope (own ++ rest) cl s2 H2 C fp) tg g) (ht : ∀ cl s2 H2 C fp, PTs (compCxC X scope (own ++ rest) cl s2 H2 C fp) ifs tt) (he : ∀ cl s2 H2 C fp, PE (compCxC X scope (own ++ rest) cl s2 H2 C fp) elt te)
    (hs : ∀ x, foldedSetIterable iter X.env x = pure x := by intro _; rfl) : PE X (.ListComp elt [⟨tg, iter, ifs, 0⟩] scope pos) (tComp own.length wi g tt te) := by
  intro pins s σ H Q I h
  obtain ⟨cl, hcl, hc1, hc2⟩ := I.closedC S
  rw [eval_ListComp]
  refine wpAny_comprehension_free (use := none) rfl hs hcl S.kind S.loc (thn (hi pins s σ H _ I h) fun v s1 h1 => thn h1 fun itv s2 h2 => ?_)
  obtain ⟨it, fp, tn, J, H2, e, I2, T, st, hf, hw⟩ := h2
  subst e
  refine comp_runC (RR := fun acc C => compPost (model X.prog X.w) X.A X.xe none (EP X pins σ Q) acc C) (D := s2.heap.objs.size) rfl hcalm I2 S hc1 hc2 T st hf (hg _ _ _ _ _) (ht _ _ _ _ _) (he _ _ _ _ _) hw ?_
  intro s' H' ys J' ⟨m, hm⟩ hD hC q
  refine ⟨m, hm, fun h' sb => ⟨.ref s2.heap.objs.size, _, I2.letgo (pins' := pins) (b := (s2.heap.objs.size + 1 : Nat)) J' (Nat.le_succ _) ?_ sb, rfl, q _ hD⟩⟩
  rw [upd_ne (Nat.ne_of_gt (Nat.lt_succ_self _))]; exact hC
/-  name = [..]: the name is a plain local -/
theorem ps_compC {i : Nat} {y : Str} {py spos : Pos} (own rest : List Str) (hcalm : X.calm = true) (S : CompScC scope X.env.scope X.N rest) (hN : X.N.Nodup) (hy : X.N[i]? = some y) (hl : X.env.scope.names.lookup y = some .local) (hi : PI X tg iter wi)
    (hg : ∀ cl s2 H2 C fp, PG (compCxC X scope (own ++ rest) cl s2 H2 C fp) tg g) (ht : ∀ cl s2 H2 C fp, PTs (compCxC X scope (own ++ rest) cl s2 H2 C fp) ifs tt) (he : ∀ cl s2 H2 C fp, PE (compCxC X scope (own ++ rest) cl s2 H2 C fp) elt te)
    (hsw : swapsWith (.ListComp elt [⟨tg, iter, ifs, 0⟩] scope pos) (some (.Name y py)) spos.line X.env = pure true := by rfl)
    (hs : ∀ x, foldedSetIterable iter X.env x = pure x := by intro _; rfl) : PS X (.Assign [.Name y py] (.ListComp elt [⟨tg, iter, ifs, 0⟩] scope pos) spos) (tAsg (tComp own.length wi g tt te) (gName i)) := by
  intro pins s σ H D I h
  obtain ⟨cl, hcl, hc1, hc2⟩ := I.closedC S
  rw [exec_Assign_Name_used _ _ _ _ hsw]
  refine wpAny_bind (wpAny_standAt (wpAny_bind ?_))
  show wpAny _ X.A (do let _ ← comprehension (.ListComp elt [⟨tg, iter, ifs, 0⟩] scope pos) scope X.env _ (newList []) false (eval iter X.env) (some (assign (.Name y py) X.env))) _ _ s
  refine wpAny_bind (wpAny_mono (wpAny_comprehension_free (use := some (assign (.Name y py) X.env)) (Q := fun _ s' => SP X pins D .next s') rfl hs hcl S.kind S.loc (thn (hi pins s σ H _ I h) fun v s1 h1 => thn h1 fun itv s2 h2 => ?_)) (fun _ s' hq => wpAny_pure (wpAny_pure hq)) fun _ _ e => e)
  obtain ⟨it, fp, tn, J, H2, e, I2, T, st, hf, hw⟩ := h2
  subst e
  refine comp_runC (RR := fun acc C => compPost (model X.prog X.w) X.A X.xe (some (assign (.Name y py) X.env)) (fun _ s' => SP X pins D .next s') acc C) (D := s2.heap.objs.size) rfl hcalm I2 S hc1 hc2 T st hf (hg _ _ _ _ _) (ht _ _ _ _ _) (he _ _ _ _ _) hw ?_
  intro s' H' ys J' ⟨m, hm⟩ hD hC q
  show wpAny _ X.A (assign (.Name y py) X.env (.ref s2.heap.objs.size)) _ _ s'
  refine wpAny_assign_Name (store_ok2 (v := .ref s2.heap.objs.size) J' hN hy (.inl hl) rfl (fun s3 J3 ⟨a, sb, ha⟩ => ?_) (.inr hl))
  have hne : s2.heap.objs.size + 1 ≠ a := by
    rcases ha with ha | ha
    · rw [ha]; exact Nat.ne_of_gt (Nat.lt_succ_of_lt I2.lt)
    · obtain ⟨v, o, e, d⟩ := I2.cell y a ha
      exact Nat.ne_of_gt (Nat.lt_succ_of_lt (Heap.lt_size e))
  refine ⟨m, hm.sameBut sb hne, fun h' sb' => ⟨_, _, I2.letgo (pins' := pins) (b := (s2.heap.objs.size + 1 : Nat)) J3 (Nat.le_succ _) ?_ sb', q _ hD⟩⟩
  rw [upd_ne (Nat.ne_of_gt (Nat.lt_succ_self _))]; exact hC
end


/-  a comprehension within one that has cells of its own, and within a plain one -/
theorem in_compC {X0 : Cx} {sc0 osc sc : Scope} {N' N rest : List Str} {cl : List (Str × Addr)} {s2 : Shared} {H2 : Hp} {C : Addr} {fp : List Addr} (h0 : X0.env.scope = osc) (hk : osc.kind = .function)
    (S : CompSc sc { sc0 with names := relNames sc0.names osc.names } N rest) : CompSc sc (compCxC X0 sc0 N' cl s2 H2 C fp).env.scope N rest := by
  have e : (compCxC X0 sc0 N' cl s2 H2 C fp).env.scope.names = relNames sc0.names osc.names := by
    have := relabel_names (sc := sc0) (env := X0.env) (by rw [h0]; exact hk)
    rw [h0] at this
    exact this
  exact ⟨S.kind, S.okind, S.cell, S.loc, fun n z => by rw [e]; exact S.free n z, S.len, fun i x h1 h2 => by rw [e] at h2 ⊢; exact S.look i x h1 h2⟩

/-! ### great numbers: // and * of numbers below 2 ** 250 -/
def BB : Int := 2 ^ 250
theorem BB_nat : BB = ((2 ^ 250 : Nat) : Int) := by unfold BB; norm_cast
theorem natAbs_BB {j : Int} (h1 : -BB < j) (h2 : j < BB) : j.natAbs < 2 ^ 250 := by
  rw [BB_nat] at h1 h2
  generalize (2 ^ 250 : Nat) = N at *
  omega
section
variable {X : Cx}
theorem op_fdivB : OpR X (binaryOp .FloorDiv) (rI (fun _ j => 0 < j ∧ j < BB) fun i j => .int (i / j)) := opI fun i j _ _ _ _ _ hc q => by
  have h1 : (0 : Int) < j := hc.1
  have h0 : (0 : Int) ≤ BB := by rw [BB_nat]; exact Int.natCast_nonneg _
  have h2 : j.natAbs < 2 ^ 250 := natAbs_BB (by omega) hc.2
  refine floordiv_int (by omega) (by rw [Int.fdiv_eq_ediv_of_nonneg i (by omega)]; exact q) (.inl (PyProof.noPylong_of_log2 ?_))
  exact Nat.lt_trans ((Nat.log2_lt (by omega)).mpr h2) (by decide)
theorem op_mulB : OpR X (binaryOp .Mult) (rI (fun i j => (-BB < i ∧ i < BB) ∧ -BB < j ∧ j < BB) fun i j => .int (i * j)) := opI fun i j _ _ _ _ _ hc q =>
  mul_int q (.of_bits (Nat.le_trans (intBits_le (natAbs_BB hc.1.1 hc.1.2)) (by decide)) (Nat.le_trans (intBits_le (natAbs_BB hc.2.1 hc.2.2)) (by decide)))
end
end L2
namespace NS
open PySem L2
seal L2.PE L2.PT L2.PA L2.PS L2.PSs L2.PG L2.PI L2.PTs L2.PW L2.PO L2.PGs L2.PPs L2.OpR L2.CallR L2.IxR L2.SlR L2.UnR L2.PSet
def top (i : Nat) : Stmt := PySem.Challenge.pw_crosshall_k34_shares_come_to_one.main.body.getD i (.Pass ⟨0, 0, 0, 0⟩)
abbrev s_greatest_divisor : Stmt := top 1
abbrev s_fraction : Stmt := top 2
abbrev s_column_sums : Stmt := top 3
abbrev s_wholes_of : Stmt := top 4
abbrev s_share : Stmt := top 5
abbrev s_row_shares : Stmt := top 6
abbrev s_shares : Stmt := top 7
abbrev s_l_draw : Stmt := top 9
abbrev s_l_cell : Stmt := top 10
abbrev s_l_divisor : Stmt := top 11
abbrev s_l_number : Stmt := top 12
abbrev s_l_grid : Stmt := top 13
abbrev s_l_whole_of : Stmt := top 14
abbrev s_l_is_share : Stmt := top 15
abbrev s_l_come_to_one : Stmt := top 16
abbrev s_l_ones : Stmt := top 17
abbrev s_l_right : Stmt := top 18
abbrev s_law : Stmt := top 19
theorem sc_greatest_divisor : FnScope ["one", "other", "rest"] ["one", "other"] (defScope s_greatest_divisor) := ⟨rfl, rfl, rfl, by decide +kernel, rfl, by decide +kernel, by decide +kernel⟩
theorem sc_fraction : FnScope ["top", "bottom", "divisor"] ["top", "bottom"] (defScope s_fraction) := ⟨rfl, rfl, rfl, by decide +kernel, rfl, by decide +kernel, by decide +kernel⟩
theorem sc_column_sums : FnScope ["grid", "width"] ["grid"] (defScope s_column_sums) := ⟨rfl, rfl, rfl, by decide +kernel, rfl, by decide +kernel, by decide +kernel⟩
theorem sc_wholes_of : FnScope ["grid", "way", "row_sums", "sums"] ["grid", "way"] (defScope s_wholes_of) := ⟨rfl, rfl, rfl, by decide +kernel, rfl, by decide +kernel, by decide +kernel⟩
theorem sc_share : FnScope ["number", "whole"] ["number", "whole"] (defScope s_share) := ⟨rfl, rfl, rfl, by decide +kernel, rfl, by decide +kernel, by decide +kernel⟩
theorem sc_row_shares : FnScope ["row", "wholes"] ["row", "wholes"] (defScope s_row_shares) := ⟨rfl, rfl, rfl, by decide +kernel, rfl, by decide +kernel, by decide +kernel⟩
theorem sc_shares : FnScope ["grid", "way"] ["grid", "way"] (defScope s_shares) := ⟨rfl, rfl, rfl, by decide +kernel, rfl, by decide +kernel, by decide +kernel⟩
theorem sc_l_draw : FnScope ["_law_script", "_law_k", "_law_many", "_law_number_here"] ["_law_script", "_law_k", "_law_many"] (defScope s_l_draw) := ⟨rfl, rfl, rfl, by decide +kernel, rfl, by decide +kernel, by decide +kernel⟩
theorem sc_l_cell : FnScope ["_law_script", "_law_k"] ["_law_script", "_law_k"] (defScope s_l_cell) := ⟨rfl, rfl, rfl, by decide +kernel, rfl, by decide +kernel, by decide +kernel⟩
theorem sc_l_divisor : FnScope ["_law_one", "_law_other"] ["_law_one", "_law_other"] (defScope s_l_divisor) := ⟨rfl, rfl, rfl, by decide +kernel, rfl, by decide +kernel, by decide +kernel⟩
theorem sc_l_number : FnScope ["_law_script", "_law_k", "_law_unit", "_law_way"] ["_law_script", "_law_k", "_law_unit"] (defScope s_l_number) := ⟨rfl, rfl, rfl, by decide +kernel, rfl, by decide +kernel, by decide +kernel⟩
theorem sc_l_grid : FnScope ["_law_script", "_law_rows", "_law_columns", "_law_unit", "_law_grid_here", "_law_at", "_law_row"] ["_law_script", "_law_rows", "_law_columns"] (defScope s_l_grid) := ⟨rfl, rfl, rfl, by decide +kernel, rfl, by decide +kernel, by decide +kernel⟩
theorem sc_l_whole_of : FnScope ["_law_grid_here", "_law_way", "_law_row", "_law_column"] ["_law_grid_here", "_law_way", "_law_row", "_law_column"] (defScope s_l_whole_of) := ⟨rfl, rfl, rfl, by decide +kernel, rfl, by decide +kernel, by decide +kernel⟩
theorem sc_l_is_share : FnScope ["_law_found", "_law_number_here", "_law_whole", "_law_one"] ["_law_found", "_law_number_here", "_law_whole"] (defScope s_l_is_share) := ⟨rfl, rfl, rfl, by decide +kernel, rfl, by decide +kernel, by decide +kernel⟩
theorem sc_l_come_to_one : FnScope ["_law_some", "_law_whole", "_law_total", "_law_one"] ["_law_some", "_law_whole"] (defScope s_l_come_to_one) := ⟨rfl, rfl, rfl, by decide +kernel, rfl, by decide +kernel, by decide +kernel⟩
theorem sc_l_ones : FnScope ["_law_grid_here", "_law_way", "_law_told", "_law_rows", "_law_whole", "_law_some", "_law_row", "_law_column"] ["_law_grid_here", "_law_way", "_law_told"] (defScope s_l_ones) := ⟨rfl, rfl, rfl, by decide +kernel, rfl, by decide +kernel, by decide +kernel⟩
theorem sc_l_right : FnScope ["_law_grid_here", "_law_way", "_law_told", "_law_row", "_law_column"] ["_law_grid_here", "_law_way", "_law_told"] (defScope s_l_right) := ⟨rfl, rfl, rfl, by decide +kernel, rfl, by decide +kernel, by decide +kernel⟩
theorem sc_law : FnScope ["_law_script", "_law_rows", "_law_columns", "_law_grid_here", "_law_first", "_law_k", "_law_way", "_law_handed", "_law_told", "_law_row", "_law_top", "_law_bottom"] ["_law_script"] (defScope s_law) := ⟨rfl, rfl, rfl, by decide +kernel, rfl, by decide +kernel, by decide +kernel⟩
structure Txt (K : PySem.W.Frag) (mg : Str → Option Value) (f : Nat → Addr) (fd : Nat → FuncData) : Prop where
  d_greatest_divisor : DefOk K mg "greatest_divisor" s_greatest_divisor ["one", "other"] (f 1) (fd 1)
  d_fraction : DefOk K mg "fraction" s_fraction ["top", "bottom"] (f 2) (fd 2)
  d_column_sums : DefOk K mg "column_sums" s_column_sums ["grid"] (f 3) (fd 3)
  d_wholes_of : DefOk K mg "wholes_of" s_wholes_of ["grid", "way"] (f 4) (fd 4)
  d_share : DefOk K mg "share" s_share ["number", "whole"] (f 5) (fd 5)
  d_row_shares : DefOk K mg "row_shares" s_row_shares ["row", "wholes"] (f 6) (fd 6)
  d_shares : DefOk K mg "shares" s_shares ["grid", "way"] (f 7) (fd 7)
  d_l_draw : DefOk K mg "_law_draw" s_l_draw ["_law_script", "_law_k", "_law_many"] (f 9) (fd 9)
  d_l_cell : DefOk K mg "_law_cell" s_l_cell ["_law_script", "_law_k"] (f 10) (fd 10)
  d_l_divisor : DefOk K mg "_law_divisor" s_l_divisor ["_law_one", "_law_other"] (f 11) (fd 11)
  d_l_number : DefOk K mg "_law_number" s_l_number ["_law_script", "_law_k", "_law_unit"] (f 12) (fd 12)
  d_l_grid : DefOk K mg "_law_grid" s_l_grid ["_law_script", "_law_rows", "_law_columns"] (f 13) (fd 13)
  d_l_whole_of : DefOk K mg "_law_whole_of" s_l_whole_of ["_law_grid_here", "_law_way", "_law_row", "_law_column"] (f 14) (fd 14)
  d_l_is_share : DefOk K mg "_law_is_share" s_l_is_share ["_law_found", "_law_number_here", "_law_whole"] (f 15) (fd 15)
  d_l_come_to_one : DefOk K mg "_law_come_to_one" s_l_come_to_one ["_law_some", "_law_whole"] (f 16) (fd 16)
  d_l_ones : DefOk K mg "_law_ones" s_l_ones ["_law_grid_here", "_law_way", "_law_told"] (f 17) (fd 17)
  d_l_right : DefOk K mg "_law_right" s_l_right ["_law_grid_here", "_law_way", "_law_told"] (f 18) (fd 18)
  d_law : DefOk K mg "law" s_law ["_law_script"] (f 19) (fd 19)
  n_abs : mg "abs" = none
  n_all : mg "all" = none
  n_bool : mg "bool" = none
  n_int : mg "int" = none
  n_isinstance : mg "isinstance" = none
  n_len : mg "len" = none
  n_list : mg "list" = none
  n_range : mg "range" = none
  n_sum : mg "sum" = none
  n_tuple : mg "tuple" = none
  n_zip : mg "zip" = none
theorem txt_mk {K : PySem.W.Frag} {h : Heap} {mg : Str → Option Value} (X : K.In h) (G : h.Ns mainGlobals mg)
    {f1 : Addr} {od1 an1 : Option Addr} {sl1 : Array (Option Value)} {oc1 kV1 dc1 pm1 cd1 ct1 : Value}
    {f2 : Addr} {od2 an2 : Option Addr} {sl2 : Array (Option Value)} {oc2 kV2 dc2 pm2 cd2 ct2 : Value}
    {f3 : Addr} {od3 an3 : Option Addr} {sl3 : Array (Option Value)} {oc3 kV3 dc3 pm3 cd3 ct3 : Value}
    {f4 : Addr} {od4 an4 : Option Addr} {sl4 : Array (Option Value)} {oc4 kV4 dc4 pm4 cd4 ct4 : Value}
    {f5 : Addr} {od5 an5 : Option Addr} {sl5 : Array (Option Value)} {oc5 kV5 dc5 pm5 cd5 ct5 : Value}
    {f6 : Addr} {od6 an6 : Option Addr} {sl6 : Array (Option Value)} {oc6 kV6 dc6 pm6 cd6 ct6 : Value}
    {f7 : Addr} {od7 an7 : Option Addr} {sl7 : Array (Option Value)} {oc7 kV7 dc7 pm7 cd7 ct7 : Value}
    {f9 : Addr} {od9 an9 : Option Addr} {sl9 : Array (Option Value)} {oc9 kV9 dc9 pm9 cd9 ct9 : Value}
    {f10 : Addr} {od10 an10 : Option Addr} {sl10 : Array (Option Value)} {oc10 kV10 dc10 pm10 cd10 ct10 : Value}
    {f11 : Addr} {od11 an11 : Option Addr} {sl11 : Array (Option Value)} {oc11 kV11 dc11 pm11 cd11 ct11 : Value}
    {f12 : Addr} {od12 an12 : Option Addr} {sl12 : Array (Option Value)} {oc12 kV12 dc12 pm12 cd12 ct12 : Value}
    {f13 : Addr} {od13 an13 : Option Addr} {sl13 : Array (Option Value)} {oc13 kV13 dc13 pm13 cd13 ct13 : Value}
    {f14 : Addr} {od14 an14 : Option Addr} {sl14 : Array (Option Value)} {oc14 kV14 dc14 pm14 cd14 ct14 : Value}
    {f15 : Addr} {od15 an15 : Option Addr} {sl15 : Array (Option Value)} {oc15 kV15 dc15 pm15 cd15 ct15 : Value}
    {f16 : Addr} {od16 an16 : Option Addr} {sl16 : Array (Option Value)} {oc16 kV16 dc16 pm16 cd16 ct16 : Value}
    {f17 : Addr} {od17 an17 : Option Addr} {sl17 : Array (Option Value)} {oc17 kV17 dc17 pm17 cd17 ct17 : Value}
    {f18 : Addr} {od18 an18 : Option Addr} {sl18 : Array (Option Value)} {oc18 kV18 dc18 pm18 cd18 ct18 : Value}
    {f19 : Addr} {od19 an19 : Option Addr} {sl19 : Array (Option Value)} {oc19 kV19 dc19 pm19 cd19 ct19 : Value}
    (a1 : PySem.W.nsIn K mainGlobals "greatest_divisor" = some (some (.ref f1)))
    (l1 : K.lookup f1 = some ⟨oc1, od1, .func (PySem.W.fnOf "greatest_divisor" "greatest_divisor" (defArgs s_greatest_divisor) (defBody s_greatest_divisor) (defScope s_greatest_divisor) .none kV1 dc1 pm1 an1 cd1 ct1), sl1⟩) (c1 : PySem.W.codeIn K cd1 "greatest_divisor" = true) (k1 : PySem.W.keepIn K (.ref f1) = true)
    (a2 : PySem.W.nsIn K mainGlobals "fraction" = some (some (.ref f2)))
    (l2 : K.lookup f2 = some ⟨oc2, od2, .func (PySem.W.fnOf "fraction" "fraction" (defArgs s_fraction) (defBody s_fraction) (defScope s_fraction) .none kV2 dc2 pm2 an2 cd2 ct2), sl2⟩) (c2 : PySem.W.codeIn K cd2 "fraction" = true) (k2 : PySem.W.keepIn K (.ref f2) = true)
    (a3 : PySem.W.nsIn K mainGlobals "column_sums" = some (some (.ref f3)))
    (l3 : K.lookup f3 = some ⟨oc3, od3, .func (PySem.W.fnOf "column_sums" "column_sums" (defArgs s_column_sums) (defBody s_column_sums) (defScope s_column_sums) .none kV3 dc3 pm3 an3 cd3 ct3), sl3⟩) (c3 : PySem.W.codeIn K cd3 "column_sums" = true) (k3 : PySem.W.keepIn K (.ref f3) = true)
    (a4 : PySem.W.nsIn K mainGlobals "wholes_of" = some (some (.ref f4)))
    (l4 : K.lookup f4 = some ⟨oc4, od4, .func (PySem.W.fnOf "wholes_of" "wholes_of" (defArgs s_wholes_of) (defBody s_wholes_of) (defScope s_wholes_of) .none kV4 dc4 pm4 an4 cd4 ct4), sl4⟩) (c4 : PySem.W.codeIn K cd4 "wholes_of" = true) (k4 : PySem.W.keepIn K (.ref f4) = true)
    (a5 : PySem.W.nsIn K mainGlobals "share" = some (some (.ref f5)))
    (l5 : K.lookup f5 = some ⟨oc5, od5, .func (PySem.W.fnOf "share" "share" (defArgs s_share) (defBody s_share) (defScope s_share) .none kV5 dc5 pm5 an5 cd5 ct5), sl5⟩) (c5 : PySem.W.codeIn K cd5 "share" = true) (k5 : PySem.W.keepIn K (.ref f5) = true)
    (a6 : PySem.W.nsIn K mainGlobals "row_shares" = some (some (.ref f6)))
    (l6 : K.lookup f6 = some ⟨oc6, od6, .func (PySem.W.fnOf "row_shares" "row_shares" (defArgs s_row_shares) (defBody s_row_shares) (defScope s_row_shares) .none kV6 dc6 pm6 an6 cd6 ct6), sl6⟩) (c6 : PySem.W.codeIn K cd6 "row_shares" = true) (k6 : PySem.W.keepIn K (.ref f6) = true)
    (a7 : PySem.W.nsIn K mainGlobals "shares" = some (some (.ref f7)))
    (l7 : K.lookup f7 = some ⟨oc7, od7, .func (PySem.W.fnOf "shares" "shares" (defArgs s_shares) (defBody s_shares) (defScope s_shares) .none kV7 dc7 pm7 an7 cd7 ct7), sl7⟩) (c7 : PySem.W.codeIn K cd7 "shares" = true) (k7 : PySem.W.keepIn K (.ref f7) = true)
    (a9 : PySem.W.nsIn K mainGlobals "_law_draw" = some (some (.ref f9)))
    (l9 : K.lookup f9 = some ⟨oc9, od9, .func (PySem.W.fnOf "_law_draw" "_law_draw" (defArgs s_l_draw) (defBody s_l_draw) (defScope s_l_draw) .none kV9 dc9 pm9 an9 cd9 ct9), sl9⟩) (c9 : PySem.W.codeIn K cd9 "_law_draw" = true) (k9 : PySem.W.keepIn K (.ref f9) = true)
    (a10 : PySem.W.nsIn K mainGlobals "_law_cell" = some (some (.ref f10)))
    (l10 : K.lookup f10 = some ⟨oc10, od10, .func (PySem.W.fnOf "_law_cell" "_law_cell" (defArgs s_l_cell) (defBody s_l_cell) (defScope s_l_cell) .none kV10 dc10 pm10 an10 cd10 ct10), sl10⟩) (c10 : PySem.W.codeIn K cd10 "_law_cell" = true) (k10 : PySem.W.keepIn K (.ref f10) = true)
    (a11 : PySem.W.nsIn K mainGlobals "_law_divisor" = some (some (.ref f11)))
    (l11 : K.lookup f11 = some ⟨oc11, od11, .func (PySem.W.fnOf "_law_divisor" "_law_divisor" (defArgs s_l_divisor) (defBody s_l_divisor) (defScope s_l_divisor) .none kV11 dc11 pm11 an11 cd11 ct11), sl11⟩) (c11 : PySem.W.codeIn K cd11 "_law_divisor" = true) (k11 : PySem.W.keepIn K (.ref f11) = true)
    (a12 : PySem.W.nsIn K mainGlobals "_law_number" = some (some (.ref f12)))
    (l12 : K.lookup f12 = some ⟨oc12, od12, .func (PySem.W.fnOf "_law_number" "_law_number" (defArgs s_l_number) (defBody s_l_number) (defScope s_l_number) .none kV12 dc12 pm12 an12 cd12 ct12), sl12⟩) (c12 : PySem.W.codeIn K cd12 "_law_number" = true) (k12 : PySem.W.keepIn K (.ref f12) = true)
    (a13 : PySem.W.nsIn K mainGlobals "_law_grid" = some (some (.ref f13)))
    (l13 : K.lookup f13 = some ⟨oc13, od13, .func (PySem.W.fnOf "_law_grid" "_law_grid" (defArgs s_l_grid) (defBody s_l_grid) (defScope s_l_grid) .none kV13 dc13 pm13 an13 cd13 ct13), sl13⟩) (c13 : PySem.W.codeIn K cd13 "_law_grid" = true) (k13 : PySem.W.keepIn K (.ref f13) = true)
    (a14 : PySem.W.nsIn K mainGlobals "_law_whole_of" = some (some (.ref f14)))
    (l14 : K.lookup f14 = some ⟨oc14, od14, .func (PySem.W.fnOf "_law_whole_of" "_law_whole_of" (defArgs s_l_whole_of) (defBody s_l_whole_of) (defScope s_l_whole_of) .none kV14 dc14 pm14 an14 cd14 ct14), sl14⟩) (c14 : PySem.W.codeIn K cd14 "_law_whole_of" = true) (k14 : PySem.W.keepIn K (.ref f14) = true)
    (a15 : PySem.W.nsIn K mainGlobals "_law_is_share" = some (some (.ref f15)))
    (l15 : K.lookup f15 = some ⟨oc15, od15, .func (PySem.W.fnOf "_law_is_share" "_law_is_share" (defArgs s_l_is_share) (defBody s_l_is_share) (defScope s_l_is_share) .none kV15 dc15 pm15 an15 cd15 ct15), sl15⟩) (c15 : PySem.W.codeIn K cd15 "_law_is_share" = true) (k15 : PySem.W.keepIn K (.ref f15) = true)
    (a16 : PySem.W.nsIn K mainGlobals "_law_come_to_one" = some (some (.ref f16)))
    (l16 : K.lookup f16 = some ⟨oc16, od16, .func (PySem.W.fnOf "_law_come_to_one" "_law_come_to_one" (defArgs s_l_come_to_one) (defBody s_l_come_to_one) (defScope s_l_come_to_one) .none kV16 dc16 pm16 an16 cd16 ct16), sl16⟩) (c16 : PySem.W.codeIn K cd16 "_law_come_to_one" = true) (k16 : PySem.W.keepIn K (.ref f16) = true)
    (a17 : PySem.W.nsIn K mainGlobals "_law_ones" = some (some (.ref f17)))
    (l17 : K.lookup f17 = some ⟨oc17, od17, .func (PySem.W.fnOf "_law_ones" "_law_ones" (defArgs s_l_ones) (defBody s_l_ones) (defScope s_l_ones) .none kV17 dc17 pm17 an17 cd17 ct17), sl17⟩) (c17 : PySem.W.codeIn K cd17 "_law_ones" = true) (k17 : PySem.W.keepIn K (.ref f17) = true)
    (a18 : PySem.W.nsIn K mainGlobals "_law_right" = some (some (.ref f18)))
    (l18 : K.lookup f18 = some ⟨oc18, od18, .func (PySem.W.fnOf "_law_right" "_law_right" (defArgs s_l_right) (defBody s_l_right) (defScope s_l_right) .none kV18 dc18 pm18 an18 cd18 ct18), sl18⟩) (c18 : PySem.W.codeIn K cd18 "_law_right" = true) (k18 : PySem.W.keepIn K (.ref f18) = true)
    (a19 : PySem.W.nsIn K mainGlobals "law" = some (some (.ref f19)))
    (l19 : K.lookup f19 = some ⟨oc19, od19, .func (PySem.W.fnOf "law" "law" (defArgs s_law) (defBody s_law) (defScope s_law) .none kV19 dc19 pm19 an19 cd19 ct19), sl19⟩) (c19 : PySem.W.codeIn K cd19 "law" = true) (k19 : PySem.W.keepIn K (.ref f19) = true)
    (z_abs : PySem.W.nsIn K mainGlobals "abs" = some none)
    (z_all : PySem.W.nsIn K mainGlobals "all" = some none)
    (z_bool : PySem.W.nsIn K mainGlobals "bool" = some none)
    (z_int : PySem.W.nsIn K mainGlobals "int" = some none)
    (z_isinstance : PySem.W.nsIn K mainGlobals "isinstance" = some none)
    (z_len : PySem.W.nsIn K mainGlobals "len" = some none)
    (z_list : PySem.W.nsIn K mainGlobals "list" = some none)
    (z_range : PySem.W.nsIn K mainGlobals "range" = some none)
    (z_sum : PySem.W.nsIn K mainGlobals "sum" = some none)
    (z_tuple : PySem.W.nsIn K mainGlobals "tuple" = some none)
    (z_zip : PySem.W.nsIn K mainGlobals "zip" = some none)
    : ∃ f fd, Txt K mg f fd ∧ f 19 = f19 ∧ ∃ kV dc pm an cd ct, fd 19 = PySem.W.fnOf "law" "law" (defArgs s_law) (defBody s_law) (defScope s_law) .none kV dc pm an cd ct := by
  refine ⟨fun i => match i with | 1 => f1 | 2 => f2 | 3 => f3 | 4 => f4 | 5 => f5 | 6 => f6 | 7 => f7 | 9 => f9 | 10 => f10 | 11 => f11 | 12 => f12 | 13 => f13 | 14 => f14 | 15 => f15 | 16 => f16 | 17 => f17 | 18 => f18 | 19 => f19 | _ => 0, fun i => match i with | 1 => PySem.W.fnOf "greatest_divisor" "greatest_divisor" (defArgs s_greatest_divisor) (defBody s_greatest_divisor) (defScope s_greatest_divisor) .none kV1 dc1 pm1 an1 cd1 ct1 | 2 => PySem.W.fnOf "fraction" "fraction" (defArgs s_fraction) (defBody s_fraction) (defScope s_fraction) .none kV2 dc2 pm2 an2 cd2 ct2 | 3 => PySem.W.fnOf "column_sums" "column_sums" (defArgs s_column_sums) (defBody s_column_sums) (defScope s_column_sums) .none kV3 dc3 pm3 an3 cd3 ct3 | 4 => PySem.W.fnOf "wholes_of" "wholes_of" (defArgs s_wholes_of) (defBody s_wholes_of) (defScope s_wholes_of) .none kV4 dc4 pm4 an4 cd4 ct4 | 5 => PySem.W.fnOf "share" "share" (defArgs s_share) (defBody s_share) (defScope s_share) .none kV5 dc5 pm5 an5 cd5 ct5 | 6 => PySem.W.fnOf "row_shares" "row_shares" (defArgs s_row_shares) (defBody s_row_shares) (defScope s_row_shares) .none kV6 dc6 pm6 an6 cd6 ct6 | 7 => PySem.W.fnOf "shares" "shares" (defArgs s_shares) (defBody s_shares) (defScope s_shares) .none kV7 dc7 pm7 an7 cd7 ct7 | 9 => PySem.W.fnOf "_law_draw" "_law_draw" (defArgs s_l_draw) (defBody s_l_draw) (defScope s_l_draw) .none kV9 dc9 pm9 an9 cd9 ct9 | 10 => PySem.W.fnOf "_law_cell" "_law_cell" (defArgs s_l_cell) (defBody s_l_cell) (defScope s_l_cell) .none kV10 dc10 pm10 an10 cd10 ct10 | 11 => PySem.W.fnOf "_law_divisor" "_law_divisor" (defArgs s_l_divisor) (defBody s_l_divisor) (defScope s_l_divisor) .none kV11 dc11 pm11 an11 cd11 ct11 | 12 => PySem.W.fnOf "_law_number" "_law_number" (defArgs s_l_number) (defBody s_l_number) (defScope s_l_number) .none kV12 dc12 pm12 an12 cd12 ct12 | 13 => PySem.W.fnOf "_law_grid" "_law_grid" (defArgs s_l_grid) (defBody s_l_grid) (defScope s_l_grid) .none kV13 dc13 pm13 an13 cd13 ct13 | 14 => PySem.W.fnOf "_law_whole_of" "_law_whole_of" (defArgs s_l_whole_of) (defBody s_l_whole_of) (defScope s_l_whole_of) .none kV14 dc14 pm14 an14 cd14 ct14 | 15 => PySem.W.fnOf "_law_is_share" "_law_is_share" (defArgs s_l_is_share) (defBody s_l_is_share) (defScope s_l_is_share) .none kV15 dc15 pm15 an15 cd15 ct15 | 16 => PySem.W.fnOf "_law_come_to_one" "_law_come_to_one" (defArgs s_l_come_to_one) (defBody s_l_come_to_one) (defScope s_l_come_to_one) .none kV16 dc16 pm16 an16 cd16 ct16 | 17 => PySem.W.fnOf "_law_ones" "_law_ones" (defArgs s_l_ones) (defBody s_l_ones) (defScope s_l_ones) .none kV17 dc17 pm17 an17 cd17 ct17 | 18 => PySem.W.fnOf "_law_right" "_law_right" (defArgs s_l_right) (defBody s_l_right) (defScope s_l_right) .none kV18 dc18 pm18 an18 cd18 ct18 | 19 => PySem.W.fnOf "law" "law" (defArgs s_law) (defBody s_law) (defScope s_law) .none kV19 dc19 pm19 an19 cd19 ct19 | _ => PySem.W.fnOf "law" "law" (defArgs s_law) (defBody s_law) (defScope s_law) .none kV19 dc19 pm19 an19 cd19 ct19, ⟨?_, ?_, ?_, ?_, ?_, ?_, ?_, ?_, ?_, ?_, ?_, ?_, ?_, ?_, ?_, ?_, ?_, ?_, ?_, ?_, ?_, ?_, ?_, ?_, ?_, ?_, ?_, ?_, ?_⟩, rfl, _, _, _, _, _, _, rfl⟩
  · exact (by have F := fun_mk (st := s_greatest_divisor) l1 c1 k1; exact ⟨F, F.binds (ps := ["one", "other"]) fun _ _ _ _ _ _ us hl => match us, hl with | [_, _], _ => rfl, PySem.W.mg_of X G a1⟩)
  · exact (by have F := fun_mk (st := s_fraction) l2 c2 k2; exact ⟨F, F.binds (ps := ["top", "bottom"]) fun _ _ _ _ _ _ us hl => match us, hl with | [_, _], _ => rfl, PySem.W.mg_of X G a2⟩)
  · exact (by have F := fun_mk (st := s_column_sums) l3 c3 k3; exact ⟨F, F.binds (ps := ["grid"]) fun _ _ _ _ _ _ us hl => match us, hl with | [_], _ => rfl, PySem.W.mg_of X G a3⟩)
  · exact (by have F := fun_mk (st := s_wholes_of) l4 c4 k4; exact ⟨F, F.binds (ps := ["grid", "way"]) fun _ _ _ _ _ _ us hl => match us, hl with | [_, _], _ => rfl, PySem.W.mg_of X G a4⟩)
  · exact (by have F := fun_mk (st := s_share) l5 c5 k5; exact ⟨F, F.binds (ps := ["number", "whole"]) fun _ _ _ _ _ _ us hl => match us, hl with | [_, _], _ => rfl, PySem.W.mg_of X G a5⟩)
  · exact (by have F := fun_mk (st := s_row_shares) l6 c6 k6; exact ⟨F, F.binds (ps := ["row", "wholes"]) fun _ _ _ _ _ _ us hl => match us, hl with | [_, _], _ => rfl, PySem.W.mg_of X G a6⟩)
  · exact (by have F := fun_mk (st := s_shares) l7 c7 k7; exact ⟨F, F.binds (ps := ["grid", "way"]) fun _ _ _ _ _ _ us hl => match us, hl with | [_, _], _ => rfl, PySem.W.mg_of X G a7⟩)
  · exact (by have F := fun_mk (st := s_l_draw) l9 c9 k9; exact ⟨F, F.binds (ps := ["_law_script", "_law_k", "_law_many"]) fun _ _ _ _ _ _ us hl => match us, hl with | [_, _, _], _ => rfl, PySem.W.mg_of X G a9⟩)
  · exact (by have F := fun_mk (st := s_l_cell) l10 c10 k10; exact ⟨F, F.binds (ps := ["_law_script", "_law_k"]) fun _ _ _ _ _ _ us hl => match us, hl with | [_, _], _ => rfl, PySem.W.mg_of X G a10⟩)
  · exact (by have F := fun_mk (st := s_l_divisor) l11 c11 k11; exact ⟨F, F.binds (ps := ["_law_one", "_law_other"]) fun _ _ _ _ _ _ us hl => match us, hl with | [_, _], _ => rfl, PySem.W.mg_of X G a11⟩)
  · exact (by have F := fun_mk (st := s_l_number) l12 c12 k12; exact ⟨F, F.binds (ps := ["_law_script", "_law_k", "_law_unit"]) fun _ _ _ _ _ _ us hl => match us, hl with | [_, _, _], _ => rfl, PySem.W.mg_of X G a12⟩)
  · exact (by have F := fun_mk (st := s_l_grid) l13 c13 k13; exact ⟨F, F.binds (ps := ["_law_script", "_law_rows", "_law_columns"]) fun _ _ _ _ _ _ us hl => match us, hl with | [_, _, _], _ => rfl, PySem.W.mg_of X G a13⟩)
  · exact (by have F := fun_mk (st := s_l_whole_of) l14 c14 k14; exact ⟨F, F.binds (ps := ["_law_grid_here", "_law_way", "_law_row", "_law_column"]) fun _ _ _ _ _ _ us hl => match us, hl with | [_, _, _, _], _ => rfl, PySem.W.mg_of X G a14⟩)
  · exact (by have F := fun_mk (st := s_l_is_share) l15 c15 k15; exact ⟨F, F.binds (ps := ["_law_found", "_law_number_here", "_law_whole"]) fun _ _ _ _ _ _ us hl => match us, hl with | [_, _, _], _ => rfl, PySem.W.mg_of X G a15⟩)
  · exact (by have F := fun_mk (st := s_l_come_to_one) l16 c16 k16; exact ⟨F, F.binds (ps := ["_law_some", "_law_whole"]) fun _ _ _ _ _ _ us hl => match us, hl with | [_, _], _ => rfl, PySem.W.mg_of X G a16⟩)
  · exact (by have F := fun_mk (st := s_l_ones) l17 c17 k17; exact ⟨F, F.binds (ps := ["_law_grid_here", "_law_way", "_law_told"]) fun _ _ _ _ _ _ us hl => match us, hl with | [_, _, _], _ => rfl, PySem.W.mg_of X G a17⟩)
  · exact (by have F := fun_mk (st := s_l_right) l18 c18 k18; exact ⟨F, F.binds (ps := ["_law_grid_here", "_law_way", "_law_told"]) fun _ _ _ _ _ _ us hl => match us, hl with | [_, _, _], _ => rfl, PySem.W.mg_of X G a18⟩)
  · exact (by have F := fun_mk (st := s_law) l19 c19 k19; exact ⟨F, F.binds (ps := ["_law_script"]) fun _ _ _ _ _ _ us hl => match us, hl with | [_], _ => rfl, PySem.W.mg_of X G a19⟩)
  · exact (PySem.W.mg_none_of X G z_abs)
  · exact (PySem.W.mg_none_of X G z_all)
  · exact (PySem.W.mg_none_of X G z_bool)
  · exact (PySem.W.mg_none_of X G z_int)
  · exact (PySem.W.mg_none_of X G z_isinstance)
  · exact (PySem.W.mg_none_of X G z_len)
  · exact (PySem.W.mg_none_of X G z_list)
  · exact (PySem.W.mg_none_of X G z_range)
  · exact (PySem.W.mg_none_of X G z_sum)
  · exact (PySem.W.mg_none_of X G z_tuple)
  · exact (PySem.W.mg_none_of X G z_zip)
local macro_rules | `(tactic| walk_at "dc") => `(tactic| ((try dsimp only [cxOf, L2.Cx.inTry, L2.Cx.inHand]); simp only [L2.start, tSeq, tNext, tIfS, tRet, tRetN, tAsg, tDrop, gName, tVar, tC, tOp, tUn, tCall, tCB, tCons, tNil, tTest, tB, tNot, tAnd, tOr, tAndV, tOrV, tNotV, tIf, tChain, tLst, tTup, tBM, tBM0, rI, rI0, rU, rEq, rNe, scal, tComp, iStr, iList, iTup, iRng1, iRng2, tYes, rIsP, rAll, rLenS, rLenV, rListOf, rTupleOf, tDisp, tPairs, tSl, tPart, tNoPart, rSlS, rSlL, rFind, rStarts, rIntT, rStrA, rRepS, tCallX, tRaise, tRaiseI, tTry, tAs, offE, tXF, sXset, tMethX, tMakeX, rIsX, tFld, sFld, tMeth, rSortD, rDPop, tDNewK, tDIn, tDNotIn, tDGet, sDPut, rIndexS, tStop, tAugS, ipI, iZip, gSub, 
  List.map_cons, List.map_nil, List.cons_append, List.nil_append, List.length_cons, List.length_nil, List.getElem?_cons_zero, List.getElem?_cons_succ, Option.some.injEq, exists_eq_left', exists_eq_left, List.set_cons_zero, List.set_cons_succ, List.cons.injEq, and_true, true_and, V.int.injEq, V.str.injEq, V.bl.injEq, V.ref.injEq, V.ty.injEq, exists_and_left, exists_and_right, List.append_nil, reduceCtorEq, false_and, and_false, exists_false, or_false, false_or, decide_true, decide_false, Bool.not_true, Bool.not_false, if_true, if_false, Bool.false_eq_true, ite_true, ite_false, and_assoc, Nat.reduceAdd, Nat.reduceSub, List.replicate_succ, List.replicate_zero, Nat.zero_add, Nat.add_zero, Nat.sub_self]))
local macro_rules | `(tactic| walk_at "dl") => `(tactic| ((try dsimp only [cxOf, L2.Cx.inTry, L2.Cx.inHand]); simp only [L2.start, tSeq, tNext, tIfS, tRet, tRetN, tAsg, tDrop, gName, tVar, tC, tOp, tUn, tCall, tCB, tCons, tNil, tTest, tB, tNot, tAnd, tOr, tAndV, tOrV, tNotV, tIf, tChain, tLst, tTup, tBM, tBM0, rI, rI0, rU, rEq, rNe, scal, tComp, iStr, iList, iTup, iRng1, iRng2, tYes, rIsP, rAll, rLenS, rLenV, rListOf, rTupleOf, tDisp, tPairs, tSl, tPart, tNoPart, rSlS, rSlL, rFind, rStarts, rIntT, rStrA, rRepS, tCallX, tRaise, tRaiseI, tTry, tAs, offE, tXF, sXset, tMethX, tMakeX, rIsX, tFld, sFld, tMeth, rSortD, rDPop, tDNewK, tDIn, tDNotIn, tDGet, sDPut, rIndexS, tStop, tAugS, ipI, iZip, gSub, tAug, iEnum, tMake, tDisp, tPairs, tBreak, tPar, 
  List.map_cons, List.map_nil, List.cons_append, List.nil_append, List.length_cons, List.length_nil, List.getElem?_cons_zero, List.getElem?_cons_succ, Option.some.injEq, exists_eq_left', exists_eq_left, List.set_cons_zero, List.set_cons_succ, List.cons.injEq, and_true, true_and, V.int.injEq, V.str.injEq, V.bl.injEq, V.ref.injEq, V.ty.injEq, exists_and_left, exists_and_right, List.append_nil, reduceCtorEq, false_and, and_false, exists_false, or_false, false_or, decide_true, decide_false, Bool.not_true, Bool.not_false, if_true, if_false, Bool.false_eq_true, ite_true, ite_false, and_assoc, Nat.reduceAdd, Nat.reduceSub, List.replicate_succ, List.replicate_zero, Nat.zero_add, Nat.add_zero, Nat.sub_self, Int.reduceEq, Int.reduceLT, Int.reduceLE, ↓reduceIte, decide_eq_true_eq]))
local macro_rules | `(tactic| walk_at "sd") => `(tactic| repeat (refine And.intro (by first | decide | omega | exact Or.inl ⟨by omega, by omega⟩ | exact Or.inr ⟨by omega, by omega⟩ | exact ⟨by omega, by omega⟩ | exact ⟨by decide, by decide, by decide⟩) ?_))
section
variable {P : Program} {w : World} {K : PySem.W.Frag} {mg : Str → Option Value} {base : Heap} {f : Nat → Addr} {fd : Nat → FuncData}
theorem ixN_nat {n j : Nat} (h : j < n) : ixN n (j : Int) = some j := by
  unfold ixN
  rw [if_pos (by omega), if_pos (by omega), Int.toNat_natCast]
theorem getD_of {α : Type} {l : List α} {i : Nat} {x d : α} (h : l[i]? = some x) : l.getD i d = x := by rw [List.getD_eq_getElem?_getD, h]; rfl
abbrev sm (zs : List Int) : Int := zs.foldl (· + ·) 0
theorem sm_go : ∀ (zs : List Int) (a : Int), zs.foldl (· + ·) a = a + sm zs
  | [], a => by simp [sm]
  | z :: zs, a => by
    show zs.foldl (· + ·) (a + z) = a + zs.foldl (· + ·) (0 + z)
    rw [sm_go zs (a + z), sm_go zs (0 + z)]
    omega
theorem sm_cons (z : Int) (zs : List Int) : sm (z :: zs) = z + sm zs := by
  show zs.foldl (· + ·) (0 + z) = _
  rw [sm_go]
  omega
theorem sm_append : ∀ (xs ys : List Int), sm (xs ++ ys) = sm xs + sm ys
  | [], ys => by simp [sm]
  | x :: xs, ys => by rw [List.cons_append, sm_cons, sm_cons, sm_append xs ys]; omega
theorem sm_nonneg : ∀ {zs : List Int}, (∀ z ∈ zs, 0 ≤ z) → 0 ≤ sm zs
  | [], _ => by simp [sm]
  | z :: zs, h => by
    have := h z List.mem_cons_self
    have := sm_nonneg (zs := zs) fun y hy => h y (List.mem_cons_of_mem _ hy)
    rw [sm_cons]
    omega
theorem sm_mem : ∀ {zs : List Int} {x : Int}, (∀ z ∈ zs, 0 ≤ z) → x ∈ zs → x ≤ sm zs
  | z :: zs, x, h, hx => by
    have h0 := h z List.mem_cons_self
    have h1 : ∀ y ∈ zs, 0 ≤ y := fun y hy => h y (List.mem_cons_of_mem _ hy)
    have h2 := sm_nonneg h1
    rw [sm_cons]
    rcases List.mem_cons.mp hx with e | e
    · omega
    · have := sm_mem h1 e
      omega
theorem sm_le {M : Int} : ∀ {zs : List Int}, (∀ z ∈ zs, z ≤ M) → sm zs ≤ zs.length * M
  | [], _ => by simp [sm]
  | z :: zs, h => by
    have h0 := h z List.mem_cons_self
    have h1 := sm_le (zs := zs) fun y hy => h y (List.mem_cons_of_mem _ hy)
    rw [sm_cons, List.length_cons]
    have : ((zs.length + 1 : Nat) : Int) * M = zs.length * M + M := by rw [Int.natCast_add, Int.add_mul]; simp
    omega
theorem sm_mono {α : Type} {a b : α → Int} : ∀ {l : List α}, (∀ x ∈ l, a x ≤ b x) → sm (l.map a) ≤ sm (l.map b)
  | [], _ => Int.le_refl _
  | x :: l, h => by
    rw [List.map_cons, List.map_cons, sm_cons, sm_cons]
    have := h x List.mem_cons_self
    have := sm_mono (l := l) fun y hy => h y (List.mem_cons_of_mem _ hy)
    omega
def colOf (g : List (List Int)) (j : Nat) : List Int := g.map fun r => r.getD j 0
/-  what a box's number is divided by -/
def wh (way : Str) (g : List (List Int)) (i j : Nat) : Int := if way = "rows" then sm (g.getD i []) else if way = "columns" then sm (colOf g j) else sm (g.map sm)
theorem getD_le {r : List Int} (h : ∀ z ∈ r, 0 ≤ z) (j : Nat) : 0 ≤ r.getD j 0 ∧ r.getD j 0 ≤ sm r := by
  rw [List.getD_eq_getElem?_getD]
  cases e : r[j]? with
  | none => exact ⟨Int.le_refl _, sm_nonneg h⟩
  | some z =>
    have hm := List.mem_of_getElem? e
    exact ⟨h z hm, sm_mem h hm⟩
theorem tot_nn {g : List (List Int)} {R C : Nat} (ok : GOk g R C) : ∀ z ∈ g.map sm, 0 ≤ z := fun z hz => by
  obtain ⟨r, hr, rfl⟩ := List.mem_map.mp hz
  exact sm_nonneg (ok.pos r hr)
theorem wh_le {g : List (List Int)} {R C : Nat} (ok : GOk g R C) (way : Str) (i j : Nat) : 0 ≤ wh way g i j ∧ wh way g i j ≤ sm (g.map sm) := by
  have h0 := sm_nonneg (tot_nn ok)
  unfold wh
  split
  · rw [List.getD_eq_getElem?_getD]
    cases e : g[i]? with
    | none => exact ⟨by simp [sm], by simpa [sm] using h0⟩
    | some r =>
      have hr := List.mem_of_getElem? e
      exact ⟨sm_nonneg (ok.pos r hr), sm_mem (tot_nn ok) (List.mem_map_of_mem hr)⟩
  · split
    · constructor
      · exact sm_nonneg fun z hz => by
          obtain ⟨r, hr, rfl⟩ := List.mem_map.mp hz
          exact (getD_le (ok.pos r hr) j).1
      · exact sm_mono fun r hr => (getD_le (ok.pos r hr) j).2
    · exact ⟨h0, Int.le_refl _⟩
theorem gcd_step (x y : Nat) : Int.gcd (y : Int) ((x : Int) % (y : Int)) = Int.gcd (x : Int) (y : Int) := by
  rw [← Int.natCast_emod, Int.gcd_natCast_natCast, Int.gcd_natCast_natCast, Nat.gcd_comm y, ← Nat.gcd_rec, Nat.gcd_comm]
/-  a fraction told: top and bottom -/
def frT (t b : Int) : Int := t / (Int.gcd t b : Int)
def frB (t b : Int) : Int := b / (Int.gcd t b : Int)
theorem gcd_pos {t b : Int} (h : 0 < b) : 0 < (Int.gcd t b : Int) := by
  have : Int.gcd t b ≠ 0 := fun e => by
    have := (Int.gcd_eq_zero_iff.mp e).2
    omega
  omega
theorem gcd_le_b {t b : Int} (h : 0 < b) : (Int.gcd t b : Int) ≤ b := Int.le_of_dvd h (Int.gcd_dvd_right t b)
theorem frT_mul (t b : Int) : frT t b * (Int.gcd t b : Int) = t := Int.ediv_mul_cancel (Int.gcd_dvd_left t b)
theorem frB_mul (t b : Int) : frB t b * (Int.gcd t b : Int) = b := Int.ediv_mul_cancel (Int.gcd_dvd_right t b)
theorem frB_pos {t b : Int} (h : 0 < b) : 1 ≤ frB t b := by
  have h1 := frB_mul t b
  have h2 := gcd_pos (t := t) h
  by_cases c : 1 ≤ frB t b
  · exact c
  · have : frB t b * (Int.gcd t b : Int) ≤ 0 := Int.mul_nonpos_of_nonpos_of_nonneg (by omega) (by omega)
    omega
theorem frB_le {t b : Int} (h : 0 < b) : frB t b ≤ b := Int.ediv_le_self _ (by omega)
theorem fr_cross (t b : Int) : frT t b * b = t * frB t b := by
  have h1 := frT_mul t b
  have h2 := frB_mul t b
  calc frT t b * b = frT t b * (frB t b * (Int.gcd t b : Int)) := by rw [h2]
    _ = frT t b * (Int.gcd t b : Int) * frB t b := by rw [Int.mul_comm (frB t b), Int.mul_assoc]
    _ = t * frB t b := by rw [h1]
theorem fr_coprime {t b : Int} (h : 0 < b) : Int.gcd (frT t b) (frB t b) = 1 := by
  have hp := gcd_pos (t := t) h
  exact Int.gcd_ediv_gcd_ediv_gcd (by omega)
theorem frT_abs (t b : Int) (h : 0 < b) : (frT t b).natAbs ≤ t.natAbs := by
  have h1 := frT_mul t b
  have h2 := gcd_pos (t := t) h
  have h3 : (frT t b).natAbs * Int.gcd t b = t.natAbs := by
    have := congrArg Int.natAbs h1
    rwa [Int.natAbs_mul, Int.natAbs_natCast] at this
  rw [← h3]
  exact Nat.le_mul_of_pos_right _ (by omega)
def ShV (H : Hp) (x : V) (nw : Int × Int) : Prop := (nw.2 = 0 ∧ x = .non) ∨ (nw.2 ≠ 0 ∧ ∃ p, x = .ref p ∧ H p = some (.tup [.int (frT nw.1 nw.2), .int (frB nw.1 nw.2)]))
theorem ShV.mono {H H' : Hp} {x : V} {nw : Int × Int} (s : Same H H') (h : ShV H x nw) : ShV H' x nw := by
  rcases h with h | ⟨h1, p, h2, h3⟩
  · exact .inl h
  · exact .inr ⟨h1, p, h2, s _ _ h3⟩
def sp_greatest_divisor (K : PySem.W.Frag) : Sp := fun vs H Q _ => ∃ (a b : Int), vs = [.int a, .int b] ∧ 0 ≤ a ∧ 0 ≤ b ∧ Q (.int (Int.gcd a b)) H
theorem ok_greatest_divisor (T : Txt K mg f fd) : FnOk P w K mg base CX0 1 (f 1) (fd 1) ["one", "other"] (sp_greatest_divisor K) := by
  refine T.d_greatest_divisor.F.ok sc_greatest_divisor (fun vs H Q E h => ?_) (fun cdv A outer s H vs Q E hr h => ?_)
  · obtain ⟨a, b, rfl, _⟩ := h
    rfl
  · obtain ⟨a, b, rfl, ha, hb, k⟩ := h
    refine ⟨_, (pss_cons (ps_while PassesOwn.never (pt_truth (pvl 1) (fun _ => rfl))
     (pss_cons (psl 2 sc_greatest_divisor.nd (pe_op op_mod (pvl 0) (pvl 1)))
     (pss_cons (psl 0 sc_greatest_divisor.nd (pvl 1))
     (pss_one (psl 1 sc_greatest_divisor.nd (pvl 2))))))
     (pss_one (ps_ret (pvl 0)))), ?_⟩
    walk_at "dl"
    refine while_in (fun m σ H' => H' = H ∧ ∃ x : Nat, (∃ v2, σ = [some (V.int x), some (V.int m), v2]) ∧ Int.gcd (x : Int) (m : Int) = Int.gcd a b) ⟨b.toNat, rfl, a.toNat, ⟨none, by rw [Int.toNat_of_nonneg ha, Int.toNat_of_nonneg hb]⟩, by rw [Int.toNat_of_nonneg ha, Int.toNat_of_nonneg hb]⟩ ?_
    rintro y σ H' ⟨rfl, x, ⟨v2, rfl⟩, hg⟩
    by_cases hy : y = 0
    · subst hy
      walk_at "dl"
      refine ⟨false, (by show false = ((0 : Int) != 0); rfl), ?_⟩
      rw [if_neg Bool.false_ne_true]
      rw [Int.gcd_natCast_natCast, Nat.gcd_zero_right] at hg
      rw [← hg] at k
      exact k
    · walk_at "dl"
      refine ⟨true, ?_, ?_⟩
      · show true = ((y : Int) != 0)
        have : ((y : Int) != 0) = true := by simpa using hy
        exact this.symm
      rw [if_pos rfl]
      refine WGo.of ?_
      walk_at "dl"
      exact ⟨by omega, x % y, Nat.mod_lt _ (by omega), y, rfl, (Int.natCast_emod x y).symm, ⟨_, rfl⟩, by rw [Int.natCast_emod, gcd_step]; exact hg⟩
def sp_fraction (K : PySem.W.Frag) : Sp := fun vs H Q _ => ∃ (t b : Int), vs = [.int t, .int b] ∧ 0 < b ∧ b < BB ∧ ∀ p, H p = none → Q (.ref p) (upd H p (.tup [.int (frT t b), .int (frB t b)]))
theorem ok_fraction (T : Txt K mg f fd) : FnOk P w K mg base CX0 2 (f 2) (fd 2) ["top", "bottom"] (sp_fraction K) := by
  refine T.d_fraction.F.ok sc_fraction (fun vs H Q E h => ?_) (fun cdv A outer s H vs Q E hr h => ?_)
  · obtain ⟨t, b, rfl, _⟩ := h
    rfl
  · obtain ⟨t, b, rfl, hb, hB, k⟩ := h
    refine ⟨_, (pss_cons (psl 2 sc_fraction.nd (pe_defL T.d_greatest_divisor (ok_greatest_divisor T) (hr.mono (by decide)) rfl (by decide) rfl (pal rfl (pe_cB call_abs T.n_abs bt_abs rfl (by decide) (by decide) rfl (pal rfl (pvl 0) pa_nil)) (pal rfl (pvl 1) pa_nil))))
     (pss_one (ps_ret (pe_tup (pal rfl (pe_op op_fdivB (pvl 0) (pvl 2)) (pal rfl (pe_op op_fdivB (pvl 1) (pvl 2)) pa_nil)))))), ?_⟩
    walk_at "dl"
    have h1 := gcd_pos (t := t) hb
    have h2 := gcd_le_b (t := t) hb
    refine ⟨_, _, rfl, by split <;> omega, by omega, ?_⟩
    have e : Int.gcd (if t < 0 then -t else t) b = Int.gcd t b := by
      split
      · simp [Int.gcd]
      · rfl
    rw [e]
    walk_at "dl"
    exact ⟨h1, by omega, h1, by omega, small_line (by decide), k⟩
def sp_share (K : PySem.W.Frag) : Sp := fun vs H Q _ => ∃ (n b : Int), vs = [.int n, .int b] ∧ 0 ≤ b ∧ b < BB ∧ ∀ H' x, Same H H' → ShV H' x (n, b) → Q x H'
theorem ok_share (T : Txt K mg f fd) : FnOk P w K mg base CX0 3 (f 5) (fd 5) ["number", "whole"] (sp_share K) := by
  refine T.d_share.F.ok sc_share (fun vs H Q E h => ?_) (fun cdv A outer s H vs Q E hr h => ?_)
  · obtain ⟨n, b, rfl, _⟩ := h
    rfl
  · obtain ⟨n, b, rfl, hb, hB, k⟩ := h
    refine ⟨_, (pss_one (ps_ret (pe_ifExp (pt_cmpR op_eq (pvl 1) pe_int (nomark _)) pe_non (pe_defL T.d_fraction (ok_fraction T) (hr.mono (by decide)) rfl (by decide) rfl (pal rfl (pvl 0) (pal rfl (pvl 1) pa_nil)))))), ?_⟩
    walk_at "dl"
    by_cases c : b = 0
    · subst c
      walk_at "dl"
      exact k H _ (Same.refl _) (.inl ⟨rfl, rfl⟩)
    · rw [if_neg c]
      exact ⟨n, b, rfl, by omega, hB, fun p hp => k _ _ (Same.upd_new hp _) (.inr ⟨c, p, rfl, upd_same⟩)⟩
def sp_row_shares (K : PySem.W.Frag) : Sp := fun vs H Q _ => ∃ (lr lw : Addr) (ns ws : List Int), vs = [.ref lr, .ref lw] ∧ H lr = some (.lst (ns.map V.int)) ∧ H lw = some (.lst (ws.map V.int)) ∧ ns.length = ws.length ∧ ns.length ≤ 1000 ∧ (∀ z ∈ ws, 0 ≤ z ∧ z < BB) ∧
  ∀ H' p xs, Same H H' → H p = none → H' p = some (.lst xs) → All2 (ShV H') xs (ns.zip ws) → Q (.ref p) H'
theorem ok_row_shares (T : Txt K mg f fd) : FnOk P w K mg base CX0 4 (f 6) (fd 6) ["row", "wholes"] (sp_row_shares K) := by
  refine T.d_row_shares.F.ok sc_row_shares (fun vs H Q E h => ?_) (fun cdv A outer s H vs Q E hr h => ?_)
  · obtain ⟨lr, lw, ns, ws, rfl, _⟩ := h
    rfl
  · obtain ⟨lr, lw, ns, ws, rfl, hr1, hw1, hl, hn, hz, k⟩ := h
    refine ⟨_, (pss_one (ps_ret (pe_comp ["number", "whole"] ["row", "wholes"] rfl (show CompSc _ (defScope s_row_shares) ["row", "wholes"] ["row", "wholes"] from compOk_is (by decide +kernel)) (k_zip rfl rfl T.n_zip (pal rfl (pvl 0) (pal rfl (pvl 1) pa_nil)) rfl rfl) (fun _ _ _ _ _ => (pgl2 K 0 1 (show (["number", "whole", "row", "wholes"] : List Str).Nodup by decide +kernel))) (fun _ _ _ _ _ => pts_nil) (fun _ _ _ _ _ => (pe_defL T.d_share (ok_share T) (hr.mono (by decide)) rfl (by decide) rfl (pal rfl (pvl 0) (pal rfl (pvl 1) pa_nil))))))), ?_⟩
    walk_at "dl"
    refine ⟨⟨_, .of hr1⟩, ⟨_, .of hw1⟩, ?_⟩
    refine comp_zip (xs := ns.map V.int) (ys := ws.map V.int) (by rw [List.length_map]; exact small_line (by omega)) (fun i zs σ H' => (∃ v0 v1, σ = [v0, v1, some (V.ref lr), some (V.ref lw)]) ∧ Same H H' ∧ All2 (ShV H') zs ((ns.zip ws).take i)) ⟨⟨none, none, rfl⟩, Same.refl _, All2.nil⟩ (fun i zs σ H' q => ⟨⟨.of (q.2.1 _ _ hr1), .of (q.2.1 _ _ hw1)⟩, by rw [q.2.2.1, List.length_take]; omega⟩) ?_ ?_
    · rintro i x y zs σ H1 p hx hy ⟨⟨v0, v1, rfl⟩, s1, A1⟩ hp
      rw [List.getElem?_map] at hx hy
      obtain ⟨n, hn1, rfl⟩ := Option.map_eq_some_iff.mp hx
      obtain ⟨b, hb1, rfl⟩ := Option.map_eq_some_iff.mp hy
      have u2 := Same.upd_new hp (HO.tup [V.int n, V.int b])
      refine ⟨p, _, rfl, .of upd_same, rfl, ?_⟩
      simp only [gCons, gNil, gName]
      walk_at "dl"
      have hb := hz b (List.mem_of_getElem? hb1)
      refine ⟨hb.1, hb.2, fun H3 z s3 hz3 => ⟨⟨_, rfl⟩, (s1.trans u2).trans s3, ?_⟩⟩
      have e : (ns.zip ws)[i]? = some (n, b) := by rw [List.getElem?_zip_eq_some]; exact ⟨hn1, hb1⟩
      rw [List.take_succ, e]
      exact All2.snoc (A1.mono fun _ _ => ShV.mono (u2.trans s3)) hz3
    · rintro zs σ H1 ⟨⟨v0, v1, rfl⟩, s1, A1⟩ D hD
      have u2 := Same.upd_new hD (HO.lst zs)
      rw [List.take_of_length_le (by rw [List.length_zip, List.length_map, List.length_map]; omega)] at A1
      exact k _ D zs (s1.trans u2) (s1.free hD) upd_same (A1.mono fun _ _ => ShV.mono u2)
def sp_column_sums (K : PySem.W.Frag) : Sp := fun vs H Q _ => ∃ (lg : Addr) (xs : List V) (g : List (List Int)) (R C : Nat), vs = [.ref lg] ∧ H lg = some (.lst xs) ∧ GridV H xs g ∧ GOk g R C ∧ R ≤ 100 ∧ C ≤ 100 ∧
  ∀ H' p, Same H H' → H' p = some (.lst (((List.range (if R = 0 then 0 else C)).map fun j => sm (colOf g j)).map V.int)) → Q (.ref p) H'
theorem ok_column_sums (T : Txt K mg f fd) : FnOk P w K mg base CX0 1 (f 3) (fd 3) ["grid"] (sp_column_sums K) := by
  refine T.d_column_sums.F.ok sc_column_sums (fun vs H Q E h => ?_) (fun cdv A outer s H vs Q E hr h => ?_)
  · obtain ⟨lg, xs, g, R, C, rfl, _⟩ := h
    rfl
  · obtain ⟨lg, xs, g, R, C, rfl, hlg, hg, ok, hR, hC, k⟩ := h
    refine ⟨_, (pss_cons (psl 1 sc_column_sums.nd (pe_ifExp (pt_truth (pvc 0) (fun _ => rfl)) (pe_cB (k_len rfl) T.n_len bt_len rfl (by decide) (by decide) rfl (pal rfl (pe_ix (k_ixL rfl) (pvc 0) pe_int (fun _ _ => rfl)) pa_nil)) pe_int))
     (pss_one (ps_ret (pe_compC ["at"] ["grid", "width"] rfl (show CompScC _ (defScope s_column_sums) ["grid", "width"] ["grid", "width"] from compOkC_is (by decide +kernel)) (pi_range1 rfl T.n_range (pal rfl (pvl 1) pa_nil)) (fun _ _ _ _ _ => (pgc 0 (show (["at", "grid", "width"] : List Str).Nodup by decide +kernel))) (fun _ _ _ _ _ => pts_nil) (fun _ _ _ _ _ => (pe_cB (k_sumI rfl rfl) T.n_sum bt_sum rfl (by decide) (by decide) rfl (pal rfl (pe_comp ["row"] ["at", "grid", "width"] rfl (in_compC (osc := defScope s_column_sums) (N := ["at", "grid", "width"]) rfl rfl (compOk_is (by decide +kernel))) (k_piL (K := K) rfl (pvc 1)) (fun _ _ _ _ _ => (pgl 0 (show (["row", "at", "grid", "width"] : List Str).Nodup by decide +kernel))) (fun _ _ _ _ _ => pts_nil) (fun _ _ _ _ _ => (pe_ix (k_ixL rfl) (pvl 0) (pvc 1) (fun _ _ => rfl)))) pa_nil))))))), ?_⟩
    generalize hB : tRet _ = B
    walk_at "dl"
    have hgl := hg.1
    have hrl := ok.rows
    refine ⟨!xs.isEmpty, .inl ⟨xs, .of hlg, rfl⟩, ?_⟩
    have fin : ∀ n : Nat, n ≤ 100 → (n = if R = 0 then 0 else C) → B { nx := fun _ H' => Q .non H', rt := Q } [some (V.ref lg), some (V.int n)] H := by
      intro n hn en
      subst hB
      walk_at "dl"
      refine ⟨by omega, by omega, ?_⟩
      rw [Int.toNat_natCast]
      refine comp_walk walk_range (by rw [rangeV_len]; exact small_line (by omega)) (fun i zs H' => Same H H' ∧ zs = ((List.range i).map fun j => sm (colOf g j)).map V.int) ⟨Same.refl _, rfl⟩ (fun _ _ _ _ _ => trivial) (fun i zs H' q => by rw [q.2]; simp) ?_ ?_
      · rintro i x zs H1 hx ⟨s1, rfl⟩
        obtain ⟨hi, rfl⟩ := range_item hx
        have hiC : i < C := by split at en <;> omega
        walk_at "dl"
        refine ⟨⟨_, .of (s1 _ _ hlg)⟩, ?_⟩
        refine comp_walk walk_list (by rw [hgl]; exact small_line (by omega)) (fun m ys H' => Same H1 H' ∧ ys = ((g.take m).map fun r => r.getD i 0).map V.int) ⟨Same.refl _, rfl⟩ (fun _ _ _ _ q => .of (q.1 _ _ (s1 _ _ hlg))) (fun m ys H' q => by rw [q.2]; simp; omega) ?_ ?_
        · rintro m y ys H2 hy ⟨s2, rfl⟩
          obtain ⟨r, hr1, pr, rfl, hpr⟩ := All2.at hg hy
          have hrl2 := ok.cols r (List.mem_of_getElem? hr1)
          have er : r[i]? = some (r.getD i 0) := by
            have : i < r.length := by omega
            rw [List.getD_eq_getElem?_getD, List.getElem?_eq_getElem this]; rfl
          walk_at "dl"
          refine ⟨pr, _, _, V.int (r.getD i 0), rfl, rfl, .of (s2 _ _ (s1 _ _ hpr)), ?_, ⟨_, rfl⟩, s2, ?_⟩
          · rw [Int.zero_add]; exact atI_nat (by rw [List.getElem?_map, er]; rfl)
          · rw [List.take_succ, hr1, List.map_append, List.map_append]; rfl
        · rintro ys H2 ⟨s2, rfl⟩ D hD
          rw [hgl, List.take_length]
          refine ⟨D, _, rfl, .of upd_same, ⟨_, rfl⟩, (s1.trans s2).new hD _, ?_⟩
          rw [List.range_succ, List.map_append, List.map_append]
          rfl
      · rintro zs H1 ⟨s1, rfl⟩ D hD
        rw [rangeV_len, en] at *
        exact k _ D (s1.new hD _) upd_same
    cases xs with
    | nil =>
      have h0 : R = 0 := by rw [← hrl, ← hgl]; rfl
      rw [if_neg (by simp)]
      exact fin 0 (by omega) (by rw [if_pos h0])
    | cons x0 xs0 =>
      obtain ⟨r0, hr0, p0, rfl, hp0⟩ := All2.at hg (i := 0) (x := x0) rfl
      have hR0 : R ≠ 0 := by rw [← hrl, ← hgl]; simp
      have l0 := ok.cols r0 (List.mem_of_getElem? hr0)
      rw [if_pos (by simp)]
      refine ⟨lg, _, _, _, rfl, rfl, .of hlg, atI_nat (j := 0) rfl, p0, rfl, _, .inl (.of hp0), ?_⟩
      rw [List.length_map, l0]
      exact fin C hC (by rw [if_neg hR0])
/-  the wholes of all boxes -/
def whs (way : Str) (g : List (List Int)) (R C : Nat) : List (List Int) := (List.range R).map fun i => (List.range C).map fun j => wh way g i j
def Way (way : Str) : Prop := way = "rows" ∨ way = "columns" ∨ way = "all"
theorem wh_rows (g : List (List Int)) (i j : Nat) : wh "rows" g i j = sm (g.getD i []) := by unfold wh; rw [if_pos rfl]
theorem wh_cols (g : List (List Int)) (i j : Nat) : wh "columns" g i j = sm (colOf g j) := by unfold wh; rw [if_neg (by decide), if_pos rfl]
theorem wh_all (g : List (List Int)) (i j : Nat) : wh "all" g i j = sm (g.map sm) := by unfold wh; rw [if_neg (by decide), if_neg (by decide)]
theorem rep_one (n : Nat) (z : Int) : (List.replicate n [V.int z]).flatten = ((List.range n).map fun _ => z).map V.int := by
  induction n with
  | zero => rfl
  | succ n ih =>
    rw [List.replicate_succ', List.flatten_append, ih, List.range_succ, List.map_append, List.map_append]
    rfl
def sp_wholes_of (K : PySem.W.Frag) : Sp := fun vs H Q _ => ∃ (lg : Addr) (xs : List V) (way : Str) (g : List (List Int)) (R C : Nat), vs = [.ref lg, .str way] ∧ H lg = some (.lst xs) ∧ GridV H xs g ∧ GOk g R C ∧ R ≤ 100 ∧ C ≤ 100 ∧ Way way ∧
  ∀ H' p ys, Same H H' → H' p = some (.lst ys) → GridV H' ys (whs way g R C) → Q (.ref p) H'
theorem ok_wholes_of (T : Txt K mg f fd) : FnOk P w K mg base CX0 2 (f 4) (fd 4) ["grid", "way"] (sp_wholes_of K) := by
  refine T.d_wholes_of.F.ok sc_wholes_of (fun vs H Q E h => ?_) (fun cdv A outer s H vs Q E hr h => ?_)
  · obtain ⟨lg, xs, way, g, R, C, rfl, _⟩ := h
    rfl
  · obtain ⟨lg, xs, way, g, R, C, rfl, hlg, hg, ok, hR, hC, hw, k⟩ := h
    refine ⟨_, (pss_cons (psc 2 sc_wholes_of.nd (pe_comp ["row"] ["grid", "way", "row_sums", "sums"] rfl (show CompSc _ (defScope s_wholes_of) ["grid", "way", "row_sums", "sums"] ["grid", "way", "row_sums", "sums"] from compOk_is (by decide +kernel)) (k_piL rfl (pvl 0)) (fun _ _ _ _ _ => (pgl 0 (show (["row", "grid", "way", "row_sums", "sums"] : List Str).Nodup by decide +kernel))) (fun _ _ _ _ _ => pts_nil) (fun _ _ _ _ _ => (pe_cB (k_sumI rfl rfl) T.n_sum bt_sum rfl (by decide) (by decide) rfl (pal rfl (pvl 0) pa_nil)))))
     (pss_cons (ps_if (pt_cmpR op_eq (pvl 1) pe_str (nomark _))
     (pss_one (ps_ret (pe_comp ["row", "number"] ["grid", "way", "row_sums", "sums"] rfl (show CompSc _ (defScope s_wholes_of) ["grid", "way", "row_sums", "sums"] ["grid", "way", "row_sums", "sums"] from compOk_is (by decide +kernel)) (k_zip rfl rfl T.n_zip (pal rfl (pvl 0) (pal rfl (pvc 2) pa_nil)) rfl rfl) (fun _ _ _ _ _ => (pgl2 K 0 1 (show (["row", "number", "grid", "way", "row_sums", "sums"] : List Str).Nodup by decide +kernel))) (fun _ _ _ _ _ => pts_nil) (fun _ _ _ _ _ => (pe_op op_rep (pe_lst (pal rfl (pvl 1) pa_nil)) (pe_cB (k_len rfl) T.n_len bt_len rfl (by decide) (by decide) rfl (pal rfl (pvl 0) pa_nil)))))))
     pss_nil)
     (pss_cons (ps_if (pt_cmpR op_eq (pvl 1) pe_str (nomark _))
     (pss_cons (psc 3 sc_wholes_of.nd (pe_defL T.d_column_sums (ok_column_sums T) (hr.mono (by decide)) rfl (by decide) rfl (pal rfl (pvl 0) pa_nil)))
     (pss_one (ps_ret (pe_comp ["row"] ["grid", "way", "row_sums", "sums"] rfl (show CompSc _ (defScope s_wholes_of) ["grid", "way", "row_sums", "sums"] ["grid", "way", "row_sums", "sums"] from compOk_is (by decide +kernel)) (k_piL rfl (pvl 0)) (fun _ _ _ _ _ => (pgl 0 (show (["row", "grid", "way", "row_sums", "sums"] : List Str).Nodup by decide +kernel))) (fun _ _ _ _ _ => pts_nil) (fun _ _ _ _ _ => (pvc 4))))))
     pss_nil)
     (pss_one (ps_ret (pe_comp ["row"] ["grid", "way", "row_sums", "sums"] rfl (show CompSc _ (defScope s_wholes_of) ["grid", "way", "row_sums", "sums"] ["grid", "way", "row_sums", "sums"] from compOk_is (by decide +kernel)) (k_piL rfl (pvl 0)) (fun _ _ _ _ _ => (pgl 0 (show (["row", "grid", "way", "row_sums", "sums"] : List Str).Nodup by decide +kernel))) (fun _ _ _ _ _ => pts_nil) (fun _ _ _ _ _ => (pe_op op_rep (pe_lst (pal rfl (pe_cB (k_sumI rfl rfl) T.n_sum bt_sum rfl (by decide) (by decide) rfl (pal rfl (pvc 3) pa_nil)) pa_nil)) (pe_cB (k_len rfl) T.n_len bt_len rfl (by decide) (by decide) rfl (pal rfl (pvl 0) pa_nil)))))))))), ?_⟩
    generalize hB : tSeq (tIfS _ _ _) _ = B
    walk_at "dl"
    have hgl := hg.1
    have hrl := ok.rows
    refine ⟨⟨_, .of hlg⟩, ?_⟩
    refine comp_walk walk_list (by rw [hgl]; exact small_line (by omega)) (fun m ys H' => Same H H' ∧ ys = ((g.take m).map sm).map V.int) ⟨Same.refl _, rfl⟩ (fun _ _ _ _ q => .of (q.1 _ _ hlg)) (fun m ys H' q => by rw [q.2]; simp; omega) ?_ ?_
    · rintro m y ys H2 hy ⟨s2, rfl⟩
      obtain ⟨r, hr1, pr, rfl, hpr⟩ := All2.at hg hy
      walk_at "dl"
      refine ⟨pr, r, rfl, .of (s2 _ _ hpr), ⟨_, rfl⟩, s2, ?_⟩
      rw [List.take_succ, hr1, List.map_append, List.map_append]; rfl
    rintro ys H1 ⟨s1, rfl⟩ ls hls
    rw [hgl, List.take_length]
    have s2 := s1.new hls (HO.lst ((g.map sm).map V.int))
    have g2 : upd H1 ls (HO.lst ((g.map sm).map V.int)) ls = some (.lst ((g.map sm).map V.int)) := upd_same
    generalize upd H1 ls (HO.lst ((g.map sm).map V.int)) = H2 at *
    subst hB
    have hlg2 := s2 _ _ hlg
    have hg2 := hg.mono s2
    have rowsE : ∀ (m : Nat) (r : List Int), g[m]? = some r → (whs way g R C)[m]? = some ((List.range C).map fun j => wh way g m j) := fun m r hm => by
      have : m < R := by rw [← hrl]; exact (List.getElem?_eq_some_iff.mp hm).1
      unfold whs
      rw [List.getElem?_map, List.getElem?_range this]; rfl
    have hwl : (whs way g R C).length = g.length := by unfold whs; rw [List.length_map, List.length_range, hrl]
    rcases hw with rfl | rfl | rfl
    · walk_at "dl"
      refine ⟨⟨_, .of hlg2⟩, ⟨_, .of g2⟩, ?_⟩
      refine comp_zip (xs := xs) (ys := (g.map sm).map V.int) (by rw [hgl]; exact small_line (by omega)) (fun i zs σ H' => (∃ v0 v1, σ = [v0, v1, some (V.ref lg), some (V.str "rows"), some (V.ref ls), none]) ∧ Same H2 H' ∧ GridV H' zs ((whs "rows" g R C).take i)) ⟨⟨none, none, rfl⟩, Same.refl _, All2.nil⟩ (fun i zs σ H' q => ⟨⟨.of (q.2.1 _ _ hlg2), .of (q.2.1 _ _ g2)⟩, by rw [q.2.2.1, List.length_take]; omega⟩) ?_ ?_
      · rintro i x y zs σ H3 p hx hy ⟨⟨v0, v1, rfl⟩, s3, A3⟩ hp
        obtain ⟨r, hr1, pr, rfl, hpr⟩ := All2.at hg2 hx
        rw [List.getElem?_map, List.getElem?_map, hr1] at hy
        cases hy
        have hrc := ok.cols r (List.mem_of_getElem? hr1)
        have u4 := Same.upd_new hp (HO.tup [V.ref pr, V.int (sm r)])
        refine ⟨p, _, rfl, .of upd_same, rfl, ?_⟩
        simp only [gCons, gNil, gName]
        have hpr4 := (s3.trans u4) _ _ hpr
        have s4 := s3.trans u4
        have A4 := A3.mono u4
        clear u4
        generalize upd H3 p _ = H4 at *
        walk_at "dl"
        refine ⟨small_line (by decide), fun q hq => ?_⟩
        have u5 := Same.upd_new hq (HO.lst [V.int (sm r)])
        refine ⟨_, .inl (.of (u5 _ _ hpr4)), q, _, _, rfl, rfl, upd_same, ?_⟩
        rw [List.length_map, hrc]
        refine ⟨by omega, by omega, by rw [Int.toNat_natCast]; exact small_line (by simp; omega), fun p6 hp6 => ⟨⟨_, rfl⟩, (s4.trans u5).new hp6 _, ?_⟩⟩
        rw [List.take_succ, rowsE i r hr1]
        refine All2.snoc ((A4.mono u5).mono (Same.upd_new hp6 _)) ⟨p6, rfl, ?_⟩
        rw [upd_same, Int.toNat_natCast, rep_one]
        congr 4
        funext j
        rw [wh_rows, getD_of hr1]
      · rintro zs σ H3 ⟨⟨v0, v1, rfl⟩, s3, A3⟩ D hD
        rw [List.take_of_length_le (by rw [hwl, List.length_map, List.length_map]; omega)] at A3
        exact k _ D zs ((s2.trans s3).new hD _) upd_same (A3.mono (Same.upd_new hD _))
    · walk_at "dl"
      refine ⟨lg, xs, g, R, C, rfl, hlg2, hg2, ok, hR, hC, fun H3 lc s3 hlc => ⟨⟨_, .of (s3 _ _ hlg2)⟩, ?_⟩⟩
      refine comp_walk walk_list (by rw [hgl]; exact small_line (by omega)) (fun m ys H' => Same H3 H' ∧ GridV H' ys ((whs "columns" g R C).take m)) ⟨Same.refl _, All2.nil⟩ (fun _ _ _ _ q => .of (q.1 _ _ (s3 _ _ hlg2))) (fun m ys H' q => by rw [q.2.1, List.length_take]; omega) ?_ ?_
      · rintro m y ys H4 hy ⟨s4, A4⟩
        obtain ⟨r, hr1, pr, rfl, hpr⟩ := All2.at hg2 hy
        walk_at "dl"
        refine ⟨⟨_, rfl⟩, s4, ?_⟩
        rw [List.take_succ, rowsE m r hr1]
        refine All2.snoc A4 ⟨lc, rfl, ?_⟩
        have hR0 : R ≠ 0 := by have := (List.getElem?_eq_some_iff.mp hr1).1; omega
        rw [s4 _ _ hlc, if_neg hR0]
        congr 4
      · rintro ys H4 ⟨s4, A4⟩ D hD
        rw [List.take_of_length_le (by rw [hwl]; omega)] at A4
        exact k _ D ys (((s2.trans s3).trans s4).new hD _) upd_same (A4.mono (Same.upd_new hD _))
    · walk_at "dl"
      refine ⟨⟨_, .of hlg2⟩, ?_⟩
      refine comp_walk walk_list (by rw [hgl]; exact small_line (by omega)) (fun m ys H' => Same H2 H' ∧ GridV H' ys ((whs "all" g R C).take m)) ⟨Same.refl _, All2.nil⟩ (fun _ _ _ _ q => .of (q.1 _ _ hlg2)) (fun m ys H' q => by rw [q.2.1, List.length_take]; omega) ?_ ?_
      · rintro m y ys H4 hy ⟨s4, A4⟩
        obtain ⟨r, hr1, pr, rfl, hpr⟩ := All2.at hg2 hy
        have hrc := ok.cols r (List.mem_of_getElem? hr1)
        walk_at "dl"
        refine ⟨ls, _, rfl, .of (s4 _ _ g2), small_line (by decide), fun q hq => ?_⟩
        have u5 := Same.upd_new hq (HO.lst [V.int (sm (g.map sm))])
        refine ⟨_, .inl (.of (u5 _ _ (s4 _ _ hpr))), q, _, _, rfl, rfl, upd_same, ?_⟩
        rw [List.length_map, hrc]
        refine ⟨by omega, by omega, by rw [Int.toNat_natCast]; exact small_line (by simp; omega), fun p6 hp6 => ⟨⟨_, rfl⟩, (s4.trans u5).new hp6 _, ?_⟩⟩
        rw [List.take_succ, rowsE m r hr1]
        refine All2.snoc ((A4.mono u5).mono (Same.upd_new hp6 _)) ⟨p6, rfl, ?_⟩
        rw [upd_same, Int.toNat_natCast, rep_one]
        congr 4
      · rintro ys H4 ⟨s4, A4⟩ D hD
        rw [List.take_of_length_le (by rw [hwl]; omega)] at A4
        exact k _ D ys ((s2.trans s4).new hD _) upd_same (A4.mono (Same.upd_new hD _))
theorem ints_reps {K : PySem.W.Frag} {H : Hp} : ∀ zs : List Int, Reps K H (zs.map .int) (zs.map V.int) ∧ PyData.canLayAll0 (zs.map .int) = true ∧ PyData.depthAll (zs.map .int) = 0
  | [] => by simp [Reps, PyData.canLayAll0, PyData.depthAll]
  | z :: zs => by
    obtain ⟨h1, h2, h3⟩ := ints_reps (K := K) (H := H) zs
    refine ⟨?_, ?_, ?_⟩
    · simp only [List.map_cons, Reps]
      exact ⟨_, _, rfl, by simp [Rep], h1⟩
    · simp [PyData.canLayAll0, PyData.canLay0, h2]
    · simp [PyData.depthAll, PyData.depth, h3]
/-  a grid as data -/
def gridD (g : List (List Int)) : List PyData := g.map fun r => .list (r.map .int)
theorem ints_eqv : ∀ a b : List Int, PyData.eqvAll (a.map .int) (b.map .int) = decide (a = b)
  | [], [] => by simp [PyData.eqvAll]
  | [], _ :: _ => by simp [PyData.eqvAll]
  | _ :: _, [] => by simp [PyData.eqvAll]
  | x :: a, y :: b => by
    simp only [List.map_cons, PyData.eqvAll, ints_eqv a b]
    by_cases e : x = y <;> simp [PyData.eqv, e]
theorem grid_reps {H : Hp} : ∀ {xs : List V} {g : List (List Int)}, GridV H xs g → Reps K H (gridD g) xs ∧ PyData.canLayAll0 (gridD g) = true ∧ PyData.depthAll (gridD g) ≤ 1 ∧ PyData.eqvAll (gridD g) (gridD g) = true
  | [], [], _ => by simp [gridD, Reps, PyData.canLayAll0, PyData.depthAll, PyData.eqvAll]
  | [], _ :: _, h => by have := h.1; simp at this
  | _ :: _, [], h => by have := h.1; simp at this
  | x :: xs, r :: g, h => by
    obtain ⟨⟨p, rfl, hp⟩, h2⟩ := All2.tail h
    obtain ⟨r1, r2, r3, r4⟩ := grid_reps h2
    obtain ⟨i1, i2, i3⟩ := ints_reps (K := K) (H := H) r
    unfold gridD at *
    refine ⟨?_, ?_, ?_, ?_⟩
    · rw [List.map_cons, Reps]
      exact ⟨_, _, rfl, by rw [Rep]; exact ⟨p, _, rfl, .of hp, i1⟩, r1⟩
    · simp only [List.map_cons, PyData.canLayAll0, PyData.canLay0, i2, r2, Bool.and_self]
    · simp only [List.map_cons, PyData.depthAll, PyData.depth, i3]
      omega
    · rw [List.map_cons, PyData.eqvAll, PyData.eqv, ints_eqv, r4]
      simp
theorem row_is {g : List (List Int)} {R C : Nat} (ok : GOk g R C) {i : Nat} {r : List Int} (hi : g[i]? = some r) : r = (List.range C).map fun j => gAt g (i, j) := by
  have hc := ok.cols r (List.mem_of_getElem? hi)
  refine List.ext_getElem (by rw [List.length_map, List.length_range, hc]) fun j h1 h2 => ?_
  rw [List.getElem_map, List.getElem_range]
  unfold gAt
  rw [getD_of hi, List.getD_eq_getElem?_getD, List.getElem?_eq_getElem h1]
  rfl
/-  a told row: its fractions -/
def prs (way : Str) (g : List (List Int)) (C i : Nat) : List (Int × Int) := (List.range C).map fun j => (gAt g (i, j), wh way g i j)
def TRow (H0 H : Hp) (way : Str) (g : List (List Int)) (C i : Nat) (x : V) : Prop := ∃ q ys, x = .ref q ∧ H0 q = none ∧ H q = some (.lst ys) ∧ All2 (ShV H) ys (prs way g C i)
theorem TRow.mono {H0 H H' : Hp} {way : Str} {g : List (List Int)} {C i : Nat} {x : V} (s : Same H H') (h : TRow H0 H way g C i x) : TRow H0 H' way g C i x := by
  obtain ⟨q, ys, e, f, h1, h2⟩ := h
  exact ⟨q, ys, e, f, s _ _ h1, h2.mono fun _ _ => ShV.mono s⟩
def ToldV (H0 H : Hp) (way : Str) (g : List (List Int)) (R C : Nat) (xs : List V) : Prop := xs.length = R ∧ ∀ (i : Nat) x, xs[i]? = some x → TRow H0 H way g C i x
theorem ToldV.mono {H0 H H' : Hp} {way : Str} {g : List (List Int)} {R C : Nat} {xs : List V} (s : Same H H') (h : ToldV H0 H way g R C xs) : ToldV H0 H' way g R C xs := ⟨h.1, fun i x e => (h.2 i x e).mono s⟩
theorem ToldV.snoc {H0 H : Hp} {way : Str} {g : List (List Int)} {C n : Nat} {xs : List V} {x : V} (h : ToldV H0 H way g n C xs) (hx : TRow H0 H way g C n x) : ToldV H0 H way g (n + 1) C (xs ++ [x]) := by
  refine ⟨by simp [h.1], fun i y e => ?_⟩
  by_cases c : i < xs.length
  · rw [List.getElem?_append_left c] at e
    exact h.2 i y e
  · rw [List.getElem?_append_right (by omega)] at e
    have : i - xs.length = 0 := by
      have := (List.getElem?_eq_some_iff.mp e).1
      simp at this
      omega
    rw [this] at e
    simp at e
    subst e
    have : i = n := by rw [← h.1]; omega
    subst this
    exact hx
def sp_shares (K : PySem.W.Frag) : Sp := fun vs H Q _ => ∃ (lg : Addr) (xs : List V) (way : Str) (g : List (List Int)) (R C : Nat), vs = [.ref lg, .str way] ∧ H lg = some (.lst xs) ∧ GridV H xs g ∧ GOk g R C ∧ R ≤ 100 ∧ C ≤ 100 ∧ Way way ∧ sm (g.map sm) < BB ∧
  ∀ H' p ys, Same H H' → H p = none → H' p = some (.lst ys) → ToldV H H' way g R C ys → Q (.ref p) H'
theorem ok_shares (T : Txt K mg f fd) : FnOk P w K mg base CX0 5 (f 7) (fd 7) ["grid", "way"] (sp_shares K) := by
  refine T.d_shares.F.ok sc_shares (fun vs H Q E h => ?_) (fun cdv A outer s H vs Q E hr h => ?_)
  · obtain ⟨lg, xs, way, g, R, C, rfl, _⟩ := h
    rfl
  · obtain ⟨lg, xs, way, g, R, C, rfl, hlg, hg, ok, hR, hC, hw, hB, k⟩ := h
    refine ⟨_, (pss_one (ps_ret (pe_comp ["row", "wholes"] ["grid", "way"] rfl (show CompSc _ (defScope s_shares) ["grid", "way"] ["grid", "way"] from compOk_is (by decide +kernel)) (k_zip rfl rfl T.n_zip (pal rfl (pvl 0) (pal rfl (pe_defL T.d_wholes_of (ok_wholes_of T) (hr.mono (by decide)) rfl (by decide) rfl (pal rfl (pvl 0) (pal rfl (pvl 1) pa_nil))) pa_nil)) rfl rfl) (fun _ _ _ _ _ => (pgl2 K 0 1 (show (["row", "wholes", "grid", "way"] : List Str).Nodup by decide +kernel))) (fun _ _ _ _ _ => pts_nil) (fun _ _ _ _ _ => (pe_defL T.d_row_shares (ok_row_shares T) (hr.mono (by decide)) rfl (by decide) rfl (pal rfl (pvl 0) (pal rfl (pvl 1) pa_nil))))))), ?_⟩
    walk_at "dl"
    have hgl := hg.1
    have hrl := ok.rows
    refine ⟨lg, xs, way, g, R, C, rfl, hlg, hg, ok, hR, hC, hw, fun H1 lw ys s1 hlw hy => ⟨lw, rfl, ⟨_, .of (s1 _ _ hlg)⟩, ⟨_, .of hlw⟩, ?_⟩⟩
    have hyl := hy.1
    have hwl : (whs way g R C).length = R := by unfold whs; rw [List.length_map, List.length_range]
    refine comp_zip (xs := xs) (ys := ys) (by rw [hgl]; exact small_line (by omega)) (fun i zs σ H' => (∃ v0 v1, σ = [v0, v1, some (V.ref lg), some (V.str way)]) ∧ Same H1 H' ∧ ToldV H H' way g i C zs) ⟨⟨none, none, rfl⟩, Same.refl _, rfl, fun _ _ z => by simp at z⟩ (fun i zs σ H' q => ⟨⟨.of (q.2.1 _ _ (s1 _ _ hlg)), .of (q.2.1 _ _ hlw)⟩, by rw [q.2.2.1]; exact Nat.le_refl _⟩) ?_ ?_
    · rintro i x y zs σ H3 p hx hy3 ⟨⟨v0, v1, rfl⟩, s3, A3⟩ hp
      obtain ⟨r, hr1, pr, rfl, hpr⟩ := All2.at hg hx
      obtain ⟨ws, hw1, pw, rfl, hpw⟩ := All2.at hy hy3
      have hi : i < R := by rw [← hrl]; exact (List.getElem?_eq_some_iff.mp hr1).1
      have ew : ws = (List.range C).map fun j => wh way g i j := by
        unfold whs at hw1
        rw [List.getElem?_map, List.getElem?_range hi] at hw1
        exact (Option.some.inj hw1).symm
      have hrc := ok.cols r (List.mem_of_getElem? hr1)
      have u4 := Same.upd_new hp (HO.tup [V.ref pr, V.ref pw])
      refine ⟨p, _, rfl, .of upd_same, rfl, ?_⟩
      simp only [gCons, gNil, gName]
      have s4 := s3.trans u4
      have A4 := A3.mono u4
      clear u4
      generalize upd H3 p _ = H4 at *
      walk_at "dl"
      refine ⟨r, (s1.trans s4) _ _ hpr, ws, s4 _ _ hpw, by rw [hrc, ew]; simp, by omega, fun z hz => ?_, fun H5 q zs5 s5 hq hzs A5 => ⟨⟨_, rfl⟩, s4.trans s5, (A4.mono s5).snoc ⟨q, zs5, rfl, (s1.trans s4).free hq, hzs, ?_⟩⟩⟩
      · rw [ew] at hz
        obtain ⟨j, _, rfl⟩ := List.mem_map.mp hz
        have := wh_le ok way i j
        exact ⟨this.1, by omega⟩
      · have e : r.zip ws = prs way g C i := by
          rw [ew, row_is ok hr1, List.zip_map']
          rfl
        rw [← e]
        exact A5
    · rintro zs σ H3 ⟨⟨v0, v1, rfl⟩, s3, A3⟩ D hD
      have em : min xs.length ys.length = R := by omega
      rw [em] at A3
      exact k _ D zs ((s1.trans s3).new hD _) ((s1.trans s3).free hD) upd_same (A3.mono (Same.upd_new hD _))
def sp_l_draw (K : PySem.W.Frag) : Sp := fun vs H Q _ => ∃ (a : Addr) (ns : List Int) (k m : Int), vs = [.ref a, .int k, .int m] ∧ SqL K H a (ns.map V.int) ∧ 0 ≤ k ∧ k < 1000000 ∧ 0 < m ∧ ∀ v, 0 ≤ v → v < m → Q (.int v) H
theorem ok_l_draw (T : Txt K mg f fd) : FnOk P w K mg base CX0 1 (f 9) (fd 9) ["_law_script", "_law_k", "_law_many"] (sp_l_draw K) := by
  refine T.d_l_draw.F.ok sc_l_draw (fun vs H Q E h => ?_) (fun cdv A outer s H vs Q E hr h => ?_)
  · obtain ⟨a, ns, k, m, rfl, _⟩ := h
    rfl
  · obtain ⟨a, ns, i, m, rfl, hs, h0, h1, hm, k⟩ := h
    refine ⟨_, (pss_cons (ps_if (pt_cmpR op_lt (pvl 1) (pe_cB (k_len rfl) T.n_len bt_len rfl (by decide) (by decide) rfl (pal rfl (pvl 0) pa_nil)) (nomark _))
     (pss_one (ps_ret (pe_op op_mod (pe_ix (k_ixL rfl) (pvl 0) (pvl 1) (fun _ _ => rfl)) (pvl 2))))
     pss_nil)
     (pss_cons (psl 3 sc_l_draw.nd (pe_op op_add (pe_op op_mul (pvl 1) (pvl 1)) pe_int))
     (pss_cons (ps_if (pt_cmpR op_gt (pe_cB (k_len rfl) T.n_len bt_len rfl (by decide) (by decide) rfl (pal rfl (pvl 0) pa_nil)) pe_int (nomark _))
     (pss_one (psl 3 sc_l_draw.nd (pe_op op_add (pvl 3) (pe_op op_mod (pe_ix (k_ixL rfl) (pvl 0) (pe_op op_mod (pvl 1) (pe_cB (k_len rfl) T.n_len bt_len rfl (by decide) (by decide) rfl (pal rfl (pvl 0) pa_nil))) (fun _ _ => rfl)) pe_int))))
     pss_nil)
     (pss_one (ps_ret (pe_op op_mod (pe_op op_mod (pe_op op_mul (pe_op op_add (pe_op op_mod (pe_op op_mul (pvl 3) pe_int) pe_int) pe_int) pe_int) pe_int) (pvl 2))))))), ?_⟩
    walk_at "dc"
    have cm : ∀ x : Int, 0 ≤ x % m ∧ x % m < m := fun x => ⟨Int.emod_nonneg _ (by omega), Int.emod_lt_of_pos _ hm⟩
    have fin : ∀ x : Int, Q (V.int (x % m)) H := fun x => k _ (cm x).1 (cm x).2
    refine ⟨_, .inl hs, ?_⟩
    rw [List.length_map]
    by_cases c : i < (ns.length : Int)
    · rw [if_pos (decide_eq_true c)]
      obtain ⟨j, rfl⟩ : ∃ j : Nat, i = (j : Int) := ⟨i.toNat, by omega⟩
      have hj : j < ns.length := by omega
      exact ⟨a, _, _, .int ns[j], rfl, rfl, hs, atI_nat (by rw [List.getElem?_map, List.getElem?_eq_getElem hj]; rfl), _, rfl, hm, fin _⟩
    · rw [if_neg (by simpa using c)]
      refine ⟨.inl ⟨by omega, by omega⟩, _, .inl hs, ?_⟩
      rw [List.length_map]
      have c48 : ∀ x : Int, CMul x 48271 := fun x => .inr ⟨by decide, by decide⟩
      have c40 : ∀ x : Int, CMul x 40692 := fun x => .inr ⟨by decide, by decide⟩
      by_cases c0 : (0 : Int) < (ns.length : Int)
      · rw [if_pos (decide_eq_true c0)]
        refine ⟨_, .inl hs, ?_⟩
        rw [List.length_map]
        refine ⟨c0, ?_⟩
        have b1 := Int.emod_nonneg i (show (ns.length : Int) ≠ 0 by omega)
        have b2 := Int.emod_lt_of_pos i c0
        obtain ⟨j, hj'⟩ : ∃ j : Nat, i % (ns.length : Int) = (j : Int) := ⟨(i % (ns.length : Int)).toNat, by omega⟩
        rw [hj'] at b2 ⊢
        have hj : j < ns.length := by omega
        exact ⟨a, _, _, .int ns[j], rfl, rfl, hs, atI_nat (by rw [List.getElem?_map, List.getElem?_eq_getElem hj]; rfl), _, rfl, by decide, c48 _, by decide, c40 _, by decide, hm, fin _⟩
      · rw [if_neg (by simpa using c0)]
        exact ⟨c48 _, by decide, c40 _, by decide, hm, fin _⟩
def sp_l_cell (K : PySem.W.Frag) : Sp := fun vs H Q _ => ∃ (a : Addr) (ns : List Int) (k : Int), vs = [.ref a, .int k] ∧ SqL K H a (ns.map V.int) ∧ 0 ≤ k ∧ ∀ v, Q (.int v) H
theorem ok_l_cell (T : Txt K mg f fd) : FnOk P w K mg base CX0 1 (f 10) (fd 10) ["_law_script", "_law_k"] (sp_l_cell K) := by
  refine T.d_l_cell.F.ok sc_l_cell (fun vs H Q E h => ?_) (fun cdv A outer s H vs Q E hr h => ?_)
  · obtain ⟨a, ns, k, rfl, _⟩ := h
    rfl
  · obtain ⟨a, ns, i, rfl, hs, h0, k⟩ := h
    refine ⟨_, (pss_cons (ps_if (pt_cmpR op_lt (pvl 1) (pe_cB (k_len rfl) T.n_len bt_len rfl (by decide) (by decide) rfl (pal rfl (pvl 0) pa_nil)) (nomark _))
     (pss_one (ps_ret (pe_ix (k_ixL rfl) (pvl 0) (pvl 1) (fun _ _ => rfl))))
     pss_nil)
     (pss_one (ps_ret pe_int))), ?_⟩
    walk_at "dc"
    refine ⟨_, .inl hs, ?_⟩
    rw [List.length_map]
    by_cases c : i < (ns.length : Int)
    · rw [if_pos (decide_eq_true c)]
      obtain ⟨j, rfl⟩ : ∃ j : Nat, i = (j : Int) := ⟨i.toNat, by omega⟩
      have hj : j < ns.length := by omega
      exact ⟨a, _, _, .int ns[j], rfl, rfl, hs, atI_nat (by rw [List.getElem?_map, List.getElem?_eq_getElem hj]; rfl), k _⟩
    · rw [if_neg (by simpa using c)]
      exact k _
def sp_l_divisor (K : PySem.W.Frag) : Sp := fun vs H Q _ => ∃ (a b : Int), vs = [.int a, .int b] ∧ 0 ≤ a ∧ 0 ≤ b ∧ ∀ H', Same H H' → Q (.int (Int.gcd a b)) H'
theorem ok_l_divisor (T : Txt K mg f fd) : FnOk P w K mg base CX0 1 (f 11) (fd 11) ["_law_one", "_law_other"] (sp_l_divisor K) := by
  refine T.d_l_divisor.F.ok sc_l_divisor (fun vs H Q E h => ?_) (fun cdv A outer s H vs Q E hr h => ?_)
  · obtain ⟨a, b, rfl, _⟩ := h
    rfl
  · obtain ⟨a, b, rfl, ha, hb, k⟩ := h
    refine ⟨_, (pss_cons (ps_while PassesOwn.never (pt_cmpR op_gt (pvl 1) pe_int (nomark _))
     (pss_one (ps_par (i := 0) (j := 1) rfl sc_l_divisor.nd rfl rfl (by decide) rfl rfl (pal rfl (pvl 1) (pal rfl (pe_op op_mod (pvl 0) (pvl 1)) pa_nil)) rfl)))
     (pss_one (ps_ret (pvl 0)))), ?_⟩
    walk_at "dl"
    refine while_in (fun m σ H' => Same H H' ∧ ∃ x : Nat, σ = [some (V.int x), some (V.int m)] ∧ Int.gcd (x : Int) (m : Int) = Int.gcd a b) ⟨b.toNat, Same.refl _, a.toNat, by rw [Int.toNat_of_nonneg ha, Int.toNat_of_nonneg hb], by rw [Int.toNat_of_nonneg ha, Int.toNat_of_nonneg hb]⟩ ?_
    rintro y σ H1 ⟨s1, x, rfl, hg⟩
    walk_at "dl"
    by_cases hy : y = 0
    · subst hy
      rw [if_neg (by simp)]
      rw [Int.gcd_natCast_natCast, Nat.gcd_zero_right] at hg
      rw [← hg] at k
      exact k _ s1
    · rw [if_pos (by simp; omega)]
      refine WGo.of ?_
      walk_at "dl"
      exact ⟨by omega, x % y, Nat.mod_lt _ (by omega), s1, y, rfl, (Int.natCast_emod x y).symm, by rw [Int.natCast_emod, gcd_step]; exact hg⟩
def sp_l_number (K : PySem.W.Frag) : Sp := fun vs H Q _ => ∃ (a : Addr) (ns : List Int) (k u : Int), vs = [.ref a, .int k, .int u] ∧ SqL K H a (ns.map V.int) ∧ 0 ≤ k ∧ k < 1000000 ∧ 1 ≤ u ∧ u ≤ 100 ∧ ∀ v, 0 ≤ v → v ≤ 10 ^ 58 → Q (.int v) H
theorem ok_l_number (T : Txt K mg f fd) : FnOk P w K mg base CX0 2 (f 12) (fd 12) ["_law_script", "_law_k", "_law_unit"] (sp_l_number K) := by
  refine T.d_l_number.F.ok sc_l_number (fun vs H Q E h => ?_) (fun cdv A outer s H vs Q E hr h => ?_)
  · obtain ⟨a, ns, k, u, rfl, _⟩ := h
    rfl
  · obtain ⟨a, ns, i, u, rfl, hs, h0, h1, hu, hu2, k⟩ := h
    refine ⟨_, (pss_cons (psl 3 sc_l_number.nd (pe_defL T.d_l_draw (ok_l_draw T) (hr.mono (by decide)) rfl (by decide) rfl (pal rfl (pvl 0) (pal rfl (pvl 1) (pal rfl pe_int pa_nil)))))
     (pss_cons (ps_if (pt_cmpR op_eq (pvl 3) pe_int (nomark _))
     (pss_one (ps_ret pe_int))
     pss_nil)
     (pss_cons (ps_if (pt_cmpR op_eq (pvl 3) pe_int (nomark _))
     (pss_one (ps_ret (pe_op op_mod (pe_defL T.d_l_cell (ok_l_cell T) (hr.mono (by decide)) rfl (by decide) rfl (pal rfl (pvl 0) (pal rfl (pvl 1) pa_nil))) (pe_op op_pow pe_int pe_int))))
     pss_nil)
     (pss_one (ps_ret (pe_op op_mul (pe_op op_fdiv (pe_defL T.d_l_draw (ok_l_draw T) (hr.mono (by decide)) rfl (by decide) rfl (pal rfl (pvl 0) (pal rfl (pvl 1) (pal rfl pe_int pa_nil)))) pe_int) (pvl 2))))))), ?_⟩
    walk_at "dl"
    refine ⟨a, ns, _, _, rfl, hs, h0, h1, by omega, fun d d1 d2 => ?_⟩
    by_cases c0 : d = 0
    · subst c0
      walk_at "dl"
      exact k 0 (by omega) (by decide)
    walk_at "dl"
    rw [if_neg c0]
    by_cases c4 : d = 4
    · subst c4
      walk_at "dl"
      refine ⟨a, ns, _, rfl, hs, h0, fun v => ?_⟩
      have e : (Int.toNat 58) = 58 := rfl
      dsimp only
      rw [e]
      have hp : (0 : Int) < 10 ^ 58 := by decide
      have m1 := Int.emod_nonneg v (Int.ne_of_gt hp)
      have m2 := Int.emod_lt_of_pos v hp
      generalize (10 : Int) ^ 58 = N at *
      exact ⟨⟨by decide, by decide, by decide⟩, v, rfl, hp, k _ m1 (Int.le_of_lt m2)⟩
    rw [if_neg c4]
    refine ⟨a, ns, _, _, rfl, hs, h0, h1, by omega, fun e e1 e2 => ?_⟩
    have hp : (10000 : Int) < 10 ^ 58 := by decide
    have h5 : 0 ≤ e / 5 ∧ e / 5 ≤ 20 := ⟨by omega, by omega⟩
    have q1 : 0 ≤ e / 5 * u := Int.mul_nonneg h5.1 (by omega)
    have q2 : e / 5 * u ≤ 20 * 100 := Int.mul_le_mul h5.2 hu2 (by omega) (by omega)
    exact ⟨e, rfl, ⟨by decide, by decide⟩, .inl ⟨by omega, by omega⟩, k _ q1 (by omega)⟩
def NumOk (C : Nat) (r : List Int) : Prop := r.length = C ∧ ∀ z ∈ r, 0 ≤ z ∧ z ≤ 10 ^ 58
def RowsW (H0 H : Hp) (C : Nat) (xs : List V) : Prop := ∀ x ∈ xs, ∃ p r, x = .ref p ∧ H0 p = none ∧ H p = some (.lst (r.map V.int)) ∧ NumOk C r
theorem RowsW.mono {H0 H H' : Hp} {C : Nat} {xs : List V} (s : Same H H') (h : RowsW H0 H C xs) : RowsW H0 H' C xs := fun x hx => by
  obtain ⟨p, r, e, f, g, n⟩ := h x hx
  exact ⟨p, r, e, f, s _ _ g, n⟩
theorem RowsW.grid {H0 H : Hp} {C : Nat} : ∀ {xs : List V}, RowsW H0 H C xs → ∃ g, GridV H xs g ∧ ∀ r ∈ g, NumOk C r
  | [], _ => ⟨[], All2.nil, fun _ z => nomatch z⟩
  | x :: xs, h => by
    obtain ⟨g, h1, h2⟩ := RowsW.grid (xs := xs) fun y hy => h y (List.mem_cons_of_mem _ hy)
    obtain ⟨p, r, e, f, hp, n⟩ := h x List.mem_cons_self
    refine ⟨r :: g, All2.cons ⟨p, e, hp⟩ h1, fun r' hr' => ?_⟩
    rcases List.mem_cons.mp hr' with z | z
    · rw [z]; exact n
    · exact h2 r' z
def sp_l_grid (K : PySem.W.Frag) : Sp := fun vs H Q _ => ∃ (a : Addr) (ns : List Int) (R C : Nat), vs = [.ref a, .int R, .int C] ∧ SqL K H a (ns.map V.int) ∧ R ≤ 100 ∧ C ≤ 100 ∧
  ∀ H' p xs g, Same H H' → H' p = some (.lst xs) → GridV H' xs g → xs.length = R → (∀ r ∈ g, NumOk C r) → Q (.ref p) H'
theorem ok_l_grid (T : Txt K mg f fd) : FnOk P w K mg base CX0 3 (f 13) (fd 13) ["_law_script", "_law_rows", "_law_columns"] (sp_l_grid K) := by
  refine T.d_l_grid.F.ok sc_l_grid (fun vs H Q E h => ?_) (fun cdv A outer s H vs Q E hr h => ?_)
  · obtain ⟨a, ns, R, C, rfl, _⟩ := h
    rfl
  · obtain ⟨a, ns, R, C, rfl, hs, hR, hC, k⟩ := h
    refine ⟨_, (pss_cons (psc 3 sc_l_grid.nd (pe_op op_add pe_int (pe_defL T.d_l_draw (ok_l_draw T) (hr.mono (by decide)) rfl (by decide) rfl (pal rfl (pvc 0) (pal rfl pe_int (pal rfl pe_int pa_nil))))))
     (pss_cons (ps_compC ["_law_row"] ["_law_script", "_law_rows", "_law_columns", "_law_unit", "_law_grid_here", "_law_at", "#6"] rfl (show CompScC _ (defScope s_l_grid) ["_law_script", "_law_rows", "_law_columns", "_law_unit", "_law_grid_here", "_law_at", "_law_row"] ["_law_script", "_law_rows", "_law_columns", "_law_unit", "_law_grid_here", "_law_at", "#6"] from compOkC_is (by decide +kernel)) sc_l_grid.nd (i := 4) rfl rfl (pi_range1 rfl T.n_range (pal rfl (pvl 1) pa_nil)) (fun _ _ _ _ _ => (pgc 0 (show (["_law_row", "_law_script", "_law_rows", "_law_columns", "_law_unit", "_law_grid_here", "_law_at", "#6"] : List Str).Nodup by decide +kernel))) (fun _ _ _ _ _ => pts_nil) (fun _ _ _ _ _ => (pe_comp ["_law_column"] ["_law_row", "_law_script", "_law_rows", "_law_columns", "_law_unit", "_law_grid_here", "_law_at", "#7"] rfl (in_compC (osc := defScope s_l_grid) (N := ["_law_row", "_law_script", "_law_rows", "_law_columns", "_law_unit", "_law_grid_here", "_law_at", "#6"]) rfl rfl (compOk_is (by decide +kernel))) (pi_range1 rfl T.n_range (pal rfl (pvc 3) pa_nil)) (fun _ _ _ _ _ => (pgl 0 (show (["_law_column", "_law_row", "_law_script", "_law_rows", "_law_columns", "_law_unit", "_law_grid_here", "_law_at", "#7"] : List Str).Nodup by decide +kernel))) (fun _ _ _ _ _ => pts_nil) (fun _ _ _ _ _ => (pe_defL T.d_l_number (ok_l_number T) (hr.mono (by decide)) rfl (by decide) rfl (pal rfl (pvc 2) (pal rfl (pe_op op_add (pe_op op_add pe_int (pe_op op_mul (pvc 4) (pvc 1))) (pvl 0)) (pal rfl (pvc 5) pa_nil))))))))
     (pss_cons (ps_if (PW.pt (pw_and (pt_cmpR op_gt (pvl 1) pe_int (nomark _)) (pw_and1 (pt_cmpR op_eq (pe_defL T.d_l_draw (ok_l_draw T) (hr.mono (by decide)) rfl (by decide) rfl (pal rfl (pvc 0) (pal rfl pe_int (pal rfl pe_int pa_nil)))) pe_int (nomark _)))))
     (pss_one (ps_asg (pe_op op_rep (pe_lst (pal rfl pe_int pa_nil)) (pvc 2)) (pg_sub (pvl 4) (pe_defL T.d_l_draw (ok_l_draw T) (hr.mono (by decide)) rfl (by decide) rfl (pal rfl (pvc 0) (pal rfl pe_int (pal rfl (pvl 1) pa_nil)))) set_list)))
     pss_nil)
     (pss_cons (ps_if (PW.pt (pw_and (pt_cmpR op_gt (pvc 2) pe_int (nomark _)) (pw_and1 (pt_cmpR op_eq (pe_op op_fdiv (pe_defL T.d_l_draw (ok_l_draw T) (hr.mono (by decide)) rfl (by decide) rfl (pal rfl (pvc 0) (pal rfl pe_int (pal rfl pe_int pa_nil)))) pe_int) pe_int (nomark _)))))
     (pss_cons (psl 5 sc_l_grid.nd (pe_op op_fdiv (pe_defL T.d_l_draw (ok_l_draw T) (hr.mono (by decide)) rfl (by decide) rfl (pal rfl (pvc 0) (pal rfl pe_int (pal rfl (pe_op op_mul pe_int (pvc 2)) pa_nil)))) pe_int))
     (pss_one (ps_for PassesOwn.never rfl (k_piL rfl (pvl 4)) (pgl 6 sc_l_grid.nd)
     (pss_one (ps_asg pe_int (pg_sub (pvl 6) (pvl 5) set_list))))))
     pss_nil)
     (pss_one (ps_ret (pvl 4))))))), ?_⟩
    generalize hB : tSeq (tIfS _ _ _) (tSeq (tIfS _ _ _) _) = B
    walk_at "dl"
    refine ⟨a, ns, _, _, rfl, hs, by omega, by omega, by omega, fun d d1 d2 => ?_⟩
    walk_at "dl"
    refine ⟨by omega, by omega, ?_⟩
    rw [Int.toNat_natCast]
    refine comp_walk walk_range (by rw [rangeV_len]; exact small_line (by omega)) (fun i zs H' => Same H H' ∧ zs.length = i ∧ RowsW H H' C zs) ⟨Same.refl _, rfl, fun _ z => nomatch z⟩ (fun _ _ _ _ _ => trivial) (fun i zs H' q => by rw [q.2.1]; exact Nat.le_refl _) ?_ ?_
    · rintro i x zs H1 hx ⟨s1, l1, w1⟩
      obtain ⟨hi, rfl⟩ := range_item hx
      walk_at "dl"
      refine ⟨by omega, by omega, ?_⟩
      rw [Int.toNat_natCast]
      refine comp_walk walk_range (by rw [rangeV_len]; exact small_line (by omega)) (fun j ys H' => Same H1 H' ∧ ∃ r : List Int, ys = r.map V.int ∧ NumOk j r) ⟨Same.refl _, [], rfl, rfl, fun _ z => nomatch z⟩ (fun _ _ _ _ _ => trivial) (fun j ys H' q => by obtain ⟨_, r, rfl, h1, _⟩ := q; rw [List.length_map]; omega) ?_ ?_
      · rintro j y ys H3 hy ⟨s3, r, rfl, h1, h2⟩
        obtain ⟨hj, rfl⟩ := range_item hy
        walk_at "dl"
        have lic : C * i ≤ 100 * 100 := Nat.mul_le_mul hC (by omega)
        have eic : (C : Int) * (0 + (i : Int)) = ((C * i : Nat) : Int) := by rw [Int.zero_add]; exact (Int.natCast_mul C i).symm
        refine ⟨.inl ⟨by omega, by omega⟩, a, ns, _, _, rfl, (s1.trans s3).seq hs, by rw [eic]; omega, by rw [eic]; omega, by omega, by omega, fun v v1 v2 => ⟨⟨_, rfl⟩, s3, r ++ [v], by rw [List.map_append]; rfl, by simp [h1], fun z hz => ?_⟩⟩
        rcases List.mem_append.mp hz with e | e
        · exact h2 z e
        · rw [List.mem_singleton.mp e]; exact ⟨v1, v2⟩
      · rintro ys H3 ⟨s3, r, rfl, n3⟩ D hD
        rw [rangeV_len] at n3
        have u4 := Same.upd_new hD (HO.lst (r.map V.int))
        refine ⟨⟨_, rfl⟩, (s1.trans s3).trans u4, by simp [l1], fun z hz => ?_⟩
        rcases List.mem_append.mp hz with e | e
        · exact w1.mono (s3.trans u4) z e
        · rw [List.mem_singleton.mp e]
          exact ⟨D, r, rfl, (s1.trans s3).free hD, upd_same, n3⟩
    rintro zs H1 ⟨s1, l1, w1⟩ D hD
    rw [rangeV_len] at l1
    have u2 := Same.upd_new hD (HO.lst zs)
    have hDH := s1.free hD
    have g2 : upd H1 D (HO.lst zs) D = some (.lst zs) := upd_same
    have s2 := s1.trans u2
    have w2 := w1.mono u2
    have wD : ∀ x ∈ zs, x ≠ .ref D := fun x hx e => by
      obtain ⟨p, r, rfl, _, hp, _⟩ := w1 x hx
      cases e
      rw [hD] at hp
      cases hp
    clear u2
    generalize upd H1 D (HO.lst zs) = H2 at *
    subst hB
    generalize hB : tSeq (tIfS _ _ _) (tRet _) = B
    have mid : ∀ (H3 : Hp) (ys : List V), Same H H3 → ys.length = R → RowsW H H3 C ys → (∀ x ∈ ys, x ≠ .ref D) → H3 D = some (.lst ys) → B { nx := fun _ H' => Q .non H', rt := Q } [some (V.ref a), some (V.int R), some (V.int C), some (V.int (1 + d)), some (V.ref D), none, none] H3 := by
      intro H3 ys s3 l3 w3 n3 g3
      subst hB
      generalize hE : tRet _ = E2
      have fin : ∀ (H4 : Hp) v5 v6, Same H H4 → RowsW H H4 C ys → H4 D = some (.lst ys) → E2 { nx := fun _ H' => Q .non H', rt := Q } [some (V.ref a), some (V.int R), some (V.int C), some (V.int (1 + d)), some (V.ref D), v5, v6] H4 := by
        intro H4 v5 v6 s4 w4 g4
        subst hE
        walk_at "dl"
        obtain ⟨g, h1, h2⟩ := w4.grid
        exact k H4 D ys g s4 g4 h1 l3 h2
      clear hE
      walk_at "dl"
      by_cases c : (0 : Int) < (C : Int)
      · rw [if_pos c]
        refine ⟨a, ns, _, _, rfl, s3.seq hs, by omega, by omega, by omega, fun d3 e1 e2 => ?_⟩
        walk_at "dl"
        refine ⟨⟨by omega, by omega⟩, ?_⟩
        by_cases c3 : d3 / 3 = 0
        · rw [if_pos c3]
          refine ⟨.inl ⟨by omega, by omega⟩, a, ns, _, _, rfl, s3.seq hs, by omega, by omega, by omega, fun d4 f1 f2 => ?_⟩
          walk_at "dl"
          refine ⟨⟨by omega, by omega⟩, ?_⟩
          refine for_in ?_
          walk_at "dl"
          refine ⟨⟨_, .of g3⟩, ?_⟩
          refine ForW.of walk_list (fun i σ H' => (∃ v6, σ = [some (V.ref a), some (V.int R), some (V.int C), some (V.int (1 + d)), some (V.ref D), some (V.int (d4 / 6)), v6]) ∧ Same H H' ∧ RowsW H H' C ys ∧ H' D = some (.lst ys)) ⟨⟨none, rfl⟩, s3, w3, g3⟩ (fun i σ H' _ q => .of q.2.2.2) ?_ ?_
          · rintro i x σ H4 hx ⟨⟨v6, rfl⟩, s4, w4, g4⟩
            have hm := List.mem_of_getElem? hx
            obtain ⟨p, r, rfl, fp, hp, nr⟩ := w4 x hm
            have hpD : p ≠ D := fun e => n3 _ hm (by rw [e])
            walk_at "dl"
            obtain ⟨j, ej⟩ : ∃ j : Nat, d4 / 6 = (j : Int) := ⟨(d4 / 6).toNat, by omega⟩
            have hj : j < r.length := by rw [nr.1]; omega
            refine ⟨p, _, _, j, rfl, rfl, hp, by rw [ej]; exact ixN_nat (by rw [List.length_map]; exact hj), ⟨_, rfl⟩, s4.set fp _, fun y hy => ?_, by rw [upd_ne (Ne.symm hpD)]; exact g4⟩
            obtain ⟨q, r', rfl, fq, hq, nq⟩ := w4 y hy
            by_cases e : q = p
            · subst e
              refine ⟨q, r.set j 0, rfl, fq, by rw [upd_same, List.map_set], by rw [List.length_set]; exact nr.1, fun z hz => ?_⟩
              rcases List.mem_or_eq_of_mem_set hz with h | h
              · exact nr.2 z h
              · rw [h]; exact ⟨by decide, by decide⟩
            · exact ⟨q, r', rfl, fq, by rw [upd_ne e]; exact hq, nq⟩
          · rintro σ H4 ⟨⟨v6, rfl⟩, s4, w4, g4⟩
            exact fin H4 _ _ s4 w4 g4
        · rw [if_neg c3]
          exact fin H3 _ _ s3 w3 g3
      · rw [if_neg c]
        exact fin H3 _ _ s3 w3 g3
    clear hB
    walk_at "dl"
    by_cases c : (0 : Int) < (R : Int)
    · rw [if_pos c]
      refine ⟨a, ns, _, _, rfl, s2.seq hs, by omega, by omega, by omega, fun d3 e1 e2 => ?_⟩
      walk_at "dl"
      by_cases c3 : d3 = 0
      · rw [if_pos c3]
        refine ⟨small_line (by decide), fun p hp => ?_⟩
        have u3 := Same.upd_new hp (HO.lst [V.int 0])
        refine ⟨p, _, _, rfl, rfl, upd_same, by omega, by omega, by rw [Int.toNat_natCast]; exact small_line (by simp; omega), fun q hq => ?_⟩
        rw [Int.toNat_natCast, rep_one]
        have u4 := Same.upd_new hq (HO.lst (((List.range C).map fun _ => (0 : Int)).map V.int))
        have g4 : upd (upd H2 p (HO.lst [V.int 0])) q (HO.lst (((List.range C).map fun _ => (0 : Int)).map V.int)) q = some (.lst (((List.range C).map fun _ => (0 : Int)).map V.int)) := upd_same
        have u24 := u3.trans u4
        have s4 := s2.trans u24
        have hqH : H q = none := (s2.trans u3).free hq
        have hqD : q ≠ D := fun e => by rw [e, u3 _ _ g2] at hq; cases hq
        clear u4 u3
        generalize upd (upd H2 p (HO.lst [V.int 0])) q (HO.lst (((List.range C).map fun _ => (0 : Int)).map V.int)) = H4 at *
        refine ⟨a, ns, _, _, rfl, s4.seq hs, by omega, by omega, by omega, fun d4 f1 f2 => ?_⟩
        obtain ⟨j, rfl⟩ : ∃ j : Nat, d4 = (j : Int) := ⟨d4.toNat, by omega⟩
        refine ⟨D, _, _, j, rfl, rfl, u24 _ _ g2, ixN_nat (by omega), ?_⟩
        have u5 : ∀ b o, b ≠ D → H4 b = some o → upd H4 D (HO.lst (zs.set j (V.ref q))) b = some o := fun b o e h => by rw [upd_ne e]; exact h
        refine mid _ (zs.set j (V.ref q)) (s4.set hDH _) (by rw [List.length_set]; exact l1) (fun x hx => ?_) (fun x hx => ?_) upd_same
        · rcases List.mem_or_eq_of_mem_set hx with h | h
          · obtain ⟨p', r', rfl, f', h', n'⟩ := w2.mono u24 x h
            exact ⟨p', r', rfl, f', u5 _ _ (fun e => wD _ h (by rw [e])) h', n'⟩
          · exact ⟨q, _, h, hqH, u5 _ _ hqD g4, by rw [List.length_map, List.length_range], fun z hz => by
              obtain ⟨_, _, rfl⟩ := List.mem_map.mp hz
              exact ⟨by decide, by decide⟩⟩
        · rcases List.mem_or_eq_of_mem_set hx with h | h
          · exact wD x h
          · rw [h]
            intro e
            cases e
            exact hqD rfl
      · rw [if_neg c3]
        exact mid H2 zs s2 l1 w2 wD g2
    · rw [if_neg c]
      exact mid H2 zs s2 l1 w2 wD g2
def sp_l_whole_of (K : PySem.W.Frag) : Sp := fun vs H Q _ => ∃ (lg : Addr) (xs : List V) (way : Str) (g : List (List Int)) (R C i j : Nat), vs = [.ref lg, .str way, .int i, .int j] ∧ H lg = some (.lst xs) ∧ GridV H xs g ∧ GOk g R C ∧ R ≤ 100 ∧ Way way ∧ i < R ∧ j < C ∧
  ∀ H', Same H H' → Q (.int (wh way g i j)) H'
theorem ok_l_whole_of (T : Txt K mg f fd) : FnOk P w K mg base CX0 1 (f 14) (fd 14) ["_law_grid_here", "_law_way", "_law_row", "_law_column"] (sp_l_whole_of K) := by
  refine T.d_l_whole_of.F.ok sc_l_whole_of (fun vs H Q E h => ?_) (fun cdv A outer s H vs Q E hr h => ?_)
  · obtain ⟨lg, xs, way, g, R, C, i, j, rfl, _⟩ := h
    rfl
  · obtain ⟨lg, xs, way, g, R, C, i, j, rfl, hlg, hg, ok, hR, hw, hi, hj, k⟩ := h
    refine ⟨_, (pss_cons (ps_if (pt_cmpR op_eq (pvl 1) pe_str (nomark _))
     (pss_one (ps_ret (pe_cB (k_sumI rfl rfl) T.n_sum bt_sum rfl (by decide) (by decide) rfl (pal rfl (pe_ix (k_ixL rfl) (pvl 0) (pvl 2) (fun _ _ => rfl)) pa_nil))))
     pss_nil)
     (pss_cons (ps_if (pt_cmpR op_eq (pvl 1) pe_str (nomark _))
     (pss_one (ps_ret (pe_cB (k_sumI rfl rfl) T.n_sum bt_sum rfl (by decide) (by decide) rfl (pal rfl (pe_comp ["_law_other"] ["_law_grid_here", "_law_way", "_law_row", "_law_column"] rfl (show CompSc _ (defScope s_l_whole_of) ["_law_grid_here", "_law_way", "_law_row", "_law_column"] ["_law_grid_here", "_law_way", "_law_row", "_law_column"] from compOk_is (by decide +kernel)) (k_piL rfl (pvl 0)) (fun _ _ _ _ _ => (pgl 0 (show (["_law_other", "_law_grid_here", "_law_way", "_law_row", "_law_column"] : List Str).Nodup by decide +kernel))) (fun _ _ _ _ _ => pts_nil) (fun _ _ _ _ _ => (pe_ix (k_ixL rfl) (pvl 0) (pvc 4) (fun _ _ => rfl)))) pa_nil))))
     pss_nil)
     (pss_one (ps_ret (pe_cB (k_sumI rfl rfl) T.n_sum bt_sum rfl (by decide) (by decide) rfl (pal rfl (pe_comp ["_law_other"] ["_law_grid_here", "_law_way", "_law_row", "_law_column"] rfl (show CompSc _ (defScope s_l_whole_of) ["_law_grid_here", "_law_way", "_law_row", "_law_column"] ["_law_grid_here", "_law_way", "_law_row", "_law_column"] from compOk_is (by decide +kernel)) (k_piL rfl (pvl 0)) (fun _ _ _ _ _ => (pgl 0 (show (["_law_other", "_law_grid_here", "_law_way", "_law_row", "_law_column"] : List Str).Nodup by decide +kernel))) (fun _ _ _ _ _ => pts_nil) (fun _ _ _ _ _ => (pe_cB (k_sumI rfl rfl) T.n_sum bt_sum rfl (by decide) (by decide) rfl (pal rfl (pvl 0) pa_nil)))) pa_nil)))))), ?_⟩
    have hgl := hg.1
    have hrl := ok.rows
    rcases hw with rfl | rfl | rfl
    · walk_at "dl"
      obtain ⟨r, hr1⟩ : ∃ r, g[i]? = some r := ⟨_, List.getElem?_eq_getElem (by omega)⟩
      obtain ⟨x, hx, p, rfl, hp⟩ := All2.at' hg hr1
      refine ⟨lg, _, _, _, rfl, rfl, .of hlg, atI_nat hx, p, r, rfl, .of hp, ?_⟩
      have e := k H (Same.refl _)
      rw [wh_rows, getD_of hr1] at e
      exact e
    · walk_at "dl"
      refine ⟨⟨_, .of hlg⟩, ?_⟩
      refine comp_walk walk_list (by rw [hgl]; exact small_line (by omega)) (fun m ys H' => Same H H' ∧ ys = ((g.take m).map fun r => r.getD j 0).map V.int) ⟨Same.refl _, rfl⟩ (fun _ _ _ _ q => .of (q.1 _ _ hlg)) (fun m ys H' q => by rw [q.2]; simp; omega) ?_ ?_
      · rintro m y ys H2 hy ⟨s2, rfl⟩
        obtain ⟨r, hr1, pr, rfl, hpr⟩ := All2.at hg hy
        have hrl2 := ok.cols r (List.mem_of_getElem? hr1)
        have er : r[j]? = some (r.getD j 0) := by
          have : j < r.length := by omega
          rw [List.getD_eq_getElem?_getD, List.getElem?_eq_getElem this]; rfl
        walk_at "dl"
        refine ⟨pr, _, _, V.int (r.getD j 0), rfl, rfl, .of (s2 _ _ hpr), atI_nat (by rw [List.getElem?_map, er]; rfl), ⟨_, rfl⟩, s2, ?_⟩
        rw [List.take_succ, hr1, List.map_append, List.map_append]; rfl
      · rintro ys H2 ⟨s2, rfl⟩ D hD
        rw [hgl, List.take_length]
        refine ⟨D, _, rfl, .of upd_same, ?_⟩
        have e := k _ (s2.new hD (HO.lst ((g.map fun r => r.getD j 0).map V.int)))
        rw [wh_cols] at e
        exact e
    · walk_at "dl"
      refine ⟨⟨_, .of hlg⟩, ?_⟩
      refine comp_walk walk_list (by rw [hgl]; exact small_line (by omega)) (fun m ys H' => Same H H' ∧ ys = ((g.take m).map sm).map V.int) ⟨Same.refl _, rfl⟩ (fun _ _ _ _ q => .of (q.1 _ _ hlg)) (fun m ys H' q => by rw [q.2]; simp; omega) ?_ ?_
      · rintro m y ys H2 hy ⟨s2, rfl⟩
        obtain ⟨r, hr1, pr, rfl, hpr⟩ := All2.at hg hy
        walk_at "dl"
        refine ⟨pr, r, rfl, .of (s2 _ _ hpr), ⟨_, rfl⟩, s2, ?_⟩
        rw [List.take_succ, hr1, List.map_append, List.map_append]; rfl
      · rintro ys H2 ⟨s2, rfl⟩ D hD
        rw [hgl, List.take_length]
        refine ⟨D, _, rfl, .of upd_same, ?_⟩
        have e := k _ (s2.new hD (HO.lst ((g.map sm).map V.int)))
        rw [wh_all] at e
        exact e
theorem fr_mod {n b : Int} : b % frB n b = 0 := Int.emod_eq_zero_of_dvd ⟨(Int.gcd n b : Int), (frB_mul n b).symm⟩
theorem fr_part {n b : Int} (h : 0 < b) : frT n b * (b / frB n b) = n := by
  have h1 := frB_pos (t := n) h
  have e : b / frB n b = (Int.gcd n b : Int) := by
    have := frB_mul n b
    exact Int.ediv_eq_of_eq_mul_right (by omega) this.symm
  rw [e]
  exact frT_mul n b
def sp_l_is_share (K : PySem.W.Frag) : Sp := fun vs H Q _ => ∃ (x : V) (n b : Int), vs = [x, .int n, .int b] ∧ ShV H x (n, b) ∧ 0 ≤ b ∧ b < BB ∧ -BB < n ∧ n < BB ∧ ∀ H', Same H H' → Q (.bl true) H'
theorem ok_l_is_share (T : Txt K mg f fd) : FnOk P w K mg base CX0 2 (f 15) (fd 15) ["_law_found", "_law_number_here", "_law_whole"] (sp_l_is_share K) := by
  refine T.d_l_is_share.F.ok sc_l_is_share (fun vs H Q E h => ?_) (fun cdv A outer s H vs Q E hr h => ?_)
  · obtain ⟨x, n, b, rfl, _⟩ := h
    rfl
  · obtain ⟨x, n, b, rfl, hx, hb, hB, hn1, hn2, k⟩ := h
    refine ⟨_, (pss_cons (ps_if (pt_cmpR op_eq (pvl 2) pe_int (nomark _))
     (pss_one (ps_ret (pe_cmpR op_isN (pvl 0) pe_non (nomark _))))
     pss_nil)
     (pss_cons (ps_if (PW.pt (pw_or (pt_not (pt_val (pe_cB (k_isP rfl) T.n_isinstance bt_isinstance rfl (by decide) (by decide) rfl (pal rfl (pvl 0) (pal rfl (pty T.n_tuple bt_tuple) pa_nil))))) (pw_or1 (pt_cmpR op_ne (pe_cB (k_len rfl) T.n_len bt_len rfl (by decide) (by decide) rfl (pal rfl (pvl 0) pa_nil)) pe_int (nomark _)))))
     (pss_one (ps_ret pe_bl))
     pss_nil)
     (pss_cons (ps_for PassesOwn.never rfl (k_piT rfl (pvl 0)) (pgl 3 sc_l_is_share.nd)
     (pss_one (ps_if (PW.pt (pw_or (pt_not (pt_val (pe_cB (k_isP rfl) T.n_isinstance bt_isinstance rfl (by decide) (by decide) rfl (pal rfl (pvl 3) (pal rfl (pty T.n_int bt_int) pa_nil))))) (pw_or1 (pt_val (pe_cB (k_isP rfl) T.n_isinstance bt_isinstance rfl (by decide) (by decide) rfl (pal rfl (pvl 3) (pal rfl (pty T.n_bool bt_bool) pa_nil)))))))
     (pss_one (ps_ret pe_bl))
     pss_nil)))
     (pss_cons (ps_if (PW.pt (pw_or (pt_cmpR op_lt (pe_ix (k_ixT rfl) (pvl 0) pe_int (fun _ _ => rfl)) pe_int (nomark _)) (pw_or1 (pt_cmpR op_ne (pe_defL T.d_l_divisor (ok_l_divisor T) (hr.mono (by decide)) rfl (by decide) rfl (pal rfl (pe_cB call_abs T.n_abs bt_abs rfl (by decide) (by decide) rfl (pal rfl (pe_ix (k_ixT rfl) (pvl 0) pe_int (fun _ _ => rfl)) pa_nil)) (pal rfl (pe_ix (k_ixT rfl) (pvl 0) pe_int (fun _ _ => rfl)) pa_nil))) pe_int (nomark _)))))
     (pss_one (ps_ret pe_bl))
     pss_nil)
     (pss_one (ps_ret (pe_cmpR op_eq (pe_op op_mulB (pe_ix (k_ixT rfl) (pvl 0) pe_int (fun _ _ => rfl)) (pvl 2)) (pe_op op_mulB (pvl 1) (pe_ix (k_ixT rfl) (pvl 0) pe_int (fun _ _ => rfl))) (nomark _)))))))), ?_⟩
    rcases hx with ⟨h0, rfl⟩ | ⟨h0, p, rfl, hp⟩
    · have h0' : b = 0 := h0
      subst h0'
      walk_at "dl"
      exact k H (Same.refl _)
    · have h0' : b ≠ 0 := h0
      have hb1 : 0 < b := by omega
      have f1 := frB_pos (t := n) hb1
      have f2 := frB_le (t := n) hb1
      have f3 := frT_abs n b hb1
      have f4 := fr_coprime (t := n) hb1
      have f5 := fr_cross n b
      dsimp only at hp
      generalize frT n b = tt at *
      generalize frB n b = bb at *
      walk_at "dl"
      rw [if_neg h0']
      refine ⟨_, .of_tup hp, by decide, ?_⟩
      rw [if_neg (by decide)]
      refine ⟨_, .inr (.of hp), ?_⟩
      rw [if_neg (by simp)]
      refine for_in ?_
      walk_at "dl"
      refine ⟨⟨_, .of hp⟩, ?_⟩
      refine ForW.of walk_tup (fun i σ H' => (∃ v3, σ = [some (V.ref p), some (V.int n), some (V.int b), v3]) ∧ H' = H) ⟨⟨none, rfl⟩, rfl⟩ (fun i σ H' _ q => by rw [q.2]; exact .of hp) ?_ ?_
      · rintro i x σ H1 hxi ⟨⟨v3, rfl⟩, rfl⟩
        obtain ⟨z, rfl⟩ : ∃ z, x = V.int z := by
          have hm := List.mem_of_getElem? hxi
          rcases List.mem_cons.mp hm with e | e
          · exact ⟨_, e⟩
          · exact ⟨_, List.mem_singleton.mp e⟩
        walk_at "dl"
        refine ⟨_, .of_int, by decide, ?_⟩
        rw [if_neg (by decide)]
        refine ⟨_, .of_int, by decide, ?_⟩
        rw [if_neg (by decide)]
        exact ⟨_, rfl⟩
      · rintro σ H1 ⟨⟨v3, rfl⟩, rfl⟩
        walk_at "dl"
        refine ⟨p, _, _, _, rfl, rfl, .of hp, atI_nat (j := 1) rfl, bb, rfl, ?_⟩
        rw [if_neg (by omega)]
        refine ⟨p, _, _, _, rfl, rfl, .of hp, atI_nat (j := 0) rfl, tt, rfl, p, _, _, _, rfl, rfl, .of hp, atI_nat (j := 1) rfl, _, _, rfl, by split <;> omega, by omega, fun H2 s2 => ?_⟩
        have e : Int.gcd (if tt < 0 then -tt else tt) bb = 1 := by
          rw [← f4]
          split
          · simp [Int.gcd]
          · rfl
        rw [e]
        refine ⟨rfl, ?_⟩
        rw [if_neg (by simp)]
        have hp2 := s2 _ _ hp
        refine ⟨p, _, _, _, rfl, rfl, .of hp2, atI_nat (j := 0) rfl, tt, rfl, by omega, by omega, by omega, hB, p, _, _, _, rfl, rfl, .of hp2, atI_nat (j := 1) rfl, bb, rfl, hn1, hn2, by omega, by omega, ?_⟩
        rw [f5, decide_eq_true rfl]
        exact k _ s2
def sp_l_come_to_one (K : PySem.W.Frag) : Sp := fun vs H Q _ => ∃ (l : Addr) (xs : List V) (ns : List Int) (b : Int), vs = [.ref l, .int b] ∧ H l = some (.lst xs) ∧ All2 (ShV H) xs (ns.map fun n => (n, b)) ∧ 0 < b ∧ b < BB ∧ (∀ n ∈ ns, -BB < n ∧ n < BB) ∧ sm ns = b ∧ Q (.bl true) H
theorem ok_l_come_to_one (T : Txt K mg f fd) : FnOk P w K mg base CX0 1 (f 16) (fd 16) ["_law_some", "_law_whole"] (sp_l_come_to_one K) := by
  refine T.d_l_come_to_one.F.ok sc_l_come_to_one (fun vs H Q E h => ?_) (fun cdv A outer s H vs Q E hr h => ?_)
  · obtain ⟨l, xs, ns, b, rfl, _⟩ := h
    rfl
  · obtain ⟨l, xs, ns, b, rfl, hl, hx, hb, hB, hn, hs, k⟩ := h
    refine ⟨_, (pss_cons (psl 2 sc_l_come_to_one.nd pe_int)
     (pss_cons (ps_for PassesOwn.never rfl (k_piL rfl (pvl 0)) (pgl 3 sc_l_come_to_one.nd)
     (pss_cons (ps_if (pt_cmpR op_ne (pe_op op_mod (pvl 1) (pe_ix (k_ixT rfl) (pvl 3) pe_int (fun _ _ => rfl))) pe_int (nomark _))
     (pss_one (ps_ret pe_bl))
     pss_nil)
     (pss_one (psl 2 sc_l_come_to_one.nd (pe_op op_add (pvl 2) (pe_op op_mulB (pe_ix (k_ixT rfl) (pvl 3) pe_int (fun _ _ => rfl)) (pe_op op_fdivB (pvl 1) (pe_ix (k_ixT rfl) (pvl 3) pe_int (fun _ _ => rfl)))))))))
     (pss_one (ps_ret (pe_cmpR op_eq (pvl 2) (pvl 1) (nomark _)))))), ?_⟩
    walk_at "dl"
    refine for_in ?_
    walk_at "dl"
    refine ⟨⟨_, .of hl⟩, ?_⟩
    refine ForW.of walk_list (fun i σ H' => (∃ v3, σ = [some (V.ref l), some (V.int b), some (V.int (sm (ns.take i))), v3]) ∧ H' = H) ⟨⟨none, rfl⟩, rfl⟩ (fun i σ H' _ q => by rw [q.2]; exact .of hl) ?_ ?_
    · rintro i x σ H1 hxi ⟨⟨v3, rfl⟩, rfl⟩
      obtain ⟨nb, hnb, hsh⟩ := All2.at hx hxi
      rw [List.getElem?_map] at hnb
      obtain ⟨n, hni, rfl⟩ := Option.map_eq_some_iff.mp hnb
      have hnm := hn n (List.mem_of_getElem? hni)
      rcases hsh with ⟨z, _⟩ | ⟨_, p, rfl, hp⟩
      · have z' : b = 0 := z
        omega
      dsimp only at hp
      have f1 := frB_pos (t := n) hb
      have f2 := frB_le (t := n) hb
      have f3 := frT_abs n b hb
      have f4 := fr_mod (n := n) (b := b)
      have f5 := fr_part (n := n) hb
      have f6 : 0 ≤ b / frB n b := Int.ediv_nonneg (by omega) (by omega)
      have f7 : b / frB n b ≤ b := Int.ediv_le_self _ (by omega)
      generalize frT n b = tt at *
      generalize frB n b = bb at *
      generalize hq : b / bb = qq at *
      walk_at "dl"
      refine ⟨p, _, _, _, rfl, rfl, .of hp, atI_nat (j := 1) rfl, bb, rfl, by omega, ?_⟩
      rw [f4]
      walk_at "dl"
      refine ⟨p, _, _, _, rfl, rfl, .of hp, atI_nat (j := 0) rfl, p, _, _, _, rfl, rfl, .of hp, atI_nat (j := 1) rfl, bb, rfl, by omega, by omega, tt, rfl, by omega, by omega, by rw [hq]; omega, by rw [hq]; omega, ?_, ⟨_, rfl⟩, rfl⟩
      rw [hq, f5, List.take_succ, hni, sm_append]
      show _ = _ + (0 + n)
      omega
    · rintro σ H1 ⟨⟨v3, rfl⟩, rfl⟩
      have e : (ns.take xs.length) = ns := List.take_of_length_le (by rw [hx.1, List.length_map]; exact Nat.le_refl _)
      rw [e]
      walk_at "dl"
      rw [hs]
      walk_at "dl"
      exact k
theorem prs_of {way : Str} {g : List (List Int)} {R C : Nat} (ok : GOk g R C) {i : Nat} {r : List Int} (hi : g[i]? = some r) {b : Int} (h : ∀ j, wh way g i j = b) : prs way g C i = r.map fun n => (n, b) := by
  unfold prs
  rw [show r.map (fun n => (n, b)) = ((List.range C).map fun j => gAt g (i, j)).map fun n => (n, b) from congrArg (List.map _) (row_is ok hi), List.map_map]
  refine List.map_congr_left fun j _ => ?_
  show _ = (gAt g (i, j), b)
  rw [h]
theorem sm_flat : ∀ g : List (List Int), sm g.flatten = sm (g.map sm)
  | [] => rfl
  | r :: g => by rw [List.flatten_cons, sm_append, List.map_cons, sm_cons, sm_flat g]
theorem flat_len {C : Nat} : ∀ {g : List (List Int)}, (∀ r ∈ g, r.length = C) → g.flatten.length = g.length * C
  | [], _ => by simp
  | r :: g, h => by
    rw [List.flatten_cons, List.length_append, h r List.mem_cons_self, flat_len fun r' hr' => h r' (List.mem_cons_of_mem _ hr'), List.length_cons, Nat.succ_mul]
    omega
theorem num_bnd {g : List (List Int)} {R C : Nat} (ok : GOk g R C) (hB : sm (g.map sm) < BB) {r : List Int} (hr : r ∈ g) {n : Int} (hn : n ∈ r) : -BB < n ∧ n < BB := by
  have h0 := ok.pos r hr n hn
  have h1 := sm_mem (ok.pos r hr) hn
  have h2 := sm_mem (tot_nn ok) (List.mem_map_of_mem (f := sm) hr)
  have : (0 : Int) < BB := by rw [BB_nat]; exact Int.natCast_pos.mpr (Nat.two_pow_pos _)
  exact ⟨by omega, by omega⟩
def sp_l_ones (K : PySem.W.Frag) : Sp := fun vs H Q _ => ∃ (lg lt : Addr) (xs ts : List V) (way : Str) (g : List (List Int)) (R C : Nat) (H0 : Hp), vs = [.ref lg, .str way, .ref lt] ∧ H lg = some (.lst xs) ∧ GridV H xs g ∧ GOk g R C ∧ R ≤ 100 ∧ C ≤ 100 ∧ Way way ∧ sm (g.map sm) < BB ∧ H lt = some (.lst ts) ∧ ToldV H0 H way g R C ts ∧
  ∀ H', Same H H' → Q (.bl true) H'
theorem ok_l_ones (T : Txt K mg f fd) : FnOk P w K mg base CX0 2 (f 17) (fd 17) ["_law_grid_here", "_law_way", "_law_told"] (sp_l_ones K) := by
  refine T.d_l_ones.F.ok sc_l_ones (fun vs H Q E h => ?_) (fun cdv A outer s H vs Q E hr h => ?_)
  · obtain ⟨lg, lt, xs, ts, way, g, R, C, H0, rfl, _⟩ := h
    rfl
  · obtain ⟨lg, lt, xs, ts, way, g, R, C, H0, rfl, hlg, hg, ok, hR, hC, hw, hB, hlt, ht, k⟩ := h
    refine ⟨_, (pss_cons (psl 3 sc_l_ones.nd (pe_cTy (call_listRng rfl) T.n_list bt_list rfl (by decide) (by decide) rfl (pal rfl (pe_cTy call_rng T.n_range bt_range rfl (by decide) (by decide) rfl (pal rfl (pe_cB (k_len rfl) T.n_len bt_len rfl (by decide) (by decide) rfl (pal rfl (pvc 0) pa_nil)) pa_nil)) pa_nil)))
     (pss_cons (ps_if (pt_cmpR op_eq (pvl 1) pe_str (nomark _))
     (pss_cons (psl 4 sc_l_ones.nd (pe_cB (k_sumI rfl rfl) T.n_sum bt_sum rfl (by decide) (by decide) rfl (pal rfl (pe_comp ["_law_row"] ["_law_grid_here", "_law_way", "_law_told", "_law_rows", "_law_whole", "_law_some", "#6", "_law_column"] rfl (show CompSc _ (defScope s_l_ones) ["_law_grid_here", "_law_way", "_law_told", "_law_rows", "_law_whole", "_law_some", "_law_row", "_law_column"] ["_law_grid_here", "_law_way", "_law_told", "_law_rows", "_law_whole", "_law_some", "#6", "_law_column"] from compOk_is (by decide +kernel)) (k_piL rfl (pvc 0)) (fun _ _ _ _ _ => (pgl 0 (show (["_law_row", "_law_grid_here", "_law_way", "_law_told", "_law_rows", "_law_whole", "_law_some", "#6", "_law_column"] : List Str).Nodup by decide +kernel))) (fun _ _ _ _ _ => pts_nil) (fun _ _ _ _ _ => (pe_cB (k_sumI rfl rfl) T.n_sum bt_sum rfl (by decide) (by decide) rfl (pal rfl (pvl 0) pa_nil)))) pa_nil)))
     (pss_cons (psl 5 sc_l_ones.nd (pe_lst pa_nil))
     (pss_cons (ps_for PassesOwn.never rfl (k_piL rfl (pvl 3)) (pgl 6 sc_l_ones.nd)
     (pss_one (psl 5 sc_l_ones.nd (pe_op op_cat (pvl 5) (pe_ix (k_ixL rfl) (pvc 2) (pvl 6) (fun _ _ => rfl))))))
     (pss_one (ps_ret (pe_or (pe_cmpR op_eq (pvl 4) pe_int (nomark _)) (pe_one (pe_defL T.d_l_come_to_one (ok_l_come_to_one T) (hr.mono (by decide)) rfl (by decide) rfl (pal rfl (pvl 5) (pal rfl (pvl 4) pa_nil))))))))))
     pss_nil)
     (pss_cons (ps_if (pt_cmpR op_eq (pvl 1) pe_str (nomark _))
     (pss_one (ps_ret (pe_cB (k_all rfl rfl) T.n_all bt_all rfl (by decide) (by decide) rfl (pal rfl (pe_comp ["_law_row"] ["_law_grid_here", "_law_way", "_law_told", "_law_rows", "_law_whole", "_law_some", "#6", "_law_column"] rfl (show CompSc _ (defScope s_l_ones) ["_law_grid_here", "_law_way", "_law_told", "_law_rows", "_law_whole", "_law_some", "_law_row", "_law_column"] ["_law_grid_here", "_law_way", "_law_told", "_law_rows", "_law_whole", "_law_some", "#6", "_law_column"] from compOk_is (by decide +kernel)) (k_piL rfl (pvl 3)) (fun _ _ _ _ _ => (pgl 0 (show (["_law_row", "_law_grid_here", "_law_way", "_law_told", "_law_rows", "_law_whole", "_law_some", "#6", "_law_column"] : List Str).Nodup by decide +kernel))) (fun _ _ _ _ _ => pts_nil) (fun _ _ _ _ _ => (pe_or (pe_cmpR op_eq (pe_cB (k_sumI rfl rfl) T.n_sum bt_sum rfl (by decide) (by decide) rfl (pal rfl (pe_ix (k_ixL rfl) (pvc 1) (pvl 0) (fun _ _ => rfl)) pa_nil)) pe_int (nomark _)) (pe_one (pe_defL T.d_l_come_to_one (ok_l_come_to_one T) (hr.mono (by decide)) rfl (by decide) rfl (pal rfl (pe_ix (k_ixL rfl) (pvc 3) (pvl 0) (fun _ _ => rfl)) (pal rfl (pe_cB (k_sumI rfl rfl) T.n_sum bt_sum rfl (by decide) (by decide) rfl (pal rfl (pe_ix (k_ixL rfl) (pvc 1) (pvl 0) (fun _ _ => rfl)) pa_nil)) pa_nil))))))) pa_nil))))
     pss_nil)
     (pss_cons (ps_for PassesOwn.never rfl (pi_range1 rfl T.n_range (pal rfl (pe_cB (k_len rfl) T.n_len bt_len rfl (by decide) (by decide) rfl (pal rfl (pe_ix (k_ixL rfl) (pe_op op_cat (pvc 0) (pe_lst (pal rfl (pe_lst pa_nil) pa_nil))) pe_int (fun _ _ => rfl)) pa_nil)) pa_nil)) (pgc 7 sc_l_ones.nd)
     (pss_cons (psl 4 sc_l_ones.nd (pe_cB (k_sumI rfl rfl) T.n_sum bt_sum rfl (by decide) (by decide) rfl (pal rfl (pe_comp ["_law_row"] ["_law_grid_here", "_law_way", "_law_told", "_law_rows", "_law_whole", "_law_some", "#6", "_law_column"] rfl (show CompSc _ (defScope s_l_ones) ["_law_grid_here", "_law_way", "_law_told", "_law_rows", "_law_whole", "_law_some", "_law_row", "_law_column"] ["_law_grid_here", "_law_way", "_law_told", "_law_rows", "_law_whole", "_law_some", "#6", "_law_column"] from compOk_is (by decide +kernel)) (k_piL rfl (pvc 0)) (fun _ _ _ _ _ => (pgl 0 (show (["_law_row", "_law_grid_here", "_law_way", "_law_told", "_law_rows", "_law_whole", "_law_some", "#6", "_law_column"] : List Str).Nodup by decide +kernel))) (fun _ _ _ _ _ => pts_nil) (fun _ _ _ _ _ => (pe_ix (k_ix rfl) (pvl 0) (pvc 8) (fun _ _ => rfl)))) pa_nil)))
     (pss_one (ps_if (PW.pt (pw_and (pt_cmpR op_gt (pvl 4) pe_int (nomark _)) (pw_and1 (pt_not (pt_val (pe_defL T.d_l_come_to_one (ok_l_come_to_one T) (hr.mono (by decide)) rfl (by decide) rfl (pal rfl (pe_comp ["_law_row"] ["_law_grid_here", "_law_way", "_law_told", "_law_rows", "_law_whole", "_law_some", "#6", "_law_column"] rfl (show CompSc _ (defScope s_l_ones) ["_law_grid_here", "_law_way", "_law_told", "_law_rows", "_law_whole", "_law_some", "_law_row", "_law_column"] ["_law_grid_here", "_law_way", "_law_told", "_law_rows", "_law_whole", "_law_some", "#6", "_law_column"] from compOk_is (by decide +kernel)) (k_piL rfl (pvl 3)) (fun _ _ _ _ _ => (pgl 0 (show (["_law_row", "_law_grid_here", "_law_way", "_law_told", "_law_rows", "_law_whole", "_law_some", "#6", "_law_column"] : List Str).Nodup by decide +kernel))) (fun _ _ _ _ _ => pts_nil) (fun _ _ _ _ _ => (pe_ix (k_ixL rfl) (pe_ix (k_ixL rfl) (pvc 3) (pvl 0) (fun _ _ => rfl)) (pvc 8) (fun _ _ => rfl)))) (pal rfl (pvl 4) pa_nil))))))))
     (pss_one (ps_ret pe_bl))
     pss_nil))))
     (pss_one (ps_ret pe_bl)))))), ?_⟩
    generalize hB2 : tSeq (tIfS _ _ _) _ = B
    have hgl := hg.1
    have hrl := ok.rows
    walk_at "dl"
    refine ⟨_, .inl (.of hlg), ?_⟩
    refine ⟨R, by rw [hgl, hrl], by omega, by omega, fun p hp => ?_⟩
    have u1 := Same.upd_new hp (HO.rng 0 R)
    refine ⟨p, R, rfl, upd_same, by omega, fun l hl => ?_⟩
    have s2 := u1.new hl (HO.lst ((List.range R).map fun (i : Nat) => V.int i))
    have g2 : upd (upd H p (HO.rng 0 R)) l (HO.lst ((List.range R).map fun (i : Nat) => V.int i)) l = some (.lst ((List.range R).map fun (i : Nat) => V.int i)) := upd_same
    clear u1
    generalize upd (upd H p (HO.rng 0 R)) l (HO.lst ((List.range R).map fun (i : Nat) => V.int i)) = H2 at *
    have hlg2 := s2 _ _ hlg
    have hg2 := hg.mono s2
    have hlt2 := s2 _ _ hlt
    have ht2 := ht.mono s2
    have tot0 := sm_nonneg (tot_nn ok)
    have rowI : ∀ i, i < R → ∃ r, g[i]? = some r ∧ r ∈ g := fun i hi => ⟨_, List.getElem?_eq_getElem (by omega), List.getElem_mem (by omega)⟩
    have toldI : ∀ i, i < R → ∃ x, ts[i]? = some x := fun i hi => ⟨_, List.getElem?_eq_getElem (by rw [ht.1]; exact hi)⟩
    have rngI : ∀ (i : Nat) (x : V), ((List.range R).map fun (i : Nat) => V.int i)[i]? = some x → i < R ∧ x = .int i := fun i x hx => by
      rw [List.getElem?_map] at hx
      obtain ⟨m, hm, rfl⟩ := Option.map_eq_some_iff.mp hx
      have hi : i < R := by have := (List.getElem?_eq_some_iff.mp hm).1; rwa [List.length_range] at this
      rw [List.getElem?_range hi] at hm
      cases hm
      exact ⟨hi, rfl⟩
    subst hB2
    rcases hw with rfl | rfl | rfl
    · walk_at "dl"
      refine ⟨⟨_, .of g2⟩, ?_⟩
      refine comp_walk walk_list (by rw [List.length_map, List.length_range]; exact small_line (by omega)) (fun m ys H' => Same H2 H' ∧ ∃ bs : List Bool, ys = bs.map V.bl ∧ bs.length = m ∧ ∀ b ∈ bs, b = true) ⟨Same.refl _, [], rfl, rfl, fun _ z => nomatch z⟩ (fun _ _ _ _ q => .of (q.1 _ _ g2)) (fun m ys H' q => by obtain ⟨_, bs, rfl, e, _⟩ := q; rw [List.length_map]; omega) ?_ ?_
      · rintro m y ys H3 hy ⟨s3, bs, rfl, lb, ab⟩
        obtain ⟨hm, rfl⟩ := rngI m y hy
        obtain ⟨r, hr1, hrm⟩ := rowI m hm
        obtain ⟨x, hx, pr, rfl, hpr⟩ := All2.at' hg2 hr1
        obtain ⟨tx, htx⟩ := toldI m hm
        obtain ⟨q, zs, rfl, _, hq, hzs⟩ := (ht2.mono s3).2 m tx htx
        rw [prs_of ok hr1 (b := sm r) fun j => by rw [wh_rows, getD_of hr1]] at hzs
        have h0 := sm_nonneg (ok.pos r hrm)
        have h2 := sm_mem (tot_nn ok) (List.mem_map_of_mem (f := sm) hrm)
        have more : ∃ bs' : List Bool, bs.map V.bl ++ [V.bl true] = bs'.map V.bl ∧ bs'.length = m + 1 ∧ ∀ b ∈ bs', b = true := ⟨bs ++ [true], by rw [List.map_append]; rfl, by simp [lb], fun b hb => by
          rcases List.mem_append.mp hb with e | e
          · exact ab b e
          · exact List.mem_singleton.mp e⟩
        walk_at "dl"
        refine ⟨lg, _, _, _, rfl, rfl, .of (s3 _ _ hlg2), atI_nat hx, pr, r, rfl, .of (s3 _ _ hpr), rfl, ?_⟩
        by_cases e : sm r = 0
        · rw [if_pos (congrArg V.int e)]
          exact ⟨⟨_, rfl⟩, s3, more⟩
        · rw [if_neg (fun z => e (V.int.inj z))]
          exact ⟨lt, _, _, _, rfl, rfl, .of (s3 _ _ hlt2), atI_nat htx, lg, _, _, _, rfl, rfl, .of (s3 _ _ hlg2), atI_nat hx, pr, r, rfl, .of (s3 _ _ hpr), q, rfl, zs, r, sm r, rfl, hq, hzs, by omega, by omega, (fun n hn => num_bnd ok hB hrm hn), rfl, ⟨_, rfl⟩, s3, more⟩
      · rintro ys H3 ⟨s3, bs, rfl, lb, ab⟩ D hD
        refine ⟨bs, .of upd_same, ?_⟩
        rw [show bs.all id = true from List.all_eq_true.mpr fun b hb => ab b hb]
        exact k _ ((s2.trans s3).new hD _)
    · walk_at "dl"
      rw [if_neg (by decide), if_neg (by decide)]
      refine for_in ?_
      walk_at "dl"
      refine ⟨small_line (by decide), fun p hp1 => ⟨small_line (by decide), fun p1 hp2 => ?_⟩⟩
      have u3 := Same.upd_new hp1 (HO.lst [])
      have u3' := Same.upd_new hp2 (HO.lst [V.ref p])
      have gp : upd (upd H2 p (HO.lst [])) p1 (HO.lst [V.ref p]) p = some (.lst []) := u3' _ _ upd_same
      have gp1 : upd (upd H2 p (HO.lst [])) p1 (HO.lst [V.ref p]) p1 = some (.lst [V.ref p]) := upd_same
      have s3 := u3.trans u3'
      clear u3 u3'
      generalize upd (upd H2 p (HO.lst [])) p1 (HO.lst [V.ref p]) = H3 at *
      refine ⟨lg, p1, xs, [V.ref p], rfl, rfl, s3 _ _ hlg2, gp1, small_line (by rw [hgl, hrl]; simp; omega), fun p4 hp4 => ?_⟩
      have u4 := Same.upd_new hp4 (HO.lst (xs ++ [V.ref p]))
      have g4 : upd H3 p4 (HO.lst (xs ++ [V.ref p])) p4 = some (.lst (xs ++ [V.ref p])) := upd_same
      have gp4 := u4 _ _ gp
      have s4 := s3.trans u4
      clear u4
      generalize upd H3 p4 (HO.lst (xs ++ [V.ref p])) = H4 at *
      obtain ⟨x0, zs0, n, e0, hz0, ln, hn1, hn2⟩ : ∃ (x0 : Addr) (zs0 : List V) (n : Nat), (xs ++ [V.ref p])[0]? = some (V.ref x0) ∧ H4 x0 = some (.lst zs0) ∧ zs0.length = n ∧ n ≤ C ∧ n ≤ 100 := by
        cases xs with
        | nil => exact ⟨p, [], 0, rfl, gp4, rfl, by omega, by omega⟩
        | cons x xs1 =>
          obtain ⟨r0, hr0, p0, rfl, hp0⟩ := All2.at hg2 (i := 0) (x := x) rfl
          exact ⟨p0, _, C, rfl, s4 _ _ hp0, by rw [List.length_map]; exact ok.cols r0 (List.mem_of_getElem? hr0), by omega, by omega⟩
      refine ⟨p4, _, _, _, rfl, rfl, .of g4, atI_nat (j := 0) e0, x0, rfl, zs0, .inl (.of hz0), by omega, by omega, ?_⟩
      rw [ln, Int.toNat_natCast]
      refine ForW.of walk_range (fun i σ H' => (∃ v4 v7, σ = [some (V.ref lg), some (V.str "columns"), some (V.ref lt), some (V.ref l), v4, none, none, v7]) ∧ Same H2 H') ⟨⟨none, none, rfl⟩, s4⟩ (fun _ _ _ _ _ => trivial) ?_ ?_
      · rintro j x σ H5 hxj ⟨⟨v4, v7, rfl⟩, s5⟩
        obtain ⟨hj, rfl⟩ := range_item hxj
        rw [Int.zero_add]
        have hjC : j < C := by omega
        walk_at "dl"
        refine ⟨⟨_, .of (s5 _ _ hlg2)⟩, ?_⟩
        have rowJ : ∀ r ∈ g, r[j]? = some (r.getD j 0) := fun r hr => by
          have : j < r.length := by rw [ok.cols r hr]; exact hjC
          rw [List.getD_eq_getElem?_getD, List.getElem?_eq_getElem this]; rfl
        refine comp_walk walk_list (by rw [hgl]; exact small_line (by omega)) (fun m ys H' => Same H5 H' ∧ ys = ((g.take m).map fun r => r.getD j 0).map V.int) ⟨Same.refl _, rfl⟩ (fun _ _ _ _ q => .of (q.1 _ _ (s5 _ _ hlg2))) (fun m ys H' q => by rw [q.2]; simp; omega) ?_ ?_
        · rintro m y ys H6 hy ⟨s6, rfl⟩
          obtain ⟨r, hr1, pr, rfl, hpr⟩ := All2.at hg2 hy
          walk_at "dl"
          refine .inl ⟨pr, _, _, V.int (r.getD j 0), rfl, rfl, .of ((s5.trans s6) _ _ hpr), atI_nat (by rw [List.getElem?_map, rowJ r (List.mem_of_getElem? hr1)]; rfl), ⟨_, rfl⟩, s6, ?_⟩
          rw [List.take_succ, hr1, List.map_append, List.map_append]; rfl
        · rintro ys H6 ⟨s6, rfl⟩ D hD
          rw [hgl, List.take_length]
          refine ⟨D, _, rfl, .of upd_same, ?_⟩
          have s7 := s5.trans (s6.new hD (HO.lst ((g.map fun r => r.getD j 0).map V.int)))
          generalize upd H6 D (HO.lst ((g.map fun r => r.getD j 0).map V.int)) = H7 at *
          have ec : (g.map fun r => r.getD j 0) = colOf g j := rfl
          rw [ec]
          refine ⟨_, rfl, ?_⟩
          have hcw := (wh_le ok "columns" 0 j).2
          rw [wh_cols] at hcw
          by_cases c : 0 < sm (colOf g j)
          · rw [if_pos c]
            refine ⟨⟨_, .of (s7 _ _ g2)⟩, ?_⟩
            refine comp_walk walk_list (by rw [List.length_map, List.length_range]; exact small_line (by omega)) (fun m ys H' => Same H7 H' ∧ All2 (ShV H') ys (((colOf g j).take m).map fun n => (n, sm (colOf g j)))) ⟨Same.refl _, All2.nil⟩ (fun _ _ _ _ q => .of (q.1 _ _ (s7 _ _ g2))) (fun m ys H' q => by rw [q.2.1, List.length_map, List.length_take]; omega) ?_ ?_
            · rintro m y ys H8 hy ⟨s8, A8⟩
              obtain ⟨hm, rfl⟩ := rngI m y hy
              obtain ⟨r, hr1, hrm⟩ := rowI m hm
              obtain ⟨tx, htx⟩ := toldI m hm
              obtain ⟨q2, ys2, rfl, _, hq2, hys2⟩ := (ht2.mono (s7.trans s8)).2 m tx htx
              have ep : (prs "columns" g C m)[j]? = some (gAt g (m, j), sm (colOf g j)) := by
                unfold prs
                rw [List.getElem?_map, List.getElem?_range hjC, ← wh_cols g m j]
                rfl
              obtain ⟨y2, hy2, sh2⟩ := All2.at' hys2 ep
              have ecm : (colOf g j)[m]? = some (gAt g (m, j)) := by
                unfold colOf gAt
                rw [List.getElem?_map, hr1, getD_of hr1]
                rfl
              walk_at "dl"
              refine ⟨lt, _, _, _, rfl, rfl, .of ((s7.trans s8) _ _ hlt2), atI_nat htx, q2, _, _, y2, rfl, rfl, .of hq2, atI_nat hy2, ⟨_, rfl⟩, s8, ?_⟩
              rw [List.take_succ, ecm, List.map_append]
              exact All2.snoc A8 sh2
            · rintro ys H8 ⟨s8, A8⟩ D2 hD2
              rw [List.take_of_length_le (by rw [List.length_map, List.length_range]; unfold colOf; rw [List.length_map]; omega)] at A8
              have u9 := Same.upd_new hD2 (HO.lst ys)
              refine ⟨D2, ys, colOf g j, _, rfl, upd_same, A8.mono fun _ _ => ShV.mono u9, c, Int.lt_of_le_of_lt hcw hB, fun n hn => ?_, rfl, true, rfl, ?_⟩
              · obtain ⟨r, hr, rfl⟩ := List.mem_map.mp hn
                exact num_bnd ok hB hr (List.mem_of_getElem? (rowJ r hr))
              · rw [if_neg (by decide)]
                exact ⟨⟨_, rfl⟩, (s7.trans s8).trans u9⟩
          · rw [if_neg c]
            exact ⟨⟨_, rfl⟩, s7⟩
      · rintro σ H5 ⟨⟨v4, v7, rfl⟩, s5⟩
        exact k _ (s2.trans s5)
    · walk_at "dl"
      refine ⟨⟨_, .of hlg2⟩, ?_⟩
      refine comp_walk walk_list (by rw [hgl]; exact small_line (by omega)) (fun m ys H' => Same H2 H' ∧ ys = ((g.take m).map sm).map V.int) ⟨Same.refl _, rfl⟩ (fun _ _ _ _ q => .of (q.1 _ _ hlg2)) (fun m ys H' q => by rw [q.2]; simp; omega) ?_ ?_
      · rintro m y ys H3 hy ⟨s3, rfl⟩
        obtain ⟨r, hr1, pr, rfl, hpr⟩ := All2.at hg2 hy
        walk_at "dl"
        refine ⟨pr, r, rfl, .of (s3 _ _ hpr), ⟨_, rfl⟩, s3, ?_⟩
        rw [List.take_succ, hr1, List.map_append, List.map_append]; rfl
      · rintro ys H3 ⟨s3, rfl⟩ D hD
        rw [hgl, List.take_length]
        refine ⟨D, _, rfl, .of upd_same, small_line (by decide), fun q hq => ?_⟩
        have s4 := (s3.new hD (HO.lst ((g.map sm).map V.int))).new hq (HO.lst [])
        have g4 : upd (upd H3 D (HO.lst ((g.map sm).map V.int))) q (HO.lst []) q = some (.lst []) := upd_same
        generalize upd (upd H3 D (HO.lst ((g.map sm).map V.int))) q (HO.lst []) = H4 at *
        refine for_in ?_
        walk_at "dl"
        refine ⟨⟨_, .of (s4 _ _ g2)⟩, ?_⟩
        have em : ((List.range R).map fun (i : Nat) => V.int i).length = R := by rw [List.length_map, List.length_range]
        refine ForW.of walk_list (fun i σ H' => (∃ lz zs v6, σ = [some (V.ref lg), some (V.str "all"), some (V.ref lt), some (V.ref l), some (V.int (sm (g.map sm))), some (V.ref lz), v6, none] ∧ H' lz = some (.lst zs) ∧ All2 (ShV H') zs ((g.take i).flatten.map fun n => (n, sm (g.map sm)))) ∧ Same H2 H') ⟨⟨q, [], none, rfl, g4, All2.nil⟩, s4⟩ (fun i σ H' _ q => .of (q.2 _ _ g2)) ?_ ?_
        · rintro i x σ H5 hxi ⟨⟨lz, zs, v6, rfl, hlz, hzs⟩, s5⟩
          obtain ⟨hi, rfl⟩ := rngI i x hxi
          obtain ⟨r, hr1, hrm⟩ := rowI i hi
          obtain ⟨tx, htx⟩ := toldI i hi
          obtain ⟨q2, ys2, rfl, _, hq2, hys2⟩ := (ht2.mono s5).2 i tx htx
          rw [prs_of ok hr1 (b := sm (g.map sm)) fun j => by rw [wh_all]] at hys2
          walk_at "dl"
          have l1 : zs.length ≤ 100 * 100 := by
            rw [hzs.1, List.length_map, flat_len (C := C) fun r' hr' => ok.cols r' (List.mem_of_mem_take hr')]
            exact Nat.mul_le_mul (by rw [List.length_take]; omega) hC
          have l2 : ys2.length ≤ 100 := by rw [hys2.1, List.length_map, ok.cols r hrm]; exact hC
          refine ⟨lt, _, _, _, rfl, rfl, .of (s5 _ _ hlt2), atI_nat htx, lz, q2, zs, ys2, rfl, rfl, hlz, hq2, small_line (by omega), fun p6 hp6 => ⟨⟨p6, rfl, zs ++ ys2, upd_same, ?_⟩, s5.new hp6 _⟩⟩
          have u6 := Same.upd_new hp6 (HO.lst (zs ++ ys2))
          have ef : (g.take (i + 1)).flatten = (g.take i).flatten ++ r := by rw [List.take_succ, hr1, List.flatten_append]; simp
          rw [ef, List.map_append]
          exact (hzs.mono fun _ _ => ShV.mono u6).append (hys2.mono fun _ _ => ShV.mono u6)
        · rintro σ H5 ⟨⟨lz, zs, v6, rfl, hlz, hzs⟩, s5⟩
          rw [em, ← hrl, List.take_length] at hzs
          walk_at "dl"
          by_cases e : sm (g.map sm) = 0
          · rw [if_pos e]
            exact k _ (s2.trans s5)
          · rw [if_neg e]
            refine ⟨lz, zs, g.flatten, _, rfl, hlz, hzs, by omega, hB, fun n hn => ?_, sm_flat g, k _ (s2.trans s5)⟩
            obtain ⟨r, hr, hnr⟩ := List.mem_flatten.mp hn
            exact num_bnd ok hB hr hnr
def sp_l_right (K : PySem.W.Frag) : Sp := fun vs H Q _ => ∃ (lg lt : Addr) (xs ts : List V) (way : Str) (g : List (List Int)) (R C : Nat) (H0 : Hp), vs = [.ref lg, .str way, .ref lt] ∧ H lg = some (.lst xs) ∧ GridV H xs g ∧ GOk g R C ∧ R ≤ 100 ∧ C ≤ 100 ∧ Way way ∧ sm (g.map sm) < BB ∧ H lt = some (.lst ts) ∧ ToldV H0 H way g R C ts ∧
  ∀ H', Same H H' → Q (.bl true) H'
theorem ok_l_right (T : Txt K mg f fd) : FnOk P w K mg base CX0 3 (f 18) (fd 18) ["_law_grid_here", "_law_way", "_law_told"] (sp_l_right K) := by
  refine T.d_l_right.F.ok sc_l_right (fun vs H Q E h => ?_) (fun cdv A outer s H vs Q E hr h => ?_)
  · obtain ⟨lg, lt, xs, ts, way, g, R, C, H0, rfl, _⟩ := h
    rfl
  · obtain ⟨lg, lt, xs, ts, way, g, R, C, H0, rfl, hlg, hg, ok, hR, hC, hw, hB, hlt, ht, k⟩ := h
    refine ⟨_, (pss_cons (ps_if (PW.pt (pw_or (pt_not (pt_val (pe_cB (k_isP rfl) T.n_isinstance bt_isinstance rfl (by decide) (by decide) rfl (pal rfl (pvl 2) (pal rfl (pty T.n_list bt_list) pa_nil))))) (pw_or1 (pt_cmpR op_ne (pe_cB (k_len rfl) T.n_len bt_len rfl (by decide) (by decide) rfl (pal rfl (pvl 2) pa_nil)) (pe_cB (k_len rfl) T.n_len bt_len rfl (by decide) (by decide) rfl (pal rfl (pvl 0) pa_nil)) (nomark _)))))
     (pss_one (ps_ret pe_bl))
     pss_nil)
     (pss_cons (ps_for PassesOwn.never rfl (pi_range1 rfl T.n_range (pal rfl (pe_cB (k_len rfl) T.n_len bt_len rfl (by decide) (by decide) rfl (pal rfl (pvl 0) pa_nil)) pa_nil)) (pgl 3 sc_l_right.nd)
     (pss_cons (ps_if (PW.pt (pw_or (pt_not (pt_val (pe_cB (k_isP rfl) T.n_isinstance bt_isinstance rfl (by decide) (by decide) rfl (pal rfl (pe_ix (k_ixL rfl) (pvl 2) (pvl 3) (fun _ _ => rfl)) (pal rfl (pty T.n_list bt_list) pa_nil))))) (pw_or1 (pt_cmpR op_ne (pe_cB (k_len rfl) T.n_len bt_len rfl (by decide) (by decide) rfl (pal rfl (pe_ix (k_ixL rfl) (pvl 2) (pvl 3) (fun _ _ => rfl)) pa_nil)) (pe_cB (k_len rfl) T.n_len bt_len rfl (by decide) (by decide) rfl (pal rfl (pe_ix (k_ixL rfl) (pvl 0) (pvl 3) (fun _ _ => rfl)) pa_nil)) (nomark _)))))
     (pss_one (ps_ret pe_bl))
     pss_nil)
     (pss_one (ps_for PassesOwn.never rfl (pi_range1 rfl T.n_range (pal rfl (pe_cB (k_len rfl) T.n_len bt_len rfl (by decide) (by decide) rfl (pal rfl (pe_ix (k_ixL rfl) (pvl 0) (pvl 3) (fun _ _ => rfl)) pa_nil)) pa_nil)) (pgl 4 sc_l_right.nd)
     (pss_one (ps_if (pt_not (pt_val (pe_defL T.d_l_is_share (ok_l_is_share T) (hr.mono (by decide)) rfl (by decide) rfl (pal rfl (pe_ix (k_ixL rfl) (pe_ix (k_ixL rfl) (pvl 2) (pvl 3) (fun _ _ => rfl)) (pvl 4) (fun _ _ => rfl)) (pal rfl (pe_ix (k_ixL rfl) (pe_ix (k_ixL rfl) (pvl 0) (pvl 3) (fun _ _ => rfl)) (pvl 4) (fun _ _ => rfl)) (pal rfl (pe_defL T.d_l_whole_of (ok_l_whole_of T) (hr.mono (by decide)) rfl (by decide) rfl (pal rfl (pvl 0) (pal rfl (pvl 1) (pal rfl (pvl 3) (pal rfl (pvl 4) pa_nil))))) pa_nil))))))
     (pss_one (ps_ret pe_bl))
     pss_nil))))))
     (pss_one (ps_ret (pe_defL T.d_l_ones (ok_l_ones T) (hr.mono (by decide)) rfl (by decide) rfl (pal rfl (pvl 0) (pal rfl (pvl 1) (pal rfl (pvl 2) pa_nil)))))))), ?_⟩
    have hgl := hg.1
    have hrl := ok.rows
    have htl := ht.1
    walk_at "dl"
    refine ⟨_, .of_lst hlt, by decide, ?_⟩
    rw [show isiN "list" "list" = true from rfl]
    walk_at "dl"
    refine ⟨_, .inl (.of hlt), _, .inl (.of hlg), ?_⟩
    rw [htl, hgl, hrl]
    walk_at "dl"
    refine for_in ?_
    walk_at "dl"
    refine ⟨_, .inl (.of hlg), ?_⟩
    rw [hgl, hrl]
    refine ⟨by omega, by omega, ?_⟩
    rw [Int.toNat_natCast]
    refine ForW.of walk_range (fun i σ H' => (∃ v3 v4, σ = [some (V.ref lg), some (V.str way), some (V.ref lt), v3, v4]) ∧ Same H H') ⟨⟨none, none, rfl⟩, Same.refl _⟩ (fun _ _ _ _ _ => trivial) ?_ ?_
    · rintro i x σ H1 hx ⟨⟨v3, v4, rfl⟩, s1⟩
      obtain ⟨hi, rfl⟩ := range_item hx
      rw [Int.zero_add]
      obtain ⟨r, hr1⟩ : ∃ r, g[i]? = some r := ⟨_, List.getElem?_eq_getElem (by omega)⟩
      have hrm := List.mem_of_getElem? hr1
      obtain ⟨xr, hxr, pr, rfl, hpr⟩ := All2.at' hg hr1
      obtain ⟨tx, htx⟩ : ∃ x, ts[i]? = some x := ⟨_, List.getElem?_eq_getElem (by omega)⟩
      obtain ⟨q, zs, rfl, _, hq, hzs⟩ := (ht.mono s1).2 i tx htx
      have hzl : zs.length = C := by rw [hzs.1]; unfold prs; rw [List.length_map, List.length_range]
      have hrc := ok.cols r hrm
      walk_at "dl"
      refine ⟨lt, _, _, _, rfl, rfl, .of (s1 _ _ hlt), atI_nat htx, _, .of_lst hq, by decide, ?_⟩
      rw [if_neg (by decide)]
      refine ⟨lt, _, _, _, rfl, rfl, .of (s1 _ _ hlt), atI_nat htx, q, rfl, _, .inl (.of hq), lg, _, _, _, rfl, rfl, .of (s1 _ _ hlg), atI_nat hxr, pr, rfl, _, .inl (.of (s1 _ _ hpr)), ?_⟩
      rw [List.length_map, hzl, hrc, if_neg (by simp)]
      refine for_in ?_
      walk_at "dl"
      refine ⟨lg, _, _, _, rfl, rfl, .of (s1 _ _ hlg), atI_nat hxr, pr, rfl, _, .inl (.of (s1 _ _ hpr)), ?_⟩
      rw [List.length_map, hrc]
      refine ⟨by omega, by omega, ?_⟩
      rw [Int.toNat_natCast]
      refine ForW.of walk_range (fun j σ H' => (∃ v4, σ = [some (V.ref lg), some (V.str way), some (V.ref lt), some (V.int i), v4]) ∧ Same H1 H') ⟨⟨_, rfl⟩, Same.refl _⟩ (fun _ _ _ _ _ => trivial) ?_ ?_
      · rintro j y σ H2 hy ⟨⟨v4, rfl⟩, s2⟩
        obtain ⟨hj, rfl⟩ := range_item hy
        rw [Int.zero_add]
        have s12 := s1.trans s2
        have ep : (prs way g C i)[j]? = some (gAt g (i, j), wh way g i j) := by
          unfold prs
          rw [List.getElem?_map, List.getElem?_range hj]
          rfl
        obtain ⟨y2, hy2, sh2⟩ := All2.at' hzs ep
        obtain ⟨r', hr', hrj, h0, _⟩ := ok.at (b := (i, j)) ⟨by omega, hj⟩
        have er : r' = r := by rw [hr1] at hr'; exact (Option.some.inj hr').symm
        subst er
        have hw2 := wh_le ok way i j
        have nb := num_bnd ok hB hrm (List.mem_of_getElem? hrj)
        walk_at "dl"
        refine ⟨lt, _, _, _, rfl, rfl, .of (s12 _ _ hlt), atI_nat htx, q, _, _, y2, rfl, rfl, .of (s2 _ _ hq), atI_nat hy2, lg, _, _, _, rfl, rfl, .of (s12 _ _ hlg), atI_nat hxr, pr, _, _, V.int (gAt g (i, j)), rfl, rfl, .of (s12 _ _ hpr), atI_nat (by rw [List.getElem?_map, hrj]; rfl), ?_⟩
        refine ⟨lg, xs, way, g, R, C, i, j, rfl, s12 _ _ hlg, hg.mono s12, ok, hR, hw, hi, hj, fun H3 s3 => ⟨_, _, _, rfl, (sh2.mono s2).mono s3, hw2.1, Int.lt_of_le_of_lt hw2.2 hB, nb.1, nb.2, fun H4 s4 => ⟨true, rfl, ?_⟩⟩⟩
        rw [if_neg (by decide)]
        exact ⟨⟨_, rfl⟩, (s2.trans s3).trans s4⟩
      · rintro σ H2 ⟨⟨v4, rfl⟩, s2⟩
        exact ⟨⟨_, _, rfl⟩, s1.trans s2⟩
    · rintro σ H1 ⟨⟨v3, v4, rfl⟩, s1⟩
      walk_at "dl"
      exact ⟨lg, lt, xs, ts, way, g, R, C, H0, rfl, s1 _ _ hlg, hg.mono s1, ok, hR, hC, hw, hB, s1 _ _ hlt, ht.mono s1, fun H2 s2 => k _ (s1.trans s2)⟩
def sp_law (K : PySem.W.Frag) : Sp := fun vs H Q _ => ∃ (a : Addr) (ns : List Int), vs = [.ref a] ∧ SqL K H a (ns.map V.int) ∧ ns.length ≤ 63 ∧ ∀ H', Q (.bl true) H'
theorem gridEq_of {H : Hp} {a b : Addr} {xs ys : List V} {g : List (List Int)} {neg : Bool} {Q : VK} (ha : H a = some (.lst xs)) (h1 : GridV H xs g) (hb : H b = some (.lst ys)) (h2 : GridV H ys g) (q : Q (.bl (!neg)) H) : rEqD K neg (.ref a) (.ref b) H Q := by
  obtain ⟨r1, r2, r3, r4⟩ := grid_reps (K := K) h1
  obtain ⟨q1, _⟩ := grid_reps (K := K) h2
  have sh : SeqAt.shaped (.list (gridD g)) = true := by
    simp only [SeqAt.shaped, PyData.canLay0, PyData.depth, r2, Bool.true_and]
    exact decide_eq_true (by omega)
  refine ⟨.list (gridD g), .list (gridD g), by rw [Rep]; exact ⟨a, xs, rfl, .of ha, r1⟩, by rw [Rep]; exact ⟨b, ys, rfl, .of hb, q1⟩, sh, sh, ?_⟩
  rw [show PyData.eqv (.list (gridD g)) (.list (gridD g)) = true by rw [PyData.eqv]; exact r4]
  cases neg <;> exact q
theorem fr_zero {b : Int} (h : 0 < b) : frT 0 b = 0 ∧ frB 0 b = 1 := by
  have e : (Int.gcd 0 b : Int) = b := by simp [Int.gcd]; omega
  unfold frT frB
  rw [e]
  exact ⟨Int.zero_ediv _, Int.ediv_self (by omega)⟩
theorem grid_ok {g : List (List Int)} {R C : Nat} (hl : g.length = R) (hn : ∀ r ∈ g, NumOk C r) : GOk g R C := ⟨hl, fun r hr => (hn r hr).1, fun r hr x hx => ((hn r hr).2 x hx).1⟩
theorem grid_bnd {g : List (List Int)} {R C : Nat} (hl : g.length = R) (hn : ∀ r ∈ g, NumOk C r) (hR : R ≤ 40) (hC : C ≤ 40) : sm (g.map sm) < BB := by
  have h1 : ∀ z ∈ g.map sm, z ≤ 40 * 10 ^ 58 := fun z hz => by
    obtain ⟨r, hr, rfl⟩ := List.mem_map.mp hz
    have h2 := sm_le (fun z hz => ((hn r hr).2 z hz).2)
    rw [(hn r hr).1] at h2
    have h3 : (C : Int) * 10 ^ 58 ≤ 40 * 10 ^ 58 := Int.mul_le_mul_of_nonneg_right (by omega) (by decide)
    omega
  have h2 := sm_le h1
  rw [List.length_map, hl] at h2
  have h3 : (R : Int) * (40 * 10 ^ 58) ≤ 40 * (40 * 10 ^ 58) := Int.mul_le_mul_of_nonneg_right (by omega) (by decide)
  have h4 : (40 * (40 * 10 ^ 58) : Int) < BB := by unfold BB; decide
  omega
theorem ok_law (T : Txt K mg f fd) : FnOk P w K mg base CX0 6 (f 19) (fd 19) ["_law_script"] (sp_law K) := by
  refine T.d_law.F.ok sc_law (fun vs H Q E h => ?_) (fun cdv A outer s H vs Q E hr h => ?_)
  · obtain ⟨a, ns, rfl, _⟩ := h
    rfl
  · obtain ⟨a, ns, rfl, hs, hl, k⟩ := h
    refine ⟨_, (pss_cons (psl 1 sc_law.nd (pe_defL T.d_l_draw (ok_l_draw T) (hr.mono (by decide)) rfl (by decide) rfl (pal rfl (pvl 0) (pal rfl pe_int (pal rfl pe_int pa_nil)))))
     (pss_cons (psl 2 sc_law.nd (pe_defL T.d_l_draw (ok_l_draw T) (hr.mono (by decide)) rfl (by decide) rfl (pal rfl (pvl 0) (pal rfl pe_int (pal rfl pe_int pa_nil)))))
     (pss_cons (ps_if (pt_cmpR op_eq (pe_op op_fdiv (pe_defL T.d_l_draw (ok_l_draw T) (hr.mono (by decide)) rfl (by decide) rfl (pal rfl (pvl 0) (pal rfl pe_int (pal rfl pe_int pa_nil)))) pe_int) pe_int (nomark _))
     (pss_cons (psl 1 sc_law.nd pe_int)
     (pss_one (psl 2 sc_law.nd pe_int)))
     pss_nil)
     (pss_cons (ps_if (pt_cmpR op_eq (pe_op op_fdiv (pe_defL T.d_l_draw (ok_l_draw T) (hr.mono (by decide)) rfl (by decide) rfl (pal rfl (pvl 0) (pal rfl pe_int (pal rfl pe_int pa_nil)))) pe_int) pe_int (nomark _))
     (pss_cons (psl 1 sc_law.nd pe_int)
     (pss_one (psl 2 sc_law.nd pe_int)))
     pss_nil)
     (pss_cons (psl 3 sc_law.nd (pe_defL T.d_l_grid (ok_l_grid T) (hr.mono (by decide)) rfl (by decide) rfl (pal rfl (pvl 0) (pal rfl (pvl 1) (pal rfl (pvl 2) pa_nil)))))
     (pss_cons (psl 4 sc_law.nd (pe_defL T.d_l_draw (ok_l_draw T) (hr.mono (by decide)) rfl (by decide) rfl (pal rfl (pvl 0) (pal rfl pe_int (pal rfl pe_int pa_nil)))))
     (pss_cons (ps_for PassesOwn.never rfl (pi_range1 rfl T.n_range (pal rfl pe_int pa_nil)) (pgl 5 sc_law.nd)
     (pss_cons (psl 6 sc_law.nd (pe_ix (k_ixL rfl) (pe_lst (pal rfl pe_str (pal rfl pe_str (pal rfl pe_str pa_nil)))) (pe_op op_mod (pe_op op_add (pvl 4) (pvl 5)) pe_int) (fun _ _ => rfl)))
     (pss_cons (ps_comp ["_law_row"] ["_law_script", "_law_rows", "_law_columns", "_law_grid_here", "_law_first", "_law_k", "_law_way", "_law_handed", "_law_told", "#9", "_law_top", "_law_bottom"] rfl (show CompSc _ (defScope s_law) ["_law_script", "_law_rows", "_law_columns", "_law_grid_here", "_law_first", "_law_k", "_law_way", "_law_handed", "_law_told", "_law_row", "_law_top", "_law_bottom"] ["_law_script", "_law_rows", "_law_columns", "_law_grid_here", "_law_first", "_law_k", "_law_way", "_law_handed", "_law_told", "#9", "_law_top", "_law_bottom"] from compOk_is (by decide +kernel)) sc_law.nd (i := 7) rfl rfl (k_piL rfl (pvl 3)) (fun _ _ _ _ _ => (pgl 0 (show (["_law_row", "_law_script", "_law_rows", "_law_columns", "_law_grid_here", "_law_first", "_law_k", "_law_way", "_law_handed", "_law_told", "#9", "_law_top", "_law_bottom"] : List Str).Nodup by decide +kernel))) (fun _ _ _ _ _ => pts_nil) (fun _ _ _ _ _ => (pe_cTy (k_list rfl) T.n_list bt_list rfl (by decide) (by decide) rfl (pal rfl (pvl 0) pa_nil))))
     (pss_cons (psl 8 sc_law.nd (pe_defL T.d_shares (ok_shares T) (hr.mono (by decide)) rfl (by decide) rfl (pal rfl (pvl 7) (pal rfl (pvl 6) pa_nil))))
     (pss_cons (ps_if (PW.pt (pw_or (pt_cmpR (k_neD rfl hr.units) (pvl 7) (pvl 3) (nomark _)) (pw_or1 (pt_not (pt_val (pe_defL T.d_l_right (ok_l_right T) (hr.mono (by decide)) rfl (by decide) rfl (pal rfl (pvl 3) (pal rfl (pvl 6) (pal rfl (pvl 8) pa_nil)))))))))
     (pss_one (ps_ret pe_bl))
     pss_nil)
     (pss_cons (ps_for PassesOwn.never rfl (k_piL rfl (pvl 8)) (pgl 9 sc_law.nd)
     (pss_one (ps_expr (k_bmL rfl PySem.F.plainAttrs_list PySem.F.slot_list_append PySem.F.type_list_append mt_append rfl rfl rfl rfl (pvl 9) (pal rfl pe_int pa_nil)))))
     (pss_one (ps_expr (k_bmL rfl PySem.F.plainAttrs_list PySem.F.slot_list_append PySem.F.type_list_append mt_append rfl rfl rfl rfl (pvl 8) (pal rfl (pe_lst pa_nil) pa_nil))))))))))
     (pss_cons (psl 10 sc_law.nd (pe_op op_sub (pe_op op_mod (pe_defL T.d_l_cell (ok_l_cell T) (hr.mono (by decide)) rfl (by decide) rfl (pal rfl (pvl 0) (pal rfl pe_int pa_nil))) (pe_op op_pow pe_int pe_int)) (pe_op op_pow pe_int pe_int)))
     (pss_cons (psl 11 sc_law.nd (pe_op op_add pe_int (pe_op op_mod (pe_defL T.d_l_cell (ok_l_cell T) (hr.mono (by decide)) rfl (by decide) rfl (pal rfl (pvl 0) (pal rfl pe_int pa_nil))) (pe_op op_pow pe_int pe_int))))
     (pss_one (ps_ret (pe_and (pe_defL T.d_l_is_share (ok_l_is_share T) (hr.mono (by decide)) rfl (by decide) rfl (pal rfl (pe_defL T.d_fraction (ok_fraction T) (hr.mono (by decide)) rfl (by decide) rfl (pal rfl (pvl 10) (pal rfl (pvl 11) pa_nil))) (pal rfl (pvl 10) (pal rfl (pvl 11) pa_nil)))) (pe_one (pe_cmpR (k_eqD rfl hr.units) (pe_defL T.d_fraction (ok_fraction T) (hr.mono (by decide)) rfl (by decide) rfl (pal rfl pe_int (pal rfl (pvl 11) pa_nil))) (pe_tup (pal rfl pe_int (pal rfl pe_int pa_nil))) (nomark _))))))))))))))), ?_⟩
    generalize hB : tSeq (tAsg _ (gName 3)) _ = B
    have fin : ∀ (R C : Nat), R ≤ 40 → C ≤ 40 → B { nx := fun _ H' => Q .non H', rt := Q } [some (V.ref a), some (V.int R), some (V.int C), none, none, none, none, none, none, none, none, none] H := by
      intro R C hR hC
      subst hB
      generalize hE : tSeq (tAsg _ (gName 10)) _ = E2
      walk_at "dl"
      refine ⟨a, ns, R, C, rfl, hs, by omega, by omega, fun H1 p xs g s1 hp hg hx hn => ?_⟩
      have hgl : g.length = R := by rw [← hg.1]; exact hx
      have ok := grid_ok hgl hn
      have hB := grid_bnd hgl hn hR hC
      have hs1 := s1.seq hs
      refine ⟨a, ns, _, _, rfl, hs1, by omega, by omega, by omega, fun d d1 d2 => ?_⟩
      have last : ∀ (H2 : Hp) v5 v6 v7 v8 v9, Same H1 H2 → E2 { nx := fun _ H' => Q .non H', rt := Q } [some (V.ref a), some (V.int R), some (V.int C), some (V.ref p), some (V.int d), v5, v6, v7, v8, v9, none, none] H2 := by
        intro H2 v5 v6 v7 v8 v9 s2
        subst hE
        have hs2 := (s1.trans s2).seq hs
        have n1 : (0 : Int) < 10 ^ Int.toNat 59 := by decide
        have n2 : (10 : Int) ^ Int.toNat 59 + 1 < BB := by unfold BB; decide
        have n3 : (0 : Int) < 10 ^ Int.toNat 57 := by decide
        have n4 : (10 : Int) ^ Int.toNat 57 < BB := by unfold BB; decide
        walk_at "dl"
        generalize (10 : Int) ^ Int.toNat 59 = N59 at *
        generalize (10 : Int) ^ Int.toNat 57 = N57 at *
        refine ⟨a, ns, _, rfl, hs2, by omega, fun v => ⟨⟨by decide, by decide, by decide⟩, v, rfl, n1, ⟨by decide, by decide, by decide⟩, a, ns, _, rfl, hs2, by omega, fun u => ⟨⟨by decide, by decide, by decide⟩, u, rfl, n1, ?_⟩⟩⟩
        have m1 := Int.emod_nonneg v (Int.ne_of_gt n1)
        have m2 := Int.emod_lt_of_pos v n1
        have m3 := Int.emod_nonneg u (Int.ne_of_gt n1)
        have m4 := Int.emod_lt_of_pos u n1
        obtain ⟨t, et⟩ : ∃ t, v % N59 - N57 = t := ⟨_, rfl⟩
        obtain ⟨b, eb⟩ : ∃ b, 1 + u % N59 = b := ⟨_, rfl⟩
        rw [et, eb]
        have b1 : 0 < b := by omega
        have b2 : b < BB := by omega
        refine ⟨t, b, rfl, b1, b2, fun q hq => ⟨_, _, _, rfl, .inr ⟨Int.ne_of_gt b1, q, rfl, upd_same⟩, by omega, b2, by omega, by omega, fun H3 s3 => ⟨true, rfl, ?_⟩⟩⟩
        rw [if_pos rfl]
        refine ⟨0, b, rfl, b1, b2, fun q2 hq2 => ⟨small_line (by decide), fun p3 hp3 => ?_⟩⟩
        obtain ⟨z1, z2⟩ := fr_zero b1
        rw [z1, z2] at hp3 ⊢
        have sh : SeqAt.shaped (.tuple [.int 0, .int 1]) = true := by simp [SeqAt.shaped, PyData.canLay0, PyData.canLayAll0, PyData.depth, PyData.depthAll]
        refine ⟨.tuple [.int 0, .int 1], .tuple [.int 0, .int 1], ?_, ?_, sh, sh, ?_⟩
        · rw [Rep]
          exact ⟨q2, _, rfl, .of (Same.upd_new hp3 _ _ _ upd_same), by simp [Reps, Rep]⟩
        · rw [Rep]
          exact ⟨p3, _, rfl, .of upd_same, by simp [Reps, Rep]⟩
        · rw [show PyData.eqv (.tuple [.int 0, .int 1]) (.tuple [.int 0, .int 1]) = true by simp [PyData.eqv, PyData.eqvAll]]
          exact k _
      refine for_in ?_
      walk_at "dl"
      refine ⟨by decide, by decide, ?_⟩
      refine ForW.of walk_range (fun i σ H' => (∃ v5 v6 v7 v8 v9, σ = [some (V.ref a), some (V.int R), some (V.int C), some (V.ref p), some (V.int d), v5, v6, v7, v8, v9, none, none]) ∧ Same H1 H') ⟨⟨none, none, none, none, none, rfl⟩, Same.refl _⟩ (fun _ _ _ _ _ => trivial) ?_ ?_
      · rintro i x σ H2 hxi ⟨⟨v5, v6, v7, v8, v9, rfl⟩, s2⟩
        obtain ⟨hi, rfl⟩ := range_item hxi
        obtain ⟨way, hway, hat⟩ : ∃ way : Str, Way way ∧ atI [V.str "rows", V.str "columns", V.str "all"] ((d + (0 + (i : Int))) % 3) = some (V.str way) := by
          have h3 : (d + (0 + (i : Int))) % 3 = 0 ∨ (d + (0 + (i : Int))) % 3 = 1 ∨ (d + (0 + (i : Int))) % 3 = 2 := by omega
          rcases h3 with e | e | e
          · rw [e]; exact ⟨_, .inl rfl, atI_nat (j := 0) rfl⟩
          · rw [e]; exact ⟨_, .inr (.inl rfl), atI_nat (j := 1) rfl⟩
          · rw [e]; exact ⟨_, .inr (.inr rfl), atI_nat (j := 2) rfl⟩
        walk_at "dl"
        refine ⟨small_line (by decide), fun p1 hp1 => ?_⟩
        have g3 : upd H2 p1 (HO.lst [V.str "rows", V.str "columns", V.str "all"]) p1 = some (.lst [V.str "rows", V.str "columns", V.str "all"]) := upd_same
        have s3 := s2.new hp1 (HO.lst [V.str "rows", V.str "columns", V.str "all"])
        generalize upd H2 p1 (HO.lst [V.str "rows", V.str "columns", V.str "all"]) = H3 at *
        have hp3 := s3 _ _ hp
        have hg3 := hg.mono s3
        refine ⟨p1, _, _, V.str way, rfl, rfl, .of g3, hat, ⟨_, .of hp3⟩, ?_⟩
        refine comp_walk walk_list (by rw [hx]; exact small_line (by omega)) (fun m ys H' => Same H3 H' ∧ GridV H' ys (g.take m)) ⟨Same.refl _, All2.nil⟩ (fun _ _ _ _ q => .of (q.1 _ _ hp3)) (fun m ys H' q => by rw [q.2.1, List.length_take]; omega) ?_ ?_
        · rintro m y ys H4 hy ⟨s4, A4⟩
          obtain ⟨r, hr1, pr, rfl, hpr⟩ := All2.at hg3 hy
          walk_at "dl"
          refine ⟨_, .inl (.of (s4 _ _ hpr)), fun q hq => ⟨⟨_, rfl⟩, s4.new hq _, ?_⟩⟩
          rw [List.take_succ, hr1]
          exact All2.snoc (A4.mono (Same.upd_new hq _)) ⟨q, rfl, upd_same⟩
        · rintro ys H4 ⟨s4, A4⟩ D hD
          rw [List.take_of_length_le (by omega)] at A4
          have u5 := Same.upd_new hD (HO.lst ys)
          have g5 : upd H4 D (HO.lst ys) D = some (.lst ys) := upd_same
          have hg5 := A4.mono u5
          have s5 := s3.trans (s4.trans u5)
          clear u5
          generalize upd H4 D (HO.lst ys) = H5 at *
          refine ⟨D, ys, way, g, R, C, rfl, g5, hg5, ok, by omega, by omega, hway, hB, fun H6 q ts s6 hqn hq htold => ?_⟩
          have s56 := s5.trans s6
          refine gridEq_of (s6 _ _ g5) (hg5.mono s6) (s56 _ _ hp) (hg.mono s56) ⟨false, rfl, ?_⟩
          rw [if_neg (by decide)]
          refine ⟨p, q, xs, ts, way, g, R, C, H5, rfl, s56 _ _ hp, hg.mono s56, ok, by omega, by omega, hway, hB, hq, htold, fun H7 s7 => ⟨true, rfl, ?_⟩⟩
          rw [if_neg (by decide)]
          have hq7 := s7 _ _ hq
          have ht7 := htold.mono s7
          have s57 := s6.trans s7
          refine for_in ?_
          walk_at "dl"
          refine ⟨⟨_, .of hq7⟩, ?_⟩
          have rows7 : ∀ x ∈ ts, ∃ p2 zs, x = V.ref p2 ∧ p2 ≠ q ∧ H5 p2 = none ∧ H7 p2 = some (.lst zs) ∧ zs.length ≤ 1000 := fun x hxm => by
            obtain ⟨j, hj⟩ := List.mem_iff_getElem?.mp hxm
            obtain ⟨p2, zs, rfl, f2, h2, A2⟩ := ht7.2 j x hj
            refine ⟨p2, zs, rfl, fun e => ?_, f2, h2, by rw [A2.1]; unfold prs; rw [List.length_map, List.length_range]; omega⟩
            subst e
            have e2 : ts = zs := by
              rw [hq7] at h2
              injection h2 with h2
              injection h2
            rw [e2] at hxm
            obtain ⟨nw, _, sh⟩ := A2.meml hxm
            rcases sh with ⟨_, z⟩ | ⟨_, p5, z, h5⟩
            · cases z
            · cases z
              rw [hq7] at h5
              cases h5
          refine ForW.of walk_list (fun j σ H' => (∃ v9, σ = [some (V.ref a), some (V.int R), some (V.int C), some (V.ref p), some (V.int d), some (V.int (0 + (i : Int))), some (V.str way), some (V.ref D), some (V.ref q), v9, none, none]) ∧ Same H5 H' ∧ H' q = some (.lst ts) ∧ ∀ x ∈ ts, ∃ p2 zs, x = V.ref p2 ∧ p2 ≠ q ∧ H5 p2 = none ∧ H' p2 = some (.lst zs) ∧ zs.length ≤ 1000 + j) ⟨⟨_, rfl⟩, s57, hq7, rows7⟩ (fun j σ H' _ z => .of z.2.2.1) ?_ ?_
          · rintro j x σ H8 hxj ⟨⟨v10, rfl⟩, s8, hq8, r8⟩
            have hj : j < R := by rw [← ht7.1]; exact (List.getElem?_eq_some_iff.mp hxj).1
            obtain ⟨p2, zs, rfl, n2, f2, h2, l2⟩ := r8 x (List.mem_of_getElem? hxj)
            walk_at "dl"
            refine ⟨.inl ⟨rfl, _, .of h2⟩, p2, zs, _, rfl, rfl, h2, (show zs.length + 1 ≤ sizeLine from small_line (by omega)), ⟨_, rfl⟩, s8.set f2 _, by rw [upd_ne (Ne.symm n2)]; exact hq8, fun y hy => ?_⟩
            obtain ⟨p3, zs3, rfl, n3, f3, h3, l3⟩ := r8 y hy
            by_cases e : p3 = p2
            · subst e
              exact ⟨p3, rfl, n3, f3, _, upd_same, by simp; omega⟩
            · exact ⟨p3, rfl, n3, f3, zs3, by rw [upd_ne e]; exact h3, by omega⟩
          · rintro σ H8 ⟨⟨v10, rfl⟩, s8, hq8, r8⟩
            walk_at "dl"
            exact ⟨.inl ⟨rfl, _, .of hq8⟩, small_line (by decide), fun p9 hp9 => ⟨q, ts, _, rfl, rfl, Same.upd_new hp9 _ _ _ hq8, (show ts.length + 1 ≤ sizeLine from small_line (by rw [ht7.1]; omega)), ⟨_, rfl⟩, s5.trans ((s8.new hp9 _).set hqn _)⟩⟩
      · rintro σ H2 ⟨⟨v5, v6, v7, v8, v9, rfl⟩, s2⟩
        exact last H2 _ _ _ _ _ s2
    clear hB
    walk_at "dl"
    refine ⟨a, ns, _, _, rfl, hs, by omega, by omega, by omega, fun r0 r1 r2 => ⟨a, ns, _, _, rfl, hs, by omega, by omega, by omega, fun c0 c1 c2 => ?_⟩⟩
    refine ⟨a, ns, _, _, rfl, hs, by omega, by omega, by omega, fun d3 e1 e2 => ⟨d3, rfl, ⟨by decide, by decide⟩, ?_⟩⟩
    by_cases c9 : d3 / 7 = 9
    · rw [if_pos c9]
      refine ⟨a, ns, _, _, rfl, hs, by omega, by omega, by omega, fun d4 f1 f2 => ⟨d4, rfl, ⟨by decide, by decide⟩, ?_⟩⟩
      split
      · exact fin 2 40 (by omega) (by omega)
      · exact fin 40 2 (by omega) (by omega)
    · rw [if_neg c9]
      refine ⟨a, ns, _, _, rfl, hs, by omega, by omega, by omega, fun d4 f1 f2 => ⟨d4, rfl, ⟨by decide, by decide⟩, ?_⟩⟩
      split
      · exact fin 2 40 (by omega) (by omega)
      · obtain ⟨R, rfl⟩ : ∃ R : Nat, r0 = (R : Int) := ⟨r0.toNat, by omega⟩
        obtain ⟨C, rfl⟩ : ∃ C : Nat, c0 = (C : Int) := ⟨c0.toNat, by omega⟩
        exact fin R C (by omega) (by omega)
end
theorem walk {l : PySem.W.OpenLaw} {q : Program} {loose : List Str} {XP : (Str → Option Value) → Heap → Prop} {YP : World → Heap → Prop} {d : DefRec} {K : Params → PySem.W.Frag} (hn : l.most = some 63) (hdf : d.params.defaults = [])
    (hY : ∀ (w : World) (h : Heap), YP w h → (K w.params).In h)
    (F : ∀ (w : World) (mg : Str → Option Value) (fa : Addr) (h : Heap), (K w.params).In h → h.Ns mainGlobals mg → mg d.name = some (.ref fa) →
      ∃ fd : FuncData, (∀ (s : Shared) (u : Value), BindsTo s fd ⟨[u], []⟩ [("_law_script", u)]) ∧ ∀ base : Heap, (K w.params).In base → base.Ns mainGlobals mg → FnOk l.prog w (K w.params) mg base CX0 6 fa fd ["_law_script"] (sp_law (K w.params))) :
    PySem.W.WalkO q loose XP YP l.row.toRowW d [] (fun f vs => PySem.call f vs) :=
  L2.walk_of (n := 63) (k := 6) (x := "_law_script") (CX := fun _ => CX0) (sp := fun w => sp_law (K w.params)) hn (by decide) hdf ⟨rfl, by decide, by decide⟩ hY F (fun _ _ a ns hl _ hS => ⟨a, ns, rfl, hS, hl, fun _ => rfl⟩) fun _ _ _ _ _ z => z
theorem all_mk {l : PySem.W.OpenLaw} {w : World} {K : PySem.W.Frag} {h : Heap} {mg : Str → Option Value} {fa : Addr} (X : K.In h) (G : h.Ns mainGlobals mg) (hfa : mg "law" = some (.ref fa)) (T : ∃ f fd, Txt K mg f fd ∧ f 19 = f 19 ∧ ∃ kV dc pm an cd ct, fd 19 = PySem.W.fnOf "law" "law" (defArgs s_law) (defBody s_law) (defScope s_law) .none kV dc pm an cd ct) :
    ∃ fd : FuncData, (∀ (s : Shared) (v : Value), BindsTo s fd ⟨[v], []⟩ [("_law_script", v)]) ∧ ∀ base : Heap, K.In base → base.Ns mainGlobals mg → FnOk l.prog w K mg base CX0 6 fa fd ["_law_script"] (sp_law K) := by
  obtain ⟨f, fd, T, _, kV, dc, pm, an, cd, ct, e⟩ := T
  have e2 := hfa.symm.trans T.d_law.m
  cases e2
  exact ⟨fd 19, fun s v => by rw [e]; exact .of_eq rfl, fun base _ _ => ok_law T⟩
end NS
open PySem PySem.W PyProof.Rows
set_option maxRecDepth 100000 in
set_option maxHeartbeats 0 in
theorem PySem.Challenge.cw_crosshall_k34_shares_come_to_one_holds : PySem.Challenge.rw_crosshall_k34_shares_come_to_one.Holds := by
  w_on; o_law; k_head; (case hw => w_witness2)
  k_fill
  refine NS.walk (l := PySem.Challenge.rw_crosshall_k34_shares_come_to_one) rfl rfl (fun w h Y => PySem.W.kIn_of Y) ?F
  case F =>
    intro w mg fa h KX G hmg
    refine NS.all_mk KX G hmg ?_
    suffices TT : ∃ f fd, NS.Txt (L2.KOf KX) mg f fd ∧ f 19 = f 19 ∧ ∃ kV dc pm an cd ct, fd 19 = PySem.W.fnOf "law" "law" (L2.defArgs NS.s_law) (L2.defBody NS.s_law) (L2.defScope NS.s_law) .none kV dc pm an cd ct from TT
    dsimp only [L2.KOf]
    obtain ⟨f, fd, T, _, z⟩ : ∃ f fd, NS.Txt _ mg f fd ∧ f 19 = _ ∧ ∃ kV dc pm an cd ct, fd 19 = PySem.W.fnOf "law" "law" (L2.defArgs NS.s_law) (L2.defBody NS.s_law) (L2.defScope NS.s_law) .none kV dc pm an cd ct := by
      refine' NS.txt_mk KX G ?a1 ?l1 ?c1 ?k1 ?a2 ?l2 ?c2 ?k2 ?a3 ?l3 ?c3 ?k3 ?a4 ?l4 ?c4 ?k4 ?a5 ?l5 ?c5 ?k5 ?a6 ?l6 ?c6 ?k6 ?a7 ?l7 ?c7 ?k7 ?a9 ?l9 ?c9 ?k9 ?a10 ?l10 ?c10 ?k10 ?a11 ?l11 ?c11 ?k11 ?a12 ?l12 ?c12 ?k12 ?a13 ?l13 ?c13 ?k13 ?a14 ?l14 ?c14 ?k14 ?a15 ?l15 ?c15 ?k15 ?a16 ?l16 ?c16 ?k16 ?a17 ?l17 ?c17 ?k17 ?a18 ?l18 ?c18 ?k18 ?a19 ?l19 ?c19 ?k19 ?z_abs ?z_all ?z_bool ?z_int ?z_isinstance ?z_len ?z_list ?z_range ?z_sum ?z_tuple ?z_zip
      (case a1 => k_is)
      (case l1 => k_is)
      (case c1 => k_is)
      (case k1 => k_is)
      (case a2 => k_is)
      (case l2 => k_is)
      (case c2 => k_is)
      (case k2 => k_is)
      (case a3 => k_is)
      (case l3 => k_is)
      (case c3 => k_is)
      (case k3 => k_is)
      (case a4 => k_is)
      (case l4 => k_is)
      (case c4 => k_is)
      (case k4 => k_is)
      (case a5 => k_is)
      (case l5 => k_is)
      (case c5 => k_is)
      (case k5 => k_is)
      (case a6 => k_is)
      (case l6 => k_is)
      (case c6 => k_is)
      (case k6 => k_is)
      (case a7 => k_is)
      (case l7 => k_is)
      (case c7 => k_is)
      (case k7 => k_is)
      (case a9 => k_is)
      (case l9 => k_is)
      (case c9 => k_is)
      (case k9 => k_is)
      (case a10 => k_is)
      (case l10 => k_is)
      (case c10 => k_is)
      (case k10 => k_is)
      (case a11 => k_is)
      (case l11 => k_is)
      (case c11 => k_is)
      (case k11 => k_is)
      (case a12 => k_is)
      (case l12 => k_is)
      (case c12 => k_is)
      (case k12 => k_is)
      (case a13 => k_is)
      (case l13 => k_is)
      (case c13 => k_is)
      (case k13 => k_is)
      (case a14 => k_is)
      (case l14 => k_is)
      (case c14 => k_is)
      (case k14 => k_is)
      (case a15 => k_is)
      (case l15 => k_is)
      (case c15 => k_is)
      (case k15 => k_is)
      (case a16 => k_is)
      (case l16 => k_is)
      (case c16 => k_is)
      (case k16 => k_is)
      (case a17 => k_is)
      (case l17 => k_is)
      (case c17 => k_is)
      (case k17 => k_is)
      (case a18 => k_is)
      (case l18 => k_is)
      (case c18 => k_is)
      (case k18 => k_is)
      (case a19 => k_is)
      (case l19 => k_is)
      (case c19 => k_is)
      (case k19 => k_is)
      (case z_abs => k_is)
      (case z_all => k_is)
      (case z_bool => k_is)
      (case z_int => k_is)
      (case z_isinstance => k_is)
      (case z_len => k_is)
      (case z_list => k_is)
      (case z_range => k_is)
      (case z_sum => k_is)
      (case z_tuple => k_is)
      (case z_zip => k_is)
    exact ⟨f, fd, T, rfl, z⟩
