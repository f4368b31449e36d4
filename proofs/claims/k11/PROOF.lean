import PyProof.Rows.All
import Wide.All
import OpenK.AllK
import Wide.FinOn
import Lean
import PyProof.EqAt
import PyProof.EqKinds
import PyProof.TupleCall
import OpenK.KOwn
import PyProof.InstStoreFacts
import PyProof.EnumFor
import PyProof.EnumMake
import PyProof.EnumStmt
import KE.KDictList
import PyProof.ListRange
import PyProof.Rows.SetFrom
import PyProof.WalksMore
import PyProof.AttrMissSeq
import KE.KDictOf
import PyProof.MinMaxWalk
import PyProof.Rows.CallKwBuiltin
import KE.KMinKey
import KE.KRevSl
import PyProof.SumAny
import PySem.Challenge.RW_crosshall_k11_figures
-- CHANGE: your row's module here, as the last of these rows
set_option Elab.async false
set_option linter.all false
set_option maxRecDepth 100000
/-! THE HAND LAYER, for ints, bools, texts, own classes, LISTS and tuples (index, slices, in, append, pop ..), calls, loops. Paste it whole ahead of your own text; what your proof does not reach may be deleted. -/
namespace L2
open PySem PySem.Spec PyProof.Rows

/-  a key: an int or a str -/
abbrev Key := Sum Int Str
def keyIs : Key → Value → Bool
  | .inl k, v => Value.isInt k v
  | .inr x, v => Value.isStrOf x v
def keyH (w : World) : Key → Int
  | .inl k => hashInt k
  | .inr x => hashStr w x
theorem keyIs_shape : ∀ {k : Key} {v : Value}, keyIs k v = true → (∃ i t, k = Sum.inl i ∧ v = Value.int i t) ∨ (∃ x t, k = Sum.inr x ∧ v = Value.str x t)
  | .inl i, v, h => by
    obtain ⟨t, e⟩ := Value.isInt_shape (k := i) (v := v) h
    exact .inl ⟨i, t, rfl, e⟩
  | .inr x, v, h => by
    obtain ⟨t, e⟩ := Value.isStrOf_shape (x := x) (v := v) h
    exact .inr ⟨x, t, rfl, e⟩
theorem keyIs_int (i : Int) (t : Tok) : keyIs (.inl i) (.int i t) = true := by simp [keyIs, Value.isInt]
theorem keyIs_str (x : Str) (t : Tok) : keyIs (.inr x) (.str x t) = true := by simp [keyIs, Value.isStrOf]
theorem key_ll (a b : Int) : decide ((Sum.inl a : Key) = Sum.inl b) = (a == b) := by
  by_cases e : a = b
  · subst e; simp
  · have h : ¬ (Sum.inl a : Key) = Sum.inl b := fun q => e (Sum.inl.inj q)
    rw [decide_eq_false h]
    exact (beq_eq_false_iff_ne.mpr e).symm
theorem key_rr (a b : Str) : decide ((Sum.inr a : Key) = Sum.inr b) = decide (a = b) := by
  by_cases e : a = b
  · subst e; simp
  · have h : ¬ (Sum.inr a : Key) = Sum.inr b := fun q => e (Sum.inr.inj q)
    rw [decide_eq_false h, decide_eq_false e]
theorem key_lr (a : Int) (b : Str) : decide ((Sum.inl a : Key) = Sum.inr b) = false := decide_eq_false (fun q => nomatch q)
theorem key_rl (a : Str) (b : Int) : decide ((Sum.inr a : Key) = Sum.inl b) = false := decide_eq_false (fun q => nomatch q)

def mixKind (prog : Program) (w : World) : PySem.KeyKind prog w Key where
  is := keyIs
  hash := keyH w
  inj := fun v a b ha hb => by
    rcases keyIs_shape ha with ⟨i, t, rfl, rfl⟩ | ⟨x, t, rfl, rfl⟩
    · rcases keyIs_shape hb with ⟨j, u, rfl, e⟩ | ⟨y, u, rfl, e⟩
      · injection e with e1 _; rw [e1]
      · exact nomatch e
    · rcases keyIs_shape hb with ⟨j, u, rfl, e⟩ | ⟨y, u, rfl, e⟩
      · exact nomatch e
      · injection e with e1 _; rw [e1]
  byValue := fun k v h => by
    rcases keyIs_shape h with ⟨i, t, rfl, rfl⟩ | ⟨x, t, rfl, rfl⟩ <;> rfl
  pyHash := fun hv h => by
    rcases keyIs_shape hv with ⟨i, t, rfl, rfl⟩ | ⟨x, t, rfl, rfl⟩
    · exact wpAny_pyHash_int h
    · exact wpAny_pyHash_str h
  eqBool := fun hu hv h => by
    rcases keyIs_shape hu with ⟨i, t, rfl, rfl⟩ | ⟨x, t, rfl, rfl⟩
    · rcases keyIs_shape hv with ⟨j, u, rfl, rfl⟩ | ⟨y, u, rfl, rfl⟩
      · rw [key_ll] at h; exact wpAny_eqBool_int h
      · rw [key_lr] at h; exact SeqAt.EqAt.int_str i t y u _ _ _ _ h
    · rcases keyIs_shape hv with ⟨j, u, rfl, rfl⟩ | ⟨y, u, rfl, rfl⟩
      · rw [key_rl] at h; exact SeqAt.EqAt.str_int x t j u _ _ _ _ h
      · rw [key_rr] at h; exact wpAny_eqBool_str h
  «strs» := fun k x t v h => by
    rcases keyIs_shape h with ⟨i, u, rfl, e⟩ | ⟨y, u, rfl, e⟩
    · exact nomatch e
    · injection e with e1 _
      subst e1
      cases v <;> rfl

theorem mixKind_int (prog : Program) (w : World) (i : Int) (t : Tok) : (mixKind prog w).is (.inl i) (.int i t) = true := keyIs_int i t
theorem mixKind_str (prog : Program) (w : World) (x : Str) (t : Tok) : (mixKind prog w).is (.inr x) (.str x t) = true := keyIs_str x t
end L2

namespace L2
open PySem PySem.Spec PyProof.Rows

/-  a value, without the heap -/
inductive V where
  | non | bl (b : Bool) | int (i : Int) | str (x : Str) | byt (b : Array UInt8) | flt (b : UInt64) | ref (a : Addr) | ty (n : String)
  deriving DecidableEq

def RelV : V → Value → Prop
  | .non, u => u = Value.none
  | .bl b, u => u = Value.bool b
  | .int i, u => ∃ t, u = Value.int i t
  | .str x, u => ∃ t, u = Value.str x t
  | .byt b, u => ∃ t, u = Value.bytes b t
  | .flt b, u => ∃ t, u = Value.float b t
  | .ref a, u => u = Value.ref a
  | .ty n, u => u = Value.type n

abbrev Vals : List V → List Value → Prop := Paired RelV
theorem Vals.length {xs : List V} {us : List Value} (r : Vals xs us) : xs.length = us.length := Paired.length r
theorem Vals.get : ∀ {xs : List V} {us : List Value} {i : Nat} {x : V}, Vals xs us → xs[i]? = some x → ∃ u, us[i]? = some u ∧ RelV x u
  | _, _, _, _, .nil, e => by simp at e
  | _, _, 0, _, .cons r _, e => by simp at e; subst e; exact ⟨_, rfl, r⟩
  | _, _, i + 1, x, .cons _ t, e => by
    obtain ⟨u, h1, h2⟩ := Vals.get (i := i) (x := x) t (by simpa using e)
    exact ⟨u, by simpa using h1, h2⟩
theorem Vals.append : ∀ {xs ys : List V} {us ws : List Value}, Vals xs us → Vals ys ws → Vals (xs ++ ys) (us ++ ws)
  | _, _, _, _, .nil, s => s
  | _, _, _, _, .cons r t, s => .cons r (Vals.append t s)
theorem Vals.take : ∀ {xs : List V} {us : List Value} (n : Nat), Vals xs us → Vals (xs.take n) (us.take n)
  | _, _, 0, _ => .nil
  | _, _, _ + 1, .nil => .nil
  | _, _, n + 1, .cons r t => .cons r (Vals.take n t)
theorem Vals.drop : ∀ {xs : List V} {us : List Value} (n : Nat), Vals xs us → Vals (xs.drop n) (us.drop n)
  | _, _, 0, r => r
  | _, _, _ + 1, .nil => .nil
  | _, _, n + 1, .cons _ t => Vals.drop n t

def RelO : Option V → Option Value → Prop
  | some v, some u => RelV v u
  | none, none => True
  | _, _ => False
def KV {κ : Type} : List (κ × V) → List (κ × Value) → Prop := Paired fun (p : κ × V) (q : κ × Value) => p.1 = q.1 ∧ RelV p.2 q.2

/-  a key of a dict (00_mix): an int or a text -/
def kV : Key → V
  | .inl i => .int i
  | .inr x => .str x

/-  what stands at a tracked address -/
inductive HO where
  /-  a list -/
  | lst (xs : List V)
  /-  a tuple (never changes) -/
  | tup (xs : List V)
  /-  a dict whose keys are ints and texts; one whose keys are tuples of ints and texts (the empty one is both) -/
  | dK (kvs : List (Key × V)) | dT (kvs : List (List Key × V))
  /-  a set of ints: its members, its size -/
  | set (S : Int → Bool) (n : Nat)
  /-  an instance of the class at C, its dict at dx, its attributes -/
  | ins (C dx : Addr) (fs : List (Str × V))
  /-  the dict of the instance at x -/
  | own (x : Addr)
  /-  the dict of an exception -/
  | xd (fs : List (Str × V))
  /-  a bound method, f of x -/
  | met (f x : Addr)
  /-  a range object lo, lo + 1, .. below hi -/
  | rng (lo hi : Int)
  /-  a thing that is known to the object (the script; a dict while a loop walks it): read, never written while it is so -/
  | frz (o : Obj) (u : HO)
  /-  a code object's table -/
  | tbl (ps : Array Value)
  /-  any other thing, by what is true of its one object (a def of one's own: SetO a S n := HO.ext fun h => ..) -/
  | ext (φ : Heap → Prop)

abbrev Hp := Addr → Option HO
def upd (H : Hp) (a : Addr) (o : HO) : Hp := fun b => if b = a then some o else H b
theorem upd_same {H : Hp} {a : Addr} {o : HO} : upd H a o a = some o := by unfold upd; rw [if_pos rfl]
theorem upd_ne {H : Hp} {a b : Addr} {o : HO} (h : b ≠ a) : upd H a o b = H b := by unfold upd; rw [if_neg h]
theorem upd_upd {H : Hp} {a : Addr} {o u : HO} : upd (upd H a o) a u = upd H a u := by
  funext b; unfold upd; split <;> rfl
theorem ne_of_none {H : Hp} {a b : Addr} {o : HO} (h : H a = some o) (h' : H b = none) : a ≠ b := by
  intro e; subst e; rw [h] at h'; cases h'

section
variable (P : Program) (w : World)
def ObjOk (H : Hp) (h : Heap) (a : Addr) : HO → Prop
  | .lst xs => xs.length ≤ sizeLine ∧ ∃ (its : List Value) (n : Nat), Vals xs its ∧ h.get? a = some { cls := .type "list", data := .seq its.toArray n }
  | .tup xs => xs.length ≤ sizeLine ∧ ∃ its : List Value, Vals xs its ∧ IsTup h a its.toArray
  | .dK kvs => kvs.length ≤ sizeLine ∧ (a == sysModules) = false ∧ ∃ vs, KV kvs vs ∧ h.DictOf (mixKind P w) a vs
  | .dT kvs => kvs.length ≤ sizeLine ∧ (a == sysModules) = false ∧ ∃ xs : List (List Key × Addr × Value),
      Paired (fun (p : List Key × V) (q : List Key × Addr × Value) => p.1 = q.1 ∧ H q.2.1 = some (.tup (p.1.map kV)) ∧ RelV p.2 q.2.2) kvs xs ∧
      ∃ o es ep, h.get? a = some o ∧ o.ExactDict ∧ o.data = .dict es ep ∧ es.toList = xs.map (entryOfKey (tupleKind (mixKind P w))) ∧ (xs.map (·.1)).Nodup
  | .set S n => h.SetOf (intKind P w) a S n
  | .ins C dx fs => H dx = some (.own a) ∧ fs.length ≤ 1000 ∧ dx ≠ a ∧ h.get? a = some (PySem.W.instObj C dx) ∧
      ∃ mA, h.Ns1 dx mA ∧ (∀ f, RelO (fs.lookup f) (mA f)) ∧ PySem.Within mA (fs.map (·.1))
  | .own _ => ∃ o, h.get? a = some o
  | .xd fs => ∃ mA, h.Ns1 a mA ∧ ∀ f, RelO (fs.lookup f) (mA f)
  | .rng lo hi => ∃ t u v, h.get? a = some { cls := .type "range", data := .fields #[.int lo t, .int hi u, .int 1 v] }
  | .frz o u => h.get? a = some o ∧ ObjOk H h a u
  | .tbl ps => h.get? a = some { cls := .none, data := .fields ps }
  | .met f x => h.get? a = some (PySem.W.methodObj (.ref f) (.ref x))
  | .ext φ => φ h ∧ (∃ o, h.get? a = some o) ∧ ∀ h1 h2 : Heap, φ h1 → (∀ o, h1.get? a = some o → h2.get? a = some o) → φ h2
/-  the abstract heap is held -/
def HOk (H : Hp) (h : Heap) : Prop := ∀ a o, H a = some o → ObjOk P w H h a o
end

section
variable {P : Program} {w : World} {H H' : Hp} {h h' : Heap} {a : Addr} {o : HO}
theorem ObjOk.lt (x : ObjOk P w H h a o) : a < h.objs.size := by
  cases o with
  | lst xs => obtain ⟨_, _, _, _, e⟩ := x; exact Heap.lt_size e
  | tup xs => obtain ⟨_, _, _, p⟩ := x; exact p.lt
  | dK kvs => obtain ⟨_, _, _, _, o, _, _, e, _⟩ := x; exact Heap.lt_size e
  | dT kvs => obtain ⟨_, _, _, _, o, _, _, e, _⟩ := x; exact Heap.lt_size e
  | set S n => obtain ⟨o, _, _, _, e, _⟩ := x; exact Heap.lt_size e
  | ins C dx fs => obtain ⟨_, _, _, e, _⟩ := x; exact Heap.lt_size e
  | own y => obtain ⟨_, e⟩ := x; exact Heap.lt_size e
  | xd fs => obtain ⟨_, ⟨_, _, _, e, _⟩, _⟩ := x; exact Heap.lt_size e
  | rng lo hi => obtain ⟨_, _, _, e⟩ := x; exact Heap.lt_size e
  | frz ob u => obtain ⟨e, _⟩ := x; exact Heap.lt_size e
  | tbl ps => exact Heap.lt_size (show h.get? a = some _ from x)
  | met f y => exact Heap.lt_size (show h.get? a = some _ from x)
  | ext φ => obtain ⟨_, ⟨_, e⟩, _⟩ := x; exact Heap.lt_size e
theorem Paired.mapP {α β : Type} {F G : α → β → Prop} : ∀ {l₁ : List α} {l₂ : List β}, Paired F l₁ l₂ → (∀ a b, F a b → G a b) → Paired G l₁ l₂
  | _, _, .nil, _ => .nil
  | _, _, .cons r t, f => .cons (f _ _ r) (Paired.mapP t f)
/-  what an object's description leans on: its own object, its own dict, the tuples -/
theorem ObjOk.stay (x : ObjOk P w H h a o) (k : ∀ b u, (b = a ∨ H b = some (.own a)) → h.get? b = some u → h'.get? b = some u)
    (ho : ∀ b, H b = some (.own a) → H' b = some (.own a)) (ht : ∀ b xs, H b = some (.tup xs) → H' b = some (.tup xs)) : ObjOk P w H' h' a o := by
  induction o with
  | lst xs => obtain ⟨z, its, n, r, e⟩ := x; exact ⟨z, its, n, r, k _ _ (.inl rfl) e⟩
  | tup xs => obtain ⟨z, its, r, ob, e, c⟩ := x; exact ⟨z, its, r, ob, k _ _ (.inl rfl) e, c⟩
  | dK kvs => obtain ⟨z, y, vs, r, ob, es, ep, e, c⟩ := x; exact ⟨z, y, vs, r, ob, es, ep, k _ _ (.inl rfl) e, c⟩
  | dT kvs =>
    obtain ⟨z, y, xs, r, ob, es, ep, e, c⟩ := x
    exact ⟨z, y, xs, Paired.mapP r fun p q z => ⟨z.1, ht _ _ z.2.1, z.2.2⟩, ob, es, ep, k _ _ (.inl rfl) e, c⟩
  | set S n => obtain ⟨ob, es, ep, t, e, c⟩ := x; exact ⟨ob, es, ep, t, k _ _ (.inl rfl) e, c⟩
  | ins C dx fs =>
    obtain ⟨d, z, ne, e, mA, ⟨od, es, ep, e2, c⟩, r⟩ := x
    exact ⟨ho _ d, z, ne, k _ _ (.inl rfl) e, mA, ⟨od, es, ep, k _ _ (.inr d) e2, c⟩, r⟩
  | own y => obtain ⟨ob, e⟩ := x; exact ⟨ob, k _ _ (.inl rfl) e⟩
  | xd fs => obtain ⟨mA, ⟨od, es, ep, e, c⟩, r⟩ := x; exact ⟨mA, ⟨od, es, ep, k _ _ (.inl rfl) e, c⟩, r⟩
  | rng lo hi => obtain ⟨t, u, v, e⟩ := x; exact ⟨t, u, v, k _ _ (.inl rfl) e⟩
  | frz ob u ih => obtain ⟨e, q⟩ := x; exact ⟨k _ _ (.inl rfl) e, ih q⟩
  | tbl ps =>
    have e : h.get? a = some { cls := .none, data := .fields ps } := x
    show h'.get? a = some { cls := .none, data := .fields ps }
    exact k a _ (.inl rfl) e
  | met f y =>
    have e : h.get? a = some (PySem.W.methodObj (.ref f) (.ref y)) := x
    show h'.get? a = some (PySem.W.methodObj (.ref f) (.ref y))
    exact k a _ (.inl rfl) e
  | ext φ => obtain ⟨p, ⟨o, e⟩, st⟩ := x; exact ⟨st _ _ p fun o q => k _ _ (.inl rfl) q, ⟨o, k _ _ (.inl rfl) e⟩, st⟩
theorem HOk.lt (x : HOk P w H h) (e : H a = some o) : a < h.objs.size := (x a o e).lt
theorem HOk.fresh (x : HOk P w H h) (e : h.objs.size ≤ a) : H a = none := by
  cases q : H a with
  | none => rfl
  | some u => exact absurd (Nat.lt_of_lt_of_le (x.lt q) e) (Nat.lt_irrefl _)
/-  every object of the heap is kept -/
theorem HOk.kept (x : HOk P w H h) (k : ∀ b u, h.get? b = some u → h'.get? b = some u) : HOk P w H h' := fun a o e =>
  (x a o e).stay (fun b u _ q => k b u q) (fun _ q => q) fun _ _ q => q
/-  a new object is laid and tracked -/
theorem HOk.laid (x : HOk P w H h) (k : ∀ b u, h.get? b = some u → h'.get? b = some u) (hp : h.objs.size ≤ a) (new : ObjOk P w (upd H a o) h' a o) : HOk P w (upd H a o) h' := fun b u e => by
  have hn := x.fresh hp
  by_cases hb : b = a
  · subst hb; rw [upd_same] at e; cases e; exact new
  · rw [upd_ne hb] at e
    exact (x b u e).stay (fun c v _ q => k c v q) (fun c q => by rw [upd_ne (ne_of_none q hn)]; exact q) fun c xs q => by rw [upd_ne (ne_of_none q hn)]; exact q
end

/-  what may be read as u: it is u, or a known u -/
def Rd (H : Hp) (a : Addr) (u : HO) : Prop := H a = some u ∨ ∃ o, H a = some (.frz o u)
theorem Rd.ok {P : Program} {w : World} {H : Hp} {h : Heap} {a : Addr} {u : HO} (r : Rd H a u) (x : HOk P w H h) : ObjOk P w H h a u := by
  rcases r with r | ⟨o, r⟩
  · exact x a u r
  · obtain ⟨_, q⟩ := x a _ r
    exact q
/-  what may be written -/
def Mut : Option HO → Prop
  | some (.lst _) => True
  | some (.dK _) => True
  | some (.dT _) => True
  | some (.set _ _) => True
  | some (.ins _ _ _) => True
  | some (.ext _) => True
  | _ => False
section
variable {P : Program} {w : World} {H : Hp} {h h' : Heap} {x e : Addr} {o' : HO}
/-  the object at e is changed: x itself, or the dict of the instance x -/
theorem HOk.write (ok : HOk P w H h) (mu : Mut (H x)) (he : e = x ∨ H e = some (.own x)) (k : ∀ b u, b ≠ e → h.get? b = some u → h'.get? b = some u) (heo : ∃ u, h'.get? e = some u)
    (new : ObjOk P w (upd H x o') h' x o') : HOk P w (upd H x o') h' := fun b u q => by
  have nown : ∀ c y, H c = some (.own y) → c ≠ x := fun c y r z => by subst z; rw [r] at mu; exact mu
  have ntup : ∀ c xs, H c = some (.tup xs) → c ≠ x := fun c xs r z => by subst z; rw [r] at mu; exact mu
  by_cases hb : b = x
  · subst hb; rw [upd_same] at q; cases q; exact new
  · rw [upd_ne hb] at q
    by_cases hbe : b = e
    · have q' : H b = some (.own x) := by
        rcases he with z | z
        · exact absurd (hbe.trans z) hb
        · rw [hbe]; exact z
      rw [q] at q'; cases q'
      obtain ⟨v, hv⟩ := heo
      exact ⟨v, by rw [hbe]; exact hv⟩
    · refine (ok b u q).stay (fun c v hc r => k c v ?_ r) (fun c r => by rw [upd_ne (nown c b r)]; exact r) fun c xs r => by rw [upd_ne (ntup c xs r)]; exact r
      rcases hc with rfl | hc
      · exact hbe
      · rintro rfl
        rcases he with z | z
        · exact nown c b hc z
        · rw [hc] at z; cases z; exact hb rfl
end

/-! ### kept unless tracked; of the frames at fs (the callers') the slots may change (an exception that passes writes there); of the records at ex (iterators) nothing is said -/
structure Un (fs ex : List Addr) (H H' : Hp) (h h' : Heap) : Prop where
  keep : ∀ b o, h.get? b = some o → H b = none → b ∉ fs → b ∉ ex → h'.get? b = some o
  slot : ∀ b o, h.get? b = some o → H b = none → b ∈ fs → b ∉ ex → ∃ sl, h'.get? b = some { o with slots := sl }
  free : ∀ b o, h.get? b = some o → H b = none → b ∉ ex → H' b = none
  there : ∀ b o, h.get? b = some o → b ∉ ex → ∃ o', h'.get? b = some o'
  tups : ∀ b xs, H b = some (.tup xs) → H' b = some (.tup xs)
  frzs : ∀ b o u, H b = some (.frz o u) → H' b = some (.frz o u)
  tbls : ∀ b ps, H b = some (.tbl ps) → ∃ more, H' b = some (.tbl (ps ++ more))
section
variable {fs fs' ex ex' : List Addr} {H H1 H2 : Hp} {h h1 h2 h' : Heap} {a x e : Addr} {o : HO}
theorem Un.any (u : Un fs ex H H1 h h1) {b : Addr} {ob : Obj} (q : h.get? b = some ob) (n : H b = none) (hx : b ∉ ex) : ∃ sl, h1.get? b = some { ob with slots := sl } := by
  by_cases hb : b ∈ fs
  · exact u.slot b ob q n hb hx
  · exact ⟨ob.slots, u.keep b ob q n hb hx⟩
theorem Un.kept (k : ∀ b u, h.get? b = some u → h'.get? b = some u) : Un fs ex H H h h' :=
  ⟨fun b ob q _ _ _ => k b ob q, fun b ob q _ _ _ => ⟨ob.slots, k b ob q⟩, fun _ _ _ n _ => n, fun b ob q _ => ⟨ob, k b ob q⟩, fun _ _ q => q, fun _ _ _ q => q, fun _ ps q => ⟨#[], by rw [q]; simp⟩⟩
theorem Un.refl : Un fs ex H H h h := Un.kept fun _ _ q => q
theorem Un.laid (k : ∀ b u, h.get? b = some u → h'.get? b = some u) (hp : h.objs.size ≤ a) (hn : H a = none) : Un fs ex H (upd H a o) h h' where
  keep := fun b u q _ _ _ => k b u q
  slot := fun b u q _ _ _ => ⟨u.slots, k b u q⟩
  free := fun b u q n _ => by rw [upd_ne (Nat.ne_of_lt (Nat.lt_of_lt_of_le (Heap.lt_size q) hp))]; exact n
  there := fun b u q _ => ⟨u, k b u q⟩
  tups := fun b xs q => by rw [upd_ne (ne_of_none q hn)]; exact q
  frzs := fun b u xs q => by rw [upd_ne (ne_of_none q hn)]; exact q
  tbls := fun b ps q => ⟨#[], by rw [upd_ne (ne_of_none q hn), q]; simp⟩
theorem Un.write (mu : Mut (H x)) (he : e = x ∨ H e = some (.own x)) (k : ∀ b u, b ≠ e → h.get? b = some u → h'.get? b = some u) (heo : ∃ u, h'.get? e = some u) : Un fs ex H (upd H x o) h h' := by
  have hx : ∀ b, H b = none → b ≠ x := fun b n z => by subst z; rw [n] at mu; exact mu
  have hb : ∀ b, H b = none → b ≠ e := fun b n z => by
    subst z
    rcases he with r | r
    · exact hx b n r
    · rw [n] at r; cases r
  have hm : ∀ b u, H b = some u → ¬ Mut (some u) → b ≠ x := fun b u q nm z => by subst z; rw [q] at mu; exact nm mu
  refine ⟨fun b u q n _ _ => k b u (hb b n) q, fun b u q n _ _ => ⟨u.slots, k b u (hb b n) q⟩, fun b u q n _ => by rw [upd_ne (hx b n)]; exact n, fun b u q _ => ?_,
    fun b xs q => by rw [upd_ne (hm b _ q fun z => z)]; exact q, fun b u xs q => by rw [upd_ne (hm b _ q fun z => z)]; exact q, fun b ps q => ⟨#[], by rw [upd_ne (hm b _ q fun z => z), q]; simp⟩⟩
  by_cases hbe : b = e
  · subst hbe; exact heo
  · exact ⟨u, k b u hbe q⟩
end

/-! ### the heap without what is tracked -/
def trk (h : Heap) (H : Hp) : List Addr := (List.range h.objs.size).filter fun a => (H a).isSome
def hidT (h : Heap) (H : Hp) : Heap := PySem.W.hideAll h (trk h H)
theorem hidT_size (h : Heap) (H : Hp) : (hidT h H).objs.size = h.objs.size := PySem.W.hideAll_size _ _
theorem hidT_get {h : Heap} {H : Hp} {b : Addr} {o : Obj} (e : h.get? b = some o) (n : H b = none) : (hidT h H).get? b = some o :=
  PySem.W.hideAll_get _ e fun hm => by
    have q : (H b).isSome = true := (List.mem_filter.mp hm).2
    rw [n] at q; simp at q
theorem of_hidT {h : Heap} {H : Hp} {b : Addr} {o : Obj} (e : (hidT h H).get? b = some o) : h.get? b = some o ∧ H b = none := by
  have e' : h.get? b = some o := PySem.W.of_hideAll (trk h H) e
  refine ⟨e', ?_⟩
  cases q : H b with
  | none => rfl
  | some x =>
    have hm : b ∈ trk h H := List.mem_filter.mpr ⟨List.mem_range.mpr (Heap.lt_size e'), by simp [q]⟩
    have z : (hidT h H).get? b = none := PySem.W.hideAll_none (trk h H) hm
    rw [z] at e; cases e

/-! ### OpenK's ledger, filled with every new object but one -/
end L2

namespace L2
open PySem PySem.Spec PyProof.Rows

/-  the module's facts, over the base: the heap at the law's entry without what is tracked there -/
structure Mod (K : PySem.W.Frag) (mg : Str → Option Value) (base : Heap) : Prop where
  kin : K.In base
  glob : base.Ns mainGlobals mg
  blt : ∃ mb, base.Ns builtinsNs mb ∧ ∀ x : Str, x ≠ "__name__" → mb x = bootBuiltins x
  nolimit : base.NoLimit

/-  the context: a def's body (or a comprehension's block) running. base: fixed through the whole law; s₀, H₀: the entry; outer: the frames whose slots others may change (a def's callers); stack: all frames that run;
   ex: iterators that were made ahead of the entry and are walked here (a comprehension's); fn: the names whose cells were made at the entry (a def: all; a comprehension's block: its own); calm: not within an except suite; pn: pins that every state bears; xe: what is wanted of an exception that leaves the code -/
structure Cx where
  prog : Program
  w : World
  K : PySem.W.Frag
  mg : Str → Option Value
  base : Heap
  A : Around
  N : List Str
  s₀ : Shared
  H₀ : Hp
  env : Env
  outer : List Env
  stack : List Env
  ex : List Addr
  fn : Str → Bool
  calm : Bool
  pn : List (Addr × Obj)
  xe : Value → Shared → Prop
/-  the callers' frames -/
def frs (l : List Env) : List Addr := l.filterMap (·.frame)
abbrev Cx.fs (X : Cx) : List Addr := frs X.outer

def Vis (sc : Scope) (x : Str) : Prop := sc.names.lookup x = some .local ∨ sc.names.lookup x = some .cell ∨ sc.names.lookup x = some .free
def Loc (sc : Scope) (x : Str) : Prop := sc.names.lookup x = some .local ∨ sc.names.lookup x = some .cell
def Look (env : Env) (h : Heap) (m : Str → Option Value) (x : Str) (u : Value) : Prop :=
  (env.kindOf x = some .local ∧ m x = some u) ∨ ((env.kindOf x = some .cell ∨ env.kindOf x = some .free) ∧ ∃ c, env.cells.lookup x = some c ∧ h.IsCell c (some u))

structure Cx.Ok (X : Cx) : Prop where
  mod : Mod X.K X.mg X.base
  kind : X.env.scope.kind = .function
  glob : X.env.globals = mainGlobals
  blt : X.env.builtins = builtinsNs
  above : X.s₀.heap.objs.size ≤ X.env.locals
  inj : ∀ x y c, X.env.cells.lookup x = some c → X.env.cells.lookup y = some c → x = y
  has : ∀ x, (X.env.kindOf x = some .cell ∨ X.env.kindOf x = some .free) → ∃ c, X.env.cells.lookup x = some c
  cab : ∀ x c, X.fn x = true → X.env.cells.lookup x = some c → X.s₀.heap.objs.size ≤ c
  hd : X.calm = true → X.A.handled = none
  frames : X.A.frames = some X.stack
  stk : X.stack = X.outer ∨ (X.stack = X.env :: X.outer ∧ X.env.frame = some X.env.locals)
  exf : ∀ b ∈ X.ex, b ≠ X.env.locals ∧ ∀ x c, X.env.cells.lookup x = some c → c ≠ b
  bs : ∀ b o, X.base.get? b = some o → X.s₀.heap.get? b = some o ∧ X.H₀ b = none
  bsz : X.base.objs.size ≤ X.s₀.heap.objs.size
  noex : ∀ b o, X.base.get? b = some o → b ∉ X.ex
  exfs : ∀ b ∈ X.ex, b ∉ X.fs
  funs : X.s₀.heap.FunFrames X.base X.outer
  frf : ∀ b ∈ X.fs, X.H₀ b = none

structure Inv (X : Cx) (pins : List (Addr × Obj)) (σ : List (Option V)) (H : Hp) (s : Shared) : Prop where
  ok : X.Ok
  os : s.os = X.s₀.os
  bare : AllBare s.gens
  base : Un X.fs X.ex X.H₀ H X.s₀.heap s.heap
  loc : ∃ m, s.heap.Ns X.env.locals m ∧ ∀ (i : Nat) (x : Str) (v : V), X.N[i]? = some x → σ[i]? = some (some v) → Vis X.env.scope x → ∃ u, RelV v u ∧ Look X.env s.heap m x u
  cell : ∀ x c, X.env.cells.lookup x = some c → ∃ v, s.heap.IsCell c v
  free : H X.env.locals = none
  freeC : ∀ x c, X.env.cells.lookup x = some c → H c = none
  pin : ∀ p ∈ X.pn ++ pins, s.heap.get? p.1 = some p.2 ∧ H p.1 = none ∧ p.1 ≠ X.env.locals ∧ p.1 ∉ X.fs ∧ ∀ v, p.2.data ≠ .cell v
  hok : HOk X.prog X.w H s.heap
  len : σ.length = X.N.length

section
variable {X : Cx} {pins : List (Addr × Obj)} {σ : List (Option V)} {H H' : Hp} {s : Shared} {h' : Heap}

theorem Cx.Ok.nofr (ok : X.Ok) {b : Addr} {o : Obj} (e : X.base.get? b = some o) : b ∉ X.fs := fun hb => by
  have := (ok.funs.mem hb).1
  rw [e] at this; cases this
theorem Inv.bs (I : Inv X pins σ H s) : ∀ b o, X.base.get? b = some o → s.heap.get? b = some o ∧ H b = none := fun b o e =>
  ⟨I.base.keep b o (I.ok.bs b o e).1 (I.ok.bs b o e).2 (I.ok.nofr e) (I.ok.noex b o e), I.base.free b o (I.ok.bs b o e).1 (I.ok.bs b o e).2 (I.ok.noex b o e)⟩
theorem Inv.bk (I : Inv X pins σ H s) : ∀ b o, X.base.get? b = some o → s.heap.get? b = some o := fun b o e => (I.bs b o e).1
theorem Inv.mod (I : Inv X pins σ H s) : Mod X.K X.mg X.base := I.ok.mod
theorem Inv.kIn (I : Inv X pins σ H s) : X.K.In s.heap := I.ok.mod.kin.keeps I.bk
theorem Inv.lt (I : Inv X pins σ H s) : X.env.locals < s.heap.objs.size := let ⟨_, hn, _⟩ := I.loc; hn.lt
theorem Inv.sz (I : Inv X pins σ H s) : X.s₀.heap.objs.size ≤ s.heap.objs.size := Nat.le_trans I.ok.above (Nat.le_of_lt I.lt)
theorem Inv.nofs (I : Inv X pins σ H s) {a : Addr} (h : s.heap.objs.size ≤ a) : a ∉ X.fs := fun hb => by
  obtain ⟨_, o, ho, _⟩ := I.ok.funs.mem hb
  exact absurd (Nat.lt_of_lt_of_le (Heap.lt_size ho) (Nat.le_trans I.sz h)) (Nat.lt_irrefl _)
theorem Inv.cne (I : Inv X pins σ H s) : ∀ x c, X.env.cells.lookup x = some c → c ≠ X.env.locals := fun x c e z => by
  obtain ⟨v, o, ho, hd⟩ := I.cell x c e
  obtain ⟨m, ⟨o', es, ep, ho', hd', _⟩, _⟩ := I.loc
  rw [z, ho'] at ho; cases ho; rw [hd'] at hd; cases hd
theorem Inv.funs (I : Inv X pins σ H s) : s.heap.FunFrames X.base X.outer := by
  have all : ∀ (l : List Env), (∀ b ∈ frs l, b ∈ X.fs) → X.s₀.heap.FunFrames X.base l → s.heap.FunFrames X.base l := by
    intro l
    induction l with
    | nil => intro _ _; trivial
    | cons env r ih =>
      intro hs hl
      obtain ⟨hk, ⟨L, o, hf, hn, ho, hd⟩, hr⟩ := hl
      have hL : L ∈ X.fs := hs L (by unfold frs; rw [List.filterMap_cons, hf]; exact List.mem_cons_self)
      obtain ⟨sl, e⟩ := I.base.slot L o ho (I.ok.frf L hL) hL fun z => I.ok.exfs L z hL
      exact ⟨hk, ⟨L, _, hf, hn, e, hd⟩, ih (fun b hb => hs b (by unfold frs; rw [List.filterMap_cons, hf]; exact List.mem_cons_of_mem _ hb)) hr⟩
  exact all X.outer (fun _ hb => hb) I.ok.funs

/-  the frames that run, for a call -/
theorem Inv.stack (I : Inv X pins σ H s) : s.heap.FunFrames X.base X.stack := by
  rcases I.ok.stk with e | ⟨e, hf⟩
  · rw [e]; exact I.funs
  · rw [e]
    obtain ⟨m, hn, _⟩ := I.loc
    refine .cons (by rw [I.ok.kind]; decide) hf hn ?_ I.funs
    exact Heap.get?_none_of_le (Nat.le_trans I.ok.bsz I.ok.above)
theorem Inv.stkSub (I : Inv X pins σ H s) : ∀ b ∈ frs X.stack, b ∈ X.env.locals :: X.fs := fun b hb => by
  rcases I.ok.stk with e | ⟨e, hf⟩
  · rw [e] at hb; exact List.mem_cons_of_mem _ hb
  · rw [e] at hb
    unfold frs at hb
    rw [List.filterMap_cons, hf] at hb
    exact hb
theorem Inv.stkFree (I : Inv X pins σ H s) : ∀ b ∈ frs X.stack, H b = none := fun b hb => by
  rcases List.mem_cons.mp (I.stkSub b hb) with e | hb
  · rw [e]; exact I.free
  · obtain ⟨_, o, ho, _⟩ := I.ok.funs.mem hb
    exact I.base.free b o ho (I.ok.frf b hb) fun z => I.ok.exfs b z hb

/-  THE STEP: the untracked objects but the frame and the records at ch are kept (the callers' frames up to slots), the frame's map is kept, the new abstract heap is held -/
theorem Inv.step {g' : Array GenState} {t' : Nat} {d' : Drawn} {ch : List Addr} (I : Inv X pins σ H s)
    (hch : ∀ b ∈ ch, (b ∈ X.ex ∨ X.s₀.heap.objs.size ≤ b) ∧ b ≠ X.env.locals ∧ (∀ x c, X.env.cells.lookup x = some c → c ≠ b) ∧ ∀ p ∈ X.pn ++ pins, p.1 ≠ b)
    (keep : ∀ b o, b ≠ X.env.locals → b ∉ X.fs → b ∉ ch → s.heap.get? b = some o → H b = none → h'.get? b = some o)
    (slot : ∀ b o, b ≠ X.env.locals → b ∈ X.fs → b ∉ ch → s.heap.get? b = some o → H b = none → ∃ sl, h'.get? b = some { o with slots := sl }) (free : ∀ b o, b ∉ ch → s.heap.get? b = some o → H b = none → H' b = none)
    (there : ∀ b o, b ∉ ch → s.heap.get? b = some o → ∃ o', h'.get? b = some o')
    (tups : ∀ b xs, H b = some (.tup xs) → H' b = some (.tup xs)) (frzs : ∀ b o u, H b = some (.frz o u) → H' b = some (.frz o u)) (tbls : ∀ b ps, H b = some (.tbl ps) → ∃ more, H' b = some (.tbl (ps ++ more)))
    (ns : ∀ m, s.heap.Ns X.env.locals m → h'.Ns X.env.locals m) (hok : HOk X.prog X.w H' h') (hg : AllBare g') :
    Inv X pins σ H' { s with heap := h', gens := g', drawn := d', toks := t' } := by
  have neL : ∀ b o, X.s₀.heap.get? b = some o → b ≠ X.env.locals := fun b o e => Nat.ne_of_lt (Nat.lt_of_lt_of_le (Heap.lt_size e) I.ok.above)
  have neC : ∀ b o, X.s₀.heap.get? b = some o → b ∉ X.ex → b ∉ ch := fun b o e hx hb => by
    rcases (hch b hb).1 with z | z
    · exact hx z
    · exact absurd (Nat.lt_of_lt_of_le (Heap.lt_size e) z) (Nat.lt_irrefl _)
  have cellK : ∀ x c, X.env.cells.lookup x = some c → ∀ v, s.heap.IsCell c v → h'.IsCell c v := fun x c e v ⟨o, ho, hd⟩ => by
    have nch : c ∉ ch := fun z => (hch c z).2.2.1 x c e rfl
    by_cases hc : c ∈ X.fs
    · obtain ⟨sl, q⟩ := slot c o (I.cne x c e) hc nch ho (I.freeC x c e)
      exact ⟨_, q, hd⟩
    · exact ⟨o, keep c o (I.cne x c e) hc nch ho (I.freeC x c e), hd⟩
  refine ⟨I.ok, I.os, hg, ⟨fun b o e n hb hx => ?_, fun b o e n hb hx => ?_, fun b o e n hx => ?_, fun b o e hx => ?_, fun b xs e => tups b xs (I.base.tups b xs e), fun b o xs e => frzs b o xs (I.base.frzs b o xs e), fun b ps e => ?_⟩, ?_, fun x c e => ?_, ?_, fun x c e => ?_, fun p hp => ?_, hok, I.len⟩
  · exact keep b o (neL b o e) hb (neC b o e hx) (I.base.keep b o e n hb hx) (I.base.free b o e n hx)
  · obtain ⟨sl, e1⟩ := I.base.slot b o e n hb hx
    obtain ⟨sl', e2⟩ := slot b _ (neL b o e) hb (neC b o e hx) e1 (I.base.free b o e n hx)
    exact ⟨sl', e2⟩
  · obtain ⟨o', e1⟩ := I.base.there b o e hx
    exact free b o' (neC b o e hx) e1 (I.base.free b o e n hx)
  · obtain ⟨o', e1⟩ := I.base.there b o e hx
    exact there b o' (neC b o e hx) e1
  · obtain ⟨m1, e1⟩ := I.base.tbls b ps e
    obtain ⟨m2, e2⟩ := tbls b _ e1
    exact ⟨m1 ++ m2, by rw [e2, Array.append_assoc]⟩
  · obtain ⟨m, hn, hl⟩ := I.loc
    refine ⟨m, ns m hn, fun i x v e1 e2 e3 => ?_⟩
    obtain ⟨u, r, l⟩ := hl i x v e1 e2 e3
    refine ⟨u, r, ?_⟩
    rcases l with l | ⟨k, c, e, z⟩
    · exact .inl l
    · exact .inr ⟨k, c, e, cellK x c e _ z⟩
  · obtain ⟨v, z⟩ := I.cell x c e
    exact ⟨v, cellK x c e v z⟩
  · obtain ⟨m, ⟨o, _, _, ho, _⟩, _⟩ := I.loc
    exact free _ o (fun z => (hch _ z).2.1 rfl) ho I.free
  · obtain ⟨v, o, ho, hd⟩ := I.cell x c e
    exact free c o (fun z => (hch c z).2.2.1 x c e rfl) ho (I.freeC x c e)
  · obtain ⟨e, n, ne, nf, d⟩ := I.pin p hp
    have nch : p.1 ∉ ch := fun z => (hch p.1 z).2.2.2 p hp rfl
    exact ⟨keep p.1 p.2 ne nf nch e n, free p.1 p.2 nch e n, ne, nf, d⟩
/-  .. where the frame's own object is kept too -/
theorem Inv.un {t' : Nat} (I : Inv X pins σ H s) (u : Un X.fs [] H H' s.heap h') (hok : HOk X.prog X.w H' h') : Inv X pins σ H' { s with heap := h', toks := t' } := by
  obtain ⟨m, ⟨o, es, ep, ho, r⟩, _⟩ := id I.loc
  obtain ⟨sl, hL⟩ := u.any ho I.free (by simp)
  exact I.step (g' := s.gens) (d' := s.drawn) (ch := []) (fun _ z => nomatch z) (fun b o _ hb _ e n => u.keep b o e n hb (by simp)) (fun b o _ hb _ e n => u.slot b o e n hb (by simp)) (fun b o _ e n => u.free b o e n (by simp)) (fun b o _ e => u.there b o e (by simp)) u.tups u.frzs u.tbls (fun m' hm => by
    obtain ⟨o', es', ep', ho', r'⟩ := hm
    rw [ho] at ho'; cases ho'
    exact ⟨_, es', ep', hL, r'⟩) hok I.bare
/-  behind a call (or a comprehension's block): the slots of this frame may have changed too, the records at ch may have turned -/
theorem Inv.call {g' : Array GenState} {t' : Nat} {d' : Drawn} {ch : List Addr} (I : Inv X pins σ H s) (u : Un (frs X.stack) ch H H' s.heap h') (hok : HOk X.prog X.w H' h') (hg : AllBare g')
    (hch : ∀ b ∈ ch, (b ∈ X.ex ∨ X.s₀.heap.objs.size ≤ b) ∧ b ≠ X.env.locals ∧ (∀ x c, X.env.cells.lookup x = some c → c ≠ b) ∧ ∀ p ∈ X.pn ++ pins, p.1 ≠ b) :
    Inv X pins σ H' { s with heap := h', gens := g', drawn := d', toks := t' } := by
  obtain ⟨m, ⟨o, es, ep, ho, r⟩, _⟩ := id I.loc
  obtain ⟨sl, hL⟩ := u.any ho I.free fun z => (hch _ z).2.1 rfl
  exact I.step (ch := ch) hch (fun b o hL hb hc e n => u.keep b o e n (fun z => (List.mem_cons.mp (I.stkSub b z)).elim hL hb) hc) (fun b o _ _ hc e n => u.any e n hc) (fun b o hc e n => u.free b o e n hc) (fun b o hc e => u.there b o e hc) u.tups u.frzs u.tbls (fun m' hm => by
    obtain ⟨o', es', ep', ho', r'⟩ := hm
    rw [ho] at ho'; cases ho'
    exact ⟨_, es', ep', hL, r'⟩) hok hg
/-  an untracked record of ours (an iterator) has turned -/
theorem Inv.turned {t' : Nat} {it : Addr} (I : Inv X pins σ H s) (k : ∀ b o, b ≠ it → s.heap.get? b = some o → h'.get? b = some o) (hn : H it = none) (hL : it ≠ X.env.locals)
    (h1 : it ∈ X.ex ∨ X.s₀.heap.objs.size ≤ it) (h2 : ∀ x c, X.env.cells.lookup x = some c → c ≠ it) (h3 : ∀ p ∈ X.pn ++ pins, p.1 ≠ it) : Inv X pins σ H { s with heap := h', toks := t' } := by
  have nit : ∀ b u, H b = some u → b ≠ it := fun b u e z => by rw [z, hn] at e; cases e
  refine I.step (g' := s.gens) (d' := s.drawn) (ch := [it]) (fun b hb => ?_) (fun b o _ _ hc e _ => k b o (fun z => hc (by simp [z])) e) (fun b o _ _ hc e _ => ⟨o.slots, k b o (fun z => hc (by simp [z])) e⟩) (fun _ _ _ _ n => n)
    (fun b o hc e => ⟨o, k b o (fun z => hc (by simp [z])) e⟩) (fun _ _ e => e) (fun _ _ _ e => e) (fun b ps e => ⟨#[], by rw [e]; simp⟩) (fun m hm => ?_) (fun b u e => ?_) I.bare
  · have e : b = it := by simpa using hb
    subst e
    exact ⟨h1, hL, h2, h3⟩
  · obtain ⟨o, es, ep, ho, r⟩ := hm
    exact ⟨o, es, ep, k _ o (Ne.symm hL) ho, r⟩
  · refine (I.hok b u e).stay (fun c v hc q => k c v ?_ q) (fun _ q => q) fun _ _ q => q
    rcases hc with z | z
    · rw [z]; exact nit b u e
    · exact nit c _ z
theorem Inv.tok (I : Inv X pins σ H s) (t : Nat) : Inv X pins σ H { s with toks := t } := I.un (h' := s.heap) (t' := t) Un.refl I.hok
/-  all objects kept -/
theorem Inv.kept {t' : Nat} (I : Inv X pins σ H s) (k : ∀ b u, s.heap.get? b = some u → h'.get? b = some u) : Inv X pins σ H { s with heap := h', toks := t' } := I.un (Un.kept k) (I.hok.kept k)
/-  a new object laid and tracked -/
theorem Inv.laid {a : Addr} {o : HO} {t' : Nat} (I : Inv X pins σ H s) (k : ∀ b u, s.heap.get? b = some u → h'.get? b = some u) (hp : s.heap.objs.size ≤ a) (new : ObjOk X.prog X.w (upd H a o) h' a o) :
    Inv X pins σ (upd H a o) { s with heap := h', toks := t' } := I.un (Un.laid k hp (I.hok.fresh hp)) (I.hok.laid k hp new)
/-  an object written -/
theorem Inv.write {x e : Addr} {o : HO} {t' : Nat} (I : Inv X pins σ H s) (mu : Mut (H x)) (he : e = x ∨ H e = some (.own x)) (k : ∀ b u, b ≠ e → s.heap.get? b = some u → h'.get? b = some u) (heo : ∃ u, h'.get? e = some u)
    (new : ObjOk X.prog X.w (upd H x o) h' x o) : Inv X pins σ (upd H x o) { s with heap := h', toks := t' } := I.un (Un.write mu he k heo) (I.hok.write mu he k heo new)
theorem Inv.pins_of {pins' : List (Addr × Obj)} (I : Inv X pins σ H s) (h : ∀ p ∈ pins', s.heap.get? p.1 = some p.2 ∧ H p.1 = none ∧ p.1 ≠ X.env.locals ∧ p.1 ∉ X.fs ∧ ∀ v, p.2.data ≠ .cell v) : Inv X pins' σ H s :=
  ⟨I.ok, I.os, I.bare, I.base, I.loc, I.cell, I.free, I.freeC, fun p hp => (List.mem_append.mp hp).elim (fun z => I.pin p (List.mem_append_left _ z)) (h p), I.hok, I.len⟩

theorem nodup_ix {N : List Str} (hN : N.Nodup) {i j : Nat} {x : Str} (a : N[i]? = some x) (b : N[j]? = some x) : i = j := by
  obtain ⟨h1, e1⟩ := List.getElem?_eq_some_iff.mp a
  obtain ⟨h2, e2⟩ := List.getElem?_eq_some_iff.mp b
  exact (List.getElem_inj hN).mp (e1.trans e2.symm)

/-  a name is stored; what changed -/
theorem store_ok2 {M : Model} {A : Around} {E : Value → Shared → Prop} {i : Nat} {x : Str} {v : V} {u : Value} {Q : Unit → Shared → Prop} (I : Inv X pins σ H s) (hN : X.N.Nodup) (hi : X.N[i]? = some x) (hx : Loc X.env.scope x) (r : RelV v u)
    (h : ∀ s', Inv X pins (σ.set i (some v)) H s' → (∃ a, Heap.SameBut a s.heap s'.heap ∧ (a = X.env.locals ∨ X.env.cells.lookup x = some a)) → Q () s') (hf : X.fn x = true ∨ X.env.scope.names.lookup x = some .local := by first | exact .inl rfl | exact .inr rfl | assumption) : wpAny M A (storeName X.env x u) Q E s := by
  obtain ⟨m, hn, hl⟩ := id I.loc
  have hcls : (X.env.scope.kind == .class || (X.env.scope.kind == .module && X.env.locals != X.env.globals)) = false := by rw [I.ok.kind]; rfl
  have hiσ : i < σ.length := by rw [I.len]; exact (List.getElem?_eq_some_iff.mp hi).1
  have cne := I.cne
  have tracked : ∀ {a : Addr} {h' : Heap}, (∃ o, s.heap.get? a = some o ∧ H a = none) → Heap.SameBut a s.heap h' → HOk X.prog X.w H h' := fun {a h'} ha hs b ob e => by
    obtain ⟨_, _, hfree⟩ := ha
    refine (I.hok b ob e).stay (fun c w' hc q => (hs.2 c ?_).trans q) (fun _ q => q) fun _ _ q => q
    rintro rfl
    rcases hc with rfl | hc
    · rw [hfree] at e; cases e
    · rw [hfree] at hc; cases hc
  rcases hx with hk | hk
  · refine wpAny_storeName_local hk hn (fun h' hn' hs => ?_) hcls
    obtain ⟨oL, _, _, hoL, _⟩ := id hn
    refine h _ ⟨I.ok, I.os, I.bare, ⟨fun b o e n hb hx => ?_, fun b o e n hb hx => ?_, I.base.free, fun b o e hx => ?_, I.base.tups, I.base.frzs, I.base.tbls⟩, ⟨_, hn', fun j y v' e1 e2 e3 => ?_⟩, fun y c e => ?_, I.free, I.freeC, fun p hp => ?_, tracked ⟨oL, hoL, I.free⟩ hs, by simpa using I.len⟩ ⟨_, hs, .inl rfl⟩
    · exact (hs.2 b (Nat.ne_of_lt (Nat.lt_of_lt_of_le (Heap.lt_size e) I.ok.above))).trans (I.base.keep b o e n hb hx)
    · obtain ⟨sl, e1⟩ := I.base.slot b o e n hb hx
      exact ⟨sl, (hs.2 b (Nat.ne_of_lt (Nat.lt_of_lt_of_le (Heap.lt_size e) I.ok.above))).trans e1⟩
    · obtain ⟨o', e1⟩ := I.base.there b o e hx
      exact ⟨o', (hs.2 b (Nat.ne_of_lt (Nat.lt_of_lt_of_le (Heap.lt_size e) I.ok.above))).trans e1⟩
    · by_cases hj : j = i
      · subst hj
        rw [hi] at e1; cases e1
        rw [List.getElem?_set_self hiσ] at e2
        cases e2
        exact ⟨u, r, .inl ⟨hk, by simp⟩⟩
      · rw [List.getElem?_set_ne (Ne.symm hj)] at e2
        obtain ⟨u', r', q⟩ := hl j y v' e1 e2 e3
        refine ⟨u', r', ?_⟩
        rcases q with ⟨k, e⟩ | ⟨k, c, e, z⟩
        · refine .inl ⟨k, ?_⟩
          have : y ≠ x := fun e => hj (nodup_ix hN e1 (e ▸ hi))
          simp [this, e]
        · exact .inr ⟨k, c, e, z.sameBut hs (cne y c e)⟩
    · obtain ⟨w', z⟩ := I.cell y c e
      exact ⟨w', z.sameBut hs (cne y c e)⟩
    · obtain ⟨e, n, ne, nf, d⟩ := I.pin p hp
      exact ⟨(hs.2 p.1 ne).trans e, n, ne, nf, d⟩
  · have hfn : X.fn x = true := by
      rcases hf with z | z
      · exact z
      · rw [z] at hk; cases hk
    obtain ⟨c, hc⟩ := I.ok.has x (.inl hk)
    obtain ⟨w', z⟩ := I.cell x c hc
    refine wpAny_storeName_cell I.ok.kind hk hc z (fun h' hc' hs => ?_)
    obtain ⟨oc, hoc, hocd⟩ := id z
    refine h { s with heap := h' } ⟨I.ok, I.os, I.bare, ⟨fun b o e n hb hx => ?_, fun b o e n hb hx => ?_, I.base.free, fun b o e hx => ?_, I.base.tups, I.base.frzs, I.base.tbls⟩, ⟨m, hn.sameBut hs (Ne.symm (cne x c hc)), fun j y v' e1 e2 e3 => ?_⟩, fun y c' e => ?_, I.free, I.freeC, fun p hp => ?_, tracked ⟨oc, hoc, I.freeC x c hc⟩ hs, by simpa using I.len⟩ ⟨c, hs, .inr hc⟩
    · exact (hs.2 b (Nat.ne_of_lt (Nat.lt_of_lt_of_le (Heap.lt_size e) (I.ok.cab x c hfn hc)))).trans (I.base.keep b o e n hb hx)
    · obtain ⟨sl, e1⟩ := I.base.slot b o e n hb hx
      exact ⟨sl, (hs.2 b (Nat.ne_of_lt (Nat.lt_of_lt_of_le (Heap.lt_size e) (I.ok.cab x c hfn hc)))).trans e1⟩
    · obtain ⟨o', e1⟩ := I.base.there b o e hx
      exact ⟨o', (hs.2 b (Nat.ne_of_lt (Nat.lt_of_lt_of_le (Heap.lt_size e) (I.ok.cab x c hfn hc)))).trans e1⟩
    · by_cases hj : j = i
      · subst hj
        rw [hi] at e1; cases e1
        rw [List.getElem?_set_self hiσ] at e2
        cases e2
        exact ⟨u, r, .inr ⟨.inl hk, c, hc, hc'⟩⟩
      · rw [List.getElem?_set_ne (Ne.symm hj)] at e2
        obtain ⟨u', r', q⟩ := hl j y v' e1 e2 e3
        refine ⟨u', r', ?_⟩
        rcases q with q | ⟨k, c', e, z'⟩
        · exact .inl q
        · refine .inr ⟨k, c', e, z'.sameBut hs ?_⟩
          rintro rfl
          exact hj (nodup_ix hN e1 (I.ok.inj _ _ _ e hc ▸ hi))
    · by_cases hcc : c' = c
      · subst hcc; exact ⟨_, hc'⟩
      · obtain ⟨w2, z2⟩ := I.cell y c' e
        exact ⟨w2, z2.sameBut hs hcc⟩
    · obtain ⟨e, n, ne, nf, d⟩ := I.pin p hp
      refine ⟨(hs.2 p.1 ?_).trans e, n, ne, nf, d⟩
      intro q
      rw [q, hoc] at e
      have q' : oc = p.2 := Option.some.inj e
      exact d w' (by rw [← q']; exact hocd)
theorem store_ok {M : Model} {A : Around} {E : Value → Shared → Prop} {i : Nat} {x : Str} {v : V} {u : Value} {Q : Unit → Shared → Prop} (I : Inv X pins σ H s) (hN : X.N.Nodup) (hi : X.N[i]? = some x) (hx : Loc X.env.scope x) (r : RelV v u)
    (h : ∀ s', Inv X pins (σ.set i (some v)) H s' → Q () s') (hf : X.fn x = true ∨ X.env.scope.names.lookup x = some .local := by first | exact .inl rfl | exact .inr rfl | assumption) : wpAny M A (storeName X.env x u) Q E s :=
  store_ok2 I hN hi hx r (fun s' I' _ => h s' I') hf
/-  behind a call or a block, the state as it is -/
theorem Inv.call' {s' : Shared} {ch : List Addr} (I : Inv X pins σ H s) (ho : s'.os = s.os) (u : Un (frs X.stack) ch H H' s.heap s'.heap) (hok : HOk X.prog X.w H' s'.heap) (hg : AllBare s'.gens)
    (hch : ∀ b ∈ ch, (b ∈ X.ex ∨ X.s₀.heap.objs.size ≤ b) ∧ b ≠ X.env.locals ∧ (∀ x c, X.env.cells.lookup x = some c → c ≠ b) ∧ ∀ p ∈ X.pn ++ pins, p.1 ≠ b) : Inv X pins σ H' s' := by
  obtain ⟨h', g', d', t', o'⟩ := s'
  have e : o' = s.os := ho
  subst e
  exact I.call (g' := g') (t' := t') (d' := d') u hok hg hch
end

/-! ### the judgements -/
/-  an exception: its class, its own dict's address (where it has one), the abstract heap behind it -/
abbrev XK := Value → Option Addr → Hp → Prop
abbrev St := List (Option V)
abbrev VK := V → Hp → Prop
/-  an expression's reading; a test's; an argument list's -/
abbrev TE := St → Hp → VK → Prop
abbrev TT := St → Hp → (Bool → Hp → Prop) → Prop
abbrev TA := St → Hp → (List V → Hp → Prop) → Prop
/-  what is wanted behind a statement -/
structure Ends where
  nx : St → Hp → Prop
  rt : VK
  bk : St → Hp → Prop := fun _ _ => False
  ct : St → Hp → Prop := fun _ _ => False
abbrev TS := Ends → St → Hp → Prop

def EP (X : Cx) (pins : List (Addr × Obj)) (σ : St) (Q : VK) (u : Value) (s' : Shared) : Prop := ∃ v H', Inv X pins σ H' s' ∧ RelV v u ∧ Q v H'
def TP (X : Cx) (pins : List (Addr × Obj)) (σ : St) (Q : Bool → Hp → Prop) (b : Bool) (s' : Shared) : Prop := ∃ H', Inv X pins σ H' s' ∧ Q b H'
def AP (X : Cx) (pins : List (Addr × Obj)) (σ : St) (Q : List V → Hp → Prop) (us : List Value) (s' : Shared) : Prop := ∃ vs H', Inv X pins σ H' s' ∧ Vals vs us ∧ Q vs H'
def SP (X : Cx) (pins : List (Addr × Obj)) (D : Ends) (f : Flow) (s' : Shared) : Prop :=
  match f with
  | .next => ∃ σ' H', Inv X pins σ' H' s' ∧ D.nx σ' H'
  | .brk => ∃ σ' H', Inv X pins σ' H' s' ∧ D.bk σ' H'
  | .cont => ∃ σ' H', Inv X pins σ' H' s' ∧ D.ct σ' H'
  | .ret u => ∃ v σ' H', Inv X pins σ' H' s' ∧ RelV v u ∧ D.rt v H'

def PE (X : Cx) (e : Expr) (t : TE) : Prop :=
  ∀ (pins : List (Addr × Obj)) (s : Shared) (σ : St) (H : Hp) (Q : VK), Inv X pins σ H s → t σ H Q → wpAny (model X.prog X.w) X.A (eval e X.env) (EP X pins σ Q) X.xe s
def PT (X : Cx) (e : Expr) (t : TT) : Prop :=
  ∀ (pins : List (Addr × Obj)) (s : Shared) (σ : St) (H : Hp) (Q : Bool → Hp → Prop), Inv X pins σ H s → t σ H Q → wpAny (model X.prog X.w) X.A (isTrue e X.env (eval e X.env)) (TP X pins σ Q) X.xe s
/-  a test whatever its 'whole' is (and, or) -/
def PW (X : Cx) (e : Expr) (t : TT) : Prop :=
  ∀ (whole : Sem Value) (pins : List (Addr × Obj)) (s : Shared) (σ : St) (H : Hp) (Q : Bool → Hp → Prop), Inv X pins σ H s → t σ H Q → wpAny (model X.prog X.w) X.A (isTrue e X.env whole) (TP X pins σ Q) X.xe s
theorem PW.pt {X : Cx} {e : Expr} {t : TT} (h : PW X e t) : PT X e t := h _
/-  an argument list (no star), from the left -/
def PA (X : Cx) (es : List Expr) (t : TA) : Prop :=
  ∀ (pos : Pos) (pins : List (Addr × Obj)) (s : Shared) (σ : St) (H : Hp) (Q : List V → Hp → Prop), Inv X pins σ H s → t σ H Q → wpAny (model X.prog X.w) X.A (spliced (backTo pos (starEach es X.env))) (AP X pins σ Q) X.xe s
def PS (X : Cx) (st : Stmt) (t : TS) : Prop :=
  ∀ (pins : List (Addr × Obj)) (s : Shared) (σ : St) (H : Hp) (D : Ends), Inv X pins σ H s → t D σ H → wpAny (model X.prog X.w) X.A (exec st X.env) (SP X pins D) X.xe s
def PSs (X : Cx) (st : List Stmt) (t : TS) : Prop :=
  ∀ (pins : List (Addr × Obj)) (s : Shared) (σ : St) (H : Hp) (D : Ends), Inv X pins σ H s → t D σ H → wpAny (model X.prog X.w) X.A (execs st X.env) (SP X pins D) X.xe s
/-  weaken the end -/
theorem thn {α : Type} {t : Sem α} {Q Q' : α → Shared → Prop} {M : Model} {A : Around} {E : Value → Shared → Prop} {s : Shared} (h : wpAny M A t Q E s) (hQ : ∀ a s, Q a s → Q' a s) : wpAny M A t Q' E s := wpAny_mono h hQ fun _ _ x => x
end L2

namespace L2
open PySem PySem.Spec PyProof.Rows
section
variable {X : Cx}


/-! ### names and constants -/
def tVar (i : Nat) : TE := fun σ H Q => ∃ v, σ[i]? = some (some v) ∧ Q v H
def tC (v : V) : TE := fun _ H Q => Q v H
theorem pe_var {i : Nat} {x : Str} {pos : Pos} (hN : X.N[i]? = some x) (hv : Vis X.env.scope x) (hd : (x == ("__debug__" : Str)) = false := by decide) (hcd : (x == ("__classdict__" : Str)) = false := by decide) : PE X (.Name x pos) (tVar i) := by
  intro pins s σ H Q I h
  obtain ⟨v, e, h⟩ := h
  obtain ⟨m, hn, hl⟩ := I.loc
  obtain ⟨u, r, l⟩ := hl i x v hN e hv
  have fin : EP X pins σ Q u s := ⟨v, H, I, r, h⟩
  rcases l with ⟨hk, hm⟩ | ⟨hk, c, hc, hcell⟩
  · exact wpAny_Name (wpAny_loadName_local I.ok.kind hk hn hm fin) hd
  · rcases hk with hk | hk
    · exact wpAny_Name (wpAny_loadName_cell I.ok.kind hk hc hcell fin) hd
    · exact wpAny_Name (wpAny_loadName_free I.ok.kind hk hc hcell fin hcd) hd
theorem pe_int {i j pos} : PE X (.Constant (.int i) j pos) (tC (.int i)) := fun _ _ _ H _ I h => wpAny_Constant_int ⟨.int i, H, I.tok _, ⟨_, rfl⟩, h⟩
theorem pe_bl {b j pos} : PE X (.Constant (.bool b) j pos) (tC (.bl b)) := fun _ _ _ H _ I h => Constant_bool ⟨.bl b, H, I, rfl, h⟩
theorem pe_non {j pos} : PE X (.Constant .none j pos) (tC .non) := fun _ _ _ H _ I h => Constant_none ⟨.non, H, I, rfl, h⟩
theorem pe_str {x j pos} : PE X (.Constant (.str x) j pos) (tC (.str x)) := fun _ _ _ H _ I h => Calls.Constant_str ⟨.str x, H, I.tok _, ⟨_, rfl⟩, h⟩

/-  a global name of the def -/
def Gl (X : Cx) (x : Str) : Prop := X.env.kindOf x = some .globalImplicit
theorem ld_glob {E : Value → Shared → Prop} {pins : List (Addr × Obj)} {s : Shared} {σ : St} {H : Hp} {x : Str} {u : Value} {pos : Pos} {Q : Value → Shared → Prop} (I : Inv X pins σ H s) (hg : Gl X x) (hm : X.mg x = some u) (h : Q u s)
    (hd : (x == ("__debug__" : Str)) = false := by decide) : wpAny (model X.prog X.w) X.A (eval (.Name x pos) X.env) Q E s :=
  Calls.Name_function_global I.ok.kind hg (Calls.loadGlobal_global (by rw [I.ok.glob]; exact I.mod.glob.keeps I.bk) hm h) hd
theorem ld_blt {E : Value → Shared → Prop} {pins : List (Addr × Obj)} {s : Shared} {σ : St} {H : Hp} {x : Str} {u : Value} {pos : Pos} {Q : Value → Shared → Prop} (I : Inv X pins σ H s) (hg : Gl X x) (hm : X.mg x = none) (hv : bootBuiltins x = some u) (h : Q u s)
    (hn : x ≠ "__name__" := by decide) (hd : (x == ("__debug__" : Str)) = false := by decide) : wpAny (model X.prog X.w) X.A (eval (.Name x pos) X.env) Q E s := by
  obtain ⟨mb, h1, h2⟩ := I.mod.blt
  exact Calls.Name_function_global I.ok.kind hg (Calls.loadGlobal_builtin (by rw [I.ok.glob]; exact I.mod.glob.keeps I.bk) hm (by rw [I.ok.blt]; exact h1.keeps I.bk) ((h2 x hn).trans hv) h) hd
theorem pe_bltn {x : Str} {v : V} {u : Value} {pos : Pos} (hg : Gl X x) (hm : X.mg x = none) (hv : bootBuiltins x = some u) (r : RelV v u) (hn : x ≠ "__name__" := by decide) (hd : (x == ("__debug__" : Str)) = false := by decide) : PE X (.Name x pos) (tC v) :=
  fun _ _ _ H _ I h => ld_blt I hg hm hv ⟨v, H, I, r, h⟩ hn hd

/-! ### arithmetic -/
variable {a b : Expr} {ta tb : TE} {pos : Pos}

/-! ### comparisons -/
/-  a comparison as a value, as a test -/
def tB (t : TE) : TT := fun σ H Q => t σ H fun x H1 => ∃ c, x = .bl c ∧ Q c H1
/-  an expression whose value is a bool, as a test -/
theorem pt_val {e : Expr} {t : TE} (h : PE X e t) (he : ∀ whole, isTrue e X.env whole = (do let v ← whole; standAt e.pos; holding [v] (truthy v)) := by intro _; rfl) : PT X e (tB t) := by
  intro pins s σ H Q I hw
  refine isTrue_plain (thn (h pins s σ H _ I hw) fun v s1 ⟨x, H1, I1, r1, q1⟩ => ?_) (he _)
  obtain ⟨d, rfl, q⟩ := q1
  cases r1
  exact wpAny_truthy_bool ⟨H1, I1, q⟩

/-! ### and, or, not -/
variable {tA tB' : TT} {rest : List Expr}
def tAnd (t u : TT) : TT := fun σ H Q => t σ H fun c H1 => if c = true then u σ H1 Q else Q false H1
def tOr (t u : TT) : TT := fun σ H Q => t σ H fun c H1 => if c = true then Q true H1 else u σ H1 Q
def tNot (t : TT) : TT := fun σ H Q => t σ H fun c H1 => Q (!c) H1
theorem pw_and1 (ha : PT X a tA) : PW X (.BoolOp .And [a] pos) tA := by
  intro wh pins s σ H Q I h
  refine isTrue_and (thn (ha pins s σ H Q I h) fun c s1 e => ?_)
  cases c with
  | true => exact isTrue_and_nil e
  | false => exact e
theorem pw_or1 (ha : PT X a tA) : PW X (.BoolOp .Or [a] pos) tA := by
  intro wh pins s σ H Q I h
  refine isTrue_or (thn (ha pins s σ H Q I h) fun c s1 e => ?_)
  cases c with
  | false => exact isTrue_or_nil e
  | true => exact e
theorem pw_and (ha : PT X a tA) (hb : PW X (.BoolOp .And (b :: rest) pos) tB') : PW X (.BoolOp .And (a :: b :: rest) pos) (tAnd tA tB') := by
  intro wh pins s σ H Q I h
  refine isTrue_and (thn (ha pins s σ H _ I h) fun c s1 ⟨H1, I1, q1⟩ => ?_)
  cases c with
  | true => exact hb wh pins s1 σ H1 Q I1 q1
  | false => exact ⟨H1, I1, q1⟩
theorem pw_or (ha : PT X a tA) (hb : PW X (.BoolOp .Or (b :: rest) pos) tB') : PW X (.BoolOp .Or (a :: b :: rest) pos) (tOr tA tB') := by
  intro wh pins s σ H Q I h
  refine isTrue_or (thn (ha pins s σ H _ I h) fun c s1 ⟨H1, I1, q1⟩ => ?_)
  cases c with
  | true => exact ⟨H1, I1, q1⟩
  | false => exact hb wh pins s1 σ H1 Q I1 q1
theorem pt_not (ha : PT X a tA) : PT X (.UnaryOp .Not a pos) (tNot tA) := by
  intro pins s σ H Q I h
  exact isTrue_not (ha pins s σ H (fun c H1 => Q (!c) H1) I h)
/-  .. as values (bools) -/
def tAndV (ta tb : TE) : TE := fun σ H Q => ta σ H fun x H1 => ∃ c, x = .bl c ∧ if c = true then tb σ H1 Q else Q (.bl false) H1
def tOrV (ta tb : TE) : TE := fun σ H Q => ta σ H fun x H1 => ∃ c, x = .bl c ∧ if c = true then Q (.bl true) H1 else tb σ H1 Q
def tNotV (ta : TE) : TE := fun σ H Q => ta σ H fun x H1 => ∃ c, x = .bl c ∧ Q (.bl (!c)) H1
theorem pe_one {op} {t : TE} (h : PE X a t) : PE X (.BoolOp op [a] pos) t := fun pins s σ H Q I hw => BoolOp_one (h pins s σ H Q I hw)
theorem pe_and (ha : PE X a ta) (hb : PE X (.BoolOp .And (b :: rest) pos) tb) : PE X (.BoolOp .And (a :: b :: rest) pos) (tAndV ta tb) := by
  intro pins s σ H Q I h
  refine BoolOp_and (thn (ha pins s σ H _ I h) fun v s1 ⟨x, H1, I1, r1, q1⟩ => ?_)
  obtain ⟨c, rfl, q1⟩ := q1
  cases r1
  refine wpAny_truthy_bool ?_
  cases c with
  | true => exact hb pins s1 σ H1 Q I1 q1
  | false => exact ⟨.bl false, H1, I1, rfl, q1⟩
theorem pe_not (ha : PE X a ta) : PE X (.UnaryOp .Not a pos) (tNotV ta) := by
  intro pins s σ H Q I h
  refine UnaryOp_ (thn (ha pins s σ H _ I h) fun v s1 ⟨x, H1, I1, r1, q1⟩ => ?_)
  obtain ⟨c, rfl, q1⟩ := q1
  cases r1
  exact not_of (wpAny_truthy_bool ⟨.bl (!c), H1, I1, rfl, q1⟩)
/-  a if t else b -/
def tIf (t : TT) (ta tb : TE) : TE := fun σ H Q => t σ H fun c H1 => if c = true then ta σ H1 Q else tb σ H1 Q
end
end L2

namespace L2
open PySem PySem.Spec PyProof.Rows

/-! ### a list, a tuple that is read: tracked, frozen, or an object of the module -/
def SqL (K : PySem.W.Frag) (H : Hp) (a : Addr) (xs : List V) : Prop :=
  Rd H a (.lst xs) ∨
    ∃ (o : Obj) (its : Array Value) (n : Nat), K.lookup a = some o ∧ o.cls = .type "list" ∧ o.dict = none ∧ o.data = .seq its n ∧ its.size ≤ sizeLine ∧ Vals xs its.toList
def SqT (K : PySem.W.Frag) (H : Hp) (a : Addr) (xs : List V) : Prop :=
  Rd H a (.tup xs) ∨
    ∃ (o : Obj) (its : Array Value) (n : Nat), K.lookup a = some o ∧ o.cls = .type "tuple" ∧ o.data = .seq its n ∧ its.size ≤ sizeLine ∧ Vals xs its.toList
def absV : Value → Option V
  | .none => some .non
  | .bool b => some (.bl b)
  | .int i _ => some (.int i)
  | .str x _ => some (.str x)
  | .bytes b _ => some (.byt b)
  | .float b _ => some (.flt b)
  | .ref a => some (.ref a)
  | .type n => some (.ty n)
  | _ => none
theorem RelV.abs {x : V} {u : Value} (r : RelV x u) : absV u = some x := by
  cases x with
  | non => cases r; rfl
  | bl _ => cases r; rfl
  | int _ => obtain ⟨t, rfl⟩ := r; rfl
  | str _ => obtain ⟨t, rfl⟩ := r; rfl
  | byt _ => obtain ⟨t, rfl⟩ := r; rfl
  | flt _ => obtain ⟨t, rfl⟩ := r; rfl
  | ref _ => cases r; rfl
  | ty _ => cases r; rfl
theorem RelV.inj {x y : V} {u : Value} (r : RelV x u) (q : RelV y u) : x = y := Option.some.inj (r.abs.symm.trans q.abs)
theorem Vals.inj : ∀ {xs ys : List V} {us : List Value}, Vals xs us → Vals ys us → xs = ys
  | _, _, _, .nil, .nil => rfl
  | _, _, _, .cons r t, .cons r' t' => by rw [r.inj r', Vals.inj t t']
section
variable {X : Cx} {pins : List (Addr × Obj)} {σ : St} {H : Hp} {s : Shared} {a : Addr} {xs ys : List V}
theorem SqL.of {K : PySem.W.Frag} (h : H a = some (.lst xs)) : SqL K H a xs := .inl (.inl h)
theorem SqT.of {K : PySem.W.Frag} (h : H a = some (.tup xs)) : SqT K H a xs := .inl (.inl h)
theorem Inv.list (I : Inv X pins σ H s) (h : SqL X.K H a xs) : ∃ its : List Value, Vals xs its ∧ PlainL s.heap a its.toArray ∧ xs.length ≤ sizeLine := by
  rcases h with h | ⟨o, its, n, hk, hc, hd, hs, hz, r⟩
  · obtain ⟨z, its, n, r, e⟩ := h.ok I.hok
    exact ⟨its, r, ⟨_, n, e, rfl, rfl, rfl⟩, z⟩
  · refine ⟨its.toList, r, ⟨o, n, I.kIn a o hk, hc, hd, by simpa using hs⟩, ?_⟩
    have e := r.length
    simp only [Array.length_toList] at e
    omega
theorem Inv.tuple (I : Inv X pins σ H s) (h : SqT X.K H a xs) : ∃ its : List Value, Vals xs its ∧ IsTup s.heap a its.toArray ∧ xs.length ≤ sizeLine := by
  rcases h with h | ⟨o, its, n, hk, hc, hs, hz, r⟩
  · obtain ⟨z, its, r, p⟩ := h.ok I.hok
    exact ⟨its, r, p, z⟩
  · refine ⟨its.toList, r, ⟨o, I.kIn a o hk, hc, n, by simpa using hs⟩, ?_⟩
    have e := r.length
    simp only [Array.length_toList] at e
    omega
theorem Inv.list_inj (I : Inv X pins σ H s) (h : SqL X.K H a xs) (h' : SqL X.K H a ys) : xs = ys := by
  obtain ⟨its, r, ⟨o, n, e, _, _, d⟩, _⟩ := I.list h
  obtain ⟨its', r', ⟨o', n', e', _, _, d'⟩, _⟩ := I.list h'
  rw [e] at e'; cases e'
  rw [d] at d'
  injection d' with d1 _
  have : its = its' := by simpa using congrArg Array.toList d1
  subst this
  exact r.inj r'
end

/-! ### another wish about exceptions -/
abbrev Cx.wish (X : Cx) (E : Value → Shared → Prop) : Cx := { X with xe := E }
/-  no exception leaves -/
abbrev Cx.nox (X : Cx) : Cx := X.wish fun _ _ => False
theorem Cx.Ok.wish {X : Cx} (ok : X.Ok) (E : Value → Shared → Prop) : (X.wish E).Ok :=
  ⟨ok.mod, ok.kind, ok.glob, ok.blt, ok.above, ok.inj, ok.has, ok.cab, ok.hd, ok.frames, ok.stk, ok.exf, ok.bs, ok.bsz, ok.noex, ok.exfs, ok.funs, ok.frf⟩
theorem Cx.Ok.unwish {X : Cx} {E : Value → Shared → Prop} (ok : (X.wish E).Ok) : X.Ok :=
  ⟨ok.mod, ok.kind, ok.glob, ok.blt, ok.above, ok.inj, ok.has, ok.cab, ok.hd, ok.frames, ok.stk, ok.exf, ok.bs, ok.bsz, ok.noex, ok.exfs, ok.funs, ok.frf⟩
section
variable {X : Cx} {pins : List (Addr × Obj)} {σ : St} {H : Hp} {s : Shared} {E : Value → Shared → Prop}
theorem Inv.wish (I : Inv X pins σ H s) (E : Value → Shared → Prop) : Inv (X.wish E) pins σ H s := ⟨I.ok.wish E, I.os, I.bare, I.base, I.loc, I.cell, I.free, I.freeC, I.pin, I.hok, I.len⟩
theorem Inv.unwish (I : Inv (X.wish E) pins σ H s) : Inv X pins σ H s := ⟨I.ok.unwish, I.os, I.bare, I.base, I.loc, I.cell, I.free, I.freeC, I.pin, I.hok, I.len⟩
theorem SP.unwish {D : Ends} {f : Flow} {s' : Shared} (h : SP (X.wish E) pins D f s') : SP X pins D f s' := by
  cases f with
  | next => obtain ⟨σ', H', I, q⟩ := h; exact ⟨σ', H', I.unwish, q⟩
  | brk => obtain ⟨σ', H', I, q⟩ := h; exact ⟨σ', H', I.unwish, q⟩
  | cont => obtain ⟨σ', H', I, q⟩ := h; exact ⟨σ', H', I.unwish, q⟩
  | ret u => obtain ⟨v, σ', H', I, r, q⟩ := h; exact ⟨v, σ', H', I.unwish, r, q⟩
theorem PSs.nox {st : List Stmt} {t : TS} (h : PSs X.nox st t) : PSs X st t := fun pins s σ H D I hw =>
  wpAny_mono (h pins s σ H D (I.wish _) hw) (fun _ _ q => q.unwish) fun _ _ z => False.elim z
end

/-! ### blocks and small statements -/
section
variable {X : Cx} {st : Stmt} {rest : List Stmt} {t u : TS} {e : Expr} {te : TE} {pos : Pos}
def tNext : TS := fun D σ H => D.nx σ H
def tSeq (t u : TS) : TS := fun D σ H => t { D with nx := u D } σ H
theorem pss_nil : PSs X [] tNext := fun _ _ σ H _ I h => wpAny_execs_nil ⟨σ, H, I, h⟩
theorem pss_cons (h1 : PS X st t) (h2 : PSs X rest u) : PSs X (st :: rest) (tSeq t u) := by
  intro pins s σ H D I h
  refine wpAny_execs_cons (thn (h1 pins s σ H { D with nx := u D } I h) fun f s1 q => ?_)
  cases f with
  | next =>
    obtain ⟨σ', H', I', q⟩ := q
    exact h2 pins s1 σ' H' D I' q
  | ret v => exact q
  | brk => exact q
  | cont => exact q
theorem pss_one (h1 : PS X st t) : PSs X [st] t := by
  intro pins s σ H D I h
  refine wpAny_execs_cons (thn (h1 pins s σ H D I h) fun f s1 q => ?_)
  cases f with
  | next => exact wpAny_execs_nil q
  | ret v => exact q
  | brk => exact q
  | cont => exact q
/-  in a def's body nothing is shown -/
theorem Inv.quiet {pins : List (Addr × Obj)} {σ : St} {H : Hp} {s : Shared} (I : Inv X pins σ H s) : interactive X.env = false := by simp [interactive, I.ok.kind]
/-  an expression whose value is dropped -/
def tDrop (te : TE) : TS := fun D σ H => te σ H fun _ H1 => D.nx σ H1
theorem ps_expr (he : PE X e te) (hs : swapsWith e none pos.line X.env = pure false := by rfl) : PS X (.Expr e pos) (tDrop te) := by
  intro pins s σ H D I h
  exact wpAny_Expr_any (thn (he pins s σ H _ I h) fun v s1 ⟨x, H1, I1, r1, q1⟩ => ⟨σ, H1, I1, q1⟩) I.quiet hs
def tRet (te : TE) : TS := fun D σ H => te σ H D.rt
theorem ps_ret (he : PE X e te) : PS X (.Return (some e) pos) (tRet te) := by
  intro pins s σ H D I h
  exact wpAny_Return_some (thn (he pins s σ H _ I h) fun v s1 ⟨x, H1, I1, r1, q1⟩ => ⟨x, σ, H1, I1, r1, q1⟩)
def tRetN : TS := fun D _ H => D.rt .non H
def tIfS (c : TT) (t u : TS) : TS := fun D σ H => c σ H fun b H1 => if b = true then t D σ H1 else u D σ H1
theorem ps_if {c : Expr} {a b : List Stmt} {tc : TT} (hc : PT X c tc) (ha : PSs X a t) (hb : PSs X b u) : PS X (.If c a b pos) (tIfS tc t u) := by
  intro pins s σ H D I h
  refine wpAny_If (thn (hc pins s σ H _ I h) fun d s1 ⟨H1, I1, q1⟩ => ?_)
  cases d with
  | true => exact ha pins s1 σ H1 D I1 q1
  | false => exact hb pins s1 σ H1 D I1 q1
end

/-! ### targets -/
abbrev TG := V → St → Hp → (St → Hp → Prop) → Prop
abbrev TGs := List V → St → Hp → (St → Hp → Prop) → Prop
def PG (X : Cx) (target : Expr) (t : TG) : Prop :=
  ∀ (pins : List (Addr × Obj)) (s : Shared) (σ : St) (H : Hp) (v : V) (u : Value) (Q : St → Hp → Prop), Inv X pins σ H s → RelV v u → t v σ H Q →
    wpAny (model X.prog X.w) X.A (assign target X.env u) (fun _ s' => ∃ σ' H', Inv X pins σ' H' s' ∧ Q σ' H') X.xe s
/-  several targets, one after another -/
def PGs (X : Cx) (ts : List Expr) (t : TGs) : Prop :=
  ∀ (pins : List (Addr × Obj)) (s : Shared) (σ : St) (H : Hp) (vs : List V) (us : List Value) (Q : St → Hp → Prop), Inv X pins σ H s → Vals vs us → t vs σ H Q →
    wpAny (model X.prog X.w) X.A (assignInOrder ((assignEach ts X.env).map (·.2)) us) (fun _ s' => ∃ σ' H', Inv X pins σ' H' s' ∧ Q σ' H') X.xe s
/-  o[i] = v, by values -/
abbrev TSet := V → V → V → Hp → (Hp → Prop) → Prop
def PSet (X : Cx) (t : TSet) : Prop :=
  ∀ (pins : List (Addr × Obj)) (s : Shared) (σ : St) (H : Hp) (o i v : V) (ov iv u : Value) (Q : Hp → Prop), Inv X pins σ H s → RelV o ov → RelV i iv → RelV v u → t o i v H Q →
    wpAny (model X.prog X.w) X.A (setItem ov iv u) (fun _ s' => ∃ H', Inv X pins σ H' s' ∧ Q H') X.xe s
section
variable {X : Cx} {pos : Pos}
def gName (i : Nat) : TG := fun v σ H Q => Q (σ.set i (some v)) H
theorem pg_name {i : Nat} {x : Str} (hN : X.N.Nodup) (hi : X.N[i]? = some x) (hx : Loc X.env.scope x) (hf : X.fn x = true ∨ X.env.scope.names.lookup x = some .local := by first | exact .inl rfl | exact .inr rfl | assumption) : PG X (.Name x pos) (gName i) := by
  intro pins s σ H v u Q I r h
  exact wpAny_assign_Name (store_ok I hN hi hx r (fun s' I' => ⟨_, H, I', h⟩) hf)
def gNil : TGs := fun vs σ H Q => vs = [] ∧ Q σ H
def gCons (t : TG) (u : TGs) : TGs := fun vs σ H Q => ∃ v r, vs = v :: r ∧ t v σ H fun σ' H' => u r σ' H' Q
theorem pgs_nil : PGs X [] gNil := by
  intro pins s σ H vs us Q I r h
  obtain ⟨e, h⟩ := h
  subst e
  cases r
  exact assignInOrder_nil ⟨σ, H, I, h⟩
theorem pgs_cons {e : Expr} {es : List Expr} {t : TG} {u : TGs} (h1 : PG X e t) (h2 : PGs X es u)
    (hs : (assignEach (e :: es) X.env).map (·.2) = assign e X.env :: (assignEach es X.env).map (·.2) := by rfl) : PGs X (e :: es) (gCons t u) := by
  intro pins s σ H vs us Q I r h
  obtain ⟨v, vr, e1, h⟩ := h
  subst e1
  cases r with
  | cons r rr =>
    rw [hs]
    refine assignInOrder_cons (thn (h1 pins s σ H _ _ _ I r h) fun _ s1 ⟨σ1, H1, I1, q1⟩ => ?_)
    exact h2 pins s1 σ1 H1 _ _ Q I1 rr q1
/-  (a, b, ..) = a tuple of that length -/
def gTup (K : PySem.W.Frag) (n : Nat) (t : TGs) : TG := fun v σ H Q => ∃ a xs, v = .ref a ∧ SqT K H a xs ∧ xs.length = n ∧ t xs σ H Q
theorem pg_tup {es : List Expr} {k : Nat} {t : TGs} {n : Nat} (hc : X.calm = true) (h : PGs X es t)
    (hn : (assignEach es X.env).length = n := by rfl) (hst : (assignEach es X.env).findIdx? (·.1) = none := by rfl) : PG X (.Tuple es k pos) (gTup X.K n t) := by
  intro pins s σ H v u Q I r hw
  obtain ⟨a, xs, e1, hq, hl, hw⟩ := hw
  subst e1
  cases r
  obtain ⟨its, rv, ht, hz⟩ := I.tuple hq
  refine assign_Tuple_tuple (I.ok.hd hc) ht (by simp [hn, ← hl, rv.length]) hst fun h' hx => ?_
  have I1 : Inv X pins σ H { s with heap := h' } := I.kept (t' := s.toks) fun b o e => hx b o (Nat.ne_of_lt (Heap.lt_size e)) e
  exact h pins _ σ H xs _ Q I1 (by simpa using rv) hw
/-  o[i] = .. -/
def gSub (to ti : TE) (t : TSet) : TG := fun v σ H Q => to σ H fun o H1 => ti σ H1 fun i H2 => t o i v H2 fun H3 => Q σ H3
/-  target = value -/
def tAsg (te : TE) (g : TG) : TS := fun D σ H => te σ H fun x H1 => g x σ H1 D.nx
/-  name = value -/
theorem ps_set {i : Nat} {x : Str} {e : Expr} {te : TE} {pos' : Pos} (hN : X.N.Nodup) (hi : X.N[i]? = some x) (hx : Loc X.env.scope x) (he : PE X e te) (hs : swapsWith e (some (.Name x pos')) pos.line X.env = pure false := by rfl) (hf : X.fn x = true ∨ X.env.scope.names.lookup x = some .local := by first | exact .inl rfl | exact .inr rfl | assumption) :
    PS X (.Assign [.Name x pos'] e pos) (tAsg te (gName i)) := by
  intro pins s σ H D I h
  refine wpAny_Assign_Name (thn (he pins s σ H _ I h) fun v s1 ⟨y, H1, I1, r1, q1⟩ => ?_) hs
  exact store_ok I1 hN hi hx r1 (fun s2 I2 => ⟨_, H1, I2, q1⟩) hf
end

/-! ### while -/
section
variable {X : Cx} {pos : Pos}
end

/-! ### what a loop or a comprehension walks -/
/-  at turn i: it yields x (the heap may grow), or it stops -/
structure It where
  go : Nat → Hp → Prop
  yld : Nat → Hp → V → Hp → Prop
  stop : Nat → Hp → Prop
/-  the iterator's own objects may turn: they are not the frame's, not pinned, younger than the entry (or a comprehension's own) -/
def FpOk (X : Cx) (pins : List (Addr × Obj)) (H : Hp) (b : Addr) : Prop :=
  H b = none ∧ b ≠ X.env.locals ∧ b ∉ X.fs ∧ (b ∈ X.ex ∨ X.s₀.heap.objs.size ≤ b) ∧ (∀ x c, X.env.cells.lookup x = some c → c ≠ b) ∧ ∀ p ∈ X.pn ++ pins, p.1 ≠ b
theorem Inv.fpOk {X : Cx} {pins : List (Addr × Obj)} {σ : St} {H H' : Hp} {s : Shared} {b : Addr} (I : Inv X pins σ H s) (hb : s.heap.objs.size ≤ b) (hn : H' b = none) : FpOk X pins H' b := by
  refine ⟨hn, Nat.ne_of_gt (Nat.lt_of_lt_of_le I.lt hb), I.nofs hb, .inr (Nat.le_trans I.sz hb), fun x c e z => ?_, fun p hp z => ?_⟩
  · obtain ⟨v, q⟩ := I.cell x c e
    exact absurd (Nat.lt_of_lt_of_le q.lt (by rw [z]; exact hb)) (Nat.lt_irrefl _)
  · exact absurd (Nat.lt_of_lt_of_le (Heap.lt_size (I.pin p hp).1) (by rw [z]; exact hb)) (Nat.lt_irrefl _)
structure Turn (P : Program) (w : World) (K : PySem.W.Frag) (tg : Expr) (J : It) (fp : List Addr) (it : Addr) (tn : Nat → Heap → Prop) : Prop where
  mem : it ∈ fp
  obj : ∀ i h, tn i h → ∀ b ∈ fp, ∃ o, h.get? b = some o ∧ ∀ v, o.data ≠ .cell v
  keep : ∀ i h h', tn i h → (∀ b ∈ fp, ∀ o, h.get? b = some o → h'.get? b = some o) → tn i h'
  item : ∀ (X : Cx), X.prog = P → X.w = w → X.K = K → X.calm = true → ∀ (i : Nat) (pins : List (Addr × Obj)) (s : Shared) (σ : St) (H : Hp) (E : Value → Shared → Prop), Inv X pins σ H s → (∀ b ∈ fp, FpOk X pins H b) → tn i s.heap → J.go i H →
    wpAny (model P w) X.A (pyNext (.ref it)) (fun r s1 => ∃ u, r = some u ∧
      wpAny (model P w) X.A (letOwnedTupleGo tg (.ref it) u) (fun _ s2 => ∃ x H', Inv X pins σ H' s2 ∧ RelV x u ∧ J.yld i H x H' ∧ tn (i + 1) s2.heap ∧ ∀ b ∈ fp, H' b = none) E s1) E s
  done : ∀ (X : Cx), X.prog = P → X.w = w → X.K = K → X.calm = true → ∀ (i : Nat) (pins : List (Addr × Obj)) (s : Shared) (σ : St) (H : Hp) (E : Value → Shared → Prop), Inv X pins σ H s → (∀ b ∈ fp, FpOk X pins H b) → tn i s.heap → J.stop i H →
    wpAny (model P w) X.A (pyNext (.ref it)) (fun r s1 => r = none ∧ Inv X pins σ H s1) E s
  self : ∀ (A : Around) (i : Nat) (s : Shared) (Q : Value → Shared → Prop) (E : Value → Shared → Prop), tn i s.heap → Q (.ref it) s → wpAny (model P w) A (pyIter (.ref it)) Q E s
abbrev TI := St → Hp → (It → Hp → Prop) → Prop
/-  an iterator has come -/
def PIE (X : Cx) (pins : List (Addr × Obj)) (σ : St) (tg : Expr) (R : It → Hp → Prop) (itv : Value) (s2 : Shared) : Prop :=
  ∃ (it : Addr) (fp : List Addr) (tn : Nat → Heap → Prop) (J : It) (H' : Hp), itv = .ref it ∧ Inv X pins σ H' s2 ∧ Turn X.prog X.w X.K tg J fp it tn ∧ tn 0 s2.heap ∧ (∀ b ∈ fp, FpOk X pins H' b) ∧ R J H'
def PI (X : Cx) (tg iter : Expr) (wi : TI) : Prop :=
  ∀ (pins : List (Addr × Obj)) (s : Shared) (σ : St) (H : Hp) (R : It → Hp → Prop), Inv X pins σ H s → wi σ H R →
    wpAny (model X.prog X.w) X.A (eval iter X.env) (fun v s1 => wpAny (model X.prog X.w) X.A (pyIter v) (PIE X pins σ tg R) X.xe s1) X.xe s

/-  the step ahead of the store is nothing for an iterator that keeps no tuple -/
theorem go_of {M : Model} {A : Around} {E : Value → Shared → Prop} {s : Shared} {tg : Expr} {it : Addr} {u : Value} {o : Obj} {n : String} {vs : Array Value} {Q : Unit → Shared → Prop} (ho : s.heap.get? it = some o) (hc : o.cls = .type n) (hd : o.data = .fields vs)
    (hn : ["enumerate", "zip", "dict_itemiterator", "dict_reverseitemiterator", "odict_iterator", "itertools.zip_longest", "itertools.pairwise"].contains n = false) (hQ : Q () s) : wpAny M A (letOwnedTupleGo tg (.ref it) u) Q E s := by
  unfold letOwnedTupleGo
  cases tg <;> first
    | exact wpAny_pure hQ
    | (cases u <;> first
        | exact wpAny_pure hQ
        | (refine wpAny_bind (wpAny_load ho ?_)
           rw [hc, hd]
           show wpAny M A (if (["enumerate", "zip", "dict_itemiterator", "dict_reverseitemiterator", "odict_iterator", "itertools.zip_longest", "itertools.pairwise"].contains n && vs[0]? == some (rawInt _)) = true then _ else _) Q E s
           rw [if_neg (by intro h; rw [hn, Bool.false_and] at h; cases h)]
           exact wpAny_pure hQ))

/-  the list at a, as it stands at each turn (a loop may append to it) -/
def Itl (K : PySem.W.Frag) (a : Addr) : It :=
  ⟨fun i H => ∃ xs x, SqL K H a xs ∧ xs[i]? = some x, fun i H x H' => H' = H ∧ ∀ xs, SqL K H a xs → xs[i]? = some x, fun i H => ∃ xs, SqL K H a xs ∧ xs.length ≤ i⟩
def Itt (K : PySem.W.Frag) (a : Addr) : It :=
  ⟨fun i H => ∃ xs x, SqT K H a xs ∧ xs[i]? = some x, fun i H x H' => H' = H ∧ ∀ xs, SqT K H a xs → xs[i]? = some x, fun i H => ∃ xs, SqT K H a xs ∧ xs.length ≤ i⟩
/-  lo, lo + 1, .. (n of them) -/
def Itr (lo : Int) (n : Nat) : It := ⟨fun i _ => i < n, fun i H x H' => H' = H ∧ x = .int (lo + i), fun i _ => n ≤ i⟩
theorem turn_list {P : Program} {w : World} {K : PySem.W.Frag} {tg : Expr} (a it : Addr) : Turn P w K tg (Itl K a) [it] it (fun i h => h.IsListIter it a i) where
  mem := by simp
  obj := fun i h st b hb => by
    have e : b = it := by simpa using hb
    subst e
    obtain ⟨o, e, c, d⟩ := st
    exact ⟨o, e, fun v z => by rw [d] at z; cases z⟩
  keep := fun i h h' st k => st.at fun o e => k it (by simp) o e
  item := by
    intro X hP hw hK hc i pins s σ H E I hf st hg
    subst hP hw hK
    obtain ⟨xs, x, hq, hx⟩ := hg
    obtain ⟨its, rv, p, hz⟩ := I.list hq
    obtain ⟨u, hu, ru⟩ := rv.get hx
    obtain ⟨f0, f1, f2, f3, f4, f5⟩ := hf it (by simp)
    refine wpAny_pyNext_list_item st p.isList (x := u) (by simpa using hu) fun h' st' sb => ?_
    have I1 : Inv X pins σ H { s with heap := h' } := I.turned (t' := s.toks) (fun b o hb e => (sb.2 b hb).trans e) f0 f1 f3 f4 f5
    obtain ⟨o, e, c, d⟩ := id st'
    exact ⟨u, rfl, go_of (s := { s with heap := h' }) e c d (by decide) ⟨x, H, I1, ru, ⟨rfl, fun ys hy => by rw [I.list_inj hy hq]; exact hx⟩, st', fun b hb => (hf b hb).1⟩⟩
  done := by
    intro X hP hw hK hc i pins s σ H E I hf st hg
    subst hP hw hK
    obtain ⟨xs, hq, hx⟩ := hg
    obtain ⟨its, rv, p, hz⟩ := I.list hq
    obtain ⟨f0, f1, f2, f3, f4, f5⟩ := hf it (by simp)
    have hl := rv.length
    exact wpAny_pyNext_list_end (I.ok.hd hc) st p.isList (by simp; omega) fun h' eb => ⟨rfl, I.turned (t' := s.toks) (fun b o hb e => eb b o hb e) f0 f1 f3 f4 f5⟩
  self := fun _ _ _ _ _ st h => wpAny_pyIter_listiter st h
theorem turn_range {P : Program} {w : World} {K : PySem.W.Frag} {tg : Expr} (it : Addr) (lo : Int) (n : Nat) : Turn P w K tg (Itr lo n) [it] it (fun i h => IsRangeIter h it (lo + (i : Nat) * 1) ((n : Int) - (i : Nat)) 1) where
  mem := by simp
  obj := fun i h st b hb => by
    have e : b = it := by simpa using hb
    subst e
    exact ⟨_, st, fun v z => by
      have z' : Data.fields _ = Data.cell v := z
      cases z'⟩
  keep := fun i h h' st k => k it (by simp) _ st
  item := by
    intro X hP hw hK hc i pins s σ H E I hf st hg
    subst hP hw hK
    obtain ⟨f0, f1, f2, f3, f4, f5⟩ := hf it (by simp)
    have W := Walks.range (prog := X.prog) (w := X.w) (I.ok.hd hc) it lo 1 n
    refine W.item i s _ _ hg st fun v h' tk hv st' kk => ?_
    obtain ⟨t, rfl⟩ := hv
    have I1 : Inv X pins σ H { s with heap := h', toks := tk } := I.turned (fun b o hb e => kk b o (by simpa using hb) e) f0 f1 f3 f4 f5
    refine ⟨_, rfl, go_of (s := { s with heap := h', toks := tk }) (n := "range_iterator") st' rfl rfl (by decide) ⟨.int (lo + i), H, I1, ⟨t, ?_⟩, ⟨rfl, rfl⟩, st', fun b hb => (hf b hb).1⟩⟩
    rw [Int.mul_one]
  done := by
    intro X hP hw hK hc i pins s σ H E I hf st hg
    subst hP hw hK
    obtain ⟨f0, f1, f2, f3, f4, f5⟩ := hf it (by simp)
    exact wpAny_pyNext_range_end (I.ok.hd hc) st (by have : n ≤ i := hg; omega) fun h' eb => ⟨rfl, I.turned (t' := s.toks) (fun b o hb e => eb b o hb e) f0 f1 f3 f4 f5⟩
  self := fun _ _ _ _ _ st h => wpAny_pyIter_rangeiter st h
end L2

namespace L2
open PySem PySem.Spec PyProof.Rows
section
variable {X : Cx} {tg : Expr}
def iList (K : PySem.W.Frag) (tl : TE) : TI := fun σ H R => tl σ H fun x H1 => ∃ a, x = .ref a ∧ (∃ xs, SqL K H1 a xs) ∧ R (Itl K a) H1
def iTup (K : PySem.W.Frag) (tl : TE) : TI := fun σ H R => tl σ H fun x H1 => ∃ a, x = .ref a ∧ (∃ xs, SqT K H1 a xs) ∧ R (Itt K a) H1
theorem pi_list {l : Expr} {tl : TE} (hl : PE X l tl) : PI X tg l (iList X.K tl) := by
  intro pins s σ H R I h
  refine thn (hl pins s σ H _ I h) fun v s1 ⟨x, H1, I1, r1, q1⟩ => ?_
  obtain ⟨a, e, ⟨xs, hq⟩, q⟩ := q1
  subst e
  cases r1
  obtain ⟨its, rv, p, hz⟩ := I1.list hq
  refine wpAny_pyIter_list p.isList ?_
  refine ⟨s1.heap.objs.size, [s1.heap.objs.size], _, _, H1, rfl, I1.kept (t' := s1.toks) fun b o e => Heap.get?_push_of_some _ e, turn_list a _, ⟨_, Heap.get?_push_size _ rfl, rfl, rfl⟩, fun b hb => ?_, q⟩
  have e : b = s1.heap.objs.size := by simpa using hb
  subst e
  exact I1.fpOk (Nat.le_refl _) (I1.hok.fresh (Nat.le_refl _))
/-  a range object just made, walked -/
theorem range_it {pins : List (Addr × Obj)} {σ : St} {H : Hp} {s : Shared} {R : It → Hp → Prop} {E : Value → Shared → Prop} {lo hi : Int} {t u v : Tok} {tk : Nat} (I : Inv X pins σ H s) (h1 : -(2 ^ 62) ≤ lo) (h2 : lo < 2 ^ 62) (h3 : -(2 ^ 62) ≤ hi) (h4 : hi < 2 ^ 62)
    (q : R (Itr lo (hi - lo).toNat) H) : wpAny (model X.prog X.w) X.A (pyIter (.ref s.heap.objs.size)) (PIE X pins σ tg R) E { s with heap := s.heap.push { cls := .type "range", data := .fields #[.int lo t, .int hi u, .int 1 v] }, toks := tk } := by
  refine wpAny_pyIter_range (IsRange.new ..) (small_one h1 h2 h3 h4) ?_
  have I1 : Inv X pins σ H { s with heap := s.heap.push { cls := .type "range", data := .fields #[.int lo t, .int hi u, .int 1 v] }, toks := tk } := I.kept fun b o e => Heap.get?_push_of_some _ e
  refine ⟨(s.heap.push { cls := .type "range", data := .fields #[.int lo t, .int hi u, .int 1 v] }).objs.size, [(s.heap.push { cls := .type "range", data := .fields #[.int lo t, .int hi u, .int 1 v] }).objs.size], _, _, H, rfl,
    I1.kept (t' := tk) fun b o e => Heap.get?_push_of_some _ e, turn_range _ lo (hi - lo).toNat, ?_, fun b hb => ?_, q⟩
  · have e1 : lo + ((0 : Nat) : Int) * 1 = lo := by simp
    have e2 : (((hi - lo).toNat : Nat) : Int) - ((0 : Nat) : Int) = Builtin.Range.rangeSize lo hi 1 := by rw [rangeSize_one]; split <;> omega
    show IsRangeIter _ _ (lo + ((0 : Nat) : Int) * 1) ((((hi - lo).toNat : Nat) : Int) - ((0 : Nat) : Int)) 1
    rw [e1, e2]
    exact Heap.get?_push_size _ rfl
  · have e : b = (s.heap.push { cls := .type "range", data := .fields #[.int lo t, .int hi u, .int 1 v] }).objs.size := by simpa using hb
    subst e
    exact I1.fpOk (Nat.le_refl _) (I1.hok.fresh (Nat.le_refl _))
def iRng1 (ta : TA) : TI := fun σ H R => ta σ H fun vs H1 => ∃ j : Int, vs = [.int j] ∧ -(2 ^ 62) ≤ j ∧ j < 2 ^ 62 ∧ R (Itr 0 j.toNat) H1
def iRng2 (ta : TA) : TI := fun σ H R => ta σ H fun vs H1 => ∃ i j : Int, vs = [.int i, .int j] ∧ (-(2 ^ 62) ≤ i ∧ i < 2 ^ 62 ∧ -(2 ^ 62) ≤ j ∧ j < 2 ^ 62) ∧ R (Itr i (j - i).toNat) H1
theorem pi_range1 {a : Expr} {ta : TA} {p pos : Pos} (hg : Gl X "range") (hm : X.mg "range" = none) (ha : PA X [a] ta) (hs : starEach [a] X.env = [(false, eval a X.env)] := by rfl) : PI X tg (.Call (.Name "range" p) [a] [] pos) (iRng1 ta) := by
  intro pins s σ H R I h
  refine Call_ (ld_blt I hg hm boot_range (PyProof.Rows.callWith_type1 (thn (ha pos pins s σ H _ I h) fun us s1 ⟨vs, H1, I1, r1, q1⟩ => ?_) hs rfl))
  obtain ⟨j, e, q1, q2, q⟩ := q1
  subst e
  cases r1 with
  | cons r rr =>
    cases rr
    obtain ⟨t, rfl⟩ := r
    exact call_range_1 (range_it I1 (by omega) (by omega) q1 q2 (by simpa using q))

/-! ### for -/
/-  W: the invariant by the turn and a measure; N: what the body is to reach -/
def tFor (wi : TI) (g : TG) (tb : TS) : TS := fun D σ H => wi σ H fun J H1 => ∃ W : Nat → Nat → St → Hp → Prop, (∃ m, W 0 m σ H1) ∧ ∀ i m σ H, W i m σ H →
  (J.stop i H ∧ D.nx σ H) ∨ (J.go i H ∧ ∃ N : St → Hp → Prop, (∀ σ' H', N σ' H' → ∃ m', m' < m ∧ W (i + 1) m' σ' H') ∧ ∀ x H', J.yld i H x H' → g x σ H' fun σ2 H2 => tb { D with nx := N, ct := N, bk := D.nx } σ2 H2)
/-  the records at fp as they stand -/
def pinsAt (fp : List Addr) (h : Heap) : List (Addr × Obj) := fp.filterMap fun b => (h.get? b).map fun o => (b, o)
theorem mem_pinsAt {fp : List Addr} {h : Heap} {b : Addr} {o : Obj} (hb : b ∈ fp) (e : h.get? b = some o) : (b, o) ∈ pinsAt fp h := List.mem_filterMap.mpr ⟨b, hb, by rw [e]; rfl⟩
theorem of_pinsAt {fp : List Addr} {h : Heap} {p : Addr × Obj} (hp : p ∈ pinsAt fp h) : p.1 ∈ fp ∧ h.get? p.1 = some p.2 := by
  obtain ⟨b, hb, e⟩ := List.mem_filterMap.mp hp
  cases q : h.get? b with
  | none => rw [q] at e; cases e
  | some o =>
    rw [q] at e
    have e' : (b, o) = p := Option.some.inj e
    subst e'
    exact ⟨hb, q⟩
theorem Inv.pinned {pins : List (Addr × Obj)} {σ : St} {H : Hp} {s : Shared} {fp : List Addr} (I : Inv X pins σ H s) (hf : ∀ b ∈ fp, FpOk X pins H b) (ho : ∀ b ∈ fp, ∃ o, s.heap.get? b = some o ∧ ∀ v, o.data ≠ .cell v) : Inv X (pins ++ pinsAt fp s.heap) σ H s :=
  I.pins_of fun p hp => (List.mem_append.mp hp).elim (fun z => I.pin p (List.mem_append_right _ z)) fun z => by
    obtain ⟨hb, e⟩ := of_pinsAt z
    obtain ⟨f0, f1, f2, _⟩ := hf p.1 hb
    obtain ⟨o, e', d⟩ := ho p.1 hb
    rw [e] at e'; cases e'
    exact ⟨e, f0, f1, f2, d⟩
theorem Inv.unpinned {pins pl : List (Addr × Obj)} {σ : St} {H : Hp} {s : Shared} (I : Inv X (pins ++ pl) σ H s) : Inv X pins σ H s := I.pins_of fun p hp => I.pin p (List.mem_append_right _ (List.mem_append_left _ hp))
theorem ps_for {iter : Expr} {body : List Stmt} {wi : TI} {g : TG} {tb : TS} {pos : Pos} (hp : PassesOwn (model X.prog X.w) X.A X.env X.xe) (hc : X.calm = true) (hi : PI X tg iter wi) (hg : PG X tg g) (hb : PSs X body tb)
    (hs : ∀ x, foldedSetIterable iter X.env x = pure x := by intro _; rfl) : PS X (.For tg iter body [] pos) (tFor wi g tb) := by
  intro pins s σ H D I h
  refine wpAny_For (thn (hi pins s σ H _ I h) fun v s1 h1 => thn h1 fun itv s2 h2 => ?_) hs
  obtain ⟨it, fp, tn, J, H2, e, I2, T, st2, f2, W, ⟨m0, w0⟩, turn⟩ := h2
  subst e
  -- what stays true of the iterator's objects through the loop
  have stat : ∀ {H' : Hp}, (∀ b ∈ fp, H' b = none) → ∀ b ∈ fp, FpOk X pins H' b := fun hn b hb => ⟨hn b hb, (f2 b hb).2⟩
  refine codeAny_forLoop_any (fun n s' => ∃ i σ' H', Inv X pins σ' H' s' ∧ tn i s'.heap ∧ (∀ b ∈ fp, H' b = none) ∧ W i n σ' H') ?_ m0 ⟨0, σ, H2, I2, st2, fun b hb => (f2 b hb).1, w0⟩
  rintro n s3 ⟨i, σ3, H3, I3, st3, fr3, w3⟩
  rcases turn i n σ3 H3 w3 with ⟨stop, qn⟩ | ⟨go, N, hN, step⟩
  · refine wpAny_passesOwn hp (thn (T.done X rfl rfl rfl hc i pins s3 σ3 H3 X.xe I3 (stat fr3) st3 stop) fun r s4 ⟨hr, I4⟩ => ?_)
    subst hr
    exact wpAny_execs_nil ⟨σ3, H3, I4, qn⟩
  · refine wpAny_passesOwn hp (thn (T.item X rfl rfl rfl hc i pins s3 σ3 H3 X.xe I3 (stat fr3) st3 go) fun r s4 ⟨u, hr, h4⟩ => ?_)
    subst hr
    refine wpAny_passesOwn hp (thn h4 fun _ s5 ⟨x, H5, I5, r5, y5, st5, fr5⟩ => ?_)
    have I5' := I5.pinned (stat fr5) (T.obj _ _ st5)
    refine wpAny_passesOwn hp (thn (hg _ s5 σ3 H5 x u _ I5' r5 (step x H5 y5)) fun _ s6 ⟨σ6, H6, I6, q6⟩ => ?_)
    refine wpAny_passesOwn hp (thn (hb _ s6 σ6 H6 _ I6 q6) fun f s7 q7 => ?_)
    have again : ∀ {σ7 : St} {H7 : Hp}, Inv X (pins ++ pinsAt fp s5.heap) σ7 H7 s7 → N σ7 H7 → ∃ m, m < n ∧ ∃ i σ' H', Inv X pins σ' H' s7 ∧ tn i s7.heap ∧ (∀ b ∈ fp, H' b = none) ∧ W i m σ' H' := fun {σ7 H7} I7 n7 => by
      obtain ⟨m', hm, w7⟩ := hN σ7 H7 n7
      refine ⟨m', hm, i + 1, σ7, H7, I7.unpinned, T.keep _ _ _ st5 fun b hb o e => (I7.pin (b, o) (List.mem_append_right _ (List.mem_append_right _ (mem_pinsAt hb e)))).1, fun b hb => ?_, w7⟩
      obtain ⟨o, e, d⟩ := T.obj _ _ st5 b hb
      exact (I7.pin (b, o) (List.mem_append_right _ (List.mem_append_right _ (mem_pinsAt hb e)))).2.1
    cases f with
    | next => obtain ⟨σ7, H7, I7, n7⟩ := q7; exact again I7 n7
    | cont => obtain ⟨σ7, H7, I7, n7⟩ := q7; exact again I7 n7
    | brk => obtain ⟨σ7, H7, I7, q7⟩ := q7; exact ⟨σ7, H7, I7.unpinned, q7⟩
    | ret v => obtain ⟨x7, σ7, H7, I7, r7, q7⟩ := q7; exact ⟨x7, σ7, H7, I7.unpinned, r7, q7⟩
end

/-! ### the forms one uses -/
end L2

namespace L2
open PySem PySem.Spec PyProof.Rows

abbrev R2 := V → V → Hp → VK → Prop
/-  a two-place operation on values: f is binaryOp op, inplaceOp op or compareOp op -/
def OpR (X : Cx) (f : Value → Value → Sem Value) (r : R2) : Prop :=
  ∀ (pins : List (Addr × Obj)) (s : Shared) (σ : St) (H : Hp) (x y : V) (v u : Value) (Q : VK), Inv X pins σ H s → RelV x v → RelV y u → r x y H Q →
    wpAny (model X.prog X.w) X.A (f v u) (EP X pins σ Q) X.xe s
/-  a one-place operation -/
def UnR (X : Cx) (f : Value → Sem Value) (r : V → Hp → VK → Prop) : Prop :=
  ∀ (pins : List (Addr × Obj)) (s : Shared) (σ : St) (H : Hp) (x : V) (v : Value) (Q : VK), Inv X pins σ H s → RelV x v → r x H Q →
    wpAny (model X.prog X.w) X.A (f v) (EP X pins σ Q) X.xe s
/-  a call of a value that is known (a builtin, a type) with values -/
def CallR (X : Cx) (f : Value) (r : List V → Hp → VK → Prop) : Prop :=
  ∀ (pins : List (Addr × Obj)) (s : Shared) (σ : St) (H : Hp) (xs : List V) (us : List Value) (Q : VK), Inv X pins σ H s → Vals xs us → r xs H Q →
    wpAny (model X.prog X.w) X.A (call f us) (EP X pins σ Q) X.xe s

def tOp (r : R2) (ta tb : TE) : TE := fun σ H Q => ta σ H fun x H1 => tb σ H1 fun y H2 => r x y H2 Q
def tUn (r : V → Hp → VK → Prop) (ta : TE) : TE := fun σ H Q => ta σ H fun x H1 => r x H1 Q
/-  ints in, under C, and a value out -/
def rI (C : Int → Int → Prop) (g : Int → Int → V) : R2 := fun x y H Q => ∃ i j, x = .int i ∧ y = .int j ∧ C i j ∧ Q (g i j) H
def rI0 (g : Int → Int → V) : R2 := fun x y H Q => ∃ i j, x = .int i ∧ y = .int j ∧ Q (g i j) H
def rU (g : Int → V) : V → Hp → VK → Prop := fun x H Q => ∃ i, x = .int i ∧ Q (g i) H

section
variable {X : Cx} {a b c : Expr} {ta tb tc : TE} {pos : Pos}

theorem binT (ha : PE X a ta) (hb : PE X b tb) {pins : List (Addr × Obj)} {s : Shared} {σ : St} {H : Hp} {R : V → V → Hp → Prop} (I : Inv X pins σ H s)
    (h : ta σ H fun x H1 => tb σ H1 fun y H2 => R x y H2) {Q : Value → Shared → Prop} {f : Value → Value → Sem Value}
    (hf : ∀ v u s2 x y H2, Inv X pins σ H2 s2 → RelV x v → RelV y u → R x y H2 → wpAny (model X.prog X.w) X.A (f v u) Q X.xe s2) :
    wpAny (model X.prog X.w) X.A (eval a X.env) (fun v s₁ => wpAny (model X.prog X.w) X.A (eval b X.env) (fun u s₂ => wpAny (model X.prog X.w) X.A (f v u) Q X.xe s₂) X.xe s₁) X.xe s := by
  refine thn (ha pins s σ H _ I h) fun v s1 ⟨x, H1, I1, r1, q1⟩ => ?_
  refine thn (hb pins s1 σ H1 _ I1 q1) fun u s2 ⟨y, H2, I2, r2, q2⟩ => ?_
  exact hf v u s2 x y H2 I2 r1 r2 q2

theorem pe_op {op : Operator} {r : R2} (ho : OpR X (binaryOp op) r) (ha : PE X a ta) (hb : PE X b tb) : PE X (.BinOp a op b pos) (tOp r ta tb) := by
  intro pins s σ H Q I h
  exact wpAny_BinOp (binT ha hb I h fun v u s2 x y H2 I2 rx ry q => ho pins s2 σ H2 x y v u Q I2 rx ry q)
theorem pe_un {op : UnaryOp} {r : V → Hp → VK → Prop} (ho : UnR X (unaryOp op) r) (ha : PE X a ta) : PE X (.UnaryOp op a pos) (tUn r ta) := by
  intro pins s σ H Q I h
  exact UnaryOp_ (thn (ha pins s σ H _ I h) fun v s1 ⟨x, H1, I1, r1, q1⟩ => ho pins s1 σ H1 x v Q I1 r1 q1)

/-! ### ints -/
theorem opI {f : Value → Value → Sem Value} {C : Int → Int → Prop} {g : Int → Int → Int}
    (rule : ∀ (i j : Int) (t u : Tok) (s : Shared) (Q : Value → Shared → Prop) (E : Value → Shared → Prop), C i j → Q (.int (g i j) s.toks) { s with toks := s.toks + 1 } → wpAny (model X.prog X.w) X.A (f (.int i t) (.int j u)) Q E s) :
    OpR X f (rI C fun i j => .int (g i j)) := by
  intro pins s σ H x y v u Q I rx ry h
  obtain ⟨i, j, rfl, rfl, hc, q⟩ := h
  obtain ⟨t, rfl⟩ := rx
  obtain ⟨t', rfl⟩ := ry
  exact rule i j t t' s _ _ hc ⟨.int (g i j), H, I.tok _, ⟨_, rfl⟩, q⟩
theorem opI0 {f : Value → Value → Sem Value} {g : Int → Int → Int}
    (rule : ∀ (i j : Int) (t u : Tok) (s : Shared) (Q : Value → Shared → Prop) (E : Value → Shared → Prop), Q (.int (g i j) s.toks) { s with toks := s.toks + 1 } → wpAny (model X.prog X.w) X.A (f (.int i t) (.int j u)) Q E s) :
    OpR X f (rI0 fun i j => .int (g i j)) := by
  intro pins s σ H x y v u Q I rx ry h
  obtain ⟨i, j, rfl, rfl, q⟩ := h
  obtain ⟨t, rfl⟩ := rx
  obtain ⟨t', rfl⟩ := ry
  exact rule i j t t' s _ _ ⟨.int (g i j), H, I.tok _, ⟨_, rfl⟩, q⟩
theorem opB0 {f : Value → Value → Sem Value} {g : Int → Int → Bool}
    (rule : ∀ (i j : Int) (t u : Tok) (s : Shared) (Q : Value → Shared → Prop) (E : Value → Shared → Prop), Q (.bool (g i j)) s → wpAny (model X.prog X.w) X.A (f (.int i t) (.int j u)) Q E s) :
    OpR X f (rI0 fun i j => .bl (g i j)) := by
  intro pins s σ H x y v u Q I rx ry h
  obtain ⟨i, j, rfl, rfl, q⟩ := h
  obtain ⟨t, rfl⟩ := rx
  obtain ⟨t', rfl⟩ := ry
  exact rule i j t t' s _ _ ⟨.bl (g i j), H, I, rfl, q⟩

def CDiv (i j : Int) : Prop := 0 < j ∧ j < 1073741824
def CPow (i j : Int) : Prop := 0 ≤ j ∧ j ≤ 1000000 ∧ i.natAbs < 2 ^ 64
def CMul (i j : Int) : Prop := (-(2 ^ 64) < i ∧ i < 2 ^ 64) ∨ (-(2 ^ 64) < j ∧ j < 2 ^ 64)
theorem CMul.ok {i j : Int} (h : CMul i j) : IntMulOk i j := by
  rcases h with ⟨h1, h2⟩ | ⟨h1, h2⟩
  · exact .of_left (intBits_le_64 h1 h2)
  · exact .of_right (intBits_le_64 h1 h2)

theorem op_add : OpR X (binaryOp .Add) (rI0 fun i j => .int (i + j)) := opI0 fun _ _ _ _ _ _ _ q => add_int q
theorem op_sub : OpR X (binaryOp .Sub) (rI0 fun i j => .int (i - j)) := opI0 fun _ _ _ _ _ _ _ q => sub_int q
theorem op_mul : OpR X (binaryOp .Mult) (rI CMul fun i j => .int (i * j)) := opI fun _ _ _ _ _ _ _ hc q => mul_int q hc.ok
/-  // by a positive divisor -/
theorem op_fdiv : OpR X (binaryOp .FloorDiv) (rI CDiv fun i j => .int (i / j)) := opI fun i j _ _ _ _ _ hc q => by
  have h1 : (0 : Int) < j := hc.1
  have h2 : j < 1073741824 := hc.2
  exact floordiv_int (by omega) (by rw [Int.fdiv_eq_ediv_of_nonneg i (by omega)]; exact q) (.inl (PyProof.noPylong_small (by omega)))
/-  % by a positive divisor of any size -/
theorem op_mod : OpR X (binaryOp .Mod) (rI (fun _ j => 0 < j) fun i j => .int (i % j)) := opI fun i j _ _ _ _ _ hc q => by
  have h1 : (0 : Int) < j := hc
  exact mod_int' (by omega) (by rw [Int.fmod_eq_emod_of_nonneg i (by omega)]; exact q)
theorem op_pow : OpR X (binaryOp .Pow) (rI CPow fun i j => .int (i ^ j.toNat)) := opI fun _ _ _ _ _ _ _ hc q => pow_int_small hc.1 hc.2.1 hc.2.2 q


theorem unI {f : Value → Sem Value} {g : Int → Int}
    (rule : ∀ (i : Int) (t : Tok) (s : Shared) (Q : Value → Shared → Prop) (E : Value → Shared → Prop), Q (.int (g i) s.toks) { s with toks := s.toks + 1 } → wpAny (model X.prog X.w) X.A (f (.int i t)) Q E s) :
    UnR X f (rU fun i => .int (g i)) := by
  intro pins s σ H x v Q I rx h
  obtain ⟨i, rfl, q⟩ := h
  obtain ⟨t, rfl⟩ := rx
  exact rule i t s _ _ ⟨.int (g i), H, I.tok _, ⟨_, rfl⟩, q⟩
theorem un_neg : UnR X (unaryOp .USub) (rU fun i => .int (-i)) := unI fun _ _ _ _ _ q => neg_int q

/-! ### bools among ints: n += (a < b) -/
end

/-! ### comparisons -/
/-  the scalars that == tells apart as data does -/
def scal : V → V → Bool
  | .non, .non => true | .non, .int _ => true | .int _, .non => true | .non, .bl _ => true | .bl _, .non => true | .non, .str _ => true | .str _, .non => true
  | .int _, .int _ => true | .bl _, .bl _ => true | .str _, .str _ => true | .byt _, .byt _ => true
  | .int _, .str _ => true | .str _, .int _ => true | .bl _, .str _ => true | .str _, .bl _ => true
  | _, _ => false
def rEq : R2 := fun x y H Q => scal x y = true ∧ Q (.bl (decide (x = y))) H
def rNe : R2 := fun x y H Q => scal x y = true ∧ Q (.bl (!decide (x = y))) H

theorem dec_int {i j : Int} : decide (V.int i = V.int j) = (i == j) := by
  rw [Bool.eq_iff_iff]
  simp
theorem dec_bl {i j : Bool} : decide (V.bl i = V.bl j) = (i == j) := by
  rw [Bool.eq_iff_iff]
  simp
theorem dec_str {i j : Str} : decide (V.str i = V.str j) = (i == j) := by
  rw [Bool.eq_iff_iff]
  simp
theorem dec_byt {i j : Array UInt8} : decide (V.byt i = V.byt j) = (i.toList == j.toList) := by
  rw [Bool.eq_iff_iff]
  cases i
  cases j
  simp

section
variable {X : Cx} {a b c : Expr} {ta tb tc : TE} {pos : Pos}
theorem fin_bl {pins : List (Addr × Obj)} {σ : St} {H : Hp} {s : Shared} {Q : VK} {k k' : Bool} (I : Inv X pins σ H s) (q : Q (.bl k) H) (e : k = k') : EP X pins σ Q (.bool k') s := by
  subst e
  exact ⟨.bl k, H, I, rfl, q⟩
theorem op_eq : OpR X (compareOp .Eq) rEq := by
  intro pins s σ H x y v u Q I rx ry h
  obtain ⟨hs, q⟩ := h
  cases x with
  | non =>
    cases rx
    cases y with
    | non => cases ry; exact PySem.EqNone.eq_none_none (fin_bl I q (by simp))
    | bl j => cases ry; exact PySem.EqNone.eq_none_bool (fin_bl I q (by simp))
    | int j => obtain ⟨t', rfl⟩ := ry; exact PySem.EqNone.eq_none_int (fin_bl I q (by simp))
    | str j => obtain ⟨t', rfl⟩ := ry; exact PySem.EqNone.eq_none_str (fin_bl I q (by simp))
    | _ => exact absurd (show false = true from hs) Bool.false_ne_true
  | bl i =>
    cases rx
    cases y with
    | non => cases ry; exact PySem.EqNone.eq_bool_none (fin_bl I q (by simp))
    | bl j => cases ry; exact eq_bool (fin_bl I q dec_bl)
    | str j => obtain ⟨t', rfl⟩ := ry; exact PySem.EqMixed.eq_bool_str (fin_bl I q (by simp))
    | _ => exact absurd (show false = true from hs) Bool.false_ne_true
  | int i =>
    obtain ⟨t, rfl⟩ := rx
    cases y with
    | non => cases ry; exact PySem.EqNone.eq_int_none (fin_bl I q (by simp))
    | int j => obtain ⟨t', rfl⟩ := ry; exact eq_int (fin_bl I q dec_int)
    | str j => obtain ⟨t', rfl⟩ := ry; exact PySem.EqMixed.eq_int_str (fin_bl I q (by simp))
    | _ => exact absurd (show false = true from hs) Bool.false_ne_true
  | str i =>
    obtain ⟨t, rfl⟩ := rx
    cases y with
    | non => cases ry; exact PySem.EqNone.eq_str_none (fin_bl I q (by simp))
    | bl j => cases ry; exact PySem.EqMixed.eq_str_bool (fin_bl I q (by simp))
    | int j => obtain ⟨t', rfl⟩ := ry; exact PySem.EqMixed.eq_str_int (fin_bl I q (by simp))
    | str j => obtain ⟨t', rfl⟩ := ry; exact eq_str (fin_bl I q dec_str)
    | _ => exact absurd (show false = true from hs) Bool.false_ne_true
  | byt i =>
    obtain ⟨t, rfl⟩ := rx
    cases y with
    | byt j => obtain ⟨t', rfl⟩ := ry; exact PySem.W.eq_bytes (fin_bl I q dec_byt)
    | _ => exact absurd (show false = true from hs) Bool.false_ne_true
  | _ => cases y <;> exact absurd (show false = true from hs) Bool.false_ne_true

theorem op_lt : OpR X (compareOp .Lt) (rI0 fun i j => .bl (decide (i < j))) := opB0 fun _ _ _ _ _ _ _ q => lt_int q
theorem op_le : OpR X (compareOp .LtE) (rI0 fun i j => .bl (decide (i ≤ j))) := opB0 fun _ _ _ _ _ _ _ q => le_int q
theorem op_gt : OpR X (compareOp .Gt) (rI0 fun i j => .bl (decide (j < i))) := opB0 fun _ _ _ _ _ _ _ q => gt_int q

/-  is None, is not None: the right side a value none -/
theorem op_isN : OpR X (compareOp .Is) (fun x y H Q => y = .non ∧ Q (.bl (decide (x = .non))) H) := by
  intro pins s σ H x y v u Q I rx ry h
  obtain ⟨rfl, q⟩ := h
  cases ry
  refine is_none_gen (fin_bl I q ?_)
  cases x <;> first
    | (cases rx; rfl)
    | (obtain ⟨t, rfl⟩ := rx; rfl)
theorem op_notN : OpR X (compareOp .IsNot) (fun x y H Q => y = .non ∧ Q (.bl (!decide (x = .non))) H) := by
  intro pins s σ H x y v u Q I rx ry h
  obtain ⟨rfl, q⟩ := h
  cases ry
  refine isnot_none_gen (fin_bl I q ?_)
  cases x <;> first
    | (cases rx; rfl)
    | (obtain ⟨t, rfl⟩ := rx; rfl)



theorem nomark (b : Expr) {op : CmpOp} (h : op ≠ .In := by decide) (h2 : op ≠ .NotIn := by decide) : behindInMarks op b = false := by
  have e1 : (op == CmpOp.In) = false := by cases op <;> first | rfl | exact absurd rfl h
  have e2 : (op == CmpOp.NotIn) = false := by cases op <;> first | rfl | exact absurd rfl h2
  cases b <;> simp [behindInMarks, e1, e2]
/-  a comparison as a value; hm: nomark b, or (for in, not in) by with_unfolding_all rfl -/
theorem pe_cmpR {op : CmpOp} {r : R2} (ho : OpR X (compareOp op) r) (ha : PE X a ta) (hb : PE X b tb) (hm : behindInMarks op b = false) : PE X (.Compare a [op] [b] pos) (tOp r ta tb) := by
  intro pins s σ H Q I h
  exact wpAny_Compare1 (binT ha hb I h fun v u s2 x y H2 I2 rx ry q => ho pins s2 σ H2 x y v u Q I2 rx ry q) hm
/-  a reading of a value as a test -/
def tTest (t : TE) : TT := fun σ H Q => t σ H fun x H' => ∃ k, x = .bl k ∧ Q k H'
theorem pt_cmpR {op : CmpOp} {r : R2} (ho : OpR X (compareOp op) r) (ha : PE X a ta) (hb : PE X b tb) (hm : behindInMarks op b = false) : PT X (.Compare a [op] [b] pos) (tTest (tOp r ta tb)) := by
  intro pins s σ H Q I h
  refine wpAny_isTrue_Compare1 (thn (ha pins s σ H _ I h) fun v s1 ⟨x, H1, I1, r1, q1⟩ => thn (hb pins s1 σ H1 _ I1 q1) fun u s2 ⟨y, H2, I2, r2, q2⟩ =>
    thn (ho pins s2 σ H2 x y v u _ I2 r1 r2 q2) fun c s3 ⟨z, H3, I3, r3, k, e, q3⟩ => ?_) hm
  subst e
  cases r3
  exact wpAny_truthy_bool ⟨H3, I3, q3⟩
/-  a op1 b op2 c -/
def tChain (r r' : R2) (ta tb tc : TE) : TE := fun σ H Q => ta σ H fun x H1 => tb σ H1 fun y H2 => r x y H2 fun z H3 => ∃ k, z = .bl k ∧
  (if k = true then tc σ H3 fun w' H4 => r' y w' H4 Q else Q (.bl false) H3)

/-! ### truth -/
theorem line63 : (sizeLine : Nat) < 2 ^ 63 := by rw [sizeLine_eq]; decide

/-! ### strs and bytes -/
theorem op_add_str : OpR X (binaryOp .Add) (fun x y H Q => ∃ i j, x = .str i ∧ y = .str j ∧ i.length + j.length ≤ sizeLine ∧ Q (.str (i ++ j)) H) := by
  intro pins s σ H x y v u Q I rx ry h
  obtain ⟨i, j, rfl, rfl, hz, q⟩ := h
  obtain ⟨t, rfl⟩ := rx
  obtain ⟨t', rfl⟩ := ry
  exact add_str (fun t' tk => ⟨.str (i ++ j), H, I.tok _, ⟨_, rfl⟩, q⟩) hz


/-! ### scalar builtins, by CallR -/
theorem vals1 {x : V} {us : List Value} (r : Vals [x] us) : ∃ u, us = [u] ∧ RelV x u := by
  cases r with
  | cons r1 r2 => cases r2; exact ⟨_, rfl, r1⟩
theorem vals2 {x y : V} {us : List Value} (r : Vals [x, y] us) : ∃ u w', us = [u, w'] ∧ RelV x u ∧ RelV y w' := by
  cases r with
  | cons r1 r2 =>
    cases r2 with
    | cons r3 r4 => cases r4; exact ⟨_, _, rfl, r1, r3⟩
/-  len of a str, a bytes, a list, a tuple -/
def LenV (K : PySem.W.Frag) (x : V) (H : Hp) (n : Nat) : Prop :=
  match x with
  | .str y => y.length ≤ sizeLine ∧ n = y.length
  | .byt y => y.size ≤ sizeLine ∧ n = y.size
  | .ref p => (∃ xs, SqL K H p xs ∧ n = xs.length) ∨ ∃ xs, SqT K H p xs ∧ n = xs.length
  | _ => False
end
end L2

namespace L2
open PySem PySem.Spec PyProof.Rows

/-! ### an instance, its attributes a map -/
structure ObjM (h : Heap) (x dx C : Addr) (mA : Str → Option Value) : Prop where
  obj : h.get? x = some (PySem.W.instObj C dx)
  ns : h.Ns1 dx mA
  ne : dx ≠ x

theorem lookIn_ns {h : Heap} {dx : Addr} {mA : Str → Option Value} (n : h.Ns1 dx mA) : ∃ od, h.get? dx = some od ∧ ∀ name, PySem.W.lookIn name od = some (mA name) := by
  obtain ⟨o, es, ep, ho, hd, hk, _, hm⟩ := n
  refine ⟨o, ho, fun name => ?_⟩
  have e := hm name
  unfold nsFind findBy at e
  rw [← Array.find?_toList] at e
  unfold PySem.W.lookIn
  rw [hd]
  dsimp only
  split
  · rename_i y q
    rw [q] at e
    exact congrArg some e
  · rename_i q
    rw [q] at e
    have a : es.toList.any (·.refKey) = false := by
      rw [List.any_eq_false]
      intro y hy
      obtain ⟨z, t, hkey⟩ := hk y (Array.mem_toList_iff.mp hy)
      simp [DictEntry.refKey, hkey]
    have a' : ¬ es.toList.any (·.refKey) = true := by rw [a]; exact Bool.false_ne_true
    rw [if_neg a']
    exact congrArg some e

theorem ObjM.look {h : Heap} {x dx C : Addr} {mA : Str → Option Value} (I : ObjM h x dx C mA) : ∃ od, PySem.W.InstAt h x (PySem.W.instObj C dx) C (some od) ∧ ∀ name, PySem.W.lookIn name od = some (mA name) :=
  let ⟨od, ho, hl⟩ := lookIn_ns I.ns
  ⟨od, ⟨I.obj, rfl, rfl, ho⟩, hl⟩

section
variable {prog : Program} {w : World} {A : Around} {E : Value → Shared → Prop} {s : Shared} {K : PySem.W.Frag} {x dx C f : Addr} {mA : Str → Option Value} {name : Str} {v : Value}



theorem get_meth {pl : Sem Bool} {Q : Value × List Value → Shared → Prop} (X : K.In s.heap) (I : ObjM s.heap x dx C mA) (hg : PySem.W.plainGet K C name = true)
    (hf : PySem.W.findIn K (.ref C) name = some (some (.ref f))) (ht : PySem.W.isFn K (.ref f) = true) (hv : mA name = none) (h : Q (.ref f, [.ref x]) s) :
    wpAny (model prog w) A (getMethod (.ref x) name pl) Q E s := by
  obtain ⟨od, J, hl⟩ := I.look
  exact PySem.W.method_fn X J (PySem.W.plainGet_of hg).1 (PySem.W.plainGet_of hg).2 hf (beq_iff_eq.mp ht) (by show (PySem.W.lookIn name od).map (·.isSome) = some false; rw [hl, hv]; rfl) h


/-  C(..): the dict at the heap's end, the instance behind it; then its __init__ -/
theorem make_map {R : Result → Shared → Prop} {vs : List Value} {kw : List (Str × Value)} (X : K.In s.heap) (hm : PySem.W.makesIn K C = true)
    (hi : PySem.W.findIn K (.ref C) "__init__" = some (some (.ref f))) (hf : PySem.W.typeIn K (.ref f) = some (.type "function"))
    (h : codeAny (model prog w) (A.under (.builtin "type.__call__" ⟨.ref C :: vs, kw⟩)) (.call (.ref f) ⟨.ref (s.heap.objs.size + 1) :: vs, kw⟩) (PySem.W.InitBack (s.heap.objs.size + 1) R)
      { s with heap := (s.heap.push PySem.W.emptyDict).push (PySem.W.instObj C s.heap.objs.size) }) :
    codeAny (model prog w) A (.call (.ref C) ⟨vs, kw⟩) R s := by
  obtain ⟨hh, g, d, t, os⟩ := s
  exact PySem.W.make_core (PySem.W.makes_of X hm) (PySem.W.looks_findIn X hi) (fun self => PySem.W.bind_fn X self hf) (.inl rfl) h
end

/-! ### the attributes as a list of pairs -/
def putF (f : Str) (v : V) : List (Str × V) → List (Str × V)
  | [] => [(f, v)]
  | (g, x) :: r => if g = f then (g, v) :: r else (g, x) :: putF f v r
theorem lookup_putF (f g : Str) (v : V) : ∀ fs : List (Str × V), (putF f v fs).lookup g = if g = f then some v else fs.lookup g
  | [] => by
    show List.lookup g [(f, v)] = _
    by_cases h : g = f
    · have hb : (g == f) = true := beq_iff_eq.mpr h
      simp only [List.lookup, hb, if_pos h]
    · have hb : (g == f) = false := beq_eq_false_iff_ne.mpr h
      simp only [List.lookup, hb, if_neg h]
  | (k, x) :: r => by
    have ih := lookup_putF f g v r
    rw [show putF f v ((k, x) :: r) = (if k = f then (k, v) :: r else (k, x) :: putF f v r) from rfl]
    by_cases hk : k = f
    · rw [if_pos hk]
      by_cases h : g = k
      · have hb : (g == k) = true := beq_iff_eq.mpr h
        simp only [List.lookup, hb, if_pos (h.trans hk)]
      · have hb : (g == k) = false := beq_eq_false_iff_ne.mpr h
        simp only [List.lookup, hb, if_neg (fun e : g = f => h (e.trans hk.symm))]
    · rw [if_neg hk]
      by_cases h : g = k
      · have hb : (g == k) = true := beq_iff_eq.mpr h
        simp only [List.lookup, hb, if_neg (fun e : g = f => hk (h.symm.trans e))]
      · have hb : (g == k) = false := beq_eq_false_iff_ne.mpr h
        simp only [List.lookup, hb]
        exact ih

theorem RelO.some_of {v : V} {o : Option Value} (r : RelO (some v) o) : ∃ u, o = some u ∧ RelV v u := by
  cases o with
  | none => exact (show False from r).elim
  | some u => exact ⟨u, rfl, r⟩
theorem RelO.none_of {o : Option Value} (r : RelO none o) : o = none := by
  cases o with
  | none => rfl
  | some u => exact (show False from r).elim

section
variable {P : Program} {w : World} {H H' : Hp} {h h' : Heap} {a C dx : Addr} {fs fs' : List (Str × V)}
theorem ins_get (hok : HOk P w H h) (e : H a = some (.ins C dx fs)) : ∃ mA, ObjM h a dx C mA ∧ (∀ f, RelO (fs.lookup f) (mA f)) ∧ PySem.Within mA (fs.map (·.1)) ∧ fs.length ≤ 1000 ∧ H dx = some (.own a) := by
  obtain ⟨d, z, ne, ob, mA, n, r, q⟩ := (show ObjOk P w H h a (.ins C dx fs) from hok a _ e)
  exact ⟨mA, ⟨ob, n, ne⟩, r, q, z, d⟩
end

/-! ### what of the text a class must have -/
structure Cls (K : PySem.W.Frag) (C : Addr) : Prop where
  pg : PySem.W.plainGet K C Str.empty = true
  hd : PySem.W.hasDictIn K C = true
  po : PySem.W.plainOver K C = true
  sa : PySem.W.findIn K (.ref C) "__setattr__" = some (some (.builtin "object.__setattr__"))
theorem Cls.get {K : PySem.W.Frag} {C : Addr} (c : Cls K C) (f : Str) : PySem.W.plainGet K C f = true := c.pg
/-  no class of it has the name -/
def NoAttr (K : PySem.W.Frag) (C : Addr) (f : Str) : Prop := PySem.W.findIn K (.ref C) f = some none
/-  a constant of the class -/
structure Con (K : PySem.W.Frag) (C : Addr) (f : Str) (v : V) (u : Value) : Prop where
  at_ : PySem.W.findIn K (.ref C) f = some (some u)
  rel : RelV v u
  get : PySem.W.specialIn K u "__get__" = some none
  cp : PySem.W.copiedNames.contains f = false
/-  a method: a plain def of the class or of one above it -/
structure Meth (K : PySem.W.Frag) (C : Addr) (m : Str) (f : Addr) : Prop where
  at_ : PySem.W.findIn K (.ref C) m = some (some (.ref f))
  fn : PySem.W.isFn K (.ref f) = true
  kp : PySem.W.keepIn K (.ref f) = true

section
variable {X : Cx} {pins : List (Addr × Obj)} {σ : St} {H : Hp} {s : Shared} {a C dx : Addr} {fs : List (Str × V)} {f : Str} {v : V} {A : Around} {E : Value → Shared → Prop}



theorem getmeth_ok {m : Str} {g : Addr} {pl : Sem Bool} {Q : Value × List Value → Shared → Prop} (I : Inv X pins σ H s) (e : H a = some (.ins C dx fs)) (c : Cls X.K C) (k : Meth X.K C m g) (l : fs.lookup m = none)
    (h : Q (.ref g, [.ref a]) s) : wpAny (model X.prog X.w) A (getMethod (.ref a) m pl) Q E s := by
  obtain ⟨mA, O, r, _, _, _⟩ := ins_get I.hok e
  have hn : mA m = none := RelO.none_of (by rw [← l]; exact r m)
  exact get_meth I.kIn O (c.get m) k.at_ k.fn hn h


/-  a new instance, tracked, without attributes -/
theorem Inv.made (I : Inv X pins σ H s) : Inv X pins σ (upd (upd H s.heap.objs.size (.own (s.heap.objs.size + 1))) (s.heap.objs.size + 1) (.ins C s.heap.objs.size []))
    { s with heap := (s.heap.push PySem.W.emptyDict).push (PySem.W.instObj C s.heap.objs.size) } := by
  have e1 : (s.heap.push PySem.W.emptyDict).get? s.heap.objs.size = some PySem.W.emptyDict := Heap.get?_push_size s.heap rfl
  have e2 : ((s.heap.push PySem.W.emptyDict).push (PySem.W.instObj C s.heap.objs.size)).get? (s.heap.objs.size + 1) = some (PySem.W.instObj C s.heap.objs.size) := by
    have := Heap.get?_push_size (s.heap.push PySem.W.emptyDict) (o := PySem.W.instObj C s.heap.objs.size) rfl
    rwa [Heap.size_push] at this
  have e3 : (s.heap.push PySem.W.emptyDict).Ns s.heap.objs.size (fun _ => none) := ⟨PySem.W.emptyDict, #[], _, e1, rfl, (fun e he => absurd he (by simp)), fun _ => rfl⟩
  have I1 := I.laid (a := s.heap.objs.size) (o := .own (s.heap.objs.size + 1)) (h' := s.heap.push PySem.W.emptyDict) (t' := s.toks) (fun b u q => Heap.get?_push_of_some _ q) (Nat.le_refl _) ⟨_, e1⟩
  refine I1.laid (a := s.heap.objs.size + 1) (o := .ins C s.heap.objs.size []) (t' := s.toks) (fun b u q => Heap.get?_push_of_some _ q) (Nat.le_of_eq (Heap.size_push _ _)) ?_
  have ne : s.heap.objs.size ≠ s.heap.objs.size + 1 := Nat.ne_of_lt (Nat.lt_succ_self _)
  refine ⟨by rw [upd_ne ne, upd_same], Nat.zero_le _, ne, e2, fun _ => none, (Heap.Ns1.of_empty e3).at fun o q => Heap.get?_push_of_some _ q, fun _ => True.intro, fun y hy => absurd rfl hy⟩

end

/-! ### readings and rules -/
/-  e.f, an attribute of the instance -/
def tFld (K : PySem.W.Frag) (ta : TE) (f : Str) : TE := fun σ H Q => ta σ H fun x H1 => ∃ a C dx fs v, x = .ref a ∧ H1 a = some (.ins C dx fs) ∧ Cls K C ∧ NoAttr K C f ∧ fs.lookup f = some v ∧ Q v H1
/-  e.f = value -/
def sFld (K : PySem.W.Frag) (ta tv : TE) (f : Str) : TS := fun D σ H => tv σ H fun y H1 => ta σ H1 fun x H2 => ∃ a C dx fs, x = .ref a ∧ H2 a = some (.ins C dx fs) ∧ Cls K C ∧ NoAttr K C f ∧ fs.length < 1000 ∧
  D.nx σ (upd H2 a (.ins C dx (putF f y fs)))

section
variable {X : Cx} {o e value : Expr} {f : Str} {pos pos' tpos : Pos} {ta tv : TE}

/-  what is between an instance and its method: the tree of a method call -/
theorem methcall_of {pl : Sem Bool} {m : Str} {apos : Pos} {args : List Expr} {pins : List (Addr × Obj)} {s : Shared} {σ : St} {H : Hp} {Q : Value → Shared → Prop} {te : TE} (he : PE X e te) (I : Inv X pins σ H s)
    (h : te σ H fun x H1 => ∃ a C dx fs g, x = .ref a ∧ H1 a = some (.ins C dx fs) ∧ Cls X.K C ∧ Meth X.K C m g ∧ fs.lookup m = none ∧
      ∀ s1, Inv X pins σ H1 s1 → wpAny (model X.prog X.w) X.A (callWith pos (.ref g) [.ref a] (backTo pos (starEach args X.env)) (backToKw pos (keywordEach [] X.env))) Q X.xe s1)
    (ht : eval (.Call (.Attribute e m apos) args [] pos) X.env = (do
      let ov ← eval e X.env
      standAt apos.atName
      let (f, first) ← holding [ov] (getMethod ov m pl)
      callWith pos f first (backTo pos (starEach args X.env)) (backToKw pos (keywordEach [] X.env)))) :
    wpAny (model X.prog X.w) X.A (eval (.Call (.Attribute e m apos) args [] pos) X.env) Q X.xe s := by
  refine PySem.W.methodCall_KW (pl := pl) (thn (he pins s σ H _ I h) fun u s1 ⟨x, H1, I1, rx, a, C, dx, fs, g, ex, ea, c, k, l, q⟩ => ?_) ht
  subst ex
  obtain rfl : u = Value.ref a := rx
  exact getmeth_ok I1 ea c k l (q s1 I1)
end

/-! ### isinstance -/
section
variable {X : Cx} {pins : List (Addr × Obj)} {σ : St} {H : Hp} {s : Shared} {A : Around} {E : Value → Shared → Prop} {Q : Value → Shared → Prop} {c : Value} {b : Bool}
/-  the type of a value, as the fragment's deciders take it; for an instance its class -/
inductive TyOf (K : PySem.W.Frag) (H : Hp) : V → Value → Prop where
  | non : TyOf K H .non (.type "NoneType")
  | bl (x : Bool) : TyOf K H (.bl x) (.type "bool")
  | int (i : Int) : TyOf K H (.int i) (.type "int")
  | str (x : Str) : TyOf K H (.str x) (.type "str")
  | flt (x : UInt64) : TyOf K H (.flt x) (.type "float")
  | lst {a : Addr} {xs : List V} (e : H a = some (.lst xs)) : TyOf K H (.ref a) (.type "list")
  | frz {a : Addr} {o : Obj} {xs : List V} (e : H a = some (.frz o (.lst xs))) : TyOf K H (.ref a) (.type "list")
  | tup {a : Addr} {xs : List V} (e : H a = some (.tup xs)) : TyOf K H (.ref a) (.type "tuple")
  | dK {a : Addr} {kvs : List (Key × V)} (e : H a = some (.dK kvs)) : TyOf K H (.ref a) (.type "dict")
  | dT {a : Addr} {kvs : List (List Key × V)} (e : H a = some (.dT kvs)) : TyOf K H (.ref a) (.type "dict")
  | ins {a C dx : Addr} {fs : List (Str × V)} (e : H a = some (.ins C dx fs)) (cl : Cls K C) (ha : PySem.W.findIn K (.ref C) "__class__" = some (some (.builtin "object.__class__")))
      (hn : PySem.W.specialIn K (.builtin "object.__class__") "__get__" = some (some (.builtin "getset_descriptor.__get__"))) (htk : PySem.W.takesIn K (.builtin "object.__class__") = some true)
      (hm : PySem.W.mroIn K C (.type "object") = some true) : TyOf K H (.ref a) (.ref C)
/-  isinstance(x, c) for one class c, a built-in or an own one: kitOne's answer -/
theorem isinst_ok {x : V} {u t : Value} (I : Inv X pins σ H s) (rx : RelV x u) (ty : TyOf X.K H x t) (e : PySem.W.kitOne X.K t c = some b) (h : ∀ tk, Q (.bool b) { s with toks := tk }) :
    wpAny (model X.prog X.w) A (call (.builtin "isinstance") [u, c]) Q E s := by
  cases ty with
  | non => cases (show u = Value.none from rx); exact PySem.W.kia_one PySem.W.kitx_none I.kIn True.intro e (fun z => nomatch z) h
  | bl y => cases (show u = Value.bool y from rx); exact PySem.W.kia_one PySem.W.kitx_bool I.kIn True.intro e (fun z => nomatch z) h
  | int i => obtain ⟨t, q⟩ := (show ∃ t, u = Value.int i t from rx); cases q; exact PySem.W.kia_one PySem.W.kitx_int I.kIn True.intro e (fun z => nomatch z) h
  | str y => obtain ⟨t, q⟩ := (show ∃ t, u = Value.str y t from rx); cases q; exact PySem.W.kia_one PySem.W.kitx_str I.kIn True.intro e (fun z => nomatch z) h
  | flt y => obtain ⟨t, q⟩ := (show ∃ t, u = Value.float y t from rx); cases q; exact PySem.W.kia_one PySem.W.kitx_float I.kIn True.intro e (fun z => nomatch z) h
  | @lst a xs ea =>
    cases (show u = Value.ref a from rx)
    obtain ⟨_, _, n, _, h1⟩ := (show ObjOk X.prog X.w H s.heap a (.lst xs) from I.hok a _ ea)
    exact PySem.W.kia_one PySem.W.kitx_list I.kIn ⟨_, h1, rfl⟩ e (fun z => nomatch z) h
  | @frz a ob xs ea =>
    cases (show u = Value.ref a from rx)
    obtain ⟨_, _, _, n, _, h1⟩ := (show ObjOk X.prog X.w H s.heap a (.frz ob (.lst xs)) from I.hok a _ ea)
    exact PySem.W.kia_one PySem.W.kitx_list I.kIn ⟨_, h1, rfl⟩ e (fun z => nomatch z) h
  | @tup a xs ea =>
    cases (show u = Value.ref a from rx)
    obtain ⟨_, _, _, p⟩ := (show ObjOk X.prog X.w H s.heap a (.tup xs) from I.hok a _ ea)
    obtain ⟨o, h1, h2, _⟩ := p
    exact PySem.W.kia_one PySem.W.kitx_tuple I.kIn ⟨o, h1, h2⟩ e (fun z => nomatch z) h
  | @dK a kvs ea =>
    cases (show u = Value.ref a from rx)
    obtain ⟨_, _, vs, _, p⟩ := (show ObjOk X.prog X.w H s.heap a (.dK kvs) from I.hok a _ ea)
    obtain ⟨o, es, ep, h1, h2, _⟩ := p
    exact PySem.W.kia_one PySem.W.kitx_dict I.kIn ⟨o, h1, h2.1⟩ e (fun z => nomatch z) h
  | @dT a kvs ea =>
    cases (show u = Value.ref a from rx)
    obtain ⟨_, _, xs, _, o, es, ep, h1, h2, _⟩ := (show ObjOk X.prog X.w H s.heap a (.dT kvs) from I.hok a _ ea)
    exact PySem.W.kia_one PySem.W.kitx_dict I.kIn ⟨o, h1, h2.1⟩ e (fun z => nomatch z) h
  | @ins a C dx fs ea cl ha hn htk hm =>
    cases (show u = Value.ref a from rx)
    obtain ⟨mA, O, _⟩ := ins_get I.hok ea
    obtain ⟨od, J, _⟩ := O.look
    exact PySem.W.kia_one (PySem.W.kitx_own (cl.get _) cl.hd ha hn htk hm) I.kIn J e (fun z => nomatch z) h
end
end L2

namespace L2
open PySem PySem.Spec PyProof.Rows

/-! ### room -/
structure Room (k : Nat) (A : Around) : Prop where
  hd : A.handled = none
  dp : A.depth + 3 * k + 5 < recursionLimit
  un : A.units + 16 * k + 200 < cLine
theorem Room.mono {j k : Nat} {A : Around} (r : Room k A) (h : j ≤ k) : Room j A := ⟨r.hd, by have := r.dp; omega, by have := r.un; omega⟩
theorem Room.deeper {k : Nat} {A : Around} (r : Room (k + 1) A) (env : Env) : Room k (A.deeper env) :=
  ⟨r.hd, by have := r.dp; show A.depth + 1 + 3 * k + 5 < _; omega, by have := r.un; show A.units + 3 + 16 * k + 200 < _; omega⟩
theorem make_depth {A : Around} {C : Addr} {us : List Value} {kw : List (Str × Value)} : (A.under (.builtin "type.__call__" ⟨.ref C :: us, kw⟩)).depth = A.depth + 1 := by
  first | rfl | simp [Around.under, Code.weight, Code.isCreation, Code.isGuard, Code.isCaller, Code.frames, Code.isFrame, guardIds]
theorem make_units {A : Around} {C : Addr} {us : List Value} {kw : List (Str × Value)} : (A.under (.builtin "type.__call__" ⟨.ref C :: us, kw⟩)).units = A.units + 1 := by
  first | rfl | simp [Around.under, Code.cUnits, Code.frames, Code.isFrame]
theorem Room.make {k : Nat} {A : Around} (r : Room (k + 1) A) (C : Addr) (us : List Value) (kw : List (Str × Value)) : Room k (A.under (.builtin "type.__call__" ⟨.ref C :: us, kw⟩)) :=
  ⟨r.hd, by have := r.dp; rw [make_depth]; omega, by have := r.un; rw [make_units]; omega⟩
theorem Room.depth {k : Nat} {A : Around} (r : Room k A) : A.depth < recursionLimit := by have := r.dp; omega
theorem Room.units {k : Nat} {A : Around} (r : Room k A) : A.units + 64 < cLine := by have := r.un; omega

/-! ### argument lists and displays -/
def tNil : TA := fun _ H Q => Q [] H
def tCons (ta : TE) (tr : TA) : TA := fun σ H Q => ta σ H fun x H1 => tr σ H1 fun xs H2 => Q (x :: xs) H2
section
variable {X : Cx} {e : Expr} {es : List Expr} {te : TE} {t : TA} {pos : Pos}
theorem pa_nil : PA X [] tNil := fun _ _ _ _ H Q I h => Calls.spliced_nil ⟨[], H, I, .nil, h⟩
theorem pa_cons (ha : PE X e te) (hr : PA X es t) (hs : starEach (e :: es) X.env = (false, eval e X.env) :: starEach es X.env := by rfl) : PA X (e :: es) (tCons te t) := by
  intro pos pins s σ H Q I h
  rw [hs]
  show wpAny _ _ (spliced ((false, eval e X.env) :: backTo pos (starEach es X.env))) _ _ s
  refine Calls.spliced_cons (thn (ha pins s σ H _ I h) fun u s1 ⟨x, H1, I1, r1, q1⟩ => ?_)
  exact thn (hr pos pins s1 σ H1 _ I1 q1) fun us s2 ⟨xs, H2, I2, r2, q2⟩ => ⟨x :: xs, H2, I2, .cons r1 r2, q2⟩

/-  a tuple, a list of written items -/
def tTup (t : TA) : TE := fun σ H Q => t σ H fun xs H1 => xs.length ≤ sizeLine ∧ ∀ p, H1 p = none → Q (.ref p) (upd H1 p (.tup xs))
def tLst (t : TA) : TE := fun σ H Q => t σ H fun xs H1 => xs.length ≤ sizeLine ∧ ∀ p, H1 p = none → Q (.ref p) (upd H1 p (.lst xs))
theorem pe_tup {x1} (h : PA X es t) : PE X (.Tuple es x1 pos) (tTup t) := by
  intro pins s σ H Q I hq
  refine wpAny_Tuple_spliced (thn (h pos pins s σ H _ I hq) fun us s1 ⟨xs, H1, I1, r, z, q⟩ => ⟨by rw [← r.length]; exact z, ?_⟩)
  have hf : H1 s1.heap.objs.size = none := I1.hok.fresh (Nat.le_refl _)
  refine ⟨.ref s1.heap.objs.size, upd H1 s1.heap.objs.size (.tup xs), I1.laid (t' := s1.toks) (fun b u e => Heap.get?_push_of_some _ e) (Nat.le_refl _) ?_, rfl, q _ hf⟩
  exact ⟨z, us, r, ⟨_, Heap.get?_push_size _ rfl, rfl, _, rfl⟩⟩
theorem pe_lst (h : PA X es t) : PE X (.List es pos) (tLst t) := by
  intro pins s σ H Q I hq
  refine wpAny_List_spliced (thn (h pos pins s σ H _ I hq) fun us s1 ⟨xs, H1, I1, r, z, q⟩ => ⟨by rw [← r.length]; exact z, ?_⟩)
  have hf : H1 s1.heap.objs.size = none := I1.hok.fresh (Nat.le_refl _)
  refine ⟨.ref s1.heap.objs.size, upd H1 s1.heap.objs.size (.lst xs), I1.laid (t' := s1.toks) (fun b u e => Heap.get?_push_of_some _ e) (Nat.le_refl _) ?_, rfl, q _ hf⟩
  exact ⟨z, us, 0, r, Heap.get?_push_size _ rfl⟩
end

/-! ### what a def promises -/
/-  a def's promise: the bound arguments in the parameters' order, the heap, the wanted end, the wanted exception -/
abbrev Sp := List V → Hp → VK → XK → Prop
/-  how an exception lies behind a call (file 08 gives it): the callers' frames, abstract heap and state ahead of the call, the wish, the exception, the state -/
abbrev CXT := List Env → Hp → Shared → XK → Value → Shared → Prop

/-  the state at a call -/
structure Env0 (P : Program) (w : World) (K : PySem.W.Frag) (mg : Str → Option Value) (base : Heap) (A : Around) (outer : List Env) (s : Shared) (H : Hp) : Prop where
  frames : A.frames = some outer
  mod : Mod K mg base
  bs : ∀ b o, base.get? b = some o → s.heap.get? b = some o ∧ H b = none
  bsz : base.objs.size ≤ s.heap.objs.size
  funs : s.heap.FunFrames base outer
  frf : ∀ b ∈ frs outer, H b = none
  hok : HOk P w H s.heap
  bare : AllBare s.gens
/-  a call's end -/
def CE (outer : List Env) (P : Program) (w : World) (H : Hp) (s : Shared) (Q : VK) (u : Value) (s' : Shared) : Prop :=
  ∃ v H', s'.os = s.os ∧ AllBare s'.gens ∧ Un (frs outer) [] H H' s.heap s'.heap ∧ HOk P w H' s'.heap ∧ RelV v u ∧ Q v H'
def CR (CX : CXT) (outer : List Env) (P : Program) (w : World) (H : Hp) (s : Shared) (Q : VK) (E : XK) (r : Result) (s' : Shared) : Prop :=
  match r with
  | .ok (.ret u) => CE outer P w H s Q u s'
  | .ok _ => False
  | .error e => CX outer H s E e s'
structure FnOk (P : Program) (w : World) (K : PySem.W.Frag) (mg : Str → Option Value) (base : Heap) (CX : CXT) (k : Nat) (f : Addr) (fd : FuncData) (ps : List Str) (sp : Sp) : Prop where
  len : ∀ vs H Q E, sp vs H Q E → vs.length = ps.length
  run : ∀ (A : Around) (outer : List Env) (s : Shared) (H : Hp) (args : Args) (us : List Value) (vs : List V) (Q : VK) (E : XK), Room k A → Env0 P w K mg base A outer s H → BindsTo s fd args (ps.zip us) → Vals vs us → sp vs H Q E →
    codeAny (model P w) A (.call (.ref f) args) (CR CX outer P w H s Q E) s

theorem Env0.make {P : Program} {w : World} {K : PySem.W.Frag} {mg : Str → Option Value} {base : Heap} {A : Around} {outer : List Env} {s : Shared} {H : Hp} (e : Env0 P w K mg base A outer s H) (C : Addr) (us : List Value) (kw : List (Str × Value)) :
    Env0 P w K mg base (A.under (.builtin "type.__call__" ⟨.ref C :: us, kw⟩)) outer s H := ⟨by first | exact e.frames | (simpa [Around.under, Code.envs, Code.isFrame, pushEnvs] using e.frames), e.mod, e.bs, e.bsz, e.funs, e.frf, e.hok, e.bare⟩

section
variable {X : Cx} {pins : List (Addr × Obj)} {σ : St} {H : Hp} {s s' : Shared}
/-  from a body: what a callee wants -/
theorem Inv.env0 (I : Inv X pins σ H s) : Env0 X.prog X.w X.K X.mg X.base X.A X.stack s H :=
  ⟨I.ok.frames, I.ok.mod, I.bs, Nat.le_trans I.ok.bsz I.sz, I.stack, I.stkFree, I.hok, I.bare⟩
/-  behind a call -/
theorem Inv.after {Q : VK} {u : Value} (I : Inv X pins σ H s) (h : CE X.stack X.prog X.w H s Q u s') : EP X pins σ Q u s' := by
  obtain ⟨v, H', os, bare, un, hok, r, q⟩ := h
  obtain ⟨hh, g, d, t, os'⟩ := s'
  obtain rfl : os' = s.os := os
  exact ⟨v, H', I.call (h' := hh) (g' := g) (d' := d) (t' := t) (ch := []) un hok bare (fun b z => absurd z (by simp)), r, q⟩
end

/-! ### calls -/
/-  f(..): the written arguments, then the defaults dvs; E: what is wanted of an exception -/
def tCall (sp : Sp) (dvs : List V) (E : XK) (t : TA) : TE := fun σ H Q => t σ H fun vs H1 => sp (vs ++ dvs) H1 Q E
/-  o.m(..) of an instance of the class at C -/
def tMeth (C : Addr) (m : Str) (sp : Sp) (dvs : List V) (E : XK) (ta : TE) (t : TA) : TE := fun σ H Q => ta σ H fun x H1 => ∃ a dx fs, x = .ref a ∧ H1 a = some (.ins C dx fs) ∧ fs.lookup m = none ∧
  t σ H1 fun vs H2 => sp (x :: (vs ++ dvs)) H2 Q E
/-  C(..): a new instance and its dict, then __init__ -/
def tMake (C : Addr) (sp : Sp) (dvs : List V) (E : XK) (t : TA) : TE := fun σ H Q => t σ H fun vs H1 => ∀ x dx, H1 x = none → H1 dx = none → dx ≠ x →
  sp (.ref x :: (vs ++ dvs)) (upd (upd H1 dx (.own x)) x (.ins C dx [])) (fun v H2 => v = .non ∧ Q (.ref x) H2) E

/-  how the parameters are bound: us the positional arguments, kw the keywords' values by name, ds the defaults that fill up -/
def Binds (K : PySem.W.Frag) (fd : FuncData) (ps : List Str) (ds : List Value) : Prop :=
  ∀ (s : Shared) (us : List Value), K.In s.heap → (us ++ ds).length = ps.length → BindsTo s fd ⟨us, []⟩ (ps.zip (us ++ ds))
/-  every parameter is given -/
theorem Binds.all {K : PySem.W.Frag} {fd : FuncData} {ps : List Str} (h : ∀ us : List Value, us.length = ps.length → bindArgs fd ⟨us, []⟩ = pure (ps.zip us)) : Binds K fd ps [] := fun s us _ hl => by
  rw [List.append_nil] at hl ⊢
  exact .of_eq (h us hl)

/-  an exception of a callee reaches what this body wants of exceptions -/
def Passes (CX : CXT) (X : Cx) (E : XK) : Prop := ∀ (pins : List (Addr × Obj)) (σ : St) (H : Hp) (s : Shared) (e : Value) (s' : Shared), Inv X pins σ H s → CX X.stack H s E e s' → X.xe e s'

section
variable {X : Cx} {CX : CXT} {k : Nat} {f C : Addr} {fd : FuncData} {ps : List Str} {sp : Sp} {dvs : List V} {ds : List Value} {E : XK} {x m : Str} {p pos apos : Pos} {e o : Expr} {es : List Expr} {ta : TE} {t : TA}

/-  the callee runs -/
theorem run_fn {pins : List (Addr × Obj)} {σ : St} {H : Hp} {s : Shared} {Q : VK} {us : List Value} {vs : List V} (F : FnOk X.prog X.w X.K X.mg X.base CX k f fd ps sp) (hr : Room k X.A) (hb : Binds X.K fd ps ds) (hd : Vals dvs ds) (hx : Passes CX X E)
    (I : Inv X pins σ H s) (r : Vals vs us) (h : sp (vs ++ dvs) H Q E) : wpAny (model X.prog X.w) X.A (call (.ref f) us) (EP X pins σ Q) X.xe s := by
  have r2 : Vals (vs ++ dvs) (us ++ ds) := r.append hd
  have hl : (us ++ ds).length = ps.length := by rw [← r2.length]; exact F.len _ _ _ _ h
  refine wpAny_call (codeAny_mono (F.run X.A X.stack s H ⟨us, []⟩ (us ++ ds) (vs ++ dvs) Q E hr I.env0 (hb s us I.kIn hl) r2 h) fun r s' hq => ?_)
  cases r with
  | error e => exact hx pins σ H s e s' I hq
  | ok fl =>
    cases fl with
    | ret u => exact I.after hq
    | next => exact False.elim hq
    | brk => exact False.elim hq
    | cont => exact False.elim hq

theorem pe_call (F : FnOk X.prog X.w X.K X.mg X.base CX k f fd ps sp) (hr : Room k X.A) (hg : Gl X x) (hm : X.mg x = some (.ref f)) (hk : PySem.W.keepIn X.K (.ref f) = true) (hb : Binds X.K fd ps ds) (hd : Vals dvs ds) (hx : Passes CX X E)
    (ha : PA X (e :: es) t) (hdb : (x == ("__debug__" : Str)) = false := by decide) (he : starEach (e :: es) X.env = (false, eval e X.env) :: starEach es X.env := by rfl) (hpl : (backTo pos (starEach es X.env)).any (·.1) = false := by rfl) :
    PE X (.Call (.Name x p) (e :: es) [] pos) (tCall sp dvs E t) := by
  intro pins s σ H Q I h
  refine wpAny_Call_Name_kw (ld_glob I hg hm ?_ hdb)
  refine PySem.W.callWith_K (h₀ := X.base) I.ok.mod.kin hk (thn (ha pos pins s σ H _ I h) fun us s1 ⟨vs, H1, I1, r, q⟩ => ⟨I1.kIn, ?_⟩) he hpl
  exact run_fn F hr hb hd hx I1 r q


/-  what a class must have to be made -/
structure Mk (K : PySem.W.Frag) (C f : Addr) : Prop where
  makes : PySem.W.makesIn K C = true
  init : PySem.W.findIn K (.ref C) "__init__" = some (some (.ref f))
  fn : PySem.W.isFn K (.ref f) = true
  kp : PySem.W.keepIn K (.ref C) = true

end

/-! ### keywords -/
/-  the values of the keywords, from the left -/
def PK (X : Cx) (kws : List Keyword) (t : TA) : Prop :=
  ∀ (pos : Pos) (pins : List (Addr × Obj)) (s : Shared) (σ : St) (H : Hp) (Q : List V → Hp → Prop), Inv X pins σ H s → t σ H Q → wpAny (model X.prog X.w) X.A (evalAll ((backToKw pos (keywordEach kws X.env)).map (·.2))) (AP X pins σ Q) X.xe s
section
variable {X : Cx} {CX : CXT} {k : Nat} {f C : Addr} {fd : FuncData} {ps ks : List Str} {sp : Sp} {E : XK} {x m : Str} {p pos apos kpos : Pos} {e o : Expr} {es : List Expr} {kws : List Keyword} {te ta : TE} {t tk : TA} {nm : Option Str}
theorem pk_nil : PK X [] tNil := fun _ _ _ _ H Q I h => wpAny_evalAll_nil ⟨[], H, I, .nil, h⟩
theorem pk_cons (ha : PE X e te) (hr : PK X kws t) : PK X (⟨nm, e, kpos⟩ :: kws) (tCons te t) := by
  intro pos pins s σ H Q I h
  show wpAny _ _ (evalAll ((do let v ← eval e X.env; standAt pos; pure v) :: (backToKw pos (keywordEach kws X.env)).map (·.2))) _ _ s
  refine wpAny_evalAll_cons (wpAny_bind (thn (ha pins s σ H _ I h) fun u s1 ⟨x, H1, I1, r1, q1⟩ => wpAny_bind (wpAny_standAt (wpAny_pure ?_))))
  exact thn (hr pos pins s1 σ H1 _ I1 q1) fun us s2 ⟨xs, H2, I2, r2, q2⟩ => ⟨x :: xs, H2, I2, .cons r1 r2, q2⟩

/-  how a call with keywords binds: g puts the positional values us and the keywords' values ws (names ks) in the parameters' order, defaults among them -/
structure KBinds (K : PySem.W.Frag) (fd : FuncData) (ps ks : List Str) (g : List Value → List Value → List Value) (gV : List V → List V → List V) : Prop where
  to : ∀ (s : Shared) (us ws : List Value), K.In s.heap → (g us ws).length = ps.length → BindsTo s fd ⟨us, ks.zip ws⟩ (ps.zip (g us ws))
  rel : ∀ {vs : List V} {us : List Value} {zs : List V} {ws : List Value}, Vals vs us → Vals zs ws → Vals (gV vs zs) (g us ws)
variable {g : List Value → List Value → List Value} {gV : List V → List V → List V}
end

/-! ### a def's body keeps its promise -/
/-  names: the parameters first -/
structure FnScope (N P : List Str) (sc : Scope) : Prop where
  kind : sc.kind = .function
  co : sc.isCoroutine = false
  gen : sc.isGenerator = false
  nd : N.Nodup
  pre : N.take P.length = P
  par : ∀ x ∈ P, sc.names.lookup x = some .local ∨ sc.names.lookup x = some .cell
  nofree : ∀ y ∈ sc.names, y.2 ≠ .free

theorem bindL_out {kindOf : Str → Option NameKind} {x : Str} : ∀ {binds : List (Str × Value)} {m : Str → Option Value}, (∀ v, (x, v) ∉ binds) → bindL kindOf binds m x = m x
  | [], _, _ => rfl
  | (n, v) :: r, m, h => by
    unfold bindL
    rw [bindL_out fun w hw => h w (List.mem_cons_of_mem _ hw)]
    split
    · have : x ≠ n := by rintro rfl; exact h v List.mem_cons_self
      simp [this]
    · rfl
theorem bindC_out {kindOf : Str → Option NameKind} {x : Str} : ∀ {binds : List (Str × Value)} {m : Str → Option Value}, (∀ v, (x, v) ∉ binds) → bindC kindOf binds m x = m x
  | [], _, _ => rfl
  | (n, v) :: r, m, h => by
    unfold bindC
    rw [bindC_out fun w hw => h w (List.mem_cons_of_mem _ hw)]
    split
    · rfl
    · have : x ≠ n := by rintro rfl; exact h v List.mem_cons_self
      simp [this]
theorem bindL_get {kindOf : Str → Option NameKind} {x : Str} {v : Value} : ∀ {P : List Str} {vs : List Value} {i : Nat} {m : Str → Option Value}, P.Nodup → P[i]? = some x → vs[i]? = some v → kindOf x = some .local →
    bindL kindOf (P.zip vs) m x = some v
  | [], _, _, _, _, h, _, _ => by simp at h
  | _ :: _, [], _, _, _, _, h, _ => by simp at h
  | p :: P, w :: vs, 0, m, nd, h1, h2, hk => by
    simp at h1 h2; subst h1; subst h2
    show bindL kindOf ((p, w) :: P.zip vs) m p = _
    unfold bindL
    rw [bindL_out fun v hv => (List.nodup_cons.mp nd).1 (List.of_mem_zip hv).1, if_pos hk]
    simp
  | p :: P, w :: vs, i + 1, m, nd, h1, h2, hk => by
    show bindL kindOf ((p, w) :: P.zip vs) m x = _
    unfold bindL
    exact bindL_get (i := i) (List.nodup_cons.mp nd).2 (by simpa using h1) (by simpa using h2) hk
theorem bindC_get {kindOf : Str → Option NameKind} {x : Str} {v : Value} : ∀ {P : List Str} {vs : List Value} {i : Nat} {m : Str → Option Value}, P.Nodup → P[i]? = some x → vs[i]? = some v → kindOf x ≠ some .local →
    bindC kindOf (P.zip vs) m x = some v
  | [], _, _, _, _, h, _, _ => by simp at h
  | _ :: _, [], _, _, _, _, h, _ => by simp at h
  | p :: P, w :: vs, 0, m, nd, h1, h2, hk => by
    simp at h1 h2; subst h1; subst h2
    show bindC kindOf ((p, w) :: P.zip vs) m p = _
    unfold bindC
    rw [bindC_out fun v hv => (List.nodup_cons.mp nd).1 (List.of_mem_zip hv).1, if_neg hk]
    simp
  | p :: P, w :: vs, i + 1, m, nd, h1, h2, hk => by
    show bindC kindOf ((p, w) :: P.zip vs) m x = _
    unfold bindC
    exact bindC_get (i := i) (List.nodup_cons.mp nd).2 (by simpa using h1) (by simpa using h2) hk

/-  the names' values at the entry -/
def start (N : List Str) (vs : List V) : St := vs.map some ++ List.replicate (N.length - vs.length) none

/-  the context of a def's body, at its entry; an exception leaves the frame, then lies as CX says -/
def cxOf (CX : CXT) (P : Program) (w : World) (K : PySem.W.Frag) (mg : Str → Option Value) (base : Heap) (N : List Str) (qual : Str) (scope : Scope) (f : Addr) (cd : Value) (A : Around) (outer : List Env) (s : Shared) (H : Hp) (E : XK) : Cx where
  prog := P
  w := w
  K := K
  mg := mg
  base := base
  A := A.deeper (envOfC qual scope s.heap.objs.size f cd)
  N := N
  s₀ := s
  H₀ := H
  env := envOfC qual scope s.heap.objs.size f cd
  outer := outer
  stack := envOfC qual scope s.heap.objs.size f cd :: outer
  ex := []
  calm := true
  fn := fun _ => true
  pn := []
  xe := fun e s' => wpAny (model P w) (A.deeper (envOfC qual scope s.heap.objs.size f cd)) (leaving (envOfC qual scope s.heap.objs.size f cd) e) (fun _ s'' => CX outer H s E e s'') (fun e' s'' => CX outer H s E e' s'') s'

theorem cell_has {sc : Scope} {n : Nat} {x : Str} (h : sc.names.lookup x = some .cell) : ∃ c, (cellsFrom n sc.names []).lookup x = some c := by
  have q := PySem.W.cellsFrom_some sc.names n [] (.inl h)
  exact Option.isSome_iff_exists.mp q

theorem inv_start {CX : CXT} {P : Program} {w : World} {K : PySem.W.Frag} {mg : Str → Option Value} {base : Heap} {N ps : List Str} {qual : Str} {scope : Scope} {f : Addr} {cd : Value} {A : Around} {outer : List Env} {s s1 : Shared} {H : Hp} {E : XK} {us : List Value} {vs : List V}
    (S : FnScope N ps scope) (hd : A.handled = none) (e0 : Env0 P w K mg base A outer s H) (hl : vs.length = ps.length) (r : Vals vs us)
    (x : InCallC s s.heap.objs.size (bindL (envOfC qual scope s.heap.objs.size f cd).kindOf (ps.zip us) fun _ => none) (cellsFrom (s.heap.objs.size + 1) scope.names []) (bindC (envOfC qual scope s.heap.objs.size f cd).kindOf (ps.zip us) fun _ => none) s1) :
    Inv (cxOf CX P w K mg base N qual scope f cd A outer s H E) [] (start N vs) H s1 := by
  have hpl : ps.length ≤ N.length := by have := congrArg List.length S.pre; rw [List.length_take] at this; omega
  obtain ⟨h1, tk, rfl, hk⟩ := x.done
  have noA : ∀ b : Addr, b ∉ (cxOf CX P w K mg base N qual scope f cd A outer s H E).ex := fun b z => absurd (show b ∈ ([] : List Addr) from z) (by simp)
  refine ⟨⟨e0.mod, S.kind, rfl, rfl, Nat.le_refl _, fun y z c h1 h2 => ?_, fun y hy => ?_, fun y c _ h => ?_, fun _ => hd, Around.frames_deeper e0.frames, .inr ⟨rfl, rfl⟩, fun b z => absurd z (noA b), e0.bs, e0.bsz, fun b _ _ => noA b, fun b z => absurd z (noA b), e0.funs, e0.frf⟩,
    rfl, e0.bare, Un.kept hk, ⟨_, x.toInCall.ns, fun i y v h1 h2 h3 => ?_⟩, fun y c h => ⟨_, x.cell y c h⟩, e0.hok.fresh (Nat.le_refl _), fun y c h => ?_, fun p hp => absurd (show p ∈ ([] : List (Addr × Obj)) from hp) (by simp), e0.hok.kept hk, ?_⟩
  · exact name_of_addr x.apart (PySem.mem_of_lookup h1) (PySem.mem_of_lookup h2)
  · have hy : scope.names.lookup y = some .cell ∨ scope.names.lookup y = some .free := hy
    rcases hy with hy | hy
    · exact cell_has hy
    · exact absurd rfl (S.nofree _ (PySem.mem_of_lookup hy))
  · exact Nat.le_of_lt (x.above y c (PySem.mem_of_lookup h))
  · have hi : i < vs.length := by
      unfold start at h2
      by_cases hi : i < vs.length
      · exact hi
      · rw [List.getElem?_append_right (by simpa using hi)] at h2
        rw [List.getElem?_replicate] at h2
        split at h2 <;> cases h2
    have ha : vs[i]? = some v := by
      unfold start at h2
      rw [List.getElem?_append_left (by simpa using hi), List.getElem?_map] at h2
      cases e : vs[i]? with
      | none => rw [e] at h2; cases h2
      | some a => rw [e] at h2; cases h2; rfl
    obtain ⟨u, hu, rv⟩ := r.get ha
    have hp : ps[i]? = some y := by
      rw [← S.pre, List.getElem?_take_of_lt (by omega)]; exact h1
    have ndP : ps.Nodup := by rw [← S.pre]; exact S.nd.sublist (List.take_sublist _ _)
    refine ⟨u, rv, ?_⟩
    rcases S.par y (List.mem_of_getElem? hp) with k | k
    · exact .inl ⟨k, bindL_get ndP hp hu k⟩
    · obtain ⟨c, e⟩ := cell_has (n := s.heap.objs.size + 1) k
      refine .inr ⟨.inl k, c, e, ?_⟩
      have q := x.cell y c e
      rw [bindC_get ndP hp hu (by show scope.names.lookup y ≠ _; rw [k]; decide)] at q
      exact q
  · exact e0.hok.fresh (Nat.le_of_lt (x.above y c (PySem.mem_of_lookup h)))
  · unfold start
    show _ = N.length
    rw [List.length_append, List.length_map, List.length_replicate]
    omega

/-  THE RULE: a def (or a method) of the text, by its body. The body's reading t is chosen for each entry; it is run at the parameters' values -/
theorem fn_of {CX : CXT} {P : Program} {w : World} {K : PySem.W.Frag} {mg : Str → Option Value} {base : Heap} {k : Nat} {f : Addr} {name qual : Str} {params : Arguments} {body : List Stmt} {scope : Scope} {dV kV doc pm cdv ct oc : Value} {an od : Option Addr}
    {osl : Array (Option Value)} {N ps : List Str} {sp : Sp} (lk : K.lookup f = some ⟨oc, od, .func (PySem.W.fnOf name qual params body scope dV kV doc pm an cdv ct), osl⟩) (hcd : PySem.W.codeIn K cdv qual = true) (S : FnScope N ps scope)
    (len : ∀ vs H Q E, sp vs H Q E → vs.length = ps.length)
    (hbody : ∀ (A : Around) (outer : List Env) (s : Shared) (H : Hp) (vs : List V) (Q : VK) (E : XK), Room k (A.deeper (envOfC qual scope s.heap.objs.size f cdv)) → sp vs H Q E →
      ∃ t, PSs (cxOf CX P w K mg base N qual scope f cdv A outer s H E) body t ∧ t { nx := fun _ H' => Q .non H', rt := Q } (start N vs) H) :
    FnOk P w K mg base CX (k + 1) f (PySem.W.fnOf name qual params body scope dV kV doc pm an cdv ct) ps sp := by
  refine ⟨len, fun A outer s H args us vs Q E hr e0 hb r hsp => ?_⟩
  have hl := len _ _ _ _ hsp
  have KX : K.In s.heap := e0.mod.kin.keeps fun b o e => (e0.bs b o e).1
  have lim : s.heap.NoLimit := e0.mod.nolimit.keeps fun b o e => (e0.bs b o e).1
  have hkind : ∀ y ∈ ps.zip us, scope.names.lookup y.1 = some .local ∨ (scope.names.lookup y.1 = some .cell ∧ ((cellsFrom (s.heap.objs.size + 1) scope.names []).lookup y.1).isSome = true) := fun ⟨n, v⟩ hy => by
    rcases S.par n (List.of_mem_zip hy).1 with q | q
    · exact .inl q
    · exact .inr ⟨q, PySem.W.cellsFrom_some _ _ _ (.inl q)⟩
  refine codeAny_call_function hr.depth (KX _ _ lk) rfl S.co S.gen rfl (PySem.W.codeRec_of KX hcd) (hb _ _ _ _ ?_)
  refine wpAny_newFunctionEnv_cells S.kind hkind fun env he s1 x => ?_
  subst he
  refine ⟨lim.keeps x.toInCall.keep, codeAny_func ?_⟩
  obtain ⟨t, ht, hq⟩ := hbody A outer s H vs Q E (hr.deeper _) hsp
  have I : Inv (cxOf CX P w K mg base N qual scope f cdv A outer s H E) [] (start N vs) H s1 := inv_start S hr.hd e0 hl r x
  refine wpAny_mono (ht [] s1 (start N vs) H _ I hq) (fun fl s' hs => ?_) fun e s' hs => hs
  have fin : ∀ {σ' : St} {H' : Hp} {v : V} {u : Value}, Inv (cxOf CX P w K mg base N qual scope f cdv A outer s H E) [] σ' H' s' → RelV v u → Q v H' → CE outer P w H s Q u s' :=
    fun {σ' H' v u} J rv q => ⟨v, H', J.os, J.bare, J.base, J.hok, rv, q⟩
  cases fl with
  | ret u =>
    obtain ⟨v, σ', H', J, rv, q⟩ := hs
    exact fin J rv q
  | next =>
    obtain ⟨σ', H', J, q⟩ := hs
    exact fin (v := V.non) (u := Value.none) J rfl q
  | brk =>
    obtain ⟨_, _, _, q⟩ := hs
    exact False.elim q
  | cont =>
    obtain ⟨_, _, _, q⟩ := hs
    exact False.elim q
end L2

namespace L2
open PySem PySem.Spec PyProof.Rows
section
variable {X : Cx} {x : Str} {p pos : Pos} {e : Expr} {es : List Expr} {t : TA} {id T : String} {r : List V → Hp → VK → Prop}

def tCB (r : List V → Hp → VK → Prop) (t : TA) : TE := fun σ H Q => t σ H fun vs H1 => r vs H1 Q
/-  f(e, ..), f a built-in function -/
theorem pe_callB (hc : CallR X (.builtin id) r) (hg : Gl X x) (hm : X.mg x = none) (hv : bootBuiltins x = some (.builtin id)) (ha : PA X (e :: es) t) (hn : x ≠ "__name__" := by decide) (hdb : (x == ("__debug__" : Str)) = false := by decide)
    (he : starEach (e :: es) X.env = (false, eval e X.env) :: starEach es X.env := by rfl) (hpl : (backTo pos (starEach es X.env)).any (·.1) = false := by rfl) : PE X (.Call (.Name x p) (e :: es) [] pos) (tCB r t) := by
  intro pins s σ H Q I h
  refine wpAny_Call_Name_kw (ld_blt I hg hm hv ?_ hn hdb)
  exact PyProof.Rows.callWith_builtin1 (thn (ha pos pins s σ H _ I h) fun us s1 ⟨vs, H1, I1, r1, q1⟩ => hc pins s1 σ H1 vs us Q I1 r1 q1) he hpl
/-  T(e, ..), T a built-in type -/
theorem pe_callTy (hc : CallR X (.type T) r) (hg : Gl X x) (hm : X.mg x = none) (hv : bootBuiltins x = some (.type T)) (ha : PA X (e :: es) t) (hn : x ≠ "__name__" := by decide) (hdb : (x == ("__debug__" : Str)) = false := by decide)
    (he : starEach (e :: es) X.env = (false, eval e X.env) :: starEach es X.env := by rfl) (hpl : (backTo pos (starEach es X.env)).any (·.1) = false := by rfl) : PE X (.Call (.Name x p) (e :: es) [] pos) (tCB r t) := by
  intro pins s σ H Q I h
  refine wpAny_Call_Name_kw (ld_blt I hg hm hv ?_ hn hdb)
  exact PyProof.Rows.callWith_type1 (thn (ha pos pins s σ H _ I h) fun us s1 ⟨vs, H1, I1, r1, q1⟩ => hc pins s1 σ H1 vs us Q I1 r1 q1) he hpl
end
end L2

namespace HT
open PySem PyProof.Rows



section
open PySem.SeqAt
open PySem.AutoSeq1 (wpAny_loadPart')
open PySem.MeetsSeq PySem.MeetsSeq2 PySem.MeetsSeq3

end

section
variable {prog : Program} {w : World} {A : Around} {E : Value → Shared → Prop} {s : Shared}



/-! ### t[a:b], not the whole -/
/-  a slice's bound as a place among n (d where it is left out) -/
def sIx (n d : Nat) : Option Int → Nat
  | none => d
  | some v => if v < 0 then (v + (n : Int)).toNat else min v.toNat n
theorem sIx_none (n d : Nat) : sIx n d none = d := rfl
theorem sIx_nat (n d k : Nat) : sIx n d (some (k : Int)) = min k n := by
  show (if (k : Int) < 0 then ((k : Int) + (n : Int)).toNat else min (k : Int).toNat n) = min k n
  rw [if_neg (by omega), Int.toNat_natCast]
theorem sIx_le (n d : Nat) (hd : d ≤ n) (o : Option Int) : sIx n d o ≤ n := by
  cases o with
  | none => exact hd
  | some v =>
    show (if v < 0 then (v + (n : Int)).toNat else min v.toNat n) ≤ n
    by_cases hv : v < 0
    · rw [if_pos hv]; omega
    · rw [if_neg hv]; exact Nat.min_le_right _ _

end
end HT

namespace L2
open PySem PySem.Spec PyProof.Rows

/-! ### the parts of a slice -/
abbrev TO := St → Hp → (Option Int → Hp → Prop) → Prop
/-  a slice's part (left out, or an int) -/
def PO (X : Cx) (e : Option Expr) (t : TO) : Prop :=
  ∀ (pins : List (Addr × Obj)) (s : Shared) (σ : St) (H : Hp) (Q : Option Int → Hp → Prop), Inv X pins σ H s → t σ H Q →
    wpAny (model X.prog X.w) X.A (evalPart e X.env) (fun u s' => ∃ o H', Inv X pins σ H' s' ∧ IsPart u o ∧ Q o H') X.xe s
def tNoPart : TO := fun _ H Q => Q none H
def tPart (t : TE) : TO := fun σ H Q => t σ H fun x H1 => ∃ i, x = .int i ∧ Q (some i) H1


section
variable {X : Cx} {e : Expr} {te : TE} {lo hi : Option Expr} {tl th : TO} {pos p2 : Pos}

theorem po_none : PO X none tNoPart := by
  intro pins s σ H Q I h
  rw [evalPart_none]
  exact wpAny_pure ⟨none, H, I, .none, h⟩
theorem po_some (h : PE X e te) : PO X (some e) (tPart te) := by
  intro pins s σ H Q I hw
  rw [evalPart_some]
  refine thn (h pins s σ H _ I hw) fun u s1 ⟨x, H1, I1, r1, q1⟩ => ?_
  obtain ⟨i, rfl, q⟩ := q1
  obtain ⟨t, rfl⟩ := r1
  exact ⟨some i, H1, I1, .int i t, q⟩

/-  what a slice of a value is, by values: the slice object stands at sl -/
def SlR (X : Cx) (r : V → Option Int → Option Int → Hp → VK → Prop) : Prop :=
  ∀ (pins : List (Addr × Obj)) (s : Shared) (σ : St) (H : Hp) (x : V) (v vl vu : Value) (lo hi : Option Int) (sl : Addr) (Q : VK), Inv X pins σ H s → RelV x v → s.heap.IsSliceOf sl vl vu .none → IsPart vl lo → IsPart vu hi → r x lo hi H Q →
    ∃ T id, typeLookup (.type T) "__getitem__" = pure (some (.builtin id)) ∧ s.TypeIs v T ∧ wpAny (model X.prog X.w) X.A (getItem v (.ref sl)) (EP X pins σ Q) X.xe s
def tSl (r : V → Option Int → Option Int → Hp → VK → Prop) (te : TE) (tl th : TO) : TE := fun σ H Q => te σ H fun x H1 => tl σ H1 fun l H2 => th σ H2 fun u H3 => r x l u H3 Q
/-  a[lo:hi], any a -/
theorem pe_slice {r : V → Option Int → Option Int → Hp → VK → Prop} (hr : SlR X r) (he : PE X e te) (hl : PO X lo tl) (hu : PO X hi th) : PE X (.Subscript e (.Slice lo hi none p2) pos) (tSl r te tl th) := by
  intro pins s σ H Q I h
  refine Subscript_ (thn (he pins s σ H _ I h) fun v s1 ⟨x, H1, I1, r1, q1⟩ => ?_)
  refine wpAny_Slice (thn (hl pins s1 σ H1 _ I1 q1) fun vl s2 ⟨l, H2, I2, pl, q2⟩ => thn (hu pins s2 σ H2 _ I2 q2) fun vu s3 ⟨u, H3, I3, pu, q3⟩ => ?_)
  rw [evalPart_none]
  refine wpAny_pure ?_
  have I4 : Inv X pins σ H3 { s3 with heap := s3.heap.push { cls := .type "slice", data := .fields #[vl, vu, .none] } } := I3.kept (t' := s3.toks) fun b ob q => Heap.get?_push_of_some _ q
  obtain ⟨T, id, hT, ht, hg⟩ := hr pins { s3 with heap := s3.heap.push { cls := .type "slice", data := .fields #[vl, vu, .none] } } σ H3 x v vl vu l u s3.heap.objs.size Q I4 r1 (Heap.IsSliceOf.new ..) pl pu q3
  show wpAny (model X.prog X.w) X.A (subscriptTail e (.Slice lo hi none p2) v (.ref s3.heap.objs.size)) (EP X pins σ Q) X.xe { s3 with heap := s3.heap.push { cls := .type "slice", data := .fields #[vl, vu, .none] } }
  exact tail_any (ops := [.ref s3.heap.objs.size, v]) ht hT hg (by with_unfolding_all rfl)

/-  the items of xs[lo:hi] -/
def cutV (xs : List V) (lo hi : Option Int) : List V := (xs.drop (HT.sIx xs.length 0 lo)).take (HT.sIx xs.length xs.length hi - HT.sIx xs.length 0 lo)
theorem cutV_length (xs : List V) (lo hi : Option Int) : (cutV xs lo hi).length ≤ xs.length := by
  unfold cutV
  rw [List.length_take, List.length_drop]
  omega

/-! ### t < u, t + u -/
end
end L2

namespace L2
open PySem PySem.Spec PyProof.Rows

/-! ### places -/
/-  the place that an index of any sign means -/
def ixN (n : Nat) (i : Int) : Option Nat := if 0 ≤ i then (if i < n then some i.toNat else none) else if -(n : Int) ≤ i then some (i + n).toNat else none
def atI {α : Type} (xs : List α) (i : Int) : Option α := (ixN xs.length i).bind fun j => xs[j]?
theorem ixN_seq {n : Nat} {i : Int} {j : Nat} (h : ixN n i = some j) : seqIndex? i n = some j ∧ j < n ∧ -(n : Int) ≤ i ∧ i < n := by
  unfold ixN at h
  by_cases h0 : 0 ≤ i
  · rw [if_pos h0] at h
    by_cases h1 : i < n
    · rw [if_pos h1] at h
      have e : i.toNat = j := Option.some.inj h
      exact ⟨by rw [seqIndex_of h0 h1, e], by omega, by omega, h1⟩
    · rw [if_neg h1] at h; cases h
  · rw [if_neg h0] at h
    by_cases h1 : -(n : Int) ≤ i
    · rw [if_pos h1] at h
      have e : (i + n).toNat = j := Option.some.inj h
      exact ⟨by rw [seqIndex_neg (by omega) h1, e], by omega, h1, by omega⟩
    · rw [if_neg h1] at h; cases h
theorem atI_get {α : Type} {xs : List α} {i : Int} {v : α} (h : atI xs i = some v) : ∃ j, seqIndex? i xs.length = some j ∧ xs[j]? = some v ∧ j < xs.length ∧ -(xs.length : Int) ≤ i ∧ i < xs.length := by
  unfold atI at h
  cases e : ixN xs.length i with
  | none => rw [e] at h; cases h
  | some j =>
    rw [e] at h
    obtain ⟨h1, h2, h3, h4⟩ := ixN_seq e
    exact ⟨j, h1, h, h2, h3, h4⟩
theorem atI_nat {α : Type} {xs : List α} {j : Nat} {v : α} (h : xs[j]? = some v) : atI xs (j : Int) = some v := by
  have hj : j < xs.length := (List.getElem?_eq_some_iff.mp h).1
  have e : ixN xs.length (j : Int) = some j := by
    unfold ixN
    rw [if_pos (by omega), if_pos (by omega)]; simp
  unfold atI; rw [e]; exact h

/-! ### what may be subscripted -/
/-  what stands as an index of a plain subscript -/
def PlainIx (b : Expr) : Prop := ∀ o i, subscripted b false o i = operate [o, i] (getItem o i)
/-  a subscript by values -/
def IxR (X : Cx) (r : R2) : Prop :=
  ∀ (value slice : Expr) (pins : List (Addr × Obj)) (s : Shared) (σ : St) (H : Hp) (x y : V) (v u : Value) (Q : VK), Inv X pins σ H s → RelV x v → RelV y u → r x y H Q →
    subscripted slice false v u = operate [v, u] (getItem v u) → wpAny (model X.prog X.w) X.A (subscriptTail value slice v u) (EP X pins σ Q) X.xe s
/-  a call of a builtin's method by values: the receiver, the arguments -/
def MtR (X : Cx) (id : String) (r : V → List V → Hp → VK → Prop) : Prop :=
  ∀ (pins : List (Addr × Obj)) (s : Shared) (σ : St) (H : Hp) (x : V) (xs : List V) (v : Value) (us : List Value) (Q : VK), Inv X pins σ H s → RelV x v → Vals xs us → r x xs H Q →
    wpAny (model X.prog X.w) X.A (call (.builtin id) (v :: us)) (EP X pins σ Q) X.xe s
section
variable {X : Cx} {a b : Expr} {ta tb : TE} {pos : Pos}
/-  a[b] -/
theorem pe_ix {r : R2} (hr : IxR X r) (ha : PE X a ta) (hb : PE X b tb) (hs : PlainIx b) : PE X (.Subscript a b pos) (tOp r ta tb) := by
  intro pins s σ H Q I h
  exact Subscript_ (binT ha hb I h fun v u s2 x y H2 I2 rx ry q => hr a b pins s2 σ H2 x y v u Q I2 rx ry q (hs _ _))

def rIxL (K : PySem.W.Frag) : R2 := fun x y H Q => ∃ p xs i v, x = .ref p ∧ y = .int i ∧ SqL K H p xs ∧ atI xs i = some v ∧ Q v H
def rIxT (K : PySem.W.Frag) : R2 := fun x y H Q => ∃ p xs i v, x = .ref p ∧ y = .int i ∧ SqT K H p xs ∧ atI xs i = some v ∧ Q v H
def rIxS : R2 := fun x y H Q => ∃ z i c, x = .str z ∧ y = .int i ∧ z.length ≤ sizeLine ∧ atI z.cps.toList i = some c ∧ Q (.str ⟨#[c]⟩) H
theorem ix_list : IxR X (rIxL X.K) := by
  intro value slice pins s σ H x y v u Q I rx ry h hs
  obtain ⟨p, xs, i, z, rfl, rfl, hq, he, q⟩ := h
  cases rx
  obtain ⟨t, rfl⟩ := ry
  obtain ⟨its, r, pl, hz⟩ := I.list hq
  obtain ⟨j, h1, h2, h3, h4, h5⟩ := atI_get he
  obtain ⟨w, ew, rw'⟩ := r.get h2
  have hl := r.length
  have hn := line63
  have fin : EP X pins σ Q w s := ⟨z, H, I, rw', q⟩
  by_cases h0 : 0 ≤ i
  · have hj : i.toNat = j := by
      rw [seqIndex_of h0 h5] at h1
      exact Option.some.inj h1
    exact item_listR pl.isList h0 (by omega) (by rw [hj]; simpa using ew) fin hs
  · have hj : (i + (its.toArray.size : Int)).toNat = j := by
      rw [seqIndex_neg (by omega) h4] at h1
      rw [List.size_toArray, ← hl]
      exact Option.some.inj h1
    exact subscriptTail_builtinR (x := w) pl.isList.typeIs slot_list_getitem.lookup
      (wpAny_getItem_list_neg (Q := fun r s' => r = w ∧ EP X pins σ Q r s') pl.isList (by omega) (by rw [List.size_toArray] <;> omega) (by omega) (by rw [hj]; simpa using ew) ⟨rfl, fin⟩) hs
theorem ix_tup : IxR X (rIxT X.K) := by
  intro value slice pins s σ H x y v u Q I rx ry h hs
  obtain ⟨p, xs, i, z, rfl, rfl, hq, he, q⟩ := h
  cases rx
  obtain ⟨t, rfl⟩ := ry
  obtain ⟨its, r, pl, hz⟩ := I.tuple hq
  obtain ⟨j, h1, h2, h3, h4, h5⟩ := atI_get he
  obtain ⟨w, ew, rw'⟩ := r.get h2
  have hl := r.length
  have hn := line63
  have fin : EP X pins σ Q w s := ⟨z, H, I, rw', q⟩
  exact subscriptTail_builtinR (x := w) pl.typeIs slot_tuple_getitem.lookup
    (getItem_tuple (j := j) (Q := fun r s' => r = w ∧ EP X pins σ Q r s') pl (by omega) (by omega) (by rw [List.size_toArray, ← hl]; exact h1) (by simpa using ew) ⟨rfl, fin⟩) hs
theorem ix_str : IxR X rIxS := by
  intro value slice pins s σ H x y v u Q I rx ry h hs
  obtain ⟨z, i, c, rfl, rfl, hz, he, q⟩ := h
  obtain ⟨t, rfl⟩ := rx
  obtain ⟨t', rfl⟩ := ry
  obtain ⟨j, h1, h2, h3, h4, h5⟩ := atI_get he
  have hl : z.cps.toList.length = z.length := by simp [Str.length]
  rw [hl] at h1 h4 h5
  have hn := line63
  exact tail_any (typeIs_str s z t) slot_str_getitem.lookup (getItem_str (c := c) (by
    have e1 : decide (i < -(2 ^ 63 : Int)) = false := decide_eq_false (by omega)
    have e2 : decide (i ≥ 2 ^ 63) = false := decide_eq_false (by omega)
    rw [e1, e2, Bool.or_false]) (by rw [h1]; simpa using h2) ⟨.str ⟨#[c]⟩, H, I.tok _, ⟨_, rfl⟩, q⟩) hs

/-! ### xs[i] = v, any sign -/

/-! ### slices -/
theorem slice_bounds (lo hi : Option Int) (n : Nat) : (sliceBounds lo hi none n).1 = ((HT.sIx n 0 lo : Nat) : Int) ∧ (sliceBounds lo hi none n).2.1 = ((HT.sIx n n hi : Nat) : Int) ∧ (sliceBounds lo hi none n).2.2 = 1 := by
  refine ⟨?_, ?_, rfl⟩
  · cases lo with
    | none => simp [sliceBounds, HT.sIx]
    | some i =>
      simp only [sliceBounds, HT.sIx, Option.getD_none, show (1 : Int) > 0 by decide, if_true]
      by_cases h : i < 0
      · simp only [h, if_true] <;> omega
      · simp only [h, if_false] <;> omega
  · cases hi with
    | none => simp [sliceBounds, HT.sIx]
    | some i =>
      simp only [sliceBounds, HT.sIx, Option.getD_none, show (1 : Int) > 0 by decide, if_true]
      by_cases h : i < 0
      · simp only [h, if_true] <;> omega
      · simp only [h, if_false] <;> omega
theorem slicePick_cut (its : List Value) (lo hi : Option Int) : slicePick its.toArray lo hi none = ((its.drop (HT.sIx its.length 0 lo)).take (HT.sIx its.length its.length hi - HT.sIx its.length 0 lo)).toArray := by
  obtain ⟨h1, h2, h3⟩ := slice_bounds lo hi its.toArray.size
  unfold slicePick
  rw [h1, h2, h3]
  simp only [sliceRange_one, pick_run, List.size_toArray] <;> rfl
/-  xs[lo:hi] of a list: a new list -/
def rSlL (K : PySem.W.Frag) : V → Option Int → Option Int → Hp → VK → Prop := fun x lo hi H Q => ∃ a xs, x = .ref a ∧ SqL K H a xs ∧ ∀ p, H p = none → Q (.ref p) (upd H p (.lst (cutV xs lo hi)))
theorem sl_list : SlR X (rSlL X.K) := by
  intro pins s σ H x v vl vu lo hi sl Q I rx hs pl pu h
  obtain ⟨a, xs, rfl, hx, q⟩ := h
  cases rx
  obtain ⟨its, r, ht, hz⟩ := I.list hx
  have hlen := r.length
  refine ⟨"list", _, slot_list_getitem.lookup, ht.isList.typeIs, ?_⟩
  refine wpAny_getItem_list_slice ht.isList hs pl pu .none (by simp) ?_ (by rw [List.size_toArray] <;> omega)
  rw [slicePick_cut, ← hlen]
  refine ⟨.ref s.heap.objs.size, _, I.laid (t' := s.toks) (o := .lst (cutV xs lo hi)) (fun b ob q => Heap.get?_push_of_some _ q) (Nat.le_refl _) ?_, rfl, q _ (I.hok.fresh (Nat.le_refl _))⟩
  exact ⟨Nat.le_trans (cutV_length xs lo hi) hz, _, 0, (r.drop (HT.sIx xs.length 0 lo)).take (HT.sIx xs.length xs.length hi - HT.sIx xs.length 0 lo), Heap.get?_push_size _ rfl⟩

/-! ### in, not in: flat items -/
def flatV : V → Bool
  | .non => true
  | .bl _ => true
  | .int _ => true
  | .str _ => true
  | _ => false
/-  == of flat values -/
def eqV : V → V → Bool
  | .non, .non => true
  | .bl a, .bl b => a == b
  | .bl a, .int b => (if a then 1 else 0) == b
  | .int a, .bl b => a == (if b then 1 else 0)
  | .int a, .int b => a == b
  | .str a, .str b => a == b
  | _, _ => false
theorem eqAt_V {A : Around} {s : Shared} {y x : V} {u v : Value} (ry : RelV y u) (rx : RelV x v) (fy : flatV y = true) (fx : flatV x = true) : SeqAt.EqAt A s u v (eqV y x) := by
  cases y with
  | non =>
    cases ry
    cases x with
    | non => cases rx; exact SeqAt.EqAt.same _
    | bl b => cases rx; exact SeqAt.EqAt.none_bool b
    | int b => obtain ⟨t, rfl⟩ := rx; exact SeqAt.EqAt.none_int b t
    | str b => obtain ⟨t, rfl⟩ := rx; exact SeqAt.EqAt.none_str b t
    | _ => exact absurd (show false = true from fx) Bool.false_ne_true
  | bl a =>
    cases ry
    cases x with
    | non => cases rx; exact SeqAt.EqAt.bool_none a
    | bl b => cases rx; exact SeqAt.EqAt.bool_bool a b
    | int b => obtain ⟨t, rfl⟩ := rx; exact SeqAt.EqAt.bool_int a b t
    | str b => obtain ⟨t, rfl⟩ := rx; exact SeqAt.EqAt.bool_str a b t
    | _ => exact absurd (show false = true from fx) Bool.false_ne_true
  | int a =>
    obtain ⟨t', rfl⟩ := ry
    cases x with
    | non => cases rx; exact SeqAt.EqAt.int_none a t'
    | bl b => cases rx; exact SeqAt.EqAt.int_bool a t' b
    | int b => obtain ⟨t, rfl⟩ := rx; exact SeqAt.EqAt.int_int a t' b t
    | str b => obtain ⟨t, rfl⟩ := rx; exact SeqAt.EqAt.int_str a t' b t
    | _ => exact absurd (show false = true from fx) Bool.false_ne_true
  | str a =>
    obtain ⟨t', rfl⟩ := ry
    cases x with
    | non => cases rx; exact SeqAt.EqAt.str_none a t'
    | bl b => cases rx; exact SeqAt.EqAt.str_bool a t' b
    | int b => obtain ⟨t, rfl⟩ := rx; exact SeqAt.EqAt.str_int a t' b t
    | str b => obtain ⟨t, rfl⟩ := rx; exact SeqAt.EqAt.str_str a t' b t
    | _ => exact absurd (show false = true from fx) Bool.false_ne_true
  | _ => exact absurd (show false = true from fy) Bool.false_ne_true
/-  the items' answers, read off the values (a value's own answer does not lean on its token) -/
def eqU (x : V) (u : Value) : Bool := match u with
  | .none => eqV .non x
  | .bool b => eqV (.bl b) x
  | .int i _ => eqV (.int i) x
  | .str z _ => eqV (.str z) x
  | _ => false
theorem eqU_of {x y : V} {u : Value} (r : RelV y u) (f : flatV y = true) : eqU x u = eqV y x := by
  cases y with
  | non => cases r; rfl
  | bl b => cases r; rfl
  | int i => obtain ⟨t, rfl⟩ := r; rfl
  | str z => obtain ⟨t, rfl⟩ := r; rfl
  | _ => exact absurd (show false = true from f) Bool.false_ne_true
theorem any_eqU {x : V} : ∀ {xs : List V} {us : List Value}, Vals xs us → xs.all flatV = true → us.any (eqU x) = xs.any fun y => eqV y x
  | _, _, .nil, _ => rfl
  | y :: xs, u :: us, .cons r t, f => by
    rw [List.all_cons, Bool.and_eq_true] at f
    rw [List.any_cons, List.any_cons, eqU_of r f.1, any_eqU t f.2]
theorem mem_eqAt {A : Around} {s : Shared} {x : V} {v : Value} (rx : RelV x v) (fx : flatV x = true) : ∀ {xs : List V} {us : List Value}, Vals xs us → xs.all flatV = true → ∀ u ∈ us, SeqAt.EqAt A s u v (eqU x u)
  | _, _, .nil, _ => fun u hu => by cases hu
  | y :: xs, u :: us, .cons r t, f => fun u' hu => by
    rw [List.all_cons, Bool.and_eq_true] at f
    rcases List.mem_cons.mp hu with rfl | hu
    · rw [eqU_of r f.1]; exact eqAt_V r rx f.1 fx
    · exact mem_eqAt rx fx t f.2 u' hu
def inV (x : V) (xs : List V) : Bool := xs.any fun y => eqV y x
/-  x in a list or tuple of flat items -/
def rIn (K : PySem.W.Frag) (neg : Bool) : R2 := fun x y H Q => ∃ p xs, y = .ref p ∧ (SqL K H p xs ∨ SqT K H p xs) ∧ flatV x = true ∧ xs.all flatV = true ∧ Q (.bl (if neg then !inV x xs else inV x xs)) H
theorem op_notIn_seq : OpR X (compareOp .NotIn) (rIn X.K true) := by
  intro pins s σ H x y v u Q I rx ry h
  obtain ⟨p, xs, rfl, hq, fx, fs, q⟩ := h
  cases ry
  rcases hq with hq | hq
  · obtain ⟨its, r, pl, hz⟩ := I.list hq
    refine SeqAt.notIn_listAt (eqU x) pl.isList (fun w hw => mem_eqAt rx fx r fs w (by simpa using hw)) ⟨.bl _, H, I, rfl, ?_⟩
    rw [show its.toArray.any (eqU x) = its.any (eqU x) by simp, any_eqU r fs]
    exact q
  · obtain ⟨its, r, pl, hz⟩ := I.tuple hq
    refine SeqAt.notIn_tupleAt (eqU x) pl (fun w hw => mem_eqAt rx fx r fs w (by simpa using hw)) ⟨.bl _, H, I, rfl, ?_⟩
    rw [show its.toArray.any (eqU x) = its.any (eqU x) by simp, any_eqU r fs]
    exact q

/-! ### len, list(x), tuple(x) of any list or tuple that is read -/
theorem call_len_seq : CallR X (.builtin "len") (fun xs H Q => ∃ p ys, xs = [.ref p] ∧ (SqL X.K H p ys ∨ SqT X.K H p ys) ∧ Q (.int ys.length) H) := by
  intro pins s σ H xs us Q I r h
  obtain ⟨p, ys, rfl, hq, q⟩ := h
  obtain ⟨u, rfl, rx⟩ := vals1 r
  cases rx
  have hn := line63
  rcases hq with hq | hq
  · obtain ⟨its, r', pl, hz⟩ := I.list hq
    have hlen := r'.length
    exact Calls.call_len_list pl.isList (by simp only [List.size_toArray] <;> omega) ⟨.int ys.length, H, I.tok _, ⟨s.toks + 1, by rw [List.size_toArray, hlen]⟩, q⟩
  · obtain ⟨its, r', pl, hz⟩ := I.tuple hq
    have hlen := r'.length
    exact len_tuple pl (by simp only [List.size_toArray] <;> omega) ⟨.int ys.length, H, I.tok _, ⟨s.toks + 1, by rw [List.size_toArray, hlen]⟩, q⟩
theorem call_len_str : CallR X (.builtin "len") (fun xs H Q => ∃ z, xs = [.str z] ∧ z.length ≤ sizeLine ∧ Q (.int z.length) H) := by
  intro pins s σ H xs us Q I r h
  obtain ⟨z, rfl, hz, q⟩ := h
  obtain ⟨u, rfl, t, rfl⟩ := vals1 r
  have hn := line63
  exact len_str (by omega) ⟨.int z.length, H, I.tok _, ⟨_, rfl⟩, q⟩
theorem call_list_of : CallR X (.type "list") (fun xs H Q => ∃ p ys, xs = [.ref p] ∧ (SqL X.K H p ys ∨ SqT X.K H p ys) ∧ ∀ l, H l = none → Q (.ref l) (upd H l (.lst ys))) := by
  intro pins s σ H xs us Q I r h
  obtain ⟨p, ys, rfl, hq, q⟩ := h
  obtain ⟨u, rfl, rx⟩ := vals1 r
  cases rx
  have fin : ∀ (its : List Value), Vals ys its → ys.length ≤ sizeLine → ∀ (h' : Heap) (c' : Nat), (∀ b o', s.heap.get? b = some o' → h'.get? b = some o') →
      h'.get? s.heap.objs.size = some { cls := .type "list", dict := none, data := .seq its.toArray c', slots := #[] } → EP X pins σ Q (.ref s.heap.objs.size) { s with heap := h' } := fun its r' hz h' c' kp e =>
    ⟨.ref s.heap.objs.size, _, I.laid (t' := s.toks) kp (Nat.le_refl _) (show ObjOk X.prog X.w _ h' _ (.lst ys) from ⟨hz, its, c', r', e⟩), rfl, q _ (I.hok.fresh (Nat.le_refl _))⟩
  rcases hq with hq | hq
  · obtain ⟨its, r', pl, hz⟩ := I.list hq
    have hlen := r'.length
    obtain ⟨o, ho, hc, n, hd⟩ := pl.isList
    exact call_list_seq p (.inl rfl) ho hc hd (fun h' c' kp e => fin its r' hz h' c' kp e) (by simp only [List.size_toArray] <;> omega)
  · obtain ⟨its, r', pl, hz⟩ := I.tuple hq
    have hlen := r'.length
    obtain ⟨o, ho, hc, n, hd⟩ := pl
    exact call_list_seq p (.inr rfl) ho hc hd (fun h' c' kp e => fin its r' hz h' c' kp e) (by simp only [List.size_toArray] <;> omega)
theorem call_tuple_of : CallR X (.type "tuple") (fun xs H Q => ∃ p ys, xs = [.ref p] ∧ ((SqL X.K H p ys ∧ ∀ l, H l = none → Q (.ref l) (upd H l (.tup ys))) ∨ (SqT X.K H p ys ∧ Q (.ref p) H))) := by
  intro pins s σ H xs us Q I r h
  obtain ⟨p, ys, rfl, h⟩ := h
  obtain ⟨u, rfl, rx⟩ := vals1 r
  cases rx
  rcases h with ⟨hq, q⟩ | ⟨hq, q⟩
  · obtain ⟨its, r', pl, hz⟩ := I.list hq
    have hlen := r'.length
    refine call_tuple_list pl.isList (fun h' kp => ?_) (by simp only [List.size_toArray] <;> omega)
    have I1 : Inv X pins σ H { s with heap := h' } := I.kept (t' := s.toks) kp
    have I2 : Inv X pins σ (upd H h'.objs.size (.tup ys)) { s with heap := h'.push { cls := .type "tuple", data := .seq its.toArray } } :=
      I1.laid (t' := s.toks) (fun b o e => Heap.get?_push_of_some _ e) (Nat.le_refl _) (show ObjOk X.prog X.w _ _ _ (.tup ys) from ⟨hz, its, r', IsTup.new _ _⟩)
    exact ⟨.ref h'.objs.size, _, I2, rfl, q _ (I1.hok.fresh (Nat.le_refl _))⟩
  · obtain ⟨its, r', pl, hz⟩ := I.tuple hq
    exact call_tuple_same pl ⟨.ref p, H, I, rfl, q⟩

/-! ### the call of a builtin's method: o.m(..) -/
/-  the value is of that builtin type -/
def tyV (K : PySem.W.Frag) (T : String) (x : V) (H : Hp) : Prop := match x with
  | .str _ => T = "str"
  | .int _ => T = "int"
  | .ref p => (T = "list" ∧ ∃ xs, SqL K H p xs) ∨ (T = "tuple" ∧ ∃ o, K.lookup p = some o ∧ o.cls = .type "tuple" ∧ o.dict = none) ∨
      (T = "dict" ∧ ((∃ kvs, H p = some (.dK kvs)) ∨ ∃ kvs, H p = some (.dT kvs))) ∨ (T = "set" ∧ ∃ S n, H p = some (.set S n))
  | _ => False
theorem tyV_is {pins : List (Addr × Obj)} {σ : St} {H : Hp} {s : Shared} {T : String} {x : V} {v : Value} (I : Inv X pins σ H s) (r : RelV x v) (ty : tyV X.K T x H) :
    s.TypeIs v T ∧ ∀ a, v = .ref a → ∃ ob, s.heap.get? a = some ob ∧ ob.dict = none := by
  cases x with
  | str z =>
    obtain ⟨t, rfl⟩ := r
    cases (show T = "str" from ty)
    exact ⟨typeIs_str s z t, fun _ e => nomatch e⟩
  | int i =>
    obtain ⟨t, rfl⟩ := r
    cases (show T = "int" from ty)
    exact ⟨typeIs_int s i t, fun _ e => nomatch e⟩
  | ref p =>
    cases r
    rcases ty with ⟨rfl, xs, hq⟩ | ⟨rfl, o, hk, hc, hd⟩ | ⟨rfl, hk⟩ | ⟨rfl, S, n, hk⟩
    · obtain ⟨its, _, pl, _⟩ := I.list hq
      refine ⟨pl.isList.typeIs, fun a e => ?_⟩
      cases e
      obtain ⟨o, n, e, c, hd, _⟩ := pl
      exact ⟨o, e, hd⟩
    · refine ⟨⟨o, I.kIn p o hk, hc⟩, fun a e => ?_⟩
      cases e
      exact ⟨o, I.kIn _ o hk, hd⟩
    · have z : ∃ o, s.heap.get? p = some o ∧ o.ExactDict := by
        rcases hk with ⟨kvs, hk⟩ | ⟨kvs, hk⟩
        · obtain ⟨_, _, _, _, o, _, _, e, ex, _⟩ := I.hok p _ hk
          exact ⟨o, e, ex⟩
        · obtain ⟨_, _, _, _, o, _, _, e, ex, _⟩ := I.hok p _ hk
          exact ⟨o, e, ex⟩
      obtain ⟨o, e, ex⟩ := z
      refine ⟨⟨o, e, ex.1⟩, fun a e2 => ?_⟩
      cases e2
      exact ⟨o, e, ex.2.1⟩
    · obtain ⟨o, _, _, _, e, ex, _⟩ := I.hok p _ hk
      refine ⟨⟨o, e, ex.1⟩, fun a e2 => ?_⟩
      cases e2
      exact ⟨o, e, ex.2.1⟩
  | _ => exact False.elim ty
def tBM0 (K : PySem.W.Frag) (T : String) (r : V → List V → Hp → VK → Prop) (to : TE) : TE := fun σ H Q => to σ H fun x H1 => tyV K T x H1 ∧ r x [] H1 Q
def tBM (K : PySem.W.Frag) (T : String) (r : V → List V → Hp → VK → Prop) (to : TE) (t : TA) : TE := fun σ H Q => to σ H fun x H1 => tyV K T x H1 ∧ t σ H1 fun xs H2 => r x xs H2 Q
variable {o e : Expr} {es : List Expr} {to : TE} {t : TA} {name : Str} {apos cpos : Pos} {T id : String} {r : V → List V → Hp → VK → Prop}
theorem pe_bm (pa : PlainAttrs T) (slot : Slot T name id) (hty : typeOf (.builtin id) = pure (.type "method_descriptor")) (hm : MtR X id r) (ho : PE X o to) (ha : PA X (e :: es) t)
    (hbase : attributeBase o name X.env (eval o X.env) = eval o X.env := by rfl)
    (hfew : ((backTo cpos (starEach (e :: es) X.env)).all (fun x => !x.1) && (backToKw cpos (keywordEach [] X.env)).all (fun x => x.1.isSome)
      && decide ((e :: es).length + ([] : List Keyword).length + (if ([] : List Keyword).isEmpty then 0 else 1) < 30)) = true := by rfl)
    (hline : (apos.endLine == cpos.line) = true := by rfl) (hs : starEach (e :: es) X.env = (false, eval e X.env) :: starEach es X.env := by rfl) (hplain : (backTo cpos (starEach es X.env)).any (·.1) = false := by rfl) :
    PE X (.Call (.Attribute o name apos) (e :: es) [] cpos) (tBM X.K T r to t) := by
  intro pins s σ H Q I h
  refine wpAny_Call_method_late hbase hfew hline rfl (thn (ho pins s σ H _ I h) fun v s1 ⟨x, H1, I1, r1, ty, q1⟩ => ?_)
  obtain ⟨h1, h2⟩ := tyV_is I1 r1 ty
  refine ⟨T, id, pa, slot, hty, h1, h2, ?_⟩
  have hA := ha cpos pins s1 σ H1 _ I1 q1
  rw [hs] at hA ⊢
  refine Calls.callWith_builtin (by show (false || (backTo cpos (starEach es X.env)).any (·.1)) = false; rw [hplain] <;> rfl) (Calls.evalArgs_plain ?_)
  exact thn hA fun us s2 ⟨vs, H2, I2, r2, q2⟩ => hm pins s2 σ H2 x vs v us Q I2 r1 r2 q2
/- xs.append(e), list.index on a module's tuple .. are MtR facts of 06m -/
end
end L2

namespace L2
open PySem PySem.Spec PyProof.Rows

def MtM (X : Cx) (id : String) (r : V → List V → Hp → VK → Prop) : Prop :=
  ∀ (pins : List (Addr × Obj)) (s : Shared) (σ : St) (H : Hp) (x : V) (xs : List V) (v : Value) (us : List Value) (Q : VK), Inv X pins σ H s → RelV x v → Vals xs us → r x xs H Q →
    wpAny (model X.prog X.w) X.A (call (.builtin id) (v :: us)) (EP X pins σ Q) X.xe s

/-! ### lists of values -/
theorem Vals.one : ∀ {x : V} {us : List Value}, Vals [x] us → ∃ u, us = [u] ∧ RelV x u
  | _, _, .cons r .nil => ⟨_, rfl, r⟩
theorem Vals.reverse {xs : List V} {us : List Value} (h : Vals xs us) : Vals xs.reverse us.reverse := by
  induction h with
  | nil => exact .nil
  | cons r t ih => rw [List.reverse_cons, List.reverse_cons]; exact Vals.append ih (.cons r .nil)

section
variable {X : Cx} {pins : List (Addr × Obj)} {σ : St} {H : Hp} {s : Shared} {l b : Addr} {xs ys zs : List V}

/-! ### the two steps: a tracked list is rewritten, a new list is laid -/
theorem Inv.lset {its its' : List Value} {n : Nat} {f : Array Value → Array Value} {t' : Nat} (I : Inv X pins σ H s) (hH : H l = some (.lst xs))
    (e : s.heap.get? l = some { cls := .type "list", data := .seq its.toArray n }) (hf : f its.toArray = its'.toArray) (hv : Vals ys its') (hz : ys.length ≤ sizeLine) :
    Inv X pins σ (upd H l (.lst ys)) { s with heap := s.heap.update l (Obj.mapSeq f), toks := t' } := by
  have q := PySem.IsL.update e f
  rw [hf] at q
  refine I.write (x := l) (e := l) (by rw [hH]; exact trivial) (.inl rfl) (fun b' u hb hu => (Heap.get?_update_other s.heap (Obj.mapSeq f) (Ne.symm hb)).trans hu) ⟨_, q⟩ ?_
  exact ⟨hz, its', _, hv, q⟩
theorem Inv.lnew {its : List Value} {t' : Nat} (I : Inv X pins σ H s) (hv : Vals ys its) (hz : ys.length ≤ sizeLine) :
    Inv X pins σ (upd H s.heap.objs.size (.lst ys)) { s with heap := s.heap.push { cls := .type "list", data := .seq its.toArray }, toks := t' } :=
  I.laid (fun _ _ q => Heap.get?_push_of_some _ q) (Nat.le_refl _) ⟨hz, its, 0, hv, Heap.get?_push_size _ rfl⟩
theorem Inv.fresh (I : Inv X pins σ H s) : H s.heap.objs.size = none := I.hok.fresh (Nat.le_refl _)
theorem Inv.lstM (I : Inv X pins σ H s) (hH : H l = some (.lst xs)) : xs.length ≤ sizeLine ∧ ∃ (its : List Value) (n : Nat), Vals xs its ∧ xs.length = its.length ∧ s.heap.get? l = some { cls := .type "list", data := .seq its.toArray n } := by
  obtain ⟨z, its, n, r, e⟩ := I.hok l _ hH
  exact ⟨z, its, n, r, r.length, e⟩

end

section
variable {X : Cx}

/-! ### methods -/
def rAppend : V → List V → Hp → VK → Prop := fun x vs H Q => ∃ l xs y, x = .ref l ∧ vs = [y] ∧ H l = some (.lst xs) ∧ xs.length < sizeLine ∧ Q .non (upd H l (.lst (xs ++ [y])))
theorem mt_append : MtM X "list.append" rAppend := by
  intro pins s σ H x vs v us Q I rx rv h
  obtain ⟨l, xs, y, rfl, rfl, hH, hz, q⟩ := h
  cases rx
  obtain ⟨u, rfl, ru⟩ := rv.one
  obtain ⟨z, its, n, r, hl, e⟩ := I.lstM hH
  refine call_meets F.slot_list_append ⟨_, e, rfl⟩ F.entry_list_append (F.args_list_append_2 _ _) (PySem.list_append l its.toArray n u (by rw [List.size_toArray]; omega)) ⟨e, ?_⟩
  refine ⟨.non, _, I.lset (its' := its ++ [u]) hH e (by simp) (r.append (.cons ru .nil)) ?_, rfl, q⟩
  rw [List.length_append, List.length_singleton]
  omega






/-! ### list + list, list += list, list * int -/
def rCat : R2 := fun x y H Q => ∃ l b xs zs, x = .ref l ∧ y = .ref b ∧ H l = some (.lst xs) ∧ H b = some (.lst zs) ∧ xs.length + zs.length ≤ sizeLine ∧ ∀ p, H p = none → Q (.ref p) (upd H p (.lst (xs ++ zs)))
theorem op_cat : OpR X (binaryOp .Add) rCat := by
  intro pins s σ H x y v u Q I rx ry h
  obtain ⟨l, b, xs, zs, rfl, rfl, hH, hB, hz, q⟩ := h
  cases rx
  cases ry
  obtain ⟨z, its, n, r, hl, e⟩ := I.lstM hH
  obtain ⟨z2, its2, n2, r2, hl2, e2⟩ := I.lstM hB
  refine PySem.P.add_list e e2 ?_ (by rw [List.size_toArray, List.size_toArray]; omega)
  have ea : its.toArray ++ its2.toArray = (its ++ its2).toArray := by simp
  rw [ea]
  exact ⟨.ref _, _, I.lnew (t' := s.toks) (r.append r2) (by rw [List.length_append]; omega), rfl, q _ I.fresh⟩

/-! ### del xs[i] -/
end

/-! ### xs[a:b] = ys -/
section
variable {prog : Program} {w : World} {A : Around} {E : Value → Shared → Prop} {s : Shared}
set_option maxRecDepth 100000 in
end

section
variable {X : Cx}
end
end L2

namespace L2
open PySem PySem.Spec PyProof.Rows

/-! ### lists of pairs as tables -/
section
variable {κ : Type} [DecidableEq κ]
def valV (kvs : List (κ × V)) (k : κ) : Option V := (kvs.find? fun kv => decide (kv.1 = k)).map (·.2)
/-  in its place, or at the end -/
def putK (kvs : List (κ × V)) (k : κ) (v : V) : List (κ × V) :=
  if (kvs.any fun kv => decide (kv.1 = k)) = true then kvs.map (fun kv => if kv.1 = k then (kv.1, v) else kv) else kvs ++ [(k, v)]
def dropK (kvs : List (κ × V)) (k : κ) : List (κ × V) := kvs.filter fun kv => decide (kv.1 ≠ k)

theorem valV_pos {p : κ × V} {r : List (κ × V)} {k : κ} (e : p.1 = k) : valV (p :: r) k = some p.2 := by simp [valV, List.find?_cons, e]
theorem valV_neg {p : κ × V} {r : List (κ × V)} {k : κ} (e : ¬ p.1 = k) : valV (p :: r) k = valV r k := by simp [valV, List.find?_cons, e]
theorem length_putK (kvs : List (κ × V)) (k : κ) (v : V) : (putK kvs k v).length ≤ kvs.length + 1 := by
  unfold putK
  split
  · rw [List.length_map]; omega
  · rw [List.length_append, List.length_cons, List.length_nil]; omega


/-  raw tables of the same keys -/
theorem KV.val {kvs : List (κ × V)} {vs : List (κ × Value)} (r : KV kvs vs) (k : κ) : RelO (valV kvs k) (valueAt vs k) := by
  unfold KV at r
  induction r with
  | nil => exact True.intro
  | @cons p q ps qs h t ih =>
    obtain ⟨h1, h2⟩ := h
    by_cases e : p.1 = k
    · have e' : q.1 = k := h1.symm.trans e
      have b : valueAt (q :: qs) k = some q.2 := by simp [valueAt, List.find?_cons, e']
      rw [valV_pos e, b]; exact h2
    · have e' : ¬ q.1 = k := fun z => e (h1.trans z)
      have b : valueAt (q :: qs) k = valueAt qs k := by simp [valueAt, List.find?_cons, e']
      rw [valV_neg e, b]; exact ih
theorem KV.any {kvs : List (κ × V)} {vs : List (κ × Value)} (r : KV kvs vs) (k : κ) : (kvs.any fun kv => decide (kv.1 = k)) = vs.any fun kv => decide (kv.1 = k) := by
  unfold KV at r
  induction r with
  | nil => rfl
  | cons h t ih => rw [List.any_cons, List.any_cons, ih, h.1]
theorem KV.repl {kvs : List (κ × V)} {vs : List (κ × Value)} (r : KV kvs vs) (k : κ) {y : V} {u : Value} (ry : RelV y u) :
    KV (kvs.map fun kv => if kv.1 = k then (kv.1, y) else kv) (vs.map fun kv => if kv.1 = k then (kv.1, u) else kv) := by
  unfold KV at r ⊢
  induction r with
  | nil => exact .nil
  | @cons p q ps qs h t ih =>
    rw [List.map_cons, List.map_cons]
    refine .cons ?_ ih
    obtain ⟨h1, h2⟩ := h
    by_cases e : p.1 = k
    · rw [if_pos e, if_pos (h1.symm.trans e)]; exact ⟨h1, ry⟩
    · rw [if_neg e, if_neg (fun z => e (h1.trans z))]; exact ⟨h1, h2⟩
theorem KV.put {kvs : List (κ × V)} {vs : List (κ × Value)} (r : KV kvs vs) (k : κ) {y : V} {u : Value} (ry : RelV y u) : KV (putK kvs k y) (stored vs k u) := by
  unfold putK stored
  rw [r.any k]
  by_cases e : (vs.any fun kv => decide (kv.1 = k)) = true
  · rw [if_pos e, if_pos e]; exact r.repl k ry
  · rw [if_neg e, if_neg e]; exact Paired.snoc r ⟨rfl, ry⟩
end


/-! ### a tracked dict, its keys ints and texts or tuples of these -/
theorem kV_is {P : Program} {w : World} {k : Key} {u : Value} (r : RelV (kV k) u) : (mixKind P w).is k u = true := by
  cases k with
  | inl i => obtain ⟨t, e⟩ := (show ∃ t, u = Value.int i t from r); subst e; exact mixKind_int P w i t
  | inr x => obtain ⟨t, e⟩ := (show ∃ t, u = Value.str x t from r); subst e; exact mixKind_str P w x t
theorem items_are {P : Program} {w : World} : ∀ {ks : List Key} {us : List Value}, Vals (ks.map kV) us → ItemsAre (mixKind P w) ks us
  | [], _, r => by rw [List.map_nil] at r; cases r; exact .nil
  | k :: ks, _, r => by
    rw [List.map_cons] at r
    cases r with
    | cons h t => exact .cons (kV_is h) (items_are t)

/-  raw entries of a dict with tuple keys -/
abbrev KT (H : Hp) : List (List Key × V) → List (List Key × Addr × Value) → Prop := Paired fun p q => p.1 = q.1 ∧ H q.2.1 = some (.tup (p.1.map kV)) ∧ RelV p.2 q.2.2
theorem KT.val {H : Hp} {kvs : List (List Key × V)} {xs : List (List Key × Addr × Value)} (r : KT H kvs xs) (k : List Key) : RelO (valV kvs k) ((atKey xs k).map (·.2)) := by
  induction r with
  | nil => exact True.intro
  | @cons p q ps qs h t ih =>
    obtain ⟨h1, _, h2⟩ := h
    by_cases e : p.1 = k
    · have e' : q.1 = k := h1.symm.trans e
      have b : atKey (q :: qs) k = some q.2 := by simp [atKey, List.find?_cons, e']
      rw [valV_pos e, b]; exact h2
    · have e' : ¬ q.1 = k := fun z => e (h1.trans z)
      have b : atKey (q :: qs) k = atKey qs k := by simp [atKey, List.find?_cons, e']
      rw [valV_neg e, b]; exact ih

section
variable {P : Program} {w : World} {H : Hp} {h : Heap} {a : Addr}
theorem rd_of {u : HO} (ok : HOk P w H h) (e : Rd H a u) : ObjOk P w H h a u := e.ok ok
theorem dk_rd {kvs : List (Key × V)} (ok : HOk P w H h) (e : Rd H a (.dK kvs)) : kvs.length ≤ sizeLine ∧ (a == sysModules) = false ∧ ∃ vs, KV kvs vs ∧ h.DictOf (mixKind P w) a vs :=
  show ObjOk P w H h a (.dK kvs) from rd_of ok e
theorem dk_of {kvs : List (Key × V)} (ok : HOk P w H h) (e : H a = some (.dK kvs)) : kvs.length ≤ sizeLine ∧ (a == sysModules) = false ∧ ∃ vs, KV kvs vs ∧ h.DictOf (mixKind P w) a vs := dk_rd ok (.inl e)
/-  a tracked tuple of ints and texts is a key -/
theorem key_of {ks : List Key} (ok : HOk P w H h) (e : H a = some (.tup (ks.map kV))) : (tupleKind (mixKind P w)).is h ks a := by
  obtain ⟨_, its, r, o, h1, h2, n, h3⟩ := (show ObjOk P w H h a (.tup (ks.map kV)) from ok a _ e)
  exact ⟨o, its.toArray, n, h1, h2, h3, by simpa using items_are r⟩
theorem dt_rd {kvs : List (List Key × V)} (ok : HOk P w H h) (e : Rd H a (.dT kvs)) : kvs.length ≤ sizeLine ∧ (a == sysModules) = false ∧
    ∃ xs, KT H kvs xs ∧ h.DictOfH (tupleKind (mixKind P w)) a xs := by
  obtain ⟨z, y, xs, r, o, es, ep, h1, h2, h3, h4, h5⟩ := (show ObjOk P w H h a (.dT kvs) from rd_of ok e)
  refine ⟨z, y, xs, r, o, es, ep, h1, h2, h3, h4, fun x hx => ?_, h5⟩
  have all : ∀ {l : List (List Key × V)} {m : List (List Key × Addr × Value)}, KT H l m → ∀ x ∈ m, (tupleKind (mixKind P w)).is h x.1 x.2.1 := by
    intro l m q
    induction q with
    | nil => intro x hx; exact nomatch hx
    | @cons p q ps qs hq t ih =>
      intro x hx
      rcases List.mem_cons.mp hx with e | hx
      · subst e
        exact key_of ok (by rw [← hq.1]; exact hq.2.1)
      · exact ih x hx
  exact all r x hx
end

/-  what the dict at a holds at the key y -/
def DGet (H : Hp) (a : Addr) (y : V) (r : Option V) : Prop :=
  (∃ kvs k, Rd H a (.dK kvs) ∧ y = kV k ∧ r = valV kvs k) ∨ ∃ kvs k b, Rd H a (.dT kvs) ∧ y = .ref b ∧ H b = some (.tup (k.map kV)) ∧ r = valV kvs k
/-  the heap behind a[y] = v -/
def DPut (H : Hp) (a : Addr) (y v : V) (H' : Hp) : Prop :=
  (∃ kvs k, H a = some (.dK kvs) ∧ y = kV k ∧ kvs.length < sizeLine ∧ H' = upd H a (.dK (putK kvs k v))) ∨
  ∃ kvs k b, H a = some (.dT kvs) ∧ y = .ref b ∧ H b = some (.tup (k.map kV)) ∧ kvs.length < sizeLine ∧ H' = upd H a (.dT (putK kvs k v))
theorem DGet.k {H : Hp} {a : Addr} {kvs : List (Key × V)} {k : Key} (e : H a = some (.dK kvs)) : DGet H a (kV k) (valV kvs k) := .inl ⟨kvs, k, .inl e, rfl, rfl⟩


section
variable {X : Cx} {pins : List (Addr × Obj)} {σ : St} {H : Hp} {s : Shared} {a : Addr} {y v : V} {u r : Value} {o : Option V} {A : Around} {E : Value → Shared → Prop}

theorem Inv.big (I : Inv X pins σ H s) : sysModules < s.heap.objs.size := by
  have h : mainGlobals < s.heap.objs.size := (I.mod.glob.keeps I.bk).lt
  exact Nat.lt_trans (by decide) h

/-  d[y], there -/
theorem d_getItem {Q : Value → Shared → Prop} (hu : A.units + 1 < cLine) (I : Inv X pins σ H s) (g : DGet H a y (some v)) (ry : RelV y u) (h : ∀ w' s', Inv X pins σ H s' → RelV v w' → Q w' s') :
    wpAny (model X.prog X.w) A (getItem (.ref a) u) Q E s := by
  rcases g with ⟨kvs, k, e, ey, l⟩ | ⟨kvs, k, b, e, ey, eb, l⟩
  · subst ey
    obtain ⟨z, hd, vs, rel, dd⟩ := dk_rd I.hok e
    obtain ⟨w', hw, rw'⟩ := RelO.some_of (v := v) (o := valueAt vs k) (by rw [l]; exact rel.val k)
    exact wpAny_getItem_of (kV_is ry) dd.mapOf hw (h w' _ (I.tok _) rw')
  · subst ey
    cases (show u = Value.ref b from ry)
    obtain ⟨z, hd, xs, rel, dd⟩ := dt_rd I.hok e
    obtain ⟨w', hw, rw'⟩ := RelO.some_of (v := v) (o := (atKey xs k).map (·.2)) (by rw [l]; exact rel.val k)
    obtain ⟨p, hp, hp2⟩ := Option.map_eq_some_iff.mp hw
    refine wpAny_getItem_heap (tupleKind_room_in1 hu) (key_of I.hok eb) dd hp ?_
    rw [hp2]
    exact h w' _ (I.tok _) rw'
/-  a dict's object is replaced -/
theorem d_write {h' : Heap} {t' : Nat} {ob : HO} (I : Inv X pins σ H s) (mu : Mut (H a)) (hs : Heap.SameBut a s.heap h') (he : ∃ q, h'.get? a = some q) (new : ObjOk X.prog X.w (upd H a ob) h' a ob) :
    Inv X pins σ (upd H a ob) { s with heap := h', toks := t' } :=
  I.write (x := a) (e := a) mu (.inl rfl) (fun b q hb z => (hs.2 b hb).trans z) he new
theorem dk_new {P : Program} {w : World} {H' : Hp} {h' : Heap} {kvs : List (Key × V)} {vs : List (Key × Value)} (z : kvs.length ≤ sizeLine) (hd : (a == sysModules) = false) (rel : KV kvs vs) (dd : h'.DictOf (mixKind P w) a vs) :
    ObjOk P w H' h' a (.dK kvs) := ⟨z, hd, vs, rel, dd⟩
end

section
variable {X : Cx} {pins : List (Addr × Obj)} {σ : St} {H : Hp} {s : Shared} {a : Addr} {kvs : List (Key × V)} {k : Key} {u : Value} {A : Around} {E : Value → Shared → Prop}
end


/-! ### readings and rules -/
/-  the element of a subscription, not a slice -/
def NoSl (i : Expr) : Prop := ∀ ov iv, subscripted i false ov iv = operate [ov, iv] (getItem ov iv)
theorem subD_of {prog : Program} {w : World} {A : Around} {E : Value → Shared → Prop} {s : Shared} {env : Env} {value slice : Expr} {pos : Pos} {T id : String} {Q : Value → Shared → Prop}
    (hl : typeLookup (.type T) "__getitem__" = pure (some (.builtin id))) (hs : NoSl slice)
    (h : wpAny (model prog w) A (eval value env) (fun o s₁ => wpAny (model prog w) A (eval slice env) (fun i s₂ => s₂.TypeIs o T ∧ wpAny (model prog w) A (getItem o i) Q E s₂) E s₁) E s) :
    wpAny (model prog w) A (eval (.Subscript value slice pos) env) Q E s := by
  refine Subscript_ (wpAny_mono h (fun o s₁ h₁ => wpAny_mono h₁ (fun i s₂ h₂ => ?_) fun _ _ x => x) fun _ _ x => x)
  obtain ⟨hT, h₂⟩ := h₂
  unfold subscriptTail
  refine wpAny_bind ?_
  rw [getitemInPython_of_ne hT.not_modules]
  refine wpAny_bind (wpAny_specialOf hT hl ?_)
  have fin : wpAny (model prog w) A (subscripted slice false o i) (fun r s₃ => wpAny (model prog w) A (letTemporaryGo value o r >>= fun _ => pure r) Q E s₃) E s₂ := by
    rw [hs o i]
    exact wpAny_operating (wpAny_mono h₂ (fun r s₃ h₃ => wpAny_bind (wpAny_letTemporaryGo (wpAny_pure h₃))) fun _ _ x => x)
  first
    | exact wpAny_pure (wpAny_bind fin)
    | exact wpAny_bind (wpAny_pure (wpAny_bind fin))
    | exact wpAny_bind fin

theorem dict_typeIs {X : Cx} {pins : List (Addr × Obj)} {σ : St} {H : Hp} {s : Shared} {a : Addr} {y : V} {o : Option V} (I : Inv X pins σ H s) (g : DGet H a y o) : s.TypeIs (.ref a) "dict" := by
  rcases g with ⟨kvs, k, e, _, _⟩ | ⟨kvs, k, b, e, _, _, _⟩
  · obtain ⟨_, _, vs, _, dd⟩ := dk_rd I.hok e
    exact dd.typeIs
  · obtain ⟨_, _, xs, _, dd⟩ := dt_rd I.hok e
    exact dd.typeIs

/-  d[y] -/
def tDGet (td ty : TE) : TE := fun σ H Q => td σ H fun x H1 => ty σ H1 fun y H2 => ∃ a v, x = .ref a ∧ DGet H2 a y (some v) ∧ Q v H2
/-  y in d, y not in d -/
def tDIn (ty td : TE) : TE := fun σ H Q => ty σ H fun y H1 => td σ H1 fun x H2 => ∃ a o, x = .ref a ∧ DGet H2 a y o ∧ Q (.bl o.isSome) H2
def tDNotIn (ty td : TE) : TE := fun σ H Q => ty σ H fun y H1 => td σ H1 fun x H2 => ∃ a o, x = .ref a ∧ DGet H2 a y o ∧ Q (.bl (!o.isSome)) H2
/-  d[y] = v -/
def sDPut (td ty tv : TE) : TS := fun D σ H => tv σ H fun v H1 => td σ H1 fun x H2 => ty σ H2 fun y H3 => ∃ a H4, x = .ref a ∧ DPut H3 a y v H4 ∧ D.nx σ H4

section
variable {X : Cx} {o i e value : Expr} {pos pos' tpos : Pos} {td ty tv : TE}
theorem pe_dget (hu : X.A.units + 1 < cLine) (ho : PE X o td) (hi : PE X i ty) (hs : NoSl i) : PE X (.Subscript o i pos) (tDGet td ty) := by
  intro pins s σ H Q I h
  refine subD_of PySem.F.slot_dict_getitem.lookup hs (thn (ho pins s σ H _ I h) fun u s1 ⟨x, H1, I1, rx, q1⟩ => thn (hi pins s1 σ H1 _ I1 q1) fun iv s2 ⟨y, H2, I2, ry, a, v, ex, g, q2⟩ => ?_)
  subst ex
  obtain rfl : u = Value.ref a := rx
  exact ⟨dict_typeIs I2 g, d_getItem hu I2 g ry fun w' s3 I3 rw' => ⟨v, H2, I3, rw', q2⟩⟩
end


/-! ### displays -/
theorem dk_empty {P : Program} {w : World} {H : Hp} (h : Heap) (hb : sysModules < h.objs.size) : ObjOk P w H (h.push { cls := .type "dict", data := .dict #[] }) h.objs.size (.dK []) :=
  ⟨Nat.zero_le _, beq_eq_false_iff_ne.mpr (Ne.symm (Nat.ne_of_lt hb)), [], .nil, Heap.DictOf.new h⟩
/-  {}, to be a dict of the kind that is wanted -/
def tDNewK : TE := fun _ H Q => ∀ p, H p = none → Q (.ref p) (upd H p (.dK []))
section
variable {X : Cx} {pos : Pos}
end

/-  the pairs of a display, from the left -/
def tPairs : List (TE × TE) → St → Hp → (List (V × V) → Hp → Prop) → Prop
  | [], _, H, Q => Q [] H
  | (tk, tv) :: r, σ, H, Q => tk σ H fun x H1 => tv σ H1 fun y H2 => tPairs r σ H2 fun ps H3 => Q ((x, y) :: ps) H3
abbrev VV : List (V × V) → List (Value × Value) → Prop := Paired fun p q => RelV p.1 q.1 ∧ RelV p.2 q.2
def PPs (X : Cx) (pos : Pos) (keys : List (Option Expr)) (values : List Expr) (trs : List (TE × TE)) : Prop :=
  ∀ (pins : List (Addr × Obj)) (s : Shared) (σ : St) (H : Hp) (Q : List (V × V) → Hp → Prop), Inv X pins σ H s → tPairs trs σ H Q →
    wpAny (model X.prog X.w) X.A (evalPairs (pairTrees keys values X.env pos)) (fun vs s' => ∃ ps H', Inv X pins σ H' s' ∧ VV ps vs ∧ Q ps H') X.xe s
theorem pps_nil {X : Cx} {pos : Pos} : PPs X pos [] [] [] := fun pins s σ H Q I h => pairTrees_nil_walk ⟨[], H, I, .nil, h⟩
theorem pps_cons {X : Cx} {pos : Pos} {k v : Expr} {ks : List (Option Expr)} {vs : List Expr} {tk tv : TE} {trs : List (TE × TE)} (hk : PE X k tk) (hv : PE X v tv) (hr : PPs X pos ks vs trs) :
    PPs X pos (some k :: ks) (v :: vs) ((tk, tv) :: trs) := fun pins s σ H Q I h =>
  pairTrees_cons_walk (thn (hk pins s σ H _ I h) fun u s1 ⟨x, H1, I1, rx, q1⟩ => thn (hv pins s1 σ H1 _ I1 q1) fun w2 s2 ⟨y, H2, I2, ry, q2⟩ =>
    thn (hr pins s2 σ H2 _ I2 q2) fun ws s3 ⟨ps, H3, I3, rel, q3⟩ => ⟨(x, y) :: ps, H3, I3, .cons ⟨rx, ry⟩ rel, q3⟩)

def mergeK (kvs more : List (Key × V)) : List (Key × V) := more.foldl (fun acc kv => putK acc kv.1 kv.2) kvs
theorem KV.merge : ∀ {more : List (Key × V)} {rs : List (Key × Value)} {kvs : List (Key × V)} {vs : List (Key × Value)}, KV more rs → KV kvs vs → KV (mergeK kvs more) (merged vs rs) := by
  intro more rs kvs vs r
  unfold KV at r
  induction r generalizing kvs vs with
  | nil => intro q; exact q
  | @cons p q ps qs h t ih =>
    intro r0
    have e : KV (putK kvs p.1 p.2) (stored vs q.1 q.2) := by
      have := r0.put p.1 h.2
      rw [← h.1]; exact this
    exact ih e
theorem length_mergeK : ∀ (more kvs : List (Key × V)), (mergeK kvs more).length ≤ kvs.length + more.length
  | [], kvs => by show kvs.length ≤ kvs.length + 0; omega
  | p :: r, kvs => by
    have h1 := length_mergeK r (putK kvs p.1 p.2)
    have h2 := length_putK kvs p.1 p.2
    show (mergeK (putK kvs p.1 p.2) r).length ≤ _
    rw [List.length_cons]; omega
theorem carries_of {P : Program} {w : World} : ∀ {kvs : List (Key × V)} {ws : List (Value × Value)}, VV (kvs.map fun kv => (kV kv.1, kv.2)) ws → ∃ rs, Carries (mixKind P w) ws rs ∧ KV kvs rs
  | [], _, r => by rw [List.map_nil] at r; cases r; exact ⟨[], True.intro, .nil⟩
  | p :: kvs, _, r => by
    rw [List.map_cons] at r
    cases r with
    | @cons a b as bs h t =>
      obtain ⟨rs, c, q⟩ := carries_of (P := P) (w := w) t
      obtain ⟨b1, b2⟩ := b
      exact ⟨(p.1, b2) :: rs, ⟨kV_is h.1, rfl, c⟩, .cons ⟨rfl, h.2⟩ q⟩
/-  {k: v, ..} with keys ints and texts; the new dict stands empty while the pairs are made -/
def tDisp (trs : List (TE × TE)) : TE := fun σ H Q => ∀ p, H p = none → tPairs trs σ (upd H p (.dK [])) fun ps H2 => H2 p = some (.dK []) ∧ ∃ kvs : List (Key × V), ps = kvs.map (fun kv => (kV kv.1, kv.2)) ∧ kvs.length ≤ 15 ∧ Q (.ref p) (upd H2 p (.dK (mergeK [] kvs)))
theorem pe_disp {X : Cx} {pos : Pos} {keys : List (Option Expr)} {values : List Expr} {trs : List (TE × TE)} (h : PPs X pos keys values trs) (hall : keys.all (·.isSome) = true) (hl : keys.length = values.length) (h0 : keys ≠ [])
    (h15 : keys.length ≤ 15) : PE X (.Dict keys values pos) (tDisp trs) := by
  intro pins s σ H Q I q
  have hn := I.hok.fresh (Nat.le_refl s.heap.objs.size)
  have I1 := I.laid (a := s.heap.objs.size) (o := .dK []) (h' := s.heap.push { cls := .type "dict", data := .dict #[] }) (t' := s.toks) (fun _ _ q => Heap.get?_push_of_some _ q) (Nat.le_refl _) (dk_empty s.heap I.big)
  refine wpAny_Dict_walk (knd := mixKind X.prog X.w) hall hl h0 h15 (thn (h pins _ σ _ _ I1 (q _ hn)) fun ws s2 ⟨ps, H2, I2, rel, e, kvs, ep, lk, q2⟩ => ?_)
  subst ep
  obtain ⟨rs, c, rk⟩ := carries_of (P := X.prog) (w := X.w) rel
  obtain ⟨z, hd, vs0, r0, dd⟩ := dk_of I2.hok e
  cases r0
  refine ⟨rs, c, dd, fun h' dd' hs => ⟨.ref s.heap.objs.size, _, ?_, rfl, q2⟩⟩
  have hz : (mergeK [] kvs).length ≤ sizeLine := by
    have h1 := length_mergeK kvs []
    rw [List.length_nil] at h1
    rw [sizeLine_eq]; omega
  have he : ∃ q, h'.get? s.heap.objs.size = some q := let ⟨q, _, _, hq, _⟩ := dd'; ⟨q, hq⟩
  exact d_write I2 (by rw [e]; exact True.intro) hs he (dk_new hz hd (rk.merge .nil) dd')


/-! ### methods -/
/-  a method call o.m(e) of a built-in, with one argument: what must be seen of the text -/
structure M1 (X : Cx) (o : Expr) (m : Str) (apos : Pos) (e : Expr) (cpos : Pos) : Prop where
  base : attributeBase o m X.env (eval o X.env) = eval o X.env
  few : ((backTo cpos (starEach [e] X.env)).all (fun x => !x.1) && (backToKw cpos (keywordEach [] X.env)).all (fun x => x.1.isSome)
    && decide (([e] : List Expr).length + ([] : List Keyword).length + (if ([] : List Keyword).isEmpty then 0 else 1) < 30)) = true
  line : (apos.endLine == cpos.line) = true
  trees : backTo cpos (starEach [e] X.env) = [(false, eval e X.env)]
structure M2 (X : Cx) (o : Expr) (m : Str) (apos : Pos) (e f : Expr) (cpos : Pos) : Prop where
  base : attributeBase o m X.env (eval o X.env) = eval o X.env
  few : ((backTo cpos (starEach [e, f] X.env)).all (fun x => !x.1) && (backToKw cpos (keywordEach [] X.env)).all (fun x => x.1.isSome)
    && decide (([e, f] : List Expr).length + ([] : List Keyword).length + (if ([] : List Keyword).isEmpty then 0 else 1) < 30)) = true
  line : (apos.endLine == cpos.line) = true
  trees : backTo cpos (starEach [e, f] X.env) = [(false, eval e X.env), (false, eval f X.env)]


section
variable {X : Cx} {pins : List (Addr × Obj)} {σ : St} {H : Hp} {s : Shared} {a : Addr} {y d : V} {u r : Value} {o : Option V} {A : Around} {E : Value → Shared → Prop}
end

section
variable {X : Cx} {o e f : Expr} {apos cpos : Pos} {td ty tx : TE}
end

/-! ### dict(d): a copy -/
section
variable {X : Cx} {pins : List (Addr × Obj)} {σ : St} {H : Hp} {s : Shared} {a : Addr} {kvs : List (Key × V)} {A : Around} {E : Value → Shared → Prop}
end


section
variable {X : Cx} {pins : List (Addr × Obj)} {σ : St} {H : Hp} {s : Shared} {a : Addr} {y : V} {u : Value} {A : Around} {E : Value → Shared → Prop}
end
end L2

namespace Att
open PySem PySem.W PySem.Calls PyProof.Rows

/-! ### the script -/
theorem ints_of_wellAll {P : Params} {h : Heap} : ∀ (ns : List Int) (vs : List Value), WellAll P h vs (ns.map WData.int) → IntsAre vs ns := by
  intro ns
  induction ns with
  | nil =>
    intro vs w
    rw [List.map_nil] at w
    cases w
    exact .nil
  | cons n ns ih =>
    intro vs w
    rw [List.map_cons] at w
    cases w with
    | cons a b =>
      cases a
      exact .cons _ _ (ih _ b)

theorem script_of {l : OpenLaw} {n : Nat} (hn : l.most = some n) {P : Params} {h : Heap} {args : List WData} {vals : List Value}
    (hpre : l.row.toRowW.claim.pre args = true) (hwl : WellAll P h vals args) :
    ∃ a vs ns, vals = [Value.ref a] ∧ args = [WData.list (ns.map WData.int)] ∧ h.get? a = some { cls := .type "list", data := .seq vs.toArray } ∧ IntsAre vs ns ∧ ns.length ≤ n := by
  have hsh : WShape.hasAll [] args [.list .int] = true := (pre_splitW hpre).1
  have hc : l.pre.holds [] { args := args } = true := (pre_splitW hpre).2
  obtain ⟨d, r, rfl, h1, h2⟩ := hasAllW_cons hsh
  obtain rfl := hasAllW_nil h2
  obtain ⟨xs, rfl, h3⟩ := hasW_list h1
  obtain ⟨ns, rfl⟩ := items_int h3
  have hlen : ns.length ≤ n := by
    unfold OpenLaw.pre at hc
    have h4 : (WTm.not (.lt (.lit (.int (n : Int))) (.len (.arg 0)))).holds [] { args := [.list (ns.map .int)] } = true := by
      have h4 := (holds_andW hc).1
      rw [hn] at h4
      exact h4
    have h5 := condW_of h4 (w_not (w_lt w_lit (w_len_list (w_arg rfl))))
    rw [List.length_map] at h5
    refine Nat.le_of_not_lt fun q => ?_
    have q' : (n : Int) < ((ns.length : Nat) : Int) := by omega
    first
      | (rw [decide_eq_true q'] at h5; exact absurd h5 (by decide))
      | (simp at h5; omega)
  cases hwl with
  | cons w1 w2 =>
    cases w2
    cases w1 with
    | list ho hall => exact ⟨_, _, ns, rfl, rfl, ho, ints_of_wellAll ns _ hall, hlen⟩

theorem post_true (l : OpenLaw) (args : List WData) : l.row.toRowW.claim.post args (.bool true) args = true :=
  postW_of (r := l.row.toRowW) (X := (true == true))
    (show WShape.has [] (.bool true) .bool = true by first | rfl | decide | simp [WShape.has, WShape.arms, WShape.armsAll])
    (show (WTm.eq .res (.lit (.bool true))).value [] { args := args, res := some (.bool true), after := args } = some (.bool (true == true)) from w_eq_bool (w_res rfl) w_lit) rfl

/-! ### the attachment: holds_open's last premise (the goal 'hc' behind k_head) from a wpAny of the law's body -/

/-  the same from a codeAny of the CALL (for a layer whose function contracts speak of calls) -/
theorem attach_call {l : OpenLaw} {n : Nat} {q : Program} {loose : List Str} {XP : (Str → Option Value) → Heap → Prop} {YP : World → Heap → Prop} {d : DefRec}
    (hn : l.most = some n) (hdf : d.params.defaults = [])
    (call : ∀ (w : World) (s₀ s₁ : Shared) (mg mb : Str → Option Value) (fa : Addr) (o : Obj) (pm cd doc : Value) (a : Addr) (vs : List Value) (ns : List Int),
      Ground q loose [] XP w s₀ mg mb s₁.heap → YP w s₁.heap →
      s₁.heap.get? fa = some o → o.data = .func (docDef d.name d.params d.body d.scope pm cd doc) → s₁.heap.CodeRec cd d.name → mg d.name = some (.ref fa) →
      s₁.heap.get? a = some { cls := .type "list", data := .seq vs.toArray } → IntsAre vs ns → ns.length ≤ n → s₁.gens = #[] →
      codeAny (model l.prog w) callerA (.call (.ref fa) ⟨[.ref a], []⟩) (fun r s' => r = .ok (.ret (.bool true)) ∧ OldK s₁.heap s'.heap ∧ s'.os = s₁.os ∧ AllBare s'.gens) s₁) :
    WalkO q loose XP YP l.row.toRowW d [] (fun f vs => PySem.call f vs) := by
  intro w s₀ s₁ mg mb G Y fa o pm cd doc dV kV ho hd hcd hD hmg hg args vals as hpre hlay hrd hwl hlo
  obtain rfl : dV = .none := Dflts.none hD hdf
  obtain rfl : kV = .none := Dflts.noKw hD
  obtain ⟨a, vs, ns, rfl, rfl, hobj, hints, hlen⟩ := script_of hn hpre hwl
  refine enter_call (codeAny_mono (call w s₀ s₁ mg mb fa o pm cd doc a vs ns G Y ho (fd_plain hd) hcd hmg hobj hints hlen hg) fun r s' hq => ?_)
  obtain ⟨rfl, h2, h3, h4⟩ := hq
  exact ⟨.inl ⟨.bool true, .bool true, [], rfl, fun _ => rfl, .bool true, post_true l _, fun _ => ⟨List.Pairwise.nil, fun _ hm => (nomatch hm)⟩⟩, h2, h3, h4⟩


/-! ### rules over ANY heap (no ledger) from facts about the written part K: the library's own take a ledger (News) for what they write -/
section
variable {prog : Program} {w : World} {A : Around} {E : Value → Shared → Prop} {s : Shared} {K : Frag}


/-  C(..): dict at size, instance at size + 1, then __init__ -/
theorem make_obj {R : Result → Shared → Prop} {C fI : Addr} {rest : List Value} {kw : List (Str × Value)}
    (X : K.In s.heap) (hm : makesIn K C = true) (hi : findIn K (.ref C) "__init__" = some (some (.ref fI))) (hf : isFn K (.ref fI) = true)
    (h : codeAny (model prog w) (A.under (.builtin "type.__call__" ⟨.ref C :: rest, kw⟩)) (.call (.ref fI) ⟨.ref (s.heap.objs.size + 1) :: rest, kw⟩) (InitBack (s.heap.objs.size + 1) R)
      { s with heap := (s.heap.push emptyDict).push (instObj C s.heap.objs.size) }) : codeAny (model prog w) A (.call (.ref C) ⟨rest, kw⟩) R s := by
  obtain ⟨hh, g, d, t, os⟩ := s
  exact make_core (makes_of X hm) (looks_findIn X hi) (fun self => bind_fn X self (beq_iff_eq.mp hf)) (.inl rfl) h

/-  x.name where the instance's dict holds the name and the class does not -/
theorem get_field {x C : Addr} {ox : Obj} {es : List DictEntry} {n : Nat} {name : Str} {expr : Bool} {v : Value} {Q : Value → Shared → Prop}
    (X : K.In s.heap) (I : PySem.W.InstAt s.heap x ox C (some (dictOf es n))) (hg : plainGet K C name = true) (hh : hasDictIn K C = true) (ha : findIn K (.ref C) name = some none)
    (hl : getL name es = some (some v)) (hv : handedIn v = true) (h : Q v { s with toks := s.toks + 1 }) : wpAny (model prog w) A (getAttr (.ref x) name expr) Q E s :=
  get_value X I (plainGet_of hg).1 (findObj_own hh ha rfl hl) hv h


/-! the whole heap as the ledger: makes every rule that writes through a ledger a rule over any heap -/

end
end Att

namespace L2
open PySem PySem.Spec PyProof.Rows

theorem vals_ints : ∀ {vs : List Value} {ns : List Int}, IntsAre vs ns → Vals (ns.map V.int) vs
  | _, _, .nil => .nil
  | _, _, .cons n t h => .cons ⟨t, rfl⟩ (vals_ints h)

/-  nothing is tracked but the script, known to the object (or it is an object of the module) -/
def Only (H : Hp) : Prop := ∀ b, H b = none ∨ ∃ o xs, H b = some (.frz o (.lst xs))

/-  THE HEAD: the law's promise, at the heap behind the top. F, the promise of the law's def, may use that base is part of the heap (so K.In base, base.Ns mainGlobals mg stand in Mod) -/
theorem law_call {P : Program} {w : World} {K : PySem.W.Frag} {mg mb : Str → Option Value} {CX : CXT} {k : Nat} {fa a : Addr} {fd : FuncData} {x : Str} {sp : Sp} {s₁ : Shared} {vs : List Value} {ns : List Int}
    (KX : K.In s₁.heap) (hns : s₁.heap.Ns mainGlobals mg) (hb : s₁.heap.Ns builtinsNs mb) (hbb : ∀ x : Str, x ≠ "__name__" → mb x = bootBuiltins x) (hlim : s₁.heap.NoLimit) (hg : s₁.gens = #[])
    (ha : s₁.heap.get? a = some { cls := .type "list", data := .seq vs.toArray }) (hi : IntsAre vs ns) (hl : ns.length ≤ sizeLine) (hr : Room k callerA)
    (F : ∀ base : Heap, K.In base → base.Ns mainGlobals mg → FnOk P w K mg base CX k fa fd [x] sp) (hbind : ∀ (s : Shared) (u : Value), BindsTo s fd ⟨[u], []⟩ [(x, u)])
    (hsp : ∀ H : Hp, Only H → SqL K H a (ns.map V.int) → sp [.ref a] H (fun v _ => v = .bl true) fun _ _ _ => False)
    (hCX : ∀ H e s', CX [] H s₁ (fun _ _ _ => False) e s' → False) :
    codeAny (model P w) callerA (.call (.ref fa) ⟨[.ref a], []⟩) (fun r s' => r = .ok (.ret (.bool true)) ∧ OldK s₁.heap s'.heap ∧ s'.os = s₁.os ∧ AllBare s'.gens) s₁ := by
  have rv := vals_ints hi
  have lenV := hi.length
  -- from an abstract heap in which nothing but the script may be tracked
  have core : ∀ H : Hp, Only H → SqL K H a (ns.map V.int) → HOk P w H s₁.heap → (∀ b, H b ≠ none → b = a) → (H a ≠ none → K.lookup a = none) →
      codeAny (model P w) callerA (.call (.ref fa) ⟨[.ref a], []⟩) (fun r s' => r = .ok (.ret (.bool true)) ∧ OldK s₁.heap s'.heap ∧ s'.os = s₁.os ∧ AllBare s'.gens) s₁ := by
    intro H hO hS hok hA hK
    have base_of : ∀ {b : Addr} {o : Obj}, s₁.heap.get? b = some o → H b = none → (hidT s₁.heap H).get? b = some o := fun e n => hidT_get e n
    have noA : ∀ {b : Addr} {o : Obj} {es : Array DictEntry} {ep : Nat}, s₁.heap.get? b = some o → o.data = .dict es ep → H b = none := fun {b o es ep} e d => by
      cases q : H b with
      | none => rfl
      | some u =>
        have e' : b = a := hA b (by rw [q]; simp)
        subst e'
        rw [ha] at e; cases e
        have d' : Data.seq vs.toArray _ = Data.dict es ep := d
        cases d'
    have nsK : ∀ {b : Addr} {m : Str → Option Value}, s₁.heap.Ns b m → (hidT s₁.heap H).Ns b m := fun {b m} ⟨o, es, ep, e, d, r⟩ => ⟨o, es, ep, base_of e (noA e d), d, r⟩
    have hKb : K.In (hidT s₁.heap H) := fun b o e => base_of (KX b o e) (by
      cases q : H b with
      | none => rfl
      | some u =>
        have e' : b = a := hA b (by rw [q]; simp)
        subst e'
        rw [hK (by rw [q]; simp)] at e; cases e)
    have hM : Mod K mg (hidT s₁.heap H) := ⟨hKb, nsK hns, ⟨mb, nsK hb, hbb⟩, let ⟨mc, h1, h2⟩ := hlim; ⟨mc, nsK h1, h2⟩⟩
    have e0 : Env0 P w K mg (hidT s₁.heap H) callerA [] s₁ H := ⟨rfl, hM, fun b o e => of_hidT e, Nat.le_of_eq (hidT_size _ _), trivial, fun b hb => absurd (show b ∈ ([] : List Addr) from hb) (by simp), hok, .of_eq hg⟩
    refine codeAny_mono ((F _ hKb (nsK hns)).run callerA [] s₁ H ⟨[.ref a], []⟩ [.ref a] [.ref a] _ _ hr e0 (hbind s₁ (.ref a)) (.cons rfl .nil) (hsp H hO hS)) fun r s' h => ?_
    cases r with
    | error e => exact (hCX H e s' h).elim
    | ok fl =>
      cases fl with
      | next => exact False.elim h
      | brk => exact False.elim h
      | cont => exact False.elim h
      | ret u =>
        obtain ⟨v, H', os, bare, un, hok', r', q⟩ := h
        have q' : v = .bl true := q
        subst q'
        obtain rfl : u = Value.bool true := r'
        refine ⟨rfl, OldK.of_keep fun b o e => ?_, os, bare⟩
        cases q : H b with
        | none => exact un.keep b o e q (by intro z; exact absurd (show b ∈ ([] : List Addr) from z) (by simp)) (by simp)
        | some u =>
          rcases hO b with z | ⟨ob, xs, z⟩
          · rw [q] at z; cases z
          · have z2 := un.frzs b ob _ z
            obtain ⟨e1, _⟩ := hok b _ z
            obtain ⟨e2, _⟩ := hok' b _ z2
            rw [e] at e1; cases e1
            exact e2
  cases hk : K.lookup a with
  | some o =>
    -- the script is one of the module's own objects
    have e := KX a o hk
    rw [ha] at e
    cases e
    refine core (fun _ => none) (fun _ => .inl rfl) (.inr ⟨_, vs.toArray, _, hk, rfl, rfl, rfl, by rw [List.size_toArray, lenV]; exact hl, by simpa using rv⟩) (fun b u z => by have z' : (none : Option HO) = some u := z; cases z') (fun b z => absurd rfl z) fun z => absurd rfl z
  | none =>
    refine core (fun b => if b = a then some (.frz { cls := .type "list", data := .seq vs.toArray } (.lst (ns.map V.int))) else none) (fun b => ?_) (.inl (.inr ⟨{ cls := .type "list", data := .seq vs.toArray }, if_pos rfl⟩)) (fun b u z => ?_) (fun b z => ?_) fun _ => hk
    · by_cases hb : b = a
      · exact .inr ⟨_, _, if_pos hb⟩
      · exact .inl (if_neg hb)
    · by_cases hb : b = a
      · have z' := (if_pos hb).symm.trans z
        cases z'
        subst hb
        exact ⟨ha, by rw [List.length_map]; exact hl, vs, _, rv, ha⟩
      · have z' := (if_neg hb).symm.trans z
        cases z'
    · by_cases hb : b = a
      · exact hb
      · exact absurd (if_neg hb) z
end L2

namespace L2
open PySem PySem.Spec PyProof.Rows

abbrev KOf {K : PySem.W.Frag} {h : Heap} (_ : K.In h) : PySem.W.Frag := K

/-  the goal that k_head leaves (case hc), from the law's promise. F gives the function object fd (K's own) once, then the promise over every base -/
theorem walk_of {l : PySem.W.OpenLaw} {n k : Nat} {q : Program} {loose : List Str} {XP : (Str → Option Value) → Heap → Prop} {YP : World → Heap → Prop} {d : DefRec} {K : Params → PySem.W.Frag} {CX : World → CXT} {sp : World → Sp} {x : Str}
    (hn : l.most = some n) (hn2 : n ≤ sizeLine) (hdf : d.params.defaults = []) (hr : Room k callerA)
    (hY : ∀ (w : World) (h : Heap), YP w h → (K w.params).In h)
    (F : ∀ (w : World) (mg : Str → Option Value) (fa : Addr) (h : Heap), (K w.params).In h → h.Ns mainGlobals mg → mg d.name = some (.ref fa) →
      ∃ fd : FuncData, (∀ (s : Shared) (u : Value), BindsTo s fd ⟨[u], []⟩ [(x, u)]) ∧
        ∀ base : Heap, (K w.params).In base → base.Ns mainGlobals mg → FnOk l.prog w (K w.params) mg base (CX w) k fa fd [x] (sp w))
    (hsp : ∀ (w : World) (H : Hp) (a : Addr) (ns : List Int), ns.length ≤ n → Only H → SqL (K w.params) H a (ns.map V.int) → sp w [.ref a] H (fun v _ => v = .bl true) fun _ _ _ => False)
    (hCX : ∀ (w : World) (H : Hp) (s : Shared) (e : Value) (s' : Shared), CX w [] H s (fun _ _ _ => False) e s' → False) :
    PySem.W.WalkO q loose XP YP l.row.toRowW d [] (fun f vs => PySem.call f vs) := by
  refine Att.attach_call hn hdf fun w s₀ s₁ mg mb fa o pm cd doc a vs ns G Y ho hd hcd hmg hobj hints hlen hg => ?_
  have KX := hY w _ Y
  obtain ⟨fd, hb, hF⟩ := F w mg fa _ KX G.T.g hmg
  exact law_call KX G.T.g G.T.b G.T.builtins G.T.nolimit hg hobj hints (Nat.le_trans hlen hn2) hr hF hb (fun H hO hS => hsp w H a ns hlen hO hS) fun H e s' => hCX w H s₁ e s'
end L2

/- THE LAST THEOREM (shape; LID, My.* are yours):
   My.Adr: a structure of the addresses that your layer names (classes, functions); My.Txt K t: a structure (Prop) of the equations over K;
   My.txt_mk : {K} {implicit addresses ..} (e1 : nsIn K mainGlobals "law" = some (some (.ref f))) (e2 : K.lookup f = some ⟨oc, od, .func (fnOf "law" "law" params body scope dV kV doc pm an cdv ct), sl⟩) (e3 : codeIn K cdv "law" = true) .. : ∃ t, My.Txt K t

set_option maxRecDepth 100000 in
set_option maxHeartbeats 0 in
theorem PySem.Challenge.cw_LID_holds : PySem.Challenge.rw_LID.Holds := by
  w_on; o_law; k_head; (case hw => w_witness2)
  k_fill
  refine L2.walk_of (l := PySem.Challenge.rw_LID) (n := 63) (k := 40) (x := "script") (CX := fun w => ..) (sp := fun _ => My.sp_law) rfl (by decide) rfl ⟨rfl, by decide, by decide⟩ (fun w h Y => PySem.W.kIn_of Y) ?F ?S ?C
  case F =>
    intro w mg fa h KX G hmg
    have T : ∃ t, My.Txt (L2.KOf KX) t := by
      dsimp only [L2.KOf]                          -- K must stand as «<heap const> w.params» for k_is
      refine' My.txt_mk ?e1 ?e2 ?e3 ..
      (case e1 => PySem.W.k_is)                    -- in the order: a name -> its address -> its object -> its parts
      (case e2 => PySem.W.k_is)
      ..
    obtain ⟨t, T⟩ := T
    have e0 := hmg.symm.trans (PySem.W.mg_of KX G T.law)
    cases e0                                       -- fa is the law's own address
    exact ⟨_, fun s u => .of_eq rfl, fun base kb nb => My.law_fn T kb nb⟩     -- if «.of_eq rfl» comes too early: refine' ⟨_, ?b, fun base kb nb => My.law_fn T kb nb⟩; exact fun s u => .of_eq rfl
  case S => exact fun w H a ns hl hO hS => ..
  case C => exact ..
(the tactic k_is has no namespace: write k_is) -/

/-! SHORT WORDS over the layer: a def of the text, its body, what a loop and a test want. -/
namespace L2
open PySem PySem.Spec PyProof.Rows

/-! ### the text by places -/
def defArgs (s : Stmt) : Arguments := match s with
  | .FunctionDef _ a _ _ _ _ _ _ _ _ => a
  | _ => { posonlyargs := [], args := [], vararg := none, kwonlyargs := [], kw_defaults := [], kwarg := none, defaults := [] }
def defBody (s : Stmt) : List Stmt := match s with
  | .FunctionDef _ _ b _ _ _ _ _ _ _ => b
  | _ => []
def defScope (s : Stmt) : Scope := match s with
  | .FunctionDef _ _ _ _ _ _ sc _ _ _ => sc
  | _ => { kind := .function, names := [], isGenerator := false, isCoroutine := false }

/-! ### no exception leaves a def -/
abbrev CX0 : CXT := fun _ _ _ _ _ _ => False
abbrev E0 : XK := fun _ _ _ => False
theorem pass0 {X : Cx} : Passes CX0 X E0 := fun _ _ _ _ _ _ _ h => h.elim

/-! ### a def (or method) of the text as it stands behind the top -/
structure Fun (K : PySem.W.Frag) (x qual : Str) (st : Stmt) (f : Addr) (fd : FuncData) : Prop where
  ex : ∃ (oc : Value) (od : Option Addr) (kV doc pm : Value) (an : Option Addr) (cdv ct : Value) (osl : Array (Option Value)),
    fd = PySem.W.fnOf x qual (defArgs st) (defBody st) (defScope st) .none kV doc pm an cdv ct ∧ K.lookup f = some ⟨oc, od, .func fd, osl⟩ ∧ PySem.W.codeIn K cdv qual = true
  kp : PySem.W.keepIn K (.ref f) = true
section
variable {P : Program} {w : World} {K : PySem.W.Frag} {mg : Str → Option Value} {base : Heap}
/-  THE RULE for a def: its body as a term of rules, and the reading of that term -/
theorem Fun.ok {x qual : Str} {st : Stmt} {f : Addr} {fd : FuncData} {N ps : List Str} {k : Nat} {sp : Sp} (F : Fun K x qual st f fd) (S : FnScope N ps (defScope st)) (len : ∀ vs H Q E, sp vs H Q E → vs.length = ps.length)
    (hbody : ∀ (cdv : Value) (A : Around) (outer : List Env) (s : Shared) (H : Hp) (vs : List V) (Q : VK) (E : XK), Room k (A.deeper (envOfC qual (defScope st) s.heap.objs.size f cdv)) → sp vs H Q E →
      ∃ t, PSs (cxOf CX0 P w K mg base N qual (defScope st) f cdv A outer s H E).nox (defBody st) t ∧ t { nx := fun _ H' => Q .non H', rt := Q } (start N vs) H) : FnOk P w K mg base CX0 (k + 1) f fd ps sp := by
  obtain ⟨oc, od, kV, doc, pm, an, cdv, ct, osl, rfl, lk, hcd⟩ := F.ex
  refine fn_of lk hcd S len fun A outer s H vs Q E hr hsp => ?_
  obtain ⟨t, h, q⟩ := hbody cdv A outer s H vs Q E hr hsp
  exact ⟨t, h.nox, q⟩
/-  how its arguments bind (no defaults): h is «fun _ _ _ _ _ _ us hl => match us, hl with | [_, _], _ => rfl», one _ a parameter -/
theorem Fun.binds {x qual : Str} {st : Stmt} {f : Addr} {fd : FuncData} {ps : List Str} (F : Fun K x qual st f fd)
    (h : ∀ (kV doc pm : Value) (an : Option Addr) (cdv ct : Value) (us : List Value), us.length = ps.length → bindArgs (PySem.W.fnOf x qual (defArgs st) (defBody st) (defScope st) .none kV doc pm an cdv ct) ⟨us, []⟩ = pure (ps.zip us)) : Binds K fd ps [] := by
  obtain ⟨oc, od, kV, doc, pm, an, cdv, ct, osl, rfl, lk, hcd⟩ := F.ex
  exact .all (h kV doc pm an cdv ct)
theorem fun_mk {x qual : Str} {st : Stmt} {f : Addr} {oc : Value} {od an : Option Addr} {osl : Array (Option Value)} {kV doc pm cdv ct : Value} (l : K.lookup f = some ⟨oc, od, .func (PySem.W.fnOf x qual (defArgs st) (defBody st) (defScope st) .none kV doc pm an cdv ct), osl⟩)
    (c : PySem.W.codeIn K cdv qual = true) (k : PySem.W.keepIn K (.ref f) = true) : Fun K x qual st f (PySem.W.fnOf x qual (defArgs st) (defBody st) (defScope st) .none kV doc pm an cdv ct) := ⟨⟨oc, od, kV, doc, pm, an, cdv, ct, osl, rfl, l, c⟩, k⟩
end
theorem hu_of {A : Around} {k : Nat} (hr : Room k A) : A.units + 1 < cLine := Nat.lt_of_le_of_lt (Nat.add_le_add_left (by decide : 1 ≤ 64) _) hr.units

/-! ### expressions in short: the name that stands in the i-th slot -/
section
variable {X : Cx}
end

/-! ### tests -/

/-! ### heaps -/
/-  all that was tracked is as it was -/
def Same (H H' : Hp) : Prop := ∀ b o, H b = some o → H' b = some o
theorem Same.refl (H : Hp) : Same H H := fun _ _ h => h
theorem Same.trans {H H1 H2 : Hp} (a : Same H H1) (b : Same H1 H2) : Same H H2 := fun c o h => b c o (a c o h)
theorem Same.seq {K : PySem.W.Frag} {H H' : Hp} {a : Addr} {xs : List V} (e : Same H H') (h : SqL K H a xs) : SqL K H' a xs := by
  rcases h with (h | ⟨o, h⟩) | h
  · exact .inl (.inl (e _ _ h))
  · exact .inl (.inr ⟨o, e _ _ h⟩)
  · exact .inr h

end L2

namespace L2
open PySem PySem.Spec PyProof.Rows
section
variable {X : Cx}
end
/-! ### a dict's pairs: keys that differ -/
section
variable {κ : Type} [DecidableEq κ]
end
end L2
set_option maxHeartbeats 4000000
namespace L2
open PySem PySem.Spec PyProof.Rows

/-! ### list comprehensions -/
/-  the tests behind a comprehension's for -/
abbrev runIfs (ifs : List Expr) (env : Env) : Sem Bool :=
  forIn ifs true fun c r => if r = true then do let ok ← isTrue c env (eval c env); pure (ForInStep.yield ok) else pure (ForInStep.yield r)

theorem comp_loop {prog : Program} {w : World} {A : Around} {R : Result → Shared → Prop} {s : Shared} {elt tg iter : Expr} {ifs : List Expr} {scope : Scope} {pos : Pos} {it acc : Value} {env : Env} (I : Nat → Shared → Prop)
    (turn : ∀ n s, I n s → wpAny (model prog w) A (pyNext it) (fun r s1 => match r with
      | none => R (.ok .next) s1
      | some v => wpAny (model prog w) A (letOwnedTupleGo tg it v) (fun _ s2 => wpAny (model prog w) A (assign tg env v) (fun _ s3 => wpAny (model prog w) A (runIfs ifs env) (fun ok s4 =>
          if ok = true then wpAny (model prog w) A (eval elt env) (fun x s5 => wpAny (model prog w) A (call (.builtin "list.append") [acc, x]) (fun _ s6 => ∃ m, m < n ∧ I m s6) (fun _ _ => False) s5) (fun _ _ => False) s4
          else ∃ m, m < n ∧ I m s4) (fun _ _ => False) s3) (fun _ _ => False) s2) (fun _ _ => False) s1) (fun _ _ => False) s)
    (n : Nat) (h : I n s) : codeAny (model prog w) A (.compLoop (.ListComp elt [⟨tg, iter, ifs, 0⟩] scope pos) 0 it acc env) R s := by
  refine codeAny_loop rfl I (fun n s hI => ?_) n h
  show wpAny _ A ((compTurn (.ListComp elt [⟨tg, iter, ifs, 0⟩] scope pos) 0 it acc env).onRaise (fun x => do noteFrame x env; theTreesLotGoes x)) _ _ s
  refine wpAny_noted (wpAny_noRaise ?_)
  rw [compTurn_list]
  refine wpAny_bind (wpAny_standAt (wpAny_bind (thn (turn n s hI) fun r s1 h1 => ?_)))
  cases r with
  | none => exact wpAny_pure h1
  | some v =>
    refine wpAny_bind (thn h1 fun _ s2 h2 => wpAny_bind (thn h2 fun _ s3 h3 => wpAny_bind (thn h3 fun ok s4 h4 => ?_)))
    cases ok with
    | false => exact wpAny_pure ⟨rfl, h4⟩
    | true => exact wpAny_bind (wpAny_bind (thn h4 fun x s5 h5 => wpAny_bind (thn h5 fun _ s6 h6 => wpAny_pure (wpAny_pure ⟨rfl, h6⟩))))

/-  the cells that a comprehension's block sees -/
theorem closure_go (env : Env) : ∀ (names : List (Str × NameKind)) (cs : List (Str × Addr)), (∀ n, (n, NameKind.free) ∈ names → ∃ c, env.cells.lookup n = some c) → (∀ n c, cs.lookup n = some c → env.cells.lookup n = some c) →
    ∃ cl, (forIn names cs fun (p : Str × NameKind) (r : List (Str × Addr)) => (if p.2 == NameKind.free then do let c ← cellOf env p.1; pure (ForInStep.yield ((p.1, c) :: r)) else pure (ForInStep.yield r) : Sem (ForInStep (List (Str × Addr))))) = pure cl ∧
      (∀ n c, cl.lookup n = some c → env.cells.lookup n = some c) ∧ (∀ n, ((n, NameKind.free) ∈ names ∨ ∃ c, cs.lookup n = some c) → ∃ c, cl.lookup n = some c)
  | [], cs, _, hcs => ⟨cs, rfl, hcs, fun n h => h.elim (fun z => nomatch z) id⟩
  | (m, k) :: r, cs, hn, hcs => by
    cases hk : k == NameKind.free with
    | false =>
      obtain ⟨cl, e, h1, h2⟩ := closure_go env r cs (fun n z => hn n (List.mem_cons_of_mem _ z)) hcs
      refine ⟨cl, ?_, h1, fun n z => h2 n ?_⟩
      · rw [List.forIn_cons]; simp only [hk]; exact e
      · rcases z with z | z
        · rcases List.mem_cons.mp z with q | q
          · cases q; simp at hk
          · exact .inl q
        · exact .inr z
    | true =>
      have ek : k = NameKind.free := by simpa using hk
      subst ek
      obtain ⟨c, hc⟩ := hn m List.mem_cons_self
      obtain ⟨cl, e, h1, h2⟩ := closure_go env r ((m, c) :: cs) (fun n z => hn n (List.mem_cons_of_mem _ z)) (fun n c' z => by
        by_cases q : n = m
        · subst q; simp [List.lookup_cons] at z; subst z; exact hc
        · rw [List.lookup_cons, beq_eq_false_iff_ne.mpr q] at z; exact hcs n c' z)
      refine ⟨cl, ?_, h1, fun n z => h2 n ?_⟩
      · rw [List.forIn_cons]; simp only [cellOf, hc]; exact e
      · rcases z with z | ⟨c', z⟩
        · rcases List.mem_cons.mp z with q | q
          · cases q; exact .inr ⟨c, by simp [List.lookup_cons]⟩
          · exact .inl q
        · by_cases q : n = m
          · subst q; exact .inr ⟨c, by simp [List.lookup_cons]⟩
          · exact .inr ⟨c', by rw [List.lookup_cons, beq_eq_false_iff_ne.mpr q]; exact z⟩
theorem closure_of {scope : Scope} {env : Env} (hn : ∀ n, (n, NameKind.free) ∈ scope.names → ∃ c, env.cells.lookup n = some c) :
    ∃ cl, closureFor scope env = pure cl ∧ (∀ n c, cl.lookup n = some c → env.cells.lookup n = some c) ∧ (∀ n, (n, NameKind.free) ∈ scope.names → ∃ c, cl.lookup n = some c) := by
  obtain ⟨cl, e, h1, h2⟩ := closure_go env scope.names [] hn (fun _ _ z => nomatch z)
  refine ⟨cl, ?_, h1, fun n z => h2 n (.inl z)⟩
  unfold closureFor
  simp only [bind_pure]
  exact e
end L2
set_option maxHeartbeats 4000000
namespace L2
open PySem PySem.Spec PyProof.Rows

/-  a comprehension's names, held against those of the code around it: N its slots' names, rest the same as the block sees them -/
def relNames (names onames : List (Str × NameKind)) : List (Str × NameKind) :=
  names.map fun (n, k) => if (k == .free && onames.lookup n == some .cell) then (n, .cell) else (n, k)
def compOk (sc osc : Scope) (N rest : List Str) : Bool :=
  (sc.kind == .function && osc.kind == .function && sc.names.all fun y => y.2 != .cell && (y.2 != .local || sc.names.lookup y.1 == some .local) && (y.2 != .free || osc.names.lookup y.1 == some .cell || osc.names.lookup y.1 == some .free))
  && N.length == rest.length && (N.zip rest).all fun p => match (relNames sc.names osc.names).lookup p.2 with
    | some .local => false
    | some .cell => p.1 == p.2 && (p.2, NameKind.free) ∈ sc.names && (osc.names.lookup p.2 == some .cell || osc.names.lookup p.2 == some .free)
    | some .free => p.1 == p.2 && (p.2, NameKind.free) ∈ sc.names && (osc.names.lookup p.2 == some .cell || osc.names.lookup p.2 == some .free)
    | _ => true
structure CompSc (sc osc : Scope) (N rest : List Str) : Prop where
  kind : sc.kind = .function
  okind : osc.kind = .function
  cell : ∀ y ∈ sc.names, y.2 ≠ .cell
  loc : ∀ y ∈ sc.names, y.2 = .local → sc.names.lookup y.1 = some .local
  free : ∀ n, (n, NameKind.free) ∈ sc.names → osc.names.lookup n = some .cell ∨ osc.names.lookup n = some .free
  len : N.length = rest.length
  look : ∀ (i : Nat) x, rest[i]? = some x → ((relNames sc.names osc.names).lookup x = some .local ∨ (relNames sc.names osc.names).lookup x = some .cell ∨ (relNames sc.names osc.names).lookup x = some .free) →
    N[i]? = some x ∧ (x, NameKind.free) ∈ sc.names ∧ (osc.names.lookup x = some .cell ∨ osc.names.lookup x = some .free) ∧ ((relNames sc.names osc.names).lookup x = some .cell ∨ (relNames sc.names osc.names).lookup x = some .free)
theorem compOk_is {sc osc : Scope} {N rest : List Str} (h : compOk sc osc N rest = true) : CompSc sc osc N rest := by
  unfold compOk at h
  simp only [Bool.and_eq_true, beq_iff_eq, List.all_eq_true] at h
  obtain ⟨⟨⟨⟨hk, hok⟩, hy⟩, hl⟩, hz⟩ := h
  refine ⟨hk, hok, fun y z e => ?_, fun y z e => ?_, fun n z => ?_, hl, fun i x e v => ?_⟩
  · have := (hy y z).1.1; rw [e] at this; simp at this
  · have := (hy y z).1.2; rw [e] at this; simpa using this
  · have := (hy _ z).2; simpa using this
  · have hi : i < rest.length := (List.getElem?_eq_some_iff.mp e).1
    have hi' : i < N.length := by omega
    have hN : N[i]? = some N[i] := List.getElem?_eq_getElem hi'
    have hm : (N[i], x) ∈ N.zip rest := by
      refine List.mem_of_getElem? (i := i) ?_
      rw [List.getElem?_zip_eq_some]; exact ⟨hN, e⟩
    have q := hz _ hm
    dsimp only at q
    rcases v with v | v | v
    · rw [v] at q; simp at q
    · rw [v] at q; simp only [Bool.and_eq_true, beq_iff_eq, Bool.or_eq_true, decide_eq_true_eq] at q
      obtain ⟨⟨q1, q2⟩, q3⟩ := q
      exact ⟨by rw [hN, q1], q2, q3, .inl v⟩
    · rw [v] at q; simp only [Bool.and_eq_true, beq_iff_eq, Bool.or_eq_true, decide_eq_true_eq] at q
      obtain ⟨⟨q1, q2⟩, q3⟩ := q
      exact ⟨by rw [hN, q1], q2, q3, .inr v⟩
theorem relabel_names {sc : Scope} {env : Env} (hk : env.scope.kind = .function) : (relabel sc env).names = relNames sc.names env.scope.names := by
  unfold relabel relNames Env.kindOf
  simp [hk]
/-  a name that is a cell or free in the block was free in the comprehension's own table -/
theorem rel_free {names onames : List (Str × NameKind)} (hc : ∀ y ∈ names, y.2 ≠ .cell) {x : Str} (h : (relNames names onames).lookup x = some .cell ∨ (relNames names onames).lookup x = some .free) : (x, NameKind.free) ∈ names := by
  have hm : (x, NameKind.cell) ∈ relNames names onames ∨ (x, NameKind.free) ∈ relNames names onames := h.imp PySem.mem_of_lookup PySem.mem_of_lookup
  rcases hm with hm | hm
  · obtain ⟨⟨n, k⟩, hn, e⟩ := List.mem_map.mp hm
    dsimp only at e
    split at e
    · rename_i hh; cases e; simp at hh; obtain ⟨rfl, _⟩ := hh; exact hn
    · cases e; exact absurd rfl (hc _ hn)
  · obtain ⟨⟨n, k⟩, hn, e⟩ := List.mem_map.mp hm
    dsimp only at e
    split at e
    · cases e
    · cases e; exact hn

/-  the context of a comprehension's block -/
def compCx (X : Cx) (scope : Scope) (N' : List Str) (cl : List (Str × Addr)) (s2 : Shared) (H2 : Hp) (C : Addr) (fp : List Addr) : Cx :=
  { X with N := N', s₀ := s2, H₀ := H2, env := compEnvC scope cl C X.env, outer := X.stack, stack := X.stack, ex := fp, fn := fun _ => false, pn := [], xe := fun _ _ => False }

section
variable {X : Cx} {pins : List (Addr × Obj)} {σ : St} {H2 : Hp} {s2 : Shared} {scope : Scope} {own rest : List Str} {cl : List (Str × Addr)} {fp : List Addr} {C : Addr}
theorem compCx_ok (I : Inv X pins σ H2 s2) (S : CompSc scope X.env.scope X.N rest) (h1 : ∀ n c, cl.lookup n = some c → X.env.cells.lookup n = some c) (h2 : ∀ n, (n, NameKind.free) ∈ scope.names → ∃ c, cl.lookup n = some c)
    (hC : s2.heap.objs.size ≤ C) (hf : ∀ b ∈ fp, FpOk X pins H2 b) (ho : ∀ b ∈ fp, ∃ o, s2.heap.get? b = some o) : (compCx X scope (own ++ rest) cl s2 H2 C fp).Ok where
  mod := I.ok.mod
  kind := S.kind
  glob := I.ok.glob
  blt := I.ok.blt
  above := hC
  inj := fun x y c e1 e2 => I.ok.inj x y c (h1 x c e1) (h1 y c e2)
  has := fun x hx => h2 x (rel_free S.cell (by
    have e : (compCx X scope (own ++ rest) cl s2 H2 C fp).env.kindOf x = (relNames scope.names X.env.scope.names).lookup x := congrArg (List.lookup x) (relabel_names (sc := scope) I.ok.kind)
    rw [e] at hx; exact hx))
  cab := fun _ _ z => nomatch z
  hd := I.ok.hd
  frames := I.ok.frames
  stk := .inl rfl
  exf := fun b hb => by
    obtain ⟨o, e⟩ := ho b hb
    exact ⟨Nat.ne_of_lt (Nat.lt_of_lt_of_le (Heap.lt_size e) hC), fun x c e => (hf b hb).2.2.2.2.1 x c (h1 x c e)⟩
  bs := I.bs
  bsz := Nat.le_trans I.ok.bsz I.sz
  noex := fun b o e hb => by
    rcases (hf b hb).2.2.2.1 with z | z
    · exact I.ok.noex b o e z
    · exact absurd (Nat.lt_of_lt_of_le (Heap.lt_size e) (Nat.le_trans I.ok.bsz z)) (Nat.lt_irrefl _)
  exfs := fun b hb z => by
    rcases List.mem_cons.mp (I.stkSub b z) with q | q
    · exact (hf b hb).2.1 q
    · exact (hf b hb).2.2.1 q
  funs := I.stack
  frf := I.stkFree

/-  the block begins: D the list that grows (not tracked), C the block's names -/
theorem comp_start {h1 : Heap} {t1 : Nat} (I : Inv X pins σ H2 s2) (S : CompSc scope X.env.scope X.N rest) (hc1 : ∀ n c, cl.lookup n = some c → X.env.cells.lookup n = some c) (hc2 : ∀ n, (n, NameKind.free) ∈ scope.names → ∃ c, cl.lookup n = some c)
    (hC : s2.heap.objs.size ≤ C) (hf : ∀ b ∈ fp, FpOk X pins H2 b) (ho : ∀ b ∈ fp, ∃ o, s2.heap.get? b = some o)
    (old : ∀ b o, s2.heap.get? b = some o → h1.get? b = some o) (ns : h1.Ns C fun _ => none) :
    Inv (compCx X scope (own ++ rest) cl s2 H2 C fp) [] (List.replicate own.length none ++ σ) H2 { s2 with heap := h1, toks := t1 } := by
  obtain ⟨m, hn, hl⟩ := id I.loc
  have hv : ∀ x, Vis (compCx X scope (own ++ rest) cl s2 H2 C fp).env.scope x → ((relNames scope.names X.env.scope.names).lookup x = some .local ∨ (relNames scope.names X.env.scope.names).lookup x = some .cell ∨ (relNames scope.names X.env.scope.names).lookup x = some .free) := fun x z => by
    have e : (compCx X scope (own ++ rest) cl s2 H2 C fp).env.scope.names = relNames scope.names X.env.scope.names := relabel_names (sc := scope) I.ok.kind
    unfold Vis at z; rw [e] at z; exact z
  refine ⟨compCx_ok I S hc1 hc2 hC hf ho, rfl, I.bare, Un.kept old, ⟨_, ns, fun i x v e1 e2 e3 => ?_⟩, fun x c e => ?_, I.hok.fresh hC, fun x c e => I.freeC x c (hc1 x c e), fun p hp => absurd (show p ∈ ([] : List (Addr × Obj)) from hp) (by simp), I.hok.kept old, ?_⟩
  · have e1' : (own ++ rest)[i]? = some x := e1
    by_cases hi : i < own.length
    · rw [List.getElem?_append_left (by simpa using hi), List.getElem?_replicate] at e2
      split at e2 <;> cases e2
    · have hi' : own.length ≤ i := Nat.le_of_not_lt hi
      rw [List.getElem?_append_right (by simpa using hi'), List.length_replicate] at e2
      rw [List.getElem?_append_right hi'] at e1'
      obtain ⟨q1, q2, q3, q4⟩ := S.look _ x e1' (hv x e3)
      obtain ⟨u, r, l⟩ := hl (i - own.length) x v q1 e2 (q3.elim (fun z => .inr (.inl z)) fun z => .inr (.inr z))
      refine ⟨u, r, .inr ⟨?_, ?_⟩⟩
      · have e : (compCx X scope (own ++ rest) cl s2 H2 C fp).env.kindOf x = (relNames scope.names X.env.scope.names).lookup x := congrArg (List.lookup x) (relabel_names (sc := scope) I.ok.kind)
        rw [e]; exact q4
      · rcases l with ⟨k, _⟩ | ⟨_, c, e, z⟩
        · have k' : X.env.scope.names.lookup x = some .local := k
          rcases q3 with q3 | q3 <;> (rw [q3] at k'; cases k')
        · obtain ⟨c', e'⟩ := hc2 x q2
          have e2 := hc1 x c' e'
          rw [e] at e2; cases e2
          obtain ⟨o, q, d⟩ := z
          exact ⟨c, e', o, old c o q, d⟩
  · obtain ⟨v, o, q, d⟩ := I.cell x c (hc1 x c e)
    exact ⟨v, o, old c o q, d⟩
  · show _ = (own ++ rest).length
    have := I.len; have := S.len
    simp only [List.length_append, List.length_replicate]; omega

/-  the block has ended: the list is tracked, the names around are as they were -/
theorem comp_end {H' : Hp} {s' : Shared} {σ' : St} {D : Addr} {ys : List V} {its : List Value} {n : Nat} {pins' : List (Addr × Obj)} (I : Inv X pins σ H2 s2) (J : Inv (compCx X scope (own ++ rest) cl s2 H2 C fp) pins' σ' H' s') (hf : ∀ b ∈ fp, FpOk X pins H2 b)
    (hD : s2.heap.objs.size ≤ D) (hDn : H' D = none) (hDo : s'.heap.get? D = some { cls := .type "list", data := .seq its.toArray n }) (r : Vals ys its) (hz : ys.length ≤ sizeLine) :
    Inv X pins σ (upd H' D (.lst ys)) s' := by
  have u : Un (frs X.stack) fp H2 H' s2.heap s'.heap := J.base
  have nD : ∀ b o, s2.heap.get? b = some o → b ≠ D := fun b o e => Nat.ne_of_lt (Nat.lt_of_lt_of_le (Heap.lt_size e) hD)
  refine I.call' (ch := fp) J.os ⟨u.keep, u.slot, fun b o e n hx => ?_, u.there, fun b xs e => ?_, fun b o v e => ?_, fun b ps e => ?_⟩ (fun b o e => ?_) J.bare fun b hb => ?_
  · rw [upd_ne (nD b o e)]; exact u.free b o e n hx
  · rw [upd_ne (ne_of_none (u.tups b xs e) hDn)]; exact u.tups b xs e
  · rw [upd_ne (ne_of_none (u.frzs b o v e) hDn)]; exact u.frzs b o v e
  · obtain ⟨more, q⟩ := u.tbls b ps e
    exact ⟨more, by rw [upd_ne (ne_of_none q hDn)]; exact q⟩
  · by_cases hb : b = D
    · subst hb; rw [upd_same] at e; cases e; exact ⟨hz, its, n, r, hDo⟩
    · rw [upd_ne hb] at e
      exact (J.hok b o e).stay (fun c v _ q => q) (fun c q => by rw [upd_ne (ne_of_none q hDn)]; exact q) fun c xs q => by rw [upd_ne (ne_of_none q hDn)]; exact q
  · obtain ⟨_, f1, _, f3, f4, f5⟩ := hf b hb
    exact ⟨f3, f1, f4, f5⟩
end
end L2
set_option maxHeartbeats 4000000
namespace L2
open PySem PySem.Spec PyProof.Rows

/-  the tests behind for: none, or one -/
def PTs (X : Cx) (ifs : List Expr) (t : TT) : Prop :=
  ∀ (pins : List (Addr × Obj)) (s : Shared) (σ : St) (H : Hp) (Q : Bool → Hp → Prop), Inv X pins σ H s → t σ H Q → wpAny (model X.prog X.w) X.A (runIfs ifs X.env) (TP X pins σ Q) X.xe s
def tYes : TT := fun _ H Q => Q true H
theorem pts_nil {X : Cx} : PTs X [] tYes := fun _ _ _ H _ I h => wpAny_tests_nil ⟨H, I, h⟩
theorem pts_one {X : Cx} {c : Expr} {t : TT} (h : PT X c t) : PTs X [c] t := fun pins s σ H Q I q => wpAny_tests_one (h pins s σ H Q I q)

/-  what the walk of a comprehension is to show: W by the turn, a measure, the items so far, the block's names, the heap -/
def CompW (J : It) (g : TG) (tt : TT) (te : TE) (fin : List V → Hp → Prop) (σ0 : St) (H1 : Hp) : Prop :=
  ∃ W : Nat → Nat → List V → St → Hp → Prop, (∃ m, W 0 m [] σ0 H1) ∧ ∀ i m ys σ H, W i m ys σ H →
    (J.stop i H ∧ fin ys H) ∨ (J.go i H ∧ ys.length < sizeLine ∧ ∃ N : List V → St → Hp → Prop, (∀ ys' σ' H', N ys' σ' H' → ∃ m', m' < m ∧ W (i + 1) m' ys' σ' H') ∧
      ∀ x H', J.yld i H x H' → g x σ H' fun σ2 H2 => tt σ2 H2 fun b H3 => if b = true then te σ2 H3 fun y H4 => N (ys ++ [y]) σ2 H4 else N ys σ2 H3)

section
variable {X : Cx} {pins : List (Addr × Obj)} {σ : St} {H2 : Hp} {s2 : Shared} {scope : Scope} {own rest : List Str} {cl : List (Str × Addr)} {fp : List Addr} {E : Value → Shared → Prop}
theorem comp_run {elt tg iter : Expr} {ifs : List Expr} {pos : Pos} {J : It} {it : Addr} {tn : Nat → Heap → Prop} {g : TG} {tt : TT} {te : TE} {fin : List V → Hp → Prop} {RR : Value → Addr → Result → Shared → Prop} {D : Nat} (hD : s2.heap.objs.size = D) (hcalm : X.calm = true)
    (I : Inv X pins σ H2 s2) (S : CompSc scope X.env.scope X.N rest) (hc1 : ∀ n c, cl.lookup n = some c → X.env.cells.lookup n = some c) (hc2 : ∀ n, (n, NameKind.free) ∈ scope.names → ∃ c, cl.lookup n = some c)
    (T : Turn X.prog X.w X.K tg J fp it tn) (st : tn 0 s2.heap) (hf : ∀ b ∈ fp, FpOk X pins H2 b)
    (hg : PG (compCx X scope (own ++ rest) cl s2 H2 (D + 1 : Nat) fp) tg g) (ht : PTs (compCx X scope (own ++ rest) cl s2 H2 (D + 1 : Nat) fp) ifs tt)
    (he : PE (compCx X scope (own ++ rest) cl s2 H2 (D + 1 : Nat) fp) elt te)
    (hw : CompW J g tt te fin (List.replicate own.length none ++ σ) H2)
    (hR : ∀ (s' : Shared) (H' : Hp) (ys : List V), Inv X pins σ (upd H' D (.lst ys)) s' → (∃ m, s'.heap.Ns (D + 1 : Nat) m) → H' D = none → H' (D + 1 : Nat) = none → fin ys H' → RR (.ref D) (D + 1 : Nat) (.ok .next) s') :
    wpAny (model X.prog X.w) X.A (newList []) (fun acc s3 => wpAny (model X.prog X.w) X.A (newFunctionEnv scope X.env.globals cl [] X.env.qual none .none (some X.env)) (fun cenv s4 =>
      codeAny (model X.prog X.w) X.A (.compStart (.ListComp elt [⟨tg, iter, ifs, 0⟩] scope pos) 0 (.ref it) acc { cenv with scope := relabel scope X.env }) (RR acc cenv.locals) s4) E s3) E s2 := by
  refine wpAny_newObj_type (wpAny_newFunctionEnv S.cell (by intro y hy; simp at hy) (fun h1 hns hsb => ?_) S.kind)
  dsimp only at hns hsb ⊢
  generalize hHp : s2.heap.push { cls := .type "list", dict := none, data := .seq ([] : List Value).toArray } = Hp2 at hns hsb ⊢
  have hC : Hp2.objs.size = s2.heap.objs.size + 1 := by rw [← hHp, Heap.size_push]
  rw [hD] at hC
  rw [hC] at hns hsb ⊢
  rw [hD]
  have nDC : D ≠ D + 1 := Nat.ne_of_lt (Nat.lt_succ_self _)
  have below : ∀ b o, s2.heap.get? b = some o → b < D := fun b o e => by rw [← hD]; exact Heap.lt_size e
  have old : ∀ b o, s2.heap.get? b = some o → h1.get? b = some o := fun b o e => by
    exact hsb.extBut b o (Nat.ne_of_lt (Nat.lt_succ_of_lt (below b o e))) (Heap.get?_push_of_some _ (hHp ▸ Heap.get?_push_of_some _ e))
  have hDo : h1.get? D = some { cls := .type "list", data := .seq ([] : List Value).toArray 0 } :=
    hsb.extBut _ _ nDC (Heap.get?_push_of_some _ (by rw [← hHp, ← hD]; exact Heap.get?_push_size _ rfl))
  have hfo : ∀ b ∈ fp, ∃ o, s2.heap.get? b = some o := fun b hb => let ⟨o, e, _⟩ := T.obj 0 _ st b hb; ⟨o, e⟩
  have st1 : tn 0 h1 := T.keep _ _ _ st fun b hb o e => old b o e
  have J0 : Inv (compCx X scope (own ++ rest) cl s2 H2 (D + 1 : Nat) fp) [] (List.replicate own.length none ++ σ) H2 { s2 with heap := h1, toks := s2.toks } :=
    comp_start I S hc1 hc2 (by omega) hf hfo old hns
  have nfs : D ∉ (compCx X scope (own ++ rest) cl s2 H2 (D + 1 : Nat) fp).fs := fun z => by
    have z' : D ∈ frs X.stack := z
    rcases List.mem_cons.mp (I.stkSub D z') with q | q
    · exact Nat.lt_irrefl D (by have h := I.lt; rw [← q, hD] at h; exact h)
    · exact I.nofs (Nat.le_of_eq hD) q
  have ncl : ∀ x c, (compCx X scope (own ++ rest) cl s2 H2 (D + 1 : Nat) fp).env.cells.lookup x = some c → c ≠ D := fun x c e z => by
    obtain ⟨v, o, q, d⟩ := I.cell x c (hc1 x c e)
    exact Nat.ne_of_lt (below c o q) z
  have loop : ∀ s3 : Shared, s3 = { s2 with heap := h1, toks := s2.toks } →
      codeAny (model X.prog X.w) X.A (.compLoop (.ListComp elt [⟨tg, iter, ifs, 0⟩] scope pos) 0 (.ref it) (.ref D) (compEnvC scope cl (D + 1) X.env)) (RR (.ref D) (D + 1)) s3 := by
    rintro s3 rfl
    obtain ⟨W, ⟨m0, w0⟩, turn⟩ := hw
    refine comp_loop (fun m s' => ∃ (i : Nat) (ys : List V) (its : List Value) (n : Nat) (σ' : St) (H' : Hp), Inv (compCx X scope (own ++ rest) cl s2 H2 (D + 1 : Nat) fp) [] σ' H' s' ∧ tn i s'.heap ∧ (∀ b ∈ fp, H' b = none) ∧
      s'.heap.get? D = some { cls := .type "list", data := .seq its.toArray n } ∧ H' D = none ∧ Vals ys its ∧ ys.length ≤ sizeLine ∧ W i m ys σ' H') ?_ m0
      ⟨0, [], [], 0, _, H2, J0, st1, fun b hb => (hf b hb).1, hDo, by rw [← hD]; exact I.fresh, .nil, by simp, w0⟩
    rintro m s3 ⟨i, ys, its, n, σ3, H3, J3, st3, fr3, ho3, hn3, r3, z3, w3⟩
    have pin : ∀ {σ' : St} {H' : Hp} {s' : Shared}, Inv (compCx X scope (own ++ rest) cl s2 H2 (D + 1 : Nat) fp) [] σ' H' s' → s'.heap.get? D = some { cls := .type "list", data := .seq its.toArray n } → H' D = none →
        Inv (compCx X scope (own ++ rest) cl s2 H2 (D + 1 : Nat) fp) [(D, { cls := .type "list", data := .seq its.toArray n })] σ' H' s' := fun {σ' H' s'} K1 K2 K3 =>
      K1.pins_of fun p hp => by
        have e : p = (D, { cls := .type "list", data := .seq its.toArray n }) := by simpa using hp
        subst e
        exact ⟨K2, K3, nDC, nfs, fun v z => nomatch z⟩
    have fpk : ∀ {H' : Hp}, (∀ b ∈ fp, H' b = none) → ∀ b ∈ fp, FpOk (compCx X scope (own ++ rest) cl s2 H2 (D + 1 : Nat) fp) [(D, { cls := .type "list", data := .seq its.toArray n })] H' b := fun {H'} fr b hb => by
      obtain ⟨o, e⟩ := hfo b hb
      have lt := below b o e
      refine ⟨fr b hb, Nat.ne_of_lt (Nat.lt_succ_of_lt lt), ?_, .inl hb, fun x c q => (hf b hb).2.2.2.2.1 x c (hc1 x c q), fun p hp => ?_⟩
      · intro z
        have z' : b ∈ frs X.stack := z
        rcases List.mem_cons.mp (I.stkSub b z') with q | q
        · exact (hf b hb).2.1 q
        · exact (hf b hb).2.2.1 q
      · have e : p = (D, { cls := .type "list", data := .seq its.toArray n }) := by
          have hp' : p ∈ [(D, ({ cls := .type "list", data := .seq its.toArray n } : Obj))] := hp
          simpa using hp'
        subst e
        exact Nat.ne_of_gt lt
    have J3p := pin J3 ho3 hn3
    rcases turn i m ys σ3 H3 w3 with ⟨stop, q⟩ | ⟨go, hlt, N, hN, step⟩
    · refine thn (T.done (compCx X scope (own ++ rest) cl s2 H2 (D + 1 : Nat) fp) rfl rfl rfl hcalm i _ s3 σ3 H3 _ J3p (fpk fr3) st3 stop) fun r s4 ⟨hr, J4⟩ => ?_
      subst hr
      have ho4 := J4.pin _ (List.mem_append_right _ List.mem_cons_self)
      refine hR s4 H3 ys (comp_end I J4 hf (by omega) hn3 ho4.1 r3 z3) ?_ hn3 J4.free q
      obtain ⟨mm, hmm, _⟩ := J4.loc
      exact ⟨mm, hmm⟩
    · refine thn (T.item (compCx X scope (own ++ rest) cl s2 H2 (D + 1 : Nat) fp) rfl rfl rfl hcalm i _ s3 σ3 H3 _ J3p (fpk fr3) st3 go) fun r s4 ⟨u, hr, h4⟩ => ?_
      subst hr
      refine thn h4 fun _ s5 ⟨x, H5, J5, r5, y5, st5, fr5⟩ => ?_
      have J5' := J5.pinned (fpk fr5) (T.obj _ _ st5)
      refine thn (hg _ s5 σ3 H5 x u _ J5' r5 (step x H5 y5)) fun _ s6 ⟨σ6, H6, J6, q6⟩ => ?_
      refine thn (ht _ s6 σ6 H6 _ J6 q6) fun b s7 ⟨H7, J7, q7⟩ => ?_
      have stay : ∀ {σ' : St} {H' : Hp} {s' : Shared}, Inv (compCx X scope (own ++ rest) cl s2 H2 (D + 1 : Nat) fp) ([(D, { cls := .type "list", data := .seq its.toArray n })] ++ pinsAt fp s5.heap) σ' H' s' →
          Inv (compCx X scope (own ++ rest) cl s2 H2 (D + 1 : Nat) fp) [] σ' H' s' ∧ tn (i + 1) s'.heap ∧ (∀ b ∈ fp, H' b = none) ∧ s'.heap.get? D = some { cls := .type "list", data := .seq its.toArray n } ∧ H' D = none := fun {σ' H' s'} K1 => by
        refine ⟨K1.pins_of fun p hp => absurd hp (by simp), T.keep _ _ _ st5 fun b hb o e => (K1.pin (b, o) (List.mem_append_right _ (List.mem_append_right _ (mem_pinsAt hb e)))).1, fun b hb => ?_, ?_, ?_⟩
        · obtain ⟨o, e, d⟩ := T.obj _ _ st5 b hb
          exact (K1.pin (b, o) (List.mem_append_right _ (List.mem_append_right _ (mem_pinsAt hb e)))).2.1
        · exact (K1.pin (D, _) (List.mem_append_right _ (List.mem_append_left _ List.mem_cons_self))).1
        · exact (K1.pin (D, _) (List.mem_append_right _ (List.mem_append_left _ List.mem_cons_self))).2.1
      cases b with
      | false =>
        rw [if_neg Bool.false_ne_true] at q7 ⊢
        obtain ⟨k1, k2, k3, k4, k5⟩ := stay J7
        obtain ⟨m', hm, w'⟩ := hN _ _ _ q7
        exact ⟨m', hm, i + 1, ys, its, n, σ6, H7, k1, k2, k3, k4, k5, r3, z3, w'⟩
      | true =>
        rw [if_pos rfl] at q7 ⊢
        refine thn (he _ s7 σ6 H7 _ J7 q7) fun xv s8 ⟨y, H8, J8, r8, q8⟩ => ?_
        obtain ⟨k1, k2, k3, k4, k5⟩ := stay J8
        refine call_meets F.slot_list_append ⟨_, k4, rfl⟩ F.entry_list_append (F.args_list_append_2 _ _) (PySem.list_append D its.toArray n xv (by rw [List.size_toArray, ← r3.length]; omega)) ⟨k4, ?_⟩
        obtain ⟨m', hm, w'⟩ := hN _ _ _ q8
        have ho9 := PySem.IsL.update k4 (fun a => a.push xv)
        have ek : ∀ b o, b ≠ D → s8.heap.get? b = some o → (s8.heap.update D (Obj.mapSeq (fun a => a.push xv))).get? b = some o := fun b o hb e => (Heap.get?_update_other s8.heap (Obj.mapSeq _) (Ne.symm hb)).trans e
        refine ⟨m', hm, i + 1, ys ++ [y], its ++ [xv], (if ((its.toArray.push xv).size == its.toArray.size) = true then n else n + 1), σ6, H8, k1.turned (it := D) (t' := s8.toks) ek k5 nDC (.inr (show s2.heap.objs.size ≤ D by omega)) ncl (fun p hp => absurd (show p ∈ ([] : List (Addr × Obj)) from hp) (by simp)), ?_, k3, ?_, k5, r3.append (.cons r8 .nil), ?_, w'⟩
        · refine T.keep _ _ _ k2 fun b hb o e => ek b o ?_ e
          obtain ⟨o', e'⟩ := hfo b hb
          exact Nat.ne_of_lt (below b o' e')
        · have e2 : its.toArray.push xv = (its ++ [xv]).toArray := by simp
          rw [← e2]; exact ho9
        · simp only [List.length_append, List.length_cons, List.length_nil]; omega
  exact codeAny_compStart_list (loop _ rfl) (T.self X.A 0 _ _ _ st1 (loop _ rfl))
end
end L2
set_option maxHeartbeats 4000000
namespace L2
open PySem PySem.Spec PyProof.Rows

def tComp (k : Nat) (wi : TI) (g : TG) (tt : TT) (te : TE) : TE := fun σ H Q => wi σ H fun J H1 => CompW J g tt te (fun ys H' => ∀ D, H' D = none → Q (.ref D) (upd H' D (.lst ys))) (List.replicate k none ++ σ) H1

section
variable {X : Cx} {elt tg iter : Expr} {ifs : List Expr} {scope : Scope} {pos : Pos} {wi : TI} {g : TG} {tt : TT} {te : TE}
theorem Inv.closed {pins : List (Addr × Obj)} {σ : St} {H : Hp} {s : Shared} {N rest : List Str} (I : Inv X pins σ H s) (S : CompSc scope X.env.scope N rest) :
    ∃ cl, closureFor scope X.env = pure cl ∧ (∀ n c, cl.lookup n = some c → X.env.cells.lookup n = some c) ∧ (∀ n, (n, NameKind.free) ∈ scope.names → ∃ c, cl.lookup n = some c) :=
  closure_of fun n z => I.ok.has n (S.free n z)
theorem Inv.letgo {pins pins' : List (Addr × Obj)} {σ σ' : St} {H H' : Hp} {s s' : Shared} {b : Addr} {h' : Heap} (I : Inv X pins σ H s) (J : Inv X pins σ' H' s') (hb : s.heap.objs.size ≤ b) (hn : H' b = none) (sb : Heap.SameBut b s'.heap h') : Inv X pins σ' H' { s' with heap := h' } := by
  obtain ⟨f0, f1, f2, f3, f4, f5⟩ := I.fpOk hb hn
  exact J.turned (t' := s'.toks) (fun c o hc e => (sb.2 c hc).trans e) f0 f1 f3 f4 f5

theorem pe_comp (own rest : List Str) (hcalm : X.calm = true) (S : CompSc scope X.env.scope X.N rest) (hi : PI X tg iter wi)
    (hg : ∀ cl s2 H2 C fp, PG (compCx X scope (own ++ rest) cl s2 H2 C fp) tg g) (ht : ∀ cl s2 H2 C fp, PTs (compCx X scope (own ++ rest) cl s2 H2 C fp) ifs tt) (he : ∀ cl s2 H2 C fp, PE (compCx X scope (own ++ rest) cl s2 H2 C fp) elt te)
    (hs : ∀ x, foldedSetIterable iter X.env x = pure x := by intro _; rfl) : PE X (.ListComp elt [⟨tg, iter, ifs, 0⟩] scope pos) (tComp own.length wi g tt te) := by
  intro pins s σ H Q I h
  obtain ⟨cl, hcl, hc1, hc2⟩ := I.closed S
  rw [eval_ListComp]
  refine wpAny_comprehension_free (use := none) rfl hs hcl S.kind S.loc (thn (hi pins s σ H _ I h) fun v s1 h1 => thn h1 fun itv s2 h2 => ?_)
  obtain ⟨it, fp, tn, J, H2, e, I2, T, st, hf, hw⟩ := h2
  subst e
  refine comp_run (RR := fun acc C => compPost (model X.prog X.w) X.A X.xe none (EP X pins σ Q) acc C) (D := s2.heap.objs.size) rfl hcalm I2 S hc1 hc2 T st hf (hg _ _ _ _ _) (ht _ _ _ _ _) (he _ _ _ _ _) hw ?_
  intro s' H' ys J' ⟨m, hm⟩ hD hC q
  refine ⟨m, hm, fun h' sb => ⟨.ref s2.heap.objs.size, _, I2.letgo (pins' := pins) (b := (s2.heap.objs.size + 1 : Nat)) J' (Nat.le_succ _) ?_ sb, rfl, q _ hD⟩⟩
  rw [upd_ne (Nat.ne_of_gt (Nat.lt_succ_self _))]; exact hC
/-  name = [..]: the name is a plain local -/
theorem ps_comp {i : Nat} {y : Str} {py spos : Pos} (own rest : List Str) (hcalm : X.calm = true) (S : CompSc scope X.env.scope X.N rest) (hN : X.N.Nodup) (hy : X.N[i]? = some y) (hl : X.env.scope.names.lookup y = some .local) (hi : PI X tg iter wi)
    (hg : ∀ cl s2 H2 C fp, PG (compCx X scope (own ++ rest) cl s2 H2 C fp) tg g) (ht : ∀ cl s2 H2 C fp, PTs (compCx X scope (own ++ rest) cl s2 H2 C fp) ifs tt) (he : ∀ cl s2 H2 C fp, PE (compCx X scope (own ++ rest) cl s2 H2 C fp) elt te)
    (hsw : swapsWith (.ListComp elt [⟨tg, iter, ifs, 0⟩] scope pos) (some (.Name y py)) spos.line X.env = pure true := by rfl)
    (hs : ∀ x, foldedSetIterable iter X.env x = pure x := by intro _; rfl) : PS X (.Assign [.Name y py] (.ListComp elt [⟨tg, iter, ifs, 0⟩] scope pos) spos) (tAsg (tComp own.length wi g tt te) (gName i)) := by
  intro pins s σ H D I h
  obtain ⟨cl, hcl, hc1, hc2⟩ := I.closed S
  rw [exec_Assign_Name_used _ _ _ _ hsw]
  refine wpAny_bind (wpAny_standAt (wpAny_bind ?_))
  show wpAny _ X.A (do let _ ← comprehension (.ListComp elt [⟨tg, iter, ifs, 0⟩] scope pos) scope X.env _ (newList []) false (eval iter X.env) (some (assign (.Name y py) X.env))) _ _ s
  refine wpAny_bind (wpAny_mono (wpAny_comprehension_free (use := some (assign (.Name y py) X.env)) (Q := fun _ s' => SP X pins D .next s') rfl hs hcl S.kind S.loc (thn (hi pins s σ H _ I h) fun v s1 h1 => thn h1 fun itv s2 h2 => ?_)) (fun _ s' hq => wpAny_pure (wpAny_pure hq)) fun _ _ e => e)
  obtain ⟨it, fp, tn, J, H2, e, I2, T, st, hf, hw⟩ := h2
  subst e
  refine comp_run (RR := fun acc C => compPost (model X.prog X.w) X.A X.xe (some (assign (.Name y py) X.env)) (fun _ s' => SP X pins D .next s') acc C) (D := s2.heap.objs.size) rfl hcalm I2 S hc1 hc2 T st hf (hg _ _ _ _ _) (ht _ _ _ _ _) (he _ _ _ _ _) hw ?_
  intro s' H' ys J' ⟨m, hm⟩ hD hC q
  show wpAny _ X.A (assign (.Name y py) X.env (.ref s2.heap.objs.size)) _ _ s'
  refine wpAny_assign_Name (store_ok2 (v := .ref s2.heap.objs.size) J' hN hy (.inl hl) rfl (fun s3 J3 ⟨a, sb, ha⟩ => ?_) (.inr hl))
  have hne : s2.heap.objs.size + 1 ≠ a := by
    rcases ha with ha | ha
    · rw [ha]; exact Nat.ne_of_gt (Nat.lt_succ_of_lt I2.lt)
    · obtain ⟨v, o, e, d⟩ := I2.cell y a ha
      exact Nat.ne_of_gt (Nat.lt_succ_of_lt (Heap.lt_size e))
  refine ⟨m, hm.sameBut sb hne, fun h' sb' => ⟨_, _, I2.letgo (pins' := pins) (b := (s2.heap.objs.size + 1 : Nat)) J3 (Nat.le_succ _) ?_ sb', q _ hD⟩⟩
  rw [upd_ne (Nat.ne_of_gt (Nat.lt_succ_self _))]; exact hC
end

/-! ### the forms one uses -/
/-  one name, over items that are known: the walk J yields xs in order and leaves the heap -/
structure Walk (J : It) (xs : List V) (ok : Hp → Prop) : Prop where
  go : ∀ i H, ok H → i < xs.length → J.go i H
  yld : ∀ i H x H', ok H → i < xs.length → J.yld i H x H' → H' = H ∧ xs[i]? = some x
  stop : ∀ H, ok H → J.stop xs.length H
theorem walk_list {K : PySem.W.Frag} {a : Addr} {xs : List V} : Walk (Itl K a) xs (fun H => SqL K H a xs) where
  go := fun i H q hi => ⟨xs, xs[i], q, by simp [hi]⟩
  yld := fun i H x H' q _ y => ⟨y.1, y.2 xs q⟩
  stop := fun H q => ⟨xs, q, Nat.le_refl _⟩
def rangeV (lo : Int) (n : Nat) : List V := (List.range n).map fun (i : Nat) => V.int (lo + i)
theorem rangeV_len (lo : Int) (n : Nat) : (rangeV lo n).length = n := by simp [rangeV]
theorem rangeV_get {lo : Int} {n i : Nat} (h : i < n) : (rangeV lo n)[i]? = some (.int (lo + i)) := by simp [rangeV, h]
theorem walk_range {lo : Int} {n : Nat} : Walk (Itr lo n) (rangeV lo n) (fun _ => True) where
  go := fun i H _ hi => by rw [rangeV_len] at hi; exact hi
  yld := fun i H x H' _ hi y => ⟨y.1, by rw [rangeV_len] at hi; rw [rangeV_get hi, y.2]⟩
  stop := fun H _ => Nat.le_of_eq (rangeV_len lo n).symm

/-  a loop over such a walk -/
theorem for_walk {J : It} {xs : List V} {ok : Hp → Prop} (w : Walk J xs ok) {g : TG} {tb : TS} {D : Ends} {σ : St} {H : Hp} (Pv : Nat → St → Hp → Prop) (h0 : Pv 0 σ H) (hl : ∀ i σ H, i ≤ xs.length → Pv i σ H → ok H)
    (hs : ∀ i x σ H, xs[i]? = some x → Pv i σ H → g x σ H fun σ2 H2 => tb { D with nx := Pv (i + 1), ct := Pv (i + 1), bk := D.nx } σ2 H2) (hd : ∀ σ H, Pv xs.length σ H → D.nx σ H) :
    ∃ W : Nat → Nat → St → Hp → Prop, (∃ m, W 0 m σ H) ∧ ∀ i m σ H, W i m σ H →
      (J.stop i H ∧ D.nx σ H) ∨ (J.go i H ∧ ∃ N : St → Hp → Prop, (∀ σ' H', N σ' H' → ∃ m', m' < m ∧ W (i + 1) m' σ' H') ∧ ∀ x H', J.yld i H x H' → g x σ H' fun σ2 H2 => tb { D with nx := N, ct := N, bk := D.nx } σ2 H2) := by
  refine ⟨fun i m σ H => m = xs.length - i ∧ i ≤ xs.length ∧ Pv i σ H, ⟨xs.length, by simp, Nat.zero_le _, h0⟩, ?_⟩
  rintro i m σ H ⟨rfl, hi, p⟩
  have q := hl i σ H hi p
  by_cases hlt : i < xs.length
  · refine .inr ⟨w.go i H q hlt, Pv (i + 1), fun σ' H' p' => ⟨xs.length - (i + 1), by omega, rfl, hlt, p'⟩, fun x H' y => ?_⟩
    obtain ⟨e, y'⟩ := w.yld i H x H' q hlt y
    subst e
    exact hs i x σ _ y' p
  · have e : i = xs.length := by omega
    subst e
    exact .inl ⟨w.stop H q, hd σ H p⟩
/-  a comprehension over such a walk, its target one name -/
theorem comp_walk {J : It} {xs : List V} {ok : Hp → Prop} (w : Walk J xs ok) {tt : TT} {te : TE} {fin : List V → Hp → Prop} {σ : St} {H : Hp} (hz : xs.length ≤ sizeLine) (Pv : Nat → List V → Hp → Prop) (h0 : Pv 0 [] H) (hl : ∀ i ys H, i ≤ xs.length → Pv i ys H → ok H)
    (hlen : ∀ i ys H, Pv i ys H → ys.length ≤ i)
    (hs : ∀ i x ys H, xs[i]? = some x → Pv i ys H → tt (some x :: σ) H fun b H3 => if b = true then te (some x :: σ) H3 fun y H4 => (∃ o, some x :: σ = o :: σ) ∧ Pv (i + 1) (ys ++ [y]) H4 else (∃ o, some x :: σ = o :: σ) ∧ Pv (i + 1) ys H3) (hd : ∀ ys H, Pv xs.length ys H → fin ys H) :
    CompW J (gName 0) tt te fin (List.replicate 1 none ++ σ) H := by
  refine ⟨fun i m ys σ' H => m = xs.length - i ∧ i ≤ xs.length ∧ (∃ o, σ' = o :: σ) ∧ Pv i ys H, ⟨xs.length, by simp, Nat.zero_le _, ⟨none, rfl⟩, h0⟩, ?_⟩
  rintro i m ys σ' H ⟨rfl, hi, ⟨o, rfl⟩, p⟩
  have hy := hlen i ys H p
  have q := hl i ys H hi p
  by_cases hlt : i < xs.length
  · refine .inr ⟨w.go i H q hlt, by omega, fun ys' σ' H' => (∃ o, σ' = o :: σ) ∧ Pv (i + 1) ys' H', fun ys' σ' H' p' => ⟨xs.length - (i + 1), by omega, rfl, hlt, p'⟩, fun x H' y => ?_⟩
    obtain ⟨e, y'⟩ := w.yld i H x H' q hlt y
    subst e
    exact hs i x ys _ y' p
  · have e : i = xs.length := by omega
    subst e
    exact .inl ⟨w.stop H q, hd ys H p⟩
end L2
set_option maxHeartbeats 4000000
namespace L2
open PySem PySem.Spec PyProof.Rows

/-! ### the signs of a text, one after another -/
def sgn (c : Nat) : V := .str ⟨#[c]⟩
def Its (z : Str) : It := ⟨fun i _ => i < z.cps.size, fun i H x H' => H' = H ∧ ∃ c, z.cps[i]? = some c ∧ x = sgn c, fun i _ => i = z.cps.size⟩
section
variable {X : Cx} {tg : Expr}
def iStr (tl : TE) : TI := fun σ H R => tl σ H fun x H1 => ∃ z, x = .str z ∧ R (Its z) H1
end

/-! ### values as data -/
mutual
def Rep (K : PySem.W.Frag) (H : Hp) : PyData → V → Prop
  | .none, v => v = .non
  | .bool b, v => v = .bl b
  | .int i, v => v = .int i
  | .str x, v => v = .str x
  | .list ds, v => ∃ a xs, v = .ref a ∧ SqL K H a xs ∧ Reps K H ds xs
  | .tuple ds, v => ∃ a xs, v = .ref a ∧ SqT K H a xs ∧ Reps K H ds xs
  | .dict _, _ => False
def Reps (K : PySem.W.Frag) (H : Hp) : List PyData → List V → Prop
  | [], vs => vs = []
  | d :: ds, vs => ∃ v r, vs = v :: r ∧ Rep K H d v ∧ Reps K H ds r
end
section
variable {X : Cx} {pins : List (Addr × Obj)} {σ : St} {H : Hp} {s : Shared}
mutual
theorem Rep.reads (I : Inv X pins σ H s) : ∀ (d : PyData) (v : V) (u : Value), Rep X.K H d v → RelV v u → ∃ as, Reads s.heap u d as
  | .none, v, u, h, r => by
    have e : v = .non := by simpa [Rep] using h
    subst e; cases r; exact ⟨_, .none⟩
  | .bool b, v, u, h, r => by
    have e : v = .bl b := by simpa [Rep] using h
    subst e; cases r; exact ⟨_, .bool b⟩
  | .int i, v, u, h, r => by
    have e : v = .int i := by simpa [Rep] using h
    subst e; obtain ⟨t, rfl⟩ := r; exact ⟨_, .int i t⟩
  | .str x, v, u, h, r => by
    have e : v = .str x := by simpa [Rep] using h
    subst e; obtain ⟨t, rfl⟩ := r; exact ⟨_, .str x t⟩
  | .list ds, v, u, h, r => by
    obtain ⟨a, xs, rfl, hs, hr⟩ : ∃ a xs, v = .ref a ∧ SqL X.K H a xs ∧ Reps X.K H ds xs := by simpa only [Rep] using h
    cases r
    obtain ⟨its, rv, p, hz⟩ := I.list hs
    obtain ⟨o, ho, hc, n, hd⟩ := p.isList
    obtain ⟨as, q⟩ := Reps.reads I ds xs its hr rv
    exact ⟨_, .list ho hc hd (by simpa using q)⟩
  | .tuple ds, v, u, h, r => by
    obtain ⟨a, xs, rfl, hs, hr⟩ : ∃ a xs, v = .ref a ∧ SqT X.K H a xs ∧ Reps X.K H ds xs := by simpa only [Rep] using h
    cases r
    obtain ⟨its, rv, p, hz⟩ := I.tuple hs
    obtain ⟨o, ho, hc, n, hd⟩ := p
    obtain ⟨as, q⟩ := Reps.reads I ds xs its hr rv
    exact ⟨_, .tuple ho hc hd (by simpa using q)⟩
  | .dict _, v, u, h, r => by simp [Rep] at h
theorem Reps.reads (I : Inv X pins σ H s) : ∀ (ds : List PyData) (vs : List V) (us : List Value), Reps X.K H ds vs → Vals vs us → ∃ as, ReadsAll s.heap us ds as
  | [], vs, us, h, r => by
    have e : vs = [] := by simpa [Reps] using h
    subst e; cases r; exact ⟨_, .nil⟩
  | d :: ds, vs, us, h, r => by
    obtain ⟨v, q, rfl, h1, h2⟩ : ∃ v r, vs = v :: r ∧ Rep X.K H d v ∧ Reps X.K H ds r := by simpa only [Reps] using h
    cases r with
    | cons r1 r2 =>
      obtain ⟨as, q1⟩ := Rep.reads I d v _ h1 r1
      obtain ⟨bs, q2⟩ := Reps.reads I ds q _ h2 r2
      exact ⟨_, .cons q1 q2⟩
end
end
section
variable {X : Cx}
def rEqD (K : PySem.W.Frag) (neg : Bool) : R2 := fun x y H Q => ∃ d e, Rep K H d x ∧ Rep K H e y ∧ SeqAt.shaped d = true ∧ SeqAt.shaped e = true ∧ Q (.bl (if neg then !PyData.eqv d e else PyData.eqv d e)) H
theorem op_neD (hu : X.A.units + 64 < cLine) : OpR X (compareOp .NotEq) (rEqD X.K true) := by
  intro pins s σ H x y v u Q I rx ry h
  obtain ⟨d, e, h1, h2, h3, h4, q⟩ := h
  obtain ⟨as, q1⟩ := Rep.reads I d x v h1 rx
  obtain ⟨bs, q2⟩ := Rep.reads I e y u h2 ry
  exact ne_dataH q1 q2 h3 h4 hu (fin_bl I q rfl)

/-! ### isinstance, all, any, join -/
def rIsi (K : PySem.W.Frag) : List V → Hp → VK → Prop := fun xs H Q => ∃ x T t b, xs = [x, .ty T] ∧ TyOf K H x t ∧ PySem.W.kitOne K t (.type T) = some b ∧ Q (.bl b) H
theorem call_isi : CallR X (.builtin "isinstance") (rIsi X.K) := by
  intro pins s σ H xs us Q I r h
  obtain ⟨x, T, t, b, rfl, ty, e, q⟩ := h
  obtain ⟨u, c, rfl, ru, rc⟩ := vals2 r
  cases rc
  exact isinst_ok I ru ty e fun tk => ⟨.bl b, H, I.tok _, rfl, q⟩
def rAll (K : PySem.W.Frag) (g : List Bool → Bool) : List V → Hp → VK → Prop := fun xs H Q => ∃ a bs, xs = [.ref a] ∧ SqL K H a (bs.map V.bl) ∧ Q (.bl (g bs)) H
theorem strs_of : ∀ {ys : List Str} {us : List Value}, Vals (ys.map V.str) us → StrsAre us ys
  | [], _, .nil => .nil
  | _ :: _, _, .cons r t => by obtain ⟨k, rfl⟩ := r; exact .cons _ _ (strs_of t)
def rJoin (K : PySem.W.Frag) : V → List V → Hp → VK → Prop := fun x vs H Q => ∃ z a ys, x = .str z ∧ vs = [.ref a] ∧ SqL K H a (ys.map V.str) ∧ (ys.map (·.length)).sum + ys.length * z.length ≤ 16777216 ∧ Q (.str (Txt.join z ys)) H
theorem mt_join : MtR X "str.join" (rJoin X.K) := by
  intro pins s σ H x vs v us Q I rx rv h
  obtain ⟨z, a, ys, rfl, rfl, hs, hz, q⟩ := h
  obtain ⟨t, rfl⟩ := rx
  obtain ⟨u, rfl, ru⟩ := rv.one
  cases ru
  obtain ⟨its, r2, p, _⟩ := I.list hs
  exact join_list p.isList (by simpa using strs_of r2) hz fun t' k => ⟨.str _, H, I.tok _, ⟨_, rfl⟩, q⟩

/-! ### is True, is False -/
end
end L2
set_option maxHeartbeats 4000000
namespace L2
open PySem PySem.Spec PyProof.Rows
section
variable {X : Cx}

/-! ### a def of the text, called -/
structure DefOk (K : PySem.W.Frag) (mg : Str → Option Value) (x : Str) (st : Stmt) (ps : List Str) (f : Addr) (fd : FuncData) : Prop where
  F : Fun K x x st f fd
  b : Binds K fd ps []
  m : mg x = some (.ref f)
/-! ### names in short -/
theorem pvl (i : Nat) {x : Str} {pos : Pos} (hN : X.N[i]? = some x := by rfl) (hv : X.env.scope.names.lookup x = some .local := by rfl) (hd : (x == ("__debug__" : Str)) = false := by decide) (hcd : (x == ("__classdict__" : Str)) = false := by decide) : PE X (.Name x pos) (tVar i) := pe_var hN (.inl hv) hd hcd
theorem pvc (i : Nat) {x : Str} {pos : Pos} (hN : X.N[i]? = some x := by rfl) (hv : X.env.scope.names.lookup x = some .cell := by rfl) (hd : (x == ("__debug__" : Str)) = false := by decide) (hcd : (x == ("__classdict__" : Str)) = false := by decide) : PE X (.Name x pos) (tVar i) := pe_var hN (.inr (.inl hv)) hd hcd
theorem pgl (i : Nat) {x : Str} {pos : Pos} (hN : X.N.Nodup) (hi : X.N[i]? = some x := by rfl) (hv : X.env.scope.names.lookup x = some .local := by rfl) : PG X (.Name x pos) (gName i) := pg_name hN hi (.inl hv) (.inr hv)
theorem psl (i : Nat) {x : Str} {pos pos' : Pos} {e : Expr} {te : TE} (hN : X.N.Nodup) (he : PE X e te) (hi : X.N[i]? = some x := by rfl) (hv : X.env.scope.names.lookup x = some .local := by rfl) (hs : swapsWith e (some (.Name x pos')) pos.line X.env = pure false := by rfl) :
    PS X (.Assign [.Name x pos'] e pos) (tAsg te (gName i)) := ps_set hN hi (.inl hv) he hs (.inr hv)
theorem psc (i : Nat) {x : Str} {pos pos' : Pos} {e : Expr} {te : TE} (hN : X.N.Nodup) (he : PE X e te) (hi : X.N[i]? = some x := by rfl) (hv : X.env.scope.names.lookup x = some .cell := by rfl) (hs : swapsWith e (some (.Name x pos')) pos.line X.env = pure false := by rfl) (hf : X.fn x = true := by rfl) :
    PS X (.Assign [.Name x pos'] e pos) (tAsg te (gName i)) := ps_set hN hi (.inr hv) he hs (.inl hf)
/-  a type's name -/
theorem pty {x : Str} {T : String} {pos : Pos} (hm : X.mg x = none) (hv : bootBuiltins x = some (.type T)) (hg : Gl X x := by rfl) (hn : x ≠ "__name__" := by decide) (hd : (x == ("__debug__" : Str)) = false := by decide) : PE X (.Name x pos) (tC (.ty T)) := pe_bltn hg hm hv rfl hn hd
end
/-! ### heaps that grew -/
theorem Same.new {H H' : Hp} (e : Same H H') {p : Addr} (h : H' p = none) (o : HO) : Same H (upd H' p o) := fun b q z => by
  rw [upd_ne (ne_of_none (e b q z) h)]; exact e b q z
theorem Same.upd_new {H : Hp} {p : Addr} (h : H p = none) (o : HO) : Same H (upd H p o) := (Same.refl H).new h o
/-  an object that is not of H is changed -/
theorem Same.set {H H' : Hp} (e : Same H H') {p : Addr} (h : H p = none) (o : HO) : Same H (upd H' p o) := fun b q z => by
  rw [upd_ne (ne_of_none z h)]; exact e b q z
end L2
set_option maxHeartbeats 4000000
namespace L2
open PySem PySem.Spec PyProof.Rows
theorem bt_len : bootBuiltins "len" = some (.builtin "len") := by decide +kernel
theorem bt_sum : bootBuiltins "sum" = some (.builtin "sum") := by decide +kernel
theorem bt_isinstance : bootBuiltins "isinstance" = some (.builtin "isinstance") := by decide +kernel
theorem bt_int : bootBuiltins "int" = some (.type "int") := by decide +kernel
theorem bt_str : bootBuiltins "str" = some (.type "str") := by decide +kernel
theorem bt_bool : bootBuiltins "bool" = some (.type "bool") := by decide +kernel
theorem bt_list : bootBuiltins "list" = some (.type "list") := by decide +kernel
theorem bt_tuple : bootBuiltins "tuple" = some (.type "tuple") := by decide +kernel
/-! ### helps for the reading -/
theorem small_line {n : Nat} (h : n ≤ 1000000) : n ≤ sizeLine := by rw [sizeLine_eq]; omega
theorem take_snoc {α : Type} {xs : List α} {i : Nat} {x : α} (h : xs[i]? = some x) : xs.take (i + 1) = xs.take i ++ [x] := by rw [List.take_add_one, h]; rfl
/-  the same where the things walked are made of things of any kind -/
theorem comp_of {α : Type} {J : It} {as : List α} {g : α → V} {ok : Hp → Prop} (w : Walk J (as.map g) ok) {tt : TT} {te : TE} {fin : List V → Hp → Prop} {σ : St} {H : Hp} (hz : as.length ≤ sizeLine) (h0 : ∀ H', Same H H' → ok H') (p : α → Bool) (f : α → V)
    (ht : ∀ a H1 Q, a ∈ as → Same H H1 → (∀ H2, Same H1 H2 → Q (p a) H2) → tt (some (g a) :: σ) H1 Q)
    (he : ∀ a H1 Q, a ∈ as → p a = true → Same H H1 → (∀ H2, Same H1 H2 → Q (f a) H2) → te (some (g a) :: σ) H1 Q)
    (hd : ∀ H', Same H H' → fin ((as.filter p).map f) H') : CompW J (gName 0) tt te fin (none :: σ) H := by
  refine comp_walk w (by rw [List.length_map]; exact hz) (fun i ys H' => Same H H' ∧ ys = ((as.take i).filter p).map f) ⟨Same.refl H, rfl⟩ (fun i ys H' _ q => h0 H' q.1) (fun i ys H' q => ?_) (fun i x ys H' hx q => ?_) (fun ys H' q => ?_)
  · rw [q.2, List.length_map]
    exact Nat.le_trans (List.length_filter_le _ _) (by rw [List.length_take]; omega)
  · obtain ⟨s1, e⟩ := q
    rw [List.getElem?_map] at hx
    cases ha : as[i]? with
    | none => rw [ha] at hx; cases hx
    | some a =>
      rw [ha] at hx
      have hx' : g a = x := Option.some.inj hx
      subst hx'
      have hm : a ∈ as := List.mem_of_getElem? ha
      refine ht a H' _ hm s1 fun H2 s2 => ?_
      cases hp : p a with
      | false =>
        rw [if_neg Bool.false_ne_true]
        exact ⟨⟨_, rfl⟩, s1.trans s2, by rw [e, take_snoc ha, List.filter_append, List.map_append]; simp [hp]⟩
      | true =>
        rw [if_pos rfl]
        exact he a H2 _ hm hp (s1.trans s2) fun H3 s3 => ⟨⟨_, rfl⟩, (s1.trans s2).trans s3, by rw [e, take_snoc ha, List.filter_append, List.map_append]; simp [hp]⟩
  · obtain ⟨s1, e⟩ := q
    rw [e, List.length_map, List.take_length]
    exact hd H' s1
theorem filter_yes {α : Type} (as : List α) : as.filter (fun _ => true) = as := List.filter_eq_self.mpr fun _ _ => rfl
/-! ### the kinds of plain things -/
def plainTs : List String := ["NoneType", "bool", "int", "str", "list", "tuple", "dict"]
structure Pl (K : PySem.W.Frag) (H : Hp) (x : V) (T : String) : Prop where
  ty : TyOf K H x (.type T)
  mem : T ∈ plainTs
  sz : ∀ z, x = .str z → z.length ≤ sizeLine
def isiN (T S : String) : Bool := T == S || (T == "bool" && S == "int")
theorem isi_plain {K : PySem.W.Frag} {T S : String} (hT : T ∈ plainTs) (hS : S ∈ plainTs) : PySem.W.kitOne K (.type T) (.type S) = some (isiN T S) := by
  simp only [plainTs, List.mem_cons, List.not_mem_nil, or_false] at hT hS
  rcases hT with rfl | rfl | rfl | rfl | rfl | rfl | rfl <;> rcases hS with rfl | rfl | rfl | rfl | rfl | rfl | rfl <;> rfl
theorem Pl.of_str {K : PySem.W.Frag} {H : Hp} {z : Str} (h : z.length ≤ sizeLine) : Pl K H (.str z) "str" := ⟨.str z, by decide, fun _ e => by cases e; exact h⟩
theorem Pl.of_int {K : PySem.W.Frag} {H : Hp} {i : Int} : Pl K H (.int i) "int" := ⟨.int i, by decide, fun _ e => by cases e⟩
/-  isinstance of a plain thing -/
def rIsP (K : PySem.W.Frag) : List V → Hp → VK → Prop := fun xs H Q => ∃ x S T, xs = [x, .ty S] ∧ Pl K H x T ∧ S ∈ plainTs ∧ Q (.bl (isiN T S)) H
theorem call_isP {X : Cx} : CallR X (.builtin "isinstance") (rIsP X.K) := by
  intro pins s σ H xs us Q I r h
  obtain ⟨x, S, T, rfl, p, hS, q⟩ := h
  exact call_isi pins s σ H _ us Q I r ⟨x, S, .type T, _, rfl, p.ty, isi_plain p.mem hS, q⟩
end L2
set_option maxHeartbeats 4000000
namespace L2
open PySem PySem.Spec PyProof.Rows
section
variable {X : Cx}
end
/-! ### loops over what is known -/
/-! ### items -/
theorem ixL_of {K : PySem.W.Frag} {H : Hp} {p : Addr} {xs : List V} {i : Int} {Q : VK} (h : SqL K H p xs) (h0 : 0 ≤ i) (h1 : i < xs.length) (q : ∀ v, xs[i.toNat]? = some v → Q v H) : rIxL K (.ref p) (.int i) H Q := by
  have hj : i.toNat < xs.length := by omega
  refine ⟨p, xs, i, xs[i.toNat], rfl, rfl, h, ?_, q _ (List.getElem?_eq_getElem hj)⟩
  have e := atI_nat (List.getElem?_eq_getElem hj)
  rwa [Int.toNat_of_nonneg h0] at e
theorem ixT_of {K : PySem.W.Frag} {H : Hp} {p : Addr} {xs : List V} {i : Int} {Q : VK} (h : SqT K H p xs) (h0 : 0 ≤ i) (h1 : i < xs.length) (q : ∀ v, xs[i.toNat]? = some v → Q v H) : rIxT K (.ref p) (.int i) H Q := by
  have hj : i.toNat < xs.length := by omega
  refine ⟨p, xs, i, xs[i.toNat], rfl, rfl, h, ?_, q _ (List.getElem?_eq_getElem hj)⟩
  have e := atI_nat (List.getElem?_eq_getElem hj)
  rwa [Int.toNat_of_nonneg h0] at e
theorem ixS_of {H : Hp} {z : Str} {i : Int} {Q : VK} (hz : z.length ≤ sizeLine) (h0 : 0 ≤ i) (h1 : i < z.length) (q : ∀ c, z.cps.toList[i.toNat]? = some c → Q (sgn c) H) : rIxS (.str z) (.int i) H Q := by
  have hl : z.cps.toList.length = z.length := by simp [Str.length]
  have hj : i.toNat < z.cps.toList.length := by omega
  refine ⟨z, i, z.cps.toList[i.toNat], rfl, rfl, hz, ?_, q _ (List.getElem?_eq_getElem hj)⟩
  have e := atI_nat (List.getElem?_eq_getElem hj)
  rwa [Int.toNat_of_nonneg h0] at e
/-! ### texts put together of their signs -/
theorem glue_go (parts : List Str) (acc : Array Nat) : (parts.foldl (fun acc p => acc ++ (#[] : Array Nat) ++ p.cps) acc).toList = acc.toList ++ (parts.map fun p => p.cps.toList).flatten := by
  induction parts generalizing acc with
  | nil => simp
  | cons a r ih => rw [List.foldl_cons, ih]; simp
theorem join_cps (parts : List Str) : (Txt.join (Str.ofString "") parts).cps.toList = (parts.map fun p => p.cps.toList).flatten := by
  show (Builtin.Str.glued (Str.ofString "") parts).cps.toList = _
  have e : (Str.ofString "").cps = #[] := by decide
  unfold Builtin.Str.glued
  rw [e]
  cases parts with
  | nil => rfl
  | cons a r =>
    show (r.foldl _ a.cps).toList = _
    rw [glue_go]; simp
theorem flat_signs : ∀ cs : List Nat, ((cs.map fun c => (⟨#[c]⟩ : Str)).map fun p => p.cps.toList).flatten = cs
  | [] => rfl
  | a :: r => by
    have ih := flat_signs r
    simp only [List.map_cons, List.flatten_cons, ih]
    rfl
theorem str_of_cps {z : Str} {cs : List Nat} (h : z.cps.toList = cs) : z = ⟨cs.toArray⟩ := by
  subst h
  cases z with
  | mk a => rfl
theorem join_signs (cs : List Nat) : Txt.join (Str.ofString "") (cs.map fun c => ⟨#[c]⟩) = ⟨cs.toArray⟩ :=
  str_of_cps ((join_cps (cs.map fun c => (⟨#[c]⟩ : Str))).trans (flat_signs cs))
theorem strs_of_signs (cs : List Nat) : cs.map sgn = (cs.map fun c => (⟨#[c]⟩ : Str)).map V.str := by rw [List.map_map]; rfl
theorem sum_ones (cs : List Nat) : ((cs.map fun c => (⟨#[c]⟩ : Str)).map (·.length)).sum = cs.length := by
  induction cs with
  | nil => rfl
  | cons a r ih => simp only [List.map_cons, List.sum_cons, ih, List.length_cons]; show 1 + _ = _; omega
/-  "".join of signs -/
theorem joinS_of {K : PySem.W.Frag} {H : Hp} {p : Addr} {cs : List Nat} {Q : VK} (h : SqL K H p (cs.map sgn)) (hl : cs.length ≤ 1000000) (q : Q (.str ⟨cs.toArray⟩) H) : rJoin K (.str (Str.ofString "")) [.ref p] H Q := by
  refine ⟨Str.ofString "", p, cs.map fun c => ⟨#[c]⟩, rfl, rfl, by rw [← strs_of_signs]; exact h, ?_, ?_⟩
  · rw [sum_ones, List.length_map]
    have e : (Str.ofString "").length = 0 := by decide
    rw [e]; omega
  · rw [join_signs]; exact q
/-! ### == of lists of truths -/
end L2
set_option maxHeartbeats 4000000
namespace L2
open PySem PySem.Spec PyProof.Rows
/-! ### the rules that name the text's own objects, for a letter K -/
section
variable {X : Cx} {K : PySem.W.Frag} (e : X.K = K)
include e
theorem k_isP : CallR X (.builtin "isinstance") (rIsP K) := by subst e; exact call_isP
def rLenS (K : PySem.W.Frag) : List V → Hp → VK → Prop := fun xs H Q => ∃ p ys, xs = [.ref p] ∧ (SqL K H p ys ∨ SqT K H p ys) ∧ Q (.int ys.length) H
theorem k_len : CallR X (.builtin "len") (rLenS K) := by subst e; exact call_len_seq
def rLenV (K : PySem.W.Frag) : List V → Hp → VK → Prop := fun xs H Q => ∃ x n, xs = [x] ∧ LenV K x H n ∧ Q (.int n) H
def rListOf (K : PySem.W.Frag) : List V → Hp → VK → Prop := fun xs H Q => ∃ p ys, xs = [.ref p] ∧ (SqL K H p ys ∨ SqT K H p ys) ∧ ∀ l, H l = none → Q (.ref l) (upd H l (.lst ys))
theorem k_list : CallR X (.type "list") (rListOf K) := by subst e; exact call_list_of
def rTupleOf (K : PySem.W.Frag) : List V → Hp → VK → Prop := fun xs H Q => ∃ p ys, xs = [.ref p] ∧ ((SqL K H p ys ∧ ∀ l, H l = none → Q (.ref l) (upd H l (.tup ys))) ∨ (SqT K H p ys ∧ Q (.ref p) H))
theorem k_tuple : CallR X (.type "tuple") (rTupleOf K) := by subst e; exact call_tuple_of
theorem k_ixL : IxR X (rIxL K) := by subst e; exact ix_list
theorem k_ixT : IxR X (rIxT K) := by subst e; exact ix_tup
theorem k_slL : SlR X (rSlL K) := by subst e; exact sl_list
theorem k_neD (hu : X.A.units + 64 < cLine) : OpR X (compareOp .NotEq) (rEqD K true) := by subst e; exact op_neD hu
theorem k_notIn : OpR X (compareOp .NotIn) (rIn K true) := by subst e; exact op_notIn_seq
theorem k_join : MtR X "str.join" (rJoin K) := by subst e; exact mt_join
theorem k_piL {tg l : Expr} {tl : TE} (hl : PE X l tl) : PI X tg l (iList K tl) := by subst e; exact pi_list hl
theorem k_pgT {es : List Expr} {k : Nat} {t : TGs} {n : Nat} {pos : Pos} (hc : X.calm = true) (h : PGs X es t) (hn : (assignEach es X.env).length = n := by rfl) (hst : (assignEach es X.env).findIdx? (·.1) = none := by rfl) : PG X (.Tuple es k pos) (gTup K n t) := by subst e; exact pg_tup hc h hn hst
theorem k_bm {o a : Expr} {es : List Expr} {to : TE} {t : TA} {name : Str} {apos cpos : Pos} {T id : String} {r : V → List V → Hp → VK → Prop} (pa : PlainAttrs T) (slot : Slot T name id) (hty : typeOf (.builtin id) = pure (.type "method_descriptor")) (hm : MtR X id r) (ho : PE X o to) (ha : PA X (a :: es) t)
    (hbase : attributeBase o name X.env (eval o X.env) = eval o X.env := by rfl)
    (hfew : ((backTo cpos (starEach (a :: es) X.env)).all (fun x => !x.1) && (backToKw cpos (keywordEach [] X.env)).all (fun x => x.1.isSome)
      && decide ((a :: es).length + ([] : List Keyword).length + (if ([] : List Keyword).isEmpty then 0 else 1) < 30)) = true := by rfl)
    (hline : (apos.endLine == cpos.line) = true := by rfl) (hs : starEach (a :: es) X.env = (false, eval a X.env) :: starEach es X.env := by rfl) (hplain : (backTo cpos (starEach es X.env)).any (·.1) = false := by rfl) :
    PE X (.Call (.Attribute o name apos) (a :: es) [] cpos) (tBM K T r to t) := by subst e; exact pe_bm pa slot hty hm ho ha hbase hfew hline hs hplain
end
end L2
namespace L2
open PySem PySem.Spec PyProof.Rows
/-! ### arguments without stars, by a look -/
def notStar : Expr → Bool
  | .Starred _ _ => false
  | _ => true
theorem star_cons {e : Expr} {es : List Expr} {env : Env} (h : notStar e = true) : starEach (e :: es) env = (false, eval e env) :: starEach es env := by
  cases e <;> first | rfl | cases h
theorem star_none {env : Env} : ∀ {es : List Expr}, es.all notStar = true → (starEach es env).any (·.1) = false
  | [], _ => rfl
  | e :: es, h => by
    rw [List.all_cons, Bool.and_eq_true] at h
    rw [star_cons h.1, List.any_cons, star_none h.2]; rfl
theorem back_none {env : Env} {pos : Pos} {es : List Expr} (h : es.all notStar = true) : (backTo pos (starEach es env)).any (·.1) = false := by
  have := star_none (env := env) h
  unfold backTo
  rw [List.any_map]
  exact this
section
variable {X : Cx} {e : Expr} {es : List Expr} {te : TE} {t : TA}
theorem pal (hn : notStar e = true) (ha : PE X e te) (hr : PA X es t) : PA X (e :: es) (tCons te t) := pa_cons ha hr (star_cons hn)
theorem pe_defL {x : Str} {st : Stmt} {ps : List Str} {f : Addr} {fd : FuncData} {k : Nat} {sp : Sp} {p pos : Pos} (D : DefOk X.K X.mg x st ps f fd) (G : FnOk X.prog X.w X.K X.mg X.base CX0 k f fd ps sp) (hr : Room k X.A)
    (hg : Gl X x) (hdb : (x == ("__debug__" : Str)) = false) (hn : (e :: es).all notStar = true) (ha : PA X (e :: es) t) :
    PE X (.Call (.Name x p) (e :: es) [] pos) (tCall sp [] E0 t) :=
  have h : notStar e = true ∧ es.all notStar = true := by rw [List.all_cons, Bool.and_eq_true] at hn; exact hn
  pe_call G hr hg D.m D.F.kp D.b .nil pass0 ha hdb (star_cons h.1) (back_none h.2)
theorem pe_cB {x : Str} {p pos : Pos} {id : String} {r : List V → Hp → VK → Prop} (hc : CallR X (.builtin id) r) (hm : X.mg x = none) (hv : bootBuiltins x = some (.builtin id)) (hg : Gl X x) (hn : x ≠ "__name__") (hdb : (x == ("__debug__" : Str)) = false)
    (hs : (e :: es).all notStar = true) (ha : PA X (e :: es) t) : PE X (.Call (.Name x p) (e :: es) [] pos) (tCB r t) :=
  have h : notStar e = true ∧ es.all notStar = true := by rw [List.all_cons, Bool.and_eq_true] at hs; exact hs
  pe_callB hc hg hm hv ha hn hdb (star_cons h.1) (back_none h.2)
theorem pe_cTy {x : Str} {p pos : Pos} {T : String} {r : List V → Hp → VK → Prop} (hc : CallR X (.type T) r) (hm : X.mg x = none) (hv : bootBuiltins x = some (.type T)) (hg : Gl X x) (hn : x ≠ "__name__") (hdb : (x == ("__debug__" : Str)) = false)
    (hs : (e :: es).all notStar = true) (ha : PA X (e :: es) t) : PE X (.Call (.Name x p) (e :: es) [] pos) (tCB r t) :=
  have h : notStar e = true ∧ es.all notStar = true := by rw [List.all_cons, Bool.and_eq_true] at hs; exact hs
  pe_callTy hc hg hm hv ha hn hdb (star_cons h.1) (back_none h.2)
theorem back_all {env : Env} {pos : Pos} {es : List Expr} (h : es.all notStar = true) : (backTo pos (starEach es env)).all (fun x => !x.1) = true := by
  have := back_none (env := env) (pos := pos) h
  rw [List.any_eq_false] at this
  rw [List.all_eq_true]
  intro x hx
  have := this x hx
  simpa using this
theorem k_bmL {K : PySem.W.Frag} {o a : Expr} {to : TE} {name : Str} {apos cpos : Pos} {T id : String} {r : V → List V → Hp → VK → Prop} (ek : X.K = K) (pa : PlainAttrs T) (slot : Slot T name id) (hty : typeOf (.builtin id) = pure (.type "method_descriptor")) (hm : MtR X id r)
    (hbase : attributeBase o name X.env (eval o X.env) = eval o X.env) (hs : (a :: es).all notStar = true) (hsz : decide ((a :: es).length + 0 + 0 < 30) = true) (hline : (apos.endLine == cpos.line) = true) (ho : PE X o to) (ha : PA X (a :: es) t) :
    PE X (.Call (.Attribute o name apos) (a :: es) [] cpos) (tBM K T r to t) :=
  have h : notStar a = true ∧ es.all notStar = true := by rw [List.all_cons, Bool.and_eq_true] at hs; exact hs
  k_bm ek pa slot hty hm ho ha hbase (by rw [back_all hs]; exact hsz) hline (star_cons h.1) (back_none h.2)
end
end L2
namespace L2
open PySem PySem.Spec PyProof.Rows
/-  what the walk of a loop is to show -/
def ForW (J : It) (g : TG) (tb : TS) (D : Ends) (σ : St) (H1 : Hp) : Prop := ∃ W : Nat → Nat → St → Hp → Prop, (∃ m, W 0 m σ H1) ∧ ∀ i m σ H, W i m σ H →
  (J.stop i H ∧ D.nx σ H) ∨ (J.go i H ∧ ∃ N : St → Hp → Prop, (∀ σ' H', N σ' H' → ∃ m', m' < m ∧ W (i + 1) m' σ' H') ∧ ∀ x H', J.yld i H x H' → g x σ H' fun σ2 H2 => tb { D with nx := N, ct := N, bk := D.nx } σ2 H2)
theorem for_in {wi : TI} {g : TG} {tb : TS} {D : Ends} {σ : St} {H : Hp} (h : wi σ H fun J H1 => ForW J g tb D σ H1) : tFor wi g tb D σ H := h
theorem ForW.of {g : TG} {tb : TS} {D : Ends} {σ : St} {H : Hp} {J : It} {xs : List V} {ok : Hp → Prop} (w : Walk J xs ok) (Pv : Nat → St → Hp → Prop) (h0 : Pv 0 σ H) (hl : ∀ i σ H, i ≤ xs.length → Pv i σ H → ok H)
    (hs : ∀ i x σ H, xs[i]? = some x → Pv i σ H → g x σ H fun σ2 H2 => tb { D with nx := Pv (i + 1), ct := Pv (i + 1), bk := D.nx } σ2 H2) (hd : ∀ σ H, Pv xs.length σ H → D.nx σ H) : ForW J g tb D σ H := for_walk w Pv h0 hl hs hd
end L2
set_option maxHeartbeats 4000000
namespace L2
open PySem PySem.Spec PyProof.Rows
/-! ### slices of texts -/
def cutL {α : Type} (xs : List α) (lo hi : Option Int) : List α := (xs.drop (HT.sIx xs.length 0 lo)).take (HT.sIx xs.length xs.length hi - HT.sIx xs.length 0 lo)
theorem pick_cut {α : Type} (xs : List α) (a : Nat) : ∀ k : Nat, ((List.range k).map (a + ·)).filterMap (fun i => xs[i]?) = (xs.drop a).take k
  | 0 => by simp
  | k + 1 => by
    rw [List.range_succ, List.map_append, List.filterMap_append, pick_cut xs a k, List.take_add_one, List.getElem?_drop]
    cases h : xs[a + k]? <;> simp [h]
theorem clip_is (v : Option Int) (n d : Nat) (hd : d ≤ n) : (match v with | none => (d : Int) | some i => max 0 (min (if i < 0 then i + (n : Int) else i) (n : Int))) = ((HT.sIx n d v : Nat) : Int) := by
  cases v with
  | none => rfl
  | some i =>
    unfold HT.sIx
    dsimp only
    by_cases h : i < 0
    · simp only [h, if_true] <;> omega
    · simp only [h, if_false] <;> omega
theorem indices_is (lo hi : Option Int) (n : Nat) : Builtin.Str.strSliceIndices lo hi 1 n = (List.range (HT.sIx n n hi - HT.sIx n 0 lo)).map (HT.sIx n 0 lo + ·) := by
  have e1 := clip_is lo n 0 (Nat.zero_le _)
  have e2 := clip_is hi n n (Nat.le_refl _)
  rw [← sliceRange_one, ← e1, ← e2]
  unfold Builtin.Str.strSliceIndices
  simp only [show (1 : Int) > 0 by decide, if_true]
  cases lo <;> cases hi <;> rfl
theorem slice_cps (x : Str) (lo hi : Option Int) : (Txt.slice x lo hi).cps.toList = cutL x.cps.toList lo hi := by
  have hl : x.cps.toList.length = x.length := by simp [Str.length]
  unfold Txt.slice cutL
  rw [indices_is, hl]
  split
  · rename_i h
    have h : (HT.sIx x.length x.length hi - HT.sIx x.length 0 lo) = x.length := by simpa using h
    have h2 := HT.sIx_le x.length x.length (Nat.le_refl _) hi
    by_cases h0 : x.length = 0
    · have : x.cps.toList = [] := List.eq_nil_of_length_eq_zero (by omega)
      rw [this]; simp
    · have h3 : HT.sIx x.length 0 lo = 0 := by omega
      rw [h3, h3] at *
      rw [List.drop_zero, show HT.sIx x.length x.length hi - 0 = x.cps.toList.length by omega, List.take_length]
  · show ((List.map _ _).filterMap fun (i : Nat) => x.cps[i]?) = _
    have e : (fun (i : Nat) => x.cps[i]?) = fun (i : Nat) => x.cps.toList[i]? := by funext i; simp
    rw [e, pick_cut]
section
variable {X : Cx}
def rSlS : V → Option Int → Option Int → Hp → VK → Prop := fun x lo hi H Q => ∃ z, x = .str z ∧ z.length ≤ sizeLine ∧ Q (.str ⟨(cutL z.cps.toList lo hi).toArray⟩) H
theorem sl_str : SlR X rSlS := by
  intro pins s σ H x v vl vu lo hi sl Q I rx hs pl pu h
  obtain ⟨z, rfl, hz, q⟩ := h
  obtain ⟨t, rfl⟩ := rx
  have e : Txt.slice z lo hi = ⟨(cutL z.cps.toList lo hi).toArray⟩ := str_of_cps (slice_cps z lo hi)
  have fin : ∀ t' k, EP X pins σ Q (.str (Txt.slice z lo hi) t') { s with toks := k } := fun t' k => by
    rw [e]; exact ⟨.str _, H, I.tok _, ⟨_, rfl⟩, q⟩
  have hle := Nat.le_trans (Txt.slice_le z lo hi) hz
  refine ⟨"str", _, F.slot_str_getitem.lookup, typeIs_str _ _ _, ?_⟩
  obtain ⟨o, ho, hc, hd⟩ := hs
  cases pl with
  | none =>
    cases pu with
    | none => exact wpAny_getItem_str_slice (l := none) (u := none) (st := none) ⟨o, ho, hc, hd⟩ rfl (post_val_or_str ⟨hle, fin⟩)
    | int j uj => exact wpAny_getItem_str_slice (l := none) (u := some (j, uj)) (st := none) ⟨o, ho, hc, hd⟩ rfl (post_val_or_str ⟨hle, fin⟩)
  | int i ui =>
    cases pu with
    | none => exact wpAny_getItem_str_slice (l := some (i, ui)) (u := none) (st := none) ⟨o, ho, hc, hd⟩ rfl (post_val_or_str ⟨hle, fin⟩)
    | int j uj => exact wpAny_getItem_str_slice (l := some (i, ui)) (u := some (j, uj)) (st := none) ⟨o, ho, hc, hd⟩ rfl (post_val_or_str ⟨hle, fin⟩)
/-! ### find, startswith, < -/
def rFind : V → List V → Hp → VK → Prop := fun x vs H Q => ∃ z y, x = .str z ∧ vs = [.str y] ∧ Q (.int (Txt.find z y)) H
def rStarts : V → List V → Hp → VK → Prop := fun x vs H Q => ∃ z y, x = .str z ∧ vs = [.str y] ∧ Q (.bl (Txt.startswith z y)) H
end
end L2
namespace L2
open PySem
theorem range_item {lo : Int} {n i : Nat} {x : V} (h : (rangeV lo n)[i]? = some x) : i < n ∧ x = .int (lo + i) := by
  have hi : i < n := by have := (List.getElem?_eq_some_iff.mp h).1; rwa [rangeV_len] at this
  rw [rangeV_get hi] at h
  cases h
  exact ⟨hi, rfl⟩
end L2
set_option maxHeartbeats 4000000
namespace L2
open PySem PySem.Spec PyProof.Rows PySem.NumText
/-! ### numbers as texts -/
def dgs (m : Nat) : List Nat := (Nat.toDigits 10 m).map Char.toNat
def numS (n : Int) : List Nat := if n < 0 then 45 :: dgs n.natAbs else dgs n.natAbs
/-! ### cuts -/
theorem cut_to {α : Type} (xs : List α) (k : Nat) : cutL xs none (some (k : Int)) = xs.take k := by
  unfold cutL
  rw [HT.sIx_nat, HT.sIx_none, List.drop_zero, Nat.sub_zero]
  by_cases h : k ≤ xs.length
  · rw [Nat.min_eq_left h]
  · rw [Nat.min_eq_right (by omega), List.take_length, List.take_of_length_le (by omega)]
theorem str_eq_iff {z w : Str} : z = w ↔ z.cps.toList = w.cps.toList := ⟨fun e => by rw [e], fun e => by
  cases z with
  | mk a => cases w with
    | mk b => exact congrArg Str.mk (Array.toList_inj.mp e)⟩
section
variable {X : Cx}
/-! ### int(text), str(value), text * n -/
def rIntT : List V → Hp → VK → Prop := fun xs H Q => ∃ z n, xs = [.str z] ∧ intText? z = some n ∧ z.length ≤ 640 ∧ Q (.int n) H
/-  str of a number or a text -/
def rStrA : List V → Hp → VK → Prop := fun xs H Q => (∃ i, xs = [.int i] ∧ i.natAbs < 10 ^ 100 ∧ Q (.str ⟨(numS i).toArray⟩) H) ∨ ∃ z, xs = [.str z] ∧ Q (.str z) H
end
end L2
namespace L2
open PySem PySem.Spec PyProof.Rows
section
variable {X : Cx}
def rRepS : R2 := fun x y H Q => ∃ z n, x = .str z ∧ y = .int n ∧ MulOk z n ∧ Q (.str (Txt.mul z n)) H
theorem op_rep_str : OpR X (binaryOp .Mult) rRepS := by
  intro pins s σ H x y v u Q I rx ry h
  obtain ⟨z, n, rfl, rfl, hm, q⟩ := h
  obtain ⟨t, rfl⟩ := rx
  obtain ⟨t', rfl⟩ := ry
  exact SB.mul hm fun t' k => ⟨.str _, H, I.tok _, ⟨_, rfl⟩, q⟩
end
end L2
namespace L2
open PySem
/-! ### while -/
end L2
set_option maxHeartbeats 1000000
namespace L2
open PySem PySem.Spec PyProof.Rows
/-! ### an exception in flight: its own object and its last entry, both untracked and not of the heap G -/
def Trc (H : Hp) (h G : Heap) (e : Addr) (C : Value) (ed : Option Addr) (fl : Value) : Prop :=
  G.get? e = none ∧ H e = none ∧ ∃ oe vs, h.get? e = some oe ∧ oe.cls = C ∧ oe.dict = ed ∧ oe.data = .fields vs ∧ 1 < vs.size ∧
    ((vs[1]? = some .none ∧ fl = .none) ∨ ∃ T oT ts, vs[1]? = some (.ref T) ∧ G.get? T = none ∧ T ≠ e ∧ H T = none ∧ h.get? T = some oT ∧ oT.data = .fields ts ∧ ts[3]? = some fl)
/-  what stays: all but the exception's own records, the frames up to slots -/
structure Kp (H : Hp) (G : Heap) (fs : List Addr) (h h' : Heap) : Prop where
  keep : ∀ b o, h.get? b = some o → b ∉ fs → (G.get? b ≠ none ∨ H b ≠ none) → h'.get? b = some o
  slot : ∀ b o, h.get? b = some o → b ∈ fs → ∃ sl, h'.get? b = some { o with slots := sl }
  there : ∀ b o, h.get? b = some o → ∃ o', h'.get? b = some o'
  size : h.objs.size ≤ h'.objs.size
theorem Kp.refl (H : Hp) (G : Heap) (fs : List Addr) (h : Heap) : Kp H G fs h h := ⟨fun _ _ e _ _ => e, fun _ o e _ => ⟨o.slots, e⟩, fun _ o e => ⟨o, e⟩, Nat.le_refl _⟩
section
variable {M : Model} {A : Around} {E : Value → Shared → Prop} {s : Shared} {Q : Unit → Shared → Prop} {base : Heap} {env : Env} {outer : List Env} {L e : Addr} {C : Value} {ed : Option Addr} {G : Heap} {H : Hp}
theorem entry_wp {oe : Obj} {vs : Array Value} {head : Value} {hadNext : Bool} (hfr : A.frames = some (env :: outer)) (hl : s.heap.FunFrames base (env :: outer)) (hf : env.frame = some L)
    (he : s.heap.get? e = some oe) (hd : oe.data = .fields vs) (hsz : 1 < vs.size)
    (h : ∀ h' T oT ts, s.heap.objs.size ≤ T → h'.get? e = some (oe.mapFields (·.setIfInBounds 1 (.ref T))) → h'.get? T = some oT → oT.data = .fields ts → ts[3]? = some (rawInt L) →
      (∀ b o, b ≠ e → s.heap.get? b = some o → b ∉ frs (env :: outer) → h'.get? b = some o) → (∀ b o, b ≠ e → s.heap.get? b = some o → ∃ sl, h'.get? b = some { o with slots := sl }) → s.heap.objs.size ≤ h'.objs.size → Q () { s with heap := h' }) :
    wpAny M A (do let a ← frameOf env; let pl ← entryPlaceOf L hadNext; let b ← EntryCells.newEntry head a .none (rawInt L) .none pl; setField (.ref e) 1 b) Q E s := by
  have hene : e ∉ frs (env :: outer) := fun hm => by
    obtain ⟨_, o, ho, hnf⟩ := hl.mem hm
    rw [he] at ho
    cases ho
    exact hnf vs hd
  refine wpAny_bind (wpAny_frameOf_fun hfr hl hf fun h₁ hs₁ => ?_)
  refine wpAny_bind (wpAny_entryPlaceOf fun pl hpl => ?_)
  unfold EntryCells.newEntry newFields
  refine wpAny_bind (wpAny_newObj_type ?_ (hpl.sizeOk5 _ _ _ _ _))
  have he₁ : h₁.get? e = some oe := (hs₁.2.1 e hene).trans he
  generalize hO : ({ cls := .type "traceback", dict := none, data := .fields ([head, .ref L, .none, rawInt L, .none] ++ (if pl.isEmpty then List.replicate 6 Value.none else pl)).toArray } : Obj) = O
  have he₂ := Heap.get?_push_of_some (h := h₁) O he₁
  have hTe : h₁.objs.size ≠ e := Nat.ne_of_gt (Heap.lt_size he₁)
  refine wpAny_setField he₂ hd hsz (h _ h₁.objs.size O _ (Nat.le_of_eq hs₁.1.symm) (Heap.get?_update_self _ he₂ (Obj.isFreed_of_fields (Obj.data_mapFields hd _))) ?_ (by rw [← hO]) ?_ ?_ ?_ ?_)
  · rw [Heap.get?_update_other _ _ (Ne.symm hTe)]
    exact Heap.get?_push_size h₁ (by rw [← hO]; rfl)
  · first | (simp; done) | (rcases hpl with rfl | ⟨_, _, _, _, _, _, _, rfl⟩ <;> simp)
  · intro b o hb ho hn
    rw [Heap.get?_update_other _ _ (Ne.symm hb)]
    exact Heap.get?_push_of_some _ ((hs₁.2.1 b hn).trans ho)
  · intro b o hb ho
    obtain ⟨sl, e1⟩ := hs₁.2.2 b o ho
    exact ⟨sl, by rw [Heap.get?_update_other _ _ (Ne.symm hb)]; exact Heap.get?_push_of_some _ e1⟩
  · rw [Heap.size_after_update, Heap.size_push, hs₁.1]
    exact Nat.le_succ _
/-  the frame is noted -/
theorem note_wp (hfr : A.frames = some (env :: outer)) (hl : s.heap.FunFrames base (env :: outer)) (hf : env.frame = some L) (hH : ∀ b, s.heap.objs.size ≤ b → H b = none) (hG : ∀ b, s.heap.objs.size ≤ b → G.get? b = none) (t : Trc H s.heap G e C ed .none)
    (h : ∀ h', Trc H h' G e C ed (rawInt L) → h'.FunFrames base (env :: outer) → Kp H G (frs (env :: outer)) s.heap h' → Q () { s with heap := h' }) : wpAny M A (noteFrame (.ref e) env) Q E s := by
  obtain ⟨hn, hHe, oe, vs, he, hc, hdi, hd, hsz, ht⟩ := t
  unfold noteFrame
  simp only [hf]
  have nfr : ∀ b o ws, s.heap.get? b = some o → o.data = .fields ws → b ∉ frs (env :: outer) := fun b o ws ho hw hm => by
    obtain ⟨_, o', ho', hnf⟩ := hl.mem hm
    rw [ho] at ho'
    cases ho'
    exact hnf ws hw
  have fin : ∀ (s1 : Shared) (h' : Heap) (T : Addr) (oT : Obj) (ts : Array Value), s.heap.objs.size ≤ T → h'.get? e = some (oe.mapFields (·.setIfInBounds 1 (.ref T))) → h'.get? T = some oT → oT.data = .fields ts → ts[3]? = some (rawInt L) →
      (∀ b o, s.heap.get? b = some o → b ∉ frs (env :: outer) → (G.get? b ≠ none ∨ H b ≠ none) → h'.get? b = some o) → (∀ b o, s.heap.get? b = some o → (∀ ws, o.data ≠ .fields ws) → ∃ sl, h'.get? b = some { o with slots := sl }) →
      (∀ b o, s.heap.get? b = some o → ∃ o', h'.get? b = some o') → s.heap.objs.size ≤ h'.objs.size → Q () { s with heap := h' } := by
    intro s1 h' T oT ts hT e1 e2 e3 e4 k1 k2 k3 k4
    have le : e < s.heap.objs.size := Heap.lt_size he
    refine h h' ⟨hn, hHe, _, _, e1, by rw [Obj.cls_mapFields]; exact hc, ?_, Obj.data_mapFields hd _, by simpa using hsz, .inr ⟨T, oT, ts, by simp [hsz], hG T hT, Nat.ne_of_gt (Nat.lt_of_lt_of_le le hT), hH T hT, e2, e3, e4⟩⟩ (hl.of_keeps fun b o hb hnf => ?_) ⟨k1, fun b o hb hm => ?_, k3, k4⟩
    · rw [← hdi]
      obtain ⟨c, d, dt, sl⟩ := oe
      cases dt <;> rfl
    · obtain ⟨sl, q⟩ := k2 b o hb hnf
      exact ⟨_, q, rfl⟩
    · obtain ⟨_, o', ho', hnf⟩ := hl.mem hm
      rw [hb] at ho'
      cases ho'
      exact k2 b o hb hnf
  have nee : ∀ b o, s.heap.get? b = some o → (G.get? b ≠ none ∨ H b ≠ none) → b ≠ e := fun b o hb hx z => by
    subst z
    rcases hx with hx | hx
    · exact hx hn
    · exact hx hHe
  rcases ht with ⟨h1, _⟩ | ⟨T, oT, ts, h1, hT, hTe, hHT, gT, hdT, h3⟩
  · refine wpAny_bind (wpAny_field he hd h1 ?_)
    rw [if_neg (by decide)]
    refine entry_wp hfr hl hf he hd hsz fun h' T' oT' ts' q1 q2 q3 q4 q5 q6 q7 q8 => fin s h' T' oT' ts' q1 q2 q3 q4 q5 (fun b o hb hm hx => q6 b o (nee b o hb hx) hb hm) (fun b o hb hnf => q7 b o (fun z => ?_) hb) (fun b o hb => ?_) q8
    · subst z
      rw [he] at hb
      cases hb
      exact hnf vs hd
    · by_cases z : b = e
      · subst z
        exact ⟨_, q2⟩
      · obtain ⟨sl, q⟩ := q7 b o z hb
        exact ⟨_, q⟩
  · refine wpAny_bind (wpAny_field he hd h1 ?_)
    rw [if_pos (show (Value.ref T != Value.none) = true from by simp)]
    refine wpAny_bind (wpAny_field gT hdT h3 ?_)
    rw [if_neg (show ¬ ((Value.none == rawInt L) = true) from by simp [rawInt])]
    refine wpAny_bind (wpAny_setField gT hdT (Array.getElem?_eq_some_iff.mp h3).1 ?_)
    have other : ∀ b, b ≠ T → (s.heap.update T (Obj.mapFields (·.setIfInBounds 3 Value.none))).get? b = s.heap.get? b := fun b hb => Heap.get?_update_other _ _ (Ne.symm hb)
    have self := Heap.get?_update_self (Obj.mapFields (·.setIfInBounds 3 Value.none)) gT (Obj.isFreed_of_fields (Obj.data_mapFields hdT _))
    have neT : ∀ b o, s.heap.get? b = some o → (G.get? b ≠ none ∨ H b ≠ none) → b ≠ T := fun b o hb hx z => by
      subst z
      rcases hx with hx | hx
      · exact hx hT
      · exact hx hHT
    have neF : ∀ b o, s.heap.get? b = some o → (∀ ws, o.data ≠ .fields ws) → b ≠ T := fun b o hb hnf z => by
      subst z
      rw [gT] at hb
      cases hb
      exact hnf ts hdT
    have sz : (s.heap.update T (Obj.mapFields (·.setIfInBounds 3 Value.none))).objs.size = s.heap.objs.size := Heap.size_after_update ..
    refine entry_wp hfr (hl.of_keeps fun b o hb hnf => ⟨o, (other b (neF b o hb hnf)).trans hb, rfl⟩) hf ((other e (Ne.symm hTe)).trans he) hd hsz
      fun h' T' oT' ts' q1 q2 q3 q4 q5 q6 q7 q8 => fin s h' T' oT' ts' (by rw [sz] at q1; exact q1) q2 q3 q4 q5 (fun b o hb hm hx => q6 b o (nee b o hb hx) ((other b (neT b o hb hx)).trans hb) hm)
        (fun b o hb hnf => q7 b o (fun z => ?_) ((other b (neF b o hb hnf)).trans hb)) (fun b o hb => ?_) (by rw [sz] at q8; exact q8)
    · subst z
      rw [he] at hb
      cases hb
      exact hnf vs hd
    · by_cases z : b = e
      · subst z
        exact ⟨_, q2⟩
      · by_cases y : b = T
        · subst y
          obtain ⟨sl, q⟩ := q7 b _ z self
          exact ⟨_, q⟩
        · obtain ⟨sl, q⟩ := q7 b o z ((other b y).trans hb)
          exact ⟨_, q⟩
/-  the flight ends -/
theorem flight_wp {fl : Value} (hl : s.heap.FunFrames base outer) (t : Trc H s.heap G e C ed fl)
    (h : ∀ h', Trc H h' G e C ed .none → h'.FunFrames base outer → Kp H G [] s.heap h' → (∀ b o, s.heap.get? b = some o → (∀ ws, o.data ≠ .fields ws) → h'.get? b = some o) → Q () { s with heap := h' }) : wpAny M A (setFlight (.ref e) none) Q E s := by
  obtain ⟨hn, hHe, oe, vs, he, hc, hdi, hd, hsz, ht⟩ := t
  unfold setFlight
  rcases ht with ⟨h1, _⟩ | ⟨T, oT, ts, h1, hT, hTe, hHT, gT, hdT, h3⟩
  · refine wpAny_bind (wpAny_field he hd h1 ?_)
    rw [if_neg (by decide)]
    exact wpAny_pure (h s.heap ⟨hn, hHe, oe, vs, he, hc, hdi, hd, hsz, .inl ⟨h1, rfl⟩⟩ hl (Kp.refl ..) fun _ _ e _ => e)
  · have hs3 : 3 < ts.size := (Array.getElem?_eq_some_iff.mp h3).1
    refine wpAny_bind (wpAny_field he hd h1 ?_)
    rw [if_pos (show (Value.ref T != Value.none) = true from by simp)]
    have other : ∀ b, b ≠ T → (s.heap.update T (Obj.mapFields (·.setIfInBounds 3 ((none : Option Addr).elim Value.none fun f => rawInt f)))).get? b = s.heap.get? b := fun b hb => Heap.get?_update_other _ _ (Ne.symm hb)
    have self := Heap.get?_update_self (Obj.mapFields (·.setIfInBounds 3 ((none : Option Addr).elim Value.none fun f => rawInt f))) gT (Obj.isFreed_of_fields (Obj.data_mapFields hdT _))
    refine wpAny_setField gT hdT hs3 (h _ ⟨hn, hHe, oe, vs, (other e (Ne.symm hTe)).trans he, hc, hdi, hd, hsz, .inr ⟨T, _, _, h1, hT, hTe, hHT, self, Obj.data_mapFields hdT _, by simp [hs3]⟩⟩ (hl.of_keeps fun b o hb hnf => ⟨o, (other b fun z => ?_).trans hb, rfl⟩)
      ⟨fun b o hb _ hx => (other b fun z => ?_).trans hb, fun _ _ _ hm => (nomatch hm), fun b o hb => ?_, Nat.le_of_eq (Heap.size_after_update ..).symm⟩ fun b o hb hnf => (other b fun z => ?_).trans hb)
    · subst z
      rw [gT] at hb
      cases hb
      exact hnf ts hdT
    · subst z
      rcases hx with hx | hx
      · exact hx hT
      · exact hx hHT
    · by_cases z : b = T
      · subst z
        exact ⟨_, self⟩
      · exact ⟨o, (other b z).trans hb⟩
    · subst z
      rw [gT] at hb
      cases hb
      exact hnf ts hdT
end
end L2
set_option maxHeartbeats 1000000
namespace L2
open PySem PySem.Spec PyProof.Rows
/-  an exception behind a call -/
def CXE (P : Program) (w : World) : CXT := fun outer H s E e s' => ∃ a C ed H', e = .ref a ∧ s'.os = s.os ∧ AllBare s'.gens ∧ Un (frs outer) [] H H' s.heap s'.heap ∧ HOk P w H' s'.heap ∧ Trc H' s'.heap s.heap a C ed .none ∧ E C ed H'
theorem Trc.older {H : Hp} {h G G' : Heap} {e : Addr} {C : Value} {ed : Option Addr} {fl : Value} (t : Trc H h G e C ed fl) (hm : ∀ b, G.get? b = none → G'.get? b = none) : Trc H h G' e C ed fl := by
  obtain ⟨hn, hHe, oe, vs, he, hc, hdi, hd, hsz, ht⟩ := t
  refine ⟨hm _ hn, hHe, oe, vs, he, hc, hdi, hd, hsz, ?_⟩
  rcases ht with ht | ⟨T, oT, ts, h1, hT, r⟩
  · exact .inl ht
  · exact .inr ⟨T, oT, ts, h1, hm _ hT, r⟩
theorem get_none {h : Heap} {b : Addr} (hb : h.objs.size ≤ b) : h.get? b = none := Heap.get?_none_of_le hb
theorem Inv.back {X : Cx} {pins : List (Addr × Obj)} {σ : St} {H : Hp} {s : Shared} (I : Inv X pins σ H s) (hex : X.ex = []) (b : Addr) (e : s.heap.get? b = none) : X.s₀.heap.get? b = none := by
  cases q : X.s₀.heap.get? b with
  | none => rfl
  | some o =>
    obtain ⟨o', e'⟩ := I.base.there b o q (by rw [hex]; simp)
    rw [e] at e'; cases e'
/-  the heap G has all that the context leans on -/
structure Cov (X : Cx) (pins : List (Addr × Obj)) (G : Heap) : Prop where
  loc : G.get? X.env.locals ≠ none
  cell : ∀ x c, X.env.cells.lookup x = some c → G.get? c ≠ none
  pin : ∀ p ∈ X.pn ++ pins, G.get? p.1 ≠ none
  old : ∀ b, G.get? b = none → X.s₀.heap.get? b = none
theorem Inv.cov {X : Cx} {pins : List (Addr × Obj)} {σ : St} {H : Hp} {s : Shared} (I : Inv X pins σ H s) (hex : X.ex = []) : Cov X pins s.heap :=
  ⟨by obtain ⟨m, ⟨o, _, _, ho, _⟩, _⟩ := I.loc; rw [ho]; simp, fun x c e => by obtain ⟨v, o, ho, _⟩ := I.cell x c e; rw [ho]; simp, fun p hp => by rw [(I.pin p hp).1]; simp, I.back hex⟩
/-  a context whose exceptions are told by E, at states S -/
structure Told (X : Cx) (S : St → Prop) (E : XK) : Prop where
  ex : X.ex = []
  on : ∀ pins σ H s a C ed G, S σ → Inv X pins σ H s → Trc H s.heap G a C ed .none → Cov X pins G → (∀ b, s.heap.get? b = none → G.get? b = none) → E C ed H → X.xe (.ref a) s
theorem Told.passes {X : Cx} {S : St → Prop} {E : XK} (T : Told X S E) {pins : List (Addr × Obj)} {σ : St} {H : Hp} {s s' : Shared} {e : Value} (hS : S σ) (I : Inv X pins σ H s) (h : CXE X.prog X.w X.stack H s E e s') : X.xe e s' := by
  obtain ⟨a, C, ed, H', rfl, os, bare, un, hok, t, q⟩ := h
  have J : Inv X pins σ H' s' := I.call' os un hok bare (fun b z => absurd z (by simp))
  refine T.on pins σ H' s' a C ed s.heap hS J t (I.cov T.ex) (fun b e => ?_) q
  cases z : s.heap.get? b with
  | none => rfl
  | some o =>
    obtain ⟨o', e'⟩ := un.there b o z (by simp)
    rw [e] at e'; cases e'
theorem Kp.hok {P : Program} {w : World} {H : Hp} {G : Heap} {fs : List Addr} {h h' : Heap} (k : Kp H G fs h h') (hf : ∀ b ∈ fs, H b = none) (ok : HOk P w H h) : HOk P w H h' := fun a o e =>
  (ok a o e).stay (fun b u hb q => by
    have hn : H b ≠ none := by
      rcases hb with rfl | hb
      · rw [e]; simp
      · rw [hb]; simp
    exact k.keep b u q (fun z => hn (hf b z)) (.inr hn)) (fun _ q => q) fun _ _ q => q
/-  it leaves the frame -/
theorem leave_own {X : Cx} {pins : List (Addr × Obj)} {σ : St} {H : Hp} {s : Shared} {a : Addr} {C : Value} {ed : Option Addr} {E : XK} {E' : Value → Shared → Prop} (hf : X.env.frame = some X.env.locals) (hst : X.stack = X.env :: X.outer) (hex : X.ex = [])
    (I : Inv X pins σ H s) (t : Trc H s.heap X.s₀.heap a C ed .none) (q : E C ed H) :
    wpAny (model X.prog X.w) X.A (leaving X.env (.ref a)) (fun _ s' => CXE X.prog X.w X.outer X.H₀ X.s₀ E (.ref a) s') E' s := by
  have stk : s.heap.FunFrames X.base (X.env :: X.outer) := hst ▸ I.stack
  have sfr : ∀ b ∈ frs (X.env :: X.outer), H b = none := hst ▸ I.stkFree
  unfold leaving
  refine wpAny_bind (note_wp (hst ▸ I.ok.frames) stk hf (fun b hb => I.hok.fresh hb) (fun b hb => I.back hex b (get_none hb)) t fun h1 t1 f1 k1 => ?_)
  refine flight_wp (s := { s with heap := h1 }) (outer := X.env :: X.outer) f1 t1 fun h2 t2 f2 k2 _ => ?_
  have hlt : ∀ b o, X.s₀.heap.get? b = some o → X.s₀.heap.get? b ≠ none := fun b o e => by rw [e]; simp
  have hnl : ∀ b o, X.s₀.heap.get? b = some o → b ≠ X.env.locals := fun b o e => Nat.ne_of_lt (Nat.lt_of_lt_of_le (Heap.lt_size e) I.ok.above)
  have mem : ∀ b, b ∈ frs (X.env :: X.outer) → b = X.env.locals ∨ b ∈ frs X.outer := fun b hb => by
    unfold frs at hb ⊢
    rw [List.filterMap_cons, hf] at hb
    exact List.mem_cons.mp hb
  have mem2 : ∀ b, b ∈ frs X.outer → b ∈ frs (X.env :: X.outer) := fun b hb => by
    unfold frs at hb ⊢
    rw [List.filterMap_cons, hf]
    exact List.mem_cons_of_mem _ hb
  refine ⟨a, C, ed, H, rfl, I.os, I.bare, ⟨fun b o e hn hb _ => ?_, fun b o e hn hb _ => ?_, fun b o e hn _ => ?_, fun b o e _ => ?_, I.base.tups, I.base.frzs, I.base.tbls⟩, k2.hok (fun _ z => absurd z (by simp)) (k1.hok sfr I.hok), t2, q⟩
  · have e1 := I.base.keep b o e hn hb (by rw [hex]; simp)
    have e2 := k1.keep b o e1 (fun z => (mem b z).elim (hnl b o e) hb) (.inl (hlt b o e))
    exact k2.keep b o e2 (by simp) (.inl (hlt b o e))
  · obtain ⟨sl, e1⟩ := I.base.slot b o e hn hb (by rw [hex]; simp)
    obtain ⟨sl', e2⟩ := k1.slot b _ e1 (mem2 b hb)
    exact ⟨sl', k2.keep b _ e2 (by simp) (.inl (hlt b o e))⟩
  · exact I.base.free b o e hn (by rw [hex]; simp)
  · obtain ⟨o1, e1⟩ := I.base.there b o e (by rw [hex]; simp)
    obtain ⟨o2, e2⟩ := k1.there b o1 e1
    exact k2.there b o2 e2
theorem told_cx {P : Program} {w : World} {K : PySem.W.Frag} {mg : Str → Option Value} {base : Heap} {N : List Str} {qual : Str} {scope : Scope} {f : Addr} {cd : Value} {A : Around} {outer : List Env} {s : Shared} {H : Hp} {E : XK} :
    Told (cxOf (CXE P w) P w K mg base N qual scope f cd A outer s H E) (fun _ => True) E := ⟨rfl, fun _ _ _ _ _ _ _ _ _ I t c _ q => leave_own (X := cxOf (CXE P w) P w K mg base N qual scope f cd A outer s H E) rfl rfl rfl I (t.older c.old) q⟩
/-  THE RULE for a def out of which exceptions may come -/
theorem Fun.okX {P : Program} {w : World} {K : PySem.W.Frag} {mg : Str → Option Value} {base : Heap} {x qual : Str} {st : Stmt} {f : Addr} {fd : FuncData} {N ps : List Str} {k : Nat} {sp : Sp} (F : Fun K x qual st f fd) (S : FnScope N ps (defScope st)) (len : ∀ vs H Q E, sp vs H Q E → vs.length = ps.length)
    (hbody : ∀ (cdv : Value) (A : Around) (outer : List Env) (s : Shared) (H : Hp) (vs : List V) (Q : VK) (E : XK), Room k (A.deeper (envOfC qual (defScope st) s.heap.objs.size f cdv)) → sp vs H Q E →
      ∃ t, PSs (cxOf (CXE P w) P w K mg base N qual (defScope st) f cdv A outer s H E) (defBody st) t ∧ t { nx := fun _ H' => Q .non H', rt := Q } (start N vs) H) : FnOk P w K mg base (CXE P w) (k + 1) f fd ps sp := by
  obtain ⟨oc, od, kV, doc, pm, an, cdv, ct, osl, rfl, lk, hcd⟩ := F.ex
  exact fn_of lk hcd S len fun A outer s H vs Q E hr hsp => hbody cdv A outer s H vs Q E hr hsp
section
variable {X : Cx} {k : Nat} {f C : Addr} {fd : FuncData} {ps : List Str} {sp : Sp} {x m : Str} {p pos apos : Pos} {e o : Expr} {es : List Expr} {ta : TE} {t : TA} {S : St → Prop} {E : XK}
theorem run_fnX {pins : List (Addr × Obj)} {σ : St} {H : Hp} {s : Shared} {Q : VK} {us : List Value} {vs : List V} (T : Told X S E) (F : FnOk X.prog X.w X.K X.mg X.base (CXE X.prog X.w) k f fd ps sp) (hr : Room k X.A) (hb : Binds X.K fd ps []) (hS : S σ)
    (I : Inv X pins σ H s) (r : Vals vs us) (h : sp vs H Q E) : wpAny (model X.prog X.w) X.A (call (.ref f) us) (EP X pins σ Q) X.xe s := by
  have hl : (us ++ ([] : List Value)).length = ps.length := by rw [List.append_nil, ← r.length]; exact F.len _ _ _ _ h
  have bd := hb s us I.kIn hl
  rw [List.append_nil] at bd
  refine wpAny_call (codeAny_mono (F.run X.A X.stack s H ⟨us, []⟩ us vs Q E hr I.env0 bd r h) fun r s' hq => ?_)
  match r, hq with
  | .error e, hq => exact T.passes hS I hq
  | .ok (.ret u), hq => exact I.after hq
  | .ok .next, hq => exact False.elim hq
  | .ok .brk, hq => exact False.elim hq
  | .ok .cont, hq => exact False.elim hq
/-  f(..), out of which exceptions may come -/
def tCallX (S : St → Prop) (sp : Sp) (E : XK) (t : TA) : TE := fun σ H Q => t σ H fun vs H1 => S σ ∧ sp vs H1 Q E
theorem pe_defX {st : Stmt} (T : Told X S E) (D : DefOk X.K X.mg x st ps f fd) (G : FnOk X.prog X.w X.K X.mg X.base (CXE X.prog X.w) k f fd ps sp) (hr : Room k X.A)
    (hg : Gl X x) (hdb : (x == ("__debug__" : Str)) = false) (hn : (e :: es).all notStar = true) (ha : PA X (e :: es) t) :
    PE X (.Call (.Name x p) (e :: es) [] pos) (tCallX S sp E t) := by
  have hs : notStar e = true ∧ es.all notStar = true := by rw [List.all_cons, Bool.and_eq_true] at hn; exact hn
  intro pins s σ H Q I h
  refine wpAny_Call_Name_kw (ld_glob I hg D.m ?_ hdb)
  refine PySem.W.callWith_K (h₀ := X.base) I.ok.mod.kin D.F.kp (thn (ha pos pins s σ H _ I h) fun us s1 ⟨vs, H1, I1, r, hS, q⟩ => ⟨I1.kIn, ?_⟩) (star_cons hs.1) (back_none hs.2)
  exact run_fnX T G hr D.b hS I1 r q
end
end L2
set_option maxHeartbeats 1000000
namespace L2
open PySem PySem.Spec PyProof.Rows
/-! ### own exceptions under ValueError -/
abbrev vbm : List Value := [.type "ValueError", .type "Exception", .type "BaseException", .type "object"]
theorem ns_any {K : PySem.W.Frag} {h : Heap} {N : Addr} {mg : Str → Option Value} {n : Str} {r : Option Value} (X : K.In h) (G : h.Ns N mg) (e : PySem.W.nsIn K N n = some r) : mg n = r := by
  obtain ⟨o, es, ep, ho, hd, _, hf⟩ := G
  unfold PySem.W.nsIn at e
  split at e
  · rename_i q
    have z := X _ _ q
    rw [ho] at z
    cases z
    cases hd
    rw [← hf]
    unfold nsFind findBy
    rw [← Array.find?_toList]
    split at e
    · rename_i he
      rw [he]
      exact Option.some.inj e
    · rename_i he
      rw [he]
      split at e
      · cases e
      · exact Option.some.inj e
  · cases e
/-  the class at C is an exception's under ValueError, with (or without) an own __init__ -/
def exB (K : PySem.W.Frag) (C : Addr) (ini : Option Value) : Bool := match K.lookup C with
  | some ⟨.type "type", _, .cls cd, sl⟩ => (match cd.mro, sl.toList with
    | .ref C' :: bm, [_, _, _, _, some (.builtin n), _] => C' == C && (n == "ValueError.__new__" && (PySem.W.tailIn K vbm bm && (!cd.hasDel && (PySem.W.nsOkIn K cd.ns && PySem.W.nsIn K cd.ns "__init__" == some ini))))
    | _, _ => false)
  | _ => false
theorem exB_obj {K : PySem.W.Frag} {h : Heap} {C : Addr} {ini : Option Value} (X : K.In h) (q : exB K C ini = true) :
    ∃ nm qn N bs bm hd sn sub ab col dd k0 k1 k2 k3 k5, h.get? C = some (excClassObj nm qn C N bs bm hd sn sub ab col dd k0 k1 k2 k3 k5 "ValueError.__new__") ∧ (∃ mN, h.Ns N mN ∧ mN "__init__" = ini) ∧ OwnTail h vbm bm := by
  unfold exB at q
  split at q
  · rename_i dd cd sl ho
    split at q
    · rename_i C' bm k0 k1 k2 k3 n k5 hm hs
      simp only [Bool.and_eq_true, beq_iff_eq, Bool.not_eq_true'] at q
      obtain ⟨rfl, rfl, ht, hdel, hok, hni⟩ := q
      obtain ⟨nm, bs, mro, ns, qn, hd, sn, sub, ab, col, del⟩ := cd
      obtain ⟨l⟩ := sl
      dsimp only at hm hdel hok hni hs
      subst hm hdel hs
      have hN : h.Ns ns (h.nsMap ns) := .of_isNs (PySem.W.isNs_of_in X hok)
      exact ⟨nm, qn, ns, bs, bm, hd, sn, sub, ab, col, dd, k0, k1, k2, k3, k5, X _ _ ho, ⟨_, hN, ns_any X hN hni⟩, PySem.W.tail_of_in X ht⟩
    · cases q
  · cases q
theorem exB_base {h : Heap} {bm : List Value} (T : OwnTail h vbm bm) : bm.contains (.type "BaseException") = true := T.hasType (by decide)
theorem ObjOk.got {P : Program} {w : World} {H : Hp} {h : Heap} {a : Addr} {o : HO} (x : ObjOk P w H h a o) : ∃ u, h.get? a = some u := by
  cases o with
  | lst xs => obtain ⟨_, _, _, _, e⟩ := x; exact ⟨_, e⟩
  | tup xs => obtain ⟨_, _, _, _, e, _⟩ := x; exact ⟨_, e⟩
  | dK kvs => obtain ⟨_, _, _, _, o, _, _, e, _⟩ := x; exact ⟨_, e⟩
  | dT kvs => obtain ⟨_, _, _, _, o, _, _, e, _⟩ := x; exact ⟨_, e⟩
  | set S n => obtain ⟨o, _, _, _, e, _⟩ := x; exact ⟨_, e⟩
  | ins C dx fs => obtain ⟨_, _, _, e, _⟩ := x; exact ⟨_, e⟩
  | own y => exact x
  | xd fs => obtain ⟨_, ⟨_, _, _, e, _⟩, _⟩ := x; exact ⟨_, e⟩
  | rng lo hi => obtain ⟨_, _, _, e⟩ := x; exact ⟨_, e⟩
  | frz ob u => obtain ⟨e, _⟩ := x; exact ⟨_, e⟩
  | tbl ps => exact ⟨_, (show h.get? a = some _ from x)⟩
  | met f y => exact ⟨_, (show h.get? a = some _ from x)⟩
  | ext φ => obtain ⟨_, e, _⟩ := x; exact e
theorem HOk.unheld {P : Program} {w : World} {H : Hp} {h : Heap} {a : Addr} (x : HOk P w H h) (e : h.get? a = none) : H a = none := by
  cases q : H a with
  | none => rfl
  | some o =>
    obtain ⟨u, e'⟩ := (x a o q).got
    rw [e] at e'; cases e'
section
variable {X : Cx} {e : Expr} {es : List Expr} {t : TA} {S : St → Prop} {E : XK}
/-  raise C(..), C without an __init__ of its own -/
def tRaise (S : St → Prop) (E : XK) (C : Addr) (t : TA) : TS := fun _ σ H => t σ H fun vs H1 => S σ ∧ vs.length ≤ sizeLine ∧ E (.ref C) none H1
end
end L2
set_option maxHeartbeats 1000000
namespace L2
open PySem PySem.Spec PyProof.Rows
section
variable {X : Cx} {pins : List (Addr × Obj)} {σ : St} {H : Hp} {s : Shared} {G : Heap}
/-  an untracked object of ours is tracked from here on -/
theorem Inv.hold {a : Addr} {o : HO} (I : Inv X pins σ H s) (c : Cov X pins G) (ha : G.get? a = none) (hH : H a = none) (ok : ObjOk X.prog X.w (upd H a o) s.heap a o) : Inv X pins σ (upd H a o) s := by
  have ne : ∀ b, G.get? b ≠ none → b ≠ a := fun b h z => by subst z; exact h ha
  have ne2 : ∀ b u, H b = some u → b ≠ a := fun b u h z => by subst z; rw [hH] at h; cases h
  have neo : ∀ b o', X.s₀.heap.get? b = some o' → b ≠ a := fun b o' e z => by
    subst z
    have := c.old b ha
    rw [e] at this; cases this
  refine ⟨I.ok, I.os, I.bare, ⟨I.base.keep, I.base.slot, fun b o' e hn hx => by rw [upd_ne (neo b o' e)]; exact I.base.free b o' e hn hx, I.base.there, fun b xs e => ?_, fun b o' u e => ?_, fun b ps e => ?_⟩, I.loc, I.cell, by rw [upd_ne (ne _ c.loc)]; exact I.free, fun x cc e => by rw [upd_ne (ne _ (c.cell x cc e))]; exact I.freeC x cc e, fun p hp => ?_, fun b u e => ?_, I.len⟩
  · have := I.base.tups b xs e
    rw [upd_ne (ne2 b _ this)]; exact this
  · have := I.base.frzs b o' u e
    rw [upd_ne (ne2 b _ this)]; exact this
  · obtain ⟨m, this⟩ := I.base.tbls b ps e
    exact ⟨m, by rw [upd_ne (ne2 b _ this)]; exact this⟩
  · obtain ⟨e, n, r⟩ := I.pin p hp
    exact ⟨e, by rw [upd_ne (ne _ (c.pin p hp))]; exact n, r⟩
  · by_cases z : b = a
    · subst z
      rw [upd_same] at e
      cases e
      exact ok
    · rw [upd_ne z] at e
      exact (I.hok b u e).stay (fun _ _ _ q => q) (fun d q => by rw [upd_ne (ne2 d _ q)]; exact q) fun d xs q => by rw [upd_ne (ne2 d _ q)]; exact q
end
end L2
set_option maxHeartbeats 1000000
namespace L2
open PySem PySem.Spec PyProof.Rows
/-! ### try -/
/-  a caught exception, tracked -/
def ExO (a : Addr) (C : Value) (ed : Option Addr) : HO := .ext fun h => ∃ oe vs, h.get? a = some oe ∧ oe.cls = C ∧ oe.dict = ed ∧ oe.data = .fields vs
section
variable {X : Cx} {pins : List (Addr × Obj)} {σ : St} {H : Hp} {s : Shared} {G : Heap} {W : Value → Shared → Prop}
end
/-  the class at C is the one at B, or stands under it -/
def subB (K : PySem.W.Frag) (C B : Addr) : Bool := match K.lookup C with
  | some ⟨_, _, .cls cd, _⟩ => cd.mro.contains (.ref B)
  | _ => false
end L2
set_option maxHeartbeats 1000000
namespace L2
open PySem PySem.Spec PyProof.Rows
/-  the ends behind a handler's suite: its name is unbound -/
def offE (i : Nat) (D : Ends) : Ends := { nx := fun σ H => D.nx (σ.set i none) H, rt := D.rt, bk := fun σ H => D.bk (σ.set i none) H, ct := fun σ H => D.ct (σ.set i none) H }
/-  except B as n: suite -/
def tAs (K : PySem.W.Frag) (B : Addr) (i : Nat) (ts : TS) (thr : Value → Option Addr → TS) : Value → Option Addr → TS := fun C ed D σ H => ∃ Cc ini b, C = .ref Cc ∧ exB K Cc ini = true ∧ subB K Cc B = b ∧
  if b = true then (∀ a, H a = none → ts (offE i D) (σ.set i (some (.ref a))) (upd H a (ExO a C ed))) else thr C ed D σ H
section
variable {X : Cx}
/-  try: body, handlers -/
def tTry (tb : St → XK → TS) (th : Value → Option Addr → TS) : TS := fun D σ H => tb σ (fun C ed H' => th C ed D σ H') D σ H
end
end L2
set_option maxHeartbeats 1000000
namespace L2
open PySem PySem.Spec PyProof.Rows
/-! ### what is asked of a caught exception -/
section
variable {prog : Program} {w : World} {A : Around} {E : Value → Shared → Prop} {s : Shared} {K : PySem.W.Frag} {a C : Addr} {ox : Obj} {od : Option Obj} {name : Str}
/-  the class of an exception, as it is asked by K -/
structure XCls (K : PySem.W.Frag) (C : Addr) : Prop where
  ga : PySem.W.findIn K (.ref C) "__getattribute__" = some (some (.builtin "BaseException.__getattribute__"))
  gh : PySem.W.findIn K (.ref C) "__getattr__" = some none
  base : PySem.W.mroIn K C (.type "BaseException") = some true
  obj : PySem.W.mroIn K C (.type "object") = some true
  hd : PySem.W.hasDictIn K C = true
  cl : PySem.W.findIn K (.ref C) "__class__" = some (some (.builtin "object.__class__"))
  cg : PySem.W.specialIn K (.builtin "object.__class__") "__get__" = some (some (.builtin "getset_descriptor.__get__"))
  ct : PySem.W.takesIn K (.builtin "object.__class__") = some true
end
end L2
set_option maxHeartbeats 1000000
namespace L2
open PySem PySem.Spec PyProof.Rows
section
variable {K : PySem.W.Frag} {a C : Addr}
end
/-  the dict of a tracked exception is known -/
def XdOk (H : Hp) (ed : Option Addr) : Prop := ed = none ∨ ∃ dx fs, ed = some dx ∧ H dx = some (.xd fs)
section
variable {P : Program} {w : World} {H : Hp} {h : Heap} {a C : Addr} {ed : Option Addr}
end
section
variable {X : Cx}
/-  isinstance(e, B) of a caught exception -/
def rIsX (K : PySem.W.Frag) : List V → Hp → VK → Prop := fun xs H Q => ∃ a C ed b, H a = some (ExO a (.ref C) ed) ∧ XdOk H ed ∧ XCls K C ∧ ((∃ B, xs = [.ref a, .ref B] ∧ PySem.W.kitOne K (.ref C) (.ref B) = some b) ∨ ∃ S, xs = [.ref a, .ty S] ∧ PySem.W.kitOne K (.ref C) (.type S) = some b) ∧ Q (.bl b) H
/-  e.f of a caught exception -/
def tXF (K : PySem.W.Frag) (te : TE) (f : Str) : TE := fun σ H Q => te σ H fun x H1 => ∃ a C dx fs v, x = .ref a ∧ H1 a = some (ExO a (.ref C) (some dx)) ∧ H1 dx = some (.xd fs) ∧ XCls K C ∧ NoAttr K C f ∧ fs.lookup f = some v ∧ Q v H1
end
end L2
set_option maxHeartbeats 1000000
namespace L2
open PySem PySem.Spec PyProof.Rows
/-! ### an exception's own __init__ -/
theorem refuse_tail {h : Heap} {self : Value} : ∀ {tl : List Value}, OwnTail h vbm tl → refuseLoop self "__setattr__" tl = pure ()
  | _, .base => PySem.F.store_ValueError.passes self
  | _, .own _ _ _ T => by rw [refuseLoop_ref]; exact refuse_tail T
section
variable {prog : Program} {w : World} {A : Around} {E : Value → Shared → Prop} {h : Heap} {g : Array GenState} {d : Drawn} {t : Nat} {os : OsState} {K : PySem.W.Frag}
variable {nm q : Str} {C N a : Addr} {bs bm : List Value} {sn : List Str} {sub : List Value} {ab : Bool} {col : Option Bool} {dd : Option Addr} {k0 k1 k2 k3 k5 : Option Value} {newId : String} {name : Str} {v : Value} {o : Obj} {vs : Array Value}
theorem xset_entry {tk : Tok} {Q : Fin → Shared → Prop} (X : K.In h) (hC : h.get? C = some (excClassObj nm q C N bs bm true sn sub ab col dd k0 k1 k2 k3 k5 newId)) (hpass : refuseLoop (.ref a) "__setattr__" bm = pure ())
    (hna : PySem.W.findIn K (.ref C) name = some none) (hx : h.get? a = some o) (hc : o.cls = .ref C) (hd : o.data = .fields vs) (hdn : o.dict = none)
    (hq : ∀ h' tk', h'.get? a = some { o with dict := some h.objs.size } → h'.Ns1 h.objs.size (fun y => if y = name then some v else none) → (∀ b u, b ≠ a → h.get? b = some u → h'.get? b = some u) → Q (.done (.ret .none)) ⟨h', g, d, tk', os⟩) :
    wpAny (model prog w) A (Builtin.«object.__setattr__» ⟨[.ref a, .str name tk, v], []⟩) Q E ⟨h, g, d, t, os⟩ := by
  have L3 := PySem.W.looks_findIn (M := model prog w) X hna
  unfold Builtin.«object.__setattr__»
  repeat (first | rw [refuse_eq] | (rw [refuseLoop_ref, hpass]) | (with_reducible refine wpAny_loadPart_at hx ?_; rw [hc]) | with_reducible refine wpAny_mroOf_exc hC ?_ | with_reducible refine L3.at ?_ | wp_step)
  rw [hdn]
  dsimp only
  rw [if_neg (by simp [typeHasDict]), hd]
  dsimp only
  have ne : a ≠ h.objs.size := Nat.ne_of_lt (Heap.lt_size hx)
  have g1 : (h.push { cls := .type "dict", data := .dict #[] }).get? a = some o := Heap.get?_push_of_some _ hx
  refine wpAny_bind (wpAny_alloc' (wpAny_bind (wpAny_update' g1 (wpAny_pure ?_))))
  generalize hH : (h.push { cls := .type "dict", data := .dict #[] }).update a (fun o => { cls := o.cls, dict := some h.objs.size, data := o.data, slots := o.slots }) = h1
  have g2 : h1.get? h.objs.size = some { cls := .type "dict", data := .dict #[] } := by
    rw [← hH]
    exact (Heap.get?_update_ne _ _ _ _ ne.symm).trans (Heap.get?_push_at rfl rfl)
  have g3 : h1.get? a = some { cls := o.cls, dict := some h.objs.size, data := o.data, slots := o.slots } := by
    rw [← hH]
    refine Heap.get?_update_self _ g1 ?_
    have fr := (Heap.get?_some_iff.mp hx).2
    obtain ⟨oc, od, odt, osl⟩ := o
    cases odt <;> first | rfl | exact fr
  have g4 : ∀ b u, b ≠ a → h.get? b = some u → h1.get? b = some u := fun b u hb e => by
    rw [← hH]
    exact (Heap.get?_update_ne _ _ _ _ hb).trans (Heap.get?_push_of_some _ e)
  have n1 : h1.Ns h.objs.size (fun _ => none) := ⟨_, #[], _, g2, rfl, fun e he => absurd he (by simp), fun _ => rfl⟩
  show wpAny _ _ (Builtin.ObjectAttr.storeInDict h.objs.size (.str name tk) name v) _ _ _
  unfold Builtin.ObjectAttr.storeInDict Builtin.ObjectAttr.newKeyGuard
  refine wpAny_bind (wpAny_pure (wpAny_bind (wpAny_nsSet1 (Heap.Ns1.of_empty n1) fun h2 n2 hs => ?_)))
  obtain ⟨oD, esD, epD, hoD, hdD, hcD⟩ := n2.count (Within.cons name v Within.nil)
  refine wpAny_bind (wpAny_lookBehind hoD (by rw [hdD]; exact pastItsLine_dict (Nat.le_trans hcD (by rw [List.length_cons, List.length_nil, sizeLine_eq]; omega))) ?_)
  wp_walk
  exact hq h2 _ ((hs.2 a ne).trans g3) n2 fun b u hb e => (hs.2 b (Nat.ne_of_lt (Heap.lt_size e))).trans (g4 b u hb e)
theorem xset_attr {Q : Unit → Shared → Prop} (X : K.In h) (hC : h.get? C = some (excClassObj nm q C N bs bm true sn sub ab col dd k0 k1 k2 k3 k5 newId)) (T : OwnTail h vbm bm) (hsa : PySem.W.findIn K (.ref C) "__setattr__" = some (some (.builtin "object.__setattr__")))
    (hna : PySem.W.findIn K (.ref C) name = some none) (hx : h.get? a = some o) (hc : o.cls = .ref C) (hd : o.data = .fields vs) (hdn : o.dict = none)
    (hq : ∀ h' tk', h'.get? a = some { o with dict := some h.objs.size } → h'.Ns1 h.objs.size (fun y => if y = name then some v else none) → (∀ b u, b ≠ a → h.get? b = some u → h'.get? b = some u) → Q () ⟨h', g, d, tk', os⟩) :
    wpAny (model prog w) A (setAttr (.ref a) name v) Q E ⟨h, g, d, t, os⟩ := by
  have SF := PySem.F.store_ValueError
  have J : PySem.W.InstAt h a o C none := ⟨hx, hc, by obtain ⟨c, d, dt, sl⟩ := o; cases hd; rfl, by rw [hdn]; trivial⟩
  have hob : PySem.W.Looks (model prog w) h (isInstance (.ref a) (.type "object")) true := J.type.andThen fun A Q E s k z => by
    obtain ⟨sh, sg, sd, st, so⟩ := s
    refine wpAny_isSubtype_exc (k _ _ hC) ?_
    have : (Value.ref C :: bm).contains (.type "object") = true := by rw [List.contains_cons, T.hasType (X := "object") (b := true) (by decide), Bool.or_true]
    rw [this]; exact z
  refine PySem.W.set_plain (s := ⟨h, g, d, t, os⟩) X J hsa ?_
  refine codeAny_call_builtin SF.slot.plain SF.entry (@PySem.W.check_slot (model prog w) _ _ ⟨h, g, d, t + 1, os⟩ "object.__setattr__" "object" "__setattr__" (.ref a) [.str name t, v] [] _ SF.kind SF.split hob (SF.args (.ref a) (.str name t) v) ?_)
  exact xset_entry X hC (refuse_tail T) hna hx hc hd hdn fun h' tk' e1 e2 e3 => hq h' tk' e1 e2 e3
end
end L2
set_option maxHeartbeats 1000000
namespace L2
open PySem PySem.Spec PyProof.Rows
/-  a new exception, tracked while its __init__ runs -/
def ExN (a : Addr) (C : Value) (ed : Option Addr) : HO := .ext fun h => ∃ oe vs, h.get? a = some oe ∧ oe.cls = C ∧ oe.dict = ed ∧ oe.data = .fields vs ∧ 1 < vs.size ∧ vs[1]? = some .none
theorem exn_ok {P : Program} {w : World} {H : Hp} {h : Heap} {a : Addr} {C : Value} {ed : Option Addr} (x : ∃ oe vs, h.get? a = some oe ∧ oe.cls = C ∧ oe.dict = ed ∧ oe.data = .fields vs ∧ 1 < vs.size ∧ vs[1]? = some .none) : ObjOk P w H h a (ExN a C ed) :=
  ⟨x, (let ⟨oe, _, e, _⟩ := x; ⟨oe, e⟩), fun _ _ ⟨oe, vs, e, r⟩ k => ⟨oe, vs, k oe e, r⟩⟩
theorem exn_get {P : Program} {w : World} {H : Hp} {h : Heap} {a : Addr} {C : Value} {ed : Option Addr} (hok : HOk P w H h) (e : H a = some (ExN a C ed)) : ∃ oe vs, h.get? a = some oe ∧ oe.cls = C ∧ oe.dict = ed ∧ oe.data = .fields vs ∧ 1 < vs.size ∧ vs[1]? = some .none :=
  (show ObjOk P w H h a (ExN a C ed) from hok a _ e).1
/-  a thing is tracked no more -/
def dropH (H : Hp) (a : Addr) : Hp := fun b => if b = a then none else H b
theorem drop_ne {H : Hp} {a b : Addr} (h : b ≠ a) : dropH H a b = H b := by unfold dropH; rw [if_neg h]
theorem drop_same {H : Hp} {a : Addr} : dropH H a a = none := by unfold dropH; rw [if_pos rfl]
section
variable {X : Cx} {pins : List (Addr × Obj)} {σ : St} {H : Hp} {s : Shared} {a : Addr}
theorem Inv.dropX {C : Value} {ed : Option Addr} (I : Inv X pins σ H s) (e : H a = some (ExN a C ed)) : Inv X pins σ (dropH H a) s := by
  have keep : ∀ b o, H b = some o → (∀ φ, o ≠ .ext φ) → dropH H a b = some o := fun b o q n => by
    rw [drop_ne]
    · exact q
    · intro z
      subst z
      rw [e] at q
      exact n _ (Option.some.inj q).symm
  have none_ : ∀ b, H b = none → dropH H a b = none := fun b q => by
    unfold dropH
    split
    · rfl
    · exact q
  refine ⟨I.ok, I.os, I.bare, ⟨I.base.keep, I.base.slot, fun b o q n hx => none_ b (I.base.free b o q n hx), I.base.there, fun b xs q => keep b _ (I.base.tups b xs q) (fun _ z => nomatch z), fun b o u q => keep b _ (I.base.frzs b o u q) (fun _ z => nomatch z), fun b ps q => ?_⟩, I.loc, I.cell, none_ _ I.free, fun x c q => none_ _ (I.freeC x c q), fun p hp => ?_, fun b o q => ?_, I.len⟩
  · obtain ⟨m, q⟩ := I.base.tbls b ps q
    exact ⟨m, keep b _ q (fun _ z => nomatch z)⟩
  · obtain ⟨e1, n, r⟩ := I.pin p hp
    exact ⟨e1, none_ _ n, r⟩
  · have hb : H b = some o := by
      unfold dropH at q
      split at q
      · cases q
      · exact q
    exact (I.hok b o hb).stay (fun _ _ _ z => z) (fun d z => keep d _ z (fun _ y => nomatch y)) fun d xs z => keep d _ z (fun _ y => nomatch y)
theorem hasDict_is {K : PySem.W.Frag} {h : Heap} {C : Addr} {nm qn : Str} {N : Addr} {bs bm : List Value} {hd : Bool} {sn : List Str} {sub : List Value} {ab : Bool} {col : Option Bool} {dd : Option Addr} {k0 k1 k2 k3 k5 : Option Value} {nw : String} (X : K.In h) (q : PySem.W.hasDictIn K C = true)
    (hC : h.get? C = some (excClassObj nm qn C N bs bm hd sn sub ab col dd k0 k1 k2 k3 k5 nw)) : hd = true := by
  obtain ⟨cd, hc, hdd⟩ := PySem.W.any_some q
  unfold PySem.W.clsIn at hc
  split at hc
  · rename_i ho
    have e := X _ _ ho
    rw [hC] at e
    cases e
    cases hc
    exact hdd
  · cases hc
/-  self.f = y in the __init__ of an exception -/
def sXset (K : PySem.W.Frag) (ta tv : TE) (f : Str) : TS := fun D σ H => tv σ H fun y H1 => ta σ H1 fun x H2 => ∃ a C ini, x = .ref a ∧ H2 a = some (ExN a (.ref C) none) ∧ exB K C ini = true ∧ PySem.W.hasDictIn K C = true ∧
  PySem.W.findIn K (.ref C) "__setattr__" = some (some (.builtin "object.__setattr__")) ∧ NoAttr K C f ∧ ∀ dx, H2 dx = none → dx ≠ a → D.nx σ (upd (upd H2 dx (.xd [(f, y)])) a (ExN a (.ref C) (some dx)))
theorem ps_xset {o value : Expr} {f : Str} {pos pos' : Pos} {ta tv : TE} (ha : PE X o ta) (hv : PE X value tv) (hs : swapsWith value (some (.Attribute o f pos')) pos.line X.env = pure false) : PS X (.Assign [.Attribute o f pos'] value pos) (sXset X.K ta tv f) := by
  intro pins s σ H D I h
  refine plainObj_wpAny_Assign_Attribute (thn (hv pins s σ H _ I h) fun u s1 ⟨y, H1, I1, ry, q⟩ => thn (ha pins s1 σ H1 _ I1 q) fun ov s2 ⟨x, H2, I2, rx, a, C, ini, ex, ea, qC, hd, hsa, na, q2⟩ => ?_) hs
  subst ex
  obtain rfl : ov = Value.ref a := rx
  obtain ⟨_, qn, N, bs, bm, hd', sn, sub, ab, col, dd, k0, k1, k2, k3, k5, hC, _, TL⟩ := exB_obj I2.kIn qC
  obtain rfl := hasDict_is I2.kIn hd hC
  obtain ⟨oe, vs, e1, e2, e3, e4, e5, e6⟩ := exn_get I2.hok ea
  have fr : H2 s2.heap.objs.size = none := I2.hok.fresh (Nat.le_refl _)
  have nea : s2.heap.objs.size ≠ a := Nat.ne_of_gt (Heap.lt_size e1)
  obtain ⟨sh, sg, sd, st, so⟩ := s2
  refine xset_attr I2.kIn hC TL hsa na e1 e2 e4 e3 fun h' tk' g1 g2 g3 => ⟨σ, _, ?_, q2 sh.objs.size fr nea⟩
  have nb : ∀ b, H2 b = none → b ≠ a := fun b z y => by subst y; rw [ea] at z; cases z
  have ob : ∀ b u, H2 b = some u → (∀ φ, u ≠ .ext φ) → upd (upd H2 sh.objs.size (.xd [(f, y)])) a (ExN a (.ref C) (some sh.objs.size)) b = some u := fun b u z n => by
    have h1 : b ≠ a := fun y => by subst y; rw [ea] at z; exact n _ (Option.some.inj z).symm
    have h2 : b ≠ sh.objs.size := fun y => by subst y; rw [fr] at z; cases z
    rw [upd_ne h1, upd_ne h2]; exact z
  refine I2.step (g' := sg) (d' := sd) (ch := []) (fun _ z => nomatch z) (fun b o _ _ _ z n => g3 b o (nb b n) z) (fun b o _ _ _ z n => ⟨o.slots, g3 b o (nb b n) z⟩) (fun b o _ z n => ?_) (fun b o _ z => ?_)
    (fun b xs z => ob b _ z (fun _ y => nomatch y)) (fun b o u z => ob b _ z (fun _ y => nomatch y)) (fun b ps z => ⟨#[], by rw [Array.append_empty]; exact ob b _ z (fun _ y => nomatch y)⟩) (fun m hm => ?_) (fun b o z => ?_) I2.bare
  · rw [upd_ne (nb b n), upd_ne (Nat.ne_of_lt (Heap.lt_size z))]; exact n
  · by_cases y : b = a
    · subst y; exact ⟨_, g1⟩
    · exact ⟨o, g3 b o y z⟩
  · obtain ⟨o, es, ep, ho, r⟩ := hm
    exact ⟨o, es, ep, g3 _ o (nb _ I2.free) ho, r⟩
  · by_cases ya : b = a
    · subst ya
      rw [upd_same] at z
      cases z
      exact exn_ok ⟨_, vs, g1, e2, rfl, e4, e5, e6⟩
    · rw [upd_ne ya] at z
      by_cases y2 : b = sh.objs.size
      · subst y2
        rw [upd_same] at z
        cases z
        refine ⟨_, g2, fun g => ?_⟩
        show RelO (putF f y [] |>.lookup g) (if g = f then some u else none)
        rw [lookup_putF]
        by_cases q : g = f
        · rw [if_pos q, if_pos q]; exact ry
        · rw [if_neg q, if_neg q]; exact True.intro
      · rw [upd_ne y2] at z
        refine (I2.hok b o z).stay (fun c w hc e => g3 c w ?_ e) (fun c z => ob c _ z (fun _ y => nomatch y)) fun c xs z => ob c _ z (fun _ y => nomatch y)
        rcases hc with rfl | hc
        · exact ya
        · intro y3
          subst y3
          rw [ea] at hc
          cases hc
end
end L2
set_option maxHeartbeats 1000000
namespace L2
open PySem PySem.Spec PyProof.Rows
section
variable {prog : Program} {w : World} {A : Around} {E : Value → Shared → Prop} {h : Heap} {g : Array GenState} {d : Drawn} {t : Nat} {os : OsState}
variable {nm qn : Str} {C N : Addr} {bs bm : List Value} {hd : Bool} {sn : List Str} {sub : List Value} {ab : Bool} {col : Option Bool} {dd : Option Addr} {k0 k1 k2 k3 k5 : Option Value}
theorem xcall_body {mN : Str → Option Value} {rest : List Value} {fI : Addr} {oI : Obj} {Q : PySem.Fin → Shared → Prop}
    (hC : h.get? C = some (excClassObj nm qn C N bs bm hd sn sub ab col dd k0 k1 k2 k3 k5 "ValueError.__new__")) (T : OwnTail h vbm bm) (hn : h.Ns N mN) (hi : mN "__init__" = some (.ref fI)) (hfI : h.get? fI = some oI) (hfc : oI.cls = .type "function")
    (hq : ∀ h' e, Heap.MadeExcOf h h' e (.ref C) rest → wpAny (model prog w) A (call (.ref fI) (.ref e :: rest)) (fun r s' => r = .none ∧ Q (.done (.ret (.ref e))) s') E ⟨h', g, d, t, os⟩) (hrest : rest.length ≤ sizeLine) :
    wpAny (model prog w) A (Builtin.«type.__call__» ⟨.ref C :: rest, []⟩) Q E ⟨h, g, d, t, os⟩ := by
  have F := PySem.F.excBase_ValueError
  have hB : vbm.contains (.type "ValueError") = true := by decide
  repeat (first | with_reducible refine wpAny_loadPart_at hC ?_ | with_reducible refine wpAny_madeBy_exc hC ?_ | wp_step)
  refine codeAny_call_builtin_code (Code.quiet_builtin _ F.quiet) (wpAny_check_new_subU F hB T hC ?_)
  refine codeAny_exc_new_subU F hB F T hC ?_ hrest
  show wpAny _ _ _ _ _ _
  generalize hO : ({ cls := .ref C, data := .fields #[.ref h.objs.size, .none, .none, .none, .bool false, .none] } : Obj) = O
  generalize hP : ({ cls := .type "tuple", data := .seq rest.toArray } : Obj) = P
  have kp : ∀ b o, h.get? b = some o → ((h.push P).push O).get? b = some o := fun b o e => Heap.get?_push_of_some _ (Heap.get?_push_of_some _ e)
  have e0 : ((h.push P).push O).get? (h.objs.size + 1) = some O := Heap.get?_push_at (by simp only [Heap.size_push]) (by rw [← hO]; rfl)
  have e1 : ((h.push P).push O).get? h.objs.size = some P := Heap.get?_push_of_some _ (Heap.get?_push_at rfl (by rw [← hP]; rfl))
  have hcC : (Value.ref C :: bm).contains (.ref C) = true := by simp
  have oc : O.cls = .ref C := by rw [← hO]
  unfold isInstance
  repeat (first | (with_reducible refine wpAny_loadPart_at e0 ?_; rw [oc]) | (with_reducible refine wpAny_isSubtype_exc (kp _ _ hC) ?_; rw [hcC]) | wp_step)
  show wpAny _ _ (typeLookup (.ref C) _) _ _ _
  refine wpAny_typeLookup_tail (kp _ _ hC) (hn.keeps kp) (T.keeps kp) F.mroIs F.init.lookup ?_
  rw [hi]
  refine wpAny_holding (wpAny_bind ?_)
  unfold bindSpecial
  refine wpAny_bind (wpAny_typeOf (T := "function") ⟨_, kp _ _ hfI, hfc⟩ ?_)
  rw [if_pos (by decide)]
  refine wpAny_pure (wpAny_bind (wpAny_mono (hq _ (h.objs.size + 1) ⟨kp, Heap.get?_none_of_le (Nat.le_succ _), h.objs.size, by rw [e0, ← hO], Heap.get?_none_of_le (Nat.le_refl _), by rw [e1, ← hP]⟩) (fun r s' hr => ?_) fun _ _ x => x))
  obtain ⟨rfl, hQ⟩ := hr
  wp_walk
  exact hQ
theorem xcall_init {mN : Str → Option Value} {rest : List Value} {fI : Addr} {oI : Obj} {Q : Value → Shared → Prop}
    (hC : h.get? C = some (excClassObj nm qn C N bs bm hd sn sub ab col dd k0 k1 k2 k3 k5 "ValueError.__new__")) (T : OwnTail h vbm bm) (hn : h.Ns N mN) (hi : mN "__init__" = some (.ref fI)) (hfI : h.get? fI = some oI) (hfc : oI.cls = .type "function")
    (hq : ∀ h' e, Heap.MadeExcOf h h' e (.ref C) rest → wpAny (model prog w) (A.under (.builtin "type.__call__" ⟨.ref C :: rest, []⟩)) (call (.ref fI) (.ref e :: rest)) (fun r s' => r = .none ∧ Q (.ref e) s') E ⟨h', g, d, t, os⟩) (hrest : rest.length ≤ sizeLine) :
    wpAny (model prog w) A (call (.ref C) rest) Q E ⟨h, g, d, t, os⟩ := by
  have f1 := tc_lookup
  have f2 := tc_bind (.ref C)
  have hT : (⟨h, g, d, t, os⟩ : Shared).TypeIs (.ref C) "type" := ⟨_, hC, rfl⟩
  refine wpAny_call (codeAny_of_tree ?_)
  show wpAny _ _ (callAny (.ref C) _) _ _ _
  repeat (any_goals (first | assumption | with_reducible refine wpAny_loadPart_at hC ?_ | wp_step))
  refine ⟨rfl, ?_⟩
  exact codeAny_call_builtin_at (Code.quiet_builtin _ (by decide +kernel)) entry_typeCall (wpAny_check_type_call_sub hC (xcall_body hC T hn hi hfI hfc (fun h' e hm => hq h' e hm) hrest))
/-  raise of what is an exception -/
theorem xraise_any {M : Model} {env : Env} {s : Shared} {x : Sem Value} {Q : Flow → Shared → Prop} (hh : A.handled = none)
    (hq : wpAny M A x (fun v s₁ => ∃ e oe, v = .ref e ∧ s₁.heap.get? C = some (excClassObj nm qn C N bs bm hd sn sub ab col dd k0 k1 k2 k3 k5 "ValueError.__new__") ∧ OwnTail s₁.heap vbm bm ∧ s₁.heap.get? e = some oe ∧ oe.cls = .ref C ∧ (∃ vs, oe.data = .fields vs ∧ vs[1]? = some .none) ∧ E (.ref e) s₁) E s) :
    wpAny M A (raiseStmt env (some x) none) Q E s := by
  unfold raiseStmt
  refine wpAny_bind (wpAny_mono hq (fun v s₁ h₁ => ?_) fun _ _ x => x)
  obtain ⟨e, oe, rfl, hC, T, he, hcls, ⟨vs, hdt, h1⟩, hE⟩ := h₁
  have hcB : (Value.ref C :: bm).contains (.type "BaseException") = true := by rw [List.contains_cons, exB_base T, Bool.or_true]
  obtain ⟨hp, g, d, tk, os⟩ := s₁
  repeat (first | (with_reducible refine wpAny_loadPart_at he ?_; (try rw [hcls])) | with_reducible refine wpAny_loadPart_at hC ?_ | (with_reducible refine wpAny_isSubtype_exc hC ?_; rw [hcB]) | wp_step)
  rw [hdt]
  refine wpAny_pure ?_
  rw [h1]
  refine wpAny_pure ?_
  rw [if_neg (by decide)]
  exact wpAny_pure (wpAny_raiseNew_none hh hE)
end
section
variable {X : Cx} {e : Expr} {es : List Expr} {t : TA} {S : St → Prop} {E : XK} {k : Nat} {f C : Addr} {fd : FuncData} {ps : List Str} {sp : Sp}
/-  raise C(..), C with an __init__ of its own -/
def tRaiseI (S : St → Prop) (E : XK) (C : Addr) (sp : Sp) (t : TA) : TS := fun _ σ H => t σ H fun vs H1 => S σ ∧ vs.length ≤ sizeLine ∧ ∀ a, H1 a = none → sp (.ref a :: vs) (upd H1 a (ExN a (.ref C) none)) (fun v H2 => v = .non ∧ ∃ ed, H2 a = some (ExN a (.ref C) ed) ∧ E (.ref C) ed (dropH H2 a)) E0
theorem ps_raiseI {x : Str} {np cpos pos : Pos} (T : Told X S E) (hcalm : X.calm = true) (q : exB X.K C (some (.ref f)) = true) (hfn : PySem.W.isFn X.K (.ref f) = true) (F : FnOk X.prog X.w X.K X.mg X.base CX0 k f fd ps sp) (hr : Room (k + 1) X.A) (hb : Binds X.K fd ps []) (hkp : PySem.W.keepIn X.K (.ref C) = true)
    (hg : Gl X x) (hm : X.mg x = some (.ref C)) (hdb : (x == ("__debug__" : Str)) = false) (hn : (e :: es).all notStar = true) (ha : PA X (e :: es) t) :
    PS X (.Raise (some (.Call (.Name x np) (e :: es) [] cpos)) none pos) (tRaiseI S E C sp t) := by
  intro pins s σ H D I h
  have hs : notStar e = true ∧ es.all notStar = true := by rw [List.all_cons, Bool.and_eq_true] at hn; exact hn
  obtain ⟨nm, qn, N, bs, bm, hd, sn, sub, ab, col, dd, k0, k1, k2, k3, k5, hC, ⟨mN, hN, hni⟩, TL⟩ := exB_obj I.ok.mod.kin q
  rw [arm_exec_Raise]
  simp only [evalOpt, Option.map]
  refine wpAny_bind (wpAny_standAt (xraise_any (C := C) (nm := nm) (qn := qn) (N := N) (bs := bs) (bm := bm) (hd := hd) (sn := sn) (sub := sub) (ab := ab) (col := col) (dd := dd) (k0 := k0) (k1 := k1) (k2 := k2) (k3 := k3) (k5 := k5) (I.ok.hd hcalm) ?_))
  refine wpAny_bind (wpAny_mono (Q := fun v s₁ => ∃ e oe, v = .ref e ∧ s₁.heap.get? C = some (excClassObj nm qn C N bs bm hd sn sub ab col dd k0 k1 k2 k3 k5 "ValueError.__new__") ∧ OwnTail s₁.heap vbm bm ∧ s₁.heap.get? e = some oe ∧ oe.cls = .ref C ∧ (∃ vs, oe.data = .fields vs ∧ vs[1]? = some .none) ∧ X.xe (.ref e) s₁) ?_ (fun v s₃ h₃ => wpAny_bind (wpAny_standAt (wpAny_pure h₃))) fun _ _ x => x)
  refine wpAny_Call_Name_kw (ld_glob I hg hm ?_ hdb)
  refine PySem.W.callWith_K (h₀ := X.base) I.ok.mod.kin hkp (thn (ha cpos pins s σ H _ I h) fun us s1 z => ?_) (star_cons hs.1) (back_none hs.2)
  obtain ⟨vs, H1, I1, r, hS, hl, hi⟩ := z
  refine ⟨I1.kIn, ?_⟩
  obtain ⟨oI, hoI, hfc⟩ : ∃ oI, X.base.get? f = some oI ∧ oI.cls = .type "function" := by
    have e1 := beq_iff_eq.mp hfn
    unfold PySem.W.typeIn at e1
    obtain ⟨o, ho, hc⟩ := Option.map_eq_some_iff.mp e1
    exact ⟨o, I.ok.mod.kin _ _ ho, hc⟩
  have hus : us.length ≤ sizeLine := by rw [← r.length]; exact hl
  obtain ⟨sh, sg, sd, st, so⟩ := s1
  show wpAny _ _ (call (.ref C) us) _ _ _
  refine xcall_init (I1.bk _ _ hC) (TL.keeps I1.bk) (hN.keeps I1.bk) hni (I1.bk _ _ hoI) hfc (fun h' a m => ?_) hus
  have hHa : H1 a = none := I1.hok.unheld m.new
  obtain ⟨tp, ht, _, _⟩ := m.there
  have J1 : Inv X pins σ H1 ⟨h', sg, sd, st, so⟩ := I1.kept (h' := h') (t' := st) m.keeps
  have J2 : Inv X pins σ (upd H1 a (ExN a (.ref C) none)) ⟨h', sg, sd, st, so⟩ := J1.hold (I1.cov T.ex) m.new hHa (exn_ok ⟨_, _, ht, rfl, rfl, rfl, Nat.lt_of_sub_eq_succ rfl, rfl⟩)
  have r2 : Vals (V.ref a :: vs) (Value.ref a :: us) := .cons rfl r
  have sp1 := hi a hHa
  have hlen : (Value.ref a :: us ++ ([] : List Value)).length = ps.length := by rw [List.append_nil, ← r2.length]; exact F.len _ _ _ _ sp1
  have bd := hb ⟨h', sg, sd, st, so⟩ (Value.ref a :: us) J2.kIn hlen
  rw [List.append_nil] at bd
  refine wpAny_call (codeAny_mono (F.run _ X.stack _ _ ⟨Value.ref a :: us, []⟩ (Value.ref a :: us) _ _ E0 (hr.make C us []) (J2.env0.make C us []) bd r2 sp1) fun res s' hq => ?_)
  match res, hq with
  | .error e, hq => exact False.elim hq
  | .ok .next, hq => exact False.elim hq
  | .ok .brk, hq => exact False.elim hq
  | .ok .cont, hq => exact False.elim hq
  | .ok (.ret u), hq =>
    obtain ⟨v, H', os', bare, un, hok, rv, rfl, ed, hx, qE⟩ := hq
    have J3 : Inv X pins σ H' s' := J2.call' os' un hok bare (fun b z => absurd z (by simp))
    obtain ⟨oe, ws, g1, g2, g3, g4, g5, g6⟩ := exn_get J3.hok hx
    refine ⟨rv, a, oe, rfl, J3.bk _ _ hC, TL.keeps J3.bk, g1, g2, ⟨ws, g4, g6⟩, ?_⟩
    refine T.on pins σ (dropH H' a) s' a (.ref C) ed sh hS (J3.dropX hx) ⟨m.new, drop_same, oe, ws, g1, g2, g3, g4, g5, .inl ⟨g6, rfl⟩⟩ (I1.cov T.ex) (fun b hb => ?_) qE
    cases z : sh.get? b with
    | none => rfl
    | some o =>
      obtain ⟨o', e'⟩ := un.there b o (m.keeps b o z) (by simp)
      rw [hb] at e'; cases e'
end
end L2
set_option maxHeartbeats 1000000
namespace L2
open PySem PySem.Spec PyProof.Rows
section
variable {X : Cx} {k : Nat} {f C : Addr} {fd : FuncData} {ps : List Str} {sp : Sp} {x m : Str} {p pos apos : Pos} {e o : Expr} {es : List Expr} {ta : TE} {t : TA} {S : St → Prop} {E : XK}
/-  o.m(..), out of which exceptions may come -/
def tMethX (S : St → Prop) (C : Addr) (m : Str) (sp : Sp) (E : XK) (ta : TE) (t : TA) : TE := fun σ H Q => ta σ H fun x H1 => ∃ a dx fs, x = .ref a ∧ H1 a = some (.ins C dx fs) ∧ fs.lookup m = none ∧ t σ H1 fun vs H2 => S σ ∧ sp (x :: vs) H2 Q E
/-  C(..), out of whose __init__ exceptions may come -/
def tMakeX (S : St → Prop) (C : Addr) (sp : Sp) (E : XK) (t : TA) : TE := fun σ H Q => t σ H fun vs H1 => S σ ∧ ∀ x dx, H1 x = none → H1 dx = none → dx ≠ x → sp (.ref x :: vs) (upd (upd H1 dx (.own x)) x (.ins C dx [])) (fun v H2 => v = .non ∧ Q (.ref x) H2) E
end
end L2
set_option maxHeartbeats 1000000
namespace L2
open PySem PySem.Spec PyProof.Rows
/-! ### what a text's classes and methods are -/
/-  the j-th row of a class's body -/
def inCls (s : Stmt) (j : Nat) : Stmt := match s with
  | .ClassDef _ _ _ b _ _ _ _ _ _ _ => b.getD j (.Pass ⟨0, 0, 0, 0⟩)
  | _ => .Pass ⟨0, 0, 0, 0⟩
structure MthOk (K : PySem.W.Frag) (x qual : Str) (st : Stmt) (ps : List Str) (f : Addr) (fd : FuncData) : Prop where
  F : Fun K x qual st f fd
  b : Binds K fd ps []
  fn : PySem.W.isFn K (.ref f) = true
/-  an exception's class -/
structure ExcOk (K : PySem.W.Frag) (mg : Str → Option Value) (x : Str) (c : Addr) (ini : Option Value) : Prop where
  m : mg x = some (.ref c)
  x : exB K c ini = true
  kp : PySem.W.keepIn K (.ref c) = true
  xc : XCls K c
  sa : PySem.W.findIn K (.ref c) "__setattr__" = some (some (.builtin "object.__setattr__"))
/-  a class of one's own -/
structure OwnOk (K : PySem.W.Frag) (mg : Str → Option Value) (x : Str) (c fi : Addr) : Prop where
  m : mg x = some (.ref c)
  cls : Cls K c
  mkr : Mk K c fi
theorem exc_mk {K : PySem.W.Frag} {h : Heap} {mg : Str → Option Value} {x : Str} {c : Addr} {ini : Option Value} (X : K.In h) (G : h.Ns mainGlobals mg) (a : PySem.W.nsIn K mainGlobals x = some (some (.ref c))) (e : exB K c ini = true) (kp : PySem.W.keepIn K (.ref c) = true)
    (ga : PySem.W.findIn K (.ref c) "__getattribute__" = some (some (.builtin "BaseException.__getattribute__"))) (gh : PySem.W.findIn K (.ref c) "__getattr__" = some none) (ba : PySem.W.mroIn K c (.type "BaseException") = some true) (ob : PySem.W.mroIn K c (.type "object") = some true) (hd : PySem.W.hasDictIn K c = true)
    (cl : PySem.W.findIn K (.ref c) "__class__" = some (some (.builtin "object.__class__"))) (cg : PySem.W.specialIn K (.builtin "object.__class__") "__get__" = some (some (.builtin "getset_descriptor.__get__"))) (ct : PySem.W.takesIn K (.builtin "object.__class__") = some true)
    (sa : PySem.W.findIn K (.ref c) "__setattr__" = some (some (.builtin "object.__setattr__"))) : ExcOk K mg x c ini := ⟨PySem.W.mg_of X G a, e, kp, ⟨ga, gh, ba, ob, hd, cl, cg, ct⟩, sa⟩
section
variable {X : Cx}
end
/-  a def out of which no exception comes calls one that might: it owes what keeps that from raising -/
theorem told_no {X : Cx} (hex : X.ex = []) : Told X (fun _ => True) (fun _ _ _ => False) := ⟨hex, fun _ _ _ _ _ _ _ _ _ _ _ _ _ q => q.elim⟩
end L2
set_option maxHeartbeats 1000000
namespace L2
open PySem PySem.Spec PyProof.Rows
/-! ### enumerate of a list -/
def Ite (K : PySem.W.Frag) (a : Addr) : It where
  go := fun i H => ∃ xs x, SqL K H a xs ∧ xs[i]? = some x
  yld := fun i H y H' => ∃ p x, H p = none ∧ y = .ref p ∧ (∀ ys, SqL K H a ys → ys[i]? = some x) ∧ H' = upd H p (.tup [.int i, x])
  stop := fun i H => ∃ xs, SqL K H a xs ∧ xs.length ≤ i
theorem turn_enum {P : Program} {w : World} {K : PySem.W.Frag} {elts : List Expr} {x1 : Nat} {tpos : Pos} (a e it : Addr) (hne : e ≠ it) : Turn P w K (.Tuple elts x1 tpos) (Ite K a) [e, it] e (fun i h => ∃ old, IsEnum h e it i old ∧ h.IsListIter it a i) where
  mem := by simp
  obj := fun i h st b hb => by
    obtain ⟨old, h1, o, h2, c, d⟩ := st
    rcases List.mem_cons.mp hb with rfl | hb
    · exact ⟨_, h1, fun v z => nomatch z⟩
    · cases List.mem_singleton.mp hb
      exact ⟨o, h2, fun v z => by rw [d] at z; cases z⟩
  keep := fun i h h' st k => by
    obtain ⟨old, h1, h2⟩ := st
    exact ⟨old, k e (by simp) _ h1, h2.at fun o z => k it (by simp) o z⟩
  item := by
    intro X hP hw hK hc i pins s σ H E I hf st hg
    subst hP hw hK
    obtain ⟨xs, x, hq, hx⟩ := hg
    obtain ⟨its, rv, p, hz⟩ := I.list hq
    obtain ⟨u, hu, ru⟩ := rv.get hx
    obtain ⟨old, h1, h2⟩ := st
    obtain ⟨f0, f1, f2, f3, f4, f5⟩ := hf e (by simp)
    obtain ⟨g0, g1, g2, g3, g4, g5⟩ := hf it (by simp)
    have fr : H s.heap.objs.size = none := I.hok.fresh (Nat.le_refl _)
    have pe : s.heap.objs.size ≠ e := Nat.ne_of_gt (Heap.lt_size h1)
    refine wpAny_pyNext_enum_item h1 h2 p.isList (x := u) (by simpa using hu) hne fun h' out st' tup sz k => ⟨.ref s.heap.objs.size, rfl, ?_⟩
    refine wpAny_letOwnedTupleGo_enum (s := { s with heap := h', toks := s.toks + 1 }) out fun h'' he' sb => ?_
    have kk : ∀ b o, b ∉ [e, it] → s.heap.get? b = some o → h''.get? b = some o := fun b o hb z =>
      (sb.2 b (fun q => hb (by simp [q]))).trans (k b o (fun q => hb (by simp [q])) (fun q => hb (by simp [q])) z)
    have kt : h''.get? s.heap.objs.size = some { cls := .type "tuple", data := .seq #[.int i s.toks, u] } := (sb.2 _ pe).trans tup
    have nt : ∀ b v, H b = some v → b ∉ [e, it] := fun b v z hb => by
      rcases List.mem_cons.mp hb with rfl | hb
      · rw [f0] at z; cases z
      · cases List.mem_singleton.mp hb
        rw [g0] at z; cases z
    have np : ∀ b v, H b = some v → b ≠ s.heap.objs.size := fun b v z q => by subst q; rw [fr] at z; cases z
    have up : ∀ b v, H b = some v → upd H s.heap.objs.size (.tup [.int i, x]) b = some v := fun b v z => by rw [upd_ne (np b v z)]; exact z
    refine ⟨.ref s.heap.objs.size, upd H s.heap.objs.size (.tup [.int i, x]), ?_, rfl, ⟨_, x, fr, rfl, fun ys hy => by rw [I.list_inj hy hq]; exact hx, rfl⟩, ⟨u, he', st'.at fun o z => (sb.2 it (Ne.symm hne)).trans z⟩, fun b hb => ?_⟩
    · show Inv X pins σ _ { s with heap := h'', gens := s.gens, drawn := s.drawn, toks := s.toks + 1 }
      refine Inv.step (s := s) (h' := h'') (t' := s.toks + 1) (g' := s.gens) (d' := s.drawn) (ch := [e, it]) I (fun b hb => ?_) (fun b o _ _ hb z _ => kk b o hb z) (fun b o _ _ hb z _ => ⟨o.slots, kk b o hb z⟩) (fun b o _ z n => by rw [upd_ne (Nat.ne_of_lt (Heap.lt_size z))]; exact n) (fun b o hb z => ⟨o, kk b o hb z⟩)
        (fun b ys z => up b _ z) (fun b o v z => up b _ z) (fun b ps z => ⟨#[], by rw [Array.append_empty]; exact up b _ z⟩) (fun m hm => ?_) (fun b v z => ?_) I.bare
      · rcases List.mem_cons.mp hb with rfl | hb
        · exact ⟨f3, f1, f4, f5⟩
        · cases List.mem_singleton.mp hb
          exact ⟨g3, g1, g4, g5⟩
      · obtain ⟨o, es, ep, ho, r⟩ := hm
        refine ⟨o, es, ep, kk _ o (fun hb => ?_) ho, r⟩
        rcases List.mem_cons.mp hb with q | hb
        · exact f1 q.symm
        · exact g1 (List.mem_singleton.mp hb).symm
      · by_cases q : b = s.heap.objs.size
        · subst q
          rw [upd_same] at z
          cases z
          exact ⟨small_line (Nat.le_of_ble_eq_true rfl), [.int i s.toks, u], .cons ⟨_, rfl⟩ (.cons ru .nil), _, kt, rfl, _, rfl⟩
        · rw [upd_ne q] at z
          refine (I.hok b v z).stay (fun c o hc y => kk c o ?_ y) (fun c y => up c _ y) fun c ys y => up c _ y
          rcases hc with rfl | hc
          · exact nt _ _ z
          · exact nt _ _ hc
    · rcases List.mem_cons.mp hb with rfl | hb
      · rw [upd_ne (Ne.symm pe)]; exact f0
      · cases List.mem_singleton.mp hb
        obtain ⟨o, h2', _⟩ := h2
        rw [upd_ne (Nat.ne_of_lt (Heap.lt_size h2'))]; exact g0
  done := by
    intro X hP hw hK hc i pins s σ H E I hf st hg
    subst hP hw hK
    obtain ⟨xs, hq, hx⟩ := hg
    obtain ⟨its, rv, p, hz⟩ := I.list hq
    obtain ⟨old, h1, h2⟩ := st
    obtain ⟨g0, g1, g2, g3, g4, g5⟩ := hf it (by simp)
    have hl := rv.length
    exact wpAny_pyNext_enum_end (I.ok.hd hc) h1 h2 p.isList (by simp; omega) fun h' eb => ⟨rfl, I.turned (t' := s.toks) (fun b o hb z => eb b o hb z) g0 g1 g3 g4 g5⟩
  self := fun _ _ _ _ _ st h => by
    obtain ⟨old, h1, h2⟩ := st
    exact wpAny_pyIter_enum h1 h
section
variable {X : Cx}
def iEnum (K : PySem.W.Frag) (ta : TA) : TI := fun σ H R => ta σ H fun vs H1 => ∃ a, vs = [.ref a] ∧ (∃ xs, SqL K H1 a xs) ∧ R (Ite K a) H1
theorem pi_enum {a : Expr} {ta : TA} {p pos tpos : Pos} {elts : List Expr} {x1 : Nat} (hg : Gl X "enumerate") (hm : X.mg "enumerate" = none) (ha : PA X [a] ta) (hn : notStar a = true) : PI X (.Tuple elts x1 tpos) (.Call (.Name "enumerate" p) [a] [] pos) (iEnum X.K ta) := by
  intro pins s σ H R I h
  refine Call_ (ld_blt I hg hm boot_enumerate (PyProof.Rows.callWith_type1 (thn (ha pos pins s σ H _ I h) fun us s1 ⟨vs, H1, I1, r1, q1⟩ => ?_) (star_cons hn) rfl))
  obtain ⟨l, e, ⟨xs, hq⟩, q⟩ := q1
  subst e
  cases r1 with
  | cons r rr =>
    cases rr
    cases (show _ = Value.ref l from r)
    obtain ⟨its, rv, pl, hz⟩ := I1.list hq
    refine call_enumerate_list pl.isList fun h' he st sz k => ?_
    refine wpAny_pyIter_enum (s := { s1 with heap := h' }) he ?_
    refine ⟨s1.heap.objs.size + 1, [s1.heap.objs.size + 1, s1.heap.objs.size], _, _, H1, rfl, I1.kept (t' := s1.toks) k, turn_enum l _ _ (Nat.succ_ne_self _), ⟨_, he, st⟩, fun b hb => ?_, q⟩
    rcases List.mem_cons.mp hb with rfl | hb
    · exact I1.fpOk (Nat.le_succ _) (I1.hok.fresh (Nat.le_succ _))
    · cases List.mem_singleton.mp hb
      exact I1.fpOk (Nat.le_refl _) (I1.hok.fresh (Nat.le_refl _))
end
theorem ForW.enum {K : PySem.W.Frag} {a : Addr} {xs : List V} {g : TG} {tb : TS} {D : Ends} {σ : St} {H : Hp} (Pv : Nat → St → Hp → Prop) (h0 : Pv 0 σ H) (hl : ∀ i σ H, Pv i σ H → SqL K H a xs)
    (hs : ∀ (i : Nat) x σ H p, xs[i]? = some x → Pv i σ H → H p = none → g (.ref p) σ (upd H p (.tup [.int i, x])) fun σ2 H2 => tb { D with nx := Pv (i + 1), ct := Pv (i + 1), bk := D.nx } σ2 H2)
    (hd : ∀ σ H, Pv xs.length σ H → D.nx σ H) : ForW (Ite K a) g tb D σ H := by
  refine ⟨fun i m σ H => Pv i σ H ∧ i ≤ xs.length ∧ m = xs.length - i, ⟨_, h0, Nat.zero_le _, rfl⟩, fun i m σ H ⟨h1, h2, h3⟩ => ?_⟩
  have sq := hl i σ H h1
  by_cases e : i = xs.length
  · subst e
    exact .inl ⟨⟨xs, sq, Nat.le_refl _⟩, hd σ H h1⟩
  · have lt : i < xs.length := Nat.lt_of_le_of_ne h2 e
    refine .inr ⟨⟨xs, xs[i], sq, List.getElem?_eq_getElem lt⟩, Pv (i + 1), fun σ' H' z => ⟨xs.length - (i + 1), by omega, z, lt, rfl⟩, fun x H' hy => ?_⟩
    obtain ⟨p, x', hp, rfl, hx, rfl⟩ := hy
    exact hs i x' σ H p (hx xs sq) h1 hp
end L2
set_option maxHeartbeats 4000000
namespace L2
open PySem PySem.Spec PyProof.Rows
/-! ### what a dict's keys are collected to -/
section
variable {prog : Program} {w : World} {A : Around} {E : Value → Shared → Prop} {s : Shared} {T : String} {r d : Addr} {n : Nat} {P : Nat → Value → Prop} {OK : Heap → Prop}
end
end L2
namespace L2
open PySem PySem.Spec PyProof.Rows
section
variable {X : Cx}
def rSortD : List V → Hp → VK → Prop := fun xs H Q => ∃ d kvs, ∃ ks : List Int, xs = [.ref d] ∧ H d = some (.dK kvs) ∧ kvs.map (·.1) = ks.map Sum.inl ∧ kvs.length < 64 ∧
  ∀ p, ∀ ms : List Int, H p = none → ms.Perm ks → ms.Pairwise (· ≤ ·) → Q (.ref p) (upd H p (.lst (ms.map V.int)))
end
end L2
set_option maxHeartbeats 4000000
namespace L2
open PySem PySem.Spec PyProof.Rows
open AutoSeq1 (wpAny_loadPart')
/-! ### enumerate of a tuple -/
section
variable {prog : Program} {w : World} {A : Around} {E : Value → Shared → Prop} {s : Shared}
end
end L2
namespace L2
open PySem PySem.Spec PyProof.Rows
section
variable {X : Cx}
/-  d.pop(k), k there -/
def rDPop : V → List V → Hp → VK → Prop := fun x vs H Q => ∃ d kvs k v, x = .ref d ∧ vs = [kV k] ∧ H d = some (.dK kvs) ∧ valV kvs k = some v ∧ Q v (upd H d (.dK (dropK kvs k)))
end
end L2
set_option maxHeartbeats 4000000
namespace L2
open PySem PySem.Spec PyProof.Rows
section
variable {X : Cx}
end
end L2
namespace L2
open PySem PySem.Spec PyProof.Rows
section
variable {X : Cx} {k : Nat} {f C : Addr} {fd : FuncData} {ps : List Str} {sp : Sp} {x m : Str} {p pos apos : Pos} {e o : Expr} {es : List Expr} {ta : TE} {t : TA}
end
end L2
set_option maxHeartbeats 4000000
namespace L2
open PySem PySem.Spec PyProof.Rows
section
variable {X : Cx}
/-  xs.index(z), xs a list of texts -/
def rIndexS (K : PySem.W.Frag) : V → List V → Hp → VK → Prop := fun x vs H Q => ∃ l, ∃ ns : List Str, ∃ z, ∃ j : Nat, x = .ref l ∧ vs = [.str z] ∧ SqL K H l (ns.map V.str) ∧ ns[j]? = some z ∧ (∀ m, m < j → ns[m]? ≠ some z) ∧ Q (.int j) H
theorem mt_indexS : MtR X "list.index" (rIndexS X.K) := by
  intro pins s σ H x vs v us Q I rx rv h
  obtain ⟨l, ns, z, j, rfl, rfl, hq, hj, hno, q⟩ := h
  cases rx
  obtain ⟨u, rfl, ru⟩ := vals1 rv
  obtain ⟨tz, rfl⟩ := ru
  obtain ⟨its, rvs, pl, hz⟩ := I.list hq
  obtain ⟨⟨c1, d1, t1, sl1⟩, e1, hc, n1, hd⟩ := pl.isList
  cases (show c1 = .type "list" from hc)
  cases (show t1 = .seq its.toArray n1 from hd)
  have hget : ∀ (m : Nat) y, its[m]? = some y → ∃ w t, ns[m]? = some w ∧ y = Value.str w t := fun m y hy => by
    have hm : m < (ns.map V.str).length := by rw [rvs.length]; exact (List.getElem?_eq_some_iff.mp hy).1
    obtain ⟨u', hu', ru'⟩ := rvs.get (i := m) (x := (ns.map V.str)[m]) (List.getElem?_eq_getElem hm)
    rw [hy] at hu'
    cases hu'
    rw [List.getElem_map] at ru'
    obtain ⟨t, rfl⟩ := ru'
    exact ⟨_, t, List.getElem?_eq_getElem (by simpa using hm), rfl⟩
  have hjl : j < its.length := by rw [← rvs.length, List.length_map]; exact (List.getElem?_eq_some_iff.mp hj).1
  have hlen : (ns.map V.str).length ≤ sizeLine := hz
  have hsm : (j : Int) < 2 ^ 63 - 1 := by
    have h2 : its.length ≤ sizeLine := by rw [← rvs.length]; exact hlen
    rw [sizeLine_eq] at h2
    omega
  let e : Value → Bool := fun v => match v with
    | .str w _ => w == z
    | _ => false
  refine call_meets F.slot_list_index ⟨_, e1, rfl⟩ F.entry_list_index (F.args_list_index_2 _ _) (SeqAt.list_indexAt l its.toArray n1 d1 sl1 (.str z tz) e j (by simpa using hjl) hsm ?_ ?_) ⟨e1, fun y hy => ?_, ?_⟩
  · obtain ⟨w, t, h1, h2⟩ := hget j its[j] (List.getElem?_eq_getElem hjl)
    rw [hj] at h1
    cases h1
    show e its.toArray[j] = true
    rw [List.getElem_toArray, h2]
    show (z == z) = true
    simp
  · intro m hm hmj
    have hm' : m < its.length := by simpa using hm
    obtain ⟨w, t, h1, h2⟩ := hget m its[m] (List.getElem?_eq_getElem hm')
    show e its.toArray[m] = false
    rw [List.getElem_toArray, h2]
    show (w == z) = false
    rw [beq_eq_false_iff_ne]
    intro z'
    exact hno m hmj (by rw [h1, z'])
  · have hy' : y ∈ its := by simpa using hy
    obtain ⟨m, hm⟩ := List.mem_iff_getElem?.mp hy'
    obtain ⟨w, t, h1, rfl⟩ := hget m y hm
    exact SeqAt.EqAt.str_str _ _ _ _
  · exact ⟨.int j, H, I.tok _, ⟨_, rfl⟩, q⟩
theorem k_indexS {K : PySem.W.Frag} (e : X.K = K) : MtR X "list.index" (rIndexS K) := by subst e; exact mt_indexS
end
end L2
set_option maxHeartbeats 4000000
namespace L2
open PySem PySem.Spec PyProof.Rows
/-! ### a raise inside a comprehension: an exception that may bear any mark of flight -/
section
variable {M : Model} {A : Around} {E : Value → Shared → Prop} {s : Shared} {Q : Unit → Shared → Prop} {base : Heap} {env : Env} {outer : List Env} {L e : Addr} {C : Value} {ed : Option Addr} {G : Heap} {H : Hp}
end
/-  a def's body hands on exceptions of any mark -/
structure Leaves (X : Cx) (E : XK) : Prop where
  ex : X.ex = []
  stk : X.stack = X.env :: X.outer
  fr : X.env.frame = some X.env.locals
  on : ∀ pins σ H s a C ed fl, Inv X pins σ H s → Trc H s.heap X.s₀.heap a C ed fl → E C ed H → X.xe (.ref a) s
/-  a block that hands on what comes out of a call -/
structure ToldC (X : Cx) (E : XK) : Prop where
  on : ∀ pins σ H s e s', Inv X pins σ H s → CXE X.prog X.w X.stack H s E e s' → X.xe e s'
section
variable {X : Cx} {k : Nat} {f C : Addr} {fd : FuncData} {ps : List Str} {sp : Sp} {x m : Str} {p pos apos : Pos} {e o : Expr} {es : List Expr} {ta : TE} {t : TA} {E : XK}
end
section
variable {X : Cx} {pins : List (Addr × Obj)} {σ : St} {H : Hp} {s : Shared} {W : Value → Shared → Prop}
end
section
variable {X : Cx} {pins : List (Addr × Obj)} {σ : St} {H2 : Hp} {s2 : Shared} {scope : Scope} {own rest : List Str} {cl : List (Str × Addr)} {fp : List Addr} {E : Value → Shared → Prop}
end
section
variable {X : Cx} {pins : List (Addr × Obj)} {σ : St} {H2 : Hp} {s2 : Shared} {scope : Scope} {N' : List Str} {cl : List (Str × Addr)} {fp : List Addr} {C : Addr} {EX : XK} {use : Option (Value → Sem Unit)} {QQ : Value → Shared → Prop} {acc : Value}
end
section
variable {X : Cx} {elt tg iter : Expr} {ifs : List Expr} {scope : Scope} {pos : Pos} {wi : TI} {g : TG} {tt : TT} {te : TE} {EX : XK}
end
end L2
set_option maxHeartbeats 4000000
namespace L2
open PySem PySem.Spec PyProof.Rows
/-! ### set(list), set(tuple): of keys of one kind -/
/-  how many unlike keys the first i are -/
def unl {α : Type} [BEq α] (val : Nat → α) : Nat → Nat
  | 0 => 0
  | i + 1 => if ((List.range i).map val).any (· == val i) then unl val i else unl val i + 1
theorem unl_le {α : Type} [BEq α] (val : Nat → α) : ∀ i, unl val i ≤ i
  | 0 => Nat.le_refl _
  | i + 1 => by
    have := unl_le val i
    unfold unl
    split <;> omega
theorem met_succ {α : Type} [DecidableEq α] [BEq α] [LawfulBEq α] (val : Nat → α) (i : Nat) (k : α) : ((List.range (i + 1)).map val).any (· == k) = (((List.range i).map val).any (· == k) || decide (k = val i)) := by
  rw [List.range_succ, List.map_append, List.any_append]
  congr 1
  simp only [List.map_cons, List.map_nil, List.any_cons, List.any_nil, Bool.or_false]
  by_cases e : k = val i
  · rw [e]; simp
  · rw [decide_eq_false e, beq_eq_false_iff_ne]
    exact fun z => e z.symm
section
variable {prog : Program} {w : World} {A : Around} {R : Result → Shared → Prop} {I : Addr} {fp wr : List Addr} {G : Array GenState → Array GenState → Prop} {n : Nat} {P : Nat → Value → Prop} {St : Nat → Shared → Prop}
variable {α : Type} [DecidableEq α] [BEq α] [LawfulBEq α] {knd : PySem.KeyKind prog w α}
theorem set_fill (W : WalksS prog w A.in1 I fp wr G n P St) {b : Addr} (nb : b ∉ fp) {val : Nat → α} (hv : ∀ i v, P i v → knd.is (val i) v = true ∧ v.scannable = true) (room : n + 1 < scanBound) :
    ∀ (m i : Nat) (s : Shared), n - i = m → i ≤ n → St i s → s.heap.SetOf knd b (fun k => ((List.range i).map val).any (· == k)) (unl val i) →
      (∀ s', Moved (b :: wr) G s s' → s'.heap.SetOf knd b (fun k => ((List.range n).map val).any (· == k)) (unl val n) → R (.ok (.ret .none)) s') →
      codeAny (model prog w) A (.builtin "set.update.loop" ⟨[.ref b, .ref I], []⟩) R s := by
  have nw : b ∉ wr := fun z => nb (W.sub _ z)
  have more : ∀ c ∈ wr, c ∈ b :: wr := fun c hc => List.mem_cons_of_mem _ hc
  have same : ∀ {s s' : Shared} {S : α → Bool} {k : Nat}, s.heap.SetOf knd b S k → Moved wr G s s' → s'.heap.SetOf knd b S k := fun {s s' S k} h hm => by
    obtain ⟨o, es, ep, t, ho, r⟩ := h
    exact ⟨o, es, ep, t, hm.heap b _ nw ho, r⟩
  intro m
  induction m with
  | zero =>
    intro i s hm hi hst hS hR
    obtain rfl : i = n := by omega
    refine codeAny_builtin PyProof.Rows.F.entry_set_update_loop ?_
    rw [Around.under_plainId PyProof.Rows.F.plain_set_update_loop _]
    show wpAny _ A.in1 (pyNext (.ref I) >>= _) _ _ s
    exact wpAny_bind (W.done s _ _ hst fun s' mv => wpAny_pure (hR s' (mv.mono more) (same hS mv)))
  | succ m ih =>
    intro i s hm hi hst hS hR
    have lt : i < n := by omega
    refine codeAny_builtin PyProof.Rows.F.entry_set_update_loop ?_
    rw [Around.under_plainId PyProof.Rows.F.plain_set_update_loop _]
    show wpAny _ A.in1 (pyNext (.ref I) >>= _) _ _ s
    refine wpAny_bind (W.item i s _ _ lt hst fun v s' hP hst' mv => ?_)
    obtain ⟨hk, hsc⟩ := hv i v hP
    show wpAny _ A.in1 (holding [v] (setAdd b v) >>= _) _ _ s'
    refine wpAny_bind (wpAny_holding ?_)
    unfold setAdd
    refine wpAny_holding (wpAny_bind (knd.pyHash (k := val i) hk ?_))
    have := unl_le val i
    have hS' := same hS mv
    refine wpAny_setAddHashed_of (knd := knd) (s := { s' with toks := s'.toks + 1 }) hk hsc hS' (by omega) fun h' sb hS2 => ?_
    have hS3 : h'.SetOf knd b (fun k => ((List.range (i + 1)).map val).any (· == k)) (unl val (i + 1)) := SetOf_congr hS2 (fun k => (met_succ val i k).symm) rfl
    refine wpAny_pure ⟨plainId_quiet PyProof.Rows.F.plain_set_update_loop _, ih (i + 1) _ (by omega) lt (W.frame _ s' _ _ hst' (Nat.le_succ _) fun c hc o e => ?_) hS3 fun s'' mv' hS4 => ?_⟩
    · rw [sb.2 c (fun z : c = b => nb (by rw [← z]; exact hc))]; exact e
    · refine hR s'' (Moved.trans W.gtrans ((mv.mono more).then_heap (Nat.le_succ _) fun c o hc e => ?_) mv') hS4
      rw [sb.2 c (fun z : c = b => hc (by rw [z]; exact List.mem_cons_self))]; exact e
end
section
variable {prog : Program} {w : World} {A : Around} {E : Value → Shared → Prop} {s : Shared}
abbrev bareSet (led : Bool) : Obj := { cls := .type "set", dict := none, data := .set #[] 0 (.fresh 0 0 led) }
set_option maxHeartbeats 3200000 in
/-  set(x): the new set, then what x yields is put in -/
theorem set_call {x : Value} {Q : Value → Shared → Prop} {Z : Heap → Prop}
    (fill : ∀ (led : Bool) (E' : Value → Shared → Prop) (Q' : Unit → Shared → Prop), (∀ h' tk, Z h' → Q' () { s with heap := h', toks := tk }) → wpAny (model prog w) A.in1.in1 (Builtin.Frozenset.updateFrom "set.__init__" s.heap.objs.size x) Q' E' { s with heap := s.heap.push (bareSet led) })
    (h : ∀ (h' : Heap) (tk : Nat), Z h' → Q (.ref s.heap.objs.size) { s with heap := h', toks := tk }) : wpAny (model prog w) A (call (.type "set") [x]) Q E s := by
  obtain ⟨c, tl, hmro⟩ := PySem.F.called_set.mro
  have g1 := PySem.F.called_set.made
  have g2 := PySem.F.called_set.sub
  have g3 := PySem.F.called_set.notType
  have g4 := PySem.F.called_set.canCreate
  have g5 := PySem.F.typeCall_set_1 x
  refine wpAny_call (codeAny_of_tree ?_)
  show wpAny _ _ (callAny (.type "set") _) _ _ _
  refine wpAny_pure ⟨Code.quiet_builtin _ (by decide +kernel), codeAny_builtin PySem.F.entry_type_call ?_⟩
  rw [Around.under_plain (weight_type_call_type "set" [x] []) rfl]
  repeat (any_goals (first | assumption | wp_step))
  refine codeAny_mono (code_set_new_1 x (E := E) (Q₁ := fun v s1 => ∃ led : Bool, v = .ref s.heap.objs.size ∧ s1 = { s with heap := s.heap.push (bareSet led) }) fun led => ⟨led, rfl, rfl⟩) fun r s1 hr => ?_
  match r, hr with
  | .error e, hr => exact hr
  | .ok .next, hr => exact hr.elim
  | .ok .brk, hr => exact hr.elim
  | .ok .cont, hr => exact hr.elim
  | .ok (.ret v), hr =>
    obtain ⟨led, rfl, rfl⟩ := hr
    have at0 : (s.heap.push (bareSet led)).get? s.heap.objs.size = some (bareSet led) := Heap.get?_push_size _ rfl
    have hT : Shared.TypeIs { s with heap := s.heap.push (bareSet led) } (.ref s.heap.objs.size) "set" := ⟨_, at0, rfl⟩
    have i1 := PySem.F.called_set.init.lookup
    have i2 := PySem.F.called_set.init.bind (.ref s.heap.objs.size)
    repeat (any_goals (first | assumption | wp_step))
    refine codeAny_mono (codeAny_call_builtin (R := wants (fun r s2 => r = .none ∧ ∃ h' tk, s2 = { s with heap := h', toks := tk } ∧ Z h') E) PySem.F.called_set.init.plain PySem.F.entry_set_init (check_set_init_1 hT ?_)) fun r2 s2 hr2 => ?_
    · have at1 : ({ s with heap := s.heap.push (bareSet led) } : Shared).heap.get? s.heap.objs.size = some (bareSet led) := at0
      unfold Builtin.«set.__init__» noKeywords
      generalize hU : Builtin.Frozenset.updateFrom = U
      wp_walk
      subst hU
      exact fill led _ _ fun h' tk z => wpAny_pure ⟨rfl, h', tk, rfl, z⟩
    · match r2, hr2 with
      | .error e, hr2 => exact hr2
      | .ok .next, hr2 => exact hr2.elim
      | .ok .brk, hr2 => exact hr2.elim
      | .ok .cont, hr2 => exact hr2.elim
      | .ok (.ret v), hr2 =>
        obtain ⟨rfl, h', tk, rfl, z⟩ := hr2
        repeat (any_goals (first | assumption | wp_step))
        exact h _ _ z
variable {α : Type} [DecidableEq α] [BEq α] [LawfulBEq α] {knd : PySem.KeyKind prog w α}
/-  what a set of the keys is, at its place -/
def SetAt (knd : PySem.KeyKind prog w α) (b : Addr) (val : Nat → α) (n : Nat) (h h' : Heap) : Prop :=
  h'.SetOf knd b (fun k => ((List.range n).map val).any (· == k)) (unl val n) ∧ ∀ c o, c < b → h.get? c = some o → h'.get? c = some o
theorem set_ofL {l : Addr} {items : Array Value} {val : Nat → α} {Q : Value → Shared → Prop} (hh : A.handled = none) (hl : s.heap.IsList l items) (hv : ∀ (i : Nat) v, items[i]? = some v → knd.is (val i) v = true ∧ v.scannable = true) (room : items.size + 1 < scanBound)
    (h : ∀ (h' : Heap) (tk : Nat), SetAt knd s.heap.objs.size val items.size s.heap h' → Q (.ref s.heap.objs.size) { s with heap := h', toks := tk }) : wpAny (model prog w) A (call (.type "set") [.ref l]) Q E s := by
  refine set_call (Z := SetAt knd s.heap.objs.size val items.size s.heap) (fun led E' Q' q => ?_) h
  obtain ⟨ol, hol, hcl, nl, hdl⟩ := id hl
  obtain ⟨ocls, odict, odata, oslots⟩ := ol
  simp only at hcl hdl
  subst hcl; subst hdl
  have at1 : (s.heap.push (bareSet led)).get? l = some { cls := .type "list", dict := odict, data := .seq items nl, slots := oslots } := Heap.get?_push_of_some _ hol
  have k1 := PySem.F.sub_list_set
  have k2 := PySem.F.sub_list_frozenset
  have k3 : (Value.type "list" == Value.type "dict") = false := by decide
  have hl1 : (s.heap.push (bareSet led)).IsList l items := ⟨_, at1, rfl, nl, rfl⟩
  unfold Builtin.Frozenset.updateFrom
  generalize hP : pyIter = PI
  wp_walk
  subst hP
  refine wpAny_pyIter_list hl1 ?_
  refine wpAny_bind (wpAny_runValue ?_)
  have ll : l < s.heap.objs.size := Heap.lt_size hol
  have sz : (s.heap.push (bareSet led)).objs.size = s.heap.objs.size + 1 := Heap.size_push ..
  refine set_fill (val := val) ((Walks.list (by simp [hh]) _ l (by rw [sz]; exact Nat.ne_of_lt (Nat.lt_succ_of_lt ll)) items).toS) (b := s.heap.objs.size) (by rw [sz]; simp; exact Nat.ne_of_gt ll) hv room (items.size - 0) 0 _ (by omega) (Nat.zero_le _) ⟨⟨_, Heap.get?_push_size _ rfl, rfl, rfl⟩, hl1.push _⟩ ?_ ?_
  · have g := Heap.get?_push_of_some (h := s.heap.push (bareSet led)) { cls := .type "list_iterator", data := .fields #[.ref l, .int 0 0] } (Heap.get?_push_size (o := bareSet led) s.heap rfl)
    exact SetOf_congr ((setObjOf_fresh (knd := knd) led).setOf g (by unfold scanBound; omega)) (fun _ => rfl) rfl
  · intro s' mv hS
    obtain ⟨h', g', d', tk', os'⟩ := s'
    obtain rfl : g' = s.gens := mv.gens
    obtain rfl : d' = s.drawn := mv.drawn
    obtain rfl : os' = s.os := mv.os
    show wpAny _ _ _ _ _ _
    refine wpAny_pure ?_
    refine q h' tk' ⟨hS, fun c o hc e => ?_⟩
    refine mv.heap c o ?_ (Heap.get?_push_of_some _ (Heap.get?_push_of_some _ e))
    rw [sz]
    simp only [List.mem_cons, List.not_mem_nil, or_false, not_or]
    exact ⟨Nat.ne_of_lt hc, Nat.ne_of_lt (Nat.lt_succ_of_lt hc)⟩
theorem sub_tuple_set : isSubtype (.type "tuple") (.type "set") = pure false := by rw [isSubtype_type]; kernel_rfl
theorem sub_tuple_frozenset : isSubtype (.type "tuple") (.type "frozenset") = pure false := by rw [isSubtype_type]; kernel_rfl
theorem set_ofT {l : Addr} {items : Array Value} {val : Nat → α} {Q : Value → Shared → Prop} (hh : A.handled = none) (hl : s.heap.IsTuple l items) (hv : ∀ (i : Nat) v, items[i]? = some v → knd.is (val i) v = true ∧ v.scannable = true) (room : items.size + 1 < scanBound)
    (h : ∀ (h' : Heap) (tk : Nat), SetAt knd s.heap.objs.size val items.size s.heap h' → Q (.ref s.heap.objs.size) { s with heap := h', toks := tk }) : wpAny (model prog w) A (call (.type "set") [.ref l]) Q E s := by
  refine set_call (Z := SetAt knd s.heap.objs.size val items.size s.heap) (fun led E' Q' q => ?_) h
  obtain ⟨ol, hol, hcl, nl, hdl⟩ := id hl
  obtain ⟨ocls, odict, odata, oslots⟩ := ol
  simp only at hcl hdl
  subst hcl; subst hdl
  have at1 : (s.heap.push (bareSet led)).get? l = some { cls := .type "tuple", dict := odict, data := .seq items nl, slots := oslots } := Heap.get?_push_of_some _ hol
  have k1 := sub_tuple_set
  have k2 := sub_tuple_frozenset
  have k3 : (Value.type "tuple" == Value.type "dict") = false := by decide
  have hl1 : (s.heap.push (bareSet led)).IsTuple l items := ⟨_, at1, rfl, nl, rfl⟩
  unfold Builtin.Frozenset.updateFrom
  generalize hP : pyIter = PI
  wp_walk
  subst hP
  refine wpAny_pyIter_tuple hl1 ?_
  refine wpAny_bind (wpAny_runValue ?_)
  have ll : l < s.heap.objs.size := Heap.lt_size hol
  have sz : (s.heap.push (bareSet led)).objs.size = s.heap.objs.size + 1 := Heap.size_push ..
  refine set_fill (val := val) ((Walks.tuple (by simp [hh]) _ l (by rw [sz]; exact Nat.ne_of_lt (Nat.lt_succ_of_lt ll)) items).toS) (b := s.heap.objs.size) (by rw [sz]; simp; exact Nat.ne_of_gt ll) hv room (items.size - 0) 0 _ (by omega) (Nat.zero_le _) ⟨⟨_, Heap.get?_push_size _ rfl, rfl, rfl⟩, hl1.at fun o e => Heap.get?_push_of_some _ e⟩ ?_ ?_
  · have g := Heap.get?_push_of_some (h := s.heap.push (bareSet led)) { cls := .type "tuple_iterator", data := .fields #[.ref l, .int 0 0] } (Heap.get?_push_size (o := bareSet led) s.heap rfl)
    exact SetOf_congr ((setObjOf_fresh (knd := knd) led).setOf g (by unfold scanBound; omega)) (fun _ => rfl) rfl
  · intro s' mv hS
    obtain ⟨h', g', d', tk', os'⟩ := s'
    obtain rfl : g' = s.gens := mv.gens
    obtain rfl : d' = s.drawn := mv.drawn
    obtain rfl : os' = s.os := mv.os
    show wpAny _ _ _ _ _ _
    refine wpAny_pure ?_
    refine q h' tk' ⟨hS, fun c o hc e => ?_⟩
    refine mv.heap c o ?_ (Heap.get?_push_of_some _ (Heap.get?_push_of_some _ e))
    rw [sz]
    simp only [List.mem_cons, List.not_mem_nil, or_false, not_or]
    exact ⟨Nat.ne_of_lt hc, Nat.ne_of_lt (Nat.lt_succ_of_lt hc)⟩
end
end L2
set_option maxHeartbeats 4000000
namespace L2
open PySem PySem.Spec PyProof.Rows
/-  a set, by how many it holds -/
def SzO (b : Addr) (n : Nat) : HO := .ext fun h => ∃ o es ep t, h.get? b = some o ∧ o.ExactSet ∧ o.data = .set es ep t ∧ t.fits es.size = true ∧ es.size = n
theorem szo_ok {P : Program} {w : World} {H : Hp} {h : Heap} {a : Addr} {n : Nat} (x : ∃ o es ep t, h.get? a = some o ∧ o.ExactSet ∧ o.data = .set es ep t ∧ t.fits es.size = true ∧ es.size = n) : ObjOk P w H h a (SzO a n) :=
  ⟨x, (let ⟨o, _, _, _, e, _⟩ := x; ⟨o, e⟩), fun _ _ ⟨o, es, ep, t, e, r⟩ k => ⟨o, es, ep, t, k o e, r⟩⟩
theorem bt_set : bootBuiltins "set" = some (.type "set") := by decide +kernel
section
variable {X : Cx}
/-  set(x), x a list or a tuple of texts -/
def rSetS (K : PySem.W.Frag) : List V → Hp → VK → Prop := fun xs H Q => ∃ a, ∃ zs : List Str, xs = [.ref a] ∧ (SqL K H a (zs.map V.str) ∨ SqT K H a (zs.map V.str)) ∧ zs.length ≤ 1000 ∧ ∀ p, H p = none → Q (.ref p) (upd H p (SzO p (unl (fun i => zs.getD i Str.empty) zs.length)))
/-  set(x), x a list or a tuple of numbers -/
def rSetI (K : PySem.W.Frag) : List V → Hp → VK → Prop := fun xs H Q => ∃ a, ∃ zs : List Int, xs = [.ref a] ∧ (SqL K H a (zs.map V.int) ∨ SqT K H a (zs.map V.int)) ∧ zs.length ≤ 1000 ∧ ∀ p, H p = none → Q (.ref p) (upd H p (SzO p (unl (fun i => zs.getD i 0) zs.length)))
theorem str_at {zs : List Str} {its : List Value} (r : Vals (zs.map V.str) its) (P : Program) (w : World) : ∀ (i : Nat) v, its.toArray[i]? = some v → (strKind P w).is (zs.getD i Str.empty) v = true ∧ v.scannable = true := fun i v hv => by
  have hv' : its[i]? = some v := by simpa using hv
  have hm : i < zs.length := by
    have := r.length
    rw [List.length_map] at this
    rw [this]
    exact (List.getElem?_eq_some_iff.mp hv').1
  obtain ⟨u, hu, ru⟩ := r.get (i := i) (x := V.str zs[i]) (by rw [List.getElem?_map, List.getElem?_eq_getElem hm]; rfl)
  rw [hv'] at hu
  cases hu
  obtain ⟨t, rfl⟩ := ru
  rw [List.getD_eq_getElem?_getD, List.getElem?_eq_getElem hm]
  exact ⟨strKind_is _ _ _ _, rfl⟩
theorem int_at {zs : List Int} {its : List Value} (r : Vals (zs.map V.int) its) (P : Program) (w : World) : ∀ (i : Nat) v, its.toArray[i]? = some v → (intKind P w).is (zs.getD i 0) v = true ∧ v.scannable = true := fun i v hv => by
  have hv' : its[i]? = some v := by simpa using hv
  have hm : i < zs.length := by
    have := r.length
    rw [List.length_map] at this
    rw [this]
    exact (List.getElem?_eq_some_iff.mp hv').1
  obtain ⟨u, hu, ru⟩ := r.get (i := i) (x := V.int zs[i]) (by rw [List.getElem?_map, List.getElem?_eq_getElem hm]; rfl)
  rw [hv'] at hu
  cases hu
  obtain ⟨t, rfl⟩ := ru
  rw [List.getD_eq_getElem?_getD, List.getElem?_eq_getElem hm]
  exact ⟨intKind_is _ _ _ _, rfl⟩
theorem set_done {α : Type} [DecidableEq α] [BEq α] [LawfulBEq α] {knd : PySem.KeyKind X.prog X.w α} {val : Nat → α} {m : Nat} {pins : List (Addr × Obj)} {s : Shared} {σ : St} {H : Hp} {Q : VK} (I : Inv X pins σ H s) (q : ∀ p, H p = none → Q (.ref p) (upd H p (SzO p (unl val m)))) :
    ∀ (h' : Heap) (tk : Nat), SetAt knd s.heap.objs.size val m s.heap h' → EP X pins σ Q (.ref s.heap.objs.size) { s with heap := h', toks := tk } := fun h' tk ⟨⟨o, es, ep, t, ho, hex, hd, _, _, _, hf, hn⟩, kp⟩ =>
  ⟨.ref s.heap.objs.size, _, I.laid (t' := tk) (fun b u e => kp b u (Heap.lt_size e) e) (Nat.le_refl _) (szo_ok ⟨o, es, ep, t, ho, hex, hd, hf, hn⟩), rfl, q _ (I.hok.fresh (Nat.le_refl _))⟩
theorem call_setS (hc : X.calm = true) : CallR X (.type "set") (rSetS X.K) := by
  intro pins s σ H xs us Q I r h
  obtain ⟨p, zs, rfl, hq, hz, q⟩ := h
  obtain ⟨u, rfl, rx⟩ := vals1 r
  cases rx
  rcases hq with hq | hq
  · obtain ⟨its, r', pl, _⟩ := I.list hq
    have hl := r'.length
    rw [List.length_map] at hl
    have hsz : its.toArray.size = zs.length := by rw [List.size_toArray, ← hl]
    refine set_ofL (knd := strKind X.prog X.w) (I.ok.hd hc) pl.isList (str_at r' _ _) (by rw [hsz]; unfold scanBound; omega) ?_
    rw [hsz]
    exact set_done I q
  · obtain ⟨its, r', pl, _⟩ := I.tuple hq
    have hl := r'.length
    rw [List.length_map] at hl
    have hsz : its.toArray.size = zs.length := by rw [List.size_toArray, ← hl]
    refine set_ofT (knd := strKind X.prog X.w) (I.ok.hd hc) pl (str_at r' _ _) (by rw [hsz]; unfold scanBound; omega) ?_
    rw [hsz]
    exact set_done I q
theorem call_setI (hc : X.calm = true) : CallR X (.type "set") (rSetI X.K) := by
  intro pins s σ H xs us Q I r h
  obtain ⟨p, zs, rfl, hq, hz, q⟩ := h
  obtain ⟨u, rfl, rx⟩ := vals1 r
  cases rx
  rcases hq with hq | hq
  · obtain ⟨its, r', pl, _⟩ := I.list hq
    have hl := r'.length
    rw [List.length_map] at hl
    have hsz : its.toArray.size = zs.length := by rw [List.size_toArray, ← hl]
    refine set_ofL (knd := intKind X.prog X.w) (I.ok.hd hc) pl.isList (int_at r' _ _) (by rw [hsz]; unfold scanBound; omega) ?_
    rw [hsz]
    exact set_done I q
  · obtain ⟨its, r', pl, _⟩ := I.tuple hq
    have hl := r'.length
    rw [List.length_map] at hl
    have hsz : its.toArray.size = zs.length := by rw [List.size_toArray, ← hl]
    refine set_ofT (knd := intKind X.prog X.w) (I.ok.hd hc) pl (int_at r' _ _) (by rw [hsz]; unfold scanBound; omega) ?_
    rw [hsz]
    exact set_done I q
/-  len(x), x such a set -/
def rLenSet : List V → Hp → VK → Prop := fun xs H Q => ∃ a n, xs = [.ref a] ∧ H a = some (SzO a n) ∧ n ≤ 1000 ∧ Q (.int n) H
theorem call_lenSet : CallR X (.builtin "len") rLenSet := by
  intro pins s σ H xs us Q I r h
  obtain ⟨a, n, rfl, ha, hn, q⟩ := h
  obtain ⟨u, rfl, rx⟩ := vals1 r
  cases rx
  obtain ⟨⟨o, es, ep, t, e, hex, hd, hf, hs⟩, _⟩ := (show ObjOk X.prog X.w H s.heap a (SzO a n) from I.hok a _ ha)
  refine call_len_set e hex hd hf (by rw [hs]; omega) ?_
  rw [hs]
  exact ⟨.int n, H, I.tok _, ⟨_, rfl⟩, q⟩
theorem k_setS {K : PySem.W.Frag} (e : X.K = K) (hc : X.calm = true) : CallR X (.type "set") (rSetS K) := by subst e; exact call_setS hc
theorem k_setI {K : PySem.W.Frag} (e : X.K = K) (hc : X.calm = true) : CallR X (.type "set") (rSetI K) := by subst e; exact call_setI hc
end
end L2
set_option maxHeartbeats 4000000
namespace L2
open PySem PySem.Spec PyProof.Rows
section
variable {X : Cx}
end
end L2
set_option maxHeartbeats 4000000
namespace L2
open PySem PySem.Spec PyProof.Rows
/-! ### what is never reached; isinstance of an exception, by a tuple of classes -/
section
variable {X : Cx}
def tStop : TS := fun _ _ _ => False
end
end L2
set_option maxHeartbeats 4000000
namespace L2
open PySem PySem.Spec PyProof.Rows
/-! ### dict(list of pairs) -/
section
variable {prog : Program} {w : World} {A : Around} {E : Value → Shared → Prop} {s : Shared}
end
section
variable {prog : Program} {w : World} {A : Around} {R : Result → Shared → Prop} {I : Addr} {fp wr : List Addr} {G : Array GenState → Array GenState → Prop} {n : Nat} {P : Nat → Value → Prop} {St : Nat → Shared → Prop}
variable {α : Type} [DecidableEq α] {knd : PySem.KeyKind prog w α}
end
section
variable {prog : Program} {w : World} {A : Around} {E : Value → Shared → Prop} {s : Shared} {α : Type} [DecidableEq α] {knd : PySem.KeyKind prog w α}
end
section
variable {X : Cx}
end
end L2
set_option maxHeartbeats 4000000
namespace HT
open PySem PySem.Spec PyProof.Rows L2
end HT
namespace L2
open PySem PySem.Spec PyProof.Rows HT
/-! ### t[lo:hi] of a tuple, the whole of it as well -/
section
variable {prog : Program} {w : World} {A : Around} {E : Value → Shared → Prop} {s : Shared}
end
section
variable {X : Cx}
end
end L2
set_option maxHeartbeats 4000000
namespace L2
open PySem PySem.Spec PyProof.Rows
/-! ### max(list, default=d), min(list, default=d) -/
theorem mxD_kw (a v : Value) : argsOk "max" ⟨[a], [(Str.ofString "default", v)]⟩ := by unfold argsOk; kernel_rfl
theorem mxD_nm : (toString "max" ++ toString ".loop" : String) = "max.loop" := by decide
section
variable {prog : Program} {w : World} {A : Around} {R : Result → Shared → Prop} {I : Addr} {fp wr : List Addr} {n : Nat} {P : Nat → Value → Prop} {St : Nat → Heap → Prop}
theorem mxD_go (W : Walks prog w A.in1 I fp wr n P St) {bt : Nat → Nat → Bool} (cmp : CmpOf prog w A.in1 .Gt P bt) {B : Addr} (nf : B ∉ fp) {d : Value} :
    ∀ (m i : Nat) (z : Shared) (cur : Value) (cc : Nat), n = i + 1 + m → St (i + 1) z.heap → P (argBest bt i) cur → z.heap.get? B = some { cls := .type "list", dict := none, data := .seq #[cur, cur] cc, slots := #[] } →
      (∀ v h2 t2, P (argBest bt (n - 1)) v → (∀ b o, b ∉ wr → b ≠ B → z.heap.get? b = some o → h2.get? b = some o) → R (.ok (.ret v)) { z with heap := h2, toks := t2 }) →
      codeAny (model prog w) A (.builtin "max.loop" ⟨[.ref I, .none, .ref B], [(Str.ofString "default", d)]⟩) R z
  | 0, i, z, cur, cc, hm, st, pc, hB, fin => by
    have nw : B ∉ wr := fun q => nf (W.sub _ q)
    refine codeAny_builtin F.entry_max_loop ?_; rw [Around.under_plainId F.plain_max_loop _]
    show wpAny _ A.in1 (seqItems? (.ref B) >>= _) _ _ z; refine wpAny_bind (wpAny_seqItems hB rfl ?_)
    show wpAny _ A.in1 (tryCatch (pyNext (.ref I)) _ >>= _) _ _ z
    refine wpAny_bind (wpAny_tryCatch (W.done z _ _ (by rw [hm]; exact st) fun h2 t2 kp => ?_)); show wpAny _ A.in1 (updateSeq B (fun _ => #[]) >>= _) _ _ _
    refine wpAny_bind (wpAny_updateSeq (kp B _ nw hB) rfl (wpAny_bind (wpAny_letGo (wpAny_pure (fin cur _ t2 ?_ fun b o hb hn e => (Heap.get?_update_other _ _ (Ne.symm hn)).trans (kp b o hb e))))))
    rw [show n - 1 = i by omega]; exact pc
  | m + 1, i, z, cur, cc, hm, st, pc, hB, fin => by
    have nw : B ∉ wr := fun q => nf (W.sub _ q)
    refine codeAny_builtin F.entry_max_loop ?_; rw [Around.under_plainId F.plain_max_loop _]
    show wpAny _ A.in1 (seqItems? (.ref B) >>= _) _ _ z; refine wpAny_bind (wpAny_seqItems hB rfl ?_)
    show wpAny _ A.in1 (tryCatch (pyNext (.ref I)) _ >>= _) _ _ z
    refine wpAny_bind (wpAny_tryCatch (W.item (i + 1) z _ _ (by omega) st fun v h2 t2 pv st2 kp => ?_))
    have hB2 := kp B _ nw hB
    show wpAny _ A.in1 (tryCatch (holding [v, v] (richCompare .Gt v cur >>= _)) _ >>= _) _ _ _
    refine wpAny_bind (wpAny_tryCatch (wpAny_holding (wpAny_bind (cmp (i + 1) (argBest bt i) v cur _ _ _ pv pc (wpAny_bind (wpAny_holding (wpAny_truthy_bool (wpAny_bind (wpAny_letGo (wpAny_pure ?_))))))))))
    by_cases c : bt (i + 1) (argBest bt i) = true
    · have e : argBest bt (i + 1) = i + 1 := by unfold argBest; rw [if_pos c]
      rw [if_pos c]
      refine wpAny_bind (wpAny_updateSeq hB2 rfl (wpAny_bind (wpAny_letGo ?_))); rw [mxD_nm]
      refine wpAny_pure ⟨plainId_quiet F.plain_max_loop _, mxD_go W cmp nf m (i + 1) _ v _ (by omega) (W.frame _ _ _ st2 fun b hb o q => ?_) (by rw [e]; exact pv) (Heap.get?_update_self _ hB2 rfl) fun v' h3 t3 pv' kp' => fin v' h3 t3 pv' fun b o hb hn q => kp' b o hb hn ((Heap.get?_update_other _ _ (Ne.symm hn)).trans (kp b o hb q))⟩
      exact (Heap.get?_update_other _ _ fun q : B = b => nf (by rw [q]; exact hb)).trans q
    · have e : argBest bt (i + 1) = argBest bt i := by rw [argBest, if_neg c]
      rw [if_neg c]
      refine wpAny_bind (wpAny_letGo ?_); rw [mxD_nm]
      exact wpAny_pure ⟨plainId_quiet F.plain_max_loop _, mxD_go W cmp nf m (i + 1) _ cur cc (by omega) st2 (by rw [e]; exact pc) hB2 fun v' h3 t3 pv' kp' => fin v' h3 t3 pv' fun b o hb hn q => kp' b o hb hn (kp b o hb q)⟩
theorem mxD_one (W : Walks prog w A.in1 I fp wr n P St) {bt : Nat → Nat → Bool} (cmp : CmpOf prog w A.in1 .Gt P bt) {B : Addr} (nf : B ∉ fp) {d : Value} {z : Shared} {cc : Nat} (st : St 0 z.heap) (hB : z.heap.get? B = some { cls := .type "list", dict := none, data := .seq #[] cc, slots := #[] })
    (non : n = 0 → ∀ h2 t2, (∀ b o, b ∉ wr → b ≠ B → z.heap.get? b = some o → h2.get? b = some o) → R (.ok (.ret d)) { z with heap := h2, toks := t2 })
    (fin : 0 < n → ∀ v h2 t2, P (argBest bt (n - 1)) v → (∀ b o, b ∉ wr → b ≠ B → z.heap.get? b = some o → h2.get? b = some o) → R (.ok (.ret v)) { z with heap := h2, toks := t2 }) :
    codeAny (model prog w) A (.builtin "max.loop" ⟨[.ref I, .none, .ref B], [(Str.ofString "default", d)]⟩) R z := by
  have nw : B ∉ wr := fun q => nf (W.sub _ q)
  refine codeAny_builtin F.entry_max_loop ?_; rw [Around.under_plainId F.plain_max_loop _]
  show wpAny _ A.in1 (seqItems? (.ref B) >>= _) _ _ z; refine wpAny_bind (wpAny_seqItems hB rfl ?_)
  show wpAny _ A.in1 (tryCatch (pyNext (.ref I)) _ >>= _) _ _ z
  by_cases h0 : n = 0
  · refine wpAny_bind (wpAny_tryCatch (W.done z _ _ (by rw [h0]; exact st) fun h2 t2 kp => ?_))
    exact wpAny_bind (wpAny_rule (wpAny_pure (non h0 h2 t2 fun b o hb _ q => kp b o hb q)))
  · have hp : 0 < n := by omega
    refine wpAny_bind (wpAny_tryCatch (W.item 0 z _ _ hp st fun v h2 t2 pv st2 kp => ?_))
    have hB2 := kp B _ nw hB
    show wpAny _ A.in1 (updateSeq B (fun _ => #[v, v]) >>= _) _ _ _
    refine wpAny_bind (wpAny_updateSeq hB2 rfl ?_); rw [mxD_nm]
    refine wpAny_pure ⟨plainId_quiet F.plain_max_loop _, mxD_go W cmp nf (n - 1) 0 _ v _ (by omega) (W.frame _ _ _ st2 fun b hb o q => ?_) pv (Heap.get?_update_self _ hB2 rfl) fun v' h3 t3 pv' kp' => fin hp v' h3 t3 pv' fun b o hb hn q => kp' b o hb hn ((Heap.get?_update_other _ _ (Ne.symm hn)).trans (kp b o hb q))⟩
    exact (Heap.get?_update_other _ _ fun q : B = b => nf (by rw [q]; exact hb)).trans q
end
section
variable {prog : Program} {w : World} {A : Around} {E : Value → Shared → Prop} {s : Shared}
theorem mxD_list {l : Addr} {items : Array Value} {d : Value} {bt : Nat → Nat → Bool} {Q : Value → Shared → Prop} (hh : A.handled = none) (hl : s.heap.IsList l items) (cmp : CmpOf prog w A.in1 .Gt (fun i v => items[i]? = some v) bt)
    (non : items.size = 0 → ∀ h2 t2, (∀ b o, s.heap.get? b = some o → h2.get? b = some o) → Q d { s with heap := h2, toks := t2 })
    (fin : 0 < items.size → ∀ v h2 t2, items[argBest bt (items.size - 1)]? = some v → (∀ b o, s.heap.get? b = some o → h2.get? b = some o) → Q v { s with heap := h2, toks := t2 }) :
    wpAny (model prog w) A (call (.builtin "max") [.ref l] [(Str.ofString "default", d)]) Q E s := by
  refine PyProof.Rows.kmk_tree F.kind_max F.plain_max F.entry_max (mxD_kw _ _) ?_
  show wpAny _ A.in1 (Builtin.Builtins.bindParams "max" ["key", "default"] 0 ⟨[], [(Str.ofString "default", d)]⟩ >>= _) _ _ s
  refine wpAny_bind (wpAny_of_eq (show Builtin.Builtins.bindParams "max" ["key", "default"] 0 ⟨[], [(Str.ofString "default", d)]⟩ = pure [none, some d] from rfl) (wpAny_bind (wpAny_pure (wpAny_bind (wpAny_pyIter_list hl (wpAny_bind (wpAny_newObj_type ?_)))))))
  rw [mxD_nm]
  obtain ⟨ol, hol, hcl⟩ := id hl
  have ll : l < s.heap.objs.size := Heap.lt_size hol
  have sz : (s.heap.push { cls := .type "list_iterator", data := .fields #[.ref l, .int 0 0] }).objs.size = s.heap.objs.size + 1 := Heap.size_push ..
  refine wpAny_pure ⟨plainId_quiet F.plain_max_loop _, mxD_one (Walks.list (by simp [hh]) s.heap.objs.size l (Nat.ne_of_lt ll) items) cmp (B := (s.heap.push { cls := .type "list_iterator", data := .fields #[.ref l, .int 0 0] }).objs.size) ?_ ⟨?_, ?_⟩ (Heap.get?_push_size _ rfl) (fun h0 h2 t2 kp => non h0 h2 t2 fun b o q => ?_) (fun h0 v h2 t2 pv kp => fin h0 v h2 t2 pv fun b o q => ?_)⟩
  · rw [sz]
    simp only [List.mem_cons, List.not_mem_nil, or_false, not_or]
    exact ⟨Nat.succ_ne_self _, Nat.ne_of_gt (Nat.lt_succ_of_lt ll)⟩
  · exact ⟨_, Heap.get?_push_of_some _ (Heap.get?_push_size _ rfl), rfl, rfl⟩
  · exact (hl.push _).push _
  all_goals
    have lb : b < s.heap.objs.size := Heap.lt_size q
    refine kp b o ?_ ?_ (Heap.get?_push_of_some _ (Heap.get?_push_of_some _ q))
    · simp only [List.mem_cons, List.not_mem_nil, or_false]
      exact Nat.ne_of_lt lb
    · rw [sz]
      exact Nat.ne_of_lt (Nat.lt_succ_of_lt lb)
end
theorem mnD_kw (a v : Value) : argsOk "min" ⟨[a], [(Str.ofString "default", v)]⟩ := by unfold argsOk; kernel_rfl
theorem mnD_nm : (toString "min" ++ toString ".loop" : String) = "min.loop" := by decide
section
variable {prog : Program} {w : World} {A : Around} {R : Result → Shared → Prop} {I : Addr} {fp wr : List Addr} {n : Nat} {P : Nat → Value → Prop} {St : Nat → Heap → Prop}
theorem mnD_go (W : Walks prog w A.in1 I fp wr n P St) {bt : Nat → Nat → Bool} (cmp : CmpOf prog w A.in1 .Lt P bt) {B : Addr} (nf : B ∉ fp) {d : Value} :
    ∀ (m i : Nat) (z : Shared) (cur : Value) (cc : Nat), n = i + 1 + m → St (i + 1) z.heap → P (argBest bt i) cur → z.heap.get? B = some { cls := .type "list", dict := none, data := .seq #[cur, cur] cc, slots := #[] } →
      (∀ v h2 t2, P (argBest bt (n - 1)) v → (∀ b o, b ∉ wr → b ≠ B → z.heap.get? b = some o → h2.get? b = some o) → R (.ok (.ret v)) { z with heap := h2, toks := t2 }) →
      codeAny (model prog w) A (.builtin "min.loop" ⟨[.ref I, .none, .ref B], [(Str.ofString "default", d)]⟩) R z
  | 0, i, z, cur, cc, hm, st, pc, hB, fin => by
    have nw : B ∉ wr := fun q => nf (W.sub _ q)
    refine codeAny_builtin F.entry_min_loop ?_; rw [Around.under_plainId F.plain_min_loop _]
    show wpAny _ A.in1 (seqItems? (.ref B) >>= _) _ _ z; refine wpAny_bind (wpAny_seqItems hB rfl ?_)
    show wpAny _ A.in1 (tryCatch (pyNext (.ref I)) _ >>= _) _ _ z
    refine wpAny_bind (wpAny_tryCatch (W.done z _ _ (by rw [hm]; exact st) fun h2 t2 kp => ?_)); show wpAny _ A.in1 (updateSeq B (fun _ => #[]) >>= _) _ _ _
    refine wpAny_bind (wpAny_updateSeq (kp B _ nw hB) rfl (wpAny_bind (wpAny_letGo (wpAny_pure (fin cur _ t2 ?_ fun b o hb hn e => (Heap.get?_update_other _ _ (Ne.symm hn)).trans (kp b o hb e))))))
    rw [show n - 1 = i by omega]; exact pc
  | m + 1, i, z, cur, cc, hm, st, pc, hB, fin => by
    have nw : B ∉ wr := fun q => nf (W.sub _ q)
    refine codeAny_builtin F.entry_min_loop ?_; rw [Around.under_plainId F.plain_min_loop _]
    show wpAny _ A.in1 (seqItems? (.ref B) >>= _) _ _ z; refine wpAny_bind (wpAny_seqItems hB rfl ?_)
    show wpAny _ A.in1 (tryCatch (pyNext (.ref I)) _ >>= _) _ _ z
    refine wpAny_bind (wpAny_tryCatch (W.item (i + 1) z _ _ (by omega) st fun v h2 t2 pv st2 kp => ?_))
    have hB2 := kp B _ nw hB
    show wpAny _ A.in1 (tryCatch (holding [v, v] (richCompare .Lt v cur >>= _)) _ >>= _) _ _ _
    refine wpAny_bind (wpAny_tryCatch (wpAny_holding (wpAny_bind (cmp (i + 1) (argBest bt i) v cur _ _ _ pv pc (wpAny_bind (wpAny_holding (wpAny_truthy_bool (wpAny_bind (wpAny_letGo (wpAny_pure ?_))))))))))
    by_cases c : bt (i + 1) (argBest bt i) = true
    · have e : argBest bt (i + 1) = i + 1 := by unfold argBest; rw [if_pos c]
      rw [if_pos c]
      refine wpAny_bind (wpAny_updateSeq hB2 rfl (wpAny_bind (wpAny_letGo ?_))); rw [mnD_nm]
      refine wpAny_pure ⟨plainId_quiet F.plain_min_loop _, mnD_go W cmp nf m (i + 1) _ v _ (by omega) (W.frame _ _ _ st2 fun b hb o q => ?_) (by rw [e]; exact pv) (Heap.get?_update_self _ hB2 rfl) fun v' h3 t3 pv' kp' => fin v' h3 t3 pv' fun b o hb hn q => kp' b o hb hn ((Heap.get?_update_other _ _ (Ne.symm hn)).trans (kp b o hb q))⟩
      exact (Heap.get?_update_other _ _ fun q : B = b => nf (by rw [q]; exact hb)).trans q
    · have e : argBest bt (i + 1) = argBest bt i := by rw [argBest, if_neg c]
      rw [if_neg c]
      refine wpAny_bind (wpAny_letGo ?_); rw [mnD_nm]
      exact wpAny_pure ⟨plainId_quiet F.plain_min_loop _, mnD_go W cmp nf m (i + 1) _ cur cc (by omega) st2 (by rw [e]; exact pc) hB2 fun v' h3 t3 pv' kp' => fin v' h3 t3 pv' fun b o hb hn q => kp' b o hb hn (kp b o hb q)⟩
theorem mnD_one (W : Walks prog w A.in1 I fp wr n P St) {bt : Nat → Nat → Bool} (cmp : CmpOf prog w A.in1 .Lt P bt) {B : Addr} (nf : B ∉ fp) {d : Value} {z : Shared} {cc : Nat} (st : St 0 z.heap) (hB : z.heap.get? B = some { cls := .type "list", dict := none, data := .seq #[] cc, slots := #[] })
    (non : n = 0 → ∀ h2 t2, (∀ b o, b ∉ wr → b ≠ B → z.heap.get? b = some o → h2.get? b = some o) → R (.ok (.ret d)) { z with heap := h2, toks := t2 })
    (fin : 0 < n → ∀ v h2 t2, P (argBest bt (n - 1)) v → (∀ b o, b ∉ wr → b ≠ B → z.heap.get? b = some o → h2.get? b = some o) → R (.ok (.ret v)) { z with heap := h2, toks := t2 }) :
    codeAny (model prog w) A (.builtin "min.loop" ⟨[.ref I, .none, .ref B], [(Str.ofString "default", d)]⟩) R z := by
  have nw : B ∉ wr := fun q => nf (W.sub _ q)
  refine codeAny_builtin F.entry_min_loop ?_; rw [Around.under_plainId F.plain_min_loop _]
  show wpAny _ A.in1 (seqItems? (.ref B) >>= _) _ _ z; refine wpAny_bind (wpAny_seqItems hB rfl ?_)
  show wpAny _ A.in1 (tryCatch (pyNext (.ref I)) _ >>= _) _ _ z
  by_cases h0 : n = 0
  · refine wpAny_bind (wpAny_tryCatch (W.done z _ _ (by rw [h0]; exact st) fun h2 t2 kp => ?_))
    exact wpAny_bind (wpAny_rule (wpAny_pure (non h0 h2 t2 fun b o hb _ q => kp b o hb q)))
  · have hp : 0 < n := by omega
    refine wpAny_bind (wpAny_tryCatch (W.item 0 z _ _ hp st fun v h2 t2 pv st2 kp => ?_))
    have hB2 := kp B _ nw hB
    show wpAny _ A.in1 (updateSeq B (fun _ => #[v, v]) >>= _) _ _ _
    refine wpAny_bind (wpAny_updateSeq hB2 rfl ?_); rw [mnD_nm]
    refine wpAny_pure ⟨plainId_quiet F.plain_min_loop _, mnD_go W cmp nf (n - 1) 0 _ v _ (by omega) (W.frame _ _ _ st2 fun b hb o q => ?_) pv (Heap.get?_update_self _ hB2 rfl) fun v' h3 t3 pv' kp' => fin hp v' h3 t3 pv' fun b o hb hn q => kp' b o hb hn ((Heap.get?_update_other _ _ (Ne.symm hn)).trans (kp b o hb q))⟩
    exact (Heap.get?_update_other _ _ fun q : B = b => nf (by rw [q]; exact hb)).trans q
end
section
variable {prog : Program} {w : World} {A : Around} {E : Value → Shared → Prop} {s : Shared}
theorem mnD_list {l : Addr} {items : Array Value} {d : Value} {bt : Nat → Nat → Bool} {Q : Value → Shared → Prop} (hh : A.handled = none) (hl : s.heap.IsList l items) (cmp : CmpOf prog w A.in1 .Lt (fun i v => items[i]? = some v) bt)
    (non : items.size = 0 → ∀ h2 t2, (∀ b o, s.heap.get? b = some o → h2.get? b = some o) → Q d { s with heap := h2, toks := t2 })
    (fin : 0 < items.size → ∀ v h2 t2, items[argBest bt (items.size - 1)]? = some v → (∀ b o, s.heap.get? b = some o → h2.get? b = some o) → Q v { s with heap := h2, toks := t2 }) :
    wpAny (model prog w) A (call (.builtin "min") [.ref l] [(Str.ofString "default", d)]) Q E s := by
  refine PyProof.Rows.kmk_tree F.kind_min F.plain_min F.entry_min (mnD_kw _ _) ?_
  show wpAny _ A.in1 (Builtin.Builtins.bindParams "min" ["key", "default"] 0 ⟨[], [(Str.ofString "default", d)]⟩ >>= _) _ _ s
  refine wpAny_bind (wpAny_of_eq (show Builtin.Builtins.bindParams "min" ["key", "default"] 0 ⟨[], [(Str.ofString "default", d)]⟩ = pure [none, some d] from rfl) (wpAny_bind (wpAny_pure (wpAny_bind (wpAny_pyIter_list hl (wpAny_bind (wpAny_newObj_type ?_)))))))
  rw [mnD_nm]
  obtain ⟨ol, hol, hcl⟩ := id hl
  have ll : l < s.heap.objs.size := Heap.lt_size hol
  have sz : (s.heap.push { cls := .type "list_iterator", data := .fields #[.ref l, .int 0 0] }).objs.size = s.heap.objs.size + 1 := Heap.size_push ..
  refine wpAny_pure ⟨plainId_quiet F.plain_min_loop _, mnD_one (Walks.list (by simp [hh]) s.heap.objs.size l (Nat.ne_of_lt ll) items) cmp (B := (s.heap.push { cls := .type "list_iterator", data := .fields #[.ref l, .int 0 0] }).objs.size) ?_ ⟨?_, ?_⟩ (Heap.get?_push_size _ rfl) (fun h0 h2 t2 kp => non h0 h2 t2 fun b o q => ?_) (fun h0 v h2 t2 pv kp => fin h0 v h2 t2 pv fun b o q => ?_)⟩
  · rw [sz]
    simp only [List.mem_cons, List.not_mem_nil, or_false, not_or]
    exact ⟨Nat.succ_ne_self _, Nat.ne_of_gt (Nat.lt_succ_of_lt ll)⟩
  · exact ⟨_, Heap.get?_push_of_some _ (Heap.get?_push_size _ rfl), rfl, rfl⟩
  · exact (hl.push _).push _
  all_goals
    have lb : b < s.heap.objs.size := Heap.lt_size q
    refine kp b o ?_ ?_ (Heap.get?_push_of_some _ (Heap.get?_push_of_some _ q))
    · simp only [List.mem_cons, List.not_mem_nil, or_false]
      exact Nat.ne_of_lt lb
    · rw [sz]
      exact Nat.ne_of_lt (Nat.lt_succ_of_lt lb)
end
end L2
set_option maxHeartbeats 4000000
namespace L2
open PySem PySem.Spec PyProof.Rows
theorem cmpS_gt {prog : Program} {w : World} {A : Around} {P : Nat → Value → Prop} (val : Nat → Str) (hv : ∀ i v, P i v → ∃ t, v = .str (val i) t) : CmpOf prog w A .Gt P (fun i j => decide ((val j).cps.toList < (val i).cps.toList)) := fun i j vi vj s Q E hi hj h => by
  obtain ⟨t, rfl⟩ := hv i vi hi
  obtain ⟨u, rfl⟩ := hv j vj hj
  exact richCompare_gives (op := .Gt) (typeIs_str s _ t) (typeIs_str s _ u) F.slot_str_gt F.entry_str_gt (F.args_str_gt_2 _ _) (gives_str_gt _ _ t u) (fun e => nomatch e) h
theorem cmpS_lt {prog : Program} {w : World} {A : Around} {P : Nat → Value → Prop} (val : Nat → Str) (hv : ∀ i v, P i v → ∃ t, v = .str (val i) t) : CmpOf prog w A .Lt P (fun i j => decide ((val i).cps.toList < (val j).cps.toList)) := fun i j vi vj s Q E hi hj h => by
  obtain ⟨t, rfl⟩ := hv i vi hi
  obtain ⟨u, rfl⟩ := hv j vj hj
  exact richCompare_gives (op := .Lt) (typeIs_str s _ t) (typeIs_str s _ u) F.slot_str_lt F.entry_str_lt (F.args_str_lt_2 _ _) (gives_str_lt _ _ t u) (fun e => nomatch e) h
theorem lexT {a b c : List Nat} (h1 : a < b) (h2 : b < c) : a < c := List.lt_trans h1 h2
theorem best_top {bt : Nat → Nat → Bool} (ir : ∀ a, bt a a = false) (tr : ∀ a b c, bt a b = true → bt c a = true → bt c b = true) : ∀ k, argBest bt k ≤ k ∧ ∀ i, i ≤ k → bt i (argBest bt k) = false
  | 0 => ⟨Nat.le_refl _, fun i hi => by
    have e : i = 0 := by omega
    rw [e]
    exact ir 0⟩
  | k + 1 => by
    obtain ⟨h1, h2⟩ := best_top ir tr k
    by_cases c : bt (k + 1) (argBest bt k) = true
    · have e : argBest bt (k + 1) = k + 1 := by unfold argBest; rw [if_pos c]
      rw [e]
      refine ⟨Nat.le_refl _, fun i hi => ?_⟩
      rcases Nat.lt_succ_iff_lt_or_eq.mp (Nat.lt_succ_of_le hi) with hi | rfl
      · by_cases z : bt i (k + 1) = true
        · exact absurd (tr _ _ _ c z) (by rw [h2 i (by omega)]; exact Bool.false_ne_true)
        · exact Bool.eq_false_iff.mpr z
      · exact ir _
    · have e : argBest bt (k + 1) = argBest bt k := by rw [argBest, if_neg c]
      rw [e]
      refine ⟨by omega, fun i hi => ?_⟩
      rcases Nat.lt_succ_iff_lt_or_eq.mp (Nat.lt_succ_of_le hi) with hi | rfl
      · exact h2 i (by omega)
      · exact Bool.eq_false_iff.mpr c
/-  the one beyond the other, of two numbers or two texts -/
def gtV : V → V → Bool
  | .int i, .int j => decide (j < i)
  | .str a, .str b => decide (b.cps.toList < a.cps.toList)
  | _, _ => false
def ltV (x y : V) : Bool := gtV y x
theorem boot_max : bootBuiltins "max" = some (.builtin "max") := by decide +kernel
theorem boot_min : bootBuiltins "min" = some (.builtin "min") := by decide +kernel
section
variable {X : Cx}
def rBest (K : PySem.W.Frag) (better : V → V → Bool) : List V → V → Hp → VK → Prop := fun xs d H Q => ∃ l ys, xs = [.ref l] ∧ SqL K H l ys ∧ ((∃ zs : List Int, ys = zs.map V.int) ∨ ∃ zs : List Str, ys = zs.map V.str) ∧ (ys = [] → Q d H) ∧ ∀ v, v ∈ ys → (∀ u ∈ ys, better u v = false) → Q v H
def tBest (K : PySem.W.Frag) (better : V → V → Bool) (ta : TA) (te : TE) : TE := fun σ H Q => ta σ H fun vs H1 => te σ H1 fun d H2 => rBest K better vs d H2 Q
theorem int_val {zs : List Int} {its : List Value} {i : Nat} {v : Value} (r : Vals (zs.map V.int) its) (hv : its.toArray[i]? = some v) : i < zs.length ∧ ∃ t, v = .int (zs.getD i 0) t := by
  have hv' : its[i]? = some v := by simpa using hv
  have hm : i < zs.length := by
    have := r.length
    rw [List.length_map] at this
    rw [this]
    exact (List.getElem?_eq_some_iff.mp hv').1
  obtain ⟨u, hu, t, e⟩ := r.get (i := i) (x := V.int zs[i]) (by rw [List.getElem?_map, List.getElem?_eq_getElem hm]; rfl)
  rw [hv'] at hu
  cases hu
  exact ⟨hm, t, by rw [List.getD_eq_getElem?_getD, List.getElem?_eq_getElem hm]; exact e⟩
theorem str_val {zs : List Str} {its : List Value} {i : Nat} {v : Value} (r : Vals (zs.map V.str) its) (hv : its.toArray[i]? = some v) : i < zs.length ∧ ∃ t, v = .str (zs.getD i Str.empty) t := by
  have hv' : its[i]? = some v := by simpa using hv
  have hm : i < zs.length := by
    have := r.length
    rw [List.length_map] at this
    rw [this]
    exact (List.getElem?_eq_some_iff.mp hv').1
  obtain ⟨u, hu, t, e⟩ := r.get (i := i) (x := V.str zs[i]) (by rw [List.getElem?_map, List.getElem?_eq_getElem hm]; rfl)
  rw [hv'] at hu
  cases hu
  exact ⟨hm, t, by rw [List.getD_eq_getElem?_getD, List.getElem?_eq_getElem hm]; exact e⟩
theorem getD_mem {α : Type} {l : List α} {i : Nat} {d : α} (h : i < l.length) : l.getD i d ∈ l := by
  rw [List.getD_eq_getElem?_getD, List.getElem?_eq_getElem h]
  exact List.getElem_mem h
theorem getD_at {α : Type} {l : List α} {i : Nat} {x d : α} (h : l[i]? = some x) : l.getD i d = x := by rw [List.getD_eq_getElem?_getD, h]; rfl
theorem maxD_ok {pins : List (Addr × Obj)} {s : Shared} {σ : St} {H : Hp} {xs : List V} {d : V} {us : List Value} {u : Value} {Q : VK} {E : Value → Shared → Prop} (hc : X.calm = true) (I : Inv X pins σ H s) (r : Vals xs us) (rd : RelV d u) (h : rBest X.K gtV xs d H Q) :
    wpAny (model X.prog X.w) X.A (call (.builtin "max") us [(Str.ofString "default", u)]) (EP X pins σ Q) E s := by
  obtain ⟨l, ys, rfl, hq, hk, h0, h1⟩ := h
  obtain ⟨lv, rfl, rl⟩ := vals1 r
  cases (show lv = Value.ref l from rl)
  obtain ⟨its, r', pl, hz⟩ := I.list hq
  have hl := r'.length
  have non : its.toArray.size = 0 → ∀ h2 t2, (∀ b o, s.heap.get? b = some o → h2.get? b = some o) → EP X pins σ Q u { s with heap := h2, toks := t2 } := fun e h2 t2 kp => by
    have e2 : ys = [] := List.eq_nil_of_length_eq_zero (by rw [List.size_toArray] at e; omega)
    exact ⟨d, H, I.kept kp, rd, h0 e2⟩
  rcases hk with ⟨zs, rfl⟩ | ⟨zs, rfl⟩
  · rw [List.length_map] at hl
    refine mxD_list (I.ok.hd hc) pl.isList (CmpOf.ints_gt (fun i => zs.getD i 0) fun i v hv => (int_val r' hv).2) non fun e v h2 t2 hv kp => ?_
    obtain ⟨hj, t, rfl⟩ := int_val r' hv
    obtain ⟨_, b2⟩ := best_top (bt := fun i j => decide (zs.getD i 0 > zs.getD j 0)) (fun a => decide_eq_false (by omega)) (fun a b c x y => decide_eq_true (by have := of_decide_eq_true x; have := of_decide_eq_true y; omega)) (its.toArray.size - 1)
    rw [List.size_toArray] at *
    generalize argBest (fun i j => decide (zs.getD i 0 > zs.getD j 0)) (its.length - 1) = j at *
    refine ⟨.int (zs.getD j 0), H, I.kept kp, ⟨t, rfl⟩, h1 _ (List.mem_map.mpr ⟨_, getD_mem hj, rfl⟩) fun u hu => ?_⟩
    obtain ⟨z, hz2, rfl⟩ := List.mem_map.mp hu
    obtain ⟨i, hi⟩ := List.mem_iff_getElem?.mp hz2
    have hil := (List.getElem?_eq_some_iff.mp hi).1
    have := b2 i (by omega)
    simp only [getD_at hi] at this
    exact this
  · rw [List.length_map] at hl
    refine mxD_list (I.ok.hd hc) pl.isList (cmpS_gt (fun i => zs.getD i Str.empty) fun i v hv => (str_val r' hv).2) non fun e v h2 t2 hv kp => ?_
    obtain ⟨hj, t, rfl⟩ := str_val r' hv
    obtain ⟨_, b2⟩ := best_top (bt := fun i j => decide ((zs.getD j Str.empty).cps.toList < (zs.getD i Str.empty).cps.toList)) (fun a => decide_eq_false (List.lt_irrefl _)) (fun a b c x y => decide_eq_true (lexT (of_decide_eq_true x) (of_decide_eq_true y))) (its.toArray.size - 1)
    rw [List.size_toArray] at *
    generalize argBest (fun i j => decide ((zs.getD j Str.empty).cps.toList < (zs.getD i Str.empty).cps.toList)) (its.length - 1) = j at *
    refine ⟨.str (zs.getD j Str.empty), H, I.kept kp, ⟨t, rfl⟩, h1 _ (List.mem_map.mpr ⟨_, getD_mem hj, rfl⟩) fun u hu => ?_⟩
    obtain ⟨z, hz2, rfl⟩ := List.mem_map.mp hu
    obtain ⟨i, hi⟩ := List.mem_iff_getElem?.mp hz2
    have hil := (List.getElem?_eq_some_iff.mp hi).1
    have := b2 i (by omega)
    simp only [getD_at hi] at this
    exact this
theorem pe_maxD {a e : Expr} {ta : TA} {te : TE} {p pos kp : Pos} {K : PySem.W.Frag} (hK : X.K = K) (hc : X.calm = true) (hg : Gl X "max") (hm : X.mg "max" = none) (hn : notStar a = true) (ha : PA X [a] ta) (he : PE X e te) : PE X (.Call (.Name "max" p) [a] [⟨some "default", e, kp⟩] pos) (tBest K gtV ta te) := by
  subst hK
  intro pins s σ H Q I h
  refine wpAny_Call_Name_kw (ld_blt I hg hm boot_max ?_)
  refine PyProof.Rows.callWith_kw (thn (ha pos pins s σ H _ I h) fun us s1 ⟨vs, H1, I1, r1, q1⟩ => ?_) (by rw [star_cons hn]; rfl) (by rw [star_cons hn]; rfl)
  refine thn ((pk_cons he pk_nil) pos pins s1 σ H1 (fun zs H2 => match zs with | [d] => rBest X.K gtV vs d H2 Q | _ => False) I1 q1) fun ws s2 ⟨zs, H2, I2, rz, q2⟩ => ?_
  match zs, rz, q2 with
  | [d], rz, q2 =>
    obtain ⟨w', rfl, rw'⟩ := vals1 rz
    exact maxD_ok hc I2 r1 rw' q2
theorem minD_ok {pins : List (Addr × Obj)} {s : Shared} {σ : St} {H : Hp} {xs : List V} {d : V} {us : List Value} {u : Value} {Q : VK} {E : Value → Shared → Prop} (hc : X.calm = true) (I : Inv X pins σ H s) (r : Vals xs us) (rd : RelV d u) (h : rBest X.K ltV xs d H Q) :
    wpAny (model X.prog X.w) X.A (call (.builtin "min") us [(Str.ofString "default", u)]) (EP X pins σ Q) E s := by
  obtain ⟨l, ys, rfl, hq, hk, h0, h1⟩ := h
  obtain ⟨lv, rfl, rl⟩ := vals1 r
  cases (show lv = Value.ref l from rl)
  obtain ⟨its, r', pl, hz⟩ := I.list hq
  have hl := r'.length
  have non : its.toArray.size = 0 → ∀ h2 t2, (∀ b o, s.heap.get? b = some o → h2.get? b = some o) → EP X pins σ Q u { s with heap := h2, toks := t2 } := fun e h2 t2 kp => by
    have e2 : ys = [] := List.eq_nil_of_length_eq_zero (by rw [List.size_toArray] at e; omega)
    exact ⟨d, H, I.kept kp, rd, h0 e2⟩
  rcases hk with ⟨zs, rfl⟩ | ⟨zs, rfl⟩
  · rw [List.length_map] at hl
    refine mnD_list (I.ok.hd hc) pl.isList (CmpOf.ints_lt (fun i => zs.getD i 0) fun i v hv => (int_val r' hv).2) non fun e v h2 t2 hv kp => ?_
    obtain ⟨hj, t, rfl⟩ := int_val r' hv
    obtain ⟨_, b2⟩ := best_top (bt := fun i j => decide (zs.getD i 0 < zs.getD j 0)) (fun a => decide_eq_false (by omega)) (fun a b c x y => decide_eq_true (by have := of_decide_eq_true x; have := of_decide_eq_true y; omega)) (its.toArray.size - 1)
    rw [List.size_toArray] at *
    generalize argBest (fun i j => decide (zs.getD i 0 < zs.getD j 0)) (its.length - 1) = j at *
    refine ⟨.int (zs.getD j 0), H, I.kept kp, ⟨t, rfl⟩, h1 _ (List.mem_map.mpr ⟨_, getD_mem hj, rfl⟩) fun u hu => ?_⟩
    obtain ⟨z, hz2, rfl⟩ := List.mem_map.mp hu
    obtain ⟨i, hi⟩ := List.mem_iff_getElem?.mp hz2
    have hil := (List.getElem?_eq_some_iff.mp hi).1
    have := b2 i (by omega)
    simp only [getD_at hi] at this
    exact this
  · rw [List.length_map] at hl
    refine mnD_list (I.ok.hd hc) pl.isList (cmpS_lt (fun i => zs.getD i Str.empty) fun i v hv => (str_val r' hv).2) non fun e v h2 t2 hv kp => ?_
    obtain ⟨hj, t, rfl⟩ := str_val r' hv
    obtain ⟨_, b2⟩ := best_top (bt := fun i j => decide ((zs.getD i Str.empty).cps.toList < (zs.getD j Str.empty).cps.toList)) (fun a => decide_eq_false (List.lt_irrefl _)) (fun a b c x y => decide_eq_true (lexT (of_decide_eq_true y) (of_decide_eq_true x))) (its.toArray.size - 1)
    rw [List.size_toArray] at *
    generalize argBest (fun i j => decide ((zs.getD i Str.empty).cps.toList < (zs.getD j Str.empty).cps.toList)) (its.length - 1) = j at *
    refine ⟨.str (zs.getD j Str.empty), H, I.kept kp, ⟨t, rfl⟩, h1 _ (List.mem_map.mpr ⟨_, getD_mem hj, rfl⟩) fun u hu => ?_⟩
    obtain ⟨z, hz2, rfl⟩ := List.mem_map.mp hu
    obtain ⟨i, hi⟩ := List.mem_iff_getElem?.mp hz2
    have hil := (List.getElem?_eq_some_iff.mp hi).1
    have := b2 i (by omega)
    simp only [getD_at hi] at this
    exact this
theorem pe_minD {a e : Expr} {ta : TA} {te : TE} {p pos kp : Pos} {K : PySem.W.Frag} (hK : X.K = K) (hc : X.calm = true) (hg : Gl X "min") (hm : X.mg "min" = none) (hn : notStar a = true) (ha : PA X [a] ta) (he : PE X e te) : PE X (.Call (.Name "min" p) [a] [⟨some "default", e, kp⟩] pos) (tBest K ltV ta te) := by
  subst hK
  intro pins s σ H Q I h
  refine wpAny_Call_Name_kw (ld_blt I hg hm boot_min ?_)
  refine PyProof.Rows.callWith_kw (thn (ha pos pins s σ H _ I h) fun us s1 ⟨vs, H1, I1, r1, q1⟩ => ?_) (by rw [star_cons hn]; rfl) (by rw [star_cons hn]; rfl)
  refine thn ((pk_cons he pk_nil) pos pins s1 σ H1 (fun zs H2 => match zs with | [d] => rBest X.K ltV vs d H2 Q | _ => False) I1 q1) fun ws s2 ⟨zs, H2, I2, rz, q2⟩ => ?_
  match zs, rz, q2 with
  | [d], rz, q2 =>
    obtain ⟨w', rfl, rw'⟩ := vals1 rz
    exact minD_ok hc I2 r1 rw' q2
end
end L2
set_option maxHeartbeats 4000000
namespace L2
open PySem PySem.Spec PyProof.Rows
section
variable {X : Cx}
/-  a[::-1], a list -/
def tRev (K : PySem.W.Frag) (te ts : TE) : TE := fun σ H Q => te σ H fun x H1 => ts σ H1 fun y H2 => y = .int (-1) ∧ ∃ a xs, x = .ref a ∧ SqL K H2 a xs ∧ ∀ p, H2 p = none → Q (.ref p) (upd H2 p (.lst xs.reverse))
theorem pe_rev {e st : Expr} {te ts : TE} {p2 pos : Pos} {K : PySem.W.Frag} (hK : X.K = K) (he : PE X e te) (ht : PE X st ts) : PE X (.Subscript e (.Slice none none (some st) p2) pos) (tRev K te ts) := by
  subst hK
  intro pins s σ H Q I h
  refine Subscript_ (thn (he pins s σ H _ I h) fun v s1 ⟨x, H1, I1, r1, q1⟩ => ?_)
  refine wpAny_Slice ?_
  rw [evalPart_none]
  refine wpAny_pure (wpAny_pure ?_)
  rw [evalPart_some]
  refine thn (ht pins s1 σ H1 _ I1 q1) fun u s2 ⟨y, H2, I2, r2, hy, a, xs, hx, hq, q⟩ => ?_
  subst hy hx
  obtain ⟨t, rfl⟩ := r2
  cases (show v = Value.ref a from r1)
  have I4 : Inv X pins σ H2 { s2 with heap := s2.heap.push { cls := .type "slice", data := .fields #[.none, .none, .int (-1) t] } } := I2.kept (t' := s2.toks) fun b ob q => Heap.get?_push_of_some _ q
  obtain ⟨its, r, pl, hz⟩ := I4.list hq
  have hlen := r.length
  show wpAny (model X.prog X.w) X.A (subscriptTail e (.Slice none none (some st) p2) (.ref a) (.ref s2.heap.objs.size)) (EP X pins σ Q) X.xe { s2 with heap := s2.heap.push { cls := .type "slice", data := .fields #[.none, .none, .int (-1) t] } }
  refine tail_any (ops := [.ref a, .ref s2.heap.objs.size]) (T := "list") pl.isList.typeIs slot_list_getitem.lookup ?_ (by with_unfolding_all rfl)
  refine wpAny_getItem_list_slice pl.isList (Heap.IsSliceOf.new ..) .none .none (.int (-1) t) (by decide) ?_ (by rw [List.size_toArray] <;> omega)
  rw [PySem.W.krv_pick]
  refine ⟨.ref _, _, I4.laid (t' := s2.toks) (o := .lst xs.reverse) (fun b ob q => Heap.get?_push_of_some _ q) (Nat.le_refl _) ?_, rfl, q _ (I4.hok.fresh (Nat.le_refl _))⟩
  exact ⟨by rw [List.length_reverse]; exact hz, _, 0, r.reverse, Heap.get?_push_size _ rfl⟩
def sameK : V → V → Bool
  | .int _, .int _ => true
  | .str _, .str _ => true
  | _, _ => false
/-  a > b of two numbers or two texts -/
def rGtA : R2 := fun x y H Q => sameK x y = true ∧ Q (.bl (gtV x y)) H
theorem op_gtA : OpR X (compareOp .Gt) rGtA := by
  intro pins s σ H x y v u Q I rx ry h
  obtain ⟨hk, h⟩ := h
  cases x with
  | int i =>
    cases y with
    | int j => exact op_gt pins s σ H _ _ v u Q I rx ry ⟨i, j, rfl, rfl, h⟩
    | _ => cases hk
  | str a =>
    cases y with
    | str b =>
      obtain ⟨t, rfl⟩ := rx
      obtain ⟨t', rfl⟩ := ry
      exact P.gt_str (fin_bl I h rfl)
    | _ => cases hk
  | _ => cases y <;> cases hk
def rSetA (K : PySem.W.Frag) : List V → Hp → VK → Prop := fun xs H Q => rSetS K xs H Q ∨ rSetI K xs H Q
theorem k_setA {K : PySem.W.Frag} (e : X.K = K) (hc : X.calm = true) : CallR X (.type "set") (rSetA K) := by
  intro pins s σ H xs us Q I r h
  rcases h with h | h
  · exact k_setS e hc pins s σ H xs us Q I r h
  · exact k_setI e hc pins s σ H xs us Q I r h
/-  sum(x), x a list of numbers -/
def rSumI (K : PySem.W.Frag) : List V → Hp → VK → Prop := fun xs H Q => ∃ l, ∃ zs : List Int, xs = [.ref l] ∧ SqL K H l (zs.map V.int) ∧ Q (.int (zs.foldl (· + ·) 0)) H
theorem preSum_fold (zs : List Int) : ∀ k, k ≤ zs.length → preSum (fun i => zs.getD i 0) k = (zs.take k).foldl (· + ·) 0
  | 0, _ => rfl
  | k + 1, h => by
    have hk : k < zs.length := h
    show preSum (fun i => zs.getD i 0) k + zs.getD k 0 = _
    rw [preSum_fold zs k (by omega), List.take_add_one, List.getElem?_eq_getElem hk, List.foldl_append, getD_at (List.getElem?_eq_getElem hk)]
    rfl
theorem call_sum (hc : X.calm = true) : CallR X (.builtin "sum") (rSumI X.K) := by
  intro pins s σ H xs us Q I r h
  obtain ⟨l, zs, rfl, hq, q⟩ := h
  obtain ⟨lv, rfl, rl⟩ := vals1 r
  cases (show lv = Value.ref l from rl)
  obtain ⟨its, r', pl, hz⟩ := I.list hq
  have hl := r'.length
  rw [List.length_map] at hl
  obtain ⟨ol, hol, hcl⟩ := id pl.isList
  have ll : l < s.heap.objs.size := Heap.lt_size hol
  refine call_sum_walkAnyS (wpAny_pyIter_list pl.isList ⟨s.heap.objs.size, _, _, _, _, _, _, fun i => zs.getD i 0, rfl, (Walks.list (by simp [I.ok.hd hc]) s.heap.objs.size l (Nat.ne_of_lt ll) its.toArray).toS, ⟨⟨_, Heap.get?_push_size _ rfl, rfl, rfl⟩, pl.isList.push _⟩, ?_, fun i v hv => (int_val r' hv).2, fun s' t' mv => ?_⟩)
  · intro b hb
    rw [Heap.size_push]
    simp only [List.mem_cons, List.not_mem_nil, or_false] at hb
    rcases hb with rfl | rfl
    · exact Nat.lt_succ_self _
    · exact Nat.lt_succ_of_lt ll
  · obtain ⟨h', g', d', tk', os'⟩ := s'
    obtain rfl : g' = s.gens := mv.gens
    obtain rfl : d' = s.drawn := mv.drawn
    obtain rfl : os' = s.os := mv.os
    have e : preSum (fun i => zs.getD i 0) its.toArray.size = zs.foldl (· + ·) 0 := by
      rw [List.size_toArray, ← hl, preSum_fold zs zs.length (Nat.le_refl _), List.take_length]
    rw [e]
    refine ⟨.int _, H, I.kept (t' := tk') fun b o hb => ?_, ⟨_, rfl⟩, q⟩
    refine mv.heap b o ?_ (Heap.get?_push_of_some _ hb)
    simp only [List.mem_cons, List.not_mem_nil, or_false]
    exact Nat.ne_of_lt (Heap.lt_size hb)
theorem k_sumI {K : PySem.W.Frag} (e : X.K = K) (hc : X.calm = true) : CallR X (.builtin "sum") (rSumI K) := by subst e; exact call_sum hc
end
end L2
namespace NS
open PySem L2
seal L2.PE L2.PT L2.PA L2.PS L2.PSs L2.PG L2.PI L2.PTs L2.PW L2.PO L2.PGs L2.PPs L2.OpR L2.CallR L2.IxR L2.SlR L2.UnR L2.PSet
def top (i : Nat) : Stmt := PySem.Challenge.pw_crosshall_k11_figures.main.body.getD i (.Pass ⟨0, 0, 0, 0⟩)
abbrev s_field_at : Stmt := top 4
abbrev s_figure_of : Stmt := top 6
abbrev s_l_cell_at : Stmt := top 8
abbrev s_l_mix : Stmt := top 9
abbrev s_l_heads : Stmt := top 10
abbrev s_l_world : Stmt := top 11
abbrev s_l_sure_value : Stmt := top 12
abbrev s_l_value : Stmt := top 13
abbrev s_l_row : Stmt := top 14
abbrev s_l_figure : Stmt := top 15
abbrev s_l_alike : Stmt := top 16
abbrev s_law : Stmt := top 17
abbrev s_NoField___init__ : Stmt := inCls (top 2) 0
theorem sc_field_at : FnScope ["fields", "name", "place", "field"] ["fields", "name"] (defScope s_field_at) := ⟨rfl, rfl, rfl, by decide +kernel, rfl, by decide +kernel, by decide +kernel⟩
theorem sc_figure_of : FnScope ["fields", "figure", "rows", "place", "values"] ["fields", "figure", "rows"] (defScope s_figure_of) := ⟨rfl, rfl, rfl, by decide +kernel, rfl, by decide +kernel, by decide +kernel⟩
theorem sc_l_cell_at : FnScope ["_law_script", "_law_k"] ["_law_script", "_law_k"] (defScope s_l_cell_at) := ⟨rfl, rfl, rfl, by decide +kernel, rfl, by decide +kernel, by decide +kernel⟩
theorem sc_l_mix : FnScope ["_law_seed", "_law_k", "_law_turn"] ["_law_seed", "_law_k"] (defScope s_l_mix) := ⟨rfl, rfl, rfl, by decide +kernel, rfl, by decide +kernel, by decide +kernel⟩
theorem sc_l_heads : FnScope ["_law_seed", "_law_signs", "_law_many", "_law_most", "_law_word", "_law_few", "_law_at", "_law_rest", "_law_heads_here", "_law_k", "_law_sign"] ["_law_seed", "_law_signs", "_law_many", "_law_most"] (defScope s_l_heads) := ⟨rfl, rfl, rfl, by decide +kernel, rfl, by decide +kernel, by decide +kernel⟩
theorem sc_l_world : FnScope ["_law_script", "_law_seed", "_law_many", "_law_names", "_law_fields", "_law_words", "_law_base"] ["_law_script"] (defScope s_l_world) := ⟨rfl, rfl, rfl, by decide +kernel, rfl, by decide +kernel, by decide +kernel⟩
theorem sc_l_sure_value : FnScope ["_law_seed", "_law_kind", "_law_world_here"] ["_law_seed", "_law_kind", "_law_world_here"] (defScope s_l_sure_value) := ⟨rfl, rfl, rfl, by decide +kernel, rfl, by decide +kernel, by decide +kernel⟩
theorem sc_l_value : FnScope ["_law_seed", "_law_kind", "_law_world_here"] ["_law_seed", "_law_kind", "_law_world_here"] (defScope s_l_value) := ⟨rfl, rfl, rfl, by decide +kernel, rfl, by decide +kernel, by decide +kernel⟩
theorem sc_l_row : FnScope ["_law_seed", "_law_world_here", "_law_fields"] ["_law_seed", "_law_world_here"] (defScope s_l_row) := ⟨rfl, rfl, rfl, by decide +kernel, rfl, by decide +kernel, by decide +kernel⟩
theorem sc_l_figure : FnScope ["_law_figure_here", "_law_names", "_law_rows", "_law_at", "_law_whole", "_law_apart", "_law_row_here", "_law_best", "_law_value_here"] ["_law_figure_here", "_law_names", "_law_rows"] (defScope s_l_figure) := ⟨rfl, rfl, rfl, by decide +kernel, rfl, by decide +kernel, by decide +kernel⟩
theorem sc_l_alike : FnScope ["_law_told", "_law_due"] ["_law_told", "_law_due"] (defScope s_l_alike) := ⟨rfl, rfl, rfl, by decide +kernel, rfl, by decide +kernel, by decide +kernel⟩
theorem sc_law : FnScope ["_law_script", "_law_world_here", "_law_fields", "_law_names", "_law_rows", "_law_k", "_law_at", "_law_some", "_law_name", "_law_kind", "_law_figures", "_law_figure_here", "_law_handed", "_law_told"] ["_law_script"] (defScope s_law) := ⟨rfl, rfl, rfl, by decide +kernel, rfl, by decide +kernel, by decide +kernel⟩
theorem sc_NoField___init__ : FnScope ["self", "name"] ["self", "name"] (defScope s_NoField___init__) := ⟨rfl, rfl, rfl, by decide +kernel, rfl, by decide +kernel, by decide +kernel⟩
structure Txt (K : PySem.W.Frag) (mg : Str → Option Value) (f : Nat → Addr) (fd : Nat → FuncData) : Prop where
  d_field_at : DefOk K mg "field_at" s_field_at ["fields", "name"] (f 4) (fd 4)
  d_figure_of : DefOk K mg "figure_of" s_figure_of ["fields", "figure", "rows"] (f 6) (fd 6)
  d_l_cell_at : DefOk K mg "_law_cell_at" s_l_cell_at ["_law_script", "_law_k"] (f 8) (fd 8)
  d_l_mix : DefOk K mg "_law_mix" s_l_mix ["_law_seed", "_law_k"] (f 9) (fd 9)
  d_l_heads : DefOk K mg "_law_heads" s_l_heads ["_law_seed", "_law_signs", "_law_many", "_law_most"] (f 10) (fd 10)
  d_l_world : DefOk K mg "_law_world" s_l_world ["_law_script"] (f 11) (fd 11)
  d_l_sure_value : DefOk K mg "_law_sure_value" s_l_sure_value ["_law_seed", "_law_kind", "_law_world_here"] (f 12) (fd 12)
  d_l_value : DefOk K mg "_law_value" s_l_value ["_law_seed", "_law_kind", "_law_world_here"] (f 13) (fd 13)
  d_l_row : DefOk K mg "_law_row" s_l_row ["_law_seed", "_law_world_here"] (f 14) (fd 14)
  d_l_figure : DefOk K mg "_law_figure" s_l_figure ["_law_figure_here", "_law_names", "_law_rows"] (f 15) (fd 15)
  d_l_alike : DefOk K mg "_law_alike" s_l_alike ["_law_told", "_law_due"] (f 16) (fd 16)
  d_law : DefOk K mg "law" s_law ["_law_script"] (f 17) (fd 17)
  d_NoField___init__ : MthOk K "__init__" "NoField.__init__" s_NoField___init__ ["self", "name"] (f 3000) (fd 3000)
  x_CrossError : ExcOk K mg "CrossError" (f 1) none
  x_NoField : ExcOk K mg "NoField" (f 2) (some (.ref (f 3000)))
  na_NoField_name : PySem.W.findIn K (.ref (f 2)) "name" = some none
  su_NoField_CrossError : subB K (f 2) (f 1) = true
  ki_NoField_CrossError : PySem.W.kitOne K (.ref (f 2)) (.ref (f 1)) = some true
  su_NoField_NoField : subB K (f 2) (f 2) = true
  ki_NoField_NoField : PySem.W.kitOne K (.ref (f 2)) (.ref (f 2)) = some true
  kv_NoField : PySem.W.kitOne K (.ref (f 2)) (.type "ValueError") = some true
  n_bool : mg "bool" = none
  n_enumerate : mg "enumerate" = none
  n_int : mg "int" = none
  n_isinstance : mg "isinstance" = none
  n_len : mg "len" = none
  n_list : mg "list" = none
  n_max : mg "max" = none
  n_min : mg "min" = none
  n_range : mg "range" = none
  n_set : mg "set" = none
  n_str : mg "str" = none
  n_sum : mg "sum" = none
  n_tuple : mg "tuple" = none
theorem txt_mk {K : PySem.W.Frag} {h : Heap} {mg : Str → Option Value} (X : K.In h) (G : h.Ns mainGlobals mg)
    {f4 : Addr} {od4 an4 : Option Addr} {sl4 : Array (Option Value)} {oc4 kV4 dc4 pm4 cd4 ct4 : Value}
    {f6 : Addr} {od6 an6 : Option Addr} {sl6 : Array (Option Value)} {oc6 kV6 dc6 pm6 cd6 ct6 : Value}
    {f8 : Addr} {od8 an8 : Option Addr} {sl8 : Array (Option Value)} {oc8 kV8 dc8 pm8 cd8 ct8 : Value}
    {f9 : Addr} {od9 an9 : Option Addr} {sl9 : Array (Option Value)} {oc9 kV9 dc9 pm9 cd9 ct9 : Value}
    {f10 : Addr} {od10 an10 : Option Addr} {sl10 : Array (Option Value)} {oc10 kV10 dc10 pm10 cd10 ct10 : Value}
    {f11 : Addr} {od11 an11 : Option Addr} {sl11 : Array (Option Value)} {oc11 kV11 dc11 pm11 cd11 ct11 : Value}
    {f12 : Addr} {od12 an12 : Option Addr} {sl12 : Array (Option Value)} {oc12 kV12 dc12 pm12 cd12 ct12 : Value}
    {f13 : Addr} {od13 an13 : Option Addr} {sl13 : Array (Option Value)} {oc13 kV13 dc13 pm13 cd13 ct13 : Value}
    {f14 : Addr} {od14 an14 : Option Addr} {sl14 : Array (Option Value)} {oc14 kV14 dc14 pm14 cd14 ct14 : Value}
    {f15 : Addr} {od15 an15 : Option Addr} {sl15 : Array (Option Value)} {oc15 kV15 dc15 pm15 cd15 ct15 : Value}
    {f16 : Addr} {od16 an16 : Option Addr} {sl16 : Array (Option Value)} {oc16 kV16 dc16 pm16 cd16 ct16 : Value}
    {f17 : Addr} {od17 an17 : Option Addr} {sl17 : Array (Option Value)} {oc17 kV17 dc17 pm17 cd17 ct17 : Value}
    {f3000 : Addr} {od3000 an3000 : Option Addr} {sl3000 : Array (Option Value)} {oc3000 kV3000 dc3000 pm3000 cd3000 ct3000 : Value}
    {f1 : Addr}
    {f2 : Addr}
    (a1 : PySem.W.nsIn K mainGlobals "CrossError" = some (some (.ref f1)))
    (a2 : PySem.W.nsIn K mainGlobals "NoField" = some (some (.ref f2)))
    (a4 : PySem.W.nsIn K mainGlobals "field_at" = some (some (.ref f4)))
    (l4 : K.lookup f4 = some ⟨oc4, od4, .func (PySem.W.fnOf "field_at" "field_at" (defArgs s_field_at) (defBody s_field_at) (defScope s_field_at) .none kV4 dc4 pm4 an4 cd4 ct4), sl4⟩) (c4 : PySem.W.codeIn K cd4 "field_at" = true) (k4 : PySem.W.keepIn K (.ref f4) = true)
    (a6 : PySem.W.nsIn K mainGlobals "figure_of" = some (some (.ref f6)))
    (l6 : K.lookup f6 = some ⟨oc6, od6, .func (PySem.W.fnOf "figure_of" "figure_of" (defArgs s_figure_of) (defBody s_figure_of) (defScope s_figure_of) .none kV6 dc6 pm6 an6 cd6 ct6), sl6⟩) (c6 : PySem.W.codeIn K cd6 "figure_of" = true) (k6 : PySem.W.keepIn K (.ref f6) = true)
    (a8 : PySem.W.nsIn K mainGlobals "_law_cell_at" = some (some (.ref f8)))
    (l8 : K.lookup f8 = some ⟨oc8, od8, .func (PySem.W.fnOf "_law_cell_at" "_law_cell_at" (defArgs s_l_cell_at) (defBody s_l_cell_at) (defScope s_l_cell_at) .none kV8 dc8 pm8 an8 cd8 ct8), sl8⟩) (c8 : PySem.W.codeIn K cd8 "_law_cell_at" = true) (k8 : PySem.W.keepIn K (.ref f8) = true)
    (a9 : PySem.W.nsIn K mainGlobals "_law_mix" = some (some (.ref f9)))
    (l9 : K.lookup f9 = some ⟨oc9, od9, .func (PySem.W.fnOf "_law_mix" "_law_mix" (defArgs s_l_mix) (defBody s_l_mix) (defScope s_l_mix) .none kV9 dc9 pm9 an9 cd9 ct9), sl9⟩) (c9 : PySem.W.codeIn K cd9 "_law_mix" = true) (k9 : PySem.W.keepIn K (.ref f9) = true)
    (a10 : PySem.W.nsIn K mainGlobals "_law_heads" = some (some (.ref f10)))
    (l10 : K.lookup f10 = some ⟨oc10, od10, .func (PySem.W.fnOf "_law_heads" "_law_heads" (defArgs s_l_heads) (defBody s_l_heads) (defScope s_l_heads) .none kV10 dc10 pm10 an10 cd10 ct10), sl10⟩) (c10 : PySem.W.codeIn K cd10 "_law_heads" = true) (k10 : PySem.W.keepIn K (.ref f10) = true)
    (a11 : PySem.W.nsIn K mainGlobals "_law_world" = some (some (.ref f11)))
    (l11 : K.lookup f11 = some ⟨oc11, od11, .func (PySem.W.fnOf "_law_world" "_law_world" (defArgs s_l_world) (defBody s_l_world) (defScope s_l_world) .none kV11 dc11 pm11 an11 cd11 ct11), sl11⟩) (c11 : PySem.W.codeIn K cd11 "_law_world" = true) (k11 : PySem.W.keepIn K (.ref f11) = true)
    (a12 : PySem.W.nsIn K mainGlobals "_law_sure_value" = some (some (.ref f12)))
    (l12 : K.lookup f12 = some ⟨oc12, od12, .func (PySem.W.fnOf "_law_sure_value" "_law_sure_value" (defArgs s_l_sure_value) (defBody s_l_sure_value) (defScope s_l_sure_value) .none kV12 dc12 pm12 an12 cd12 ct12), sl12⟩) (c12 : PySem.W.codeIn K cd12 "_law_sure_value" = true) (k12 : PySem.W.keepIn K (.ref f12) = true)
    (a13 : PySem.W.nsIn K mainGlobals "_law_value" = some (some (.ref f13)))
    (l13 : K.lookup f13 = some ⟨oc13, od13, .func (PySem.W.fnOf "_law_value" "_law_value" (defArgs s_l_value) (defBody s_l_value) (defScope s_l_value) .none kV13 dc13 pm13 an13 cd13 ct13), sl13⟩) (c13 : PySem.W.codeIn K cd13 "_law_value" = true) (k13 : PySem.W.keepIn K (.ref f13) = true)
    (a14 : PySem.W.nsIn K mainGlobals "_law_row" = some (some (.ref f14)))
    (l14 : K.lookup f14 = some ⟨oc14, od14, .func (PySem.W.fnOf "_law_row" "_law_row" (defArgs s_l_row) (defBody s_l_row) (defScope s_l_row) .none kV14 dc14 pm14 an14 cd14 ct14), sl14⟩) (c14 : PySem.W.codeIn K cd14 "_law_row" = true) (k14 : PySem.W.keepIn K (.ref f14) = true)
    (a15 : PySem.W.nsIn K mainGlobals "_law_figure" = some (some (.ref f15)))
    (l15 : K.lookup f15 = some ⟨oc15, od15, .func (PySem.W.fnOf "_law_figure" "_law_figure" (defArgs s_l_figure) (defBody s_l_figure) (defScope s_l_figure) .none kV15 dc15 pm15 an15 cd15 ct15), sl15⟩) (c15 : PySem.W.codeIn K cd15 "_law_figure" = true) (k15 : PySem.W.keepIn K (.ref f15) = true)
    (a16 : PySem.W.nsIn K mainGlobals "_law_alike" = some (some (.ref f16)))
    (l16 : K.lookup f16 = some ⟨oc16, od16, .func (PySem.W.fnOf "_law_alike" "_law_alike" (defArgs s_l_alike) (defBody s_l_alike) (defScope s_l_alike) .none kV16 dc16 pm16 an16 cd16 ct16), sl16⟩) (c16 : PySem.W.codeIn K cd16 "_law_alike" = true) (k16 : PySem.W.keepIn K (.ref f16) = true)
    (a17 : PySem.W.nsIn K mainGlobals "law" = some (some (.ref f17)))
    (l17 : K.lookup f17 = some ⟨oc17, od17, .func (PySem.W.fnOf "law" "law" (defArgs s_law) (defBody s_law) (defScope s_law) .none kV17 dc17 pm17 an17 cd17 ct17), sl17⟩) (c17 : PySem.W.codeIn K cd17 "law" = true) (k17 : PySem.W.keepIn K (.ref f17) = true)
    (a3000 : PySem.W.findIn K (.ref f2) "__init__" = some (some (.ref f3000)))
    (l3000 : K.lookup f3000 = some ⟨oc3000, od3000, .func (PySem.W.fnOf "__init__" "NoField.__init__" (defArgs s_NoField___init__) (defBody s_NoField___init__) (defScope s_NoField___init__) .none kV3000 dc3000 pm3000 an3000 cd3000 ct3000), sl3000⟩) (c3000 : PySem.W.codeIn K cd3000 "NoField.__init__" = true) (k3000 : PySem.W.keepIn K (.ref f3000) = true)
    (b3000 : PySem.W.isFn K (.ref f3000) = true)
    (x_CrossError_e : exB K f1 none = true)
    (x_CrossError_kp : PySem.W.keepIn K (.ref f1) = true)
    (x_CrossError_ga : PySem.W.findIn K (.ref f1) "__getattribute__" = some (some (.builtin "BaseException.__getattribute__")))
    (x_CrossError_gh : PySem.W.findIn K (.ref f1) "__getattr__" = some none)
    (x_CrossError_ba : PySem.W.mroIn K f1 (.type "BaseException") = some true)
    (x_CrossError_ob : PySem.W.mroIn K f1 (.type "object") = some true)
    (x_CrossError_hd : PySem.W.hasDictIn K f1 = true)
    (x_CrossError_cl : PySem.W.findIn K (.ref f1) "__class__" = some (some (.builtin "object.__class__")))
    (x_CrossError_cg : PySem.W.specialIn K (.builtin "object.__class__") "__get__" = some (some (.builtin "getset_descriptor.__get__")))
    (x_CrossError_ct : PySem.W.takesIn K (.builtin "object.__class__") = some true)
    (x_CrossError_sa : PySem.W.findIn K (.ref f1) "__setattr__" = some (some (.builtin "object.__setattr__")))
    (x_NoField_e : exB K f2 (some (.ref f3000)) = true)
    (x_NoField_kp : PySem.W.keepIn K (.ref f2) = true)
    (x_NoField_ga : PySem.W.findIn K (.ref f2) "__getattribute__" = some (some (.builtin "BaseException.__getattribute__")))
    (x_NoField_gh : PySem.W.findIn K (.ref f2) "__getattr__" = some none)
    (x_NoField_ba : PySem.W.mroIn K f2 (.type "BaseException") = some true)
    (x_NoField_ob : PySem.W.mroIn K f2 (.type "object") = some true)
    (x_NoField_hd : PySem.W.hasDictIn K f2 = true)
    (x_NoField_cl : PySem.W.findIn K (.ref f2) "__class__" = some (some (.builtin "object.__class__")))
    (x_NoField_cg : PySem.W.specialIn K (.builtin "object.__class__") "__get__" = some (some (.builtin "getset_descriptor.__get__")))
    (x_NoField_ct : PySem.W.takesIn K (.builtin "object.__class__") = some true)
    (x_NoField_sa : PySem.W.findIn K (.ref f2) "__setattr__" = some (some (.builtin "object.__setattr__")))
    (v_na_NoField_name : PySem.W.findIn K (.ref f2) "name" = some none)
    (v_su_NoField_CrossError : subB K f2 f1 = true)
    (v_ki_NoField_CrossError : PySem.W.kitOne K (.ref f2) (.ref f1) = some true)
    (v_su_NoField_NoField : subB K f2 f2 = true)
    (v_ki_NoField_NoField : PySem.W.kitOne K (.ref f2) (.ref f2) = some true)
    (v_kv_NoField : PySem.W.kitOne K (.ref f2) (.type "ValueError") = some true)
    (z_bool : PySem.W.nsIn K mainGlobals "bool" = some none)
    (z_enumerate : PySem.W.nsIn K mainGlobals "enumerate" = some none)
    (z_int : PySem.W.nsIn K mainGlobals "int" = some none)
    (z_isinstance : PySem.W.nsIn K mainGlobals "isinstance" = some none)
    (z_len : PySem.W.nsIn K mainGlobals "len" = some none)
    (z_list : PySem.W.nsIn K mainGlobals "list" = some none)
    (z_max : PySem.W.nsIn K mainGlobals "max" = some none)
    (z_min : PySem.W.nsIn K mainGlobals "min" = some none)
    (z_range : PySem.W.nsIn K mainGlobals "range" = some none)
    (z_set : PySem.W.nsIn K mainGlobals "set" = some none)
    (z_str : PySem.W.nsIn K mainGlobals "str" = some none)
    (z_sum : PySem.W.nsIn K mainGlobals "sum" = some none)
    (z_tuple : PySem.W.nsIn K mainGlobals "tuple" = some none)
    : ∃ f fd, Txt K mg f fd ∧ f 17 = f17 ∧ ∃ kV dc pm an cd ct, fd 17 = PySem.W.fnOf "law" "law" (defArgs s_law) (defBody s_law) (defScope s_law) .none kV dc pm an cd ct := by
  refine ⟨fun i => match i with | 4 => f4 | 6 => f6 | 8 => f8 | 9 => f9 | 10 => f10 | 11 => f11 | 12 => f12 | 13 => f13 | 14 => f14 | 15 => f15 | 16 => f16 | 17 => f17 | 3000 => f3000 | 1 => f1 | 2 => f2 | _ => 0, fun i => match i with | 4 => PySem.W.fnOf "field_at" "field_at" (defArgs s_field_at) (defBody s_field_at) (defScope s_field_at) .none kV4 dc4 pm4 an4 cd4 ct4 | 6 => PySem.W.fnOf "figure_of" "figure_of" (defArgs s_figure_of) (defBody s_figure_of) (defScope s_figure_of) .none kV6 dc6 pm6 an6 cd6 ct6 | 8 => PySem.W.fnOf "_law_cell_at" "_law_cell_at" (defArgs s_l_cell_at) (defBody s_l_cell_at) (defScope s_l_cell_at) .none kV8 dc8 pm8 an8 cd8 ct8 | 9 => PySem.W.fnOf "_law_mix" "_law_mix" (defArgs s_l_mix) (defBody s_l_mix) (defScope s_l_mix) .none kV9 dc9 pm9 an9 cd9 ct9 | 10 => PySem.W.fnOf "_law_heads" "_law_heads" (defArgs s_l_heads) (defBody s_l_heads) (defScope s_l_heads) .none kV10 dc10 pm10 an10 cd10 ct10 | 11 => PySem.W.fnOf "_law_world" "_law_world" (defArgs s_l_world) (defBody s_l_world) (defScope s_l_world) .none kV11 dc11 pm11 an11 cd11 ct11 | 12 => PySem.W.fnOf "_law_sure_value" "_law_sure_value" (defArgs s_l_sure_value) (defBody s_l_sure_value) (defScope s_l_sure_value) .none kV12 dc12 pm12 an12 cd12 ct12 | 13 => PySem.W.fnOf "_law_value" "_law_value" (defArgs s_l_value) (defBody s_l_value) (defScope s_l_value) .none kV13 dc13 pm13 an13 cd13 ct13 | 14 => PySem.W.fnOf "_law_row" "_law_row" (defArgs s_l_row) (defBody s_l_row) (defScope s_l_row) .none kV14 dc14 pm14 an14 cd14 ct14 | 15 => PySem.W.fnOf "_law_figure" "_law_figure" (defArgs s_l_figure) (defBody s_l_figure) (defScope s_l_figure) .none kV15 dc15 pm15 an15 cd15 ct15 | 16 => PySem.W.fnOf "_law_alike" "_law_alike" (defArgs s_l_alike) (defBody s_l_alike) (defScope s_l_alike) .none kV16 dc16 pm16 an16 cd16 ct16 | 17 => PySem.W.fnOf "law" "law" (defArgs s_law) (defBody s_law) (defScope s_law) .none kV17 dc17 pm17 an17 cd17 ct17 | 3000 => PySem.W.fnOf "__init__" "NoField.__init__" (defArgs s_NoField___init__) (defBody s_NoField___init__) (defScope s_NoField___init__) .none kV3000 dc3000 pm3000 an3000 cd3000 ct3000 | _ => PySem.W.fnOf "law" "law" (defArgs s_law) (defBody s_law) (defScope s_law) .none kV17 dc17 pm17 an17 cd17 ct17, ⟨?_, ?_, ?_, ?_, ?_, ?_, ?_, ?_, ?_, ?_, ?_, ?_, ?_, ?_, ?_, ?_, ?_, ?_, ?_, ?_, ?_, ?_, ?_, ?_, ?_, ?_, ?_, ?_, ?_, ?_, ?_, ?_, ?_, ?_⟩, rfl, _, _, _, _, _, _, rfl⟩
  · exact (by have F := fun_mk (st := s_field_at) l4 c4 k4; exact ⟨F, F.binds (ps := ["fields", "name"]) fun _ _ _ _ _ _ us hl => match us, hl with | [_, _], _ => rfl, PySem.W.mg_of X G a4⟩)
  · exact (by have F := fun_mk (st := s_figure_of) l6 c6 k6; exact ⟨F, F.binds (ps := ["fields", "figure", "rows"]) fun _ _ _ _ _ _ us hl => match us, hl with | [_, _, _], _ => rfl, PySem.W.mg_of X G a6⟩)
  · exact (by have F := fun_mk (st := s_l_cell_at) l8 c8 k8; exact ⟨F, F.binds (ps := ["_law_script", "_law_k"]) fun _ _ _ _ _ _ us hl => match us, hl with | [_, _], _ => rfl, PySem.W.mg_of X G a8⟩)
  · exact (by have F := fun_mk (st := s_l_mix) l9 c9 k9; exact ⟨F, F.binds (ps := ["_law_seed", "_law_k"]) fun _ _ _ _ _ _ us hl => match us, hl with | [_, _], _ => rfl, PySem.W.mg_of X G a9⟩)
  · exact (by have F := fun_mk (st := s_l_heads) l10 c10 k10; exact ⟨F, F.binds (ps := ["_law_seed", "_law_signs", "_law_many", "_law_most"]) fun _ _ _ _ _ _ us hl => match us, hl with | [_, _, _, _], _ => rfl, PySem.W.mg_of X G a10⟩)
  · exact (by have F := fun_mk (st := s_l_world) l11 c11 k11; exact ⟨F, F.binds (ps := ["_law_script"]) fun _ _ _ _ _ _ us hl => match us, hl with | [_], _ => rfl, PySem.W.mg_of X G a11⟩)
  · exact (by have F := fun_mk (st := s_l_sure_value) l12 c12 k12; exact ⟨F, F.binds (ps := ["_law_seed", "_law_kind", "_law_world_here"]) fun _ _ _ _ _ _ us hl => match us, hl with | [_, _, _], _ => rfl, PySem.W.mg_of X G a12⟩)
  · exact (by have F := fun_mk (st := s_l_value) l13 c13 k13; exact ⟨F, F.binds (ps := ["_law_seed", "_law_kind", "_law_world_here"]) fun _ _ _ _ _ _ us hl => match us, hl with | [_, _, _], _ => rfl, PySem.W.mg_of X G a13⟩)
  · exact (by have F := fun_mk (st := s_l_row) l14 c14 k14; exact ⟨F, F.binds (ps := ["_law_seed", "_law_world_here"]) fun _ _ _ _ _ _ us hl => match us, hl with | [_, _], _ => rfl, PySem.W.mg_of X G a14⟩)
  · exact (by have F := fun_mk (st := s_l_figure) l15 c15 k15; exact ⟨F, F.binds (ps := ["_law_figure_here", "_law_names", "_law_rows"]) fun _ _ _ _ _ _ us hl => match us, hl with | [_, _, _], _ => rfl, PySem.W.mg_of X G a15⟩)
  · exact (by have F := fun_mk (st := s_l_alike) l16 c16 k16; exact ⟨F, F.binds (ps := ["_law_told", "_law_due"]) fun _ _ _ _ _ _ us hl => match us, hl with | [_, _], _ => rfl, PySem.W.mg_of X G a16⟩)
  · exact (by have F := fun_mk (st := s_law) l17 c17 k17; exact ⟨F, F.binds (ps := ["_law_script"]) fun _ _ _ _ _ _ us hl => match us, hl with | [_], _ => rfl, PySem.W.mg_of X G a17⟩)
  · exact (by have F := fun_mk (st := s_NoField___init__) l3000 c3000 k3000; exact ⟨F, F.binds (ps := ["self", "name"]) fun _ _ _ _ _ _ us hl => match us, hl with | [_, _], _ => rfl, b3000⟩)
  · exact (exc_mk X G a1 x_CrossError_e x_CrossError_kp x_CrossError_ga x_CrossError_gh x_CrossError_ba x_CrossError_ob x_CrossError_hd x_CrossError_cl x_CrossError_cg x_CrossError_ct x_CrossError_sa)
  · exact (exc_mk X G a2 x_NoField_e x_NoField_kp x_NoField_ga x_NoField_gh x_NoField_ba x_NoField_ob x_NoField_hd x_NoField_cl x_NoField_cg x_NoField_ct x_NoField_sa)
  · exact v_na_NoField_name
  · exact v_su_NoField_CrossError
  · exact v_ki_NoField_CrossError
  · exact v_su_NoField_NoField
  · exact v_ki_NoField_NoField
  · exact v_kv_NoField
  · exact (PySem.W.mg_none_of X G z_bool)
  · exact (PySem.W.mg_none_of X G z_enumerate)
  · exact (PySem.W.mg_none_of X G z_int)
  · exact (PySem.W.mg_none_of X G z_isinstance)
  · exact (PySem.W.mg_none_of X G z_len)
  · exact (PySem.W.mg_none_of X G z_list)
  · exact (PySem.W.mg_none_of X G z_max)
  · exact (PySem.W.mg_none_of X G z_min)
  · exact (PySem.W.mg_none_of X G z_range)
  · exact (PySem.W.mg_none_of X G z_set)
  · exact (PySem.W.mg_none_of X G z_str)
  · exact (PySem.W.mg_none_of X G z_sum)
  · exact (PySem.W.mg_none_of X G z_tuple)
local macro_rules | `(tactic| walk_at "py") => `(tactic| ((try dsimp only [cxOf, L2.Cx.inTry, L2.Cx.inHand]); simp only [L2.start, tSeq, tNext, tIfS, tRet, tRetN, tAsg, tDrop, gName, tVar, tC, tOp, tUn, tCall, tCB, tCons, tNil, tTest, tB, tNot, tAnd, tOr, tAndV, tOrV, tNotV, tIf, tChain, tLst, tTup, tBM, tBM0, rI, rI0, rU, rEq, rNe, scal, tComp, iStr, iList, iTup, iRng1, iRng2, tYes, rIsP, rAll, rLenS, rLenV, rListOf, rTupleOf, tDisp, tPairs, tSl, tPart, tNoPart, rSlS, rSlL, rFind, rStarts, rIntT, rStrA, rRepS, tCallX, tRaise, tRaiseI, tTry, tAs, offE, tXF, sXset, tMethX, tMakeX, rIsX, tFld, sFld, tMeth, rSortD, rDPop, tDNewK, 
  List.map_cons, List.map_nil, List.cons_append, List.nil_append, List.length_cons, List.length_nil, List.getElem?_cons_zero, List.getElem?_cons_succ, Option.some.injEq, exists_eq_left', exists_eq_left, List.set_cons_zero, List.set_cons_succ, List.cons.injEq, and_true, true_and, V.int.injEq, V.str.injEq, V.bl.injEq, V.ref.injEq, V.ty.injEq, exists_and_left, exists_and_right, List.append_nil, reduceCtorEq, false_and, and_false, exists_false, or_false, false_or, decide_true, decide_false, Bool.not_true, Bool.not_false, if_true, if_false, Bool.false_eq_true, ite_true, ite_false, and_assoc, Nat.reduceAdd, Nat.reduceSub, List.replicate_succ, List.replicate_zero, Nat.zero_add, Nat.add_zero, Nat.sub_self]))
local macro_rules | `(tactic| walk_at "dc") => `(tactic| ((try dsimp only [cxOf, L2.Cx.inTry, L2.Cx.inHand]); simp only [L2.start, tSeq, tNext, tIfS, tRet, tRetN, tAsg, tDrop, gName, tVar, tC, tOp, tUn, tCall, tCB, tCons, tNil, tTest, tB, tNot, tAnd, tOr, tAndV, tOrV, tNotV, tIf, tChain, tLst, tTup, tBM, tBM0, rI, rI0, rU, rEq, rNe, scal, tComp, iStr, iList, iTup, iRng1, iRng2, tYes, rIsP, rAll, rLenS, rLenV, rListOf, rTupleOf, tDisp, tPairs, tSl, tPart, tNoPart, rSlS, rSlL, rFind, rStarts, rIntT, rStrA, rRepS, tCallX, tRaise, tRaiseI, tTry, tAs, offE, tXF, sXset, tMethX, tMakeX, rIsX, tFld, sFld, tMeth, rSortD, rDPop, tDNewK, tDIn, tDNotIn, tDGet, sDPut, rIndexS, tStop, gSub, tRev, tBest, rGtA, 
  List.map_cons, List.map_nil, List.cons_append, List.nil_append, List.length_cons, List.length_nil, List.getElem?_cons_zero, List.getElem?_cons_succ, Option.some.injEq, exists_eq_left', exists_eq_left, List.set_cons_zero, List.set_cons_succ, List.cons.injEq, and_true, true_and, V.int.injEq, V.str.injEq, V.bl.injEq, V.ref.injEq, V.ty.injEq, exists_and_left, exists_and_right, List.append_nil, reduceCtorEq, false_and, and_false, exists_false, or_false, false_or, decide_true, decide_false, Bool.not_true, Bool.not_false, if_true, if_false, Bool.false_eq_true, ite_true, ite_false, and_assoc, Nat.reduceAdd, Nat.reduceSub, List.replicate_succ, List.replicate_zero, Nat.zero_add, Nat.add_zero, Nat.sub_self]))
local macro_rules | `(tactic| walk_at "dl") => `(tactic| ((try dsimp only [cxOf, L2.Cx.inTry, L2.Cx.inHand]); simp only [L2.start, tSeq, tNext, tIfS, tRet, tRetN, tAsg, tDrop, gName, tVar, tC, tOp, tUn, tCall, tCB, tCons, tNil, tTest, tB, tNot, tAnd, tOr, tAndV, tOrV, tNotV, tIf, tChain, tLst, tTup, tBM, tBM0, rI, rI0, rU, rEq, rNe, scal, tComp, iStr, iList, iTup, iRng1, iRng2, tYes, rIsP, rAll, rLenS, rLenV, rListOf, rTupleOf, tDisp, tPairs, tSl, tPart, tNoPart, rSlS, rSlL, rFind, rStarts, rIntT, rStrA, rRepS, tCallX, tRaise, tRaiseI, tTry, tAs, offE, tXF, sXset, tMethX, tMakeX, rIsX, tFld, sFld, tMeth, rSortD, rDPop, tDNewK, tDIn, tDNotIn, tDGet, sDPut, rIndexS, tStop, gSub, tRev, tBest, rGtA, 
  List.map_cons, List.map_nil, List.cons_append, List.nil_append, List.length_cons, List.length_nil, List.getElem?_cons_zero, List.getElem?_cons_succ, Option.some.injEq, exists_eq_left', exists_eq_left, List.set_cons_zero, List.set_cons_succ, List.cons.injEq, and_true, true_and, V.int.injEq, V.str.injEq, V.bl.injEq, V.ref.injEq, V.ty.injEq, exists_and_left, exists_and_right, List.append_nil, reduceCtorEq, false_and, and_false, exists_false, or_false, false_or, decide_true, decide_false, Bool.not_true, Bool.not_false, if_true, if_false, Bool.false_eq_true, ite_true, ite_false, and_assoc, Nat.reduceAdd, Nat.reduceSub, List.replicate_succ, List.replicate_zero, Nat.zero_add, Nat.add_zero, Nat.sub_self, Int.reduceEq, Int.reduceLT, Int.reduceLE, ↓reduceIte, decide_eq_true_eq]))
local macro_rules | `(tactic| walk_at "sd") => `(tactic| repeat (refine And.intro (by first | decide | omega | exact Or.inl ⟨by omega, by omega⟩ | exact Or.inr ⟨by omega, by omega⟩ | exact ⟨by omega, by omega⟩ | exact ⟨by decide, by decide, by decide⟩) ?_))
section
variable {P : Program} {w : World} {K : PySem.W.Frag} {mg : Str → Option Value} {base : Heap} {f : Nat → Addr} {fd : Nat → FuncData}
def sp_NoField___init__ (K : PySem.W.Frag) : Sp := fun vs H Q _ => ∃ a C v ini, vs = [.ref a, v] ∧ H a = some (ExN a (.ref C) none) ∧ exB K C ini = true ∧ PySem.W.hasDictIn K C = true ∧ PySem.W.findIn K (.ref C) "__setattr__" = some (some (.builtin "object.__setattr__")) ∧ PySem.W.findIn K (.ref C) "name" = some none ∧
  ∀ dx, H dx = none → dx ≠ a → Q .non (upd (upd H dx (.xd [("name", v)])) a (ExN a (.ref C) (some dx)))
theorem ok_NoField___init__ (T : Txt K mg f fd) : FnOk P w K mg base CX0 1 (f 3000) (fd 3000) ["self", "name"] (sp_NoField___init__ K) := by
  refine T.d_NoField___init__.F.ok sc_NoField___init__ (fun vs H Q E h => ?_) (fun cdv A outer s H vs Q E hr h => ?_)
  · obtain ⟨a, C, v, ini, rfl, _⟩ := h
    rfl
  · obtain ⟨a, C, v, ini, rfl, e1, e2, e3, e4, e5, k⟩ := h
    refine ⟨_, (pss_one (ps_xset (pvl 0) (pvl 1) rfl)), ?_⟩
    walk_at "py"
    exact ⟨C, e1, ⟨ini, e2⟩, e3, e4, e5, k⟩
/-  the fields' names and kinds -/
def FldsK (H : Hp) (xs : List V) (ns kds : List Str) : Prop := ns.length = xs.length ∧ kds.length = xs.length ∧ ns.Nodup ∧ ∀ (i : Nat) x n kd, xs[i]? = some x → ns[i]? = some n → kds[i]? = some kd → ∃ p, x = .ref p ∧ H p = some (.tup [.str n, .str kd])
theorem FldsK.mono {H H' : Hp} {xs : List V} {ns kds : List Str} (s : Same H H') (h : FldsK H xs ns kds) : FldsK H' xs ns kds := ⟨h.1, h.2.1, h.2.2.1, fun i x n kd a b c => by
  obtain ⟨p, e, g⟩ := h.2.2.2 i x n kd a b c
  exact ⟨p, e, s _ _ g⟩⟩
theorem FldsK.at {H : Hp} {xs : List V} {ns kds : List Str} (h : FldsK H xs ns kds) {i : Nat} (hi : i < xs.length) : ∃ p n kd, xs[i]? = some (.ref p) ∧ ns[i]? = some n ∧ kds[i]? = some kd ∧ H p = some (.tup [.str n, .str kd]) := by
  have h1 : i < ns.length := by rw [h.1]; exact hi
  have h2 : i < kds.length := by rw [h.2.1]; exact hi
  obtain ⟨p, e, g⟩ := h.2.2.2 i _ _ _ (List.getElem?_eq_getElem hi) (List.getElem?_eq_getElem h1) (List.getElem?_eq_getElem h2)
  exact ⟨p, _, _, by rw [List.getElem?_eq_getElem hi, e], List.getElem?_eq_getElem h1, List.getElem?_eq_getElem h2, g⟩
theorem raised {H1 : Hp} {a dx : Addr} {o1 o2 o3 : HO} (ha : H1 a = none) (hdx : upd H1 a o1 dx = none) (hne : dx ≠ a) : Same H1 (dropH (upd (upd (upd H1 a o1) dx o2) a o3) a) ∧ dropH (upd (upd (upd H1 a o1) dx o2) a o3) a dx = some o2 := by
  refine ⟨fun b o hb1 => ?_, ?_⟩
  · have n1 : b ≠ a := fun z => by subst z; rw [ha] at hb1; cases hb1
    have n2 : b ≠ dx := fun z => by
      subst z
      rw [upd_ne n1] at hdx
      rw [hdx] at hb1; cases hb1
    rw [drop_ne n1, upd_ne n1, upd_ne n2, upd_ne n1]
    exact hb1
  · rw [drop_ne hne, upd_ne hne, upd_same]
def sp_field_at (K : PySem.W.Frag) (f : Nat → Addr) : Sp := fun vs H Q E => ∃ l xs ns kds n, vs = [.ref l, .str n] ∧ H l = some (.lst xs) ∧ FldsK H xs ns kds ∧
  ((∃ i : Nat, ns[i]? = some n ∧ ∀ H', Same H H' → Q (.int i) H') ∨ (n ∉ ns ∧ ∀ H' dx, Same H H' → H' dx = some (.xd [("name", .str n)]) → E (.ref (f 2)) (some dx) H'))
theorem ok_field_at (T : Txt K mg f fd) : FnOk P w K mg base (CXE P w) 3 (f 4) (fd 4) ["fields", "name"] (sp_field_at K f) := by
  refine T.d_field_at.F.okX sc_field_at (fun vs H Q E h => ?_) (fun cdv A outer s H vs Q E hr h => ?_)
  · obtain ⟨l, xs, ns, kds, n, rfl, _⟩ := h
    rfl
  · obtain ⟨l, xs, ns, kds, n, rfl, hl, hF, k⟩ := h
    refine ⟨_, (pss_cons (ps_for PassesOwn.leaving rfl (pi_enum rfl T.n_enumerate (pal rfl (pvl 0) pa_nil) rfl) (k_pgT rfl rfl (pgs_cons (pgl 2 sc_field_at.nd) (pgs_cons (pgl 3 sc_field_at.nd) pgs_nil)))
     (pss_one (ps_if (pt_cmpR op_eq (pe_ix (k_ixT rfl) (pvl 3) pe_int (fun _ _ => rfl)) (pvl 1) (nomark _))
     (pss_one (ps_ret (pvl 2)))
     pss_nil)))
     (pss_one (ps_raiseI told_cx rfl T.x_NoField.x T.d_NoField___init__.fn (ok_NoField___init__ T) (hr.mono (by decide)) T.d_NoField___init__.b T.x_NoField.kp rfl T.x_NoField.m (by decide) rfl (pal rfl (pvl 1) pa_nil)))), ?_⟩
    walk_at "py"
    refine for_in ?_
    unfold iEnum
    walk_at "py"
    refine ⟨⟨xs, .of hl⟩, ForW.enum (xs := xs) (fun j σ H' => (∃ v2 v3, σ = [some (V.ref l), some (V.str n), v2, v3]) ∧ n ∉ ns.take j ∧ Same H H') ⟨⟨none, none, rfl⟩, by simp, Same.refl _⟩ (fun _ _ _ q => q.2.2.seq (.of hl)) ?_ ?_⟩
    · rintro j x σ H1 p hx ⟨⟨v2, v3, rfl⟩, hnot, s1⟩ hp
      have s2 := s1.new hp (HO.tup [V.int (j : Int), x])
      refine ⟨p, _, rfl, .of upd_same, rfl, ?_⟩
      generalize upd H1 p (HO.tup [V.int (j : Int), x]) = H2 at *
      obtain ⟨q, nj, kd, hxq, hj, _, hq⟩ := hF.at (List.getElem?_eq_some_iff.mp hx).1
      obtain rfl : x = .ref q := Option.some.inj (hx.symm.trans hxq)
      simp only [gCons, gNil, gName]
      walk_at "py"
      refine ixT_of (.of (s2 _ _ hq)) (by decide) (by simp) fun v hv => ?_
      obtain rfl : V.str nj = v := by simpa using hv
      refine ⟨rfl, ?_⟩
      by_cases e : nj = n
      · subst e
        rw [if_pos (by simp)]
        rcases k with ⟨i, hi, k⟩ | ⟨hno, _⟩
        · obtain rfl := nodup_ix hF.2.2.1 hi hj
          exact k _ s2
        · exact absurd (List.mem_of_getElem? hj) hno
      · rw [if_neg (by simpa using e)]
        refine ⟨⟨_, rfl⟩, ?_, s2⟩
        rw [take_snoc hj]
        intro z
        rcases List.mem_append.mp z with z | z
        · exact hnot z
        · exact e (List.mem_singleton.mp z).symm
    · rintro σ H1 ⟨⟨v2, v3, rfl⟩, hnot, s1⟩
      rw [← hF.1, List.take_length] at hnot
      rcases k with ⟨i, hi, _⟩ | ⟨_, k⟩
      · exact absurd (List.mem_of_getElem? hi) hnot
      · walk_at "py"
        exact ⟨small_line (by decide), fun a ha => ⟨a, f 2, .str n, some (.ref (f 3000)), rfl, upd_same, T.x_NoField.x, T.x_NoField.xc.hd, T.x_NoField.sa, T.na_NoField_name, fun dx hdx hne => ⟨rfl, some dx, upd_same, k _ dx (s1.trans (raised ha hdx hne).1) (raised ha hdx hne).2⟩⟩⟩
abbrev wordS : Str := "word"
abbrev numS : Str := "number"
def NmOk (b : Nat) (n : Str) : Prop := n.length ≤ b ∧ ∀ c ∈ n.cps.toList, c < 1114112
abbrev Valid (z : Str) : Prop := ∀ c ∈ z.cps.toList, c < 1114112
theorem strOk_of {z : Str} (h : Valid z) : PyData.strOk z = true := by
  simp only [PyData.strOk]
  rw [Array.all_eq_true_iff_forall_mem]
  intro c hc'
  exact decide_eq_true (h c (by simpa using hc'))
def OfKd (kd : Str) (x : V) : Prop := (kd = wordS ∧ ∃ z, x = .str z ∧ NmOk 12 z) ∨ (kd = numS ∧ ∃ i, x = .int i)
def RowOk (kds : List Str) (rs : List V) : Prop := rs.length = kds.length ∧ ∀ (i : Nat) x kd, rs[i]? = some x → kds[i]? = some kd → x = .non ∨ OfKd kd x
def mixI (a b : Int) : Int := ((a % 2147483647 * 48271 + b * 7919 + 11) % 2147483647 * ((a % 2147483647 * 48271 + b * 7919 + 11) % 2147483647) % 2147483629 * 69621) % 2147483647
def sp_l_mix (K : PySem.W.Frag) : Sp := fun vs H Q _ => ∃ a b, vs = [.int a, .int b] ∧ Q (.int (mixI a b)) H
theorem ok_l_mix (T : Txt K mg f fd) : FnOk P w K mg base CX0 1 (f 9) (fd 9) ["_law_seed", "_law_k"] (sp_l_mix K) := by
  refine T.d_l_mix.F.ok sc_l_mix (fun vs H Q E h => ?_) (fun cdv A outer s H vs Q E hr h => ?_)
  · obtain ⟨x, T, rfl, _⟩ := h
    rfl
  · obtain ⟨a, b, rfl, k⟩ := h
    refine ⟨_, (pss_cons (psl 2 sc_l_mix.nd (pe_op op_mod (pe_op op_add (pe_op op_add (pe_op op_mul (pe_op op_mod (pvl 0) pe_int) pe_int) (pe_op op_mul (pvl 1) pe_int)) pe_int) pe_int))
     (pss_one (ps_ret (pe_op op_mod (pe_op op_mul (pe_op op_mod (pe_op op_mul (pvl 2) (pvl 2)) pe_int) pe_int) pe_int)))), ?_⟩
    walk_at "py"
    walk_at "sd"
    exact k
def sp_l_cell_at (K : PySem.W.Frag) : Sp := fun vs H Q _ => ∃ (a : Addr) (ns : List Int) (i : Int), vs = [.ref a, .int i] ∧ SqL K H a (ns.map V.int) ∧ 0 ≤ i ∧ ∀ v, Q (.int v) H
theorem ok_l_cell_at (T : Txt K mg f fd) : FnOk P w K mg base CX0 1 (f 8) (fd 8) ["_law_script", "_law_k"] (sp_l_cell_at K) := by
  refine T.d_l_cell_at.F.ok sc_l_cell_at (fun vs H Q E h => ?_) (fun cdv A outer s H vs Q E hr h => ?_)
  · obtain ⟨x, T, _, rfl, _⟩ := h
    rfl
  · obtain ⟨a, ns, i, rfl, hs, h0, k⟩ := h
    refine ⟨_, (pss_cons (ps_if (pt_cmpR op_lt (pvl 1) (pe_cB (k_len rfl) T.n_len bt_len rfl (by decide) (by decide) rfl (pal rfl (pvl 0) pa_nil)) (nomark _))
     (pss_one (ps_ret (pe_ix (k_ixL rfl) (pvl 0) (pvl 1) (fun _ _ => rfl))))
     pss_nil)
     (pss_one (ps_ret pe_int))), ?_⟩
    walk_at "py"
    refine ⟨_, .inl hs, ?_⟩
    rw [List.length_map]
    by_cases h : i < (ns.length : Int)
    · rw [if_pos (decide_eq_true h)]
      obtain ⟨j, rfl⟩ : ∃ j : Nat, i = (j : Int) := ⟨i.toNat, by omega⟩
      have hj : j < ns.length := by omega
      refine ⟨a, _, _, .int ns[j], rfl, rfl, hs, atI_nat (by rw [List.getElem?_map, List.getElem?_eq_getElem hj]; rfl), k _⟩
    · rw [if_neg (by simpa using h)]
      exact k _
abbrev letters : Str := "abcdefghijklmnopqrstuvwxyz"
abbrev al36 : Str := "abcdefghijklmnopqrstuvwxyz0123456789"
theorem ltr_at : ∀ d : Nat, d < 26 → letters.cps.toList[d]? = some (97 + d) := by decide +kernel
theorem ltr_len : letters.length = 26 := by decide
def ch (sg : Str) (i : Int) : Nat := sg.cps.toList.getD (i % (sg.length : Int)).toNat 0
theorem ch_get {sg : Str} (h : 1 ≤ sg.length) (i : Int) : sg.cps.toList[(i % (sg.length : Int)).toNat]? = some (ch sg i) := by
  have h1 := Int.emod_lt_of_pos i (show (0 : Int) < sg.length by omega)
  have h0 := Int.emod_nonneg i (show (sg.length : Int) ≠ 0 by omega)
  have hl : (i % (sg.length : Int)).toNat < sg.cps.toList.length := by rw [show sg.cps.toList.length = sg.length by simp [Str.length]]; omega
  unfold ch
  rw [List.getD_eq_getElem?_getD, List.getElem?_eq_getElem hl]
  rfl
theorem ch_mem {sg : Str} (h : 1 ≤ sg.length) (i : Int) : ch sg i ∈ sg.cps.toList := List.mem_of_getElem? (ch_get h i)
theorem ch_ltr (i : Int) : ch letters i = 97 + (i % 26).toNat := by
  have e := ch_get (sg := letters) (by decide) i
  rw [ltr_len] at e
  have e2 := ltr_at (i % 26).toNat (by have := Int.emod_lt_of_pos i (show (0 : Int) < 26 by decide); have := Int.emod_nonneg i (show (26 : Int) ≠ 0 by decide); omega)
  exact Option.some.inj (e.symm.trans e2)
theorem nodup_map_range {α : Type} {f : Nat → α} {m : Nat} (h : ∀ i j, i < m → j < m → f i = f j → i = j) : ((List.range m).map f).Nodup := by
  unfold List.Nodup
  rw [List.pairwise_map]
  refine List.Pairwise.imp_of_mem (fun {a b} ha hb hn e => hn (h a b (List.mem_range.mp ha) (List.mem_range.mp hb) e)) List.nodup_range
theorem mulOk_one (c : Nat) {n : Int} (h0 : 0 ≤ n) (h : n ≤ 12) : MulOk ⟨#[c]⟩ n := by
  refine ⟨by rw [decide_eq_false (by omega), decide_eq_false (by omega)]; rfl, fun h1 _ => ?_, fun h1 _ => ?_⟩
  · show ¬ (1 : Int) > (2 ^ 63 - 1) / n
    rcases (by omega : n = 1 ∨ n = 2 ∨ n = 3 ∨ n = 4 ∨ n = 5 ∨ n = 6 ∨ n = 7 ∨ n = 8 ∨ n = 9 ∨ n = 10 ∨ n = 11 ∨ n = 12) with rfl | rfl | rfl | rfl | rfl | rfl | rfl | rfl | rfl | rfl | rfl | rfl <;> decide
  · show Builtin.Str.tooLong (1 * n.toNat) = false
    rcases (by omega : n = 1 ∨ n = 2 ∨ n = 3 ∨ n = 4 ∨ n = 5 ∨ n = 6 ∨ n = 7 ∨ n = 8 ∨ n = 9 ∨ n = 10 ∨ n = 11 ∨ n = 12) with rfl | rfl | rfl | rfl | rfl | rfl | rfl | rfl | rfl | rfl | rfl | rfl <;> decide +kernel
theorem len_cps (z : Str) : z.cps.toList.length = z.length := by simp [Str.length]
theorem app_len (x y : Str) : (x ++ y).length = x.length + y.length := by
  rw [← len_cps, ← len_cps, ← len_cps, PySem.W.KT.app_list, List.length_append]
theorem mul_len (c : Nat) (n : Int) : (Txt.mul ⟨#[c]⟩ n).length = n.toNat := by rw [← len_cps, PyProof.Rows.mul_one_list, List.length_replicate]
/-  texts of one to twelve small letters, no two alike -/
def Heads (sg : Str) (zs : List Str) (m : Nat) : Prop := zs.length = m ∧ (sg = letters → zs.Nodup) ∧ ∀ z ∈ zs, 1 ≤ z.length ∧ z.length ≤ 12 ∧ ∀ c ∈ z.cps.toList, c ∈ sg.cps.toList
def hdS (sg : Str) (sd : Int) (c : Nat) (at0 few : Int) (i : Nat) : Str := Txt.mul ⟨#[c]⟩ at0 ++ ⟨#[ch sg (sd / 1664 + 5 * (0 + (i : Int)))]⟩ ++ Txt.mul ⟨#[c]⟩ (1 + few - at0 - 1)
theorem hdS_cps (sg : Str) (sd : Int) (c : Nat) (at0 few : Int) (i : Nat) : (hdS sg sd c at0 few i).cps.toList = List.replicate at0.toNat c ++ [ch sg (sd / 1664 + 5 * (0 + (i : Int)))] ++ List.replicate (1 + few - at0 - 1).toNat c := by
  unfold hdS
  rw [PySem.W.KT.app_list, PySem.W.KT.app_list, PyProof.Rows.mul_one_list, PyProof.Rows.mul_one_list]
theorem hdS_heads {sg : Str} {sd : Int} {c : Nat} {at0 few : Int} {m : Nat} (hsg : 1 ≤ sg.length) (hc : c ∈ sg.cps.toList) (h0 : 0 ≤ at0) (h1 : at0 < 1 + few) (h2 : few < 12) (hm : m ≤ 9) : Heads sg ((List.range m).map (hdS sg sd c at0 few)) m := by
  refine ⟨by rw [List.length_map, List.length_range], fun hlt => nodup_map_range fun i j hi hj e => ?_, fun z hz => ?_⟩
  · have e1 := str_eq_iff.mp e
    rw [hdS_cps, hdS_cps, List.append_assoc, List.append_assoc] at e1
    have e2 := List.append_cancel_left e1
    have e3 : ch sg (sd / 1664 + 5 * (0 + (i : Int))) = ch sg (sd / 1664 + 5 * (0 + (j : Int))) := by
      injection e2
    subst hlt
    rw [ch_ltr, ch_ltr] at e3
    omega
  · obtain ⟨i, _, rfl⟩ := List.mem_map.mp hz
    have hl : (hdS sg sd c at0 few i).length = (1 + few).toNat := by
      rw [← len_cps, hdS_cps, List.length_append, List.length_append, List.length_replicate, List.length_replicate, List.length_singleton]
      omega
    refine ⟨by omega, by omega, fun d hd => ?_⟩
    rw [hdS_cps] at hd
    rcases List.mem_append.mp hd with hd | hd
    · rcases List.mem_append.mp hd with hd | hd
      · rw [List.eq_of_mem_replicate hd]; exact hc
      · rw [List.mem_singleton.mp hd]; exact ch_mem hsg _
    · rw [List.eq_of_mem_replicate hd]; exact hc
def sp_l_heads (K : PySem.W.Frag) : Sp := fun vs H Q _ => ∃ sd : Int, ∃ m : Nat, ∃ sg : Str, vs = [.int sd, .str sg, .int m, .int 12] ∧ m ≤ 9 ∧ 1 ≤ sg.length ∧ sg.length ≤ 1000 ∧ ∀ H' p zs, Same H H' → H' p = some (.lst (zs.map V.str)) → Heads sg zs m → Q (.ref p) H'
theorem ok_l_heads (T : Txt K mg f fd) : FnOk P w K mg base CX0 1 (f 10) (fd 10) ["_law_seed", "_law_signs", "_law_many", "_law_most"] (sp_l_heads K) := by
  refine T.d_l_heads.F.ok sc_l_heads (fun vs H Q E h => ?_) (fun cdv A outer s H vs Q E hr h => ?_)
  · obtain ⟨sd, m, sg, rfl, _⟩ := h
    rfl
  · obtain ⟨sd, m, sg, rfl, h9, hg1, hg2, k⟩ := h
    have hgl : sg.length ≤ sizeLine := small_line (by omega)
    have hg0 : (0 : Int) < sg.length := by omega
    refine ⟨_, (pss_cons (ps_if (PW.pt (pw_and (pt_cmpR op_eq (pe_op op_mod (pe_op op_fdiv (pvc 0) pe_int) pe_int) pe_int (nomark _)) (pw_and1 (pt_cmpR op_le (pvl 2) (pvl 3) (nomark _)))))
     (pss_cons (psc 4 sc_l_heads.nd (k_bmL rfl PySem.F.plainAttrs_str PySem.F.slot_str_join PySem.F.type_str_join (k_join rfl) rfl rfl rfl rfl pe_str (pal rfl (pe_comp ["_law_k"] ["_law_seed", "_law_signs", "_law_many", "_law_most", "_law_word", "_law_few", "_law_at", "_law_rest", "_law_heads_here", "#9", "_law_sign"] rfl (show CompSc _ (defScope s_l_heads) ["_law_seed", "_law_signs", "_law_many", "_law_most", "_law_word", "_law_few", "_law_at", "_law_rest", "_law_heads_here", "_law_k", "_law_sign"] ["_law_seed", "_law_signs", "_law_many", "_law_most", "_law_word", "_law_few", "_law_at", "_law_rest", "_law_heads_here", "#9", "_law_sign"] from compOk_is (by decide +kernel)) (pi_range1 rfl T.n_range (pal rfl (pvl 3) pa_nil)) (fun _ _ _ _ _ => (pgl 0 (show (["_law_k", "_law_seed", "_law_signs", "_law_many", "_law_most", "_law_word", "_law_few", "_law_at", "_law_rest", "_law_heads_here", "#9", "_law_sign"] : List Str).Nodup by decide +kernel))) (fun _ _ _ _ _ => pts_nil) (fun _ _ _ _ _ => (pe_ix ix_str (pvc 2) (pe_op op_mod (pe_op op_add (pe_op op_fdiv (pvc 1) pe_int) (pe_op op_mul (pe_op op_mul pe_int (pvl 0)) (pvl 0))) (pe_cB call_len_str T.n_len bt_len rfl (by decide) (by decide) rfl (pal rfl (pvc 2) pa_nil))) (fun _ _ => rfl)))) pa_nil)))
     (pss_one (ps_ret (pe_comp ["_law_k"] ["_law_seed", "_law_signs", "_law_many", "_law_most", "_law_word", "_law_few", "_law_at", "_law_rest", "_law_heads_here", "#9", "_law_sign"] rfl (show CompSc _ (defScope s_l_heads) ["_law_seed", "_law_signs", "_law_many", "_law_most", "_law_word", "_law_few", "_law_at", "_law_rest", "_law_heads_here", "_law_k", "_law_sign"] ["_law_seed", "_law_signs", "_law_many", "_law_most", "_law_word", "_law_few", "_law_at", "_law_rest", "_law_heads_here", "#9", "_law_sign"] from compOk_is (by decide +kernel)) (pi_range1 rfl T.n_range (pal rfl (pvl 2) pa_nil)) (fun _ _ _ _ _ => (pgl 0 (show (["_law_k", "_law_seed", "_law_signs", "_law_many", "_law_most", "_law_word", "_law_few", "_law_at", "_law_rest", "_law_heads_here", "#9", "_law_sign"] : List Str).Nodup by decide +kernel))) (fun _ _ _ _ _ => pts_nil) (fun _ _ _ _ _ => (pe_slice sl_str (pvc 5) po_none (po_some (pe_op op_add (pvl 0) pe_int))))))))
     pss_nil)
     (pss_cons (psl 5 sc_l_heads.nd (pe_op op_add pe_int (pe_op op_mod (pvc 0) (pvl 3))))
     (pss_cons (psl 6 sc_l_heads.nd (pe_op op_mod (pe_op op_fdiv (pvc 0) pe_int) (pvl 5)))
     (pss_cons (psl 7 sc_l_heads.nd (pe_ix ix_str (pvc 1) (pe_op op_mod (pe_op op_fdiv (pvc 0) pe_int) (pe_cB call_len_str T.n_len bt_len rfl (by decide) (by decide) rfl (pal rfl (pvc 1) pa_nil))) (fun _ _ => rfl)))
     (pss_cons (psl 8 sc_l_heads.nd (pe_lst pa_nil))
     (pss_cons (ps_for PassesOwn.never rfl (pi_range1 rfl T.n_range (pal rfl (pvl 2) pa_nil)) (pgl 9 sc_l_heads.nd)
     (pss_cons (psl 10 sc_l_heads.nd (pe_ix ix_str (pvc 1) (pe_op op_mod (pe_op op_add (pe_op op_fdiv (pvc 0) pe_int) (pe_op op_mul pe_int (pvl 9))) (pe_cB call_len_str T.n_len bt_len rfl (by decide) (by decide) rfl (pal rfl (pvc 1) pa_nil))) (fun _ _ => rfl)))
     (pss_one (ps_expr (k_bmL rfl PySem.F.plainAttrs_list PySem.F.slot_list_append PySem.F.type_list_append mt_append rfl rfl rfl rfl (pvl 8) (pal rfl (pe_op op_add_str (pe_op op_add_str (pe_op op_rep_str (pvl 7) (pvl 6)) (pvl 10)) (pe_op op_rep_str (pvl 7) (pe_op op_sub (pe_op op_sub (pvl 5) (pvl 6)) pe_int))) pa_nil))))))
     (pss_one (ps_ret (pvl 8))))))))), ?_⟩
    walk_at "py"
    refine ⟨⟨by decide, by decide⟩, by decide, ?_⟩
    by_cases h4 : sd / 43264 % 4 = 3
    · rw [if_pos (decide_eq_true h4), if_pos (decide_eq_true (by omega))]
      refine ⟨rfl, by decide, by decide, comp_of (as := List.range 12) (g := fun i => V.int (0 + (i : Int))) walk_range (small_line (by decide)) (fun _ _ => trivial) (fun _ => true) (fun i => sgn (ch sg (sd / 1664 + 5 * (0 + (i : Int)) * (0 + (i : Int))))) (fun _ H1 Q _ _ q => q H1 (Same.refl _)) (fun i H1 Q hi _ _ q => ?_) (fun H1 s1 D hD => ?_)⟩
      · have hi := List.mem_range.mp hi
        walk_at "py"
        refine ⟨⟨by decide, by decide⟩, .inl ⟨by decide, by decide⟩, .inr ⟨by omega, by omega⟩, hgl, hg0, ?_⟩
        refine ixS_of hgl (Int.emod_nonneg _ (by omega)) (Int.emod_lt_of_pos _ hg0) fun c hc => ?_
        have e := ch_get hg1 (sd / 1664 + 5 * (0 + (i : Int)) * (0 + (i : Int)))
        obtain rfl : c = ch sg (sd / 1664 + 5 * (0 + (i : Int)) * (0 + (i : Int))) := Option.some.inj (hc.symm.trans e)
        exact q H1 (Same.refl _)
      · rw [filter_yes]
        have ecs : (List.range 12).map (fun (i : Nat) => sgn (ch sg (sd / 1664 + 5 * (0 + (i : Int)) * (0 + (i : Int))))) = ((List.range 12).map fun (i : Nat) => ch sg (sd / 1664 + 5 * (0 + (i : Int)) * (0 + (i : Int)))).map sgn := by rw [List.map_map]; rfl
        rw [ecs]
        have hlc : ((List.range 12).map fun (i : Nat) => ch sg (sd / 1664 + 5 * (0 + (i : Int)) * (0 + (i : Int)))).length = 12 := by rw [List.length_map, List.length_range]
        have hmc : ∀ c ∈ (List.range 12).map fun (i : Nat) => ch sg (sd / 1664 + 5 * (0 + (i : Int)) * (0 + (i : Int))), c ∈ sg.cps.toList := fun c hc => by
          obtain ⟨i, _, rfl⟩ := List.mem_map.mp hc
          exact ch_mem hg1 _
        generalize ((List.range 12).map fun (i : Nat) => ch sg (sd / 1664 + 5 * (0 + (i : Int)) * (0 + (i : Int)))) = cs at *
        have s2 := s1.new hD (HO.lst (cs.map sgn))
        refine joinS_of (.of upd_same) (by omega) ⟨by omega, by omega, ?_⟩
        generalize upd H1 D (HO.lst (cs.map sgn)) = H2 at *
        rw [Int.toNat_natCast]
        refine comp_of (as := List.range m) (g := fun i => V.int (0 + (i : Int))) walk_range (by rw [List.length_range]; exact small_line (by omega)) (fun _ _ => trivial) (fun _ => true) (fun i => .str ⟨(cs.take (i + 1)).toArray⟩) (fun _ H1 Q _ _ q => q H1 (Same.refl _)) (fun i H3 Q hi _ _ q => ?_) (fun H3 s3 D3 hD3 => ?_)
        · walk_at "py"
          refine ⟨small_line (by show cs.toArray.size ≤ _; rw [List.size_toArray]; omega), ?_⟩
          have e : cutL cs none (some (0 + (i : Int) + 1)) = cs.take (i + 1) := by
            rw [show (0 + (i : Int) + 1) = ((i + 1 : Nat) : Int) by omega, cut_to]
          have e2 : cutL (⟨cs.toArray⟩ : Str).cps.toList none (some (0 + (i : Int) + 1)) = cs.take (i + 1) := e
          first
            | (rw [e2]; exact q H3 (Same.refl _))
            | (rw [e]; exact q H3 (Same.refl _))
        · rw [filter_yes]
          have lt : ∀ i, i < m → (cs.take (i + 1)).length = i + 1 := fun i hi => by rw [List.length_take, hlc]; omega
          refine k _ D3 ((List.range m).map fun i => ⟨(cs.take (i + 1)).toArray⟩) ((s2.trans s3).new hD3 _) (by rw [upd_same, List.map_map]; rfl) ⟨by rw [List.length_map, List.length_range], fun _ => nodup_map_range fun i j hi hj e => ?_, fun z hz => ?_⟩
          · have e2 := congrArg List.length (str_eq_iff.mp e)
            have e3 : (cs.take (i + 1)).length = (cs.take (j + 1)).length := e2
            rw [lt i hi, lt j hj] at e3
            omega
          · obtain ⟨i, hi, rfl⟩ := List.mem_map.mp hz
            have hi := List.mem_range.mp hi
            have hl : (⟨(cs.take (i + 1)).toArray⟩ : Str).length = i + 1 := by
              show (cs.take (i + 1)).toArray.size = _
              rw [List.size_toArray, lt i hi]
            exact ⟨by omega, by omega, fun c hc => hmc c (List.mem_of_mem_take hc)⟩
    · rw [if_neg (by simpa using h4)]
      refine ⟨by decide, ⟨by decide, by decide⟩, by omega, ⟨by decide, by decide⟩, hgl, hg0, ?_⟩
      refine ixS_of hgl (Int.emod_nonneg _ (by omega)) (Int.emod_lt_of_pos _ hg0) fun c hc => ⟨small_line (by decide), fun p hp => ?_⟩
      have hcl : c ∈ sg.cps.toList := List.mem_of_getElem? hc
      have b1 : 0 ≤ sd % 12 := Int.emod_nonneg _ (by decide)
      have b2 : sd % 12 < 12 := Int.emod_lt_of_pos _ (by decide)
      have b3 : 0 ≤ sd / 12 % (1 + sd % 12) := Int.emod_nonneg _ (by omega)
      have b4 : sd / 12 % (1 + sd % 12) < 1 + sd % 12 := Int.emod_lt_of_pos _ (by omega)
      generalize sd / 12 % (1 + sd % 12) = at0 at *
      generalize sd % 12 = few at *
      have s1 := Same.upd_new hp (HO.lst [])
      have g1 : upd H p (HO.lst []) p = some (.lst []) := upd_same
      generalize upd H p (HO.lst []) = H1 at *
      refine for_in ?_
      walk_at "py"
      refine ⟨by omega, by omega, ?_⟩
      rw [Int.toNat_natCast]
      refine ForW.of walk_range (fun j σ H' => (∃ v9 v10, σ = [some (V.int sd), some (V.str sg), some (V.int (m : Int)), some (V.int 12), none, some (V.int (1 + few)), some (V.int at0), some (V.str ⟨#[c]⟩), some (V.ref p), v9, v10]) ∧ H' p = some (.lst (((List.range j).map (hdS sg sd c at0 few)).map V.str)) ∧ Same H H') ⟨⟨none, none, rfl⟩, g1, s1⟩ (fun _ _ _ _ _ => trivial) ?_ ?_
      · rintro j x σ H2 hx ⟨⟨v9, v10, rfl⟩, g2, s2⟩
        obtain ⟨hj, rfl⟩ := range_item hx
        walk_at "py"
        refine ⟨⟨by decide, by decide⟩, .inl ⟨by decide, by decide⟩, hgl, hg0, ?_⟩
        refine ixS_of hgl (Int.emod_nonneg _ (by omega)) (Int.emod_lt_of_pos _ hg0) fun d hd => ?_
        obtain rfl : d = ch sg (sd / 1664 + 5 * (0 + (j : Int))) := Option.some.inj (hd.symm.trans (ch_get hg1 _))
        unfold sgn
        walk_at "py"
        refine ⟨.inl ⟨rfl, _, .of g2⟩, mulOk_one c b3 (by omega), small_line ?_, mulOk_one c (by omega) (by omega), small_line ?_, p, _, _, rfl, rfl, g2, ?_, ⟨_, rfl⟩, ?_, s2.set hp _⟩
        · rw [mul_len]
          show at0.toNat + 1 ≤ _
          omega
        · rw [app_len, mul_len, mul_len]
          show at0.toNat + 1 + _ ≤ _
          omega
        · rw [List.length_map, List.length_map, List.length_range, sizeLine_eq]
          omega
        · rw [upd_same, List.range_succ, List.map_append, List.map_append]
          rfl
      · rintro σ H2 ⟨⟨v9, v10, rfl⟩, g2, s2⟩
        rw [rangeV_len] at g2
        walk_at "py"
        exact k _ p _ s2 g2 (hdS_heads hg1 hcl b3 b4 b2 h9)
theorem al_lt : ∀ c ∈ al36.cps.toList, c < 1114112 := by decide +kernel
theorem ltr_lt : ∀ c ∈ letters.cps.toList, c < 1114112 := by decide +kernel
/-  the world that a script draws -/
def Wd (H : Hp) (d : Addr) (ns kds : List Str) : Prop := ∃ (kvs : List (Key × V)) (l w : Addr) (b : Int) (xs : List V) (ws : List Str), H d = some (.dK kvs) ∧ valV kvs (.inr "fields") = some (.ref l) ∧ valV kvs (.inr "words") = some (.ref w) ∧ valV kvs (.inr "base") = some (.int b) ∧
  H l = some (.lst xs) ∧ FldsK H xs ns kds ∧ (∀ kd ∈ kds, kd = wordS ∨ kd = numS) ∧ 1 ≤ xs.length ∧ xs.length ≤ 8 ∧ H w = some (.lst (ws.map V.str)) ∧ 1 ≤ ws.length ∧ ws.length ≤ 60 ∧ (∀ n ∈ ns, NmOk 12 n) ∧ ∀ z ∈ ws, NmOk 12 z
theorem Wd.mono {H H' : Hp} {d : Addr} {ns kds : List Str} (s : Same H H') (h : Wd H d ns kds) : Wd H' d ns kds := by
  obtain ⟨kvs, l, w, b, xs, ws, h1, h2, h3, h4, h5, h6, h7, h8, h9, h10, h11⟩ := h
  exact ⟨kvs, l, w, b, xs, ws, s _ _ h1, h2, h3, h4, s _ _ h5, h6.mono s, h7, h8, h9, s _ _ h10, h11⟩
theorem wget {H : Hp} {d : Addr} {kvs : List (Key × V)} {z : Str} {v : V} (h : H d = some (.dK kvs)) (e : valV kvs (.inr z) = some v) : DGet H d (.str z) (some v) := by
  have := DGet.k (k := .inr z) h
  rwa [e] at this
def sp_l_world (K : PySem.W.Frag) : Sp := fun vs H Q _ => ∃ (a : Addr) (ns0 : List Int), vs = [.ref a] ∧ SqL K H a (ns0.map V.int) ∧ ∀ H' d ns kds, Same H H' → Wd H' d ns kds → Q (.ref d) H'
theorem ok_l_world (T : Txt K mg f fd) : FnOk P w K mg base CX0 2 (f 11) (fd 11) ["_law_script"] (sp_l_world K) := by
  refine T.d_l_world.F.ok sc_l_world (fun vs H Q E h => ?_) (fun cdv A outer s H vs Q E hr h => ?_)
  · obtain ⟨a, ns0, rfl, _⟩ := h
    rfl
  · obtain ⟨a, ns0, rfl, hs, k⟩ := h
    refine ⟨_, (pss_cons (psc 1 sc_l_world.nd (pe_defL T.d_l_mix (ok_l_mix T) (hr.mono (by decide)) rfl (by decide) rfl (pal rfl (pe_defL T.d_l_cell_at (ok_l_cell_at T) (hr.mono (by decide)) rfl (by decide) rfl (pal rfl (pvl 0) (pal rfl pe_int pa_nil))) (pal rfl pe_int pa_nil))))
     (pss_cons (psl 2 sc_l_world.nd (pe_op op_add pe_int (pe_op op_mod (pvc 1) pe_int)))
     (pss_cons (psc 3 sc_l_world.nd (pe_defL T.d_l_heads (ok_l_heads T) (hr.mono (by decide)) rfl (by decide) rfl (pal rfl (pe_defL T.d_l_mix (ok_l_mix T) (hr.mono (by decide)) rfl (by decide) rfl (pal rfl (pvc 1) (pal rfl pe_int pa_nil))) (pal rfl pe_str (pal rfl (pvl 2) (pal rfl pe_int pa_nil))))))
     (pss_cons (ps_comp ["_law_k"] ["_law_script", "_law_seed", "_law_many", "_law_names", "_law_fields", "_law_words", "_law_base"] rfl (show CompSc _ (defScope s_l_world) ["_law_script", "_law_seed", "_law_many", "_law_names", "_law_fields", "_law_words", "_law_base"] ["_law_script", "_law_seed", "_law_many", "_law_names", "_law_fields", "_law_words", "_law_base"] from compOk_is (by decide +kernel)) sc_l_world.nd (i := 4) rfl rfl (pi_range1 rfl T.n_range (pal rfl (pvl 2) pa_nil)) (fun _ _ _ _ _ => (pgl 0 (show (["_law_k", "_law_script", "_law_seed", "_law_many", "_law_names", "_law_fields", "_law_words", "_law_base"] : List Str).Nodup by decide +kernel))) (fun _ _ _ _ _ => pts_nil) (fun _ _ _ _ _ => (pe_tup (pal rfl (pe_ix (k_ixL rfl) (pvc 4) (pvl 0) (fun _ _ => rfl)) (pal rfl (pe_ix (k_ixL rfl) (pe_lst (pal rfl pe_str (pal rfl pe_str pa_nil))) (pe_op op_mod (pe_defL T.d_l_mix (ok_l_mix T) (hr.mono (by decide)) rfl (by decide) rfl (pal rfl (pvc 2) (pal rfl (pe_op op_add (pvl 0) pe_int) pa_nil))) pe_int) (fun _ _ => rfl)) pa_nil)))))
     (pss_cons (psl 5 sc_l_world.nd (pe_defL T.d_l_heads (ok_l_heads T) (hr.mono (by decide)) rfl (by decide) rfl (pal rfl (pe_defL T.d_l_mix (ok_l_mix T) (hr.mono (by decide)) rfl (by decide) rfl (pal rfl (pvc 1) (pal rfl pe_int pa_nil))) (pal rfl pe_str (pal rfl pe_int (pal rfl pe_int pa_nil))))))
     (pss_cons (ps_if (pt_cmpR op_eq (pe_op op_mod (pe_op op_fdiv (pvc 1) pe_int) pe_int) pe_int (nomark _))
     (pss_one (psl 5 sc_l_world.nd (pe_op op_cat (pe_slice (k_slL rfl) (pvc 3) po_none (po_some pe_int)) (pe_slice (k_slL rfl) (pvl 5) po_none (po_some pe_int)))))
     pss_nil)
     (pss_cons (psl 6 sc_l_world.nd (pe_ix (k_ixL rfl) (pe_lst (pal rfl pe_int (pal rfl (pe_op op_mul pe_int (pe_op op_pow pe_int pe_int)) (pal rfl (pe_op op_sub pe_int (pe_op op_mul pe_int (pe_op op_pow pe_int pe_int))) (pal rfl pe_int pa_nil))))) (pe_op op_mod (pe_op op_fdiv (pvc 1) pe_int) pe_int) (fun _ _ => rfl)))
     (pss_one (ps_ret (pe_disp (pps_cons pe_str (pvl 4) (pps_cons pe_str (pvl 5) (pps_cons pe_str (pvl 6) pps_nil))) rfl rfl (List.cons_ne_nil _ _) (by show 3 ≤ 15; decide))))))))))), ?_⟩
    walk_at "dc"
    refine ⟨a, ns0, _, rfl, hs, by decide, fun v0 => ⟨_, _, rfl, ?_⟩⟩
    generalize mixI v0 1 = sd at *
    refine ⟨_, rfl, by decide, _, _, rfl, ?_⟩
    obtain ⟨m, hm⟩ : ∃ m : Nat, 1 + sd % 8 = (m : Int) := ⟨(1 + sd % 8).toNat, by omega⟩
    rw [hm]
    have hm1 : 1 ≤ m ∧ m ≤ 8 := by omega
    refine ⟨_, m, letters, rfl, by omega, by decide, by decide, fun H1 pn zs s1 hpn hz => ?_⟩
    refine ⟨by omega, by omega, ?_⟩
    rw [Int.toNat_natCast]
    refine comp_walk walk_range (by rw [rangeV_len]; exact small_line (by omega)) (fun j ys H' => Same H1 H' ∧ ys.length = j ∧ ∃ kds : List Str, kds.length = j ∧ (∀ kd ∈ kds, kd = wordS ∨ kd = numS) ∧ ∀ (i : Nat) x n kd, ys[i]? = some x → zs[i]? = some n → kds[i]? = some kd → ∃ p, x = .ref p ∧ H' p = some (.tup [.str n, .str kd])) ⟨Same.refl _, rfl, [], rfl, (fun _ h => nomatch h), fun _ _ _ _ h => by simp at h⟩ (fun _ _ _ _ _ => trivial) (fun j ys H' q => Nat.le_of_eq q.2.1) (fun j x ys H2 hx q => ?_) (fun ys H2 q D hD => ?_)
    · obtain ⟨hj, rfl⟩ := range_item hx
      obtain ⟨t1, t2, kds, t3, t4, t5⟩ := q
      obtain ⟨n, hn⟩ : ∃ n, zs[j]? = some n := ⟨_, List.getElem?_eq_getElem (by rw [hz.1]; exact hj)⟩
      walk_at "dc"
      rw [Int.zero_add]
      refine ⟨pn, _, _, _, rfl, rfl, .of (t1 _ _ hpn), atI_nat (by rw [List.getElem?_map, hn]; rfl), small_line (by decide), fun p hp => ?_⟩
      have u := Same.upd_new hp (HO.lst [V.str (Str.ofString "word"), V.str (Str.ofString "number")])
      have gp : upd H2 p (HO.lst [V.str (Str.ofString "word"), V.str (Str.ofString "number")]) p = some (.lst [V.str (Str.ofString "word"), V.str (Str.ofString "number")]) := upd_same
      generalize upd H2 p (HO.lst [V.str (Str.ofString "word"), V.str (Str.ofString "number")]) = H3 at *
      refine ⟨by decide, ixL_of (.of gp) (Int.emod_nonneg _ (by decide)) (Int.emod_lt_of_pos _ (by decide)) fun kv hkv => ⟨small_line (by decide), fun r hr => ?_⟩⟩
      obtain ⟨kd, rfl, hk2⟩ : ∃ kd : Str, kv = .str kd ∧ (kd = wordS ∨ kd = numS) := by
        have h2 : mixI sd ((j : Int) + 30) % 2 = 0 ∨ mixI sd ((j : Int) + 30) % 2 = 1 := by omega
        rcases h2 with h | h
        · rw [h] at hkv
          obtain rfl : V.str (Str.ofString "word") = kv := by simpa using hkv
          exact ⟨_, rfl, .inl rfl⟩
        · rw [h] at hkv
          obtain rfl : V.str (Str.ofString "number") = kv := by simpa using hkv
          exact ⟨_, rfl, .inr rfl⟩
      have u3 := Same.upd_new hr (HO.tup [V.str n, V.str kd])
      refine ⟨⟨_, rfl⟩, (t1.trans u).trans u3, by simp [t2], kds ++ [kd], by simp [t3], fun kd' hk' => ?_, fun i x n' kd' hx' hn' hk' => ?_⟩
      · rcases List.mem_append.mp hk' with h | h
        · exact t4 kd' h
        · rw [List.mem_singleton.mp h]
          exact hk2
      · by_cases hi : i < ys.length
        · rw [List.getElem?_append_left hi] at hx'
          rw [List.getElem?_append_left (by omega)] at hk'
          obtain ⟨p', e1, e2⟩ := t5 i x n' kd' hx' hn' hk'
          exact ⟨p', e1, (u.trans u3) _ _ e2⟩
        · have hil := (List.getElem?_eq_some_iff.mp hx').1
          rw [List.length_append, List.length_singleton] at hil
          obtain rfl : i = ys.length := by omega
          rw [List.getElem?_append_right (Nat.le_refl _), Nat.sub_self] at hx'
          obtain rfl : V.ref r = x := by simpa using hx'
          rw [t2, hn] at hn'
          cases hn'
          rw [List.getElem?_append_right (by omega), t2, t3, Nat.sub_self] at hk'
          obtain rfl : kd = kd' := by simpa using hk'
          exact ⟨r, rfl, upd_same⟩
    · obtain ⟨t1, t2, kds, t3, hkk, t5⟩ := q
      rw [rangeV_len] at t2 t3
      have u3 := Same.upd_new hD (HO.lst ys)
      have gD : upd H2 D (HO.lst ys) D = some (.lst ys) := upd_same
      have hF : FldsK (upd H2 D (HO.lst ys)) ys zs kds := FldsK.mono u3 ⟨hz.1.trans t2.symm, t3.trans t2.symm, hz.2.1 rfl, t5⟩
      have s3 := (s1.trans t1).trans u3
      have hpn3 := (t1.trans u3) _ _ hpn
      generalize upd H2 D (HO.lst ys) = H3 at *
      refine ⟨_, _, rfl, _, 4, al36, rfl, by omega, by decide, by decide, fun H4 pw wz s4 hpw hwz => ⟨sd, rfl, ⟨by decide, by decide⟩, by decide, ?_⟩⟩
      have hnms : ∀ n ∈ zs, NmOk 12 n := fun n hn => ⟨(hz.2.2 n hn).2.1, fun c hc => ltr_lt c ((hz.2.2 n hn).2.2 c hc)⟩
      by_cases c : sd / 8 % 3 = 1
      · rw [if_pos (decide_eq_true c)]
        refine ⟨pn, rfl, _, .of (s4 _ _ hpn3), fun pa hpa => ?_⟩
        have v1 := Same.upd_new hpa (HO.lst (cutV (zs.map V.str) none (some 3)))
        have gpa : upd H4 pa (HO.lst (cutV (zs.map V.str) none (some 3))) pa = some (.lst (cutV (zs.map V.str) none (some 3))) := upd_same
        generalize upd H4 pa (HO.lst (cutV (zs.map V.str) none (some 3))) = H4a at *
        refine ⟨pw, rfl, _, .of (v1 _ _ hpw), fun pc hpc => ?_⟩
        have v2 := Same.upd_new hpc (HO.lst (cutV (wz.map V.str) none (some 1)))
        have gpc : upd H4a pc (HO.lst (cutV (wz.map V.str) none (some 1))) pc = some (.lst (cutV (wz.map V.str) none (some 1))) := upd_same
        generalize upd H4a pc (HO.lst (cutV (wz.map V.str) none (some 1))) = H4b at *
        have ew : cutV (zs.map V.str) none (some 3) ++ cutV (wz.map V.str) none (some 1) = (zs.take 3 ++ wz.take 1).map V.str := by
          rw [show cutV (zs.map V.str) none (some 3) = (zs.map V.str).take 3 from cut_to _ 3, show cutV (wz.map V.str) none (some 1) = (wz.map V.str).take 1 from cut_to _ 1, List.map_append, List.map_take, List.map_take]
        have hwl := hwz.1
        have hzl := hz.1
        have elen : (zs.take 3 ++ wz.take 1).length = min 3 m + 1 := by
          rw [List.length_append, List.length_take, List.length_take, hwl, hzl]
          omega
        have esum : (cutV (zs.map V.str) none (some 3)).length + (cutV (wz.map V.str) none (some 1)).length = (zs.take 3 ++ wz.take 1).length := by
          rw [← List.length_append, ew, List.length_map]
        refine ⟨pa, pc, _, _, rfl, rfl, v2 _ _ gpa, gpc, by rw [esum, elen]; exact small_line (by omega), fun pe hpe => ?_⟩
        rw [ew]
        have v3 := Same.upd_new hpe (HO.lst ((zs.take 3 ++ wz.take 1).map V.str))
        have gpe : upd H4b pe (HO.lst ((zs.take 3 ++ wz.take 1).map V.str)) pe = some (.lst ((zs.take 3 ++ wz.take 1).map V.str)) := upd_same
        generalize upd H4b pe (HO.lst ((zs.take 3 ++ wz.take 1).map V.str)) = H5 at *
        have hwl12 : ∀ z ∈ zs.take 3 ++ wz.take 1, NmOk 12 z := fun z hzm => by
          rcases List.mem_append.mp hzm with h | h
          · exact ⟨(hz.2.2 z (List.mem_of_mem_take h)).2.1, fun c hc => ltr_lt c ((hz.2.2 z (List.mem_of_mem_take h)).2.2 c hc)⟩
          · exact ⟨(hwz.2.2 z (List.mem_of_mem_take h)).2.1, fun c hc => al_lt c ((hwz.2.2 z (List.mem_of_mem_take h)).2.2 c hc)⟩
        have sD5 := ((s4.trans v1).trans v2).trans v3
        have s5 := s3.trans sD5
        refine ⟨⟨by decide, by decide, by decide⟩, .inl ⟨by decide +kernel, by decide +kernel⟩, ⟨by decide, by decide, by decide⟩, .inl ⟨by decide +kernel, by decide +kernel⟩, small_line (by decide), fun pb hpb => ⟨sd, rfl, ⟨by decide, by decide⟩, by decide, ?_⟩⟩
        have u6 := Same.upd_new hpb (HO.lst [V.int 0, V.int (9 * 10 ^ Int.toNat 59), V.int (0 - 9 * 10 ^ Int.toNat 59), V.int 98])
        have g6 : upd H5 pb (HO.lst [V.int 0, V.int (9 * 10 ^ Int.toNat 59), V.int (0 - 9 * 10 ^ Int.toNat 59), V.int 98]) pb = some (.lst [V.int 0, V.int (9 * 10 ^ Int.toNat 59), V.int (0 - 9 * 10 ^ Int.toNat 59), V.int 98]) := upd_same
        generalize upd H5 pb (HO.lst [V.int 0, V.int (9 * 10 ^ Int.toNat 59), V.int (0 - 9 * 10 ^ Int.toNat 59), V.int 98]) = H6 at *
        refine ixL_of (.of g6) (Int.emod_nonneg _ (by decide)) (Int.emod_lt_of_pos _ (by decide)) fun bv hbv pd hpd => ⟨upd_same, [(.inr "fields", .ref D), (.inr "words", .ref pe), (.inr "base", bv)], rfl, (by show 3 ≤ 15; decide), ?_⟩
        obtain ⟨b, rfl⟩ : ∃ b, bv = .int b := by
          rcases (by omega : sd / 24 % 4 = 0 ∨ sd / 24 % 4 = 1 ∨ sd / 24 % 4 = 2 ∨ sd / 24 % 4 = 3) with h | h | h | h <;> rw [h] at hbv <;> exact ⟨_, (Option.some.inj hbv).symm⟩
        rw [upd_upd]
        have u7 := Same.upd_new hpd (HO.dK (mergeK [] [(.inr "fields", .ref D), (.inr "words", .ref pe), (.inr "base", .int b)]))
        exact k _ pd zs kds ((s5.trans u6).trans u7) ⟨_, D, pe, b, ys, (zs.take 3 ++ wz.take 1), upd_same, rfl, rfl, rfl, (sD5.trans (u6.trans u7)) _ _ gD, FldsK.mono (sD5.trans (u6.trans u7)) hF, hkk, by omega, by omega, (u6.trans u7) _ _ gpe, by omega, by omega, hnms, hwl12⟩
      · rw [if_neg (by simpa using c)]
        have hwl := hwz.1
        have s5 := s3.trans s4
        have hwl12 : ∀ z ∈ wz, NmOk 12 z := fun z hzm => ⟨(hwz.2.2 z hzm).2.1, fun c hc => al_lt c ((hwz.2.2 z hzm).2.2 c hc)⟩
        refine ⟨⟨by decide, by decide, by decide⟩, .inl ⟨by decide +kernel, by decide +kernel⟩, ⟨by decide, by decide, by decide⟩, .inl ⟨by decide +kernel, by decide +kernel⟩, small_line (by decide), fun pb hpb => ⟨sd, rfl, ⟨by decide, by decide⟩, by decide, ?_⟩⟩
        have u6 := Same.upd_new hpb (HO.lst [V.int 0, V.int (9 * 10 ^ Int.toNat 59), V.int (0 - 9 * 10 ^ Int.toNat 59), V.int 98])
        have g6 : upd H4 pb (HO.lst [V.int 0, V.int (9 * 10 ^ Int.toNat 59), V.int (0 - 9 * 10 ^ Int.toNat 59), V.int 98]) pb = some (.lst [V.int 0, V.int (9 * 10 ^ Int.toNat 59), V.int (0 - 9 * 10 ^ Int.toNat 59), V.int 98]) := upd_same
        generalize upd H4 pb (HO.lst [V.int 0, V.int (9 * 10 ^ Int.toNat 59), V.int (0 - 9 * 10 ^ Int.toNat 59), V.int 98]) = H6 at *
        refine ixL_of (.of g6) (Int.emod_nonneg _ (by decide)) (Int.emod_lt_of_pos _ (by decide)) fun bv hbv pd hpd => ⟨upd_same, [(.inr "fields", .ref D), (.inr "words", .ref pw), (.inr "base", bv)], rfl, (by show 3 ≤ 15; decide), ?_⟩
        obtain ⟨b, rfl⟩ : ∃ b, bv = .int b := by
          rcases (by omega : sd / 24 % 4 = 0 ∨ sd / 24 % 4 = 1 ∨ sd / 24 % 4 = 2 ∨ sd / 24 % 4 = 3) with h | h | h | h <;> rw [h] at hbv <;> exact ⟨_, (Option.some.inj hbv).symm⟩
        rw [upd_upd]
        have u7 := Same.upd_new hpd (HO.dK (mergeK [] [(.inr "fields", .ref D), (.inr "words", .ref pw), (.inr "base", .int b)]))
        exact k _ pd zs kds ((s5.trans u6).trans u7) ⟨_, D, pw, b, ys, wz, upd_same, rfl, rfl, rfl, (s4.trans (u6.trans u7)) _ _ gD, FldsK.mono (s4.trans (u6.trans u7)) hF, hkk, by omega, by omega, (u6.trans u7) _ _ hpw, by omega, by omega, hnms, hwl12⟩
def sp_l_sure_value (K : PySem.W.Frag) : Sp := fun vs H Q _ => ∃ (sd : Int) (kd : Str) (d : Addr) (ns kds : List Str), vs = [.int sd, .str kd, .ref d] ∧ Wd H d ns kds ∧ (kd = wordS ∨ kd = numS) ∧ ∀ v, OfKd kd v → Q v H
theorem ok_l_sure_value (T : Txt K mg f fd) : FnOk P w K mg base CX0 1 (f 12) (fd 12) ["_law_seed", "_law_kind", "_law_world_here"] (sp_l_sure_value K) := by
  refine T.d_l_sure_value.F.ok sc_l_sure_value (fun vs H Q E h => ?_) (fun cdv A outer s H vs Q E hr h => ?_)
  · obtain ⟨sd, kd, d, ns, kds, rfl, _⟩ := h
    rfl
  · obtain ⟨sd, kd, d, ns, kds, rfl, ⟨kvs, l, w', b, xs, ws, h1, h2, h3, h4, h5, h6, h7, h8, h9, h10, h11, h12, h13, h14⟩, hk, k⟩ := h
    refine ⟨_, (pss_cons (ps_if (pt_cmpR op_eq (pvl 1) pe_str (nomark _))
     (pss_one (ps_ret (pe_ix (k_ixL rfl) (pe_dget (hu_of hr) (pvl 2) pe_str (fun _ _ => rfl)) (pe_op op_mod (pvl 0) (pe_cB (k_len rfl) T.n_len bt_len rfl (by decide) (by decide) rfl (pal rfl (pe_dget (hu_of hr) (pvl 2) pe_str (fun _ _ => rfl)) pa_nil))) (fun _ _ => rfl))))
     pss_nil)
     (pss_one (ps_ret (pe_op op_sub (pe_op op_add (pe_dget (hu_of hr) (pvl 2) pe_str (fun _ _ => rfl)) (pe_op op_mod (pvl 0) pe_int)) pe_int)))), ?_⟩
    walk_at "dc"
    by_cases hw : kd = wordS
    · rw [if_pos (decide_eq_true hw)]
      refine ⟨_, wget h1 h3, _, wget h1 h3, w', rfl, _, .inl (.of h10), by rw [List.length_map]; omega, ixL_of (.of h10) (Int.emod_nonneg _ (by rw [List.length_map]; omega)) (Int.emod_lt_of_pos _ (by rw [List.length_map]; omega)) fun v hv => k v ?_⟩
      rw [List.getElem?_map] at hv
      obtain ⟨z, hz, rfl⟩ := Option.map_eq_some_iff.mp hv
      exact .inl ⟨hw, z, rfl, h14 z (List.mem_of_getElem? hz)⟩
    · rw [if_neg (by simpa using hw)]
      exact ⟨_, wget h1 h4, by decide, b, rfl, k _ (.inr ⟨hk.resolve_left hw, _, rfl⟩)⟩
def sp_l_value (K : PySem.W.Frag) : Sp := fun vs H Q _ => ∃ (sd : Int) (kd : Str) (d : Addr) (ns kds : List Str), vs = [.int sd, .str kd, .ref d] ∧ Wd H d ns kds ∧ (kd = wordS ∨ kd = numS) ∧ ∀ v, (v = .non ∨ OfKd kd v) → Q v H
theorem ok_l_value (T : Txt K mg f fd) : FnOk P w K mg base CX0 2 (f 13) (fd 13) ["_law_seed", "_law_kind", "_law_world_here"] (sp_l_value K) := by
  refine T.d_l_value.F.ok sc_l_value (fun vs H Q E h => ?_) (fun cdv A outer s H vs Q E hr h => ?_)
  · obtain ⟨sd, kd, d, ns, kds, rfl, _⟩ := h
    rfl
  · obtain ⟨sd, kd, d, ns, kds, rfl, hW, hk, k⟩ := h
    refine ⟨_, (pss_cons (ps_if (pt_cmpR op_eq (pe_op op_mod (pvl 0) pe_int) pe_int (nomark _))
     (pss_one (ps_ret pe_non))
     pss_nil)
     (pss_one (ps_ret (pe_defL T.d_l_sure_value (ok_l_sure_value T) (hr.mono (by decide)) rfl (by decide) rfl (pal rfl (pe_op op_fdiv (pvl 0) pe_int) (pal rfl (pvl 1) (pal rfl (pvl 2) pa_nil))))))), ?_⟩
    walk_at "dc"
    walk_at "sd"
    by_cases h6 : sd % 6 = 0
    · rw [if_pos (decide_eq_true h6)]
      exact k _ (.inl rfl)
    · rw [if_neg (by simpa using h6)]
      exact ⟨⟨by decide, by decide⟩, _, kd, d, ns, kds, rfl, hW, hk, fun v hv => k v (.inr hv)⟩
def sp_l_row (K : PySem.W.Frag) : Sp := fun vs H Q _ => ∃ (sd : Int) (d : Addr) (ns kds : List Str), vs = [.int sd, .ref d] ∧ Wd H d ns kds ∧ ∀ H' a rs, Same H H' → H' a = some (.tup rs) → RowOk kds rs → Q (.ref a) H'
theorem ok_l_row (T : Txt K mg f fd) : FnOk P w K mg base CX0 3 (f 14) (fd 14) ["_law_seed", "_law_world_here"] (sp_l_row K) := by
  refine T.d_l_row.F.ok sc_l_row (fun vs H Q E h => ?_) (fun cdv A outer s H vs Q E hr h => ?_)
  · obtain ⟨sd, d, ns, kds, rfl, _⟩ := h
    rfl
  · obtain ⟨sd, d, ns, kds, rfl, hW, k⟩ := h
    obtain ⟨kvs, l, w', b, xs, ws, h1, h2, h3, h4, h5, h6, h7, h8, h9, h10, h11, h12, h13, h14⟩ := id hW
    refine ⟨_, (pss_cons (psc 2 sc_l_row.nd (pe_dget (hu_of hr) (pvc 1) pe_str (fun _ _ => rfl)))
     (pss_one (ps_ret (pe_cTy (k_tuple rfl) T.n_tuple bt_tuple rfl (by decide) (by decide) rfl (pal rfl (pe_comp ["_law_k"] ["_law_seed", "_law_world_here", "_law_fields"] rfl (show CompSc _ (defScope s_l_row) ["_law_seed", "_law_world_here", "_law_fields"] ["_law_seed", "_law_world_here", "_law_fields"] from compOk_is (by decide +kernel)) (pi_range1 rfl T.n_range (pal rfl (pe_cB (k_len rfl) T.n_len bt_len rfl (by decide) (by decide) rfl (pal rfl (pvc 2) pa_nil)) pa_nil)) (fun _ _ _ _ _ => (pgl 0 (show (["_law_k", "_law_seed", "_law_world_here", "_law_fields"] : List Str).Nodup by decide +kernel))) (fun _ _ _ _ _ => pts_nil) (fun _ _ _ _ _ => (pe_defL T.d_l_value (ok_l_value T) (hr.mono (by decide)) rfl (by decide) rfl (pal rfl (pe_defL T.d_l_mix (ok_l_mix T) (hr.mono (by decide)) rfl (by decide) rfl (pal rfl (pvc 1) (pal rfl (pe_op op_add (pvl 0) pe_int) pa_nil))) (pal rfl (pe_ix (k_ixT rfl) (pe_ix (k_ixL rfl) (pvc 3) (pvl 0) (fun _ _ => rfl)) pe_int (fun _ _ => rfl)) (pal rfl (pvc 2) pa_nil)))))) pa_nil))))), ?_⟩
    walk_at "dc"
    refine ⟨_, wget h1 h2, l, rfl, xs, .inl (.of h5), by omega, by omega, ?_⟩
    rw [Int.toNat_natCast]
    refine comp_walk walk_range (by rw [rangeV_len]; exact small_line (by omega)) (fun j ys H' => H' = H ∧ ys.length = j ∧ ∀ (i : Nat) x kd, ys[i]? = some x → kds[i]? = some kd → x = .non ∨ OfKd kd x) ⟨rfl, rfl, fun _ _ _ h => by simp at h⟩ (fun _ _ _ _ _ => trivial) (fun j ys H' q => Nat.le_of_eq q.2.1) (fun j x ys H2 hx q => ?_) (fun ys H2 q D hD => ?_)
    · obtain ⟨hj, rfl⟩ := range_item hx
      obtain ⟨rfl, t2, t3⟩ := q
      obtain ⟨p, n, kd, e1, e2, e3, e4⟩ := h6.at hj
      walk_at "dc"
      rw [Int.zero_add]
      refine ⟨⟨_, rfl⟩, ⟨_, rfl⟩, l, xs, _, _, rfl, rfl, .of h5, atI_nat e1, p, _, _, _, rfl, rfl, .of e4, atI_nat (j := 1) rfl, _, rfl, ⟨ns, kds, hW⟩, h7 kd (List.mem_of_getElem? e3), fun v hv => ⟨⟨_, rfl⟩, rfl, by simp [t2], fun i x kd' hx' hk' => ?_⟩⟩
      by_cases hi : i < ys.length
      · rw [List.getElem?_append_left hi] at hx'
        exact t3 i x kd' hx' hk'
      · have hil := (List.getElem?_eq_some_iff.mp hx').1
        rw [List.length_append, List.length_singleton] at hil
        obtain rfl : i = ys.length := by omega
        rw [List.getElem?_append_right (Nat.le_refl _), Nat.sub_self] at hx'
        obtain rfl : v = x := by simpa using hx'
        rw [t2, e3] at hk'
        cases hk'
        exact hv
    · obtain ⟨rfl, t2, t3⟩ := q
      rw [rangeV_len] at t2
      exact ⟨ys, .inl ⟨.of upd_same, fun r hr => k _ r ys ((Same.upd_new hD _).new hr _) upd_same ⟨by rw [t2, h6.2.1], t3⟩⟩⟩
def nonV : V → Bool
  | .non => false
  | _ => true
/-  what stands in the j-th place of the rows, what lacks left out -/
def colV (rs : List (List V)) (j : Nat) : List V := (rs.map fun r => r.getD j .non).filter nonV
theorem colV_snoc (rs : List (List V)) (r : List V) (j : Nat) : colV (rs ++ [r]) j = if nonV (r.getD j .non) = true then colV rs j ++ [r.getD j .non] else colV rs j := by
  unfold colV
  rw [List.map_append, List.filter_append]
  by_cases c : nonV (r.getD j .non) = true
  · rw [if_pos c, List.map_cons, List.map_nil, List.filter_cons, if_pos c]
    rfl
  · rw [if_neg c, List.map_cons, List.map_nil, List.filter_cons, if_neg c]
    simp
theorem colV_len (rs : List (List V)) (i j : Nat) : (colV (rs.take i) j).length ≤ i := by
  unfold colV
  refine Nat.le_trans (List.length_filter_le _ _) ?_
  rw [List.length_map, List.length_take]
  omega
def Rows (H : Hp) (kds : List Str) (xs : List V) (rs : List (List V)) : Prop := xs.length = rs.length ∧ ∀ (i : Nat) x r, xs[i]? = some x → rs[i]? = some r → ∃ p, x = .ref p ∧ H p = some (.tup r) ∧ RowOk kds r
theorem Rows.mono {H H' : Hp} {kds : List Str} {xs : List V} {rs : List (List V)} (s : Same H H') (h : Rows H kds xs rs) : Rows H' kds xs rs := ⟨h.1, fun i x r a b => by
  obtain ⟨p, e, g, k⟩ := h.2 i x r a b
  exact ⟨p, e, s _ _ g, k⟩⟩
theorem Rows.at {H : Hp} {kds : List Str} {xs : List V} {rs : List (List V)} (h : Rows H kds xs rs) {i : Nat} {x : V} (hx : xs[i]? = some x) : ∃ p r, x = .ref p ∧ rs[i]? = some r ∧ H p = some (.tup r) ∧ RowOk kds r := by
  have hi : i < rs.length := by rw [← h.1]; exact (List.getElem?_eq_some_iff.mp hx).1
  obtain ⟨p, e, g, k⟩ := h.2 i x _ hx (List.getElem?_eq_getElem hi)
  exact ⟨p, _, e, List.getElem?_eq_getElem hi, g, k⟩
theorem Rows.ok {H : Hp} {kds : List Str} {xs : List V} {rs : List (List V)} (h : Rows H kds xs rs) : ∀ r ∈ rs, RowOk kds r := fun r hr => by
  obtain ⟨i, hi⟩ := List.mem_iff_getElem?.mp hr
  have hx : i < xs.length := by rw [h.1]; exact (List.getElem?_eq_some_iff.mp hi).1
  obtain ⟨p, _, _, k⟩ := h.2 i _ r (List.getElem?_eq_getElem hx) hi
  exact k
theorem RowOk.at {kds : List Str} {r : List V} {j : Nat} {kd : Str} (h : RowOk kds r) (hk : kds[j]? = some kd) : r[j]? = some (r.getD j .non) ∧ (r.getD j .non = .non ∨ OfKd kd (r.getD j .non)) := by
  have hj : j < r.length := by rw [h.1]; exact (List.getElem?_eq_some_iff.mp hk).1
  have e : r[j]? = some (r.getD j .non) := by rw [List.getD_eq_getElem?_getD, List.getElem?_eq_getElem hj]; rfl
  exact ⟨e, h.2 j _ kd e hk⟩
theorem col_kd {kds : List Str} {rs : List (List V)} {j : Nat} {kd : Str} (h : ∀ r ∈ rs, RowOk kds r) (hk : kds[j]? = some kd) : ∀ v ∈ colV rs j, OfKd kd v := fun v hv => by
  unfold colV at hv
  obtain ⟨h1, h2⟩ := List.mem_filter.mp hv
  obtain ⟨r, hr, rfl⟩ := List.mem_map.mp h1
  rcases ((h r hr).at hk).2 with e | e
  · rw [e] at h2
    cases h2
  · exact e
theorem ints_of : ∀ {vs : List V}, (∀ v ∈ vs, OfKd numS v) → ∃ zs : List Int, vs = zs.map V.int
  | [], _ => ⟨[], rfl⟩
  | v :: vs, h => by
    obtain ⟨zs, e⟩ := ints_of fun u hu => h u (List.mem_cons_of_mem _ hu)
    rcases h v List.mem_cons_self with ⟨z, _⟩ | ⟨_, i, rfl⟩
    · exact absurd z (by decide)
    · exact ⟨i :: zs, by rw [e]; rfl⟩
theorem strs_of : ∀ {vs : List V}, (∀ v ∈ vs, OfKd wordS v) → ∃ zs : List Str, vs = zs.map V.str
  | [], _ => ⟨[], rfl⟩
  | v :: vs, h => by
    obtain ⟨zs, e⟩ := strs_of fun u hu => h u (List.mem_cons_of_mem _ hu)
    rcases h v List.mem_cons_self with ⟨_, z, rfl, _⟩ | ⟨z, _⟩
    · exact ⟨z :: zs, by rw [e]; rfl⟩
    · exact absurd z (by decide)
def dd (vs : List V) : List V := vs.foldl (fun acc x => if x ∈ acc then acc else acc ++ [x]) []
theorem dd_snoc (vs : List V) (x : V) : dd (vs ++ [x]) = if x ∈ dd vs then dd vs else dd vs ++ [x] := by
  unfold dd
  rw [List.foldl_append]
  rfl
theorem rev_ind {P : List V → Prop} (h0 : P []) (h1 : ∀ vs x, P vs → P (vs ++ [x])) (l : List V) : P l := by
  rw [← List.reverse_reverse l]
  induction l.reverse with
  | nil => exact h0
  | cons x vs ih =>
    rw [List.reverse_cons]
    exact h1 _ _ ih
theorem mem_dd (x : V) (vs : List V) : x ∈ dd vs ↔ x ∈ vs := by
  refine rev_ind (P := fun vs => x ∈ dd vs ↔ x ∈ vs) Iff.rfl (fun vs y ih => ?_) vs
  rw [dd_snoc]
  by_cases c : y ∈ dd vs
  · rw [if_pos c, ih, List.mem_append, List.mem_singleton]
    constructor
    · exact .inl
    · rintro (h | rfl)
      · exact h
      · exact ih.mp c
  · rw [if_neg c, List.mem_append, List.mem_append, ih]
def FigV (hd : Str) (vs : List V) (v : V) : Prop :=
  (hd = "sum" ∧ ∃ zs : List Int, vs = zs.map V.int ∧ v = .int (zs.foldl (· + ·) 0)) ∨ (hd = "greatest" ∧ ((vs = [] ∧ v = .non) ∨ (v ∈ vs ∧ ∀ u ∈ vs, gtV u v = false))) ∨ (hd = "least" ∧ ((vs = [] ∧ v = .non) ∨ (v ∈ vs ∧ ∀ u ∈ vs, ltV u v = false))) ∨ (hd = "unlike" ∧ v = .int ((dd vs).length : Int))
def HdOk (hd kd : Str) : Prop := (hd = "sum" ∧ kd = numS) ∨ hd = "greatest" ∨ hd = "least" ∨ hd = "unlike"
def Asked (H : Hp) (fv : V) (ns kds : List Str) (rs : List (List V)) (Res : V → Prop) : Prop := ∃ q, fv = .ref q ∧ ((H q = some (.tup [.str "count"]) ∧ Res = fun v => v = .int (rs.length : Int)) ∨
  ∃ (hd n : Str) (j : Nat) (kd : Str), H q = some (.tup [.str hd, .str n]) ∧ ns[j]? = some n ∧ kds[j]? = some kd ∧ HdOk hd kd ∧ Res = FigV hd (colV rs j))
theorem unl_dd {α : Type} [DecidableEq α] [BEq α] [LawfulBEq α] (f : α → V) (inj : ∀ a b, f a = f b → a = b) (zs : List α) (d : α) : ∀ k, k ≤ zs.length → unl (fun i => zs.getD i d) k = (dd ((zs.take k).map f)).length
  | 0, _ => rfl
  | k + 1, h => by
    have hk : k < zs.length := h
    have ih := unl_dd f inj zs d k (by omega)
    have e : (List.range k).map (fun i => zs.getD i d) = zs.take k := by
      clear ih h
      induction k with
      | zero => rfl
      | succ k ih2 =>
        have hk' : k < zs.length := by omega
        rw [List.range_succ, List.map_append, ih2 hk', List.take_add_one, List.getElem?_eq_getElem hk']
        simp [List.getD_eq_getElem?_getD, List.getElem?_eq_getElem hk']
    rw [List.take_add_one, List.getElem?_eq_getElem hk, List.map_append]
    show _ = (dd (_ ++ [f zs[k]])).length
    rw [dd_snoc]
    unfold unl
    rw [e, getD_at (List.getElem?_eq_getElem hk)]
    by_cases c : zs[k] ∈ zs.take k
    · rw [if_pos (by rw [List.any_eq_true]; exact ⟨_, c, by simp⟩), if_pos ((mem_dd _ _).mpr (List.mem_map.mpr ⟨_, c, rfl⟩)), ih]
    · rw [if_neg (by rw [List.any_eq_true]; rintro ⟨x, hx, z⟩; exact c (by rw [← eq_of_beq z]; exact hx)), if_neg (fun z => ?_), ih, List.length_append]
      · rfl
      · obtain ⟨a, ha, ea⟩ := List.mem_map.mp ((mem_dd _ _).mp z)
        exact c (by rw [← inj _ _ ea]; exact ha)
def sp_figure_of (K : PySem.W.Frag) : Sp := fun vs H Q _ => ∃ (l lr : Addr) (fv : V) (xs xr : List V) (ns kds : List Str) (rs : List (List V)) (Res : V → Prop), vs = [.ref l, fv, .ref lr] ∧ H l = some (.lst xs) ∧ FldsK H xs ns kds ∧ (∀ kd ∈ kds, kd = wordS ∨ kd = numS) ∧ H lr = some (.lst xr) ∧ Rows H kds xr rs ∧ rs.length ≤ 100 ∧ Asked H fv ns kds rs Res ∧
  ∀ H' v, Same H H' → Res v → Q v H'
theorem ok_figure_of (T : Txt K mg f fd) : FnOk P w K mg base CX0 4 (f 6) (fd 6) ["fields", "figure", "rows"] (sp_figure_of K) := by
  refine T.d_figure_of.F.ok sc_figure_of (fun vs H Q E h => ?_) (fun cdv A outer s H vs Q E hr h => ?_)
  · obtain ⟨l, lr, fv, xs, xr, ns, kds, rs, Res, rfl, _⟩ := h
    rfl
  · obtain ⟨l, lr, fv, xs, xr, ns, kds, rs, Res, rfl, hl, hF, hkk, hlr, hR, h100, ⟨q, rfl, hA⟩, k⟩ := h
    refine ⟨_, (pss_cons (ps_if (pt_cmpR op_eq (pe_ix (k_ixT rfl) (pvl 1) pe_int (fun _ _ => rfl)) pe_str (nomark _))
     (pss_one (ps_ret (pe_cB (k_len rfl) T.n_len bt_len rfl (by decide) (by decide) rfl (pal rfl (pvl 2) pa_nil))))
     pss_nil)
     (pss_cons (psc 3 sc_figure_of.nd (pe_defX (told_no rfl) T.d_field_at (ok_field_at T) (hr.mono (by decide)) rfl (by decide) rfl (pal rfl (pvl 0) (pal rfl (pe_ix (k_ixT rfl) (pvl 1) pe_int (fun _ _ => rfl)) pa_nil))))
     (pss_cons (ps_comp ["row"] ["fields", "figure", "rows", "place", "values"] rfl (show CompSc _ (defScope s_figure_of) ["fields", "figure", "rows", "place", "values"] ["fields", "figure", "rows", "place", "values"] from compOk_is (by decide +kernel)) sc_figure_of.nd (i := 4) rfl rfl (k_piL rfl (pvl 2)) (fun _ _ _ _ _ => (pgl 0 (show (["row", "fields", "figure", "rows", "place", "values"] : List Str).Nodup by decide +kernel))) (fun _ _ _ _ _ => (pts_one (pt_cmpR op_notN (pe_ix (k_ixT rfl) (pvl 0) (pvc 4) (fun _ _ => rfl)) pe_non (nomark _)))) (fun _ _ _ _ _ => (pe_ix (k_ixT rfl) (pvl 0) (pvc 4) (fun _ _ => rfl))))
     (pss_cons (ps_if (pt_cmpR op_eq (pe_ix (k_ixT rfl) (pvl 1) pe_int (fun _ _ => rfl)) pe_str (nomark _))
     (pss_one (ps_ret (pe_cB (k_sumI rfl rfl) T.n_sum bt_sum rfl (by decide) (by decide) rfl (pal rfl (pvl 4) pa_nil))))
     pss_nil)
     (pss_cons (ps_if (pt_cmpR op_eq (pe_ix (k_ixT rfl) (pvl 1) pe_int (fun _ _ => rfl)) pe_str (nomark _))
     (pss_one (ps_ret (pe_maxD rfl rfl rfl T.n_max rfl (pal rfl (pvl 4) pa_nil) pe_non)))
     pss_nil)
     (pss_cons (ps_if (pt_cmpR op_eq (pe_ix (k_ixT rfl) (pvl 1) pe_int (fun _ _ => rfl)) pe_str (nomark _))
     (pss_one (ps_ret (pe_minD rfl rfl rfl T.n_min rfl (pal rfl (pvl 4) pa_nil) pe_non)))
     pss_nil)
     (pss_one (ps_ret (pe_cB call_lenSet T.n_len bt_len rfl (by decide) (by decide) rfl (pal rfl (pe_cTy (k_setA rfl rfl) T.n_set bt_set rfl (by decide) (by decide) rfl (pal rfl (pvl 4) pa_nil)) pa_nil)))))))))), ?_⟩
    walk_at "dc"
    have hxl := hR.1
    rcases hA with ⟨hq, rfl⟩ | ⟨hd, n, j, kd, hq, hn, hkd, hhd, rfl⟩
    · refine ⟨q, _, _, _, rfl, rfl, .of hq, atI_nat (j := 0) rfl, rfl, ?_⟩
      rw [if_pos (by decide)]
      exact ⟨_, .inl (.of hlr), k _ _ (Same.refl _) (by rw [hxl])⟩
    · have ix0 : ∀ (G : Hp) (R : VK), Same H G → R (.str hd) G → rIxT K (.ref q) (.int 0) G R := fun G R s r => ⟨q, _, _, _, rfl, rfl, .of (s _ _ hq), atI_nat (j := 0) rfl, r⟩
      refine ix0 H _ (Same.refl _) ⟨rfl, ?_⟩
      have hc : hd ≠ "count" := by rcases hhd with ⟨rfl, _⟩ | rfl | rfl | rfl <;> decide
      rw [if_neg (by simpa using hc)]
      refine ⟨q, _, _, _, rfl, rfl, .of hq, atI_nat (j := 1) rfl, l, xs, ns, kds, n, rfl, hl, hF, .inl ⟨j, hn, fun H1 s1 => ⟨⟨_, .of (s1 _ _ hlr)⟩, ?_⟩⟩⟩
      have hR1 := hR.mono s1
      refine comp_walk (walk_list (xs := xr)) (small_line (by omega)) (fun i ys H' => Same H1 H' ∧ ys = colV (rs.take i) j) ⟨Same.refl _, rfl⟩ (fun _ _ H' _ q => q.1.seq (.of (s1 _ _ hlr))) (fun i ys H' q => by rw [q.2]; exact colV_len rs i j) (fun i x ys H2 hx q => ?_) (fun ys H2 q D hD => ?_)
      · obtain ⟨t1, rfl⟩ := q
        obtain ⟨p, r, rfl, hr, hp, hok⟩ := hR1.at hx
        obtain ⟨e1, e2⟩ := hok.at hkd
        have hp2 := t1 _ _ hp
        have es : colV (rs.take (i + 1)) j = if nonV (r.getD j .non) = true then colV (rs.take i) j ++ [r.getD j .non] else colV (rs.take i) j := by rw [take_snoc hr, colV_snoc]
        generalize r.getD j .non = v at *
        walk_at "dc"
        refine ⟨p, _, _, _, rfl, rfl, .of hp2, atI_nat e1, ?_⟩
        rcases e2 with rfl | e2
        · rw [if_neg (by decide)]
          refine ⟨⟨_, rfl⟩, t1, ?_⟩
          rw [es, if_neg (by decide)]
        · have hnv : nonV v = true ∧ v ≠ .non := by
            rcases e2 with ⟨_, z, rfl, _⟩ | ⟨_, i, rfl⟩
            · exact ⟨rfl, by simp⟩
            · exact ⟨rfl, by simp⟩
          rw [if_pos (by simpa using hnv.2)]
          refine ⟨p, _, _, _, rfl, rfl, .of hp2, atI_nat e1, ⟨_, rfl⟩, t1, ?_⟩
          rw [es, if_pos hnv.1]
      · obtain ⟨t1, rfl⟩ := q
        rw [hxl, List.take_length]
        have ck := col_kd hR.ok hkd
        have u2 := (s1.trans t1).new hD (HO.lst (colV rs j))
        have gD : upd H2 D (HO.lst (colV rs j)) D = some (.lst (colV rs j)) := upd_same
        generalize upd H2 D (HO.lst (colV rs j)) = H3 at *
        have kinds : (∃ zs : List Int, colV rs j = zs.map V.int) ∨ ∃ zs : List Str, colV rs j = zs.map V.str := by
          rcases hkk kd (List.mem_of_getElem? hkd) with rfl | rfl
          · exact .inr (strs_of ck)
          · exact .inl (ints_of ck)
        have hcl : (colV rs j).length ≤ 100 := by
          have := colV_len rs rs.length j
          rw [List.take_length] at this
          omega
        refine ix0 H3 _ u2 ⟨rfl, ?_⟩
        by_cases cs : hd = "sum"
        · rw [if_pos (by simpa using cs)]
          have hkn : kd = numS := by rcases hhd with ⟨_, e⟩ | rfl | rfl | rfl; exact e; all_goals exact absurd cs (by decide)
          subst hkn
          obtain ⟨zs, ez⟩ := ints_of ck
          exact ⟨D, zs, rfl, .of (by rw [gD, ez]), k _ _ u2 (.inl ⟨cs, zs, ez, rfl⟩)⟩
        rw [if_neg (by simpa using cs)]
        refine ix0 H3 _ u2 ⟨rfl, ?_⟩
        by_cases cg : hd = "greatest"
        · rw [if_pos (by simpa using cg)]
          exact ⟨D, _, rfl, .of gD, kinds, fun e => k _ _ u2 (.inr (.inl ⟨cg, .inl ⟨e, rfl⟩⟩)), fun v hv hb => k _ _ u2 (.inr (.inl ⟨cg, .inr ⟨hv, hb⟩⟩))⟩
        rw [if_neg (by simpa using cg)]
        refine ix0 H3 _ u2 ⟨rfl, ?_⟩
        by_cases ce : hd = "least"
        · rw [if_pos (by simpa using ce)]
          exact ⟨D, _, rfl, .of gD, kinds, fun e => k _ _ u2 (.inr (.inr (.inl ⟨ce, .inl ⟨e, rfl⟩⟩))), fun v hv hb => k _ _ u2 (.inr (.inr (.inl ⟨ce, .inr ⟨hv, hb⟩⟩)))⟩
        rw [if_neg (by simpa using ce)]
        have cu : hd = "unlike" := by
          rcases hhd with ⟨e, _⟩ | e | e | e
          · exact absurd e cs
          · exact absurd e cg
          · exact absurd e ce
          · exact e
        rcases kinds with ⟨zs, ez⟩ | ⟨zs, ez⟩
        · have hzl : zs.length ≤ 100 := by rw [ez, List.length_map] at hcl; exact hcl
          refine .inr ⟨D, zs, rfl, .inl (.of (by rw [gD, ez])), by omega, fun pd hpd => ⟨pd, _, rfl, upd_same, ?_, ?_⟩⟩
          · exact Nat.le_trans (unl_le _ _) (by omega)
          · refine k _ _ (u2.new hpd _) (.inr (.inr (.inr ⟨cu, ?_⟩)))
            rw [unl_dd V.int (fun a b e => by injection e) zs 0 zs.length (Nat.le_refl _), List.take_length, ez]
        · have hzl : zs.length ≤ 100 := by rw [ez, List.length_map] at hcl; exact hcl
          refine .inl ⟨D, zs, rfl, .inl (.of (by rw [gD, ez])), by omega, fun pd hpd => ⟨pd, _, rfl, upd_same, ?_, ?_⟩⟩
          · exact Nat.le_trans (unl_le _ _) (by omega)
          · refine k _ _ (u2.new hpd _) (.inr (.inr (.inr ⟨cu, ?_⟩)))
            rw [unl_dd V.str (fun a b e => by injection e) zs Str.empty zs.length (Nat.le_refl _), List.take_length, ez]
def BestOf (b : V → V → Bool) (l : List V) (v : V) : Prop := (l = [] ∧ v = .non) ∨ (v ∈ l ∧ ∀ u ∈ l, b u v = false)
theorem gt_trans {kd : Str} {a b c : V} (ha : OfKd kd a) (hb : OfKd kd b) (hc : OfKd kd c) (h1 : gtV a b = true) (h2 : gtV c a = true) : gtV c b = true := by
  rcases ha with ⟨rfl, x, rfl, _⟩ | ⟨rfl, x, rfl⟩
  · rcases hb with ⟨_, y, rfl, _⟩ | ⟨z, _⟩
    · rcases hc with ⟨_, z, rfl, _⟩ | ⟨z, _⟩
      · simp only [gtV, decide_eq_true_eq] at *
        exact lexT h1 h2
      · exact absurd z (by decide)
    · exact absurd z (by decide)
  · rcases hb with ⟨z, _⟩ | ⟨_, y, rfl⟩
    · exact absurd z (by decide)
    · rcases hc with ⟨z, _⟩ | ⟨_, z, rfl⟩
      · exact absurd z (by decide)
      · simp only [gtV, decide_eq_true_eq] at *
        omega
theorem gt_mix {kd : Str} {v u b : V} (hv : OfKd kd v) (hu : OfKd kd u) (hb : OfKd kd b) (h1 : gtV v u = true) (h2 : gtV b u = false) : gtV v b = true := by
  rcases hv with ⟨rfl, x, rfl, _⟩ | ⟨rfl, x, rfl⟩
  · rcases hu with ⟨_, y, rfl, _⟩ | ⟨z, _⟩
    · rcases hb with ⟨_, z, rfl, _⟩ | ⟨z, _⟩
      · simp only [gtV, decide_eq_true_eq, decide_eq_false_iff_not] at *
        exact List.lt_of_le_of_lt (List.not_lt.mp h2) h1
      · exact absurd z (by decide)
    · exact absurd z (by decide)
  · rcases hu with ⟨z, _⟩ | ⟨_, y, rfl⟩
    · exact absurd z (by decide)
    · rcases hb with ⟨z, _⟩ | ⟨_, z, rfl⟩
      · exact absurd z (by decide)
      · simp only [gtV, decide_eq_true_eq, decide_eq_false_iff_not] at *
        omega
theorem gt_irr {kd : Str} {a : V} (ha : OfKd kd a) : gtV a a = false := by
  rcases ha with ⟨rfl, x, rfl, _⟩ | ⟨rfl, x, rfl⟩
  · simp only [gtV, decide_eq_false_iff_not]
    exact List.lt_irrefl _
  · simp [gtV]
theorem gt_eq {kd : Str} {a b : V} (ha : OfKd kd a) (hb : OfKd kd b) (h1 : gtV a b = false) (h2 : gtV b a = false) : a = b := by
  rcases ha with ⟨rfl, x, rfl, _⟩ | ⟨rfl, x, rfl⟩
  · rcases hb with ⟨_, y, rfl, _⟩ | ⟨z, _⟩
    · simp only [gtV, decide_eq_false_iff_not] at *
      have e : x.cps.toList = y.cps.toList := List.le_antisymm (List.not_lt.mp h1) (List.not_lt.mp h2)
      rw [str_eq_iff.mpr e]
    · exact absurd z (by decide)
  · rcases hb with ⟨z, _⟩ | ⟨_, y, rfl⟩
    · exact absurd z (by decide)
    · simp only [gtV, decide_eq_false_iff_not] at *
      rw [show x = y by omega]
theorem best_max {kd : Str} {l : List V} {v x : V} (hl : ∀ u ∈ l, OfKd kd u) (hx : OfKd kd x) (h : v ∈ l ∧ ∀ u ∈ l, gtV u v = false) : (if gtV x v = true then x else v) ∈ l ++ [x] ∧ ∀ u ∈ l ++ [x], gtV u (if gtV x v = true then x else v) = false := by
  by_cases c : gtV x v = true
  · rw [if_pos c]
    refine ⟨by simp, fun u hu => ?_⟩
    rcases List.mem_append.mp hu with hu | hu
    · by_cases z : gtV u x = true
      · exact absurd (gt_trans hx (hl v h.1) (hl u hu) c z) (by rw [h.2 u hu]; exact Bool.false_ne_true)
      · exact Bool.eq_false_iff.mpr z
    · rw [List.mem_singleton.mp hu]
      exact gt_irr hx
  · rw [if_neg c]
    refine ⟨List.mem_append_left _ h.1, fun u hu => ?_⟩
    rcases List.mem_append.mp hu with hu | hu
    · exact h.2 u hu
    · rw [List.mem_singleton.mp hu]
      exact Bool.eq_false_iff.mpr c
theorem best_min {kd : Str} {l : List V} {v x : V} (hl : ∀ u ∈ l, OfKd kd u) (hx : OfKd kd x) (h : v ∈ l ∧ ∀ u ∈ l, ltV u v = false) : (if gtV x v = false then x else v) ∈ l ++ [x] ∧ ∀ u ∈ l ++ [x], ltV u (if gtV x v = false then x else v) = false := by
  by_cases c : gtV x v = false
  · rw [if_pos c]
    refine ⟨by simp, fun u hu => ?_⟩
    rcases List.mem_append.mp hu with hu | hu
    · by_cases z : gtV x u = true
      · exact absurd (gt_mix hx (hl u hu) (hl v h.1) z (h.2 u hu)) (by rw [c]; exact Bool.false_ne_true)
      · exact Bool.eq_false_iff.mpr z
    · rw [List.mem_singleton.mp hu]
      exact gt_irr hx
  · rw [if_neg c]
    refine ⟨List.mem_append_left _ h.1, fun u hu => ?_⟩
    rcases List.mem_append.mp hu with hu | hu
    · exact h.2 u hu
    · rw [List.mem_singleton.mp hu]
      have c1 : gtV x v = true := by simpa using c
      show gtV v x = false
      by_cases z : gtV v x = true
      · exact absurd (gt_trans hx (hl v h.1) (hl v h.1) c1 z) (by rw [gt_irr (hl v h.1)]; exact Bool.false_ne_true)
      · exact Bool.eq_false_iff.mpr z
theorem inV_kd {kd : Str} {x : V} {xs : List V} (hx : OfKd kd x) (hxs : ∀ y ∈ xs, OfKd kd y) : inV x xs = true ↔ x ∈ xs := by
  have eq : ∀ y, OfKd kd y → (eqV y x = true ↔ y = x) := fun y hy => by
    rcases hx with ⟨rfl, a, rfl, _⟩ | ⟨rfl, a, rfl⟩
    · rcases hy with ⟨_, b, rfl, _⟩ | ⟨z, _⟩
      · simp [eqV]
      · exact absurd z (by decide)
    · rcases hy with ⟨z, _⟩ | ⟨_, b, rfl⟩
      · exact absurd z (by decide)
      · simp [eqV]
  unfold inV
  rw [List.any_eq_true]
  constructor
  · rintro ⟨y, hy, e⟩
    rw [← (eq y (hxs y hy)).mp e]
    exact hy
  · exact fun h => ⟨x, h, (eq x hx).mpr rfl⟩
theorem flat_kd {kd : Str} {x : V} (hx : OfKd kd x) : flatV x = true := by
  rcases hx with ⟨_, a, rfl, _⟩ | ⟨_, a, rfl⟩ <;> rfl
theorem same_kd {kd : Str} {x y : V} (hx : OfKd kd x) (hy : OfKd kd y) : sameK x y = true := by
  rcases hx with ⟨rfl, a, rfl, _⟩ | ⟨rfl, a, rfl⟩
  · rcases hy with ⟨_, b, rfl, _⟩ | ⟨z, _⟩
    · rfl
    · exact absurd z (by decide)
  · rcases hy with ⟨z, _⟩ | ⟨_, b, rfl⟩
    · exact absurd z (by decide)
    · rfl
theorem dd_len (vs : List V) : (dd vs).length ≤ vs.length := by
  refine rev_ind (P := fun vs => (dd vs).length ≤ vs.length) (Nat.le_refl _) (fun vs x ih => ?_) vs
  rw [dd_snoc]
  split
  · rw [List.length_append]
    exact Nat.le_trans ih (Nat.le_add_right _ _)
  · rw [List.length_append, List.length_append]
    exact Nat.add_le_add_right ih 1
theorem dd_best {b : V → V → Bool} {vs : List V} {v : V} (h : BestOf b (dd vs) v) : BestOf b vs v := by
  rcases h with ⟨e, rfl⟩ | ⟨h1, h2⟩
  · refine .inl ⟨?_, rfl⟩
    cases vs with
    | nil => rfl
    | cons x r =>
      have := (mem_dd x (x :: r)).mpr List.mem_cons_self
      rw [e] at this
      cases this
  · exact .inr ⟨(mem_dd _ _).mp h1, fun u hu => h2 u ((mem_dd _ _).mpr hu)⟩
def sp_l_figure (K : PySem.W.Frag) : Sp := fun vs H Q _ => ∃ (ln lr : Addr) (fv : V) (xr : List V) (ns kds : List Str) (rs : List (List V)) (Res : V → Prop), vs = [fv, .ref ln, .ref lr] ∧ H ln = some (.lst (ns.map V.str)) ∧ ns.Nodup ∧ (∀ kd ∈ kds, kd = wordS ∨ kd = numS) ∧ H lr = some (.lst xr) ∧ Rows H kds xr rs ∧ rs.length ≤ 100 ∧ Asked H fv ns kds rs Res ∧
  ∀ H' v, Same H H' → Res v → Q v H'
theorem ok_l_figure (T : Txt K mg f fd) : FnOk P w K mg base CX0 1 (f 15) (fd 15) ["_law_figure_here", "_law_names", "_law_rows"] (sp_l_figure K) := by
  refine T.d_l_figure.F.ok sc_l_figure (fun vs H Q E h => ?_) (fun cdv A outer s H vs Q E hr h => ?_)
  · obtain ⟨ln, lr, fv, xr, ns, kds, rs, Res, rfl, _⟩ := h
    rfl
  · obtain ⟨ln, lr, fv, xr, ns, kds, rs, Res, rfl, hln, hnd, hkk, hlr, hR, h100, ⟨q, rfl, hA⟩, k⟩ := h
    refine ⟨_, (pss_cons (ps_if (pt_cmpR op_eq (pe_ix (k_ixT rfl) (pvl 0) pe_int (fun _ _ => rfl)) pe_str (nomark _))
     (pss_one (ps_ret (pe_cB (k_len rfl) T.n_len bt_len rfl (by decide) (by decide) rfl (pal rfl (pvl 2) pa_nil))))
     pss_nil)
     (pss_cons (psl 3 sc_l_figure.nd (k_bmL rfl PySem.F.plainAttrs_list PySem.F.slot_list_index PySem.F.type_list_index (k_indexS rfl) rfl rfl rfl rfl (pvl 1) (pal rfl (pe_ix (k_ixT rfl) (pvl 0) pe_int (fun _ _ => rfl)) pa_nil)))
     (pss_cons (psl 4 sc_l_figure.nd pe_int)
     (pss_cons (psl 5 sc_l_figure.nd (pe_lst pa_nil))
     (pss_cons (ps_for PassesOwn.never rfl (k_piL rfl (pvl 2)) (pgl 6 sc_l_figure.nd)
     (pss_one (ps_if (pt_cmpR op_notN (pe_ix (k_ixT rfl) (pvl 6) (pvl 3) (fun _ _ => rfl)) pe_non (nomark _))
     (pss_cons (ps_if (pt_cmpR op_eq (pe_ix (k_ixT rfl) (pvl 0) pe_int (fun _ _ => rfl)) pe_str (nomark _))
     (pss_one (psl 4 sc_l_figure.nd (pe_op op_add (pvl 4) (pe_ix (k_ixT rfl) (pvl 6) (pvl 3) (fun _ _ => rfl)))))
     pss_nil)
     (pss_one (ps_if (pt_cmpR (k_notIn rfl) (pe_ix (k_ixT rfl) (pvl 6) (pvl 3) (fun _ _ => rfl)) (pvl 5) rfl)
     (pss_one (ps_expr (k_bmL rfl PySem.F.plainAttrs_list PySem.F.slot_list_append PySem.F.type_list_append mt_append rfl rfl rfl rfl (pvl 5) (pal rfl (pe_ix (k_ixT rfl) (pvl 6) (pvl 3) (fun _ _ => rfl)) pa_nil))))
     pss_nil)))
     pss_nil)))
     (pss_cons (ps_if (pt_cmpR op_eq (pe_ix (k_ixT rfl) (pvl 0) pe_int (fun _ _ => rfl)) pe_str (nomark _))
     (pss_one (ps_ret (pvl 4)))
     pss_nil)
     (pss_cons (ps_if (pt_cmpR op_eq (pe_ix (k_ixT rfl) (pvl 0) pe_int (fun _ _ => rfl)) pe_str (nomark _))
     (pss_one (ps_ret (pe_cB (k_len rfl) T.n_len bt_len rfl (by decide) (by decide) rfl (pal rfl (pvl 5) pa_nil))))
     pss_nil)
     (pss_cons (psl 7 sc_l_figure.nd pe_non)
     (pss_cons (ps_for PassesOwn.never rfl (k_piL rfl (pvl 5)) (pgl 8 sc_l_figure.nd)
     (pss_one (ps_if (PW.pt (pw_or (pt_cmpR op_isN (pvl 7) pe_non (nomark _)) (pw_or1 (pt_cmpR op_eq (pe_cmpR op_gtA (pvl 8) (pvl 7) (nomark _)) (pe_cmpR op_eq (pe_ix (k_ixT rfl) (pvl 0) pe_int (fun _ _ => rfl)) pe_str (nomark _)) (nomark _)))))
     (pss_one (psl 7 sc_l_figure.nd (pvl 8)))
     pss_nil)))
     (pss_one (ps_ret (pvl 7)))))))))))), ?_⟩
    generalize hB1 : tSeq (tIfS _ (tRet (tVar 4)) _) _ = B1
    walk_at "dc"
    have hxl := hR.1
    rcases hA with ⟨hq, rfl⟩ | ⟨hd, n, j, kd, hq, hn, hkd, hhd, rfl⟩
    · refine ⟨q, _, _, _, rfl, rfl, .of hq, atI_nat (j := 0) rfl, rfl, ?_⟩
      rw [if_pos (by decide)]
      exact ⟨_, .inl (.of hlr), k _ _ (Same.refl _) (by rw [hxl])⟩
    · have ix0 : ∀ (G : Hp) (R : VK), Same H G → R (.str hd) G → rIxT K (.ref q) (.int 0) G R := fun G R s r => ⟨q, _, _, _, rfl, rfl, .of (s _ _ hq), atI_nat (j := 0) rfl, r⟩
      refine ix0 H _ (Same.refl _) ⟨rfl, ?_⟩
      have hc : hd ≠ "count" := by rcases hhd with ⟨rfl, _⟩ | rfl | rfl | rfl <;> decide
      rw [if_neg (by simpa using hc)]
      refine ⟨.inl ⟨rfl, _, .of hln⟩, q, _, _, _, rfl, rfl, .of hq, atI_nat (j := 1) rfl, ns, n, rfl, .of hln, j, hn, fun m hm z => absurd (nodup_ix hnd z hn) (by omega), Nat.zero_le _, fun p hp => ?_⟩
      have u1 := Same.upd_new hp (HO.lst [])
      have g1 : upd H p (HO.lst []) p = some (.lst []) := upd_same
      generalize upd H p (HO.lst []) = H1 at *
      have ck : ∀ i, ∀ v ∈ colV (rs.take i) j, OfKd kd v := fun i => col_kd (fun r hr => hR.ok r (List.mem_of_mem_take hr)) hkd
      refine for_in ?_
      walk_at "dc"
      refine ⟨⟨_, .of (u1 _ _ hlr)⟩, ?_⟩
      generalize hD1 : (Ends.mk _ _ _ _ : Ends) = D1
      refine ForW.of (walk_list (xs := xr)) (fun i σ H' => (∃ (w0 : Int) (v6 : Option V), σ = [some (V.ref q), some (V.ref ln), some (V.ref lr), some (V.int (j : Int)), some (V.int w0), some (V.ref p), v6, none, none] ∧ (hd = "sum" → ∃ zs : List Int, colV (rs.take i) j = zs.map V.int ∧ w0 = zs.foldl (· + ·) 0)) ∧ Same H H' ∧ H' p = some (.lst (dd (colV (rs.take i) j)))) ⟨⟨0, none, rfl, fun _ => ⟨[], rfl, rfl⟩⟩, u1, g1⟩ (fun _ _ H' _ z => z.2.1.seq (.of hlr)) ?_ ?_
      · rintro i x σ H2 hx ⟨⟨w0, v6, rfl, hw⟩, s2, g2⟩
        obtain ⟨pr, r, rfl, hr, hpr, hok⟩ := hR.at hx
        obtain ⟨e1, e2⟩ := hok.at hkd
        have hp2 := s2 _ _ hpr
        have es : colV (rs.take (i + 1)) j = if nonV (r.getD j .non) = true then colV (rs.take i) j ++ [r.getD j .non] else colV (rs.take i) j := by rw [take_snoc hr, colV_snoc]
        generalize r.getD j .non = v at *
        have ixv : ∀ (R : VK), R v H2 → rIxT K (.ref pr) (.int (j : Int)) H2 R := fun R r => ⟨pr, _, _, _, rfl, rfl, .of hp2, atI_nat e1, r⟩
        subst hD1
        walk_at "dc"
        refine ixv _ ?_
        rcases e2 with rfl | e2
        · rw [if_neg (by decide)]
          have es' : colV (rs.take (i + 1)) j = colV (rs.take i) j := by rw [es, if_neg (by decide)]
          rw [es']
          exact ⟨hw, s2, g2⟩
        · have hnv : nonV v = true ∧ v ≠ .non := by
            rcases e2 with ⟨_, z, rfl, _⟩ | ⟨_, i, rfl⟩
            · exact ⟨rfl, by simp⟩
            · exact ⟨rfl, by simp⟩
          have es' : colV (rs.take (i + 1)) j = colV (rs.take i) j ++ [v] := by rw [es, if_pos hnv.1]
          rw [if_pos (by simpa using hnv.2), es', dd_snoc]
          have hil := (List.getElem?_eq_some_iff.mp hr).1
          have cl := Nat.le_trans (dd_len (colV (rs.take i) j)) (colV_len rs i j)
          have ckC := ck i
          clear es es'
          generalize colV (rs.take i) j = C at *
          have ckd : ∀ y ∈ dd C, OfKd kd y := fun y hy => ckC y ((mem_dd _ _).mp hy)
          have tail : ∀ w1 : Int, (hd = "sum" → ∃ zs : List Int, C ++ [v] = zs.map V.int ∧ w1 = zs.foldl (· + ·) 0) → rIxT K (V.ref pr) (V.int (j : Int)) H2 fun x H1 => rIn K true x (V.ref p) H1 fun x H' => ∃ k, x = V.bl k ∧ if k = true then tyV K "list" (V.ref p) H' ∧ rIxT K (V.ref pr) (V.int (j : Int)) H' fun x H1 => rAppend (V.ref p) [x] H1 fun x H1 =>
              (hd = Str.ofString "sum" → ∃ zs, C ++ [v] = List.map V.int zs ∧ w1 = List.foldl (fun x1 x2 => x1 + x2) 0 zs) ∧ Same H H1 ∧ H1 p = some (HO.lst (if v ∈ dd C then dd C else dd C ++ [v])) else (hd = Str.ofString "sum" → ∃ zs, C ++ [v] = List.map V.int zs ∧ w1 = List.foldl (fun x1 x2 => x1 + x2) 0 zs) ∧ Same H H' ∧ H' p = some (HO.lst (if v ∈ dd C then dd C else dd C ++ [v])) := by
            intro w1 hw1
            refine ixv _ ⟨p, _, rfl, .inl (.of g2), flat_kd e2, List.all_eq_true.mpr fun y hy => flat_kd (ckd y hy), _, rfl, ?_⟩
            by_cases cm : v ∈ dd C
            · have hi : inV v (dd C) = true := (inV_kd e2 ckd).mpr cm
              rw [if_neg (by rw [hi]; decide)]
              exact ⟨hw1, s2, by rw [if_pos cm]; exact g2⟩
            · have hi : inV v (dd C) = false := Bool.eq_false_iff.mpr fun z => cm ((inV_kd e2 ckd).mp z)
              rw [if_pos (by rw [hi]; decide)]
              exact ⟨.inl ⟨rfl, _, .of g2⟩, ixv _ ⟨p, _, _, rfl, rfl, g2, by rw [sizeLine_eq]; omega, hw1, s2.set hp _, by rw [upd_same, if_neg cm]⟩⟩
          refine ix0 H2 _ s2 ⟨rfl, ?_⟩
          by_cases cs : hd = "sum"
          · rw [if_pos (by simpa using cs)]
            have hkn : kd = numS := by rcases hhd with ⟨_, e⟩ | rfl | rfl | rfl; exact e; all_goals exact absurd cs (by decide)
            obtain ⟨zs, ez, ew⟩ := hw cs
            rcases e2 with ⟨z, _⟩ | ⟨_, z, rfl⟩
            · exact absurd (hkn.symm.trans z) (by decide)
            · exact ixv _ ⟨z, rfl, tail (w0 + z) fun _ => ⟨zs ++ [z], by rw [ez, List.map_append]; rfl, by rw [List.foldl_append, ← ew]; rfl⟩⟩
          · rw [if_neg (by simpa using cs)]
            exact tail w0 fun z => absurd z cs
      · rintro σ H2 ⟨⟨w0, v6, rfl, hw⟩, s2, g2⟩
        rw [hxl, List.take_length] at hw g2
        have ck2 := ck rs.length
        rw [List.take_length] at ck2
        subst hD1
        subst hB1
        walk_at "dc"
        have ckd : ∀ y ∈ dd (colV rs j), OfKd kd y := fun y hy => ck2 y ((mem_dd _ _).mp hy)
        refine ix0 H2 _ s2 ⟨rfl, ?_⟩
        by_cases cs : hd = "sum"
        · rw [if_pos (by simpa using cs)]
          obtain ⟨zs, ez, ew⟩ := hw cs
          exact k _ _ s2 (.inl ⟨cs, zs, ez, by rw [ew]⟩)
        rw [if_neg (by simpa using cs)]
        refine ix0 H2 _ s2 ⟨rfl, ?_⟩
        by_cases cu : hd = "unlike"
        · rw [if_pos (by simpa using cu)]
          exact ⟨_, .inl (.of g2), k _ _ s2 (.inr (.inr (.inr ⟨cu, rfl⟩)))⟩
        rw [if_neg (by simpa using cu)]
        refine for_in ?_
        walk_at "dc"
        refine ⟨⟨_, .of g2⟩, ?_⟩
        generalize hD2 : (Ends.mk _ _ _ _ : Ends) = D2
        have fin : ∀ (G : Hp) (v : V), Same H G → BestOf (if hd = "greatest" then gtV else ltV) (dd (colV rs j)) v → Q v G := fun G v sG hb => by
          refine k G v sG ?_
          by_cases cg : hd = "greatest"
          · rw [if_pos cg] at hb
            exact .inr (.inl ⟨cg, dd_best hb⟩)
          · rw [if_neg cg] at hb
            refine .inr (.inr (.inl ⟨?_, dd_best hb⟩))
            rcases hhd with ⟨e, _⟩ | e | e | e
            · exact absurd e cs
            · exact absurd e cg
            · exact e
            · exact absurd e cu
        generalize dd (colV rs j) = C at *
        refine ForW.of (walk_list (xs := C)) (fun i σ H' => (∃ (v7 : V) (v8 : Option V), σ = [some (V.ref q), some (V.ref ln), some (V.ref lr), some (V.int (j : Int)), some (V.int w0), some (V.ref p), v6, some v7, v8] ∧ BestOf (if hd = "greatest" then gtV else ltV) (C.take i) v7) ∧ Same H2 H') ⟨⟨.non, none, rfl, .inl ⟨rfl, rfl⟩⟩, Same.refl _⟩ (fun _ _ H' _ z => z.2.seq (.of g2)) ?_ ?_
        · rintro i x σ H3 hx ⟨⟨v7, v8, rfl, hb⟩, s3⟩
          have hxk := ckd x (List.mem_of_getElem? hx)
          have hxn : x ≠ .non := by rcases hxk with ⟨_, z, rfl, _⟩ | ⟨_, z, rfl⟩ <;> simp
          have ctk : ∀ u ∈ C.take i, OfKd kd u := fun u hu => ckd u (List.mem_of_mem_take hu)
          have et : C.take (i + 1) = C.take i ++ [x] := take_snoc hx
          subst hD2
          walk_at "dc"
          rw [et]
          generalize C.take i = L at *
          rcases hb with ⟨hL, rfl⟩ | ⟨h1, h2⟩
          · rw [if_pos (by decide)]
            refine ⟨.inr ⟨by simp, fun u hu => ?_⟩, s3⟩
            rw [hL, List.nil_append] at hu
            rw [List.mem_singleton.mp hu]
            by_cases cg : hd = "greatest"
            · rw [if_pos cg]
              exact gt_irr hxk
            · rw [if_neg cg]
              exact gt_irr hxk
          · have hvk := ctk v7 h1
            have hvn : v7 ≠ .non := by rcases hvk with ⟨_, z, rfl, _⟩ | ⟨_, z, rfl⟩ <;> simp
            rw [if_neg (by simpa using hvn)]
            refine ⟨same_kd hxk hvk, ix0 H3 _ (s2.trans s3) ⟨rfl, ?_⟩⟩
            by_cases cg : hd = "greatest"
            · rw [if_pos cg] at h2
              have bm := best_max ctk hxk ⟨h1, h2⟩
              have ed : decide (V.str hd = V.str (Str.ofString "greatest")) = true := decide_eq_true (by rw [cg])
              rw [ed]
              by_cases c : gtV x v7 = true
              · rw [if_pos (decide_eq_true c), if_pos cg]
                rw [if_pos c] at bm
                exact ⟨.inr bm, s3⟩
              · rw [if_neg (by simpa using c), if_pos cg]
                rw [if_neg c] at bm
                exact ⟨.inr bm, s3⟩
            · rw [if_neg cg] at h2
              have bm := best_min ctk hxk ⟨h1, h2⟩
              have ed : decide (V.str hd = V.str (Str.ofString "greatest")) = false := decide_eq_false (by intro z; injection z with z; exact cg z)
              rw [ed]
              by_cases c : gtV x v7 = false
              · rw [if_pos (decide_eq_true c), if_neg cg]
                rw [if_pos c] at bm
                exact ⟨.inr bm, s3⟩
              · rw [if_neg (by simpa using c), if_neg cg]
                rw [if_neg c] at bm
                exact ⟨.inr bm, s3⟩
        · rintro σ H3 ⟨⟨v7, v8, rfl, hb⟩, s3⟩
          rw [List.take_length] at hb
          subst hD2
          walk_at "dc"
          exact fin _ _ (s2.trans s3) hb
def sp_l_alike (K : PySem.W.Frag) : Sp := fun vs H Q _ => ∃ v, vs = [v, v] ∧ (v = .non ∨ (∃ z, v = .str z ∧ z.length ≤ 1000) ∨ ∃ i, v = .int i) ∧ Q (.bl true) H
theorem ok_l_alike (T : Txt K mg f fd) : FnOk P w K mg base CX0 1 (f 16) (fd 16) ["_law_told", "_law_due"] (sp_l_alike K) := by
  refine T.d_l_alike.F.ok sc_l_alike (fun vs H Q E h => ?_) (fun cdv A outer s H vs Q E hr h => ?_)
  · obtain ⟨v, rfl, _⟩ := h
    rfl
  · obtain ⟨v, rfl, hv, k⟩ := h
    refine ⟨_, (pss_cons (ps_if (pt_cmpR op_isN (pvl 1) pe_non (nomark _))
     (pss_one (ps_ret (pe_cmpR op_isN (pvl 0) pe_non (nomark _))))
     pss_nil)
     (pss_cons (ps_if (PW.pt (pw_or (pt_val (pe_cB (k_isP rfl) T.n_isinstance bt_isinstance rfl (by decide) (by decide) rfl (pal rfl (pvl 1) (pal rfl (pty T.n_str bt_str) pa_nil)))) (pw_or1 (pt_val (pe_cB (k_isP rfl) T.n_isinstance bt_isinstance rfl (by decide) (by decide) rfl (pal rfl (pvl 0) (pal rfl (pty T.n_str bt_str) pa_nil)))))))
     (pss_one (ps_ret (pe_and (pe_cB (k_isP rfl) T.n_isinstance bt_isinstance rfl (by decide) (by decide) rfl (pal rfl (pvl 1) (pal rfl (pty T.n_str bt_str) pa_nil))) (pe_and (pe_cB (k_isP rfl) T.n_isinstance bt_isinstance rfl (by decide) (by decide) rfl (pal rfl (pvl 0) (pal rfl (pty T.n_str bt_str) pa_nil))) (pe_one (pe_cmpR op_eq (pvl 0) (pvl 1) (nomark _)))))))
     pss_nil)
     (pss_one (ps_ret (pe_and (pe_cB (k_isP rfl) T.n_isinstance bt_isinstance rfl (by decide) (by decide) rfl (pal rfl (pvl 0) (pal rfl (pty T.n_int bt_int) pa_nil))) (pe_and (pe_not (pe_cB (k_isP rfl) T.n_isinstance bt_isinstance rfl (by decide) (by decide) rfl (pal rfl (pvl 0) (pal rfl (pty T.n_bool bt_bool) pa_nil)))) (pe_one (pe_cmpR op_eq (pvl 0) (pvl 1) (nomark _))))))))), ?_⟩
    walk_at "dc"
    rcases hv with rfl | ⟨z, rfl, hz⟩ | ⟨i, rfl⟩
    · rw [if_pos (by decide)]
      exact k
    · have pl : Pl K H (V.str z) "str" := .of_str (small_line (by omega))
      rw [if_neg (by simp)]
      refine ⟨_, pl, by decide, ?_⟩
      rw [if_pos (by decide)]
      refine ⟨_, pl, by decide, ?_⟩
      rw [if_pos (by decide)]
      refine ⟨_, pl, by decide, ?_⟩
      rw [if_pos (by decide)]
      exact ⟨rfl, k⟩
    · have pl : Pl K H (V.int i) "int" := .of_int
      rw [if_neg (by simp)]
      refine ⟨_, pl, by decide, ?_⟩
      rw [if_neg (by decide)]
      refine ⟨_, pl, by decide, ?_⟩
      rw [if_neg (by decide)]
      refine ⟨_, pl, by decide, ?_⟩
      rw [if_pos (by decide)]
      refine ⟨_, pl, by decide, ?_⟩
      rw [if_pos (by decide)]
      exact ⟨rfl, k⟩
theorem map_int_inj : ∀ {a b : List Int}, a.map V.int = b.map V.int → a = b
  | [], [], _ => rfl
  | [], _ :: _, h => by simp at h
  | _ :: _, [], h => by simp at h
  | x :: a, y :: b, h => by
    simp only [List.map_cons, List.cons.injEq, V.int.injEq] at h
    rw [h.1, map_int_inj h.2]
theorem best_one {kd : Str} {b : V → V → Bool} (hb : b = gtV ∨ b = ltV) {vs : List V} (hk : ∀ v ∈ vs, OfKd kd v) {v w : V} (h1 : (vs = [] ∧ v = .non) ∨ (v ∈ vs ∧ ∀ u ∈ vs, b u v = false)) (h2 : (vs = [] ∧ w = .non) ∨ (w ∈ vs ∧ ∀ u ∈ vs, b u w = false)) : v = w := by
  rcases h1 with ⟨e, rfl⟩ | ⟨m1, f1⟩
  · rcases h2 with ⟨_, rfl⟩ | ⟨m2, _⟩
    · rfl
    · rw [e] at m2
      cases m2
  · rcases h2 with ⟨e, _⟩ | ⟨m2, f2⟩
    · rw [e] at m1
      cases m1
    · rcases hb with rfl | rfl
      · exact gt_eq (hk v m1) (hk w m2) (f2 v m1) (f1 w m2)
      · exact gt_eq (hk v m1) (hk w m2) (f1 w m2) (f2 v m1)
theorem fig_one {kd hd : Str} {vs : List V} (hk : ∀ v ∈ vs, OfKd kd v) {v w : V} (h1 : FigV hd vs v) (h2 : FigV hd vs w) : v = w := by
  rcases h1 with ⟨rfl, zs, e, rfl⟩ | ⟨rfl, h1⟩ | ⟨rfl, h1⟩ | ⟨rfl, rfl⟩
  · rcases h2 with ⟨_, zs', e', rfl⟩ | ⟨z, _⟩ | ⟨z, _⟩ | ⟨z, _⟩
    · rw [map_int_inj (e.symm.trans e')]
    all_goals exact absurd z (by decide)
  · rcases h2 with ⟨z, _⟩ | ⟨_, h2⟩ | ⟨z, _⟩ | ⟨z, _⟩
    · exact absurd z (by decide)
    · exact best_one (.inl rfl) hk h1 h2
    all_goals exact absurd z (by decide)
  · rcases h2 with ⟨z, _⟩ | ⟨z, _⟩ | ⟨_, h2⟩ | ⟨z, _⟩
    · exact absurd z (by decide)
    · exact absurd z (by decide)
    · exact best_one (.inr rfl) hk h1 h2
    · exact absurd z (by decide)
  · rcases h2 with ⟨z, _⟩ | ⟨z, _⟩ | ⟨z, _⟩ | ⟨_, rfl⟩
    · exact absurd z (by decide)
    · exact absurd z (by decide)
    · exact absurd z (by decide)
    · rfl
theorem fig_kind {kd hd : Str} {vs : List V} (hk : ∀ v ∈ vs, OfKd kd v) {v : V} (h1 : FigV hd vs v) : v = .non ∨ (∃ z, v = .str z ∧ z.length ≤ 1000) ∨ ∃ i, v = .int i := by
  have of : OfKd kd v → v = .non ∨ (∃ z, v = .str z ∧ z.length ≤ 1000) ∨ ∃ i, v = .int i := fun h => by
    rcases h with ⟨_, z, rfl, hz⟩ | ⟨_, i, rfl⟩
    · exact .inr (.inl ⟨z, rfl, by have := hz.1; omega⟩)
    · exact .inr (.inr ⟨i, rfl⟩)
  rcases h1 with ⟨rfl, zs, e, rfl⟩ | ⟨rfl, ⟨_, rfl⟩ | ⟨m, _⟩⟩ | ⟨rfl, ⟨_, rfl⟩ | ⟨m, _⟩⟩ | ⟨rfl, rfl⟩
  · exact .inr (.inr ⟨_, rfl⟩)
  · exact .inl rfl
  · exact of (hk v m)
  · exact .inl rfl
  · exact of (hk v m)
  · exact .inr (.inr ⟨_, rfl⟩)
def RowAt (H : Hp) (kds : List Str) (x : V) : Prop := ∃ p r, x = .ref p ∧ H p = some (.tup r) ∧ RowOk kds r
theorem RowAt.mono {H H' : Hp} {kds : List Str} {x : V} (s : Same H H') (h : RowAt H kds x) : RowAt H' kds x := by
  obtain ⟨p, r, e, g, k⟩ := h
  exact ⟨p, r, e, s _ _ g, k⟩
theorem rows_ex {H : Hp} {kds : List Str} : ∀ (xs : List V), (∀ x ∈ xs, RowAt H kds x) → ∃ rs, Rows H kds xs rs
  | [], _ => ⟨[], rfl, fun i x r h => by simp at h⟩
  | x :: xs, h => by
    obtain ⟨rs, h1, h2⟩ := rows_ex xs fun y hy => h y (List.mem_cons_of_mem _ hy)
    obtain ⟨p, r, rfl, hp, hk⟩ := h x List.mem_cons_self
    refine ⟨r :: rs, by simp [h1], fun i y B hy hB => ?_⟩
    cases i with
    | zero =>
      obtain rfl : V.ref p = y := by simpa using hy
      obtain rfl : r = B := by simpa using hB
      exact ⟨p, rfl, hp, hk⟩
    | succ i => exact h2 i y B (by simpa using hy) (by simpa using hB)
theorem vals_data {K : PySem.W.Frag} {H : Hp} : ∀ (vs : List V), (∀ v ∈ vs, v = .non ∨ ∃ kd, OfKd kd v) → ∃ ds, Reps K H ds vs ∧ PyData.canLayAll0 ds = true ∧ PyData.depthAll ds = 0 ∧ PyData.eqvAll ds ds = true
  | [], _ => ⟨[], by simp [Reps], by simp [PyData.canLayAll0], by simp [PyData.depthAll], by simp [PyData.eqvAll]⟩
  | v :: vs, h => by
    obtain ⟨ds, h1, h2, h3, h4⟩ := vals_data (K := K) (H := H) vs fun u hu => h u (List.mem_cons_of_mem _ hu)
    rcases h v List.mem_cons_self with rfl | ⟨kd, ⟨_, z, rfl, hz⟩ | ⟨_, i, rfl⟩⟩
    · exact ⟨.none :: ds, by simp only [Reps]; exact ⟨_, _, rfl, by simp [Rep], h1⟩, by simp [PyData.canLayAll0, PyData.canLay0, h2], by simp [PyData.depthAll, PyData.depth, h3], by simp [PyData.eqvAll, PyData.eqv, h4]⟩
    · exact ⟨.str z :: ds, by simp only [Reps]; exact ⟨_, _, rfl, by simp [Rep], h1⟩, by simp [PyData.canLayAll0, PyData.canLay0, h2, strOk_of hz.2], by simp [PyData.depthAll, PyData.depth, h3], by simp [PyData.eqvAll, PyData.eqv, h4]⟩
    · exact ⟨.int i :: ds, by simp only [Reps]; exact ⟨_, _, rfl, by simp [Rep], h1⟩, by simp [PyData.canLayAll0, PyData.canLay0, h2], by simp [PyData.depthAll, PyData.depth, h3], by simp [PyData.eqvAll, PyData.eqv, h4]⟩
theorem rows_data {K : PySem.W.Frag} {H : Hp} {kds : List Str} : ∀ (xs : List V), (∀ x ∈ xs, RowAt H kds x) → ∃ ds, Reps K H ds xs ∧ PyData.canLayAll0 ds = true ∧ PyData.depthAll ds ≤ 1 ∧ PyData.eqvAll ds ds = true
  | [], _ => ⟨[], by simp [Reps], by simp [PyData.canLayAll0], by simp [PyData.depthAll], by simp [PyData.eqvAll]⟩
  | x :: xs, h => by
    obtain ⟨ds, h1, h2, h3, h4⟩ := rows_data (K := K) (H := H) xs (fun u hu => h u (List.mem_cons_of_mem _ hu))
    obtain ⟨p, r, rfl, hp, hk⟩ := h x List.mem_cons_self
    obtain ⟨es, r1, r2, r3, r4⟩ := vals_data (K := K) (H := H) r fun v hv => by
      obtain ⟨i, hi⟩ := List.mem_iff_getElem?.mp hv
      have hil : i < kds.length := by rw [← hk.1]; exact (List.getElem?_eq_some_iff.mp hi).1
      rcases hk.2 i v _ hi (List.getElem?_eq_getElem hil) with e | e
      · exact .inl e
      · exact .inr ⟨_, e⟩
    refine ⟨.tuple es :: ds, ?_, ?_, ?_, ?_⟩
    · simp only [Reps]
      exact ⟨_, _, rfl, by simp only [Rep]; exact ⟨p, _, rfl, .of hp, r1⟩, h1⟩
    · simp [PyData.canLayAll0, PyData.canLay0, h2, r2]
    · simp only [PyData.depthAll, PyData.depth, r3]
      exact Nat.max_le.mpr ⟨by decide, h3⟩
    · simp [PyData.eqvAll, PyData.eqv, h4, r4]
theorem eqR_of {K : PySem.W.Frag} {H : Hp} {kds : List Str} {a b : Addr} {xs : List V} {neg : Bool} {Q : VK} (h1 : H a = some (.lst xs)) (h2 : H b = some (.lst xs)) (hx : ∀ x ∈ xs, RowAt H kds x) (q : Q (.bl (!neg)) H) : rEqD K neg (.ref a) (.ref b) H Q := by
  obtain ⟨ds, r1, r2, r3, r4⟩ := rows_data (K := K) (H := H) xs hx
  have sh : SeqAt.shaped (.list ds) = true := by
    unfold SeqAt.shaped
    simp only [PyData.canLay0, PyData.depth, r2, Bool.true_and]
    exact decide_eq_true (by omega)
  refine ⟨.list ds, .list ds, ?_, ?_, sh, sh, ?_⟩
  · simp only [Rep]; exact ⟨a, xs, rfl, .of h1, r1⟩
  · simp only [Rep]; exact ⟨b, xs, rfl, .of h2, r1⟩
  · have e : PyData.eqv (.list ds) (.list ds) = true := by simp only [PyData.eqv]; exact r4
    rw [e]
    cases neg <;> exact q
theorem row_snoc {H : Hp} {kds : List Str} {p : Addr} {xs : List V} {v : V} (hp : H p = some (.lst xs)) (h : ∀ x ∈ xs, RowAt H kds x) (hv : RowAt H kds v) {ys : List V} : ∀ x ∈ xs ++ [v], RowAt (upd H p (.lst ys)) kds x := fun x hx => by
  have put : ∀ y, RowAt H kds y → RowAt (upd H p (.lst ys)) kds y := fun y ⟨r, rr, e, g, k⟩ => ⟨r, rr, e, by rw [upd_ne (fun z => by rw [z, hp] at g; cases g)]; exact g, k⟩
  rcases List.mem_append.mp hx with hx | hx
  · exact put x (h x hx)
  · rw [List.mem_singleton.mp hx]
    exact put v hv
def FigOk (H : Hp) (n kd : Str) (v : V) : Prop := ∃ q, v = .ref q ∧ (H q = some (.tup [.str "count"]) ∨ ∃ hd, H q = some (.tup [.str hd, .str n]) ∧ HdOk hd kd)
theorem FigOk.mono {H H' : Hp} {n kd : Str} {v : V} (s : Same H H') (h : FigOk H n kd v) : FigOk H' n kd v := by
  obtain ⟨q, e, h | ⟨hd, h, k⟩⟩ := h
  · exact ⟨q, e, .inl (s _ _ h)⟩
  · exact ⟨q, e, .inr ⟨hd, s _ _ h, k⟩⟩
theorem FigOk.put {H : Hp} {n kd : Str} {v : V} {p : Addr} {xs ys : List V} (h : FigOk H n kd v) (hp : H p = some (.lst xs)) : FigOk (upd H p (.lst ys)) n kd v := by
  obtain ⟨q, e, h | ⟨hd, h, k⟩⟩ := h
  · exact ⟨q, e, .inl (by rw [upd_ne (fun z => by rw [z, hp] at h; cases h)]; exact h)⟩
  · exact ⟨q, e, .inr ⟨hd, by rw [upd_ne (fun z => by rw [z, hp] at h; cases h)]; exact h, k⟩⟩
def sp_law (K : PySem.W.Frag) : Sp := fun vs H Q _ => ∃ (a : Addr) (ns : List Int), vs = [.ref a] ∧ SqL K H a (ns.map V.int) ∧ ns.length ≤ 63 ∧ ∀ H', Q (.bl true) H'
theorem ok_law (T : Txt K mg f fd) : FnOk P w K mg base CX0 5 (f 17) (fd 17) ["_law_script"] (sp_law K) := by
  refine T.d_law.F.ok sc_law (fun vs H Q E h => ?_) (fun cdv A outer s H vs Q E hr h => ?_)
  · obtain ⟨a, ns, rfl, _⟩ := h
    rfl
  · obtain ⟨a, ns, rfl, hs, hlen, k⟩ := h
    refine ⟨_, (pss_cons (psl 1 sc_law.nd (pe_defL T.d_l_world (ok_l_world T) (hr.mono (by decide)) rfl (by decide) rfl (pal rfl (pvl 0) pa_nil)))
     (pss_cons (psl 2 sc_law.nd (pe_dget (hu_of hr) (pvl 1) pe_str (fun _ _ => rfl)))
     (pss_cons (ps_comp ["_law_field"] ["_law_script", "_law_world_here", "_law_fields", "_law_names", "_law_rows", "_law_k", "_law_at", "_law_some", "_law_name", "_law_kind", "_law_figures", "_law_figure_here", "_law_handed", "_law_told"] rfl (show CompSc _ (defScope s_law) ["_law_script", "_law_world_here", "_law_fields", "_law_names", "_law_rows", "_law_k", "_law_at", "_law_some", "_law_name", "_law_kind", "_law_figures", "_law_figure_here", "_law_handed", "_law_told"] ["_law_script", "_law_world_here", "_law_fields", "_law_names", "_law_rows", "_law_k", "_law_at", "_law_some", "_law_name", "_law_kind", "_law_figures", "_law_figure_here", "_law_handed", "_law_told"] from compOk_is (by decide +kernel)) sc_law.nd (i := 3) rfl rfl (k_piL rfl (pvl 2)) (fun _ _ _ _ _ => (pgl 0 (show (["_law_field", "_law_script", "_law_world_here", "_law_fields", "_law_names", "_law_rows", "_law_k", "_law_at", "_law_some", "_law_name", "_law_kind", "_law_figures", "_law_figure_here", "_law_handed", "_law_told"] : List Str).Nodup by decide +kernel))) (fun _ _ _ _ _ => pts_nil) (fun _ _ _ _ _ => (pe_ix (k_ixT rfl) (pvl 0) pe_int (fun _ _ => rfl))))
     (pss_cons (psl 4 sc_law.nd (pe_lst pa_nil))
     (pss_cons (ps_for PassesOwn.never rfl (pi_range1 rfl T.n_range (pal rfl (pe_op op_mod (pe_defL T.d_l_mix (ok_l_mix T) (hr.mono (by decide)) rfl (by decide) rfl (pal rfl (pe_defL T.d_l_cell_at (ok_l_cell_at T) (hr.mono (by decide)) rfl (by decide) rfl (pal rfl (pvl 0) (pal rfl pe_int pa_nil))) (pal rfl pe_int pa_nil))) pe_int) pa_nil)) (pgl 5 sc_law.nd)
     (pss_one (ps_expr (k_bmL rfl PySem.F.plainAttrs_list PySem.F.slot_list_append PySem.F.type_list_append mt_append rfl rfl rfl rfl (pvl 4) (pal rfl (pe_defL T.d_l_row (ok_l_row T) (hr.mono (by decide)) rfl (by decide) rfl (pal rfl (pe_defL T.d_l_mix (ok_l_mix T) (hr.mono (by decide)) rfl (by decide) rfl (pal rfl (pe_op op_add (pe_defL T.d_l_cell_at (ok_l_cell_at T) (hr.mono (by decide)) rfl (by decide) rfl (pal rfl (pvl 0) (pal rfl (pe_op op_add pe_int (pvl 5)) pa_nil))) (pvl 5)) (pal rfl pe_int pa_nil))) (pal rfl (pvl 1) pa_nil))) pa_nil)))))
     (pss_cons (psl 6 sc_law.nd (pe_op op_mod (pe_defL T.d_l_mix (ok_l_mix T) (hr.mono (by decide)) rfl (by decide) rfl (pal rfl (pe_defL T.d_l_cell_at (ok_l_cell_at T) (hr.mono (by decide)) rfl (by decide) rfl (pal rfl (pvl 0) (pal rfl pe_int pa_nil))) (pal rfl pe_int pa_nil))) (pe_op op_add (pe_cB (k_len rfl) T.n_len bt_len rfl (by decide) (by decide) rfl (pal rfl (pvl 4) pa_nil)) pe_int)))
     (pss_cons (ps_for PassesOwn.never rfl (k_piL rfl (pe_lst (pal rfl (pvl 4) (pal rfl (pe_lst pa_nil) (pal rfl (pe_slice (k_slL rfl) (pvl 4) (po_some (pvl 6)) po_none) (pal rfl (pe_rev rfl (pe_slice (k_slL rfl) (pvl 4) po_none (po_some (pvl 6))) (pe_un un_neg pe_int)) pa_nil)))))) (pgl 7 sc_law.nd)
     (pss_one (ps_for PassesOwn.never rfl (k_piL rfl (pvl 2)) (k_pgT rfl rfl (pgs_cons (pgl 8 sc_law.nd) (pgs_cons (pgl 9 sc_law.nd) pgs_nil)))
     (pss_cons (psl 10 sc_law.nd (pe_lst (pal rfl (pe_tup (pal rfl pe_str pa_nil)) (pal rfl (pe_tup (pal rfl pe_str (pal rfl (pvl 8) pa_nil))) (pal rfl (pe_tup (pal rfl pe_str (pal rfl (pvl 8) pa_nil))) (pal rfl (pe_tup (pal rfl pe_str (pal rfl (pvl 8) pa_nil))) pa_nil))))))
     (pss_cons (ps_if (pt_cmpR op_eq (pvl 9) pe_str (nomark _))
     (pss_one (ps_expr (k_bmL rfl PySem.F.plainAttrs_list PySem.F.slot_list_append PySem.F.type_list_append mt_append rfl rfl rfl rfl (pvl 10) (pal rfl (pe_tup (pal rfl pe_str (pal rfl (pvl 8) pa_nil))) pa_nil))))
     pss_nil)
     (pss_one (ps_for PassesOwn.never rfl (k_piL rfl (pvl 10)) (pgl 11 sc_law.nd)
     (pss_cons (psl 12 sc_law.nd (pe_cTy (k_list rfl) T.n_list bt_list rfl (by decide) (by decide) rfl (pal rfl (pvl 7) pa_nil)))
     (pss_cons (psl 13 sc_law.nd (pe_defL T.d_figure_of (ok_figure_of T) (hr.mono (by decide)) rfl (by decide) rfl (pal rfl (pe_cTy (k_list rfl) T.n_list bt_list rfl (by decide) (by decide) rfl (pal rfl (pvl 2) pa_nil)) (pal rfl (pvl 11) (pal rfl (pvl 12) pa_nil)))))
     (pss_one (ps_if (PW.pt (pw_or (pt_not (pt_val (pe_defL T.d_l_alike (ok_l_alike T) (hr.mono (by decide)) rfl (by decide) rfl (pal rfl (pvl 13) (pal rfl (pe_defL T.d_l_figure (ok_l_figure T) (hr.mono (by decide)) rfl (by decide) rfl (pal rfl (pvl 11) (pal rfl (pvl 3) (pal rfl (pvl 7) pa_nil)))) pa_nil))))) (pw_or1 (pt_cmpR (k_neD rfl hr.units) (pvl 12) (pvl 7) (nomark _)))))
     (pss_one (ps_ret pe_bl))
     pss_nil)))))))))))
     (pss_one (ps_ret pe_bl))))))))), ?_⟩
    generalize hB1 : tSeq (tFor (iRng1 _) _ _) _ = B1
    walk_at "dc"
    refine ⟨a, ns, rfl, hs, fun H1 dW zs kds s1 hW => ?_⟩
    obtain ⟨kvs, l, w', b, xs, ws, h1, h2, h3, h4, h5, h6, h7, h8, h9, h10, h11, h12, h13, h14⟩ := id hW
    refine ⟨dW, rfl, _, wget h1 h2, l, rfl, ⟨_, .of h5⟩, ?_⟩
    have hnl : zs.length = xs.length := h6.1
    refine comp_walk (walk_list (xs := xs)) (small_line (by omega)) (fun i ys H' => Same H1 H' ∧ ys = (zs.take i).map V.str) ⟨Same.refl _, by simp⟩ (fun _ _ H' _ q => q.1.seq (.of h5)) (fun i ys H' q => by rw [q.2, List.length_map, List.length_take]; omega) (fun i x ys H2 hx q => ?_) (fun ys H2 q ln hln => ?_)
    · obtain ⟨t1, rfl⟩ := q
      obtain ⟨p, n, kd, e1, e2, e3, e4⟩ := h6.at (List.getElem?_eq_some_iff.mp hx).1
      obtain rfl : x = .ref p := Option.some.inj (hx.symm.trans e1)
      walk_at "dc"
      exact ⟨p, _, _, _, rfl, rfl, .of (t1 _ _ e4), atI_nat (j := 0) rfl, ⟨_, rfl⟩, t1, by rw [take_snoc e2, List.map_append]; rfl⟩
    obtain ⟨t1, rfl⟩ := q
    rw [show zs.take xs.length = zs by rw [← hnl, List.take_length]]
    have u1 := t1.new hln (HO.lst (zs.map V.str))
    have gn : upd H2 ln (HO.lst (zs.map V.str)) ln = some (.lst (zs.map V.str)) := upd_same
    generalize upd H2 ln (HO.lst (zs.map V.str)) = H3 at *
    refine ⟨Nat.zero_le _, fun pr hpr => ?_⟩
    have u2 := Same.upd_new hpr (HO.lst [])
    have g2 : upd H3 pr (HO.lst []) pr = some (.lst []) := upd_same
    generalize upd H3 pr (HO.lst []) = H4 at *
    subst hB1
    walk_at "dc"
    refine for_in ?_
    walk_at "dc"
    have S3 := s1.trans u1
    refine ⟨a, ns, _, rfl, (S3.trans u2).seq hs, by decide, fun v0 => ⟨_, _, rfl, _, rfl, by decide, ?_⟩⟩
    have m1 : 0 ≤ mixI v0 2 % 61 ∧ mixI v0 2 % 61 < 61 := ⟨Int.emod_nonneg _ (by decide), Int.emod_lt_of_pos _ (by decide)⟩
    obtain ⟨R, hR⟩ : ∃ R : Nat, mixI v0 2 % 61 = (R : Int) := ⟨(mixI v0 2 % 61).toNat, by omega⟩
    rw [hR] at m1 ⊢
    refine ⟨by omega, by omega, ?_⟩
    rw [Int.toNat_natCast]
    generalize hD1 : (Ends.mk _ _ _ _ : Ends) = D1
    refine ForW.of (walk_range (n := R)) (fun j σ H' => (∃ v5, σ = [some (V.ref a), some (V.ref dW), some (V.ref l), some (V.ref ln), some (V.ref pr), v5, none, none, none, none, none, none, none, none]) ∧ Same H3 H' ∧ ∃ xr, H' pr = some (.lst xr) ∧ (∀ x ∈ xr, RowAt H' kds x) ∧ xr.length = j) ⟨⟨none, rfl⟩, u2, [], g2, (fun _ h => nomatch h), rfl⟩ (fun _ _ _ _ _ => trivial) ?_ ?_
    · rintro j x σ H5 hx ⟨⟨v5, rfl⟩, s5, xr, g5, t5, l5⟩
      obtain ⟨hj, rfl⟩ := range_item hx
      subst hD1
      walk_at "dc"
      refine ⟨.inl ⟨rfl, _, .of g5⟩, a, ns, _, rfl, (S3.trans s5).seq hs, by omega, fun v1 => ⟨v1, rfl, _, _, rfl, _, dW, zs, kds, rfl, hW.mono (u1.trans s5), fun H6 q rr s6 hq hok => ?_⟩⟩
      exact ⟨pr, xr, _, rfl, rfl, s6 _ _ g5, by rw [sizeLine_eq]; omega, ⟨_, rfl⟩, (s5.trans s6).set hpr _, _, upd_same, row_snoc (s6 _ _ g5) (fun x hx => (t5 x hx).mono s6) ⟨q, rr, rfl, hq, hok⟩, by simp [l5]⟩
    · rintro σ H5 ⟨⟨v5, rfl⟩, s5, xr, g5, t5, l5⟩
      rw [rangeV_len] at l5
      subst hD1
      walk_at "dc"
      refine ⟨a, ns, _, rfl, (S3.trans s5).seq hs, by decide, fun v1 => ⟨_, _, rfl, _, .inl (.of g5), _, rfl, by omega, ?_⟩⟩
      have b1 := Int.emod_nonneg (mixI v1 3) (show (xr.length : Int) + 1 ≠ 0 by omega)
      obtain ⟨t, ht⟩ : ∃ t : Nat, mixI v1 3 % ((xr.length : Int) + 1) = (t : Int) := ⟨(mixI v1 3 % ((xr.length : Int) + 1)).toNat, by omega⟩
      rw [ht]
      have hx60 : xr.length ≤ 60 := by omega
      have hW5 := hW.mono (u1.trans s5)
      have hl5 := (u1.trans s5) _ _ h5
      have hF5 := h6.mono (u1.trans s5)
      have hn5 := s5 _ _ gn
      refine for_in ?_
      walk_at "dc"
      refine ⟨Nat.zero_le _, fun p1 hp1 => ?_⟩
      have w1 := Same.upd_new hp1 (HO.lst [])
      have y1 : upd H5 p1 (HO.lst []) p1 = some (.lst []) := upd_same
      generalize upd H5 p1 (HO.lst []) = G1 at *
      refine ⟨xr, .of (w1 _ _ g5), fun p2 hp2 => ?_⟩
      have w2 := Same.upd_new hp2 (HO.lst (cutV xr (some (t : Int)) none))
      have y2 : upd G1 p2 (HO.lst (cutV xr (some (t : Int)) none)) p2 = some (.lst (cutV xr (some (t : Int)) none)) := upd_same
      generalize upd G1 p2 (HO.lst (cutV xr (some (t : Int)) none)) = G2 at *
      refine ⟨xr, .of ((w1.trans w2) _ _ g5), fun p3 hp3 => ?_⟩
      have w3 := Same.upd_new hp3 (HO.lst (cutV xr none (some (t : Int))))
      have y3 : upd G2 p3 (HO.lst (cutV xr none (some (t : Int)))) p3 = some (.lst (cutV xr none (some (t : Int)))) := upd_same
      generalize upd G2 p3 (HO.lst (cutV xr none (some (t : Int)))) = G3 at *
      refine ⟨_, .of y3, fun p4 hp4 => ⟨small_line (by decide), fun p5 hp5 => ?_⟩⟩
      have w4 := Same.upd_new hp4 (HO.lst (cutV xr none (some (t : Int))).reverse)
      have y4 : upd G3 p4 (HO.lst (cutV xr none (some (t : Int))).reverse) p4 = some (.lst (cutV xr none (some (t : Int))).reverse) := upd_same
      generalize upd G3 p4 (HO.lst (cutV xr none (some (t : Int))).reverse) = G4 at *
      have w5 := Same.upd_new hp5 (HO.lst [V.ref pr, V.ref p1, V.ref p2, V.ref p4])
      have y5 : upd G4 p5 (HO.lst [V.ref pr, V.ref p1, V.ref p2, V.ref p4]) p5 = some (.lst [V.ref pr, V.ref p1, V.ref p2, V.ref p4]) := upd_same
      generalize upd G4 p5 (HO.lst [V.ref pr, V.ref p1, V.ref p2, V.ref p4]) = G5 at *
      have W5 := (((w1.trans w2).trans w3).trans w4).trans w5
      have cm : ∀ lo hi, ∀ x ∈ cutV xr lo hi, x ∈ xr := fun lo hi x hx => by
        unfold cutV at hx
        exact List.mem_of_mem_drop (List.mem_of_mem_take hx)
      have cl : ∀ lo hi, (cutV xr lo hi).length ≤ 60 := fun lo hi => Nat.le_trans (cutV_length xr lo hi) hx60
      have some4 : ∀ x ∈ [V.ref pr, V.ref p1, V.ref p2, V.ref p4], ∃ ls xs', x = .ref ls ∧ G5 ls = some (.lst xs') ∧ (∀ y ∈ xs', y ∈ xr) ∧ xs'.length ≤ 60 := fun x hx => by
        simp only [List.mem_cons, List.not_mem_nil, or_false] at hx
        rcases hx with rfl | rfl | rfl | rfl
        · exact ⟨pr, xr, rfl, W5 _ _ g5, fun y hy => hy, hx60⟩
        · exact ⟨p1, [], rfl, ((((w2.trans w3).trans w4).trans w5)) _ _ y1, (fun _ h => nomatch h), by decide⟩
        · exact ⟨p2, _, rfl, ((w3.trans w4).trans w5) _ _ y2, cm _ _, cl _ _⟩
        · exact ⟨p4, _, rfl, w5 _ _ y4, fun y hy => cm _ _ y (List.mem_reverse.mp hy), by rw [List.length_reverse]; exact cl _ _⟩
      refine ⟨⟨_, .of y5⟩, ?_⟩
      generalize hD2 : (Ends.mk _ _ _ _ : Ends) = D2
      refine ForW.of (walk_list (xs := [V.ref pr, V.ref p1, V.ref p2, V.ref p4])) (fun i σ H' => (∃ v7 v8 v9 v10 v11 v12 v13, σ = [some (V.ref a), some (V.ref dW), some (V.ref l), some (V.ref ln), some (V.ref pr), v5, some (V.int (t : Int)), v7, v8, v9, v10, v11, v12, v13]) ∧ Same G5 H') ⟨⟨none, none, none, none, none, none, none, rfl⟩, Same.refl _⟩ (fun _ _ H' _ z => z.2.seq (.of y5)) ?_ ?_
      · rintro i x σ G6 hx ⟨⟨v7, v8, v9, v10, v11, v12, v13, rfl⟩, s6⟩
        obtain ⟨ls, xs', rfl, hls, hsub, hl60⟩ := some4 x (List.mem_of_getElem? hx)
        subst hD2
        walk_at "dc"
        refine for_in ?_
        walk_at "dc"
        have S6 := W5.trans s6
        refine ⟨⟨_, .of (S6 _ _ hl5)⟩, ?_⟩
        generalize hD3 : (Ends.mk _ _ _ _ : Ends) = D3
        refine ForW.of (walk_list (xs := xs)) (fun i σ H' => (∃ v8 v9 v10 v11 v12 v13, σ = [some (V.ref a), some (V.ref dW), some (V.ref l), some (V.ref ln), some (V.ref pr), v5, some (V.int (t : Int)), some (V.ref ls), v8, v9, v10, v11, v12, v13]) ∧ Same G6 H') ⟨⟨v8, v9, v10, v11, v12, v13, rfl⟩, Same.refl _⟩ (fun _ _ H' _ z => z.2.seq (.of (S6 _ _ hl5))) ?_ ?_
        · rintro i2 x σ G7 hx2 ⟨⟨v8, v9, v10, v11, v12, v13, rfl⟩, s7⟩
          have S7 := S6.trans s7
          obtain ⟨pf, n, kd, e1, e2, e3, e4⟩ := (hF5.mono S7).at (List.getElem?_eq_some_iff.mp hx2).1
          obtain rfl : x = .ref pf := Option.some.inj (hx2.symm.trans e1)
          refine ⟨pf, _, rfl, .of e4, rfl, ?_⟩
          simp only [gCons, gNil, gName]
          generalize hB3 : tFor (iList _ (tVar 10)) _ _ = B3
          subst hD3
          walk_at "dc"
          generalize hD4 : (Ends.mk _ _ _ _ : Ends) = D4
          have loop : ∀ (G : Hp) (pl : Addr) (fs : List V), Same G7 G → G pl = some (.lst fs) → (∀ v ∈ fs, FigOk G n kd v) → B3 D4 [some (V.ref a), some (V.ref dW), some (V.ref l), some (V.ref ln), some (V.ref pr), v5, some (V.int (t : Int)), some (V.ref ls), some (V.str n), some (V.str kd), some (V.ref pl), v11, v12, v13] G := by
            intro G pl fs sG gpl hfs
            have S8 := S7.trans sG
            subst hB3
            refine for_in ?_
            walk_at "dc"
            refine ⟨⟨_, .of gpl⟩, ?_⟩
            refine ForW.of (walk_list (xs := fs)) (fun i σ H' => (∃ v11 v12 v13, σ = [some (V.ref a), some (V.ref dW), some (V.ref l), some (V.ref ln), some (V.ref pr), v5, some (V.int (t : Int)), some (V.ref ls), some (V.str n), some (V.str kd), some (V.ref pl), v11, v12, v13]) ∧ Same G H') ⟨⟨v11, v12, v13, rfl⟩, Same.refl _⟩ (fun _ _ H' _ z => z.2.seq (.of gpl)) ?_ ?_
            · rintro i3 fv σ G9 hx3 ⟨⟨v11, v12, v13, rfl⟩, s9⟩
              have hfv := (hfs fv (List.mem_of_getElem? hx3)).mono s9
              have S9 := S8.trans s9
              have hls9 := s9 _ _ (sG _ _ (s7 _ _ (s6 _ _ hls)))
              have hrow9 : ∀ x ∈ xs', RowAt G9 kds x := fun x hx => (t5 x (hsub x hx)).mono S9
              walk_at "dc"
              refine ⟨xs', .inl (.of hls9), fun lh hlh => ?_⟩
              have x10 := Same.upd_new hlh (HO.lst xs')
              have z10 : upd G9 lh (HO.lst xs') lh = some (.lst xs') := upd_same
              generalize upd G9 lh (HO.lst xs') = G10 at *
              refine ⟨xs, .inl (.of (x10 _ _ (S9 _ _ hl5))), fun lf hlf => ?_⟩
              have x11 := Same.upd_new hlf (HO.lst xs)
              have z11 : upd G10 lf (HO.lst xs) lf = some (.lst xs) := upd_same
              generalize upd G10 lf (HO.lst xs) = G11 at *
              have X11 := x10.trans x11
              have hrow11 : ∀ x ∈ xs', RowAt G11 kds x := fun x hx => (hrow9 x hx).mono X11
              obtain ⟨rs', hrs⟩ := rows_ex xs' hrow11
              have hrl := hrs.1
              have key : ∃ Res : V → Prop, (∀ G', Same G9 G' → Asked G' fv zs kds rs' Res) ∧ (∀ v w, Res v → Res w → v = w) ∧ ∀ v, Res v → (v = .non ∨ (∃ z, v = .str z ∧ z.length ≤ 1000) ∨ ∃ i, v = .int i) := by
                obtain ⟨q, rfl, h | ⟨hd, h, hok⟩⟩ := hfv
                · exact ⟨_, fun G' s' => ⟨q, rfl, .inl ⟨s' _ _ h, rfl⟩⟩, fun v w e1 e2 => e1.trans e2.symm, fun v e => .inr (.inr ⟨_, e⟩)⟩
                · have ck := col_kd hrs.ok e3
                  exact ⟨_, fun G' s' => ⟨q, rfl, .inr ⟨hd, n, i2, kd, s' _ _ h, e2, e3, hok, rfl⟩⟩, fun v w a b => fig_one ck a b, fun v a => fig_kind ck a⟩
              obtain ⟨Res, hask, huni, hknd⟩ := key
              refine ⟨lf, lh, fv, xs, xs', zs, kds, rs', Res, rfl, z11, hF5.mono (S9.trans X11), h7, x11 _ _ z10, hrs, by omega, hask _ X11, fun H12 v s12 hv => ?_⟩
              have X12 := X11.trans s12
              refine ⟨ln, ls, fv, xs', zs, kds, rs', Res, rfl, X12 _ _ (S9 _ _ hn5), h6.2.2.1, h7, X12 _ _ hls9, hrs.mono s12, by omega, hask _ X12, fun H13 w0 s13 hw0 => ?_⟩
              obtain rfl := huni v w0 hv hw0
              have X13 := X12.trans s13
              refine ⟨v, rfl, hknd v hv, _, rfl, ?_⟩
              rw [if_neg (by decide)]
              refine eqR_of ((x11.trans (s12.trans s13)) _ _ z10) (X13 _ _ hls9) (fun x hx => (hrow9 x hx).mono X13) ⟨_, rfl, ?_⟩
              rw [if_neg (by decide)]
              exact ⟨⟨_, rfl⟩, s9.trans X13⟩
            · rintro σ G9 ⟨⟨v11, v12, v13, rfl⟩, s9⟩
              subst hD4
              exact ⟨⟨_, _, _, _, _, _, rfl⟩, (s7.trans sG).trans s9⟩
          refine ⟨small_line (by decide), fun q1 hq1 => ⟨small_line (by decide), fun q2 hq2 => ⟨small_line (by decide), fun q3 hq3 => ⟨small_line (by decide), fun q4 hq4 => ⟨small_line (by decide), fun q5 hq5 => ?_⟩⟩⟩⟩⟩
          have x1 := Same.upd_new hq1 (HO.tup [V.str (Str.ofString "count")])
          have z1 : upd G7 q1 (HO.tup [V.str (Str.ofString "count")]) q1 = some (.tup [V.str (Str.ofString "count")]) := upd_same
          generalize upd G7 q1 (HO.tup [V.str (Str.ofString "count")]) = F1 at *
          have x2 := Same.upd_new hq2 (HO.tup [V.str (Str.ofString "greatest"), V.str n])
          have z2 : upd F1 q2 (HO.tup [V.str (Str.ofString "greatest"), V.str n]) q2 = some (.tup [V.str (Str.ofString "greatest"), V.str n]) := upd_same
          generalize upd F1 q2 (HO.tup [V.str (Str.ofString "greatest"), V.str n]) = F2 at *
          have x3 := Same.upd_new hq3 (HO.tup [V.str (Str.ofString "least"), V.str n])
          have z3 : upd F2 q3 (HO.tup [V.str (Str.ofString "least"), V.str n]) q3 = some (.tup [V.str (Str.ofString "least"), V.str n]) := upd_same
          generalize upd F2 q3 (HO.tup [V.str (Str.ofString "least"), V.str n]) = F3 at *
          have x4 := Same.upd_new hq4 (HO.tup [V.str (Str.ofString "unlike"), V.str n])
          have z4 : upd F3 q4 (HO.tup [V.str (Str.ofString "unlike"), V.str n]) q4 = some (.tup [V.str (Str.ofString "unlike"), V.str n]) := upd_same
          generalize upd F3 q4 (HO.tup [V.str (Str.ofString "unlike"), V.str n]) = F4 at *
          have X4 := ((x1.trans x2).trans x3).trans x4
          have figs : ∀ v ∈ [V.ref q1, V.ref q2, V.ref q3, V.ref q4], FigOk F4 n kd v := fun v hv => by
            simp only [List.mem_cons, List.not_mem_nil, or_false] at hv
            rcases hv with rfl | rfl | rfl | rfl
            · exact ⟨q1, rfl, .inl (((x2.trans x3).trans x4) _ _ z1)⟩
            · exact ⟨q2, rfl, .inr ⟨_, (x3.trans x4) _ _ z2, .inr (.inl rfl)⟩⟩
            · exact ⟨q3, rfl, .inr ⟨_, x4 _ _ z3, .inr (.inr (.inl rfl))⟩⟩
            · exact ⟨q4, rfl, .inr ⟨_, z4, .inr (.inr (.inr rfl))⟩⟩
          have x5 := Same.upd_new hq5 (HO.lst [V.ref q1, V.ref q2, V.ref q3, V.ref q4])
          have z5 : upd F4 q5 (HO.lst [V.ref q1, V.ref q2, V.ref q3, V.ref q4]) q5 = some (.lst [V.ref q1, V.ref q2, V.ref q3, V.ref q4]) := upd_same
          by_cases ckn : kd = "number"
          · rw [if_pos (decide_eq_true ckn)]
            have figs5 := fun v hv => (figs v hv).mono x5
            generalize upd F4 q5 (HO.lst [V.ref q1, V.ref q2, V.ref q3, V.ref q4]) = F5 at *
            refine ⟨.inl ⟨rfl, _, .of z5⟩, small_line (by decide), fun q6 hq6 => ?_⟩
            have x6 := Same.upd_new hq6 (HO.tup [V.str (Str.ofString "sum"), V.str n])
            have z6 : upd F5 q6 (HO.tup [V.str (Str.ofString "sum"), V.str n]) q6 = some (.tup [V.str (Str.ofString "sum"), V.str n]) := upd_same
            have z5' := x6 _ _ z5
            have figs6 := fun v hv => (figs5 v hv).mono x6
            generalize upd F5 q6 (HO.tup [V.str (Str.ofString "sum"), V.str n]) = F6 at *
            have hq5F : F4 q5 = none := hq5
            refine ⟨q5, _, _, rfl, rfl, z5', by rw [sizeLine_eq]; simp, loop _ q5 _ (X4.trans ((x5.trans x6).set hq5 _)) upd_same fun v hv => ?_⟩
            have put : ∀ v, FigOk F6 n kd v → FigOk (upd F6 q5 (HO.lst ([V.ref q1, V.ref q2, V.ref q3, V.ref q4] ++ [V.ref q6]))) n kd v := fun v h => h.put z5'
            rcases List.mem_append.mp hv with hv | hv
            · exact put v (figs6 v hv)
            · rw [List.mem_singleton.mp hv]
              exact put _ ⟨q6, rfl, .inr ⟨_, z6, .inl ⟨rfl, ckn⟩⟩⟩
          · rw [if_neg (by simpa using ckn)]
            exact loop _ q5 _ (X4.trans x5) z5 fun v hv => (figs v hv).mono x5
        · rintro σ G7 ⟨⟨v8, v9, v10, v11, v12, v13, rfl⟩, s7⟩
          subst hD3
          exact ⟨⟨_, _, _, _, _, _, _, rfl⟩, s6.trans s7⟩
      · rintro σ G6 ⟨⟨v7, v8, v9, v10, v11, v12, v13, rfl⟩, s6⟩
        subst hD2
        walk_at "dc"
        exact k _
end
theorem walk {l : PySem.W.OpenLaw} {q : Program} {loose : List Str} {XP : (Str → Option Value) → Heap → Prop} {YP : World → Heap → Prop} {d : DefRec} {K : Params → PySem.W.Frag} (hn : l.most = some 63) (hdf : d.params.defaults = [])
    (hY : ∀ (w : World) (h : Heap), YP w h → (K w.params).In h)
    (F : ∀ (w : World) (mg : Str → Option Value) (fa : Addr) (h : Heap), (K w.params).In h → h.Ns mainGlobals mg → mg d.name = some (.ref fa) →
      ∃ fd : FuncData, (∀ (s : Shared) (u : Value), BindsTo s fd ⟨[u], []⟩ [("_law_script", u)]) ∧ ∀ base : Heap, (K w.params).In base → base.Ns mainGlobals mg → FnOk l.prog w (K w.params) mg base CX0 5 fa fd ["_law_script"] (sp_law (K w.params))) :
    PySem.W.WalkO q loose XP YP l.row.toRowW d [] (fun f vs => PySem.call f vs) :=
  L2.walk_of (n := 63) (k := 5) (x := "_law_script") (CX := fun _ => CX0) (sp := fun w => sp_law (K w.params)) hn (by decide) hdf ⟨rfl, by decide, by decide⟩ hY F (fun _ _ a ns hl _ hS => ⟨a, ns, rfl, hS, hl, fun _ => rfl⟩) fun _ _ _ _ _ z => z
theorem all_mk {l : PySem.W.OpenLaw} {w : World} {K : PySem.W.Frag} {h : Heap} {mg : Str → Option Value} {fa : Addr} (X : K.In h) (G : h.Ns mainGlobals mg) (hfa : mg "law" = some (.ref fa)) (T : ∃ f fd, Txt K mg f fd ∧ f 17 = f 17 ∧ ∃ kV dc pm an cd ct, fd 17 = PySem.W.fnOf "law" "law" (defArgs s_law) (defBody s_law) (defScope s_law) .none kV dc pm an cd ct) :
    ∃ fd : FuncData, (∀ (s : Shared) (v : Value), BindsTo s fd ⟨[v], []⟩ [("_law_script", v)]) ∧ ∀ base : Heap, K.In base → base.Ns mainGlobals mg → FnOk l.prog w K mg base CX0 5 fa fd ["_law_script"] (sp_law K) := by
  obtain ⟨f, fd, T, _, kV, dc, pm, an, cd, ct, e⟩ := T
  have e2 := hfa.symm.trans T.d_law.m
  cases e2
  exact ⟨fd 17, fun s v => by rw [e]; exact .of_eq rfl, fun base _ _ => ok_law T⟩
end NS
open PySem PySem.W PyProof.Rows
set_option maxRecDepth 100000 in
set_option maxHeartbeats 0 in
theorem PySem.Challenge.cw_crosshall_k11_figures_holds : PySem.Challenge.rw_crosshall_k11_figures.Holds := by
  w_on; o_law; k_head; (case hw => w_witness2)
  k_fill
  refine NS.walk (l := PySem.Challenge.rw_crosshall_k11_figures) rfl rfl (fun w h Y => PySem.W.kIn_of Y) ?F
  case F =>
    intro w mg fa h KX G hmg
    refine NS.all_mk KX G hmg ?_
    suffices TT : ∃ f fd, NS.Txt (L2.KOf KX) mg f fd ∧ f 17 = f 17 ∧ ∃ kV dc pm an cd ct, fd 17 = PySem.W.fnOf "law" "law" (L2.defArgs NS.s_law) (L2.defBody NS.s_law) (L2.defScope NS.s_law) .none kV dc pm an cd ct from TT
    dsimp only [L2.KOf]
    obtain ⟨f, fd, T, _, z⟩ : ∃ f fd, NS.Txt _ mg f fd ∧ f 17 = _ ∧ ∃ kV dc pm an cd ct, fd 17 = PySem.W.fnOf "law" "law" (L2.defArgs NS.s_law) (L2.defBody NS.s_law) (L2.defScope NS.s_law) .none kV dc pm an cd ct := by
      refine' NS.txt_mk KX G ?a1 ?a2 ?a4 ?l4 ?c4 ?k4 ?a6 ?l6 ?c6 ?k6 ?a8 ?l8 ?c8 ?k8 ?a9 ?l9 ?c9 ?k9 ?a10 ?l10 ?c10 ?k10 ?a11 ?l11 ?c11 ?k11 ?a12 ?l12 ?c12 ?k12 ?a13 ?l13 ?c13 ?k13 ?a14 ?l14 ?c14 ?k14 ?a15 ?l15 ?c15 ?k15 ?a16 ?l16 ?c16 ?k16 ?a17 ?l17 ?c17 ?k17 ?a3000 ?l3000 ?c3000 ?k3000 ?b3000 ?x_CrossError_e ?x_CrossError_kp ?x_CrossError_ga ?x_CrossError_gh ?x_CrossError_ba ?x_CrossError_ob ?x_CrossError_hd ?x_CrossError_cl ?x_CrossError_cg ?x_CrossError_ct ?x_CrossError_sa ?x_NoField_e ?x_NoField_kp ?x_NoField_ga ?x_NoField_gh ?x_NoField_ba ?x_NoField_ob ?x_NoField_hd ?x_NoField_cl ?x_NoField_cg ?x_NoField_ct ?x_NoField_sa ?v_na_NoField_name ?v_su_NoField_CrossError ?v_ki_NoField_CrossError ?v_su_NoField_NoField ?v_ki_NoField_NoField ?v_kv_NoField ?z_bool ?z_enumerate ?z_int ?z_isinstance ?z_len ?z_list ?z_max ?z_min ?z_range ?z_set ?z_str ?z_sum ?z_tuple
      (case a1 => k_is)
      (case a2 => k_is)
      (case a4 => k_is)
      (case l4 => k_is)
      (case c4 => k_is)
      (case k4 => k_is)
      (case a6 => k_is)
      (case l6 => k_is)
      (case c6 => k_is)
      (case k6 => k_is)
      (case a8 => k_is)
      (case l8 => k_is)
      (case c8 => k_is)
      (case k8 => k_is)
      (case a9 => k_is)
      (case l9 => k_is)
      (case c9 => k_is)
      (case k9 => k_is)
      (case a10 => k_is)
      (case l10 => k_is)
      (case c10 => k_is)
      (case k10 => k_is)
      (case a11 => k_is)
      (case l11 => k_is)
      (case c11 => k_is)
      (case k11 => k_is)
      (case a12 => k_is)
      (case l12 => k_is)
      (case c12 => k_is)
      (case k12 => k_is)
      (case a13 => k_is)
      (case l13 => k_is)
      (case c13 => k_is)
      (case k13 => k_is)
      (case a14 => k_is)
      (case l14 => k_is)
      (case c14 => k_is)
      (case k14 => k_is)
      (case a15 => k_is)
      (case l15 => k_is)
      (case c15 => k_is)
      (case k15 => k_is)
      (case a16 => k_is)
      (case l16 => k_is)
      (case c16 => k_is)
      (case k16 => k_is)
      (case a17 => k_is)
      (case l17 => k_is)
      (case c17 => k_is)
      (case k17 => k_is)
      (case a3000 => k_is)
      (case l3000 => k_is)
      (case c3000 => k_is)
      (case k3000 => k_is)
      (case b3000 => k_is)
      (case x_CrossError_e => kernel_rfl)
      (case x_CrossError_kp => k_is)
      (case x_CrossError_ga => k_is)
      (case x_CrossError_gh => k_is)
      (case x_CrossError_ba => k_is)
      (case x_CrossError_ob => k_is)
      (case x_CrossError_hd => k_is)
      (case x_CrossError_cl => k_is)
      (case x_CrossError_cg => k_is)
      (case x_CrossError_ct => k_is)
      (case x_CrossError_sa => k_is)
      (case x_NoField_e => kernel_rfl)
      (case x_NoField_kp => k_is)
      (case x_NoField_ga => k_is)
      (case x_NoField_gh => k_is)
      (case x_NoField_ba => k_is)
      (case x_NoField_ob => k_is)
      (case x_NoField_hd => k_is)
      (case x_NoField_cl => k_is)
      (case x_NoField_cg => k_is)
      (case x_NoField_ct => k_is)
      (case x_NoField_sa => k_is)
      (case v_na_NoField_name => k_is)
      (case v_su_NoField_CrossError => rfl)
      (case v_ki_NoField_CrossError => rfl)
      (case v_su_NoField_NoField => rfl)
      (case v_ki_NoField_NoField => rfl)
      (case v_kv_NoField => rfl)
      (case z_bool => k_is)
      (case z_enumerate => k_is)
      (case z_int => k_is)
      (case z_isinstance => k_is)
      (case z_len => k_is)
      (case z_list => k_is)
      (case z_max => k_is)
      (case z_min => k_is)
      (case z_range => k_is)
      (case z_set => k_is)
      (case z_str => k_is)
      (case z_sum => k_is)
      (case z_tuple => k_is)
    exact ⟨f, fd, T, rfl, z⟩
