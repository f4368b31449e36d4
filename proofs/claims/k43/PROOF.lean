import PyProof.Rows.All
import Wide.All
import OpenK.AllK
import Wide.FinOn
import Lean
import PyProof.EqAt
import PyProof.EqKinds
import PyProof.TupleCall
import OpenK.KOwn
import PyProof.InstStoreFacts
import PyProof.EnumFor
import PyProof.EnumMake
import PyProof.EnumStmt
import KE.KDictList
import PyProof.ListRange
import PyProof.Rows.SetFrom
import PyProof.WalksMore
import PyProof.ZipIter
import PyProof.AttrMissSeq
import KE.KDictOf
import PyProof.MinMaxWalk
import PyProof.Rows.CallKwBuiltin
import KE.KMinKey
import KE.KRevSl
import PyProof.SumAny
import PyProof.P3In
import PyProof.SeqI3
import PyProof.SetKind
import PySem.Challenge.RW_crosshall_k43_refusals_apart
-- CHANGE: your row's module here, as the last of these rows
set_option compiler.extract_closed false
set_option Elab.async false
set_option linter.all false
set_option maxRecDepth 100000
namespace L2
open PySem PySem.Spec PyProof.Rows
noncomputable abbrev Key := Sum Int Str
noncomputable def keyIs : Key → Value → Bool
  | .inl k, v => Value.isInt k v
  | .inr x, v => Value.isStrOf x v
noncomputable def keyH (w : World) : Key → Int
  | .inl k => hashInt k
  | .inr x => hashStr w x
theorem keyIs_shape : ∀ {k : Key} {v : Value}, keyIs k v = true → (∃ i t, k = Sum.inl i ∧ v = Value.int i t) ∨ (∃ x t, k = Sum.inr x ∧ v = Value.str x t)
  | .inl i, v, h => by
    obtain ⟨t, e⟩ := Value.isInt_shape (k := i) (v := v) h
    exact .inl ⟨i, t, rfl, e⟩
  | .inr x, v, h => by
    obtain ⟨t, e⟩ := Value.isStrOf_shape (x := x) (v := v) h
    exact .inr ⟨x, t, rfl, e⟩
theorem keyIs_int (i : Int) (t : Tok) : keyIs (.inl i) (.int i t) = true := by simp [keyIs, Value.isInt]
theorem keyIs_str (x : Str) (t : Tok) : keyIs (.inr x) (.str x t) = true := by simp [keyIs, Value.isStrOf]
theorem key_ll (a b : Int) : decide ((Sum.inl a : Key) = Sum.inl b) = (a == b) := by
  by_cases e : a = b
  · subst e; simp
  · have h : ¬ (Sum.inl a : Key) = Sum.inl b := fun q => e (Sum.inl.inj q)
    rw [decide_eq_false h]
    exact (beq_eq_false_iff_ne.mpr e).symm
theorem key_rr (a b : Str) : decide ((Sum.inr a : Key) = Sum.inr b) = decide (a = b) := by
  by_cases e : a = b
  · subst e; simp
  · have h : ¬ (Sum.inr a : Key) = Sum.inr b := fun q => e (Sum.inr.inj q)
    rw [decide_eq_false h, decide_eq_false e]
theorem key_lr (a : Int) (b : Str) : decide ((Sum.inl a : Key) = Sum.inr b) = false := decide_eq_false (fun q => nomatch q)
theorem key_rl (a : Str) (b : Int) : decide ((Sum.inr a : Key) = Sum.inl b) = false := decide_eq_false (fun q => nomatch q)
noncomputable def mixKind (prog : Program) (w : World) : PySem.KeyKind prog w Key where
  is := keyIs
  hash := keyH w
  inj := fun v a b ha hb => by
    rcases keyIs_shape ha with ⟨i, t, rfl, rfl⟩ | ⟨x, t, rfl, rfl⟩
    · rcases keyIs_shape hb with ⟨j, u, rfl, e⟩ | ⟨y, u, rfl, e⟩
      · injection e with e1 _; rw [e1]
      · exact nomatch e
    · rcases keyIs_shape hb with ⟨j, u, rfl, e⟩ | ⟨y, u, rfl, e⟩
      · exact nomatch e
      · injection e with e1 _; rw [e1]
  byValue := fun k v h => by
    rcases keyIs_shape h with ⟨i, t, rfl, rfl⟩ | ⟨x, t, rfl, rfl⟩ <;> rfl
  pyHash := fun hv h => by
    rcases keyIs_shape hv with ⟨i, t, rfl, rfl⟩ | ⟨x, t, rfl, rfl⟩
    · exact wpAny_pyHash_int h
    · exact wpAny_pyHash_str h
  eqBool := fun hu hv h => by
    rcases keyIs_shape hu with ⟨i, t, rfl, rfl⟩ | ⟨x, t, rfl, rfl⟩
    · rcases keyIs_shape hv with ⟨j, u, rfl, rfl⟩ | ⟨y, u, rfl, rfl⟩
      · rw [key_ll] at h; exact wpAny_eqBool_int h
      · rw [key_lr] at h; exact SeqAt.EqAt.int_str i t y u _ _ _ _ h
    · rcases keyIs_shape hv with ⟨j, u, rfl, rfl⟩ | ⟨y, u, rfl, rfl⟩
      · rw [key_rl] at h; exact SeqAt.EqAt.str_int x t j u _ _ _ _ h
      · rw [key_rr] at h; exact wpAny_eqBool_str h
  «strs» := fun k x t v h => by
    rcases keyIs_shape h with ⟨i, u, rfl, e⟩ | ⟨y, u, rfl, e⟩
    · exact nomatch e
    · injection e with e1 _
      subst e1
      cases v <;> rfl
theorem mixKind_int (prog : Program) (w : World) (i : Int) (t : Tok) : (mixKind prog w).is (.inl i) (.int i t) = true := keyIs_int i t
theorem mixKind_str (prog : Program) (w : World) (x : Str) (t : Tok) : (mixKind prog w).is (.inr x) (.str x t) = true := keyIs_str x t
noncomputable abbrev NKey := Option Key
noncomputable def nIs : NKey → Value → Bool
  | none, .none => true
  | none, _ => false
  | some k, v => keyIs k v
noncomputable def nH (w : World) : NKey → Int
  | none => reduceHash 0xFCA86420
  | some k => keyH w k
theorem nIs_shape : ∀ {k : NKey} {v : Value}, nIs k v = true → (k = none ∧ v = Value.none) ∨ ∃ q, k = some q ∧ keyIs q v = true
  | none, v, h => by cases v <;> first | exact .inl ⟨rfl, rfl⟩ | exact nomatch h
  | some k, v, h => .inr ⟨k, rfl, h⟩
theorem key_not_none {q : Key} (h : keyIs q Value.none = true) : False := by
  rcases keyIs_shape h with ⟨_, _, _, e⟩ | ⟨_, _, _, e⟩ <;> exact nomatch e
theorem pyHash_none {prog : Program} {w : World} {A : Around} {E : Value → Shared → Prop} {s : Shared} {Q : Int → Shared → Prop} (h : Q (reduceHash 0xFCA86420) { s with toks := s.toks + 1 }) : wpAny (model prog w) A (pyHash .none) Q E s :=
  PySem.W.pyHash_slot (T := "NoneType") rfl F.slot_NoneType_hash F.entry_NoneType_hash (F.args_NoneType_hash_1 _) (beq_builtin_none _) (.inl rfl) (wpAny_bind (wpAny_pure (wpAny_bind (wpAny_mkInt (wpAny_pure ⟨_, _, rfl, h⟩)))))
theorem eqBool_none {prog : Program} {w : World} {A : Around} {E : Value → Shared → Prop} {s : Shared} {Q : Bool → Shared → Prop} (h : Q true s) : wpAny (model prog w) A (eqBool .none .none) Q E s := by
  unfold eqBool
  try with_reducible refine wpAny_holding ?_
  show wpAny _ _ (if (Value.none == Value.none) = true then _ else _) Q E s
  rw [if_pos (by decide)]
  exact wpAny_bind (wpAny_rule (wpAny_pure h))
noncomputable def optKind (prog : Program) (w : World) : PySem.KeyKind prog w NKey where
  is := nIs
  hash := nH w
  inj := fun v a b ha hb => by
    rcases nIs_shape ha with ⟨rfl, rfl⟩ | ⟨q, rfl, hq⟩
    · rcases nIs_shape hb with ⟨rfl, _⟩ | ⟨q', rfl, hq'⟩
      · rfl
      · exact (key_not_none hq').elim
    · rcases nIs_shape hb with ⟨rfl, rfl⟩ | ⟨q', rfl, hq'⟩
      · exact (key_not_none hq).elim
      · rw [(mixKind prog w).inj v q q' hq hq']
  byValue := fun k v h => by
    rcases nIs_shape h with ⟨rfl, rfl⟩ | ⟨q, rfl, hq⟩
    · rfl
    · exact (mixKind prog w).byValue q v hq
  pyHash := fun hv h => by
    rcases nIs_shape hv with ⟨rfl, rfl⟩ | ⟨q, rfl, hq⟩
    · exact pyHash_none h
    · exact (mixKind prog w).pyHash hq h
  eqBool := fun {A E s a b u v Q} hu hv h => by
    rcases nIs_shape hu with ⟨rfl, rfl⟩ | ⟨q, rfl, hq⟩
    · rcases nIs_shape hv with ⟨rfl, rfl⟩ | ⟨q', rfl, hq'⟩
      · exact eqBool_none (by simpa using h)
      · have h' : Q false s := by simpa using h
        rcases keyIs_shape hq' with ⟨i, t, rfl, rfl⟩ | ⟨x, t, rfl, rfl⟩
        · exact SeqAt.EqAt.none_int i t _ _ _ _ h'
        · exact SeqAt.EqAt.none_str x t _ _ _ _ h'
    · rcases nIs_shape hv with ⟨rfl, rfl⟩ | ⟨q', rfl, hq'⟩
      · have h' : Q false s := by simpa using h
        rcases keyIs_shape hq with ⟨i, t, rfl, rfl⟩ | ⟨x, t, rfl, rfl⟩
        · exact SeqAt.EqAt.int_none i t _ _ _ _ h'
        · exact SeqAt.EqAt.str_none x t _ _ _ _ h'
      · refine (mixKind prog w).eqBool hq hq' ?_
        have e : decide ((some q : NKey) = some q') = decide (q = q') := by simp
        rw [← e]; exact h
  «strs» := fun k x t v h => by
    rcases nIs_shape h with ⟨rfl, e⟩ | ⟨q, rfl, hq⟩
    · exact nomatch e
    · exact (mixKind prog w).strs q x t v hq
end L2
namespace L2
open PySem PySem.Spec PyProof.Rows
inductive V where
  | non | bl (b : Bool) | int (i : Int) | str (x : Str) | byt (b : Array UInt8) | flt (b : UInt64) | ref (a : Addr) | ty (n : String)
  deriving DecidableEq
noncomputable def RelV : V → Value → Prop
  | .non, u => u = Value.none
  | .bl b, u => u = Value.bool b
  | .int i, u => ∃ t, u = Value.int i t
  | .str x, u => ∃ t, u = Value.str x t
  | .byt b, u => ∃ t, u = Value.bytes b t
  | .flt b, u => ∃ t, u = Value.float b t
  | .ref a, u => u = Value.ref a
  | .ty n, u => u = Value.type n
noncomputable abbrev Vals : List V → List Value → Prop := Paired RelV
theorem Vals.length {xs : List V} {us : List Value} (r : Vals xs us) : xs.length = us.length := Paired.length r
theorem Vals.get : ∀ {xs : List V} {us : List Value} {i : Nat} {x : V}, Vals xs us → xs[i]? = some x → ∃ u, us[i]? = some u ∧ RelV x u
  | _, _, _, _, .nil, e => by simp at e
  | _, _, 0, _, .cons r _, e => by simp at e; subst e; exact ⟨_, rfl, r⟩
  | _, _, i + 1, x, .cons _ t, e => by
    obtain ⟨u, h1, h2⟩ := Vals.get (i := i) (x := x) t (by simpa using e)
    exact ⟨u, by simpa using h1, h2⟩
theorem Vals.set {x : V} {u : Value} (r : RelV x u) : ∀ {xs : List V} {us : List Value} (i : Nat), Vals xs us → Vals (xs.set i x) (us.set i u)
  | _, _, _, .nil => .nil
  | _, _, 0, .cons _ t => .cons r t
  | _, _, i + 1, .cons q t => .cons q (Vals.set r i t)
theorem Vals.append : ∀ {xs ys : List V} {us ws : List Value}, Vals xs us → Vals ys ws → Vals (xs ++ ys) (us ++ ws)
  | _, _, _, _, .nil, s => s
  | _, _, _, _, .cons r t, s => .cons r (Vals.append t s)
theorem Vals.take : ∀ {xs : List V} {us : List Value} (n : Nat), Vals xs us → Vals (xs.take n) (us.take n)
  | _, _, 0, _ => .nil
  | _, _, _ + 1, .nil => .nil
  | _, _, n + 1, .cons r t => .cons r (Vals.take n t)
theorem Vals.drop : ∀ {xs : List V} {us : List Value} (n : Nat), Vals xs us → Vals (xs.drop n) (us.drop n)
  | _, _, 0, r => r
  | _, _, _ + 1, .nil => .nil
  | _, _, n + 1, .cons _ t => Vals.drop n t
noncomputable def RelO : Option V → Option Value → Prop
  | some v, some u => RelV v u
  | none, none => True
  | _, _ => False
noncomputable def KV {κ : Type} : List (κ × V) → List (κ × Value) → Prop := Paired fun (p : κ × V) (q : κ × Value) => p.1 = q.1 ∧ RelV p.2 q.2
noncomputable def kV : Key → V
  | .inl i => .int i
  | .inr x => .str x
noncomputable def nV : NKey → V
  | none => .non
  | some k => kV k
inductive HO where
  | lst (xs : List V)
  | tup (xs : List V)
  | dK (kvs : List (Key × V)) | dT (kvs : List (List NKey × V))
  | set (S : Int → Bool) (n : Nat)
  | ins (C dx : Addr) (fs : List (Str × V))
  | own (x : Addr)
  | xd (fs : List (Str × V))
  | met (f x : Addr)
  | rng (lo hi : Int)
  | frz (o : Obj) (u : HO)
  | tbl (ps : Array Value)
  | ext (φ : Heap → Prop)
noncomputable abbrev Hp := Addr → Option HO
noncomputable def upd (H : Hp) (a : Addr) (o : HO) : Hp := fun b => if b = a then some o else H b
theorem upd_same {H : Hp} {a : Addr} {o : HO} : upd H a o a = some o := by unfold upd; rw [if_pos rfl]
theorem upd_ne {H : Hp} {a b : Addr} {o : HO} (h : b ≠ a) : upd H a o b = H b := by unfold upd; rw [if_neg h]
theorem upd_upd {H : Hp} {a : Addr} {o u : HO} : upd (upd H a o) a u = upd H a u := by
  funext b; unfold upd; split <;> rfl
theorem ne_of {H : Hp} {a b : Addr} {o u : HO} (h : H a = some o) (h' : H b = some u) (d : o ≠ u) : a ≠ b := by
  intro e; subst e; rw [h] at h'; exact d (Option.some.inj h')
theorem ne_of_none {H : Hp} {a b : Addr} {o : HO} (h : H a = some o) (h' : H b = none) : a ≠ b := by
  intro e; subst e; rw [h] at h'; cases h'
section
variable (P : Program) (w : World)
noncomputable def ObjOk (H : Hp) (h : Heap) (a : Addr) : HO → Prop
  | .lst xs => xs.length ≤ sizeLine ∧ ∃ (its : List Value) (n : Nat), Vals xs its ∧ h.get? a = some { cls := .type "list", data := .seq its.toArray n }
  | .tup xs => xs.length ≤ sizeLine ∧ ∃ its : List Value, Vals xs its ∧ IsTup h a its.toArray
  | .dK kvs => kvs.length ≤ sizeLine ∧ (a == sysModules) = false ∧ ∃ vs, KV kvs vs ∧ h.DictOf (mixKind P w) a vs
  | .dT kvs => kvs.length ≤ sizeLine ∧ (a == sysModules) = false ∧ ∃ xs : List (List NKey × Addr × Value),
      Paired (fun (p : List NKey × V) (q : List NKey × Addr × Value) => p.1 = q.1 ∧ H q.2.1 = some (.tup (p.1.map nV)) ∧ RelV p.2 q.2.2) kvs xs ∧
      ∃ o es ep, h.get? a = some o ∧ o.ExactDict ∧ o.data = .dict es ep ∧ es.toList = xs.map (entryOfKey (tupleKind (optKind P w))) ∧ (xs.map (·.1)).Nodup
  | .set S n => h.SetOf (intKind P w) a S n
  | .ins C dx fs => H dx = some (.own a) ∧ fs.length ≤ 1000 ∧ dx ≠ a ∧ h.get? a = some (PySem.W.instObj C dx) ∧
      ∃ mA, h.Ns1 dx mA ∧ (∀ f, RelO (fs.lookup f) (mA f)) ∧ PySem.Within mA (fs.map (·.1))
  | .own _ => ∃ o, h.get? a = some o
  | .xd fs => ∃ mA, h.Ns1 a mA ∧ ∀ f, RelO (fs.lookup f) (mA f)
  | .rng lo hi => ∃ t u v, h.get? a = some { cls := .type "range", data := .fields #[.int lo t, .int hi u, .int 1 v] }
  | .frz o u => h.get? a = some o ∧ ObjOk H h a u
  | .tbl ps => h.get? a = some { cls := .none, data := .fields ps }
  | .met f x => h.get? a = some (PySem.W.methodObj (.ref f) (.ref x))
  | .ext φ => φ h ∧ (∃ o, h.get? a = some o) ∧ ∀ h1 h2 : Heap, φ h1 → (∀ o, h1.get? a = some o → h2.get? a = some o) → φ h2
noncomputable def HOk (H : Hp) (h : Heap) : Prop := ∀ a o, H a = some o → ObjOk P w H h a o
end
section
variable {P : Program} {w : World} {H H' : Hp} {h h' : Heap} {a : Addr} {o : HO}
theorem ObjOk.lt (x : ObjOk P w H h a o) : a < h.objs.size := by
  cases o with
  | lst xs => obtain ⟨_, _, _, _, e⟩ := x; exact Heap.lt_size e
  | tup xs => obtain ⟨_, _, _, p⟩ := x; exact p.lt
  | dK kvs => obtain ⟨_, _, _, _, o, _, _, e, _⟩ := x; exact Heap.lt_size e
  | dT kvs => obtain ⟨_, _, _, _, o, _, _, e, _⟩ := x; exact Heap.lt_size e
  | set S n => obtain ⟨o, _, _, _, e, _⟩ := x; exact Heap.lt_size e
  | ins C dx fs => obtain ⟨_, _, _, e, _⟩ := x; exact Heap.lt_size e
  | own y => obtain ⟨_, e⟩ := x; exact Heap.lt_size e
  | xd fs => obtain ⟨_, ⟨_, _, _, e, _⟩, _⟩ := x; exact Heap.lt_size e
  | rng lo hi => obtain ⟨_, _, _, e⟩ := x; exact Heap.lt_size e
  | frz ob u => obtain ⟨e, _⟩ := x; exact Heap.lt_size e
  | tbl ps => exact Heap.lt_size (show h.get? a = some _ from x)
  | met f y => exact Heap.lt_size (show h.get? a = some _ from x)
  | ext φ => obtain ⟨_, ⟨_, e⟩, _⟩ := x; exact Heap.lt_size e
theorem Paired.mapP {α β : Type} {F G : α → β → Prop} : ∀ {l₁ : List α} {l₂ : List β}, Paired F l₁ l₂ → (∀ a b, F a b → G a b) → Paired G l₁ l₂
  | _, _, .nil, _ => .nil
  | _, _, .cons r t, f => .cons (f _ _ r) (Paired.mapP t f)
theorem ObjOk.stay (x : ObjOk P w H h a o) (k : ∀ b u, (b = a ∨ H b = some (.own a)) → h.get? b = some u → h'.get? b = some u)
    (ho : ∀ b, H b = some (.own a) → H' b = some (.own a)) (ht : ∀ b xs, H b = some (.tup xs) → H' b = some (.tup xs)) : ObjOk P w H' h' a o := by
  induction o with
  | lst xs => obtain ⟨z, its, n, r, e⟩ := x; exact ⟨z, its, n, r, k _ _ (.inl rfl) e⟩
  | tup xs => obtain ⟨z, its, r, ob, e, c⟩ := x; exact ⟨z, its, r, ob, k _ _ (.inl rfl) e, c⟩
  | dK kvs => obtain ⟨z, y, vs, r, ob, es, ep, e, c⟩ := x; exact ⟨z, y, vs, r, ob, es, ep, k _ _ (.inl rfl) e, c⟩
  | dT kvs =>
    obtain ⟨z, y, xs, r, ob, es, ep, e, c⟩ := x
    exact ⟨z, y, xs, Paired.mapP r fun p q z => ⟨z.1, ht _ _ z.2.1, z.2.2⟩, ob, es, ep, k _ _ (.inl rfl) e, c⟩
  | set S n => obtain ⟨ob, es, ep, t, e, c⟩ := x; exact ⟨ob, es, ep, t, k _ _ (.inl rfl) e, c⟩
  | ins C dx fs =>
    obtain ⟨d, z, ne, e, mA, ⟨od, es, ep, e2, c⟩, r⟩ := x
    exact ⟨ho _ d, z, ne, k _ _ (.inl rfl) e, mA, ⟨od, es, ep, k _ _ (.inr d) e2, c⟩, r⟩
  | own y => obtain ⟨ob, e⟩ := x; exact ⟨ob, k _ _ (.inl rfl) e⟩
  | xd fs => obtain ⟨mA, ⟨od, es, ep, e, c⟩, r⟩ := x; exact ⟨mA, ⟨od, es, ep, k _ _ (.inl rfl) e, c⟩, r⟩
  | rng lo hi => obtain ⟨t, u, v, e⟩ := x; exact ⟨t, u, v, k _ _ (.inl rfl) e⟩
  | frz ob u ih => obtain ⟨e, q⟩ := x; exact ⟨k _ _ (.inl rfl) e, ih q⟩
  | tbl ps =>
    have e : h.get? a = some { cls := .none, data := .fields ps } := x
    show h'.get? a = some { cls := .none, data := .fields ps }
    exact k a _ (.inl rfl) e
  | met f y =>
    have e : h.get? a = some (PySem.W.methodObj (.ref f) (.ref y)) := x
    show h'.get? a = some (PySem.W.methodObj (.ref f) (.ref y))
    exact k a _ (.inl rfl) e
  | ext φ => obtain ⟨p, ⟨o, e⟩, st⟩ := x; exact ⟨st _ _ p fun o q => k _ _ (.inl rfl) q, ⟨o, k _ _ (.inl rfl) e⟩, st⟩
theorem HOk.lt (x : HOk P w H h) (e : H a = some o) : a < h.objs.size := (x a o e).lt
theorem HOk.fresh (x : HOk P w H h) (e : h.objs.size ≤ a) : H a = none := by
  cases q : H a with
  | none => rfl
  | some u => exact absurd (Nat.lt_of_lt_of_le (x.lt q) e) (Nat.lt_irrefl _)
theorem HOk.kept (x : HOk P w H h) (k : ∀ b u, h.get? b = some u → h'.get? b = some u) : HOk P w H h' := fun a o e =>
  (x a o e).stay (fun b u _ q => k b u q) (fun _ q => q) fun _ _ q => q
theorem HOk.laid (x : HOk P w H h) (k : ∀ b u, h.get? b = some u → h'.get? b = some u) (hp : h.objs.size ≤ a) (new : ObjOk P w (upd H a o) h' a o) : HOk P w (upd H a o) h' := fun b u e => by
  have hn := x.fresh hp
  by_cases hb : b = a
  · subst hb; rw [upd_same] at e; cases e; exact new
  · rw [upd_ne hb] at e
    exact (x b u e).stay (fun c v _ q => k c v q) (fun c q => by rw [upd_ne (ne_of_none q hn)]; exact q) fun c xs q => by rw [upd_ne (ne_of_none q hn)]; exact q
end
noncomputable def Rd (H : Hp) (a : Addr) (u : HO) : Prop := H a = some u ∨ ∃ o, H a = some (.frz o u)
theorem Rd.ok {P : Program} {w : World} {H : Hp} {h : Heap} {a : Addr} {u : HO} (r : Rd H a u) (x : HOk P w H h) : ObjOk P w H h a u := by
  rcases r with r | ⟨o, r⟩
  · exact x a u r
  · obtain ⟨_, q⟩ := x a _ r
    exact q
noncomputable def Mut : Option HO → Prop
  | some (.lst _) => True
  | some (.dK _) => True
  | some (.dT _) => True
  | some (.set _ _) => True
  | some (.ins _ _ _) => True
  | some (.ext _) => True
  | _ => False
section
variable {P : Program} {w : World} {H : Hp} {h h' : Heap} {x e : Addr} {o' : HO}
theorem HOk.write (ok : HOk P w H h) (mu : Mut (H x)) (he : e = x ∨ H e = some (.own x)) (k : ∀ b u, b ≠ e → h.get? b = some u → h'.get? b = some u) (heo : ∃ u, h'.get? e = some u)
    (new : ObjOk P w (upd H x o') h' x o') : HOk P w (upd H x o') h' := fun b u q => by
  have nown : ∀ c y, H c = some (.own y) → c ≠ x := fun c y r z => by subst z; rw [r] at mu; exact mu
  have ntup : ∀ c xs, H c = some (.tup xs) → c ≠ x := fun c xs r z => by subst z; rw [r] at mu; exact mu
  by_cases hb : b = x
  · subst hb; rw [upd_same] at q; cases q; exact new
  · rw [upd_ne hb] at q
    by_cases hbe : b = e
    · have q' : H b = some (.own x) := by
        rcases he with z | z
        · exact absurd (hbe.trans z) hb
        · rw [hbe]; exact z
      rw [q] at q'; cases q'
      obtain ⟨v, hv⟩ := heo
      exact ⟨v, by rw [hbe]; exact hv⟩
    · refine (ok b u q).stay (fun c v hc r => k c v ?_ r) (fun c r => by rw [upd_ne (nown c b r)]; exact r) fun c xs r => by rw [upd_ne (ntup c xs r)]; exact r
      rcases hc with rfl | hc
      · exact hbe
      · rintro rfl
        rcases he with z | z
        · exact nown c b hc z
        · rw [hc] at z; cases z; exact hb rfl
end
structure Un (fs ex : List Addr) (H H' : Hp) (h h' : Heap) : Prop where
  keep : ∀ b o, h.get? b = some o → H b = none → b ∉ fs → b ∉ ex → h'.get? b = some o
  slot : ∀ b o, h.get? b = some o → H b = none → b ∈ fs → b ∉ ex → ∃ sl, h'.get? b = some { o with slots := sl }
  free : ∀ b o, h.get? b = some o → H b = none → b ∉ ex → H' b = none
  there : ∀ b o, h.get? b = some o → b ∉ ex → ∃ o', h'.get? b = some o'
  tups : ∀ b xs, H b = some (.tup xs) → H' b = some (.tup xs)
  frzs : ∀ b o u, H b = some (.frz o u) → H' b = some (.frz o u)
  tbls : ∀ b ps, H b = some (.tbl ps) → ∃ more, H' b = some (.tbl (ps ++ more))
section
variable {fs fs' ex ex' : List Addr} {H H1 H2 : Hp} {h h1 h2 h' : Heap} {a x e : Addr} {o : HO}
theorem Un.any (u : Un fs ex H H1 h h1) {b : Addr} {ob : Obj} (q : h.get? b = some ob) (n : H b = none) (hx : b ∉ ex) : ∃ sl, h1.get? b = some { ob with slots := sl } := by
  by_cases hb : b ∈ fs
  · exact u.slot b ob q n hb hx
  · exact ⟨ob.slots, u.keep b ob q n hb hx⟩
theorem Un.kept (k : ∀ b u, h.get? b = some u → h'.get? b = some u) : Un fs ex H H h h' :=
  ⟨fun b ob q _ _ _ => k b ob q, fun b ob q _ _ _ => ⟨ob.slots, k b ob q⟩, fun _ _ _ n _ => n, fun b ob q _ => ⟨ob, k b ob q⟩, fun _ _ q => q, fun _ _ _ q => q, fun _ ps q => ⟨#[], by rw [q]; simp⟩⟩
theorem Un.refl : Un fs ex H H h h := Un.kept fun _ _ q => q
theorem Un.laid (k : ∀ b u, h.get? b = some u → h'.get? b = some u) (hp : h.objs.size ≤ a) (hn : H a = none) : Un fs ex H (upd H a o) h h' where
  keep := fun b u q _ _ _ => k b u q
  slot := fun b u q _ _ _ => ⟨u.slots, k b u q⟩
  free := fun b u q n _ => by rw [upd_ne (Nat.ne_of_lt (Nat.lt_of_lt_of_le (Heap.lt_size q) hp))]; exact n
  there := fun b u q _ => ⟨u, k b u q⟩
  tups := fun b xs q => by rw [upd_ne (ne_of_none q hn)]; exact q
  frzs := fun b u xs q => by rw [upd_ne (ne_of_none q hn)]; exact q
  tbls := fun b ps q => ⟨#[], by rw [upd_ne (ne_of_none q hn), q]; simp⟩
theorem Un.write (mu : Mut (H x)) (he : e = x ∨ H e = some (.own x)) (k : ∀ b u, b ≠ e → h.get? b = some u → h'.get? b = some u) (heo : ∃ u, h'.get? e = some u) : Un fs ex H (upd H x o) h h' := by
  have hx : ∀ b, H b = none → b ≠ x := fun b n z => by subst z; rw [n] at mu; exact mu
  have hb : ∀ b, H b = none → b ≠ e := fun b n z => by
    subst z
    rcases he with r | r
    · exact hx b n r
    · rw [n] at r; cases r
  have hm : ∀ b u, H b = some u → ¬ Mut (some u) → b ≠ x := fun b u q nm z => by subst z; rw [q] at mu; exact nm mu
  refine ⟨fun b u q n _ _ => k b u (hb b n) q, fun b u q n _ _ => ⟨u.slots, k b u (hb b n) q⟩, fun b u q n _ => by rw [upd_ne (hx b n)]; exact n, fun b u q _ => ?_,
    fun b xs q => by rw [upd_ne (hm b _ q fun z => z)]; exact q, fun b u xs q => by rw [upd_ne (hm b _ q fun z => z)]; exact q, fun b ps q => ⟨#[], by rw [upd_ne (hm b _ q fun z => z), q]; simp⟩⟩
  by_cases hbe : b = e
  · subst hbe; exact heo
  · exact ⟨u, k b u hbe q⟩
end
noncomputable def trk (h : Heap) (H : Hp) : List Addr := (List.range h.objs.size).filter fun a => (H a).isSome
noncomputable def hidT (h : Heap) (H : Hp) : Heap := PySem.W.hideAll h (trk h H)
theorem hidT_size (h : Heap) (H : Hp) : (hidT h H).objs.size = h.objs.size := PySem.W.hideAll_size _ _
theorem hidT_get {h : Heap} {H : Hp} {b : Addr} {o : Obj} (e : h.get? b = some o) (n : H b = none) : (hidT h H).get? b = some o :=
  PySem.W.hideAll_get _ e fun hm => by
    have q : (H b).isSome = true := (List.mem_filter.mp hm).2
    rw [n] at q; simp at q
theorem of_hidT {h : Heap} {H : Hp} {b : Addr} {o : Obj} (e : (hidT h H).get? b = some o) : h.get? b = some o ∧ H b = none := by
  have e' : h.get? b = some o := PySem.W.of_hideAll (trk h H) e
  refine ⟨e', ?_⟩
  cases q : H b with
  | none => rfl
  | some x =>
    have hm : b ∈ trk h H := List.mem_filter.mpr ⟨List.mem_range.mpr (Heap.lt_size e'), by simp [q]⟩
    have z : (hidT h H).get? b = none := PySem.W.hideAll_none (trk h H) hm
    rw [z] at e; cases e
end L2
namespace L2
open PySem PySem.Spec PyProof.Rows
structure Mod (K : PySem.W.Frag) (mg : Str → Option Value) (base : Heap) : Prop where
  kin : K.In base
  glob : base.Ns mainGlobals mg
  blt : ∃ mb, base.Ns builtinsNs mb ∧ ∀ x : Str, x ≠ "__name__" → mb x = bootBuiltins x
  nolimit : base.NoLimit
structure Cx where
  prog : Program
  w : World
  K : PySem.W.Frag
  mg : Str → Option Value
  base : Heap
  A : Around
  N : List Str
  s₀ : Shared
  H₀ : Hp
  env : Env
  outer : List Env
  stack : List Env
  ex : List Addr
  fn : Str → Bool
  calm : Bool
  pn : List (Addr × Obj)
  xe : Value → Shared → Prop
noncomputable def frs (l : List Env) : List Addr := l.filterMap (·.frame)
noncomputable abbrev Cx.fs (X : Cx) : List Addr := frs X.outer
noncomputable def Vis (sc : Scope) (x : Str) : Prop := sc.names.lookup x = some .local ∨ sc.names.lookup x = some .cell ∨ sc.names.lookup x = some .free
noncomputable def Loc (sc : Scope) (x : Str) : Prop := sc.names.lookup x = some .local ∨ sc.names.lookup x = some .cell
noncomputable def Look (env : Env) (h : Heap) (m : Str → Option Value) (x : Str) (u : Value) : Prop :=
  (env.kindOf x = some .local ∧ m x = some u) ∨ ((env.kindOf x = some .cell ∨ env.kindOf x = some .free) ∧ ∃ c, env.cells.lookup x = some c ∧ h.IsCell c (some u))
structure Cx.Ok (X : Cx) : Prop where
  mod : Mod X.K X.mg X.base
  kind : X.env.scope.kind = .function
  glob : X.env.globals = mainGlobals
  blt : X.env.builtins = builtinsNs
  above : X.s₀.heap.objs.size ≤ X.env.locals
  inj : ∀ x y c, X.env.cells.lookup x = some c → X.env.cells.lookup y = some c → x = y
  has : ∀ x, (X.env.kindOf x = some .cell ∨ X.env.kindOf x = some .free) → ∃ c, X.env.cells.lookup x = some c
  cab : ∀ x c, X.fn x = true → X.env.cells.lookup x = some c → X.s₀.heap.objs.size ≤ c
  hd : X.calm = true → X.A.handled = none
  frames : X.A.frames = some X.stack
  stk : X.stack = X.outer ∨ (X.stack = X.env :: X.outer ∧ X.env.frame = some X.env.locals)
  exf : ∀ b ∈ X.ex, b ≠ X.env.locals ∧ ∀ x c, X.env.cells.lookup x = some c → c ≠ b
  bs : ∀ b o, X.base.get? b = some o → X.s₀.heap.get? b = some o ∧ X.H₀ b = none
  bsz : X.base.objs.size ≤ X.s₀.heap.objs.size
  noex : ∀ b o, X.base.get? b = some o → b ∉ X.ex
  exfs : ∀ b ∈ X.ex, b ∉ X.fs
  funs : X.s₀.heap.FunFrames X.base X.outer
  frf : ∀ b ∈ X.fs, X.H₀ b = none
structure Inv (X : Cx) (pins : List (Addr × Obj)) (σ : List (Option V)) (H : Hp) (s : Shared) : Prop where
  ok : X.Ok
  os : s.os = X.s₀.os
  bare : AllBare s.gens
  base : Un X.fs X.ex X.H₀ H X.s₀.heap s.heap
  loc : ∃ m, s.heap.Ns X.env.locals m ∧ ∀ (i : Nat) (x : Str) (v : V), X.N[i]? = some x → σ[i]? = some (some v) → Vis X.env.scope x → ∃ u, RelV v u ∧ Look X.env s.heap m x u
  cell : ∀ x c, X.env.cells.lookup x = some c → ∃ v, s.heap.IsCell c v
  free : H X.env.locals = none
  freeC : ∀ x c, X.env.cells.lookup x = some c → H c = none
  pin : ∀ p ∈ X.pn ++ pins, s.heap.get? p.1 = some p.2 ∧ H p.1 = none ∧ p.1 ≠ X.env.locals ∧ p.1 ∉ X.fs ∧ ∀ v, p.2.data ≠ .cell v
  hok : HOk X.prog X.w H s.heap
  len : σ.length = X.N.length
section
variable {X : Cx} {pins : List (Addr × Obj)} {σ : List (Option V)} {H H' : Hp} {s : Shared} {h' : Heap}
theorem Cx.Ok.nofr (ok : X.Ok) {b : Addr} {o : Obj} (e : X.base.get? b = some o) : b ∉ X.fs := fun hb => by
  have := (ok.funs.mem hb).1
  rw [e] at this; cases this
theorem Inv.bs (I : Inv X pins σ H s) : ∀ b o, X.base.get? b = some o → s.heap.get? b = some o ∧ H b = none := fun b o e =>
  ⟨I.base.keep b o (I.ok.bs b o e).1 (I.ok.bs b o e).2 (I.ok.nofr e) (I.ok.noex b o e), I.base.free b o (I.ok.bs b o e).1 (I.ok.bs b o e).2 (I.ok.noex b o e)⟩
theorem Inv.bk (I : Inv X pins σ H s) : ∀ b o, X.base.get? b = some o → s.heap.get? b = some o := fun b o e => (I.bs b o e).1
theorem Inv.mod (I : Inv X pins σ H s) : Mod X.K X.mg X.base := I.ok.mod
theorem Inv.kIn (I : Inv X pins σ H s) : X.K.In s.heap := I.ok.mod.kin.keeps I.bk
theorem Inv.lt (I : Inv X pins σ H s) : X.env.locals < s.heap.objs.size := let ⟨_, hn, _⟩ := I.loc; hn.lt
theorem Inv.sz (I : Inv X pins σ H s) : X.s₀.heap.objs.size ≤ s.heap.objs.size := Nat.le_trans I.ok.above (Nat.le_of_lt I.lt)
theorem Inv.nofs (I : Inv X pins σ H s) {a : Addr} (h : s.heap.objs.size ≤ a) : a ∉ X.fs := fun hb => by
  obtain ⟨_, o, ho, _⟩ := I.ok.funs.mem hb
  exact absurd (Nat.lt_of_lt_of_le (Heap.lt_size ho) (Nat.le_trans I.sz h)) (Nat.lt_irrefl _)
theorem Inv.cne (I : Inv X pins σ H s) : ∀ x c, X.env.cells.lookup x = some c → c ≠ X.env.locals := fun x c e z => by
  obtain ⟨v, o, ho, hd⟩ := I.cell x c e
  obtain ⟨m, ⟨o', es, ep, ho', hd', _⟩, _⟩ := I.loc
  rw [z, ho'] at ho; cases ho; rw [hd'] at hd; cases hd
theorem Inv.funs (I : Inv X pins σ H s) : s.heap.FunFrames X.base X.outer := by
  have all : ∀ (l : List Env), (∀ b ∈ frs l, b ∈ X.fs) → X.s₀.heap.FunFrames X.base l → s.heap.FunFrames X.base l := by
    intro l
    induction l with
    | nil => intro _ _; trivial
    | cons env r ih =>
      intro hs hl
      obtain ⟨hk, ⟨L, o, hf, hn, ho, hd⟩, hr⟩ := hl
      have hL : L ∈ X.fs := hs L (by unfold frs; rw [List.filterMap_cons, hf]; exact List.mem_cons_self)
      obtain ⟨sl, e⟩ := I.base.slot L o ho (I.ok.frf L hL) hL fun z => I.ok.exfs L z hL
      exact ⟨hk, ⟨L, _, hf, hn, e, hd⟩, ih (fun b hb => hs b (by unfold frs; rw [List.filterMap_cons, hf]; exact List.mem_cons_of_mem _ hb)) hr⟩
  exact all X.outer (fun _ hb => hb) I.ok.funs
theorem Inv.stack (I : Inv X pins σ H s) : s.heap.FunFrames X.base X.stack := by
  rcases I.ok.stk with e | ⟨e, hf⟩
  · rw [e]; exact I.funs
  · rw [e]
    obtain ⟨m, hn, _⟩ := I.loc
    refine .cons (by rw [I.ok.kind]; decide) hf hn ?_ I.funs
    exact Heap.get?_none_of_le (Nat.le_trans I.ok.bsz I.ok.above)
theorem Inv.stkSub (I : Inv X pins σ H s) : ∀ b ∈ frs X.stack, b ∈ X.env.locals :: X.fs := fun b hb => by
  rcases I.ok.stk with e | ⟨e, hf⟩
  · rw [e] at hb; exact List.mem_cons_of_mem _ hb
  · rw [e] at hb
    unfold frs at hb
    rw [List.filterMap_cons, hf] at hb
    exact hb
theorem Inv.stkFree (I : Inv X pins σ H s) : ∀ b ∈ frs X.stack, H b = none := fun b hb => by
  rcases List.mem_cons.mp (I.stkSub b hb) with e | hb
  · rw [e]; exact I.free
  · obtain ⟨_, o, ho, _⟩ := I.ok.funs.mem hb
    exact I.base.free b o ho (I.ok.frf b hb) fun z => I.ok.exfs b z hb
theorem Inv.step {g' : Array GenState} {t' : Nat} {d' : Drawn} {ch : List Addr} (I : Inv X pins σ H s)
    (hch : ∀ b ∈ ch, (b ∈ X.ex ∨ X.s₀.heap.objs.size ≤ b) ∧ b ≠ X.env.locals ∧ (∀ x c, X.env.cells.lookup x = some c → c ≠ b) ∧ ∀ p ∈ X.pn ++ pins, p.1 ≠ b)
    (keep : ∀ b o, b ≠ X.env.locals → b ∉ X.fs → b ∉ ch → s.heap.get? b = some o → H b = none → h'.get? b = some o)
    (slot : ∀ b o, b ≠ X.env.locals → b ∈ X.fs → b ∉ ch → s.heap.get? b = some o → H b = none → ∃ sl, h'.get? b = some { o with slots := sl }) (free : ∀ b o, b ∉ ch → s.heap.get? b = some o → H b = none → H' b = none)
    (there : ∀ b o, b ∉ ch → s.heap.get? b = some o → ∃ o', h'.get? b = some o')
    (tups : ∀ b xs, H b = some (.tup xs) → H' b = some (.tup xs)) (frzs : ∀ b o u, H b = some (.frz o u) → H' b = some (.frz o u)) (tbls : ∀ b ps, H b = some (.tbl ps) → ∃ more, H' b = some (.tbl (ps ++ more)))
    (ns : ∀ m, s.heap.Ns X.env.locals m → h'.Ns X.env.locals m) (hok : HOk X.prog X.w H' h') (hg : AllBare g') :
    Inv X pins σ H' { s with heap := h', gens := g', drawn := d', toks := t' } := by
  have neL : ∀ b o, X.s₀.heap.get? b = some o → b ≠ X.env.locals := fun b o e => Nat.ne_of_lt (Nat.lt_of_lt_of_le (Heap.lt_size e) I.ok.above)
  have neC : ∀ b o, X.s₀.heap.get? b = some o → b ∉ X.ex → b ∉ ch := fun b o e hx hb => by
    rcases (hch b hb).1 with z | z
    · exact hx z
    · exact absurd (Nat.lt_of_lt_of_le (Heap.lt_size e) z) (Nat.lt_irrefl _)
  have cellK : ∀ x c, X.env.cells.lookup x = some c → ∀ v, s.heap.IsCell c v → h'.IsCell c v := fun x c e v ⟨o, ho, hd⟩ => by
    have nch : c ∉ ch := fun z => (hch c z).2.2.1 x c e rfl
    by_cases hc : c ∈ X.fs
    · obtain ⟨sl, q⟩ := slot c o (I.cne x c e) hc nch ho (I.freeC x c e)
      exact ⟨_, q, hd⟩
    · exact ⟨o, keep c o (I.cne x c e) hc nch ho (I.freeC x c e), hd⟩
  refine ⟨I.ok, I.os, hg, ⟨fun b o e n hb hx => ?_, fun b o e n hb hx => ?_, fun b o e n hx => ?_, fun b o e hx => ?_, fun b xs e => tups b xs (I.base.tups b xs e), fun b o xs e => frzs b o xs (I.base.frzs b o xs e), fun b ps e => ?_⟩, ?_, fun x c e => ?_, ?_, fun x c e => ?_, fun p hp => ?_, hok, I.len⟩
  · exact keep b o (neL b o e) hb (neC b o e hx) (I.base.keep b o e n hb hx) (I.base.free b o e n hx)
  · obtain ⟨sl, e1⟩ := I.base.slot b o e n hb hx
    obtain ⟨sl', e2⟩ := slot b _ (neL b o e) hb (neC b o e hx) e1 (I.base.free b o e n hx)
    exact ⟨sl', e2⟩
  · obtain ⟨o', e1⟩ := I.base.there b o e hx
    exact free b o' (neC b o e hx) e1 (I.base.free b o e n hx)
  · obtain ⟨o', e1⟩ := I.base.there b o e hx
    exact there b o' (neC b o e hx) e1
  · obtain ⟨m1, e1⟩ := I.base.tbls b ps e
    obtain ⟨m2, e2⟩ := tbls b _ e1
    exact ⟨m1 ++ m2, by rw [e2, Array.append_assoc]⟩
  · obtain ⟨m, hn, hl⟩ := I.loc
    refine ⟨m, ns m hn, fun i x v e1 e2 e3 => ?_⟩
    obtain ⟨u, r, l⟩ := hl i x v e1 e2 e3
    refine ⟨u, r, ?_⟩
    rcases l with l | ⟨k, c, e, z⟩
    · exact .inl l
    · exact .inr ⟨k, c, e, cellK x c e _ z⟩
  · obtain ⟨v, z⟩ := I.cell x c e
    exact ⟨v, cellK x c e v z⟩
  · obtain ⟨m, ⟨o, _, _, ho, _⟩, _⟩ := I.loc
    exact free _ o (fun z => (hch _ z).2.1 rfl) ho I.free
  · obtain ⟨v, o, ho, hd⟩ := I.cell x c e
    exact free c o (fun z => (hch c z).2.2.1 x c e rfl) ho (I.freeC x c e)
  · obtain ⟨e, n, ne, nf, d⟩ := I.pin p hp
    have nch : p.1 ∉ ch := fun z => (hch p.1 z).2.2.2 p hp rfl
    exact ⟨keep p.1 p.2 ne nf nch e n, free p.1 p.2 nch e n, ne, nf, d⟩
theorem Inv.un {t' : Nat} (I : Inv X pins σ H s) (u : Un X.fs [] H H' s.heap h') (hok : HOk X.prog X.w H' h') : Inv X pins σ H' { s with heap := h', toks := t' } := by
  obtain ⟨m, ⟨o, es, ep, ho, r⟩, _⟩ := id I.loc
  obtain ⟨sl, hL⟩ := u.any ho I.free (by simp)
  exact I.step (g' := s.gens) (d' := s.drawn) (ch := []) (fun _ z => nomatch z) (fun b o _ hb _ e n => u.keep b o e n hb (by simp)) (fun b o _ hb _ e n => u.slot b o e n hb (by simp)) (fun b o _ e n => u.free b o e n (by simp)) (fun b o _ e => u.there b o e (by simp)) u.tups u.frzs u.tbls (fun m' hm => by
    obtain ⟨o', es', ep', ho', r'⟩ := hm
    rw [ho] at ho'; cases ho'
    exact ⟨_, es', ep', hL, r'⟩) hok I.bare
theorem Inv.call {g' : Array GenState} {t' : Nat} {d' : Drawn} {ch : List Addr} (I : Inv X pins σ H s) (u : Un (frs X.stack) ch H H' s.heap h') (hok : HOk X.prog X.w H' h') (hg : AllBare g')
    (hch : ∀ b ∈ ch, (b ∈ X.ex ∨ X.s₀.heap.objs.size ≤ b) ∧ b ≠ X.env.locals ∧ (∀ x c, X.env.cells.lookup x = some c → c ≠ b) ∧ ∀ p ∈ X.pn ++ pins, p.1 ≠ b) :
    Inv X pins σ H' { s with heap := h', gens := g', drawn := d', toks := t' } := by
  obtain ⟨m, ⟨o, es, ep, ho, r⟩, _⟩ := id I.loc
  obtain ⟨sl, hL⟩ := u.any ho I.free fun z => (hch _ z).2.1 rfl
  exact I.step (ch := ch) hch (fun b o hL hb hc e n => u.keep b o e n (fun z => (List.mem_cons.mp (I.stkSub b z)).elim hL hb) hc) (fun b o _ _ hc e n => u.any e n hc) (fun b o hc e n => u.free b o e n hc) (fun b o hc e => u.there b o e hc) u.tups u.frzs u.tbls (fun m' hm => by
    obtain ⟨o', es', ep', ho', r'⟩ := hm
    rw [ho] at ho'; cases ho'
    exact ⟨_, es', ep', hL, r'⟩) hok hg
theorem Inv.turned {t' : Nat} {it : Addr} (I : Inv X pins σ H s) (k : ∀ b o, b ≠ it → s.heap.get? b = some o → h'.get? b = some o) (hn : H it = none) (hL : it ≠ X.env.locals)
    (h1 : it ∈ X.ex ∨ X.s₀.heap.objs.size ≤ it) (h2 : ∀ x c, X.env.cells.lookup x = some c → c ≠ it) (h3 : ∀ p ∈ X.pn ++ pins, p.1 ≠ it) : Inv X pins σ H { s with heap := h', toks := t' } := by
  have nit : ∀ b u, H b = some u → b ≠ it := fun b u e z => by rw [z, hn] at e; cases e
  refine I.step (g' := s.gens) (d' := s.drawn) (ch := [it]) (fun b hb => ?_) (fun b o _ _ hc e _ => k b o (fun z => hc (by simp [z])) e) (fun b o _ _ hc e _ => ⟨o.slots, k b o (fun z => hc (by simp [z])) e⟩) (fun _ _ _ _ n => n)
    (fun b o hc e => ⟨o, k b o (fun z => hc (by simp [z])) e⟩) (fun _ _ e => e) (fun _ _ _ e => e) (fun b ps e => ⟨#[], by rw [e]; simp⟩) (fun m hm => ?_) (fun b u e => ?_) I.bare
  · have e : b = it := by simpa using hb
    subst e
    exact ⟨h1, hL, h2, h3⟩
  · obtain ⟨o, es, ep, ho, r⟩ := hm
    exact ⟨o, es, ep, k _ o (Ne.symm hL) ho, r⟩
  · refine (I.hok b u e).stay (fun c v hc q => k c v ?_ q) (fun _ q => q) fun _ _ q => q
    rcases hc with z | z
    · rw [z]; exact nit b u e
    · exact nit c _ z
theorem Inv.tok (I : Inv X pins σ H s) (t : Nat) : Inv X pins σ H { s with toks := t } := I.un (h' := s.heap) (t' := t) Un.refl I.hok
theorem Inv.kept {t' : Nat} (I : Inv X pins σ H s) (k : ∀ b u, s.heap.get? b = some u → h'.get? b = some u) : Inv X pins σ H { s with heap := h', toks := t' } := I.un (Un.kept k) (I.hok.kept k)
theorem Inv.laid {a : Addr} {o : HO} {t' : Nat} (I : Inv X pins σ H s) (k : ∀ b u, s.heap.get? b = some u → h'.get? b = some u) (hp : s.heap.objs.size ≤ a) (new : ObjOk X.prog X.w (upd H a o) h' a o) :
    Inv X pins σ (upd H a o) { s with heap := h', toks := t' } := I.un (Un.laid k hp (I.hok.fresh hp)) (I.hok.laid k hp new)
theorem Inv.write {x e : Addr} {o : HO} {t' : Nat} (I : Inv X pins σ H s) (mu : Mut (H x)) (he : e = x ∨ H e = some (.own x)) (k : ∀ b u, b ≠ e → s.heap.get? b = some u → h'.get? b = some u) (heo : ∃ u, h'.get? e = some u)
    (new : ObjOk X.prog X.w (upd H x o) h' x o) : Inv X pins σ (upd H x o) { s with heap := h', toks := t' } := I.un (Un.write mu he k heo) (I.hok.write mu he k heo new)
theorem Inv.pins_of {pins' : List (Addr × Obj)} (I : Inv X pins σ H s) (h : ∀ p ∈ pins', s.heap.get? p.1 = some p.2 ∧ H p.1 = none ∧ p.1 ≠ X.env.locals ∧ p.1 ∉ X.fs ∧ ∀ v, p.2.data ≠ .cell v) : Inv X pins' σ H s :=
  ⟨I.ok, I.os, I.bare, I.base, I.loc, I.cell, I.free, I.freeC, fun p hp => (List.mem_append.mp hp).elim (fun z => I.pin p (List.mem_append_left _ z)) (h p), I.hok, I.len⟩
theorem nodup_ix {N : List Str} (hN : N.Nodup) {i j : Nat} {x : Str} (a : N[i]? = some x) (b : N[j]? = some x) : i = j := by
  obtain ⟨h1, e1⟩ := List.getElem?_eq_some_iff.mp a
  obtain ⟨h2, e2⟩ := List.getElem?_eq_some_iff.mp b
  exact (List.getElem_inj hN).mp (e1.trans e2.symm)
theorem store_ok2 {M : Model} {A : Around} {E : Value → Shared → Prop} {i : Nat} {x : Str} {v : V} {u : Value} {Q : Unit → Shared → Prop} (I : Inv X pins σ H s) (hN : X.N.Nodup) (hi : X.N[i]? = some x) (hx : Loc X.env.scope x) (r : RelV v u)
    (h : ∀ s', Inv X pins (σ.set i (some v)) H s' → (∃ a, Heap.SameBut a s.heap s'.heap ∧ (a = X.env.locals ∨ X.env.cells.lookup x = some a)) → Q () s') (hf : X.fn x = true ∨ X.env.scope.names.lookup x = some .local := by first | exact .inl rfl | exact .inr rfl | assumption) : wpAny M A (storeName X.env x u) Q E s := by
  obtain ⟨m, hn, hl⟩ := id I.loc
  have hcls : (X.env.scope.kind == .class || (X.env.scope.kind == .module && X.env.locals != X.env.globals)) = false := by rw [I.ok.kind]; rfl
  have hiσ : i < σ.length := by rw [I.len]; exact (List.getElem?_eq_some_iff.mp hi).1
  have cne := I.cne
  have tracked : ∀ {a : Addr} {h' : Heap}, (∃ o, s.heap.get? a = some o ∧ H a = none) → Heap.SameBut a s.heap h' → HOk X.prog X.w H h' := fun {a h'} ha hs b ob e => by
    obtain ⟨_, _, hfree⟩ := ha
    refine (I.hok b ob e).stay (fun c w' hc q => (hs.2 c ?_).trans q) (fun _ q => q) fun _ _ q => q
    rintro rfl
    rcases hc with rfl | hc
    · rw [hfree] at e; cases e
    · rw [hfree] at hc; cases hc
  rcases hx with hk | hk
  · refine wpAny_storeName_local hk hn (fun h' hn' hs => ?_) hcls
    obtain ⟨oL, _, _, hoL, _⟩ := id hn
    refine h _ ⟨I.ok, I.os, I.bare, ⟨fun b o e n hb hx => ?_, fun b o e n hb hx => ?_, I.base.free, fun b o e hx => ?_, I.base.tups, I.base.frzs, I.base.tbls⟩, ⟨_, hn', fun j y v' e1 e2 e3 => ?_⟩, fun y c e => ?_, I.free, I.freeC, fun p hp => ?_, tracked ⟨oL, hoL, I.free⟩ hs, by simpa using I.len⟩ ⟨_, hs, .inl rfl⟩
    · exact (hs.2 b (Nat.ne_of_lt (Nat.lt_of_lt_of_le (Heap.lt_size e) I.ok.above))).trans (I.base.keep b o e n hb hx)
    · obtain ⟨sl, e1⟩ := I.base.slot b o e n hb hx
      exact ⟨sl, (hs.2 b (Nat.ne_of_lt (Nat.lt_of_lt_of_le (Heap.lt_size e) I.ok.above))).trans e1⟩
    · obtain ⟨o', e1⟩ := I.base.there b o e hx
      exact ⟨o', (hs.2 b (Nat.ne_of_lt (Nat.lt_of_lt_of_le (Heap.lt_size e) I.ok.above))).trans e1⟩
    · by_cases hj : j = i
      · subst hj
        rw [hi] at e1; cases e1
        rw [List.getElem?_set_self hiσ] at e2
        cases e2
        exact ⟨u, r, .inl ⟨hk, by simp⟩⟩
      · rw [List.getElem?_set_ne (Ne.symm hj)] at e2
        obtain ⟨u', r', q⟩ := hl j y v' e1 e2 e3
        refine ⟨u', r', ?_⟩
        rcases q with ⟨k, e⟩ | ⟨k, c, e, z⟩
        · refine .inl ⟨k, ?_⟩
          have : y ≠ x := fun e => hj (nodup_ix hN e1 (e ▸ hi))
          simp [this, e]
        · exact .inr ⟨k, c, e, z.sameBut hs (cne y c e)⟩
    · obtain ⟨w', z⟩ := I.cell y c e
      exact ⟨w', z.sameBut hs (cne y c e)⟩
    · obtain ⟨e, n, ne, nf, d⟩ := I.pin p hp
      exact ⟨(hs.2 p.1 ne).trans e, n, ne, nf, d⟩
  · have hfn : X.fn x = true := by
      rcases hf with z | z
      · exact z
      · rw [z] at hk; cases hk
    obtain ⟨c, hc⟩ := I.ok.has x (.inl hk)
    obtain ⟨w', z⟩ := I.cell x c hc
    refine wpAny_storeName_cell I.ok.kind hk hc z (fun h' hc' hs => ?_)
    obtain ⟨oc, hoc, hocd⟩ := id z
    refine h { s with heap := h' } ⟨I.ok, I.os, I.bare, ⟨fun b o e n hb hx => ?_, fun b o e n hb hx => ?_, I.base.free, fun b o e hx => ?_, I.base.tups, I.base.frzs, I.base.tbls⟩, ⟨m, hn.sameBut hs (Ne.symm (cne x c hc)), fun j y v' e1 e2 e3 => ?_⟩, fun y c' e => ?_, I.free, I.freeC, fun p hp => ?_, tracked ⟨oc, hoc, I.freeC x c hc⟩ hs, by simpa using I.len⟩ ⟨c, hs, .inr hc⟩
    · exact (hs.2 b (Nat.ne_of_lt (Nat.lt_of_lt_of_le (Heap.lt_size e) (I.ok.cab x c hfn hc)))).trans (I.base.keep b o e n hb hx)
    · obtain ⟨sl, e1⟩ := I.base.slot b o e n hb hx
      exact ⟨sl, (hs.2 b (Nat.ne_of_lt (Nat.lt_of_lt_of_le (Heap.lt_size e) (I.ok.cab x c hfn hc)))).trans e1⟩
    · obtain ⟨o', e1⟩ := I.base.there b o e hx
      exact ⟨o', (hs.2 b (Nat.ne_of_lt (Nat.lt_of_lt_of_le (Heap.lt_size e) (I.ok.cab x c hfn hc)))).trans e1⟩
    · by_cases hj : j = i
      · subst hj
        rw [hi] at e1; cases e1
        rw [List.getElem?_set_self hiσ] at e2
        cases e2
        exact ⟨u, r, .inr ⟨.inl hk, c, hc, hc'⟩⟩
      · rw [List.getElem?_set_ne (Ne.symm hj)] at e2
        obtain ⟨u', r', q⟩ := hl j y v' e1 e2 e3
        refine ⟨u', r', ?_⟩
        rcases q with q | ⟨k, c', e, z'⟩
        · exact .inl q
        · refine .inr ⟨k, c', e, z'.sameBut hs ?_⟩
          rintro rfl
          exact hj (nodup_ix hN e1 (I.ok.inj _ _ _ e hc ▸ hi))
    · by_cases hcc : c' = c
      · subst hcc; exact ⟨_, hc'⟩
      · obtain ⟨w2, z2⟩ := I.cell y c' e
        exact ⟨w2, z2.sameBut hs hcc⟩
    · obtain ⟨e, n, ne, nf, d⟩ := I.pin p hp
      refine ⟨(hs.2 p.1 ?_).trans e, n, ne, nf, d⟩
      intro q
      rw [q, hoc] at e
      have q' : oc = p.2 := Option.some.inj e
      exact d w' (by rw [← q']; exact hocd)
theorem store_ok {M : Model} {A : Around} {E : Value → Shared → Prop} {i : Nat} {x : Str} {v : V} {u : Value} {Q : Unit → Shared → Prop} (I : Inv X pins σ H s) (hN : X.N.Nodup) (hi : X.N[i]? = some x) (hx : Loc X.env.scope x) (r : RelV v u)
    (h : ∀ s', Inv X pins (σ.set i (some v)) H s' → Q () s') (hf : X.fn x = true ∨ X.env.scope.names.lookup x = some .local := by first | exact .inl rfl | exact .inr rfl | assumption) : wpAny M A (storeName X.env x u) Q E s :=
  store_ok2 I hN hi hx r (fun s' I' _ => h s' I') hf
theorem Inv.call' {s' : Shared} {ch : List Addr} (I : Inv X pins σ H s) (ho : s'.os = s.os) (u : Un (frs X.stack) ch H H' s.heap s'.heap) (hok : HOk X.prog X.w H' s'.heap) (hg : AllBare s'.gens)
    (hch : ∀ b ∈ ch, (b ∈ X.ex ∨ X.s₀.heap.objs.size ≤ b) ∧ b ≠ X.env.locals ∧ (∀ x c, X.env.cells.lookup x = some c → c ≠ b) ∧ ∀ p ∈ X.pn ++ pins, p.1 ≠ b) : Inv X pins σ H' s' := by
  obtain ⟨h', g', d', t', o'⟩ := s'
  have e : o' = s.os := ho
  subst e
  exact I.call (g' := g') (t' := t') (d' := d') u hok hg hch
end
noncomputable abbrev XK := Value → Option Addr → Hp → Prop
noncomputable abbrev St := List (Option V)
noncomputable abbrev VK := V → Hp → Prop
noncomputable abbrev TE := St → Hp → VK → Prop
noncomputable abbrev TT := St → Hp → (Bool → Hp → Prop) → Prop
noncomputable abbrev TA := St → Hp → (List V → Hp → Prop) → Prop
structure Ends where
  nx : St → Hp → Prop
  rt : VK
  bk : St → Hp → Prop := fun _ _ => False
  ct : St → Hp → Prop := fun _ _ => False
noncomputable abbrev TS := Ends → St → Hp → Prop
noncomputable def EP (X : Cx) (pins : List (Addr × Obj)) (σ : St) (Q : VK) (u : Value) (s' : Shared) : Prop := ∃ v H', Inv X pins σ H' s' ∧ RelV v u ∧ Q v H'
noncomputable def TP (X : Cx) (pins : List (Addr × Obj)) (σ : St) (Q : Bool → Hp → Prop) (b : Bool) (s' : Shared) : Prop := ∃ H', Inv X pins σ H' s' ∧ Q b H'
noncomputable def AP (X : Cx) (pins : List (Addr × Obj)) (σ : St) (Q : List V → Hp → Prop) (us : List Value) (s' : Shared) : Prop := ∃ vs H', Inv X pins σ H' s' ∧ Vals vs us ∧ Q vs H'
noncomputable def SP (X : Cx) (pins : List (Addr × Obj)) (D : Ends) (f : Flow) (s' : Shared) : Prop :=
  match f with
  | .next => ∃ σ' H', Inv X pins σ' H' s' ∧ D.nx σ' H'
  | .brk => ∃ σ' H', Inv X pins σ' H' s' ∧ D.bk σ' H'
  | .cont => ∃ σ' H', Inv X pins σ' H' s' ∧ D.ct σ' H'
  | .ret u => ∃ v σ' H', Inv X pins σ' H' s' ∧ RelV v u ∧ D.rt v H'
noncomputable def PE (X : Cx) (e : Expr) (t : TE) : Prop :=
  ∀ (pins : List (Addr × Obj)) (s : Shared) (σ : St) (H : Hp) (Q : VK), Inv X pins σ H s → t σ H Q → wpAny (model X.prog X.w) X.A (eval e X.env) (EP X pins σ Q) X.xe s
noncomputable def PT (X : Cx) (e : Expr) (t : TT) : Prop :=
  ∀ (pins : List (Addr × Obj)) (s : Shared) (σ : St) (H : Hp) (Q : Bool → Hp → Prop), Inv X pins σ H s → t σ H Q → wpAny (model X.prog X.w) X.A (isTrue e X.env (eval e X.env)) (TP X pins σ Q) X.xe s
noncomputable def PW (X : Cx) (e : Expr) (t : TT) : Prop :=
  ∀ (whole : Sem Value) (pins : List (Addr × Obj)) (s : Shared) (σ : St) (H : Hp) (Q : Bool → Hp → Prop), Inv X pins σ H s → t σ H Q → wpAny (model X.prog X.w) X.A (isTrue e X.env whole) (TP X pins σ Q) X.xe s
theorem PW.pt {X : Cx} {e : Expr} {t : TT} (h : PW X e t) : PT X e t := h _
noncomputable def PA (X : Cx) (es : List Expr) (t : TA) : Prop :=
  ∀ (pos : Pos) (pins : List (Addr × Obj)) (s : Shared) (σ : St) (H : Hp) (Q : List V → Hp → Prop), Inv X pins σ H s → t σ H Q → wpAny (model X.prog X.w) X.A (spliced (backTo pos (starEach es X.env))) (AP X pins σ Q) X.xe s
noncomputable def PS (X : Cx) (st : Stmt) (t : TS) : Prop :=
  ∀ (pins : List (Addr × Obj)) (s : Shared) (σ : St) (H : Hp) (D : Ends), Inv X pins σ H s → t D σ H → wpAny (model X.prog X.w) X.A (exec st X.env) (SP X pins D) X.xe s
noncomputable def PSs (X : Cx) (st : List Stmt) (t : TS) : Prop :=
  ∀ (pins : List (Addr × Obj)) (s : Shared) (σ : St) (H : Hp) (D : Ends), Inv X pins σ H s → t D σ H → wpAny (model X.prog X.w) X.A (execs st X.env) (SP X pins D) X.xe s
theorem thn {α : Type} {t : Sem α} {Q Q' : α → Shared → Prop} {M : Model} {A : Around} {E : Value → Shared → Prop} {s : Shared} (h : wpAny M A t Q E s) (hQ : ∀ a s, Q a s → Q' a s) : wpAny M A t Q' E s := wpAny_mono h hQ fun _ _ x => x
end L2
namespace L2
open PySem PySem.Spec PyProof.Rows
section
variable {X : Cx}
noncomputable def tVar (i : Nat) : TE := fun σ H Q => match σ[i]? with | some (some v) => Q v H | _ => False
theorem tVar_ex {i : Nat} {σ : St} {H : Hp} {Q : VK} (h : tVar i σ H Q) : ∃ v, σ[i]? = some (some v) ∧ Q v H := by
  unfold tVar at h
  split at h
  · rename_i v e; exact ⟨v, e, h⟩
  · exact h.elim
noncomputable def tC (v : V) : TE := fun _ H Q => Q v H
theorem pe_var {i : Nat} {x : Str} {pos : Pos} (hN : X.N[i]? = some x) (hv : Vis X.env.scope x) (hd : (x == ("__debug__" : Str)) = false := by decide) (hcd : (x == ("__classdict__" : Str)) = false := by decide) : PE X (.Name x pos) (tVar i) := by
  intro pins s σ H Q I h
  obtain ⟨v, e, h⟩ := tVar_ex h
  obtain ⟨m, hn, hl⟩ := I.loc
  obtain ⟨u, r, l⟩ := hl i x v hN e hv
  have fin : EP X pins σ Q u s := ⟨v, H, I, r, h⟩
  rcases l with ⟨hk, hm⟩ | ⟨hk, c, hc, hcell⟩
  · exact wpAny_Name (wpAny_loadName_local I.ok.kind hk hn hm fin) hd
  · rcases hk with hk | hk
    · exact wpAny_Name (wpAny_loadName_cell I.ok.kind hk hc hcell fin) hd
    · exact wpAny_Name (wpAny_loadName_free I.ok.kind hk hc hcell fin hcd) hd
theorem pe_int {i j pos} : PE X (.Constant (.int i) j pos) (tC (.int i)) := fun _ _ _ H _ I h => wpAny_Constant_int ⟨.int i, H, I.tok _, ⟨_, rfl⟩, h⟩
theorem pe_bl {b j pos} : PE X (.Constant (.bool b) j pos) (tC (.bl b)) := fun _ _ _ H _ I h => Constant_bool ⟨.bl b, H, I, rfl, h⟩
theorem pe_non {j pos} : PE X (.Constant .none j pos) (tC .non) := fun _ _ _ H _ I h => Constant_none ⟨.non, H, I, rfl, h⟩
theorem pe_str {x j pos} : PE X (.Constant (.str x) j pos) (tC (.str x)) := fun _ _ _ H _ I h => Calls.Constant_str ⟨.str x, H, I.tok _, ⟨_, rfl⟩, h⟩
noncomputable def Gl (X : Cx) (x : Str) : Prop := X.env.kindOf x = some .globalImplicit
theorem ld_glob {E : Value → Shared → Prop} {pins : List (Addr × Obj)} {s : Shared} {σ : St} {H : Hp} {x : Str} {u : Value} {pos : Pos} {Q : Value → Shared → Prop} (I : Inv X pins σ H s) (hg : Gl X x) (hm : X.mg x = some u) (h : Q u s)
    (hd : (x == ("__debug__" : Str)) = false := by decide) : wpAny (model X.prog X.w) X.A (eval (.Name x pos) X.env) Q E s :=
  Calls.Name_function_global I.ok.kind hg (Calls.loadGlobal_global (by rw [I.ok.glob]; exact I.mod.glob.keeps I.bk) hm h) hd
theorem ld_blt {E : Value → Shared → Prop} {pins : List (Addr × Obj)} {s : Shared} {σ : St} {H : Hp} {x : Str} {u : Value} {pos : Pos} {Q : Value → Shared → Prop} (I : Inv X pins σ H s) (hg : Gl X x) (hm : X.mg x = none) (hv : bootBuiltins x = some u) (h : Q u s)
    (hn : x ≠ "__name__" := by decide) (hd : (x == ("__debug__" : Str)) = false := by decide) : wpAny (model X.prog X.w) X.A (eval (.Name x pos) X.env) Q E s := by
  obtain ⟨mb, h1, h2⟩ := I.mod.blt
  exact Calls.Name_function_global I.ok.kind hg (Calls.loadGlobal_builtin (by rw [I.ok.glob]; exact I.mod.glob.keeps I.bk) hm (by rw [I.ok.blt]; exact h1.keeps I.bk) ((h2 x hn).trans hv) h) hd
theorem pe_glob {x : Str} {v : V} {u : Value} {pos : Pos} (hg : Gl X x) (hm : X.mg x = some u) (r : RelV v u) (hd : (x == ("__debug__" : Str)) = false := by decide) : PE X (.Name x pos) (tC v) :=
  fun _ _ _ H _ I h => ld_glob I hg hm ⟨v, H, I, r, h⟩ hd
theorem pe_bltn {x : Str} {v : V} {u : Value} {pos : Pos} (hg : Gl X x) (hm : X.mg x = none) (hv : bootBuiltins x = some u) (r : RelV v u) (hn : x ≠ "__name__" := by decide) (hd : (x == ("__debug__" : Str)) = false := by decide) : PE X (.Name x pos) (tC v) :=
  fun _ _ _ H _ I h => ld_blt I hg hm hv ⟨v, H, I, r, h⟩ hn hd
variable {a b : Expr} {ta tb : TE} {pos : Pos}
noncomputable def PC (X : Cx) (op : CmpOp) (a b : Expr) (t : TE) : Prop :=
  ∀ (pins : List (Addr × Obj)) (s : Shared) (σ : St) (H : Hp) (Q : VK), Inv X pins σ H s → t σ H Q →
    wpAny (model X.prog X.w) X.A (eval a X.env) (fun v s₁ => wpAny (model X.prog X.w) X.A (eval b X.env) (fun u s₂ => wpAny (model X.prog X.w) X.A (compareOp op v u) (EP X pins σ Q) X.xe s₂) X.xe s₁) X.xe s
noncomputable def tB (t : TE) : TT := fun σ H Q => t σ H fun x H1 => ∃ c, x = .bl c ∧ Q c H1
theorem pe_cmp {op : CmpOp} {t : TE} (h : PC X op a b t) (h1 : behindInMarks op b = false := by first | exact nobehind _ (by decide) (by decide) | rfl) : PE X (.Compare a [op] [b] pos) t := fun pins s σ H Q I hw => wpAny_Compare1 (h pins s σ H Q I hw) h1
theorem pt_cmp {op : CmpOp} {t : TE} (h : PC X op a b t) (h1 : behindInMarks op b = false := by first | exact nobehind _ (by decide) (by decide) | rfl) : PT X (.Compare a [op] [b] pos) (tB t) := by
  intro pins s σ H Q I hw
  refine wpAny_isTrue_Compare1 (thn (h pins s σ H _ I hw) fun v s1 h1 => thn h1 fun u s2 h2 => thn h2 fun c s3 ⟨x, H1, I1, r1, q1⟩ => ?_) h1
  obtain ⟨d, rfl, q⟩ := q1
  cases r1
  exact wpAny_truthy_bool ⟨H1, I1, q⟩
theorem pt_val {e : Expr} {t : TE} (h : PE X e t) (he : ∀ whole, isTrue e X.env whole = (do let v ← whole; standAt e.pos; holding [v] (truthy v)) := by intro _; rfl) : PT X e (tB t) := by
  intro pins s σ H Q I hw
  refine isTrue_plain (thn (h pins s σ H _ I hw) fun v s1 ⟨x, H1, I1, r1, q1⟩ => ?_) (he _)
  obtain ⟨d, rfl, q⟩ := q1
  cases r1
  exact wpAny_truthy_bool ⟨H1, I1, q⟩
variable {tA tB' : TT} {rest : List Expr}
noncomputable def tAnd (t u : TT) : TT := fun σ H Q => t σ H fun c H1 => if c = true then u σ H1 Q else Q false H1
noncomputable def tOr (t u : TT) : TT := fun σ H Q => t σ H fun c H1 => if c = true then Q true H1 else u σ H1 Q
noncomputable def tNot (t : TT) : TT := fun σ H Q => t σ H fun c H1 => Q (!c) H1
theorem pw_and1 (ha : PT X a tA) : PW X (.BoolOp .And [a] pos) tA := by
  intro wh pins s σ H Q I h
  refine isTrue_and (thn (ha pins s σ H Q I h) fun c s1 e => ?_)
  cases c with
  | true => exact isTrue_and_nil e
  | false => exact e
theorem pw_or1 (ha : PT X a tA) : PW X (.BoolOp .Or [a] pos) tA := by
  intro wh pins s σ H Q I h
  refine isTrue_or (thn (ha pins s σ H Q I h) fun c s1 e => ?_)
  cases c with
  | false => exact isTrue_or_nil e
  | true => exact e
theorem pw_and (ha : PT X a tA) (hb : PW X (.BoolOp .And (b :: rest) pos) tB') : PW X (.BoolOp .And (a :: b :: rest) pos) (tAnd tA tB') := by
  intro wh pins s σ H Q I h
  refine isTrue_and (thn (ha pins s σ H _ I h) fun c s1 ⟨H1, I1, q1⟩ => ?_)
  cases c with
  | true => exact hb wh pins s1 σ H1 Q I1 q1
  | false => exact ⟨H1, I1, q1⟩
theorem pw_or (ha : PT X a tA) (hb : PW X (.BoolOp .Or (b :: rest) pos) tB') : PW X (.BoolOp .Or (a :: b :: rest) pos) (tOr tA tB') := by
  intro wh pins s σ H Q I h
  refine isTrue_or (thn (ha pins s σ H _ I h) fun c s1 ⟨H1, I1, q1⟩ => ?_)
  cases c with
  | true => exact ⟨H1, I1, q1⟩
  | false => exact hb wh pins s1 σ H1 Q I1 q1
theorem pt_not (ha : PT X a tA) : PT X (.UnaryOp .Not a pos) (tNot tA) := by
  intro pins s σ H Q I h
  exact isTrue_not (ha pins s σ H (fun c H1 => Q (!c) H1) I h)
noncomputable def tAndV (ta tb : TE) : TE := fun σ H Q => ta σ H fun x H1 => ∃ c, x = .bl c ∧ if c = true then tb σ H1 Q else Q (.bl false) H1
noncomputable def tOrV (ta tb : TE) : TE := fun σ H Q => ta σ H fun x H1 => ∃ c, x = .bl c ∧ if c = true then Q (.bl true) H1 else tb σ H1 Q
noncomputable def tNotV (ta : TE) : TE := fun σ H Q => ta σ H fun x H1 => ∃ c, x = .bl c ∧ Q (.bl (!c)) H1
noncomputable def tIf (t : TT) (ta tb : TE) : TE := fun σ H Q => t σ H fun c H1 => if c = true then ta σ H1 Q else tb σ H1 Q
end
end L2
namespace L2
open PySem PySem.Spec PyProof.Rows
noncomputable def SqL (K : PySem.W.Frag) (H : Hp) (a : Addr) (xs : List V) : Prop :=
  Rd H a (.lst xs) ∨
    ∃ (o : Obj) (its : Array Value) (n : Nat), K.lookup a = some o ∧ o.cls = .type "list" ∧ o.dict = none ∧ o.data = .seq its n ∧ its.size ≤ sizeLine ∧ Vals xs its.toList
noncomputable def SqT (K : PySem.W.Frag) (H : Hp) (a : Addr) (xs : List V) : Prop :=
  Rd H a (.tup xs) ∨
    ∃ (o : Obj) (its : Array Value) (n : Nat), K.lookup a = some o ∧ o.cls = .type "tuple" ∧ o.data = .seq its n ∧ its.size ≤ sizeLine ∧ Vals xs its.toList
noncomputable def absV : Value → Option V
  | .none => some .non
  | .bool b => some (.bl b)
  | .int i _ => some (.int i)
  | .str x _ => some (.str x)
  | .bytes b _ => some (.byt b)
  | .float b _ => some (.flt b)
  | .ref a => some (.ref a)
  | .type n => some (.ty n)
  | _ => none
theorem RelV.abs {x : V} {u : Value} (r : RelV x u) : absV u = some x := by
  cases x with
  | non => cases r; rfl
  | bl _ => cases r; rfl
  | int _ => obtain ⟨t, rfl⟩ := r; rfl
  | str _ => obtain ⟨t, rfl⟩ := r; rfl
  | byt _ => obtain ⟨t, rfl⟩ := r; rfl
  | flt _ => obtain ⟨t, rfl⟩ := r; rfl
  | ref _ => cases r; rfl
  | ty _ => cases r; rfl
theorem RelV.inj {x y : V} {u : Value} (r : RelV x u) (q : RelV y u) : x = y := Option.some.inj (r.abs.symm.trans q.abs)
theorem Vals.inj : ∀ {xs ys : List V} {us : List Value}, Vals xs us → Vals ys us → xs = ys
  | _, _, _, .nil, .nil => rfl
  | _, _, _, .cons r t, .cons r' t' => by rw [r.inj r', Vals.inj t t']
section
variable {X : Cx} {pins : List (Addr × Obj)} {σ : St} {H : Hp} {s : Shared} {a : Addr} {xs ys : List V}
theorem SqL.of {K : PySem.W.Frag} (h : H a = some (.lst xs)) : SqL K H a xs := .inl (.inl h)
theorem SqT.of {K : PySem.W.Frag} (h : H a = some (.tup xs)) : SqT K H a xs := .inl (.inl h)
theorem Inv.list (I : Inv X pins σ H s) (h : SqL X.K H a xs) : ∃ its : List Value, Vals xs its ∧ PlainL s.heap a its.toArray ∧ xs.length ≤ sizeLine := by
  rcases h with h | ⟨o, its, n, hk, hc, hd, hs, hz, r⟩
  · obtain ⟨z, its, n, r, e⟩ := h.ok I.hok
    exact ⟨its, r, ⟨_, n, e, rfl, rfl, rfl⟩, z⟩
  · refine ⟨its.toList, r, ⟨o, n, I.kIn a o hk, hc, hd, by simpa using hs⟩, ?_⟩
    have e := r.length
    simp only [Array.length_toList] at e
    omega
theorem Inv.tuple (I : Inv X pins σ H s) (h : SqT X.K H a xs) : ∃ its : List Value, Vals xs its ∧ IsTup s.heap a its.toArray ∧ xs.length ≤ sizeLine := by
  rcases h with h | ⟨o, its, n, hk, hc, hs, hz, r⟩
  · obtain ⟨z, its, r, p⟩ := h.ok I.hok
    exact ⟨its, r, p, z⟩
  · refine ⟨its.toList, r, ⟨o, I.kIn a o hk, hc, n, by simpa using hs⟩, ?_⟩
    have e := r.length
    simp only [Array.length_toList] at e
    omega
theorem Inv.list_inj (I : Inv X pins σ H s) (h : SqL X.K H a xs) (h' : SqL X.K H a ys) : xs = ys := by
  obtain ⟨its, r, ⟨o, n, e, _, _, d⟩, _⟩ := I.list h
  obtain ⟨its', r', ⟨o', n', e', _, _, d'⟩, _⟩ := I.list h'
  rw [e] at e'; cases e'
  rw [d] at d'
  injection d' with d1 _
  have : its = its' := by simpa using congrArg Array.toList d1
  subst this
  exact r.inj r'
end
noncomputable abbrev Cx.wish (X : Cx) (E : Value → Shared → Prop) : Cx := { X with xe := E }
noncomputable abbrev Cx.nox (X : Cx) : Cx := X.wish fun _ _ => False
theorem Cx.Ok.wish {X : Cx} (ok : X.Ok) (E : Value → Shared → Prop) : (X.wish E).Ok :=
  ⟨ok.mod, ok.kind, ok.glob, ok.blt, ok.above, ok.inj, ok.has, ok.cab, ok.hd, ok.frames, ok.stk, ok.exf, ok.bs, ok.bsz, ok.noex, ok.exfs, ok.funs, ok.frf⟩
theorem Cx.Ok.unwish {X : Cx} {E : Value → Shared → Prop} (ok : (X.wish E).Ok) : X.Ok :=
  ⟨ok.mod, ok.kind, ok.glob, ok.blt, ok.above, ok.inj, ok.has, ok.cab, ok.hd, ok.frames, ok.stk, ok.exf, ok.bs, ok.bsz, ok.noex, ok.exfs, ok.funs, ok.frf⟩
section
variable {X : Cx} {pins : List (Addr × Obj)} {σ : St} {H : Hp} {s : Shared} {E : Value → Shared → Prop}
theorem Inv.wish (I : Inv X pins σ H s) (E : Value → Shared → Prop) : Inv (X.wish E) pins σ H s := ⟨I.ok.wish E, I.os, I.bare, I.base, I.loc, I.cell, I.free, I.freeC, I.pin, I.hok, I.len⟩
theorem Inv.unwish (I : Inv (X.wish E) pins σ H s) : Inv X pins σ H s := ⟨I.ok.unwish, I.os, I.bare, I.base, I.loc, I.cell, I.free, I.freeC, I.pin, I.hok, I.len⟩
theorem SP.unwish {D : Ends} {f : Flow} {s' : Shared} (h : SP (X.wish E) pins D f s') : SP X pins D f s' := by
  cases f with
  | next => obtain ⟨σ', H', I, q⟩ := h; exact ⟨σ', H', I.unwish, q⟩
  | brk => obtain ⟨σ', H', I, q⟩ := h; exact ⟨σ', H', I.unwish, q⟩
  | cont => obtain ⟨σ', H', I, q⟩ := h; exact ⟨σ', H', I.unwish, q⟩
  | ret u => obtain ⟨v, σ', H', I, r, q⟩ := h; exact ⟨v, σ', H', I.unwish, r, q⟩
theorem PSs.nox {st : List Stmt} {t : TS} (h : PSs X.nox st t) : PSs X st t := fun pins s σ H D I hw =>
  wpAny_mono (h pins s σ H D (I.wish _) hw) (fun _ _ q => q.unwish) fun _ _ z => False.elim z
end
section
variable {X : Cx} {st : Stmt} {rest : List Stmt} {t u : TS} {e : Expr} {te : TE} {pos : Pos}
noncomputable def tNext : TS := fun D σ H => D.nx σ H
noncomputable def tSeq (t u : TS) : TS := fun D σ H => t { D with nx := u D } σ H
theorem pss_nil : PSs X [] tNext := fun _ _ σ H _ I h => wpAny_execs_nil ⟨σ, H, I, h⟩
theorem pss_cons (h1 : PS X st t) (h2 : PSs X rest u) : PSs X (st :: rest) (tSeq t u) := by
  intro pins s σ H D I h
  refine wpAny_execs_cons (thn (h1 pins s σ H { D with nx := u D } I h) fun f s1 q => ?_)
  cases f with
  | next =>
    obtain ⟨σ', H', I', q⟩ := q
    exact h2 pins s1 σ' H' D I' q
  | ret v => exact q
  | brk => exact q
  | cont => exact q
theorem pss_one (h1 : PS X st t) : PSs X [st] t := by
  intro pins s σ H D I h
  refine wpAny_execs_cons (thn (h1 pins s σ H D I h) fun f s1 q => ?_)
  cases f with
  | next => exact wpAny_execs_nil q
  | ret v => exact q
  | brk => exact q
  | cont => exact q
noncomputable def tBreak : TS := fun D σ H => D.bk σ H
theorem Inv.quiet {pins : List (Addr × Obj)} {σ : St} {H : Hp} {s : Shared} (I : Inv X pins σ H s) : interactive X.env = false := by simp [interactive, I.ok.kind]
noncomputable def tDrop (te : TE) : TS := fun D σ H => te σ H fun _ H1 => D.nx σ H1
theorem ps_expr (he : PE X e te) (hs : swapsWith e none pos.line X.env = pure false := by rfl) : PS X (.Expr e pos) (tDrop te) := by
  intro pins s σ H D I h
  exact wpAny_Expr_any (thn (he pins s σ H _ I h) fun v s1 ⟨x, H1, I1, r1, q1⟩ => ⟨σ, H1, I1, q1⟩) I.quiet hs
noncomputable def tRet (te : TE) : TS := fun D σ H => te σ H D.rt
theorem ps_ret (he : PE X e te) : PS X (.Return (some e) pos) (tRet te) := by
  intro pins s σ H D I h
  exact wpAny_Return_some (thn (he pins s σ H _ I h) fun v s1 ⟨x, H1, I1, r1, q1⟩ => ⟨x, σ, H1, I1, r1, q1⟩)
noncomputable def tRetN : TS := fun D _ H => D.rt .non H
noncomputable def tIfS (c : TT) (t u : TS) : TS := fun D σ H => c σ H fun b H1 => if b = true then t D σ H1 else u D σ H1
theorem ps_if {c : Expr} {a b : List Stmt} {tc : TT} (hc : PT X c tc) (ha : PSs X a t) (hb : PSs X b u) : PS X (.If c a b pos) (tIfS tc t u) := by
  intro pins s σ H D I h
  refine wpAny_If (thn (hc pins s σ H _ I h) fun d s1 ⟨H1, I1, q1⟩ => ?_)
  cases d with
  | true => exact ha pins s1 σ H1 D I1 q1
  | false => exact hb pins s1 σ H1 D I1 q1
end
noncomputable abbrev TG := V → St → Hp → (St → Hp → Prop) → Prop
noncomputable abbrev TGs := List V → St → Hp → (St → Hp → Prop) → Prop
noncomputable def PG (X : Cx) (target : Expr) (t : TG) : Prop :=
  ∀ (pins : List (Addr × Obj)) (s : Shared) (σ : St) (H : Hp) (v : V) (u : Value) (Q : St → Hp → Prop), Inv X pins σ H s → RelV v u → t v σ H Q →
    wpAny (model X.prog X.w) X.A (assign target X.env u) (fun _ s' => ∃ σ' H', Inv X pins σ' H' s' ∧ Q σ' H') X.xe s
noncomputable def PGs (X : Cx) (ts : List Expr) (t : TGs) : Prop :=
  ∀ (pins : List (Addr × Obj)) (s : Shared) (σ : St) (H : Hp) (vs : List V) (us : List Value) (Q : St → Hp → Prop), Inv X pins σ H s → Vals vs us → t vs σ H Q →
    wpAny (model X.prog X.w) X.A (assignInOrder ((assignEach ts X.env).map (·.2)) us) (fun _ s' => ∃ σ' H', Inv X pins σ' H' s' ∧ Q σ' H') X.xe s
noncomputable abbrev TSet := V → V → V → Hp → (Hp → Prop) → Prop
noncomputable def PSet (X : Cx) (t : TSet) : Prop :=
  ∀ (pins : List (Addr × Obj)) (s : Shared) (σ : St) (H : Hp) (o i v : V) (ov iv u : Value) (Q : Hp → Prop), Inv X pins σ H s → RelV o ov → RelV i iv → RelV v u → t o i v H Q →
    wpAny (model X.prog X.w) X.A (setItem ov iv u) (fun _ s' => ∃ H', Inv X pins σ H' s' ∧ Q H') X.xe s
noncomputable abbrev TIp := V → V → Hp → VK → Prop
noncomputable def PIp (X : Cx) (op : Operator) (t : TIp) : Prop :=
  ∀ (pins : List (Addr × Obj)) (s : Shared) (σ : St) (H : Hp) (x y : V) (v u : Value) (Q : VK), Inv X pins σ H s → RelV x v → RelV y u → t x y H Q →
    wpAny (model X.prog X.w) X.A (inplaceOp op v u) (EP X pins σ Q) X.xe s
section
variable {X : Cx} {pos : Pos}
noncomputable def gName (i : Nat) : TG := fun v σ H Q => Q (σ.set i (some v)) H
theorem pg_name {i : Nat} {x : Str} (hN : X.N.Nodup) (hi : X.N[i]? = some x) (hx : Loc X.env.scope x) (hf : X.fn x = true ∨ X.env.scope.names.lookup x = some .local := by first | exact .inl rfl | exact .inr rfl | assumption) : PG X (.Name x pos) (gName i) := by
  intro pins s σ H v u Q I r h
  exact wpAny_assign_Name (store_ok I hN hi hx r (fun s' I' => ⟨_, H, I', h⟩) hf)
noncomputable def gNil : TGs := fun vs σ H Q => vs = [] ∧ Q σ H
noncomputable def gCons (t : TG) (u : TGs) : TGs := fun vs σ H Q => ∃ v r, vs = v :: r ∧ t v σ H fun σ' H' => u r σ' H' Q
theorem pgs_nil : PGs X [] gNil := by
  intro pins s σ H vs us Q I r h
  obtain ⟨e, h⟩ := h
  subst e
  cases r
  exact assignInOrder_nil ⟨σ, H, I, h⟩
theorem pgs_cons {e : Expr} {es : List Expr} {t : TG} {u : TGs} (h1 : PG X e t) (h2 : PGs X es u)
    (hs : (assignEach (e :: es) X.env).map (·.2) = assign e X.env :: (assignEach es X.env).map (·.2) := by rfl) : PGs X (e :: es) (gCons t u) := by
  intro pins s σ H vs us Q I r h
  obtain ⟨v, vr, e1, h⟩ := h
  subst e1
  cases r with
  | cons r rr =>
    rw [hs]
    refine assignInOrder_cons (thn (h1 pins s σ H _ _ _ I r h) fun _ s1 ⟨σ1, H1, I1, q1⟩ => ?_)
    exact h2 pins s1 σ1 H1 _ _ Q I1 rr q1
noncomputable def gTup (K : PySem.W.Frag) (n : Nat) (t : TGs) : TG := fun v σ H Q => ∃ a xs, v = .ref a ∧ SqT K H a xs ∧ xs.length = n ∧ t xs σ H Q
theorem pg_tup {es : List Expr} {k : Nat} {t : TGs} {n : Nat} (hc : X.calm = true) (h : PGs X es t)
    (hn : (assignEach es X.env).length = n := by rfl) (hst : (assignEach es X.env).findIdx? (·.1) = none := by rfl) : PG X (.Tuple es k pos) (gTup X.K n t) := by
  intro pins s σ H v u Q I r hw
  obtain ⟨a, xs, e1, hq, hl, hw⟩ := hw
  subst e1
  cases r
  obtain ⟨its, rv, ht, hz⟩ := I.tuple hq
  refine assign_Tuple_tuple (I.ok.hd hc) ht (by simp [hn, ← hl, rv.length]) hst fun h' hx => ?_
  have I1 : Inv X pins σ H { s with heap := h' } := I.kept (t' := s.toks) fun b o e => hx b o (Nat.ne_of_lt (Heap.lt_size e)) e
  exact h pins _ σ H xs _ Q I1 (by simpa using rv) hw
noncomputable def gSub (to ti : TE) (t : TSet) : TG := fun v σ H Q => to σ H fun o H1 => ti σ H1 fun i H2 => t o i v H2 fun H3 => Q σ H3
theorem pg_sub {o i : Expr} {to ti : TE} {t : TSet} (ho : PE X o to) (hi : PE X i ti) (hs : PSet X t)
    (ha : ∀ v, assign (.Subscript o i pos) X.env v = (do
      let ov ← holding [v] (eval o X.env)
      let iv ← holding [v, ov] (eval i X.env)
      standAt pos
      holding [v, ov, iv] (setItem ov iv v)
      release [v, ov, iv] []) := by intro _; rfl) : PG X (.Subscript o i pos) (gSub to ti t) := by
  intro pins s σ H v u Q I r h
  rw [ha]
  refine wpAny_bind (wpAny_holding (thn (ho pins s σ H _ I h) fun ov s1 ⟨x, H1, I1, r1, q1⟩ => ?_))
  refine wpAny_bind (wpAny_holding (thn (hi pins s1 σ H1 _ I1 q1) fun iv s2 ⟨y, H2, I2, r2, q2⟩ => ?_))
  refine wpAny_bind (wpAny_standAt (wpAny_bind (wpAny_holding (thn (hs pins s2 σ H2 x y v ov iv u _ I2 r1 r2 r q2) fun _ s3 ⟨H3, I3, q3⟩ => ?_))))
  exact wpAny_release ⟨σ, H3, I3, q3⟩
noncomputable def tAsg (te : TE) (g : TG) : TS := fun D σ H => te σ H fun x H1 => g x σ H1 D.nx
theorem ps_asg {tg e : Expr} {te : TE} {g : TG} (he : PE X e te) (hg : PG X tg g) (hs : swapsWithSole [tg] e pos.line X.env = pure false := by rfl) (hw : swappedStores [tg] e X.env = pure none := by rfl)
    (h1 : (assignEach [tg] X.env).map (·.2) = [assign tg X.env] := by rfl) : PS X (.Assign [tg] e pos) (tAsg te g) := by
  intro pins s σ H D I h
  refine wpAny_Assign_stores (thn (he pins s σ H _ I h) fun v s1 ⟨x, H1, I1, r1, q1⟩ => ?_) hs hw
  rw [h1]
  exact thn (hg pins s1 σ H1 x v _ I1 r1 q1) fun _ s2 q => q
theorem ps_set {i : Nat} {x : Str} {e : Expr} {te : TE} {pos' : Pos} (hN : X.N.Nodup) (hi : X.N[i]? = some x) (hx : Loc X.env.scope x) (he : PE X e te) (hs : swapsWith e (some (.Name x pos')) pos.line X.env = pure false := by rfl) (hf : X.fn x = true ∨ X.env.scope.names.lookup x = some .local := by first | exact .inl rfl | exact .inr rfl | assumption) :
    PS X (.Assign [.Name x pos'] e pos) (tAsg te (gName i)) := by
  intro pins s σ H D I h
  refine wpAny_Assign_Name (thn (he pins s σ H _ I h) fun v s1 ⟨y, H1, I1, r1, q1⟩ => ?_) hs
  exact store_ok I1 hN hi hx r1 (fun s2 I2 => ⟨_, H1, I2, q1⟩) hf
noncomputable def tAug (i : Nat) (te : TE) (ti : TIp) : TS := fun D σ H => ∃ x, σ[i]? = some (some x) ∧ te σ H fun y H1 => ti x y H1 fun z H2 => D.nx (σ.set i (some z)) H2
theorem ps_aug {i : Nat} {x : Str} {e : Expr} {te : TE} {op : Operator} {ti : TIp} {pos' : Pos} (hN : X.N.Nodup) (hi : X.N[i]? = some x) (hx : Loc X.env.scope x) (he : PE X e te) (ho : PIp X op ti) (hf : X.fn x = true ∨ X.env.scope.names.lookup x = some .local := by first | exact .inl rfl | exact .inr rfl | assumption) :
    PS X (.AugAssign (.Name x pos') op e pos) (tAug i te ti) := by
  intro pins s σ H D I h
  obtain ⟨v, e1, h⟩ := h
  obtain ⟨m, hn, hl⟩ := I.loc
  have vis : Vis X.env.scope x := by rcases hx with k | k; exact .inl k; exact .inr (.inl k)
  obtain ⟨u, r, l⟩ := hl i x v hi e1 vis
  refine wpAny_AugAssign_Name ?_
  have go : wpAny (model X.prog X.w) X.A (eval e X.env) (fun w s₂ => wpAny (model X.prog X.w) X.A (inplaceOp op u w) (fun r s₃ => wpAny (model X.prog X.w) X.A (storeName X.env x r) (fun _ => SP X pins D .next) X.xe s₃) X.xe s₂) X.xe s := by
    refine thn (he pins s σ H _ I h) fun w s1 ⟨y, H1, I1, r1, q1⟩ => ?_
    refine thn (ho pins s1 σ H1 v y u w _ I1 r r1 q1) fun z s2 ⟨zv, H2, I2, r2, q2⟩ => ?_
    exact store_ok I2 hN hi hx r2 (fun s3 I3 => ⟨_, H2, I3, q2⟩) hf
  rcases l with ⟨hk, hm⟩ | ⟨hk, c, hc, hcell⟩
  · exact wpAny_loadName_local I.ok.kind hk hn hm go
  · rcases hk with hk | hk
    · exact wpAny_loadName_cell I.ok.kind hk hc hcell go
    · rcases hx with k | k
      · have : X.env.scope.names.lookup x = some .free := hk
        rw [k] at this; cases this
      · have : X.env.scope.names.lookup x = some .free := hk
        rw [k] at this; cases this
noncomputable def tAugS (to ti te : TE) (tget : V → V → Hp → VK → Prop) (tip : TIp) (tset : TSet) : TS := fun D σ H => to σ H fun o H1 => ti σ H1 fun i H2 => tget o i H2 fun x H3 => te σ H3 fun y H4 => tip x y H4 fun z H5 => tset o i z H5 fun H6 => D.nx σ H6
noncomputable def PGet (X : Cx) (t : V → V → Hp → VK → Prop) : Prop :=
  ∀ (pins : List (Addr × Obj)) (s : Shared) (σ : St) (H : Hp) (o i : V) (ov iv : Value) (Q : VK), Inv X pins σ H s → RelV o ov → RelV i iv → t o i H Q →
    wpAny (model X.prog X.w) X.A (getItem ov iv) (EP X pins σ Q) X.xe s
theorem ps_augS {o i e : Expr} {to ti te : TE} {tget : V → V → Hp → VK → Prop} {tip : TIp} {tset : TSet} {op : Operator} {tpos : Pos} (ho : PE X o to) (hi : PE X i ti) (hg : PGet X tget) (he : PE X e te) (hp : PIp X op tip) (hs : PSet X tset)
    (ha : ∀ ov iv new, augStore i ov iv new = (do holding [new, ov, iv] (setItem ov iv new); release [new, ov, iv] []; pure .next) := by intros; rfl) : PS X (.AugAssign (.Subscript o i tpos) op e pos) (tAugS to ti te tget tip tset) := by
  intro pins s σ H D I h
  refine wpAny_AugAssign_SubscriptAny (thn (ho pins s σ H _ I h) fun ov s1 ⟨x1, H1, I1, r1, q1⟩ => ?_) ha
  refine thn (hi pins s1 σ H1 _ I1 q1) fun iv s2 ⟨x2, H2, I2, r2, q2⟩ => ?_
  refine thn (hg pins s2 σ H2 x1 x2 ov iv _ I2 r1 r2 q2) fun old s3 ⟨x3, H3, I3, r3, q3⟩ => ?_
  refine thn (he pins s3 σ H3 _ I3 q3) fun v s4 ⟨x4, H4, I4, r4, q4⟩ => ?_
  refine thn (hp pins s4 σ H4 x3 x4 old v _ I4 r3 r4 q4) fun new s5 ⟨x5, H5, I5, r5, q5⟩ => ?_
  exact thn (hs pins s5 σ H5 x1 x2 x5 ov iv new _ I5 r1 r2 r5 q5) fun _ s6 ⟨H6, I6, q6⟩ => ⟨σ, H6, I6, q6⟩
noncomputable def ipI (f : Int → Int → Int) : TIp := fun x y H Q => ∃ i j, x = .int i ∧ y = .int j ∧ Q (.int (f i j)) H
theorem ip_add : PIp X .Add (ipI fun i j => i + j) := by
  intro pins s σ H x y v u Q I r1 r2 h
  obtain ⟨i, j, e1, e2, q⟩ := h
  subst e1; subst e2
  obtain ⟨t, rfl⟩ := r1
  obtain ⟨t', rfl⟩ := r2
  exact iadd_int ⟨.int _, H, I.tok _, ⟨_, rfl⟩, q⟩
theorem ip_sub : PIp X .Sub (ipI fun i j => i - j) := by
  intro pins s σ H x y v u Q I r1 r2 h
  obtain ⟨i, j, e1, e2, q⟩ := h
  subst e1; subst e2
  obtain ⟨t, rfl⟩ := r1
  obtain ⟨t', rfl⟩ := r2
  exact isub_int ⟨.int _, H, I.tok _, ⟨_, rfl⟩, q⟩
end
section
variable {X : Cx} {pos : Pos}
noncomputable def tWhile (c : TT) (tb : TS) : TS := fun D σ H => ∃ W : Nat → St → Hp → Prop, (∃ m, W m σ H) ∧ ∀ m σ H, W m σ H →
  c σ H fun b H1 => if b = true then ∃ N : St → Hp → Prop, (∀ σ' H', N σ' H' → ∃ m', m' < m ∧ W m' σ' H') ∧ tb { D with nx := N, ct := N, bk := D.nx } σ H1 else D.nx σ H1
theorem ps_while {c : Expr} {body : List Stmt} {tc : TT} {tb : TS} (hp : PassesOwn (model X.prog X.w) X.A X.env X.xe) (hc : PT X c tc) (hb : PSs X body tb) : PS X (.While c body [] pos) (tWhile tc tb) := by
  intro pins s σ H D I h
  obtain ⟨W, ⟨m0, w0⟩, turn⟩ := h
  refine wpAny_While (codeAny_whileLoop (fun n s' => ∃ σ' H', Inv X pins σ' H' s' ∧ W n σ' H') ?_ m0 ⟨σ, H, I, w0⟩)
  rintro n s1 ⟨σ1, H1, I1, w1⟩
  refine wpAny_passesOwn hp (thn (hc pins s1 σ1 H1 _ I1 (turn n σ1 H1 w1)) fun b s2 ⟨H2, I2, q2⟩ => ?_)
  cases b with
  | true =>
    obtain ⟨N, hN, q2⟩ := q2
    rw [if_pos rfl]
    refine wpAny_passesOwn hp (thn (hb pins s2 σ1 H2 _ I2 q2) fun f s3 q3 => ?_)
    cases f with
    | next =>
      obtain ⟨σ3, H3, I3, n3⟩ := q3
      obtain ⟨m', hm, w3⟩ := hN σ3 H3 n3
      exact ⟨m', hm, σ3, H3, I3, w3⟩
    | cont =>
      obtain ⟨σ3, H3, I3, n3⟩ := q3
      obtain ⟨m', hm, w3⟩ := hN σ3 H3 n3
      exact ⟨m', hm, σ3, H3, I3, w3⟩
    | brk => exact q3
    | ret v => exact q3
  | false =>
    rw [if_neg Bool.false_ne_true]
    exact wpAny_execs_nil ⟨σ1, H2, I2, q2⟩
end
structure It where
  go : Nat → Hp → Prop
  yld : Nat → Hp → V → Hp → Prop
  stop : Nat → Hp → Prop
noncomputable def FpOk (X : Cx) (pins : List (Addr × Obj)) (H : Hp) (b : Addr) : Prop :=
  H b = none ∧ b ≠ X.env.locals ∧ b ∉ X.fs ∧ (b ∈ X.ex ∨ X.s₀.heap.objs.size ≤ b) ∧ (∀ x c, X.env.cells.lookup x = some c → c ≠ b) ∧ ∀ p ∈ X.pn ++ pins, p.1 ≠ b
theorem Inv.fpOk {X : Cx} {pins : List (Addr × Obj)} {σ : St} {H H' : Hp} {s : Shared} {b : Addr} (I : Inv X pins σ H s) (hb : s.heap.objs.size ≤ b) (hn : H' b = none) : FpOk X pins H' b := by
  refine ⟨hn, Nat.ne_of_gt (Nat.lt_of_lt_of_le I.lt hb), I.nofs hb, .inr (Nat.le_trans I.sz hb), fun x c e z => ?_, fun p hp z => ?_⟩
  · obtain ⟨v, q⟩ := I.cell x c e
    exact absurd (Nat.lt_of_lt_of_le q.lt (by rw [z]; exact hb)) (Nat.lt_irrefl _)
  · exact absurd (Nat.lt_of_lt_of_le (Heap.lt_size (I.pin p hp).1) (by rw [z]; exact hb)) (Nat.lt_irrefl _)
structure Turn (P : Program) (w : World) (K : PySem.W.Frag) (tg : Expr) (J : It) (fp : List Addr) (it : Addr) (tn : Nat → Heap → Prop) : Prop where
  mem : it ∈ fp
  obj : ∀ i h, tn i h → ∀ b ∈ fp, ∃ o, h.get? b = some o ∧ ∀ v, o.data ≠ .cell v
  keep : ∀ i h h', tn i h → (∀ b ∈ fp, ∀ o, h.get? b = some o → h'.get? b = some o) → tn i h'
  item : ∀ (X : Cx), X.prog = P → X.w = w → X.K = K → X.calm = true → ∀ (i : Nat) (pins : List (Addr × Obj)) (s : Shared) (σ : St) (H : Hp) (E : Value → Shared → Prop), Inv X pins σ H s → (∀ b ∈ fp, FpOk X pins H b) → tn i s.heap → J.go i H →
    wpAny (model P w) X.A (pyNext (.ref it)) (fun r s1 => ∃ u, r = some u ∧
      wpAny (model P w) X.A (letOwnedTupleGo tg (.ref it) u) (fun _ s2 => ∃ x H', Inv X pins σ H' s2 ∧ RelV x u ∧ J.yld i H x H' ∧ tn (i + 1) s2.heap ∧ ∀ b ∈ fp, H' b = none) E s1) E s
  done : ∀ (X : Cx), X.prog = P → X.w = w → X.K = K → X.calm = true → ∀ (i : Nat) (pins : List (Addr × Obj)) (s : Shared) (σ : St) (H : Hp) (E : Value → Shared → Prop), Inv X pins σ H s → (∀ b ∈ fp, FpOk X pins H b) → tn i s.heap → J.stop i H →
    wpAny (model P w) X.A (pyNext (.ref it)) (fun r s1 => r = none ∧ Inv X pins σ H s1) E s
  self : ∀ (A : Around) (i : Nat) (s : Shared) (Q : Value → Shared → Prop) (E : Value → Shared → Prop), tn i s.heap → Q (.ref it) s → wpAny (model P w) A (pyIter (.ref it)) Q E s
noncomputable abbrev TI := St → Hp → (It → Hp → Prop) → Prop
noncomputable def PIE (X : Cx) (pins : List (Addr × Obj)) (σ : St) (tg : Expr) (R : It → Hp → Prop) (itv : Value) (s2 : Shared) : Prop :=
  ∃ (it : Addr) (fp : List Addr) (tn : Nat → Heap → Prop) (J : It) (H' : Hp), itv = .ref it ∧ Inv X pins σ H' s2 ∧ Turn X.prog X.w X.K tg J fp it tn ∧ tn 0 s2.heap ∧ (∀ b ∈ fp, FpOk X pins H' b) ∧ R J H'
noncomputable def PI (X : Cx) (tg iter : Expr) (wi : TI) : Prop :=
  ∀ (pins : List (Addr × Obj)) (s : Shared) (σ : St) (H : Hp) (R : It → Hp → Prop), Inv X pins σ H s → wi σ H R →
    wpAny (model X.prog X.w) X.A (eval iter X.env) (fun v s1 => wpAny (model X.prog X.w) X.A (pyIter v) (PIE X pins σ tg R) X.xe s1) X.xe s
theorem go_of {M : Model} {A : Around} {E : Value → Shared → Prop} {s : Shared} {tg : Expr} {it : Addr} {u : Value} {o : Obj} {n : String} {vs : Array Value} {Q : Unit → Shared → Prop} (ho : s.heap.get? it = some o) (hc : o.cls = .type n) (hd : o.data = .fields vs)
    (hn : ["enumerate", "zip", "dict_itemiterator", "dict_reverseitemiterator", "odict_iterator", "itertools.zip_longest", "itertools.pairwise"].contains n = false) (hQ : Q () s) : wpAny M A (letOwnedTupleGo tg (.ref it) u) Q E s := by
  unfold letOwnedTupleGo
  cases tg <;> first
    | exact wpAny_pure hQ
    | (cases u <;> first
        | exact wpAny_pure hQ
        | (refine wpAny_bind (wpAny_load ho ?_)
           rw [hc, hd]
           show wpAny M A (if (["enumerate", "zip", "dict_itemiterator", "dict_reverseitemiterator", "odict_iterator", "itertools.zip_longest", "itertools.pairwise"].contains n && vs[0]? == some (rawInt _)) = true then _ else _) Q E s
           rw [if_neg (by intro h; rw [hn, Bool.false_and] at h; cases h)]
           exact wpAny_pure hQ))
noncomputable def Itl (K : PySem.W.Frag) (a : Addr) : It :=
  ⟨fun i H => ∃ xs x, SqL K H a xs ∧ xs[i]? = some x, fun i H x H' => H' = H ∧ ∀ xs, SqL K H a xs → xs[i]? = some x, fun i H => ∃ xs, SqL K H a xs ∧ xs.length ≤ i⟩
noncomputable def Itt (K : PySem.W.Frag) (a : Addr) : It :=
  ⟨fun i H => ∃ xs x, SqT K H a xs ∧ xs[i]? = some x, fun i H x H' => H' = H ∧ ∀ xs, SqT K H a xs → xs[i]? = some x, fun i H => ∃ xs, SqT K H a xs ∧ xs.length ≤ i⟩
noncomputable def Itr (lo : Int) (n : Nat) : It := ⟨fun i _ => i < n, fun i H x H' => H' = H ∧ x = .int (lo + i), fun i _ => n ≤ i⟩
theorem turn_list {P : Program} {w : World} {K : PySem.W.Frag} {tg : Expr} (a it : Addr) : Turn P w K tg (Itl K a) [it] it (fun i h => h.IsListIter it a i) where
  mem := by simp
  obj := fun i h st b hb => by
    have e : b = it := by simpa using hb
    subst e
    obtain ⟨o, e, c, d⟩ := st
    exact ⟨o, e, fun v z => by rw [d] at z; cases z⟩
  keep := fun i h h' st k => st.at fun o e => k it (by simp) o e
  item := by
    intro X hP hw hK hc i pins s σ H E I hf st hg
    subst hP hw hK
    obtain ⟨xs, x, hq, hx⟩ := hg
    obtain ⟨its, rv, p, hz⟩ := I.list hq
    obtain ⟨u, hu, ru⟩ := rv.get hx
    obtain ⟨f0, f1, f2, f3, f4, f5⟩ := hf it (by simp)
    refine wpAny_pyNext_list_item st p.isList (x := u) (by simpa using hu) fun h' st' sb => ?_
    have I1 : Inv X pins σ H { s with heap := h' } := I.turned (t' := s.toks) (fun b o hb e => (sb.2 b hb).trans e) f0 f1 f3 f4 f5
    obtain ⟨o, e, c, d⟩ := id st'
    exact ⟨u, rfl, go_of (s := { s with heap := h' }) e c d (by decide) ⟨x, H, I1, ru, ⟨rfl, fun ys hy => by rw [I.list_inj hy hq]; exact hx⟩, st', fun b hb => (hf b hb).1⟩⟩
  done := by
    intro X hP hw hK hc i pins s σ H E I hf st hg
    subst hP hw hK
    obtain ⟨xs, hq, hx⟩ := hg
    obtain ⟨its, rv, p, hz⟩ := I.list hq
    obtain ⟨f0, f1, f2, f3, f4, f5⟩ := hf it (by simp)
    have hl := rv.length
    exact wpAny_pyNext_list_end (I.ok.hd hc) st p.isList (by simp; omega) fun h' eb => ⟨rfl, I.turned (t' := s.toks) (fun b o hb e => eb b o hb e) f0 f1 f3 f4 f5⟩
  self := fun _ _ _ _ _ st h => wpAny_pyIter_listiter st h
theorem turn_range {P : Program} {w : World} {K : PySem.W.Frag} {tg : Expr} (it : Addr) (lo : Int) (n : Nat) : Turn P w K tg (Itr lo n) [it] it (fun i h => IsRangeIter h it (lo + (i : Nat) * 1) ((n : Int) - (i : Nat)) 1) where
  mem := by simp
  obj := fun i h st b hb => by
    have e : b = it := by simpa using hb
    subst e
    exact ⟨_, st, fun v z => by
      have z' : Data.fields _ = Data.cell v := z
      cases z'⟩
  keep := fun i h h' st k => k it (by simp) _ st
  item := by
    intro X hP hw hK hc i pins s σ H E I hf st hg
    subst hP hw hK
    obtain ⟨f0, f1, f2, f3, f4, f5⟩ := hf it (by simp)
    have W := Walks.range (prog := X.prog) (w := X.w) (I.ok.hd hc) it lo 1 n
    refine W.item i s _ _ hg st fun v h' tk hv st' kk => ?_
    obtain ⟨t, rfl⟩ := hv
    have I1 : Inv X pins σ H { s with heap := h', toks := tk } := I.turned (fun b o hb e => kk b o (by simpa using hb) e) f0 f1 f3 f4 f5
    refine ⟨_, rfl, go_of (s := { s with heap := h', toks := tk }) (n := "range_iterator") st' rfl rfl (by decide) ⟨.int (lo + i), H, I1, ⟨t, ?_⟩, ⟨rfl, rfl⟩, st', fun b hb => (hf b hb).1⟩⟩
    rw [Int.mul_one]
  done := by
    intro X hP hw hK hc i pins s σ H E I hf st hg
    subst hP hw hK
    obtain ⟨f0, f1, f2, f3, f4, f5⟩ := hf it (by simp)
    exact wpAny_pyNext_range_end (I.ok.hd hc) st (by have : n ≤ i := hg; omega) fun h' eb => ⟨rfl, I.turned (t' := s.toks) (fun b o hb e => eb b o hb e) f0 f1 f3 f4 f5⟩
  self := fun _ _ _ _ _ st h => wpAny_pyIter_rangeiter st h
end L2
namespace L2
open PySem PySem.Spec PyProof.Rows
section
variable {X : Cx} {tg : Expr}
noncomputable def iList (K : PySem.W.Frag) (tl : TE) : TI := fun σ H R => tl σ H fun x H1 => ∃ a, x = .ref a ∧ (∃ xs, SqL K H1 a xs) ∧ R (Itl K a) H1
noncomputable def iTup (K : PySem.W.Frag) (tl : TE) : TI := fun σ H R => tl σ H fun x H1 => ∃ a, x = .ref a ∧ (∃ xs, SqT K H1 a xs) ∧ R (Itt K a) H1
theorem pi_list {l : Expr} {tl : TE} (hl : PE X l tl) : PI X tg l (iList X.K tl) := by
  intro pins s σ H R I h
  refine thn (hl pins s σ H _ I h) fun v s1 ⟨x, H1, I1, r1, q1⟩ => ?_
  obtain ⟨a, e, ⟨xs, hq⟩, q⟩ := q1
  subst e
  cases r1
  obtain ⟨its, rv, p, hz⟩ := I1.list hq
  refine wpAny_pyIter_list p.isList ?_
  refine ⟨s1.heap.objs.size, [s1.heap.objs.size], _, _, H1, rfl, I1.kept (t' := s1.toks) fun b o e => Heap.get?_push_of_some _ e, turn_list a _, ⟨_, Heap.get?_push_size _ rfl, rfl, rfl⟩, fun b hb => ?_, q⟩
  have e : b = s1.heap.objs.size := by simpa using hb
  subst e
  exact I1.fpOk (Nat.le_refl _) (I1.hok.fresh (Nat.le_refl _))
theorem range_it {pins : List (Addr × Obj)} {σ : St} {H : Hp} {s : Shared} {R : It → Hp → Prop} {E : Value → Shared → Prop} {lo hi : Int} {t u v : Tok} {tk : Nat} (I : Inv X pins σ H s) (h1 : -(2 ^ 62) ≤ lo) (h2 : lo < 2 ^ 62) (h3 : -(2 ^ 62) ≤ hi) (h4 : hi < 2 ^ 62)
    (q : R (Itr lo (hi - lo).toNat) H) : wpAny (model X.prog X.w) X.A (pyIter (.ref s.heap.objs.size)) (PIE X pins σ tg R) E { s with heap := s.heap.push { cls := .type "range", data := .fields #[.int lo t, .int hi u, .int 1 v] }, toks := tk } := by
  refine wpAny_pyIter_range (IsRange.new ..) (small_one h1 h2 h3 h4) ?_
  have I1 : Inv X pins σ H { s with heap := s.heap.push { cls := .type "range", data := .fields #[.int lo t, .int hi u, .int 1 v] }, toks := tk } := I.kept fun b o e => Heap.get?_push_of_some _ e
  refine ⟨(s.heap.push { cls := .type "range", data := .fields #[.int lo t, .int hi u, .int 1 v] }).objs.size, [(s.heap.push { cls := .type "range", data := .fields #[.int lo t, .int hi u, .int 1 v] }).objs.size], _, _, H, rfl,
    I1.kept (t' := tk) fun b o e => Heap.get?_push_of_some _ e, turn_range _ lo (hi - lo).toNat, ?_, fun b hb => ?_, q⟩
  · have e1 : lo + ((0 : Nat) : Int) * 1 = lo := by simp
    have e2 : (((hi - lo).toNat : Nat) : Int) - ((0 : Nat) : Int) = Builtin.Range.rangeSize lo hi 1 := by rw [rangeSize_one]; split <;> omega
    show IsRangeIter _ _ (lo + ((0 : Nat) : Int) * 1) ((((hi - lo).toNat : Nat) : Int) - ((0 : Nat) : Int)) 1
    rw [e1, e2]
    exact Heap.get?_push_size _ rfl
  · have e : b = (s.heap.push { cls := .type "range", data := .fields #[.int lo t, .int hi u, .int 1 v] }).objs.size := by simpa using hb
    subst e
    exact I1.fpOk (Nat.le_refl _) (I1.hok.fresh (Nat.le_refl _))
noncomputable def iRng1 (ta : TA) : TI := fun σ H R => ta σ H fun vs H1 => ∃ j : Int, vs = [.int j] ∧ -(2 ^ 62) ≤ j ∧ j < 2 ^ 62 ∧ R (Itr 0 j.toNat) H1
noncomputable def iRng2 (ta : TA) : TI := fun σ H R => ta σ H fun vs H1 => ∃ i j : Int, vs = [.int i, .int j] ∧ (-(2 ^ 62) ≤ i ∧ i < 2 ^ 62 ∧ -(2 ^ 62) ≤ j ∧ j < 2 ^ 62) ∧ R (Itr i (j - i).toNat) H1
theorem pi_range1 {a : Expr} {ta : TA} {p pos : Pos} (hg : Gl X "range") (hm : X.mg "range" = none) (ha : PA X [a] ta) (hs : starEach [a] X.env = [(false, eval a X.env)] := by rfl) : PI X tg (.Call (.Name "range" p) [a] [] pos) (iRng1 ta) := by
  intro pins s σ H R I h
  refine Call_ (ld_blt I hg hm boot_range (PyProof.Rows.callWith_type1 (thn (ha pos pins s σ H _ I h) fun us s1 ⟨vs, H1, I1, r1, q1⟩ => ?_) hs rfl))
  obtain ⟨j, e, q1, q2, q⟩ := q1
  subst e
  cases r1 with
  | cons r rr =>
    cases rr
    obtain ⟨t, rfl⟩ := r
    exact call_range_1 (range_it I1 (by omega) (by omega) q1 q2 (by simpa using q))
noncomputable def tFor (wi : TI) (g : TG) (tb : TS) : TS := fun D σ H => wi σ H fun J H1 => ∃ W : Nat → Nat → St → Hp → Prop, (∃ m, W 0 m σ H1) ∧ ∀ i m σ H, W i m σ H →
  (J.stop i H ∧ D.nx σ H) ∨ (J.go i H ∧ ∃ N : St → Hp → Prop, (∀ σ' H', N σ' H' → ∃ m', m' < m ∧ W (i + 1) m' σ' H') ∧ ∀ x H', J.yld i H x H' → g x σ H' fun σ2 H2 => tb { D with nx := N, ct := N, bk := D.nx } σ2 H2)
noncomputable def pinsAt (fp : List Addr) (h : Heap) : List (Addr × Obj) := fp.filterMap fun b => (h.get? b).map fun o => (b, o)
theorem mem_pinsAt {fp : List Addr} {h : Heap} {b : Addr} {o : Obj} (hb : b ∈ fp) (e : h.get? b = some o) : (b, o) ∈ pinsAt fp h := List.mem_filterMap.mpr ⟨b, hb, by rw [e]; rfl⟩
theorem of_pinsAt {fp : List Addr} {h : Heap} {p : Addr × Obj} (hp : p ∈ pinsAt fp h) : p.1 ∈ fp ∧ h.get? p.1 = some p.2 := by
  obtain ⟨b, hb, e⟩ := List.mem_filterMap.mp hp
  cases q : h.get? b with
  | none => rw [q] at e; cases e
  | some o =>
    rw [q] at e
    have e' : (b, o) = p := Option.some.inj e
    subst e'
    exact ⟨hb, q⟩
theorem Inv.pinned {pins : List (Addr × Obj)} {σ : St} {H : Hp} {s : Shared} {fp : List Addr} (I : Inv X pins σ H s) (hf : ∀ b ∈ fp, FpOk X pins H b) (ho : ∀ b ∈ fp, ∃ o, s.heap.get? b = some o ∧ ∀ v, o.data ≠ .cell v) : Inv X (pins ++ pinsAt fp s.heap) σ H s :=
  I.pins_of fun p hp => (List.mem_append.mp hp).elim (fun z => I.pin p (List.mem_append_right _ z)) fun z => by
    obtain ⟨hb, e⟩ := of_pinsAt z
    obtain ⟨f0, f1, f2, _⟩ := hf p.1 hb
    obtain ⟨o, e', d⟩ := ho p.1 hb
    rw [e] at e'; cases e'
    exact ⟨e, f0, f1, f2, d⟩
theorem Inv.unpinned {pins pl : List (Addr × Obj)} {σ : St} {H : Hp} {s : Shared} (I : Inv X (pins ++ pl) σ H s) : Inv X pins σ H s := I.pins_of fun p hp => I.pin p (List.mem_append_right _ (List.mem_append_left _ hp))
theorem ps_for {iter : Expr} {body : List Stmt} {wi : TI} {g : TG} {tb : TS} {pos : Pos} (hp : PassesOwn (model X.prog X.w) X.A X.env X.xe) (hc : X.calm = true) (hi : PI X tg iter wi) (hg : PG X tg g) (hb : PSs X body tb)
    (hs : ∀ x, foldedSetIterable iter X.env x = pure x := by intro _; rfl) : PS X (.For tg iter body [] pos) (tFor wi g tb) := by
  intro pins s σ H D I h
  refine wpAny_For (thn (hi pins s σ H _ I h) fun v s1 h1 => thn h1 fun itv s2 h2 => ?_) hs
  obtain ⟨it, fp, tn, J, H2, e, I2, T, st2, f2, W, ⟨m0, w0⟩, turn⟩ := h2
  subst e
  -- what stays true of the iterator's objects through the loop
  have stat : ∀ {H' : Hp}, (∀ b ∈ fp, H' b = none) → ∀ b ∈ fp, FpOk X pins H' b := fun hn b hb => ⟨hn b hb, (f2 b hb).2⟩
  refine codeAny_forLoop_any (fun n s' => ∃ i σ' H', Inv X pins σ' H' s' ∧ tn i s'.heap ∧ (∀ b ∈ fp, H' b = none) ∧ W i n σ' H') ?_ m0 ⟨0, σ, H2, I2, st2, fun b hb => (f2 b hb).1, w0⟩
  rintro n s3 ⟨i, σ3, H3, I3, st3, fr3, w3⟩
  rcases turn i n σ3 H3 w3 with ⟨stop, qn⟩ | ⟨go, N, hN, step⟩
  · refine wpAny_passesOwn hp (thn (T.done X rfl rfl rfl hc i pins s3 σ3 H3 X.xe I3 (stat fr3) st3 stop) fun r s4 ⟨hr, I4⟩ => ?_)
    subst hr
    exact wpAny_execs_nil ⟨σ3, H3, I4, qn⟩
  · refine wpAny_passesOwn hp (thn (T.item X rfl rfl rfl hc i pins s3 σ3 H3 X.xe I3 (stat fr3) st3 go) fun r s4 ⟨u, hr, h4⟩ => ?_)
    subst hr
    refine wpAny_passesOwn hp (thn h4 fun _ s5 ⟨x, H5, I5, r5, y5, st5, fr5⟩ => ?_)
    have I5' := I5.pinned (stat fr5) (T.obj _ _ st5)
    refine wpAny_passesOwn hp (thn (hg _ s5 σ3 H5 x u _ I5' r5 (step x H5 y5)) fun _ s6 ⟨σ6, H6, I6, q6⟩ => ?_)
    refine wpAny_passesOwn hp (thn (hb _ s6 σ6 H6 _ I6 q6) fun f s7 q7 => ?_)
    have again : ∀ {σ7 : St} {H7 : Hp}, Inv X (pins ++ pinsAt fp s5.heap) σ7 H7 s7 → N σ7 H7 → ∃ m, m < n ∧ ∃ i σ' H', Inv X pins σ' H' s7 ∧ tn i s7.heap ∧ (∀ b ∈ fp, H' b = none) ∧ W i m σ' H' := fun {σ7 H7} I7 n7 => by
      obtain ⟨m', hm, w7⟩ := hN σ7 H7 n7
      refine ⟨m', hm, i + 1, σ7, H7, I7.unpinned, T.keep _ _ _ st5 fun b hb o e => (I7.pin (b, o) (List.mem_append_right _ (List.mem_append_right _ (mem_pinsAt hb e)))).1, fun b hb => ?_, w7⟩
      obtain ⟨o, e, d⟩ := T.obj _ _ st5 b hb
      exact (I7.pin (b, o) (List.mem_append_right _ (List.mem_append_right _ (mem_pinsAt hb e)))).2.1
    cases f with
    | next => obtain ⟨σ7, H7, I7, n7⟩ := q7; exact again I7 n7
    | cont => obtain ⟨σ7, H7, I7, n7⟩ := q7; exact again I7 n7
    | brk => obtain ⟨σ7, H7, I7, q7⟩ := q7; exact ⟨σ7, H7, I7.unpinned, q7⟩
    | ret v => obtain ⟨x7, σ7, H7, I7, r7, q7⟩ := q7; exact ⟨x7, σ7, H7, I7.unpinned, r7, q7⟩
end
end L2
namespace L2
open PySem PySem.Spec PyProof.Rows
noncomputable abbrev R2 := V → V → Hp → VK → Prop
noncomputable def OpR (X : Cx) (f : Value → Value → Sem Value) (r : R2) : Prop :=
  ∀ (pins : List (Addr × Obj)) (s : Shared) (σ : St) (H : Hp) (x y : V) (v u : Value) (Q : VK), Inv X pins σ H s → RelV x v → RelV y u → r x y H Q →
    wpAny (model X.prog X.w) X.A (f v u) (EP X pins σ Q) X.xe s
noncomputable def UnR (X : Cx) (f : Value → Sem Value) (r : V → Hp → VK → Prop) : Prop :=
  ∀ (pins : List (Addr × Obj)) (s : Shared) (σ : St) (H : Hp) (x : V) (v : Value) (Q : VK), Inv X pins σ H s → RelV x v → r x H Q →
    wpAny (model X.prog X.w) X.A (f v) (EP X pins σ Q) X.xe s
noncomputable def CallR (X : Cx) (f : Value) (r : List V → Hp → VK → Prop) : Prop :=
  ∀ (pins : List (Addr × Obj)) (s : Shared) (σ : St) (H : Hp) (xs : List V) (us : List Value) (Q : VK), Inv X pins σ H s → Vals xs us → r xs H Q →
    wpAny (model X.prog X.w) X.A (call f us) (EP X pins σ Q) X.xe s
noncomputable def TruR (X : Cx) (r : V → Hp → (Bool → Hp → Prop) → Prop) : Prop :=
  ∀ (pins : List (Addr × Obj)) (s : Shared) (σ : St) (H : Hp) (x : V) (v : Value) (Q : Bool → Hp → Prop), Inv X pins σ H s → RelV x v → r x H Q →
    wpAny (model X.prog X.w) X.A (truthy v) (TP X pins σ Q) X.xe s
noncomputable def tOp (r : R2) (ta tb : TE) : TE := fun σ H Q => ta σ H fun x H1 => tb σ H1 fun y H2 => r x y H2 Q
noncomputable def tUn (r : V → Hp → VK → Prop) (ta : TE) : TE := fun σ H Q => ta σ H fun x H1 => r x H1 Q
noncomputable def rI (C : Int → Int → Prop) (g : Int → Int → V) : R2 := fun x y H Q => ∃ i j, x = .int i ∧ y = .int j ∧ C i j ∧ Q (g i j) H
noncomputable def rI0 (g : Int → Int → V) : R2 := fun x y H Q => ∃ i j, x = .int i ∧ y = .int j ∧ Q (g i j) H
noncomputable def rU (g : Int → V) : V → Hp → VK → Prop := fun x H Q => ∃ i, x = .int i ∧ Q (g i) H
section
variable {X : Cx} {a b c : Expr} {ta tb tc : TE} {pos : Pos}
theorem binT (ha : PE X a ta) (hb : PE X b tb) {pins : List (Addr × Obj)} {s : Shared} {σ : St} {H : Hp} {R : V → V → Hp → Prop} (I : Inv X pins σ H s)
    (h : ta σ H fun x H1 => tb σ H1 fun y H2 => R x y H2) {Q : Value → Shared → Prop} {f : Value → Value → Sem Value}
    (hf : ∀ v u s2 x y H2, Inv X pins σ H2 s2 → RelV x v → RelV y u → R x y H2 → wpAny (model X.prog X.w) X.A (f v u) Q X.xe s2) :
    wpAny (model X.prog X.w) X.A (eval a X.env) (fun v s₁ => wpAny (model X.prog X.w) X.A (eval b X.env) (fun u s₂ => wpAny (model X.prog X.w) X.A (f v u) Q X.xe s₂) X.xe s₁) X.xe s := by
  refine thn (ha pins s σ H _ I h) fun v s1 ⟨x, H1, I1, r1, q1⟩ => ?_
  refine thn (hb pins s1 σ H1 _ I1 q1) fun u s2 ⟨y, H2, I2, r2, q2⟩ => ?_
  exact hf v u s2 x y H2 I2 r1 r2 q2
theorem pe_op {op : Operator} {r : R2} (ho : OpR X (binaryOp op) r) (ha : PE X a ta) (hb : PE X b tb) : PE X (.BinOp a op b pos) (tOp r ta tb) := by
  intro pins s σ H Q I h
  exact wpAny_BinOp (binT ha hb I h fun v u s2 x y H2 I2 rx ry q => ho pins s2 σ H2 x y v u Q I2 rx ry q)
theorem pe_un {op : UnaryOp} {r : V → Hp → VK → Prop} (ho : UnR X (unaryOp op) r) (ha : PE X a ta) : PE X (.UnaryOp op a pos) (tUn r ta) := by
  intro pins s σ H Q I h
  exact UnaryOp_ (thn (ha pins s σ H _ I h) fun v s1 ⟨x, H1, I1, r1, q1⟩ => ho pins s1 σ H1 x v Q I1 r1 q1)
theorem opI {f : Value → Value → Sem Value} {C : Int → Int → Prop} {g : Int → Int → Int}
    (rule : ∀ (i j : Int) (t u : Tok) (s : Shared) (Q : Value → Shared → Prop) (E : Value → Shared → Prop), C i j → Q (.int (g i j) s.toks) { s with toks := s.toks + 1 } → wpAny (model X.prog X.w) X.A (f (.int i t) (.int j u)) Q E s) :
    OpR X f (rI C fun i j => .int (g i j)) := by
  intro pins s σ H x y v u Q I rx ry h
  obtain ⟨i, j, rfl, rfl, hc, q⟩ := h
  obtain ⟨t, rfl⟩ := rx
  obtain ⟨t', rfl⟩ := ry
  exact rule i j t t' s _ _ hc ⟨.int (g i j), H, I.tok _, ⟨_, rfl⟩, q⟩
theorem opI0 {f : Value → Value → Sem Value} {g : Int → Int → Int}
    (rule : ∀ (i j : Int) (t u : Tok) (s : Shared) (Q : Value → Shared → Prop) (E : Value → Shared → Prop), Q (.int (g i j) s.toks) { s with toks := s.toks + 1 } → wpAny (model X.prog X.w) X.A (f (.int i t) (.int j u)) Q E s) :
    OpR X f (rI0 fun i j => .int (g i j)) := by
  intro pins s σ H x y v u Q I rx ry h
  obtain ⟨i, j, rfl, rfl, q⟩ := h
  obtain ⟨t, rfl⟩ := rx
  obtain ⟨t', rfl⟩ := ry
  exact rule i j t t' s _ _ ⟨.int (g i j), H, I.tok _, ⟨_, rfl⟩, q⟩
theorem opB0 {f : Value → Value → Sem Value} {g : Int → Int → Bool}
    (rule : ∀ (i j : Int) (t u : Tok) (s : Shared) (Q : Value → Shared → Prop) (E : Value → Shared → Prop), Q (.bool (g i j)) s → wpAny (model X.prog X.w) X.A (f (.int i t) (.int j u)) Q E s) :
    OpR X f (rI0 fun i j => .bl (g i j)) := by
  intro pins s σ H x y v u Q I rx ry h
  obtain ⟨i, j, rfl, rfl, q⟩ := h
  obtain ⟨t, rfl⟩ := rx
  obtain ⟨t', rfl⟩ := ry
  exact rule i j t t' s _ _ ⟨.bl (g i j), H, I, rfl, q⟩
noncomputable def CPow (i j : Int) : Prop := 0 ≤ j ∧ j ≤ 1000000 ∧ i.natAbs < 2 ^ 64
noncomputable def CMul (i j : Int) : Prop := (-(2 ^ 64) < i ∧ i < 2 ^ 64) ∨ (-(2 ^ 64) < j ∧ j < 2 ^ 64)
theorem CMul.ok {i j : Int} (h : CMul i j) : IntMulOk i j := by
  rcases h with ⟨h1, h2⟩ | ⟨h1, h2⟩
  · exact .of_left (intBits_le_64 h1 h2)
  · exact .of_right (intBits_le_64 h1 h2)
theorem op_add : OpR X (binaryOp .Add) (rI0 fun i j => .int (i + j)) := opI0 fun _ _ _ _ _ _ _ q => add_int q
theorem op_sub : OpR X (binaryOp .Sub) (rI0 fun i j => .int (i - j)) := opI0 fun _ _ _ _ _ _ _ q => sub_int q
theorem op_mul : OpR X (binaryOp .Mult) (rI CMul fun i j => .int (i * j)) := opI fun _ _ _ _ _ _ _ hc q => mul_int q hc.ok
theorem op_mod : OpR X (binaryOp .Mod) (rI (fun _ j => 0 < j) fun i j => .int (i % j)) := opI fun i j _ _ _ _ _ hc q => by
  have h1 : (0 : Int) < j := hc
  exact mod_int' (by omega) (by rw [Int.fmod_eq_emod_of_nonneg i (by omega)]; exact q)
theorem op_pow : OpR X (binaryOp .Pow) (rI CPow fun i j => .int (i ^ j.toNat)) := opI fun _ _ _ _ _ _ _ hc q => pow_int_small hc.1 hc.2.1 hc.2.2 q
theorem unI {f : Value → Sem Value} {g : Int → Int}
    (rule : ∀ (i : Int) (t : Tok) (s : Shared) (Q : Value → Shared → Prop) (E : Value → Shared → Prop), Q (.int (g i) s.toks) { s with toks := s.toks + 1 } → wpAny (model X.prog X.w) X.A (f (.int i t)) Q E s) :
    UnR X f (rU fun i => .int (g i)) := by
  intro pins s σ H x v Q I rx h
  obtain ⟨i, rfl, q⟩ := h
  obtain ⟨t, rfl⟩ := rx
  exact rule i t s _ _ ⟨.int (g i), H, I.tok _, ⟨_, rfl⟩, q⟩
theorem un_neg : UnR X (unaryOp .USub) (rU fun i => .int (-i)) := unI fun _ _ _ _ _ q => neg_int q
end
noncomputable def scal : V → V → Bool
  | .non, .non => true | .non, .int _ => true | .int _, .non => true | .non, .bl _ => true | .bl _, .non => true | .non, .str _ => true | .str _, .non => true
  | .int _, .int _ => true | .bl _, .bl _ => true | .str _, .str _ => true | .byt _, .byt _ => true
  | .int _, .str _ => true | .str _, .int _ => true | .bl _, .str _ => true | .str _, .bl _ => true
  | _, _ => false
noncomputable def rEq : R2 := fun x y H Q => scal x y = true ∧ Q (.bl (decide (x = y))) H
noncomputable def rNe : R2 := fun x y H Q => scal x y = true ∧ Q (.bl (!decide (x = y))) H
theorem dec_int {i j : Int} : decide (V.int i = V.int j) = (i == j) := by
  rw [Bool.eq_iff_iff]
  simp
theorem dec_bl {i j : Bool} : decide (V.bl i = V.bl j) = (i == j) := by
  rw [Bool.eq_iff_iff]
  simp
theorem dec_str {i j : Str} : decide (V.str i = V.str j) = (i == j) := by
  rw [Bool.eq_iff_iff]
  simp
theorem dec_byt {i j : Array UInt8} : decide (V.byt i = V.byt j) = (i.toList == j.toList) := by
  rw [Bool.eq_iff_iff]
  cases i
  cases j
  simp
section
variable {X : Cx} {a b c : Expr} {ta tb tc : TE} {pos : Pos}
theorem fin_bl {pins : List (Addr × Obj)} {σ : St} {H : Hp} {s : Shared} {Q : VK} {k k' : Bool} (I : Inv X pins σ H s) (q : Q (.bl k) H) (e : k = k') : EP X pins σ Q (.bool k') s := by
  subst e
  exact ⟨.bl k, H, I, rfl, q⟩
theorem op_eq : OpR X (compareOp .Eq) rEq := by
  intro pins s σ H x y v u Q I rx ry h
  obtain ⟨hs, q⟩ := h
  cases x with
  | non =>
    cases rx
    cases y with
    | non => cases ry; exact PySem.EqNone.eq_none_none (fin_bl I q (by simp))
    | bl j => cases ry; exact PySem.EqNone.eq_none_bool (fin_bl I q (by simp))
    | int j => obtain ⟨t', rfl⟩ := ry; exact PySem.EqNone.eq_none_int (fin_bl I q (by simp))
    | str j => obtain ⟨t', rfl⟩ := ry; exact PySem.EqNone.eq_none_str (fin_bl I q (by simp))
    | _ => exact absurd (show false = true from hs) Bool.false_ne_true
  | bl i =>
    cases rx
    cases y with
    | non => cases ry; exact PySem.EqNone.eq_bool_none (fin_bl I q (by simp))
    | bl j => cases ry; exact eq_bool (fin_bl I q dec_bl)
    | str j => obtain ⟨t', rfl⟩ := ry; exact PySem.EqMixed.eq_bool_str (fin_bl I q (by simp))
    | _ => exact absurd (show false = true from hs) Bool.false_ne_true
  | int i =>
    obtain ⟨t, rfl⟩ := rx
    cases y with
    | non => cases ry; exact PySem.EqNone.eq_int_none (fin_bl I q (by simp))
    | int j => obtain ⟨t', rfl⟩ := ry; exact eq_int (fin_bl I q dec_int)
    | str j => obtain ⟨t', rfl⟩ := ry; exact PySem.EqMixed.eq_int_str (fin_bl I q (by simp))
    | _ => exact absurd (show false = true from hs) Bool.false_ne_true
  | str i =>
    obtain ⟨t, rfl⟩ := rx
    cases y with
    | non => cases ry; exact PySem.EqNone.eq_str_none (fin_bl I q (by simp))
    | bl j => cases ry; exact PySem.EqMixed.eq_str_bool (fin_bl I q (by simp))
    | int j => obtain ⟨t', rfl⟩ := ry; exact PySem.EqMixed.eq_str_int (fin_bl I q (by simp))
    | str j => obtain ⟨t', rfl⟩ := ry; exact eq_str (fin_bl I q dec_str)
    | _ => exact absurd (show false = true from hs) Bool.false_ne_true
  | byt i =>
    obtain ⟨t, rfl⟩ := rx
    cases y with
    | byt j => obtain ⟨t', rfl⟩ := ry; exact PySem.W.eq_bytes (fin_bl I q dec_byt)
    | _ => exact absurd (show false = true from hs) Bool.false_ne_true
  | _ => cases y <;> exact absurd (show false = true from hs) Bool.false_ne_true
theorem op_ne : OpR X (compareOp .NotEq) rNe := by
  intro pins s σ H x y v u Q I rx ry h
  obtain ⟨hs, q⟩ := h
  cases x with
  | non =>
    cases rx
    cases y with
    | non => cases ry; exact PySem.EqNone.ne_none_none (fin_bl I q (by simp))
    | bl j => cases ry; exact PySem.EqNone.ne_none_bool (fin_bl I q (by simp))
    | int j => obtain ⟨t', rfl⟩ := ry; exact PySem.EqNone.ne_none_int (fin_bl I q (by simp))
    | str j => obtain ⟨t', rfl⟩ := ry; exact PySem.EqNone.ne_none_str (fin_bl I q (by simp))
    | _ => exact absurd (show false = true from hs) Bool.false_ne_true
  | bl i =>
    cases rx
    cases y with
    | non => cases ry; exact PySem.EqNone.ne_bool_none (fin_bl I q (by simp))
    | bl j => cases ry; exact ne_bool (fin_bl I q (congrArg not dec_bl))
    | str j => obtain ⟨t', rfl⟩ := ry; exact PySem.EqMixed.ne_bool_str (fin_bl I q (by simp))
    | _ => exact absurd (show false = true from hs) Bool.false_ne_true
  | int i =>
    obtain ⟨t, rfl⟩ := rx
    cases y with
    | non => cases ry; exact PySem.EqNone.ne_int_none (fin_bl I q (by simp))
    | int j => obtain ⟨t', rfl⟩ := ry; exact ne_int (fin_bl I q (congrArg not dec_int))
    | str j => obtain ⟨t', rfl⟩ := ry; exact PySem.EqMixed.ne_int_str (fin_bl I q (by simp))
    | _ => exact absurd (show false = true from hs) Bool.false_ne_true
  | str i =>
    obtain ⟨t, rfl⟩ := rx
    cases y with
    | non => cases ry; exact PySem.EqNone.ne_str_none (fin_bl I q (by simp))
    | bl j => cases ry; exact PySem.EqMixed.ne_str_bool (fin_bl I q (by simp))
    | int j => obtain ⟨t', rfl⟩ := ry; exact PySem.EqMixed.ne_str_int (fin_bl I q (by simp))
    | str j => obtain ⟨t', rfl⟩ := ry; exact ne_str (fin_bl I q (congrArg not dec_str))
    | _ => exact absurd (show false = true from hs) Bool.false_ne_true
  | byt i =>
    obtain ⟨t, rfl⟩ := rx
    cases y with
    | byt j => obtain ⟨t', rfl⟩ := ry; exact PySem.W.ne_bytes (fin_bl I q (congrArg not dec_byt))
    | _ => exact absurd (show false = true from hs) Bool.false_ne_true
  | _ => cases y <;> exact absurd (show false = true from hs) Bool.false_ne_true
theorem op_lt : OpR X (compareOp .Lt) (rI0 fun i j => .bl (decide (i < j))) := opB0 fun _ _ _ _ _ _ _ q => lt_int q
theorem op_le : OpR X (compareOp .LtE) (rI0 fun i j => .bl (decide (i ≤ j))) := opB0 fun _ _ _ _ _ _ _ q => le_int q
theorem op_gt : OpR X (compareOp .Gt) (rI0 fun i j => .bl (decide (j < i))) := opB0 fun _ _ _ _ _ _ _ q => gt_int q
theorem op_ge : OpR X (compareOp .GtE) (rI0 fun i j => .bl (decide (j ≤ i))) := opB0 fun _ _ _ _ _ _ _ q => ge_int q
theorem op_notN : OpR X (compareOp .IsNot) (fun x y H Q => y = .non ∧ Q (.bl (!decide (x = .non))) H) := by
  intro pins s σ H x y v u Q I rx ry h
  obtain ⟨rfl, q⟩ := h
  cases ry
  refine isnot_none_gen (fin_bl I q ?_)
  cases x <;> first
    | (cases rx; rfl)
    | (obtain ⟨t, rfl⟩ := rx; rfl)
theorem nomark (b : Expr) {op : CmpOp} (h : op ≠ .In := by decide) (h2 : op ≠ .NotIn := by decide) : behindInMarks op b = false := by
  have e1 : (op == CmpOp.In) = false := by cases op <;> first | rfl | exact absurd rfl h
  have e2 : (op == CmpOp.NotIn) = false := by cases op <;> first | rfl | exact absurd rfl h2
  cases b <;> simp [behindInMarks, e1, e2]
theorem pe_cmpR {op : CmpOp} {r : R2} (ho : OpR X (compareOp op) r) (ha : PE X a ta) (hb : PE X b tb) (hm : behindInMarks op b = false) : PE X (.Compare a [op] [b] pos) (tOp r ta tb) := by
  intro pins s σ H Q I h
  exact wpAny_Compare1 (binT ha hb I h fun v u s2 x y H2 I2 rx ry q => ho pins s2 σ H2 x y v u Q I2 rx ry q) hm
noncomputable def tTest (t : TE) : TT := fun σ H Q => t σ H fun x H' => ∃ k, x = .bl k ∧ Q k H'
theorem pt_cmpR {op : CmpOp} {r : R2} (ho : OpR X (compareOp op) r) (ha : PE X a ta) (hb : PE X b tb) (hm : behindInMarks op b = false) : PT X (.Compare a [op] [b] pos) (tTest (tOp r ta tb)) := by
  intro pins s σ H Q I h
  refine wpAny_isTrue_Compare1 (thn (ha pins s σ H _ I h) fun v s1 ⟨x, H1, I1, r1, q1⟩ => thn (hb pins s1 σ H1 _ I1 q1) fun u s2 ⟨y, H2, I2, r2, q2⟩ =>
    thn (ho pins s2 σ H2 x y v u _ I2 r1 r2 q2) fun c s3 ⟨z, H3, I3, r3, k, e, q3⟩ => ?_) hm
  subst e
  cases r3
  exact wpAny_truthy_bool ⟨H3, I3, q3⟩
noncomputable def tChain (r r' : R2) (ta tb tc : TE) : TE := fun σ H Q => ta σ H fun x H1 => tb σ H1 fun y H2 => r x y H2 fun z H3 => ∃ k, z = .bl k ∧
  (if k = true then tc σ H3 fun w' H4 => r' y w' H4 Q else Q (.bl false) H3)
theorem pe_chain {op op' : CmpOp} {r r' : R2} (ho : OpR X (compareOp op) r) (ho' : OpR X (compareOp op') r') (ha : PE X a ta) (hb : PE X b tb) (hc : PE X c tc)
    (hm : lastMarks [op, op'] [b, c] = false := by with_unfolding_all rfl) : PE X (.Compare a [op, op'] [b, c] pos) (tChain r r' ta tb tc) := by
  intro pins s σ H Q I h
  refine Compare_chain (thn (ha pins s σ H _ I h) fun v s1 ⟨x, H1, I1, r1, q1⟩ => chain_link (thn (hb pins s1 σ H1 _ I1 q1) fun u s2 ⟨y, H2, I2, r2, q2⟩ =>
    thn (ho pins s2 σ H2 x y v u _ I2 r1 r2 q2) fun d s3 ⟨z, H3, I3, r3, k, e, q3⟩ => ?_)) hm
  subst e
  cases r3
  refine wpAny_truthy_bool ?_
  cases k with
  | false => exact ite_ff ⟨.bl false, H3, I3, rfl, q3⟩
  | true => exact ite_tt (chain_last (thn (hc pins s3 σ H3 _ I3 q3) fun w' s4 ⟨z', H4, I4, r4, q4⟩ => ho' pins s4 σ H4 y z' u w' Q I4 r2 r4 q4))
theorem pt_chain {op op' : CmpOp} {r r' : R2} (ho : OpR X (compareOp op) r) (ho' : OpR X (compareOp op') r') (ha : PE X a ta) (hb : PE X b tb) (hc : PE X c tc)
    (hm : lastMarks [op, op'] [b, c] = false := by with_unfolding_all rfl) : PT X (.Compare a [op, op'] [b, c] pos) (tTest (tChain r r' ta tb tc)) := by
  intro pins s σ H Q I h
  refine isTrue_chain (thn (ha pins s σ H _ I h) fun v s1 ⟨x, H1, I1, r1, q1⟩ => test_link (thn (hb pins s1 σ H1 _ I1 q1) fun u s2 ⟨y, H2, I2, r2, q2⟩ =>
    thn (ho pins s2 σ H2 x y v u _ I2 r1 r2 q2) fun d s3 ⟨z, H3, I3, r3, k, e, q3⟩ => ?_)) hm
  subst e
  cases r3
  refine wpAny_truthy_bool ?_
  cases k with
  | false =>
    obtain ⟨k', e', q'⟩ := q3
    cases e'
    exact ite_ff ⟨H3, I3, q'⟩
  | true =>
    refine ite_tt (test_last (thn (hc pins s3 σ H3 _ I3 q3) fun w' s4 ⟨z', H4, I4, r4, q4⟩ => thn (ho' pins s4 σ H4 y z' u w' _ I4 r2 r4 q4) fun d' s5 ⟨z2, H5, I5, r5, k2, e2, q5⟩ => ?_))
    subst e2
    cases r5
    exact wpAny_truthy_bool ⟨H5, I5, q5⟩
noncomputable def TruV (K : PySem.W.Frag) (x : V) (H : Hp) (k : Bool) : Prop :=
  match x with
  | .non => k = false
  | .bl b => k = b
  | .int i => k = (i != 0)
  | .str y => y.length ≤ sizeLine ∧ k = ((y.length : Int) != 0)
  | .byt y => y.size ≤ sizeLine ∧ k = ((y.size : Int) != 0)
  | .ref p => (∃ xs, SqL K H p xs ∧ k = !xs.isEmpty) ∨ (∃ xs, SqT K H p xs ∧ k = !xs.isEmpty) ∨ ∃ kvs, H p = some (.dK kvs) ∧ k = !kvs.isEmpty
  | _ => False
theorem isEmpty_kv {κ : Type} {kvs : List (κ × V)} {vs : List (κ × Value)} (r : KV kvs vs) : (!vs.isEmpty) = !kvs.isEmpty := by
  cases r <;> rfl
theorem isEmpty_of {xs : List V} {its : List Value} (r : Vals xs its) : (!its.toArray.isEmpty) = !xs.isEmpty := by
  cases r <;> simp
theorem line63 : (sizeLine : Nat) < 2 ^ 63 := by rw [sizeLine_eq]; decide
theorem tru_ok : TruR X (fun x H Q => ∃ k, TruV X.K x H k ∧ Q k H) := by
  intro pins s σ H x v Q I rx h
  obtain ⟨k, e, q⟩ := h
  have hl := line63
  have hs : sizeLine = 16777216 := sizeLine_eq
  cases x with
  | non =>
    cases rx
    have e' : k = false := e
    subst e'
    exact truthy_none ⟨H, I, q⟩
  | bl b =>
    cases rx
    have e' : k = b := e
    subst e'
    exact wpAny_truthy_bool ⟨H, I, q⟩
  | int i =>
    obtain ⟨t, rfl⟩ := rx
    have e' : k = (i != 0) := e
    subst e'
    exact PySem.P.truthy_int ⟨H, I, q⟩
  | str y =>
    obtain ⟨t, rfl⟩ := rx
    obtain ⟨hy, e'⟩ : y.length ≤ sizeLine ∧ k = ((y.length : Int) != 0) := e
    subst e'
    exact PySem.P.truthy_str (by omega) ⟨H, I.tok _, q⟩
  | byt y =>
    obtain ⟨t, rfl⟩ := rx
    obtain ⟨hy, e'⟩ : y.size ≤ sizeLine ∧ k = ((y.size : Int) != 0) := e
    subst e'
    exact PySem.W.truthy_bytes (by omega) ⟨H, I.tok _, q⟩
  | ref p =>
    cases rx
    have e' : (∃ xs, SqL X.K H p xs ∧ k = !xs.isEmpty) ∨ (∃ xs, SqT X.K H p xs ∧ k = !xs.isEmpty) ∨ ∃ kvs, H p = some (.dK kvs) ∧ k = !kvs.isEmpty := e
    rcases e' with ⟨xs, hx, e'⟩ | ⟨xs, hx, e'⟩ | ⟨kvs, hx, e'⟩
    · subst e'
      obtain ⟨its, r, pl, hz⟩ := I.list hx
      have hlen := r.length
      exact wpAny_truthy_list pl.isList (by simp only [List.size_toArray]; omega) ⟨H, I.tok _, by rw [isEmpty_of r]; exact q⟩
    · subst e'
      obtain ⟨its, r, pl, hz⟩ := I.tuple hx
      have hlen := r.length
      exact truthy_tuple pl (by simp only [List.size_toArray]; omega) ⟨H, I.tok _, by rw [isEmpty_of r]; exact q⟩
    · subst e'
      obtain ⟨hz, hS, vs, r, m⟩ : kvs.length ≤ sizeLine ∧ (p == sysModules) = false ∧ ∃ vs, KV kvs vs ∧ s.heap.DictOf (mixKind X.prog X.w) p vs := I.hok p _ hx
      have hlen : kvs.length = vs.length := Paired.length r
      exact wpAny_truthy_dict hS m (by omega) ⟨H, I.tok _, by rw [isEmpty_kv r]; exact q⟩
  | _ => exact (show False from e).elim
theorem pt_truth (ha : PE X a ta) (he : ∀ whole, isTrue a X.env whole = (do let v ← whole; standAt a.pos; holding [v] (truthy v))) :
    PT X a (fun σ H Q => ta σ H fun x H' => ∃ k, TruV X.K x H' k ∧ Q k H') := by
  intro pins s σ H Q I h
  exact isTrue_plain (thn (ha pins s σ H _ I h) fun v s1 ⟨x, H1, I1, r1, q1⟩ => tru_ok pins s1 σ H1 x v Q I1 r1 q1) (he _)
theorem vals1 {x : V} {us : List Value} (r : Vals [x] us) : ∃ u, us = [u] ∧ RelV x u := by
  cases r with
  | cons r1 r2 => cases r2; exact ⟨_, rfl, r1⟩
theorem vals2 {x y : V} {us : List Value} (r : Vals [x, y] us) : ∃ u w', us = [u, w'] ∧ RelV x u ∧ RelV y w' := by
  cases r with
  | cons r1 r2 =>
    cases r2 with
    | cons r3 r4 => cases r4; exact ⟨_, _, rfl, r1, r3⟩
theorem call_min2 (hc : X.calm = true) : CallR X (.builtin "min") (fun xs H Q => ∃ i j, xs = [.int i, .int j] ∧ Q (.int (if j < i then j else i)) H) := by
  intro pins s σ H xs us Q I r h
  obtain ⟨i, j, rfl, q⟩ := h
  obtain ⟨u, w', rfl, ⟨t, rfl⟩, ⟨t', rfl⟩⟩ := vals2 r
  refine min_two_ints (I.ok.hd hc) fun h' tk k => ⟨_, H, I.kept k, ?_, q⟩
  by_cases hj : j < i
  · rw [if_pos hj, if_pos hj]; exact ⟨_, rfl⟩
  · rw [if_neg hj, if_neg hj]; exact ⟨_, rfl⟩
noncomputable def LenV (K : PySem.W.Frag) (x : V) (H : Hp) (n : Nat) : Prop :=
  match x with
  | .str y => y.length ≤ sizeLine ∧ n = y.length
  | .byt y => y.size ≤ sizeLine ∧ n = y.size
  | .ref p => (∃ xs, SqL K H p xs ∧ n = xs.length) ∨ ∃ xs, SqT K H p xs ∧ n = xs.length
  | _ => False
end
end L2
namespace L2
open PySem PySem.Spec PyProof.Rows
structure ObjM (h : Heap) (x dx C : Addr) (mA : Str → Option Value) : Prop where
  obj : h.get? x = some (PySem.W.instObj C dx)
  ns : h.Ns1 dx mA
  ne : dx ≠ x
theorem lookIn_ns {h : Heap} {dx : Addr} {mA : Str → Option Value} (n : h.Ns1 dx mA) : ∃ od, h.get? dx = some od ∧ ∀ name, PySem.W.lookIn name od = some (mA name) := by
  obtain ⟨o, es, ep, ho, hd, hk, _, hm⟩ := n
  refine ⟨o, ho, fun name => ?_⟩
  have e := hm name
  unfold nsFind findBy at e
  rw [← Array.find?_toList] at e
  unfold PySem.W.lookIn
  rw [hd]
  dsimp only
  split
  · rename_i y q
    rw [q] at e
    exact congrArg some e
  · rename_i q
    rw [q] at e
    have a : es.toList.any (·.refKey) = false := by
      rw [List.any_eq_false]
      intro y hy
      obtain ⟨z, t, hkey⟩ := hk y (Array.mem_toList_iff.mp hy)
      simp [DictEntry.refKey, hkey]
    have a' : ¬ es.toList.any (·.refKey) = true := by rw [a]; exact Bool.false_ne_true
    rw [if_neg a']
    exact congrArg some e
theorem ObjM.look {h : Heap} {x dx C : Addr} {mA : Str → Option Value} (I : ObjM h x dx C mA) : ∃ od, PySem.W.InstAt h x (PySem.W.instObj C dx) C (some od) ∧ ∀ name, PySem.W.lookIn name od = some (mA name) :=
  let ⟨od, ho, hl⟩ := lookIn_ns I.ns
  ⟨od, ⟨I.obj, rfl, rfl, ho⟩, hl⟩
section
variable {prog : Program} {w : World} {A : Around} {E : Value → Shared → Prop} {s : Shared} {K : PySem.W.Frag} {x dx C f : Addr} {mA : Str → Option Value} {name : Str} {v : Value}
theorem get_map {expr : Bool} {Q : Value → Shared → Prop} (X : K.In s.heap) (I : ObjM s.heap x dx C mA) (hg : PySem.W.plainGet K C name = true) (hh : PySem.W.hasDictIn K C = true)
    (ha : PySem.W.findIn K (.ref C) name = some none) (hv : mA name = some v) (hv' : PySem.W.handedIn v = true) (h : Q v { s with toks := s.toks + 1 }) :
    wpAny (model prog w) A (getAttr (.ref x) name expr) Q E s := by
  obtain ⟨od, J, hl⟩ := I.look
  exact PySem.W.get_value X J (PySem.W.plainGet_of hg).1 (PySem.W.findObj_own hh ha rfl (by rw [hl, hv])) hv' h
theorem get_meth {pl : Sem Bool} {Q : Value × List Value → Shared → Prop} (X : K.In s.heap) (I : ObjM s.heap x dx C mA) (hg : PySem.W.plainGet K C name = true)
    (hf : PySem.W.findIn K (.ref C) name = some (some (.ref f))) (ht : PySem.W.isFn K (.ref f) = true) (hv : mA name = none) (h : Q (.ref f, [.ref x]) s) :
    wpAny (model prog w) A (getMethod (.ref x) name pl) Q E s := by
  obtain ⟨od, J, hl⟩ := I.look
  exact PySem.W.method_fn X J (PySem.W.plainGet_of hg).1 (PySem.W.plainGet_of hg).2 hf (beq_iff_eq.mp ht) (by show (PySem.W.lookIn name od).map (·.isSome) = some false; rw [hl, hv]; rfl) h
theorem set_map {ns : List Str} {Q : Unit → Shared → Prop} (X : K.In s.heap) (I : ObjM s.heap x dx C mA)
    (hs : PySem.W.findIn K (.ref C) "__setattr__" = some (some (.builtin "object.__setattr__"))) (hp : PySem.W.plainOver K C = true) (ht : PySem.W.takerIn K C name = some none) (hh : PySem.W.hasDictIn K C = true)
    (hw : PySem.Within mA ns) (hsz : ns.length ≤ sizeLine)
    (h : ∀ h', ObjM h' x dx C (fun y => if y = name then some v else mA y) → Heap.SameBut dx s.heap h' → Q () { s with heap := h', toks := s.toks + 2 }) :
    wpAny (model prog w) A (setAttr (.ref x) name v) Q E s := by
  obtain ⟨od, J, hl⟩ := I.look
  refine PySem.W.set_plain X J hs (PySem.W.osa_open (s := { s with toks := s.toks + 1 }) (r := none) X J hp ht fun b => ?_)
  obtain ⟨cd, hc, hd'⟩ := PySem.W.any_some hh
  have hx : s.heap.get? x = some ⟨.ref C, some dx, .plain, #[]⟩ := I.obj
  refine wpAny_bind (wpAny_pure (wpAny_bind (wpAny_bind (wpAny_loadPart hx (wpAny_bind (PySem.W.Looks.here (s := { s with toks := s.toks + 1 }) (PySem.W.looks_clsIn X hc) ?_))))))
  rw [hd']
  refine wpAny_pure (a := some dx) (wpAny_bind (wpAny_pure (wpAny_bind ?_)))
  refine wpAny_nsSet1 (s := { s with toks := s.toks + 1 }) I.ns fun h' hn2 hs2 => ?_
  obtain ⟨oD, esD, epD, hoD, hdD, hcD⟩ := hn2.count (PySem.Within.cons name v hw)
  refine wpAny_bind (wpAny_lookBehind hoD (by rw [hdD]; exact pastItsLine_dict (Nat.le_trans hcD (by rw [List.length_cons]; omega))) ?_)
  exact wpAny_pure (h _ ⟨(hs2.2 _ (Ne.symm I.ne)).trans I.obj, hn2, I.ne⟩ hs2)
theorem make_map {R : Result → Shared → Prop} {vs : List Value} {kw : List (Str × Value)} (X : K.In s.heap) (hm : PySem.W.makesIn K C = true)
    (hi : PySem.W.findIn K (.ref C) "__init__" = some (some (.ref f))) (hf : PySem.W.typeIn K (.ref f) = some (.type "function"))
    (h : codeAny (model prog w) (A.under (.builtin "type.__call__" ⟨.ref C :: vs, kw⟩)) (.call (.ref f) ⟨.ref (s.heap.objs.size + 1) :: vs, kw⟩) (PySem.W.InitBack (s.heap.objs.size + 1) R)
      { s with heap := (s.heap.push PySem.W.emptyDict).push (PySem.W.instObj C s.heap.objs.size) }) :
    codeAny (model prog w) A (.call (.ref C) ⟨vs, kw⟩) R s := by
  obtain ⟨hh, g, d, t, os⟩ := s
  exact PySem.W.make_core (PySem.W.makes_of X hm) (PySem.W.looks_findIn X hi) (fun self => PySem.W.bind_fn X self hf) (.inl rfl) h
end
noncomputable def putF (f : Str) (v : V) : List (Str × V) → List (Str × V)
  | [] => [(f, v)]
  | (g, x) :: r => if g = f then (g, v) :: r else (g, x) :: putF f v r
theorem lookup_putF (f g : Str) (v : V) : ∀ fs : List (Str × V), (putF f v fs).lookup g = if g = f then some v else fs.lookup g
  | [] => by
    show List.lookup g [(f, v)] = _
    by_cases h : g = f
    · have hb : (g == f) = true := beq_iff_eq.mpr h
      simp only [List.lookup, hb, if_pos h]
    · have hb : (g == f) = false := beq_eq_false_iff_ne.mpr h
      simp only [List.lookup, hb, if_neg h]
  | (k, x) :: r => by
    have ih := lookup_putF f g v r
    rw [show putF f v ((k, x) :: r) = (if k = f then (k, v) :: r else (k, x) :: putF f v r) from rfl]
    by_cases hk : k = f
    · rw [if_pos hk]
      by_cases h : g = k
      · have hb : (g == k) = true := beq_iff_eq.mpr h
        simp only [List.lookup, hb, if_pos (h.trans hk)]
      · have hb : (g == k) = false := beq_eq_false_iff_ne.mpr h
        simp only [List.lookup, hb, if_neg (fun e : g = f => h (e.trans hk.symm))]
    · rw [if_neg hk]
      by_cases h : g = k
      · have hb : (g == k) = true := beq_iff_eq.mpr h
        simp only [List.lookup, hb, if_neg (fun e : g = f => hk (h.symm.trans e))]
      · have hb : (g == k) = false := beq_eq_false_iff_ne.mpr h
        simp only [List.lookup, hb]
        exact ih
theorem keys_putF (f : Str) (v : V) : ∀ fs : List (Str × V), f ∈ (putF f v fs).map (·.1) ∧ ∀ g, g ∈ fs.map (·.1) → g ∈ (putF f v fs).map (·.1)
  | [] => ⟨by simp [putF], fun g h => by simp at h⟩
  | (k, x) :: r => by
    obtain ⟨i1, i2⟩ := keys_putF f v r
    rw [show putF f v ((k, x) :: r) = (if k = f then (k, v) :: r else (k, x) :: putF f v r) from rfl]
    by_cases hk : k = f
    · rw [if_pos hk]
      subst hk
      exact ⟨by simp, fun g h => by simpa using h⟩
    · rw [if_neg hk]
      refine ⟨?_, fun g h => ?_⟩
      · rw [List.map_cons]
        exact List.mem_cons_of_mem _ i1
      · rw [List.map_cons] at h ⊢
        rcases List.mem_cons.mp h with e | e
        · exact List.mem_cons.mpr (.inl e)
        · exact List.mem_cons_of_mem _ (i2 g e)
theorem length_putF (f : Str) (v : V) : ∀ fs : List (Str × V), (putF f v fs).length ≤ fs.length + 1
  | [] => by simp [putF]
  | (k, x) :: r => by
    have ih := length_putF f v r
    rw [show putF f v ((k, x) :: r) = (if k = f then (k, v) :: r else (k, x) :: putF f v r) from rfl]
    by_cases hk : k = f
    · rw [if_pos hk, List.length_cons, List.length_cons]; omega
    · rw [if_neg hk, List.length_cons, List.length_cons]; omega
theorem RelO.some_of {v : V} {o : Option Value} (r : RelO (some v) o) : ∃ u, o = some u ∧ RelV v u := by
  cases o with
  | none => exact (show False from r).elim
  | some u => exact ⟨u, rfl, r⟩
theorem RelO.none_of {o : Option Value} (r : RelO none o) : o = none := by
  cases o with
  | none => rfl
  | some u => exact (show False from r).elim
theorem handed_of {v : V} {u : Value} (r : RelV v u) : PySem.W.handedIn u = true := by
  cases v with
  | non => cases (show u = Value.none from r); rfl
  | bl b => cases (show u = Value.bool b from r); rfl
  | int i => obtain ⟨t, e⟩ := (show ∃ t, u = Value.int i t from r); cases e; rfl
  | str x => obtain ⟨t, e⟩ := (show ∃ t, u = Value.str x t from r); cases e; rfl
  | byt b => obtain ⟨t, e⟩ := (show ∃ t, u = Value.bytes b t from r); cases e; rfl
  | flt b => obtain ⟨t, e⟩ := (show ∃ t, u = Value.float b t from r); cases e; rfl
  | ref a => cases (show u = Value.ref a from r); rfl
  | ty n => cases (show u = Value.type n from r); rfl
section
variable {P : Program} {w : World} {H H' : Hp} {h h' : Heap} {a C dx : Addr} {fs fs' : List (Str × V)}
theorem ins_get (hok : HOk P w H h) (e : H a = some (.ins C dx fs)) : ∃ mA, ObjM h a dx C mA ∧ (∀ f, RelO (fs.lookup f) (mA f)) ∧ PySem.Within mA (fs.map (·.1)) ∧ fs.length ≤ 1000 ∧ H dx = some (.own a) := by
  obtain ⟨d, z, ne, ob, mA, n, r, q⟩ := (show ObjOk P w H h a (.ins C dx fs) from hok a _ e)
  exact ⟨mA, ⟨ob, n, ne⟩, r, q, z, d⟩
end
structure Cls (K : PySem.W.Frag) (C : Addr) : Prop where
  pg : PySem.W.plainGet K C Str.empty = true
  hd : PySem.W.hasDictIn K C = true
  po : PySem.W.plainOver K C = true
  sa : PySem.W.findIn K (.ref C) "__setattr__" = some (some (.builtin "object.__setattr__"))
theorem Cls.get {K : PySem.W.Frag} {C : Addr} (c : Cls K C) (f : Str) : PySem.W.plainGet K C f = true := c.pg
noncomputable def NoAttr (K : PySem.W.Frag) (C : Addr) (f : Str) : Prop := PySem.W.findIn K (.ref C) f = some none
theorem NoAttr.taker {K : PySem.W.Frag} {C : Addr} {f : Str} (n : NoAttr K C f) : PySem.W.takerIn K C f = some none := by
  unfold PySem.W.takerIn
  rw [show PySem.W.findIn K (.ref C) f = some none from n]
  rfl
structure Meth (K : PySem.W.Frag) (C : Addr) (m : Str) (f : Addr) : Prop where
  at_ : PySem.W.findIn K (.ref C) m = some (some (.ref f))
  fn : PySem.W.isFn K (.ref f) = true
  kp : PySem.W.keepIn K (.ref f) = true
section
variable {X : Cx} {pins : List (Addr × Obj)} {σ : St} {H : Hp} {s : Shared} {a C dx : Addr} {fs : List (Str × V)} {f : Str} {v : V} {A : Around} {E : Value → Shared → Prop}
theorem getattr_ok {b : Bool} {Q : Value → Shared → Prop} (I : Inv X pins σ H s) (e : H a = some (.ins C dx fs)) (c : Cls X.K C) (n : NoAttr X.K C f) (l : fs.lookup f = some v)
    (h : ∀ u s', Inv X pins σ H s' → RelV v u → Q u s') : wpAny (model X.prog X.w) A (getAttr (.ref a) f b) Q E s := by
  obtain ⟨mA, O, r, _, _, _⟩ := ins_get I.hok e
  obtain ⟨u, hu, ru⟩ := RelO.some_of (v := v) (o := mA f) (by rw [← l]; exact r f)
  exact get_map I.kIn O (c.get f) c.hd n hu (handed_of ru) (h u _ (I.tok _) ru)
theorem getmeth_ok {m : Str} {g : Addr} {pl : Sem Bool} {Q : Value × List Value → Shared → Prop} (I : Inv X pins σ H s) (e : H a = some (.ins C dx fs)) (c : Cls X.K C) (k : Meth X.K C m g) (l : fs.lookup m = none)
    (h : Q (.ref g, [.ref a]) s) : wpAny (model X.prog X.w) A (getMethod (.ref a) m pl) Q E s := by
  obtain ⟨mA, O, r, _, _, _⟩ := ins_get I.hok e
  have hn : mA m = none := RelO.none_of (by rw [← l]; exact r m)
  exact get_meth I.kIn O (c.get m) k.at_ k.fn hn h
theorem setattr_ok {y : V} {u : Value} {Q : Unit → Shared → Prop} (I : Inv X pins σ H s) (e : H a = some (.ins C dx fs)) (c : Cls X.K C) (n : NoAttr X.K C f) (hl : fs.length < 1000) (ry : RelV y u)
    (h : ∀ s', Inv X pins σ (upd H a (.ins C dx (putF f y fs))) s' → Q () s') : wpAny (model X.prog X.w) A (setAttr (.ref a) f u) Q E s := by
  obtain ⟨mA, O, r, wi, _, ho⟩ := ins_get I.hok e
  have hz : (fs.map (·.1)).length ≤ sizeLine := by rw [List.length_map, sizeLine_eq]; omega
  refine set_map I.kIn O c.sa c.po n.taker c.hd wi hz fun h' O' sb => h _ ?_
  have hd : ∃ o, h'.get? dx = some o := let ⟨o, _, _, e', _⟩ := O'.ns; ⟨o, e'⟩
  refine I.write (x := a) (e := dx) (by rw [e]; exact True.intro) (.inr ho) (fun b q hb z => (sb.2 b hb).trans z) hd ?_
  refine ⟨by rw [upd_ne O.ne]; exact ho, ?_, O.ne, O'.obj, _, O'.ns, fun g => ?_, fun g hg => ?_⟩
  · have := length_putF f y fs; omega
  · show RelO ((putF f y fs).lookup g) (if g = f then some u else mA g)
    rw [lookup_putF]
    by_cases q : g = f
    · rw [if_pos q, if_pos q]; exact ry
    · rw [if_neg q, if_neg q]; exact r g
  · by_cases q : g = f
    · rw [q]; exact (keys_putF f y fs).1
    · refine (keys_putF f y fs).2 g (wi g fun z => hg ?_)
      show (if g = f then some u else mA g) = none
      rw [if_neg q]; exact z
theorem Inv.made (I : Inv X pins σ H s) : Inv X pins σ (upd (upd H s.heap.objs.size (.own (s.heap.objs.size + 1))) (s.heap.objs.size + 1) (.ins C s.heap.objs.size []))
    { s with heap := (s.heap.push PySem.W.emptyDict).push (PySem.W.instObj C s.heap.objs.size) } := by
  have e1 : (s.heap.push PySem.W.emptyDict).get? s.heap.objs.size = some PySem.W.emptyDict := Heap.get?_push_size s.heap rfl
  have e2 : ((s.heap.push PySem.W.emptyDict).push (PySem.W.instObj C s.heap.objs.size)).get? (s.heap.objs.size + 1) = some (PySem.W.instObj C s.heap.objs.size) := by
    have := Heap.get?_push_size (s.heap.push PySem.W.emptyDict) (o := PySem.W.instObj C s.heap.objs.size) rfl
    rwa [Heap.size_push] at this
  have e3 : (s.heap.push PySem.W.emptyDict).Ns s.heap.objs.size (fun _ => none) := ⟨PySem.W.emptyDict, #[], _, e1, rfl, (fun e he => absurd he (by simp)), fun _ => rfl⟩
  have I1 := I.laid (a := s.heap.objs.size) (o := .own (s.heap.objs.size + 1)) (h' := s.heap.push PySem.W.emptyDict) (t' := s.toks) (fun b u q => Heap.get?_push_of_some _ q) (Nat.le_refl _) ⟨_, e1⟩
  refine I1.laid (a := s.heap.objs.size + 1) (o := .ins C s.heap.objs.size []) (t' := s.toks) (fun b u q => Heap.get?_push_of_some _ q) (Nat.le_of_eq (Heap.size_push _ _)) ?_
  have ne : s.heap.objs.size ≠ s.heap.objs.size + 1 := Nat.ne_of_lt (Nat.lt_succ_self _)
  refine ⟨by rw [upd_ne ne, upd_same], Nat.zero_le _, ne, e2, fun _ => none, (Heap.Ns1.of_empty e3).at fun o q => Heap.get?_push_of_some _ q, fun _ => True.intro, fun y hy => absurd rfl hy⟩
theorem attr_of {prog : Program} {w : World} {env : Env} {e : Expr} {f : Str} {pos : Pos} {s : Shared} {Q : Value → Shared → Prop} (hb : attributeBase e f env (eval e env) = eval e env)
    (h : wpAny (model prog w) A (eval e env) (fun o s₁ => wpAny (model prog w) A (getAttr o f true) Q E s₁) E s) : wpAny (model prog w) A (eval (.Attribute e f pos) env) Q E s :=
  Attribute_any_ h (by rw [arm_eval_Attribute, hb])
end
noncomputable def tFld (K : PySem.W.Frag) (ta : TE) (f : Str) : TE := fun σ H Q => ta σ H fun x H1 => ∃ a C dx fs v, x = .ref a ∧ H1 a = some (.ins C dx fs) ∧ Cls K C ∧ NoAttr K C f ∧ fs.lookup f = some v ∧ Q v H1
noncomputable def sFld (K : PySem.W.Frag) (ta tv : TE) (f : Str) : TS := fun D σ H => tv σ H fun y H1 => ta σ H1 fun x H2 => ∃ a C dx fs, x = .ref a ∧ H2 a = some (.ins C dx fs) ∧ Cls K C ∧ NoAttr K C f ∧ fs.length < 1000 ∧
  D.nx σ (upd H2 a (.ins C dx (putF f y fs)))
section
variable {X : Cx} {o e value : Expr} {f : Str} {pos pos' tpos : Pos} {ta tv : TE}
theorem pe_fld (he : PE X e ta) (hb : attributeBase e f X.env (eval e X.env) = eval e X.env) : PE X (.Attribute e f pos) (tFld X.K ta f) := by
  intro pins s σ H Q I h
  refine attr_of hb (thn (he pins s σ H _ I h) fun u s1 ⟨x, H1, I1, rx, a, C, dx, fs, v, ex, ea, c, n, l, q⟩ => ?_)
  subst ex
  obtain rfl : u = Value.ref a := rx
  exact getattr_ok I1 ea c n l fun u' s2 I2 ru => ⟨v, H1, I2, ru, q⟩
theorem ps_fld (ha : PE X o ta) (hv : PE X value tv) (hs : swapsWith value (some (.Attribute o f pos')) pos.line X.env = pure false) : PS X (.Assign [.Attribute o f pos'] value pos) (sFld X.K ta tv f) := by
  intro pins s σ H D I h
  refine plainObj_wpAny_Assign_Attribute (thn (hv pins s σ H _ I h) fun u s1 ⟨y, H1, I1, ry, q⟩ => thn (ha pins s1 σ H1 _ I1 q) fun ov s2 ⟨x, H2, I2, rx, a, C, dx, fs, ex, ea, c, n, l, q2⟩ => ?_) hs
  subst ex
  obtain rfl : ov = Value.ref a := rx
  exact setattr_ok I2 ea c n l ry fun s3 I3 => ⟨σ, _, I3, q2⟩
end
section
variable {X : Cx} {pins : List (Addr × Obj)} {σ : St} {H : Hp} {s : Shared} {A : Around} {E : Value → Shared → Prop} {Q : Value → Shared → Prop} {c : Value} {b : Bool}
inductive TyOf (K : PySem.W.Frag) (H : Hp) : V → Value → Prop where
  | non : TyOf K H .non (.type "NoneType")
  | bl (x : Bool) : TyOf K H (.bl x) (.type "bool")
  | int (i : Int) : TyOf K H (.int i) (.type "int")
  | str (x : Str) : TyOf K H (.str x) (.type "str")
  | flt (x : UInt64) : TyOf K H (.flt x) (.type "float")
  | lst {a : Addr} {xs : List V} (e : H a = some (.lst xs)) : TyOf K H (.ref a) (.type "list")
  | frz {a : Addr} {o : Obj} {xs : List V} (e : H a = some (.frz o (.lst xs))) : TyOf K H (.ref a) (.type "list")
  | tup {a : Addr} {xs : List V} (e : H a = some (.tup xs)) : TyOf K H (.ref a) (.type "tuple")
  | dK {a : Addr} {kvs : List (Key × V)} (e : H a = some (.dK kvs)) : TyOf K H (.ref a) (.type "dict")
  | dT {a : Addr} {kvs : List (List NKey × V)} (e : H a = some (.dT kvs)) : TyOf K H (.ref a) (.type "dict")
  | ins {a C dx : Addr} {fs : List (Str × V)} (e : H a = some (.ins C dx fs)) (cl : Cls K C) (ha : PySem.W.findIn K (.ref C) "__class__" = some (some (.builtin "object.__class__")))
      (hn : PySem.W.specialIn K (.builtin "object.__class__") "__get__" = some (some (.builtin "getset_descriptor.__get__"))) (htk : PySem.W.takesIn K (.builtin "object.__class__") = some true)
      (hm : PySem.W.mroIn K C (.type "object") = some true) : TyOf K H (.ref a) (.ref C)
end
end L2
namespace L2
open PySem PySem.Spec PyProof.Rows
structure Room (k : Nat) (A : Around) : Prop where
  hd : A.handled = none
  dp : A.depth + 3 * k + 5 < recursionLimit
  un : A.units + 16 * k + 200 < cLine
theorem Room.mono {j k : Nat} {A : Around} (r : Room k A) (h : j ≤ k) : Room j A := ⟨r.hd, by have := r.dp; omega, by have := r.un; omega⟩
theorem Room.deeper {k : Nat} {A : Around} (r : Room (k + 1) A) (env : Env) : Room k (A.deeper env) :=
  ⟨r.hd, by have := r.dp; show A.depth + 1 + 3 * k + 5 < _; omega, by have := r.un; show A.units + 3 + 16 * k + 200 < _; omega⟩
theorem make_depth {A : Around} {C : Addr} {us : List Value} {kw : List (Str × Value)} : (A.under (.builtin "type.__call__" ⟨.ref C :: us, kw⟩)).depth = A.depth + 1 := by
  first | rfl | simp [Around.under, Code.weight, Code.isCreation, Code.isGuard, Code.isCaller, Code.frames, Code.isFrame, guardIds]
theorem make_units {A : Around} {C : Addr} {us : List Value} {kw : List (Str × Value)} : (A.under (.builtin "type.__call__" ⟨.ref C :: us, kw⟩)).units = A.units + 1 := by
  first | rfl | simp [Around.under, Code.cUnits, Code.frames, Code.isFrame]
theorem Room.make {k : Nat} {A : Around} (r : Room (k + 1) A) (C : Addr) (us : List Value) (kw : List (Str × Value)) : Room k (A.under (.builtin "type.__call__" ⟨.ref C :: us, kw⟩)) :=
  ⟨r.hd, by have := r.dp; rw [make_depth]; omega, by have := r.un; rw [make_units]; omega⟩
theorem Room.depth {k : Nat} {A : Around} (r : Room k A) : A.depth < recursionLimit := by have := r.dp; omega
theorem Room.units {k : Nat} {A : Around} (r : Room k A) : A.units + 64 < cLine := by have := r.un; omega
noncomputable def tNil : TA := fun _ H Q => Q [] H
noncomputable def tCons (ta : TE) (tr : TA) : TA := fun σ H Q => ta σ H fun x H1 => tr σ H1 fun xs H2 => Q (x :: xs) H2
section
variable {X : Cx} {e : Expr} {es : List Expr} {te : TE} {t : TA} {pos : Pos}
theorem pa_nil : PA X [] tNil := fun _ _ _ _ H Q I h => Calls.spliced_nil ⟨[], H, I, .nil, h⟩
theorem pa_cons (ha : PE X e te) (hr : PA X es t) (hs : starEach (e :: es) X.env = (false, eval e X.env) :: starEach es X.env := by rfl) : PA X (e :: es) (tCons te t) := by
  intro pos pins s σ H Q I h
  rw [hs]
  show wpAny _ _ (spliced ((false, eval e X.env) :: backTo pos (starEach es X.env))) _ _ s
  refine Calls.spliced_cons (thn (ha pins s σ H _ I h) fun u s1 ⟨x, H1, I1, r1, q1⟩ => ?_)
  exact thn (hr pos pins s1 σ H1 _ I1 q1) fun us s2 ⟨xs, H2, I2, r2, q2⟩ => ⟨x :: xs, H2, I2, .cons r1 r2, q2⟩
noncomputable def tTup (t : TA) : TE := fun σ H Q => t σ H fun xs H1 => xs.length ≤ sizeLine ∧ ∀ p, H1 p = none → Q (.ref p) (upd H1 p (.tup xs))
noncomputable def tLst (t : TA) : TE := fun σ H Q => t σ H fun xs H1 => xs.length ≤ sizeLine ∧ ∀ p, H1 p = none → Q (.ref p) (upd H1 p (.lst xs))
theorem pe_tup {x1} (h : PA X es t) : PE X (.Tuple es x1 pos) (tTup t) := by
  intro pins s σ H Q I hq
  refine wpAny_Tuple_spliced (thn (h pos pins s σ H _ I hq) fun us s1 ⟨xs, H1, I1, r, z, q⟩ => ⟨by rw [← r.length]; exact z, ?_⟩)
  have hf : H1 s1.heap.objs.size = none := I1.hok.fresh (Nat.le_refl _)
  refine ⟨.ref s1.heap.objs.size, upd H1 s1.heap.objs.size (.tup xs), I1.laid (t' := s1.toks) (fun b u e => Heap.get?_push_of_some _ e) (Nat.le_refl _) ?_, rfl, q _ hf⟩
  exact ⟨z, us, r, ⟨_, Heap.get?_push_size _ rfl, rfl, _, rfl⟩⟩
theorem pe_lst (h : PA X es t) : PE X (.List es pos) (tLst t) := by
  intro pins s σ H Q I hq
  refine wpAny_List_spliced (thn (h pos pins s σ H _ I hq) fun us s1 ⟨xs, H1, I1, r, z, q⟩ => ⟨by rw [← r.length]; exact z, ?_⟩)
  have hf : H1 s1.heap.objs.size = none := I1.hok.fresh (Nat.le_refl _)
  refine ⟨.ref s1.heap.objs.size, upd H1 s1.heap.objs.size (.lst xs), I1.laid (t' := s1.toks) (fun b u e => Heap.get?_push_of_some _ e) (Nat.le_refl _) ?_, rfl, q _ hf⟩
  exact ⟨z, us, 0, r, Heap.get?_push_size _ rfl⟩
end
noncomputable abbrev Sp := List V → Hp → VK → XK → Prop
noncomputable abbrev CXT := List Env → Hp → Shared → XK → Value → Shared → Prop
structure Env0 (P : Program) (w : World) (K : PySem.W.Frag) (mg : Str → Option Value) (base : Heap) (A : Around) (outer : List Env) (s : Shared) (H : Hp) : Prop where
  frames : A.frames = some outer
  mod : Mod K mg base
  bs : ∀ b o, base.get? b = some o → s.heap.get? b = some o ∧ H b = none
  bsz : base.objs.size ≤ s.heap.objs.size
  funs : s.heap.FunFrames base outer
  frf : ∀ b ∈ frs outer, H b = none
  hok : HOk P w H s.heap
  bare : AllBare s.gens
noncomputable def CE (outer : List Env) (P : Program) (w : World) (H : Hp) (s : Shared) (Q : VK) (u : Value) (s' : Shared) : Prop :=
  ∃ v H', s'.os = s.os ∧ AllBare s'.gens ∧ Un (frs outer) [] H H' s.heap s'.heap ∧ HOk P w H' s'.heap ∧ RelV v u ∧ Q v H'
noncomputable def CR (CX : CXT) (outer : List Env) (P : Program) (w : World) (H : Hp) (s : Shared) (Q : VK) (E : XK) (r : Result) (s' : Shared) : Prop :=
  match r with
  | .ok (.ret u) => CE outer P w H s Q u s'
  | .ok _ => False
  | .error e => CX outer H s E e s'
structure FnOk (P : Program) (w : World) (K : PySem.W.Frag) (mg : Str → Option Value) (base : Heap) (CX : CXT) (k : Nat) (f : Addr) (fd : FuncData) (ps : List Str) (sp : Sp) : Prop where
  len : ∀ vs H Q E, sp vs H Q E → vs.length = ps.length
  run : ∀ (A : Around) (outer : List Env) (s : Shared) (H : Hp) (args : Args) (us : List Value) (vs : List V) (Q : VK) (E : XK), Room k A → Env0 P w K mg base A outer s H → BindsTo s fd args (ps.zip us) → Vals vs us → sp vs H Q E →
    codeAny (model P w) A (.call (.ref f) args) (CR CX outer P w H s Q E) s
theorem Env0.make {P : Program} {w : World} {K : PySem.W.Frag} {mg : Str → Option Value} {base : Heap} {A : Around} {outer : List Env} {s : Shared} {H : Hp} (e : Env0 P w K mg base A outer s H) (C : Addr) (us : List Value) (kw : List (Str × Value)) :
    Env0 P w K mg base (A.under (.builtin "type.__call__" ⟨.ref C :: us, kw⟩)) outer s H := ⟨by first | exact e.frames | (simpa [Around.under, Code.envs, Code.isFrame, pushEnvs] using e.frames), e.mod, e.bs, e.bsz, e.funs, e.frf, e.hok, e.bare⟩
section
variable {X : Cx} {pins : List (Addr × Obj)} {σ : St} {H : Hp} {s s' : Shared}
theorem Inv.env0 (I : Inv X pins σ H s) : Env0 X.prog X.w X.K X.mg X.base X.A X.stack s H :=
  ⟨I.ok.frames, I.ok.mod, I.bs, Nat.le_trans I.ok.bsz I.sz, I.stack, I.stkFree, I.hok, I.bare⟩
theorem Inv.after {Q : VK} {u : Value} (I : Inv X pins σ H s) (h : CE X.stack X.prog X.w H s Q u s') : EP X pins σ Q u s' := by
  obtain ⟨v, H', os, bare, un, hok, r, q⟩ := h
  obtain ⟨hh, g, d, t, os'⟩ := s'
  obtain rfl : os' = s.os := os
  exact ⟨v, H', I.call (h' := hh) (g' := g) (d' := d) (t' := t) (ch := []) un hok bare (fun b z => absurd z (by simp)), r, q⟩
end
noncomputable def tCall (sp : Sp) (dvs : List V) (E : XK) (t : TA) : TE := fun σ H Q => t σ H fun vs H1 => sp (vs ++ dvs) H1 Q E
noncomputable def tMeth (C : Addr) (m : Str) (sp : Sp) (dvs : List V) (E : XK) (ta : TE) (t : TA) : TE := fun σ H Q => ta σ H fun x H1 => ∃ a dx fs, x = .ref a ∧ H1 a = some (.ins C dx fs) ∧ fs.lookup m = none ∧
  t σ H1 fun vs H2 => sp (x :: (vs ++ dvs)) H2 Q E
noncomputable def tMake (C : Addr) (sp : Sp) (dvs : List V) (E : XK) (t : TA) : TE := fun σ H Q => t σ H fun vs H1 => ∀ x dx, H1 x = none → H1 dx = none → dx ≠ x →
  sp (.ref x :: (vs ++ dvs)) (upd (upd H1 dx (.own x)) x (.ins C dx [])) (fun v H2 => v = .non ∧ Q (.ref x) H2) E
noncomputable def Binds (K : PySem.W.Frag) (fd : FuncData) (ps : List Str) (ds : List Value) : Prop :=
  ∀ (s : Shared) (us : List Value), K.In s.heap → (us ++ ds).length = ps.length → BindsTo s fd ⟨us, []⟩ (ps.zip (us ++ ds))
theorem Binds.all {K : PySem.W.Frag} {fd : FuncData} {ps : List Str} (h : ∀ us : List Value, us.length = ps.length → bindArgs fd ⟨us, []⟩ = pure (ps.zip us)) : Binds K fd ps [] := fun s us _ hl => by
  rw [List.append_nil] at hl ⊢
  exact .of_eq (h us hl)
noncomputable def Passes (CX : CXT) (X : Cx) (E : XK) : Prop := ∀ (pins : List (Addr × Obj)) (σ : St) (H : Hp) (s : Shared) (e : Value) (s' : Shared), Inv X pins σ H s → CX X.stack H s E e s' → X.xe e s'
section
variable {X : Cx} {CX : CXT} {k : Nat} {f C : Addr} {fd : FuncData} {ps : List Str} {sp : Sp} {dvs : List V} {ds : List Value} {E : XK} {x m : Str} {p pos apos : Pos} {e o : Expr} {es : List Expr} {ta : TE} {t : TA}
theorem run_fn {pins : List (Addr × Obj)} {σ : St} {H : Hp} {s : Shared} {Q : VK} {us : List Value} {vs : List V} (F : FnOk X.prog X.w X.K X.mg X.base CX k f fd ps sp) (hr : Room k X.A) (hb : Binds X.K fd ps ds) (hd : Vals dvs ds) (hx : Passes CX X E)
    (I : Inv X pins σ H s) (r : Vals vs us) (h : sp (vs ++ dvs) H Q E) : wpAny (model X.prog X.w) X.A (call (.ref f) us) (EP X pins σ Q) X.xe s := by
  have r2 : Vals (vs ++ dvs) (us ++ ds) := r.append hd
  have hl : (us ++ ds).length = ps.length := by rw [← r2.length]; exact F.len _ _ _ _ h
  refine wpAny_call (codeAny_mono (F.run X.A X.stack s H ⟨us, []⟩ (us ++ ds) (vs ++ dvs) Q E hr I.env0 (hb s us I.kIn hl) r2 h) fun r s' hq => ?_)
  cases r with
  | error e => exact hx pins σ H s e s' I hq
  | ok fl =>
    cases fl with
    | ret u => exact I.after hq
    | next => exact False.elim hq
    | brk => exact False.elim hq
    | cont => exact False.elim hq
theorem pe_call (F : FnOk X.prog X.w X.K X.mg X.base CX k f fd ps sp) (hr : Room k X.A) (hg : Gl X x) (hm : X.mg x = some (.ref f)) (hk : PySem.W.keepIn X.K (.ref f) = true) (hb : Binds X.K fd ps ds) (hd : Vals dvs ds) (hx : Passes CX X E)
    (ha : PA X (e :: es) t) (hdb : (x == ("__debug__" : Str)) = false := by decide) (he : starEach (e :: es) X.env = (false, eval e X.env) :: starEach es X.env := by rfl) (hpl : (backTo pos (starEach es X.env)).any (·.1) = false := by rfl) :
    PE X (.Call (.Name x p) (e :: es) [] pos) (tCall sp dvs E t) := by
  intro pins s σ H Q I h
  refine wpAny_Call_Name_kw (ld_glob I hg hm ?_ hdb)
  refine PySem.W.callWith_K (h₀ := X.base) I.ok.mod.kin hk (thn (ha pos pins s σ H _ I h) fun us s1 ⟨vs, H1, I1, r, q⟩ => ⟨I1.kIn, ?_⟩) he hpl
  exact run_fn F hr hb hd hx I1 r q
theorem pe_meth {pl : Sem Bool} (he : PE X o ta) (c : Cls X.K C) (hm : Meth X.K C m f) (F : FnOk X.prog X.w X.K X.mg X.base CX k f fd ps sp) (hr : Room k X.A) (hb : Binds X.K fd ps ds) (hd : Vals dvs ds) (hx : Passes CX X E) (ha : PA X (e :: es) t)
    (hst : starEach (e :: es) X.env = (false, eval e X.env) :: starEach es X.env := by rfl) (hpl : (backTo pos (starEach es X.env)).any (·.1) = false := by rfl)
    (ht : eval (.Call (.Attribute o m apos) (e :: es) [] pos) X.env = (do
      let ov ← eval o X.env
      standAt apos.atName
      let (f, first) ← holding [ov] (getMethod ov m pl)
      callWith pos f first (backTo pos (starEach (e :: es) X.env)) (backToKw pos (keywordEach [] X.env))) := by rfl) :
    PE X (.Call (.Attribute o m apos) (e :: es) [] pos) (tMeth C m sp dvs E ta t) := by
  intro pins s σ H Q I h
  refine PySem.W.methodCall_KW (pl := pl) (thn (he pins s σ H _ I h) fun u s1 ⟨x, H1, I1, rx, a, dx, fs, ex, ea, l, q⟩ => ?_) ht
  subst ex
  obtain rfl : u = Value.ref a := rx
  refine getmeth_ok I1 ea c hm l ?_
  refine PySem.W.callWith_K (first := [.ref a]) (h₀ := X.base) I.ok.mod.kin hm.kp (thn (ha pos pins s1 σ H1 _ I1 q) fun us s2 ⟨vs, H2, I2, r, q2⟩ => ⟨I2.kIn, ?_⟩) hst hpl
  exact run_fn (us := .ref a :: us) (vs := .ref a :: vs) F hr hb hd hx I2 (.cons rfl r) q2
structure Mk (K : PySem.W.Frag) (C f : Addr) : Prop where
  makes : PySem.W.makesIn K C = true
  init : PySem.W.findIn K (.ref C) "__init__" = some (some (.ref f))
  fn : PySem.W.isFn K (.ref f) = true
  kp : PySem.W.keepIn K (.ref C) = true
theorem run_make {pins : List (Addr × Obj)} {σ : St} {H : Hp} {s : Shared} {Q : VK} {us : List Value} {vs : List V} (M : Mk X.K C f) (F : FnOk X.prog X.w X.K X.mg X.base CX k f fd ps sp) (hr : Room (k + 1) X.A) (hb : Binds X.K fd ps ds) (hd : Vals dvs ds)
    (hx : Passes CX X E) (I : Inv X pins σ H s) (r : Vals vs us)
    (h : ∀ x dx, H x = none → H dx = none → dx ≠ x → sp (.ref x :: (vs ++ dvs)) (upd (upd H dx (.own x)) x (.ins C dx [])) (fun v H2 => v = .non ∧ Q (.ref x) H2) E) :
    wpAny (model X.prog X.w) X.A (call (.ref C) us) (EP X pins σ Q) X.xe s := by
  have hq := h (s.heap.objs.size + 1) s.heap.objs.size (I.hok.fresh (Nat.le_succ _)) (I.hok.fresh (Nat.le_refl _)) (Nat.ne_of_lt (Nat.lt_succ_self _))
  have I2 := Inv.made (C := C) I
  have r2 : Vals (V.ref (s.heap.objs.size + 1) :: (vs ++ dvs)) (Value.ref (s.heap.objs.size + 1) :: (us ++ ds)) := .cons rfl (r.append hd)
  have hl : (Value.ref (s.heap.objs.size + 1) :: us ++ ds).length = ps.length := by
    have e := r2.length
    rw [F.len _ _ _ _ hq] at e
    exact e.symm
  refine wpAny_call (make_map (f := f) I.kIn M.makes M.init (beq_iff_eq.mp M.fn) (codeAny_mono (F.run _ X.stack _ _ ⟨Value.ref (s.heap.objs.size + 1) :: us, []⟩ (Value.ref (s.heap.objs.size + 1) :: (us ++ ds)) _ _ E (hr.make C us [])
    (I2.env0.make C us []) (hb _ (Value.ref (s.heap.objs.size + 1) :: us) I2.kIn hl) r2 hq) fun r s' hq' => ?_))
  cases r with
  | error e => exact hx pins σ _ _ e s' I2 hq'
  | ok fl =>
    cases fl with
    | ret u =>
      obtain ⟨v, H', I3, rv, ev, q3⟩ := I2.after hq'
      subst ev
      exact ⟨rv, ⟨V.ref (s.heap.objs.size + 1), H', I3, rfl, q3⟩⟩
    | next => exact False.elim hq'
    | brk => exact False.elim hq'
    | cont => exact False.elim hq'
theorem pe_make (M : Mk X.K C f) (F : FnOk X.prog X.w X.K X.mg X.base CX k f fd ps sp) (hr : Room (k + 1) X.A) (hg : Gl X x) (hm : X.mg x = some (.ref C)) (hb : Binds X.K fd ps ds) (hd : Vals dvs ds) (hx : Passes CX X E)
    (ha : PA X (e :: es) t) (hdb : (x == ("__debug__" : Str)) = false := by decide) (he : starEach (e :: es) X.env = (false, eval e X.env) :: starEach es X.env := by rfl) (hpl : (backTo pos (starEach es X.env)).any (·.1) = false := by rfl) :
    PE X (.Call (.Name x p) (e :: es) [] pos) (tMake C sp dvs E t) := by
  intro pins s σ H Q I h
  refine wpAny_Call_Name_kw (ld_glob I hg hm ?_ hdb)
  refine PySem.W.callWith_K (h₀ := X.base) I.ok.mod.kin M.kp (thn (ha pos pins s σ H _ I h) fun us s1 ⟨vs, H1, I1, r, q⟩ => ⟨I1.kIn, ?_⟩) he hpl
  exact run_make M F hr hb hd hx I1 r q
end
section
variable {X : Cx} {CX : CXT} {k : Nat} {f C : Addr} {fd : FuncData} {ps ks : List Str} {sp : Sp} {E : XK} {x m : Str} {p pos apos kpos : Pos} {e o : Expr} {es : List Expr} {kws : List Keyword} {te ta : TE} {t tk : TA} {nm : Option Str}
variable {g : List Value → List Value → List Value} {gV : List V → List V → List V}
end
structure FnScope (N P : List Str) (sc : Scope) : Prop where
  kind : sc.kind = .function
  co : sc.isCoroutine = false
  gen : sc.isGenerator = false
  nd : N.Nodup
  pre : N.take P.length = P
  par : ∀ x ∈ P, sc.names.lookup x = some .local ∨ sc.names.lookup x = some .cell
  nofree : ∀ y ∈ sc.names, y.2 ≠ .free
theorem bindL_out {kindOf : Str → Option NameKind} {x : Str} : ∀ {binds : List (Str × Value)} {m : Str → Option Value}, (∀ v, (x, v) ∉ binds) → bindL kindOf binds m x = m x
  | [], _, _ => rfl
  | (n, v) :: r, m, h => by
    unfold bindL
    rw [bindL_out fun w hw => h w (List.mem_cons_of_mem _ hw)]
    split
    · have : x ≠ n := by rintro rfl; exact h v List.mem_cons_self
      simp [this]
    · rfl
theorem bindC_out {kindOf : Str → Option NameKind} {x : Str} : ∀ {binds : List (Str × Value)} {m : Str → Option Value}, (∀ v, (x, v) ∉ binds) → bindC kindOf binds m x = m x
  | [], _, _ => rfl
  | (n, v) :: r, m, h => by
    unfold bindC
    rw [bindC_out fun w hw => h w (List.mem_cons_of_mem _ hw)]
    split
    · rfl
    · have : x ≠ n := by rintro rfl; exact h v List.mem_cons_self
      simp [this]
theorem bindL_get {kindOf : Str → Option NameKind} {x : Str} {v : Value} : ∀ {P : List Str} {vs : List Value} {i : Nat} {m : Str → Option Value}, P.Nodup → P[i]? = some x → vs[i]? = some v → kindOf x = some .local →
    bindL kindOf (P.zip vs) m x = some v
  | [], _, _, _, _, h, _, _ => by simp at h
  | _ :: _, [], _, _, _, _, h, _ => by simp at h
  | p :: P, w :: vs, 0, m, nd, h1, h2, hk => by
    simp at h1 h2; subst h1; subst h2
    show bindL kindOf ((p, w) :: P.zip vs) m p = _
    unfold bindL
    rw [bindL_out fun v hv => (List.nodup_cons.mp nd).1 (List.of_mem_zip hv).1, if_pos hk]
    simp
  | p :: P, w :: vs, i + 1, m, nd, h1, h2, hk => by
    show bindL kindOf ((p, w) :: P.zip vs) m x = _
    unfold bindL
    exact bindL_get (i := i) (List.nodup_cons.mp nd).2 (by simpa using h1) (by simpa using h2) hk
theorem bindC_get {kindOf : Str → Option NameKind} {x : Str} {v : Value} : ∀ {P : List Str} {vs : List Value} {i : Nat} {m : Str → Option Value}, P.Nodup → P[i]? = some x → vs[i]? = some v → kindOf x ≠ some .local →
    bindC kindOf (P.zip vs) m x = some v
  | [], _, _, _, _, h, _, _ => by simp at h
  | _ :: _, [], _, _, _, _, h, _ => by simp at h
  | p :: P, w :: vs, 0, m, nd, h1, h2, hk => by
    simp at h1 h2; subst h1; subst h2
    show bindC kindOf ((p, w) :: P.zip vs) m p = _
    unfold bindC
    rw [bindC_out fun v hv => (List.nodup_cons.mp nd).1 (List.of_mem_zip hv).1, if_neg hk]
    simp
  | p :: P, w :: vs, i + 1, m, nd, h1, h2, hk => by
    show bindC kindOf ((p, w) :: P.zip vs) m x = _
    unfold bindC
    exact bindC_get (i := i) (List.nodup_cons.mp nd).2 (by simpa using h1) (by simpa using h2) hk
noncomputable def start (N : List Str) (vs : List V) : St := vs.map some ++ List.replicate (N.length - vs.length) none
noncomputable def cxOf (CX : CXT) (P : Program) (w : World) (K : PySem.W.Frag) (mg : Str → Option Value) (base : Heap) (N : List Str) (qual : Str) (scope : Scope) (f : Addr) (cd : Value) (A : Around) (outer : List Env) (s : Shared) (H : Hp) (E : XK) : Cx where
  prog := P
  w := w
  K := K
  mg := mg
  base := base
  A := A.deeper (envOfC qual scope s.heap.objs.size f cd)
  N := N
  s₀ := s
  H₀ := H
  env := envOfC qual scope s.heap.objs.size f cd
  outer := outer
  stack := envOfC qual scope s.heap.objs.size f cd :: outer
  ex := []
  calm := true
  fn := fun _ => true
  pn := []
  xe := fun e s' => wpAny (model P w) (A.deeper (envOfC qual scope s.heap.objs.size f cd)) (leaving (envOfC qual scope s.heap.objs.size f cd) e) (fun _ s'' => CX outer H s E e s'') (fun e' s'' => CX outer H s E e' s'') s'
theorem cell_has {sc : Scope} {n : Nat} {x : Str} (h : sc.names.lookup x = some .cell) : ∃ c, (cellsFrom n sc.names []).lookup x = some c := by
  have q := PySem.W.cellsFrom_some sc.names n [] (.inl h)
  exact Option.isSome_iff_exists.mp q
theorem inv_start {CX : CXT} {P : Program} {w : World} {K : PySem.W.Frag} {mg : Str → Option Value} {base : Heap} {N ps : List Str} {qual : Str} {scope : Scope} {f : Addr} {cd : Value} {A : Around} {outer : List Env} {s s1 : Shared} {H : Hp} {E : XK} {us : List Value} {vs : List V}
    (S : FnScope N ps scope) (hd : A.handled = none) (e0 : Env0 P w K mg base A outer s H) (hl : vs.length = ps.length) (r : Vals vs us)
    (x : InCallC s s.heap.objs.size (bindL (envOfC qual scope s.heap.objs.size f cd).kindOf (ps.zip us) fun _ => none) (cellsFrom (s.heap.objs.size + 1) scope.names []) (bindC (envOfC qual scope s.heap.objs.size f cd).kindOf (ps.zip us) fun _ => none) s1) :
    Inv (cxOf CX P w K mg base N qual scope f cd A outer s H E) [] (start N vs) H s1 := by
  have hpl : ps.length ≤ N.length := by have := congrArg List.length S.pre; rw [List.length_take] at this; omega
  obtain ⟨h1, tk, rfl, hk⟩ := x.done
  have noA : ∀ b : Addr, b ∉ (cxOf CX P w K mg base N qual scope f cd A outer s H E).ex := fun b z => absurd (show b ∈ ([] : List Addr) from z) (by simp)
  refine ⟨⟨e0.mod, S.kind, rfl, rfl, Nat.le_refl _, fun y z c h1 h2 => ?_, fun y hy => ?_, fun y c _ h => ?_, fun _ => hd, Around.frames_deeper e0.frames, .inr ⟨rfl, rfl⟩, fun b z => absurd z (noA b), e0.bs, e0.bsz, fun b _ _ => noA b, fun b z => absurd z (noA b), e0.funs, e0.frf⟩,
    rfl, e0.bare, Un.kept hk, ⟨_, x.toInCall.ns, fun i y v h1 h2 h3 => ?_⟩, fun y c h => ⟨_, x.cell y c h⟩, e0.hok.fresh (Nat.le_refl _), fun y c h => ?_, fun p hp => absurd (show p ∈ ([] : List (Addr × Obj)) from hp) (by simp), e0.hok.kept hk, ?_⟩
  · exact name_of_addr x.apart (PySem.mem_of_lookup h1) (PySem.mem_of_lookup h2)
  · have hy : scope.names.lookup y = some .cell ∨ scope.names.lookup y = some .free := hy
    rcases hy with hy | hy
    · exact cell_has hy
    · exact absurd rfl (S.nofree _ (PySem.mem_of_lookup hy))
  · exact Nat.le_of_lt (x.above y c (PySem.mem_of_lookup h))
  · have hi : i < vs.length := by
      unfold start at h2
      by_cases hi : i < vs.length
      · exact hi
      · rw [List.getElem?_append_right (by simpa using hi)] at h2
        rw [List.getElem?_replicate] at h2
        split at h2 <;> cases h2
    have ha : vs[i]? = some v := by
      unfold start at h2
      rw [List.getElem?_append_left (by simpa using hi), List.getElem?_map] at h2
      cases e : vs[i]? with
      | none => rw [e] at h2; cases h2
      | some a => rw [e] at h2; cases h2; rfl
    obtain ⟨u, hu, rv⟩ := r.get ha
    have hp : ps[i]? = some y := by
      rw [← S.pre, List.getElem?_take_of_lt (by omega)]; exact h1
    have ndP : ps.Nodup := by rw [← S.pre]; exact S.nd.sublist (List.take_sublist _ _)
    refine ⟨u, rv, ?_⟩
    rcases S.par y (List.mem_of_getElem? hp) with k | k
    · exact .inl ⟨k, bindL_get ndP hp hu k⟩
    · obtain ⟨c, e⟩ := cell_has (n := s.heap.objs.size + 1) k
      refine .inr ⟨.inl k, c, e, ?_⟩
      have q := x.cell y c e
      rw [bindC_get ndP hp hu (by show scope.names.lookup y ≠ _; rw [k]; decide)] at q
      exact q
  · exact e0.hok.fresh (Nat.le_of_lt (x.above y c (PySem.mem_of_lookup h)))
  · unfold start
    show _ = N.length
    rw [List.length_append, List.length_map, List.length_replicate]
    omega
theorem fn_of {CX : CXT} {P : Program} {w : World} {K : PySem.W.Frag} {mg : Str → Option Value} {base : Heap} {k : Nat} {f : Addr} {name qual : Str} {params : Arguments} {body : List Stmt} {scope : Scope} {dV kV doc pm cdv ct oc : Value} {an od : Option Addr}
    {osl : Array (Option Value)} {N ps : List Str} {sp : Sp} (lk : K.lookup f = some ⟨oc, od, .func (PySem.W.fnOf name qual params body scope dV kV doc pm an cdv ct), osl⟩) (hcd : PySem.W.codeIn K cdv qual = true) (S : FnScope N ps scope)
    (len : ∀ vs H Q E, sp vs H Q E → vs.length = ps.length)
    (hbody : ∀ (A : Around) (outer : List Env) (s : Shared) (H : Hp) (vs : List V) (Q : VK) (E : XK), Room k (A.deeper (envOfC qual scope s.heap.objs.size f cdv)) → sp vs H Q E →
      ∃ t, PSs (cxOf CX P w K mg base N qual scope f cdv A outer s H E) body t ∧ t { nx := fun _ H' => Q .non H', rt := Q } (start N vs) H) :
    FnOk P w K mg base CX (k + 1) f (PySem.W.fnOf name qual params body scope dV kV doc pm an cdv ct) ps sp := by
  refine ⟨len, fun A outer s H args us vs Q E hr e0 hb r hsp => ?_⟩
  have hl := len _ _ _ _ hsp
  have KX : K.In s.heap := e0.mod.kin.keeps fun b o e => (e0.bs b o e).1
  have lim : s.heap.NoLimit := e0.mod.nolimit.keeps fun b o e => (e0.bs b o e).1
  have hkind : ∀ y ∈ ps.zip us, scope.names.lookup y.1 = some .local ∨ (scope.names.lookup y.1 = some .cell ∧ ((cellsFrom (s.heap.objs.size + 1) scope.names []).lookup y.1).isSome = true) := fun ⟨n, v⟩ hy => by
    rcases S.par n (List.of_mem_zip hy).1 with q | q
    · exact .inl q
    · exact .inr ⟨q, PySem.W.cellsFrom_some _ _ _ (.inl q)⟩
  refine codeAny_call_function hr.depth (KX _ _ lk) rfl S.co S.gen rfl (PySem.W.codeRec_of KX hcd) (hb _ _ _ _ ?_)
  refine wpAny_newFunctionEnv_cells S.kind hkind fun env he s1 x => ?_
  subst he
  refine ⟨lim.keeps x.toInCall.keep, codeAny_func ?_⟩
  obtain ⟨t, ht, hq⟩ := hbody A outer s H vs Q E (hr.deeper _) hsp
  have I : Inv (cxOf CX P w K mg base N qual scope f cdv A outer s H E) [] (start N vs) H s1 := inv_start S hr.hd e0 hl r x
  refine wpAny_mono (ht [] s1 (start N vs) H _ I hq) (fun fl s' hs => ?_) fun e s' hs => hs
  have fin : ∀ {σ' : St} {H' : Hp} {v : V} {u : Value}, Inv (cxOf CX P w K mg base N qual scope f cdv A outer s H E) [] σ' H' s' → RelV v u → Q v H' → CE outer P w H s Q u s' :=
    fun {σ' H' v u} J rv q => ⟨v, H', J.os, J.bare, J.base, J.hok, rv, q⟩
  cases fl with
  | ret u =>
    obtain ⟨v, σ', H', J, rv, q⟩ := hs
    exact fin J rv q
  | next =>
    obtain ⟨σ', H', J, q⟩ := hs
    exact fin (v := V.non) (u := Value.none) J rfl q
  | brk =>
    obtain ⟨_, _, _, q⟩ := hs
    exact False.elim q
  | cont =>
    obtain ⟨_, _, _, q⟩ := hs
    exact False.elim q
end L2
namespace L2
open PySem PySem.Spec PyProof.Rows
section
variable {X : Cx} {x : Str} {p pos : Pos} {e : Expr} {es : List Expr} {t : TA} {id T : String} {r : List V → Hp → VK → Prop}
noncomputable def tCB (r : List V → Hp → VK → Prop) (t : TA) : TE := fun σ H Q => t σ H fun vs H1 => r vs H1 Q
theorem pe_callB (hc : CallR X (.builtin id) r) (hg : Gl X x) (hm : X.mg x = none) (hv : bootBuiltins x = some (.builtin id)) (ha : PA X (e :: es) t) (hn : x ≠ "__name__" := by decide) (hdb : (x == ("__debug__" : Str)) = false := by decide)
    (he : starEach (e :: es) X.env = (false, eval e X.env) :: starEach es X.env := by rfl) (hpl : (backTo pos (starEach es X.env)).any (·.1) = false := by rfl) : PE X (.Call (.Name x p) (e :: es) [] pos) (tCB r t) := by
  intro pins s σ H Q I h
  refine wpAny_Call_Name_kw (ld_blt I hg hm hv ?_ hn hdb)
  exact PyProof.Rows.callWith_builtin1 (thn (ha pos pins s σ H _ I h) fun us s1 ⟨vs, H1, I1, r1, q1⟩ => hc pins s1 σ H1 vs us Q I1 r1 q1) he hpl
theorem pe_callTy (hc : CallR X (.type T) r) (hg : Gl X x) (hm : X.mg x = none) (hv : bootBuiltins x = some (.type T)) (ha : PA X (e :: es) t) (hn : x ≠ "__name__" := by decide) (hdb : (x == ("__debug__" : Str)) = false := by decide)
    (he : starEach (e :: es) X.env = (false, eval e X.env) :: starEach es X.env := by rfl) (hpl : (backTo pos (starEach es X.env)).any (·.1) = false := by rfl) : PE X (.Call (.Name x p) (e :: es) [] pos) (tCB r t) := by
  intro pins s σ H Q I h
  refine wpAny_Call_Name_kw (ld_blt I hg hm hv ?_ hn hdb)
  exact PyProof.Rows.callWith_type1 (thn (ha pos pins s σ H _ I h) fun us s1 ⟨vs, H1, I1, r1, q1⟩ => hc pins s1 σ H1 vs us Q I1 r1 q1) he hpl
end
end L2
namespace HT
open PySem PyProof.Rows
section
open PySem.SeqAt
open PySem.AutoSeq1 (wpAny_loadPart')
open PySem.MeetsSeq PySem.MeetsSeq2 PySem.MeetsSeq3
end
section
variable {prog : Program} {w : World} {A : Around} {E : Value → Shared → Prop} {s : Shared}
noncomputable def sIx (n d : Nat) : Option Int → Nat
  | none => d
  | some v => if v < 0 then (v + (n : Int)).toNat else min v.toNat n
end
end HT
namespace L2
open PySem PySem.Spec PyProof.Rows
noncomputable abbrev TO := St → Hp → (Option Int → Hp → Prop) → Prop
noncomputable def PO (X : Cx) (e : Option Expr) (t : TO) : Prop :=
  ∀ (pins : List (Addr × Obj)) (s : Shared) (σ : St) (H : Hp) (Q : Option Int → Hp → Prop), Inv X pins σ H s → t σ H Q →
    wpAny (model X.prog X.w) X.A (evalPart e X.env) (fun u s' => ∃ o H', Inv X pins σ H' s' ∧ IsPart u o ∧ Q o H') X.xe s
noncomputable def tNoPart : TO := fun _ H Q => Q none H
noncomputable def tPart (t : TE) : TO := fun σ H Q => t σ H fun x H1 => ∃ i, x = .int i ∧ Q (some i) H1
section
variable {X : Cx} {e : Expr} {te : TE} {lo hi : Option Expr} {tl th : TO} {pos p2 : Pos}
theorem po_none : PO X none tNoPart := by
  intro pins s σ H Q I h
  rw [evalPart_none]
  exact wpAny_pure ⟨none, H, I, .none, h⟩
theorem po_some (h : PE X e te) : PO X (some e) (tPart te) := by
  intro pins s σ H Q I hw
  rw [evalPart_some]
  refine thn (h pins s σ H _ I hw) fun u s1 ⟨x, H1, I1, r1, q1⟩ => ?_
  obtain ⟨i, rfl, q⟩ := q1
  obtain ⟨t, rfl⟩ := r1
  exact ⟨some i, H1, I1, .int i t, q⟩
noncomputable def SlR (X : Cx) (r : V → Option Int → Option Int → Hp → VK → Prop) : Prop :=
  ∀ (pins : List (Addr × Obj)) (s : Shared) (σ : St) (H : Hp) (x : V) (v vl vu : Value) (lo hi : Option Int) (sl : Addr) (Q : VK), Inv X pins σ H s → RelV x v → s.heap.IsSliceOf sl vl vu .none → IsPart vl lo → IsPart vu hi → r x lo hi H Q →
    ∃ T id, typeLookup (.type T) "__getitem__" = pure (some (.builtin id)) ∧ s.TypeIs v T ∧ wpAny (model X.prog X.w) X.A (getItem v (.ref sl)) (EP X pins σ Q) X.xe s
noncomputable def tSl (r : V → Option Int → Option Int → Hp → VK → Prop) (te : TE) (tl th : TO) : TE := fun σ H Q => te σ H fun x H1 => tl σ H1 fun l H2 => th σ H2 fun u H3 => r x l u H3 Q
theorem pe_slice {r : V → Option Int → Option Int → Hp → VK → Prop} (hr : SlR X r) (he : PE X e te) (hl : PO X lo tl) (hu : PO X hi th) : PE X (.Subscript e (.Slice lo hi none p2) pos) (tSl r te tl th) := by
  intro pins s σ H Q I h
  refine Subscript_ (thn (he pins s σ H _ I h) fun v s1 ⟨x, H1, I1, r1, q1⟩ => ?_)
  refine wpAny_Slice (thn (hl pins s1 σ H1 _ I1 q1) fun vl s2 ⟨l, H2, I2, pl, q2⟩ => thn (hu pins s2 σ H2 _ I2 q2) fun vu s3 ⟨u, H3, I3, pu, q3⟩ => ?_)
  rw [evalPart_none]
  refine wpAny_pure ?_
  have I4 : Inv X pins σ H3 { s3 with heap := s3.heap.push { cls := .type "slice", data := .fields #[vl, vu, .none] } } := I3.kept (t' := s3.toks) fun b ob q => Heap.get?_push_of_some _ q
  obtain ⟨T, id, hT, ht, hg⟩ := hr pins { s3 with heap := s3.heap.push { cls := .type "slice", data := .fields #[vl, vu, .none] } } σ H3 x v vl vu l u s3.heap.objs.size Q I4 r1 (Heap.IsSliceOf.new ..) pl pu q3
  show wpAny (model X.prog X.w) X.A (subscriptTail e (.Slice lo hi none p2) v (.ref s3.heap.objs.size)) (EP X pins σ Q) X.xe { s3 with heap := s3.heap.push { cls := .type "slice", data := .fields #[vl, vu, .none] } }
  exact tail_any (ops := [.ref s3.heap.objs.size, v]) ht hT hg (by with_unfolding_all rfl)
noncomputable def cutV (xs : List V) (lo hi : Option Int) : List V := (xs.drop (HT.sIx xs.length 0 lo)).take (HT.sIx xs.length xs.length hi - HT.sIx xs.length 0 lo)
theorem cutV_length (xs : List V) (lo hi : Option Int) : (cutV xs lo hi).length ≤ xs.length := by
  unfold cutV
  rw [List.length_take, List.length_drop]
  omega
end
end L2
namespace L2
open PySem PySem.Spec PyProof.Rows
noncomputable def ixN (n : Nat) (i : Int) : Option Nat := if 0 ≤ i then (if i < n then some i.toNat else none) else if -(n : Int) ≤ i then some (i + n).toNat else none
noncomputable def atI {α : Type} (xs : List α) (i : Int) : Option α := (ixN xs.length i).bind fun j => xs[j]?
theorem ixN_seq {n : Nat} {i : Int} {j : Nat} (h : ixN n i = some j) : seqIndex? i n = some j ∧ j < n ∧ -(n : Int) ≤ i ∧ i < n := by
  unfold ixN at h
  by_cases h0 : 0 ≤ i
  · rw [if_pos h0] at h
    by_cases h1 : i < n
    · rw [if_pos h1] at h
      have e : i.toNat = j := Option.some.inj h
      exact ⟨by rw [seqIndex_of h0 h1, e], by omega, by omega, h1⟩
    · rw [if_neg h1] at h; cases h
  · rw [if_neg h0] at h
    by_cases h1 : -(n : Int) ≤ i
    · rw [if_pos h1] at h
      have e : (i + n).toNat = j := Option.some.inj h
      exact ⟨by rw [seqIndex_neg (by omega) h1, e], by omega, h1, by omega⟩
    · rw [if_neg h1] at h; cases h
theorem atI_get {α : Type} {xs : List α} {i : Int} {v : α} (h : atI xs i = some v) : ∃ j, seqIndex? i xs.length = some j ∧ xs[j]? = some v ∧ j < xs.length ∧ -(xs.length : Int) ≤ i ∧ i < xs.length := by
  unfold atI at h
  cases e : ixN xs.length i with
  | none => rw [e] at h; cases h
  | some j =>
    rw [e] at h
    obtain ⟨h1, h2, h3, h4⟩ := ixN_seq e
    exact ⟨j, h1, h, h2, h3, h4⟩
theorem atI_nat {α : Type} {xs : List α} {j : Nat} {v : α} (h : xs[j]? = some v) : atI xs (j : Int) = some v := by
  have hj : j < xs.length := (List.getElem?_eq_some_iff.mp h).1
  have e : ixN xs.length (j : Int) = some j := by
    unfold ixN
    rw [if_pos (by omega), if_pos (by omega)]; simp
  unfold atI; rw [e]; exact h
theorem atI_last {α : Type} (xs : List α) (v : α) : atI (xs ++ [v]) (-1) = some v := by
  have hl : (xs ++ [v]).length = xs.length + 1 := by simp
  have e : ixN (xs ++ [v]).length (-1) = some xs.length := by
    unfold ixN
    rw [hl, if_neg (by decide), if_pos (by omega)]
    congr 1
    omega
  unfold atI
  rw [e]
  show (xs ++ [v])[xs.length]? = some v
  simp
noncomputable def PlainIx (b : Expr) : Prop := ∀ o i, subscripted b false o i = operate [o, i] (getItem o i)
noncomputable def IxR (X : Cx) (r : R2) : Prop :=
  ∀ (value slice : Expr) (pins : List (Addr × Obj)) (s : Shared) (σ : St) (H : Hp) (x y : V) (v u : Value) (Q : VK), Inv X pins σ H s → RelV x v → RelV y u → r x y H Q →
    subscripted slice false v u = operate [v, u] (getItem v u) → wpAny (model X.prog X.w) X.A (subscriptTail value slice v u) (EP X pins σ Q) X.xe s
noncomputable def MtR (X : Cx) (id : String) (r : V → List V → Hp → VK → Prop) : Prop :=
  ∀ (pins : List (Addr × Obj)) (s : Shared) (σ : St) (H : Hp) (x : V) (xs : List V) (v : Value) (us : List Value) (Q : VK), Inv X pins σ H s → RelV x v → Vals xs us → r x xs H Q →
    wpAny (model X.prog X.w) X.A (call (.builtin id) (v :: us)) (EP X pins σ Q) X.xe s
section
variable {X : Cx} {a b : Expr} {ta tb : TE} {pos : Pos}
theorem pe_ix {r : R2} (hr : IxR X r) (ha : PE X a ta) (hb : PE X b tb) (hs : PlainIx b) : PE X (.Subscript a b pos) (tOp r ta tb) := by
  intro pins s σ H Q I h
  exact Subscript_ (binT ha hb I h fun v u s2 x y H2 I2 rx ry q => hr a b pins s2 σ H2 x y v u Q I2 rx ry q (hs _ _))
noncomputable def rIxL (K : PySem.W.Frag) : R2 := fun x y H Q => ∃ p xs i v, x = .ref p ∧ y = .int i ∧ SqL K H p xs ∧ atI xs i = some v ∧ Q v H
noncomputable def rIxT (K : PySem.W.Frag) : R2 := fun x y H Q => ∃ p xs i v, x = .ref p ∧ y = .int i ∧ SqT K H p xs ∧ atI xs i = some v ∧ Q v H
theorem ix_list : IxR X (rIxL X.K) := by
  intro value slice pins s σ H x y v u Q I rx ry h hs
  obtain ⟨p, xs, i, z, rfl, rfl, hq, he, q⟩ := h
  cases rx
  obtain ⟨t, rfl⟩ := ry
  obtain ⟨its, r, pl, hz⟩ := I.list hq
  obtain ⟨j, h1, h2, h3, h4, h5⟩ := atI_get he
  obtain ⟨w, ew, rw'⟩ := r.get h2
  have hl := r.length
  have hn := line63
  have fin : EP X pins σ Q w s := ⟨z, H, I, rw', q⟩
  by_cases h0 : 0 ≤ i
  · have hj : i.toNat = j := by
      rw [seqIndex_of h0 h5] at h1
      exact Option.some.inj h1
    exact item_listR pl.isList h0 (by omega) (by rw [hj]; simpa using ew) fin hs
  · have hj : (i + (its.toArray.size : Int)).toNat = j := by
      rw [seqIndex_neg (by omega) h4] at h1
      rw [List.size_toArray, ← hl]
      exact Option.some.inj h1
    exact subscriptTail_builtinR (x := w) pl.isList.typeIs slot_list_getitem.lookup
      (wpAny_getItem_list_neg (Q := fun r s' => r = w ∧ EP X pins σ Q r s') pl.isList (by omega) (by rw [List.size_toArray] <;> omega) (by omega) (by rw [hj]; simpa using ew) ⟨rfl, fin⟩) hs
theorem ix_tup : IxR X (rIxT X.K) := by
  intro value slice pins s σ H x y v u Q I rx ry h hs
  obtain ⟨p, xs, i, z, rfl, rfl, hq, he, q⟩ := h
  cases rx
  obtain ⟨t, rfl⟩ := ry
  obtain ⟨its, r, pl, hz⟩ := I.tuple hq
  obtain ⟨j, h1, h2, h3, h4, h5⟩ := atI_get he
  obtain ⟨w, ew, rw'⟩ := r.get h2
  have hl := r.length
  have hn := line63
  have fin : EP X pins σ Q w s := ⟨z, H, I, rw', q⟩
  exact subscriptTail_builtinR (x := w) pl.typeIs slot_tuple_getitem.lookup
    (getItem_tuple (j := j) (Q := fun r s' => r = w ∧ EP X pins σ Q r s') pl (by omega) (by omega) (by rw [List.size_toArray, ← hl]; exact h1) (by simpa using ew) ⟨rfl, fin⟩) hs
theorem mapSeq_set (its : List Value) (n j : Nat) (u : Value) : Obj.mapSeq (·.setIfInBounds j u) { cls := .type "list", data := .seq its.toArray n } = { cls := .type "list", data := .seq (its.set j u).toArray n } := by
  simp [Obj.mapSeq]
theorem Inv.lst {pins : List (Addr × Obj)} {σ : St} {H : Hp} {s : Shared} {p : Addr} {xs : List V} (I : Inv X pins σ H s) (h : H p = some (.lst xs)) :
    ∃ (its : List Value) (n : Nat), Vals xs its ∧ s.heap.get? p = some { cls := .type "list", data := .seq its.toArray n } ∧ xs.length ≤ sizeLine := by
  obtain ⟨z, its, n, r, e⟩ := I.hok p _ h
  exact ⟨its, n, r, e, z⟩
theorem Inv.lstUpd {pins : List (Addr × Obj)} {σ : St} {H : Hp} {s : Shared} {p : Addr} {xs ys : List V} {its its' : List Value} {n n' : Nat} {f : Obj → Obj} (I : Inv X pins σ H s) (h : H p = some (.lst xs))
    (ho : s.heap.get? p = some { cls := .type "list", data := .seq its.toArray n }) (hf : f { cls := .type "list", data := .seq its.toArray n } = { cls := .type "list", data := .seq its'.toArray n' }) (r : Vals ys its') (hz : ys.length ≤ sizeLine) (t : Nat) :
    Inv X pins σ (upd H p (.lst ys)) { s with heap := s.heap.update p f, toks := t } := by
  have e : (s.heap.update p f).get? p = some { cls := .type "list", data := .seq its'.toArray n' } := by
    rw [Heap.get?_update_self f ho (by rw [hf] <;> rfl), hf]
  refine I.write (x := p) (e := p) (by rw [h]; trivial) (.inl rfl) (fun b u hb q => (Heap.get?_update_other _ _ (Ne.symm hb)).trans q) ⟨_, e⟩ ?_
  exact ⟨hz, its', n', r, e⟩
noncomputable def rSetL : V → V → V → Hp → (Hp → Prop) → Prop := fun o i v H Q => ∃ p xs k j, o = .ref p ∧ i = .int k ∧ H p = some (.lst xs) ∧ ixN xs.length k = some j ∧ Q (upd H p (.lst (xs.set j v)))
theorem set_list : PSet X rSetL := by
  intro pins s σ H o i v ov iv u Q I ro ri rv h
  obtain ⟨p, xs, k, j, rfl, rfl, hp, hj, q⟩ := h
  cases ro
  obtain ⟨t, rfl⟩ := ri
  obtain ⟨its, n, r, ho, hz⟩ := I.lst hp
  obtain ⟨h1, h2, h3, h4⟩ := ixN_seq hj
  have hl := r.length
  have hn := line63
  have I' : Inv X pins σ (upd H p (.lst (xs.set j v))) { s with heap := s.heap.update p (Obj.mapSeq (·.setIfInBounds j u)) } :=
    I.lstUpd hp ho (mapSeq_set its n j u) (r.set rv j) (by rw [List.length_set]; exact hz) s.toks
  by_cases h0 : 0 ≤ k
  · have hk : k.toNat = j := by
      rw [seqIndex_of h0 h4] at h1
      exact Option.some.inj h1
    exact PySem.W.ki_setAt ho h0 (by omega) (by rw [List.size_toArray, ← hl]; exact h4) (by rw [hk]; exact ⟨_, I', q⟩)
  · have hk : (k + (its.toArray.size : Int)).toNat = j := by
      rw [seqIndex_neg (by omega) h3] at h1
      rw [List.size_toArray, ← hl]
      exact Option.some.inj h1
    exact PySem.W.ki_setBack ho (by omega) (by rw [List.size_toArray, ← hl]; exact h3) (by omega) (by rw [hk]; exact ⟨_, I', q⟩)
theorem slice_bounds (lo hi : Option Int) (n : Nat) : (sliceBounds lo hi none n).1 = ((HT.sIx n 0 lo : Nat) : Int) ∧ (sliceBounds lo hi none n).2.1 = ((HT.sIx n n hi : Nat) : Int) ∧ (sliceBounds lo hi none n).2.2 = 1 := by
  refine ⟨?_, ?_, rfl⟩
  · cases lo with
    | none => simp [sliceBounds, HT.sIx]
    | some i =>
      simp only [sliceBounds, HT.sIx, Option.getD_none, show (1 : Int) > 0 by decide, if_true]
      by_cases h : i < 0
      · simp only [h, if_true] <;> omega
      · simp only [h, if_false] <;> omega
  · cases hi with
    | none => simp [sliceBounds, HT.sIx]
    | some i =>
      simp only [sliceBounds, HT.sIx, Option.getD_none, show (1 : Int) > 0 by decide, if_true]
      by_cases h : i < 0
      · simp only [h, if_true] <;> omega
      · simp only [h, if_false] <;> omega
theorem slicePick_cut (its : List Value) (lo hi : Option Int) : slicePick its.toArray lo hi none = ((its.drop (HT.sIx its.length 0 lo)).take (HT.sIx its.length its.length hi - HT.sIx its.length 0 lo)).toArray := by
  obtain ⟨h1, h2, h3⟩ := slice_bounds lo hi its.toArray.size
  unfold slicePick
  rw [h1, h2, h3]
  simp only [sliceRange_one, pick_run, List.size_toArray] <;> rfl
noncomputable def rSlL (K : PySem.W.Frag) : V → Option Int → Option Int → Hp → VK → Prop := fun x lo hi H Q => ∃ a xs, x = .ref a ∧ SqL K H a xs ∧ ∀ p, H p = none → Q (.ref p) (upd H p (.lst (cutV xs lo hi)))
theorem sl_list : SlR X (rSlL X.K) := by
  intro pins s σ H x v vl vu lo hi sl Q I rx hs pl pu h
  obtain ⟨a, xs, rfl, hx, q⟩ := h
  cases rx
  obtain ⟨its, r, ht, hz⟩ := I.list hx
  have hlen := r.length
  refine ⟨"list", _, slot_list_getitem.lookup, ht.isList.typeIs, ?_⟩
  refine wpAny_getItem_list_slice ht.isList hs pl pu .none (by simp) ?_ (by rw [List.size_toArray] <;> omega)
  rw [slicePick_cut, ← hlen]
  refine ⟨.ref s.heap.objs.size, _, I.laid (t' := s.toks) (o := .lst (cutV xs lo hi)) (fun b ob q => Heap.get?_push_of_some _ q) (Nat.le_refl _) ?_, rfl, q _ (I.hok.fresh (Nat.le_refl _))⟩
  exact ⟨Nat.le_trans (cutV_length xs lo hi) hz, _, 0, (r.drop (HT.sIx xs.length 0 lo)).take (HT.sIx xs.length xs.length hi - HT.sIx xs.length 0 lo), Heap.get?_push_size _ rfl⟩
theorem call_len_seq : CallR X (.builtin "len") (fun xs H Q => ∃ p ys, xs = [.ref p] ∧ (SqL X.K H p ys ∨ SqT X.K H p ys) ∧ Q (.int ys.length) H) := by
  intro pins s σ H xs us Q I r h
  obtain ⟨p, ys, rfl, hq, q⟩ := h
  obtain ⟨u, rfl, rx⟩ := vals1 r
  cases rx
  have hn := line63
  rcases hq with hq | hq
  · obtain ⟨its, r', pl, hz⟩ := I.list hq
    have hlen := r'.length
    exact Calls.call_len_list pl.isList (by simp only [List.size_toArray] <;> omega) ⟨.int ys.length, H, I.tok _, ⟨s.toks + 1, by rw [List.size_toArray, hlen]⟩, q⟩
  · obtain ⟨its, r', pl, hz⟩ := I.tuple hq
    have hlen := r'.length
    exact len_tuple pl (by simp only [List.size_toArray] <;> omega) ⟨.int ys.length, H, I.tok _, ⟨s.toks + 1, by rw [List.size_toArray, hlen]⟩, q⟩
theorem call_list_of : CallR X (.type "list") (fun xs H Q => ∃ p ys, xs = [.ref p] ∧ (SqL X.K H p ys ∨ SqT X.K H p ys) ∧ ∀ l, H l = none → Q (.ref l) (upd H l (.lst ys))) := by
  intro pins s σ H xs us Q I r h
  obtain ⟨p, ys, rfl, hq, q⟩ := h
  obtain ⟨u, rfl, rx⟩ := vals1 r
  cases rx
  have fin : ∀ (its : List Value), Vals ys its → ys.length ≤ sizeLine → ∀ (h' : Heap) (c' : Nat), (∀ b o', s.heap.get? b = some o' → h'.get? b = some o') →
      h'.get? s.heap.objs.size = some { cls := .type "list", dict := none, data := .seq its.toArray c', slots := #[] } → EP X pins σ Q (.ref s.heap.objs.size) { s with heap := h' } := fun its r' hz h' c' kp e =>
    ⟨.ref s.heap.objs.size, _, I.laid (t' := s.toks) kp (Nat.le_refl _) (show ObjOk X.prog X.w _ h' _ (.lst ys) from ⟨hz, its, c', r', e⟩), rfl, q _ (I.hok.fresh (Nat.le_refl _))⟩
  rcases hq with hq | hq
  · obtain ⟨its, r', pl, hz⟩ := I.list hq
    have hlen := r'.length
    obtain ⟨o, ho, hc, n, hd⟩ := pl.isList
    exact call_list_seq p (.inl rfl) ho hc hd (fun h' c' kp e => fin its r' hz h' c' kp e) (by simp only [List.size_toArray] <;> omega)
  · obtain ⟨its, r', pl, hz⟩ := I.tuple hq
    have hlen := r'.length
    obtain ⟨o, ho, hc, n, hd⟩ := pl
    exact call_list_seq p (.inr rfl) ho hc hd (fun h' c' kp e => fin its r' hz h' c' kp e) (by simp only [List.size_toArray] <;> omega)
noncomputable def tyV (K : PySem.W.Frag) (T : String) (x : V) (H : Hp) : Prop := match x with
  | .str _ => T = "str"
  | .int _ => T = "int"
  | .ref p => (T = "list" ∧ ∃ xs, SqL K H p xs) ∨ (T = "tuple" ∧ ∃ o, K.lookup p = some o ∧ o.cls = .type "tuple" ∧ o.dict = none) ∨
      (T = "dict" ∧ ((∃ kvs, H p = some (.dK kvs)) ∨ ∃ kvs, H p = some (.dT kvs))) ∨ (T = "set" ∧ ∃ S n, H p = some (.set S n))
  | _ => False
theorem tyV_is {pins : List (Addr × Obj)} {σ : St} {H : Hp} {s : Shared} {T : String} {x : V} {v : Value} (I : Inv X pins σ H s) (r : RelV x v) (ty : tyV X.K T x H) :
    s.TypeIs v T ∧ ∀ a, v = .ref a → ∃ ob, s.heap.get? a = some ob ∧ ob.dict = none := by
  cases x with
  | str z =>
    obtain ⟨t, rfl⟩ := r
    cases (show T = "str" from ty)
    exact ⟨typeIs_str s z t, fun _ e => nomatch e⟩
  | int i =>
    obtain ⟨t, rfl⟩ := r
    cases (show T = "int" from ty)
    exact ⟨typeIs_int s i t, fun _ e => nomatch e⟩
  | ref p =>
    cases r
    rcases ty with ⟨rfl, xs, hq⟩ | ⟨rfl, o, hk, hc, hd⟩ | ⟨rfl, hk⟩ | ⟨rfl, S, n, hk⟩
    · obtain ⟨its, _, pl, _⟩ := I.list hq
      refine ⟨pl.isList.typeIs, fun a e => ?_⟩
      cases e
      obtain ⟨o, n, e, c, hd, _⟩ := pl
      exact ⟨o, e, hd⟩
    · refine ⟨⟨o, I.kIn p o hk, hc⟩, fun a e => ?_⟩
      cases e
      exact ⟨o, I.kIn _ o hk, hd⟩
    · have z : ∃ o, s.heap.get? p = some o ∧ o.ExactDict := by
        rcases hk with ⟨kvs, hk⟩ | ⟨kvs, hk⟩
        · obtain ⟨_, _, _, _, o, _, _, e, ex, _⟩ := I.hok p _ hk
          exact ⟨o, e, ex⟩
        · obtain ⟨_, _, _, _, o, _, _, e, ex, _⟩ := I.hok p _ hk
          exact ⟨o, e, ex⟩
      obtain ⟨o, e, ex⟩ := z
      refine ⟨⟨o, e, ex.1⟩, fun a e2 => ?_⟩
      cases e2
      exact ⟨o, e, ex.2.1⟩
    · obtain ⟨o, _, _, _, e, ex, _⟩ := I.hok p _ hk
      refine ⟨⟨o, e, ex.1⟩, fun a e2 => ?_⟩
      cases e2
      exact ⟨o, e, ex.2.1⟩
  | _ => exact False.elim ty
noncomputable def tBM0 (K : PySem.W.Frag) (T : String) (r : V → List V → Hp → VK → Prop) (to : TE) : TE := fun σ H Q => to σ H fun x H1 => tyV K T x H1 ∧ r x [] H1 Q
noncomputable def tBM (K : PySem.W.Frag) (T : String) (r : V → List V → Hp → VK → Prop) (to : TE) (t : TA) : TE := fun σ H Q => to σ H fun x H1 => tyV K T x H1 ∧ t σ H1 fun xs H2 => r x xs H2 Q
variable {o e : Expr} {es : List Expr} {to : TE} {t : TA} {name : Str} {apos cpos : Pos} {T id : String} {r : V → List V → Hp → VK → Prop}
theorem pe_bm (pa : PlainAttrs T) (slot : Slot T name id) (hty : typeOf (.builtin id) = pure (.type "method_descriptor")) (hm : MtR X id r) (ho : PE X o to) (ha : PA X (e :: es) t)
    (hbase : attributeBase o name X.env (eval o X.env) = eval o X.env := by rfl)
    (hfew : ((backTo cpos (starEach (e :: es) X.env)).all (fun x => !x.1) && (backToKw cpos (keywordEach [] X.env)).all (fun x => x.1.isSome)
      && decide ((e :: es).length + ([] : List Keyword).length + (if ([] : List Keyword).isEmpty then 0 else 1) < 30)) = true := by rfl)
    (hline : (apos.endLine == cpos.line) = true := by rfl) (hs : starEach (e :: es) X.env = (false, eval e X.env) :: starEach es X.env := by rfl) (hplain : (backTo cpos (starEach es X.env)).any (·.1) = false := by rfl) :
    PE X (.Call (.Attribute o name apos) (e :: es) [] cpos) (tBM X.K T r to t) := by
  intro pins s σ H Q I h
  refine wpAny_Call_method_late hbase hfew hline rfl (thn (ho pins s σ H _ I h) fun v s1 ⟨x, H1, I1, r1, ty, q1⟩ => ?_)
  obtain ⟨h1, h2⟩ := tyV_is I1 r1 ty
  refine ⟨T, id, pa, slot, hty, h1, h2, ?_⟩
  have hA := ha cpos pins s1 σ H1 _ I1 q1
  rw [hs] at hA ⊢
  refine Calls.callWith_builtin (by show (false || (backTo cpos (starEach es X.env)).any (·.1)) = false; rw [hplain] <;> rfl) (Calls.evalArgs_plain ?_)
  exact thn hA fun us s2 ⟨vs, H2, I2, r2, q2⟩ => hm pins s2 σ H2 x vs v us Q I2 r1 r2 q2
end
end L2
namespace L2
open PySem PySem.Spec PyProof.Rows
noncomputable def MtM (X : Cx) (id : String) (r : V → List V → Hp → VK → Prop) : Prop :=
  ∀ (pins : List (Addr × Obj)) (s : Shared) (σ : St) (H : Hp) (x : V) (xs : List V) (v : Value) (us : List Value) (Q : VK), Inv X pins σ H s → RelV x v → Vals xs us → r x xs H Q →
    wpAny (model X.prog X.w) X.A (call (.builtin id) (v :: us)) (EP X pins σ Q) X.xe s
theorem Vals.one : ∀ {x : V} {us : List Value}, Vals [x] us → ∃ u, us = [u] ∧ RelV x u
  | _, _, .cons r .nil => ⟨_, rfl, r⟩
theorem Vals.rep {xs : List V} {us : List Value} (h : Vals xs us) : ∀ k : Nat, Vals (List.replicate k xs).flatten (List.replicate k us).flatten
  | 0 => .nil
  | k + 1 => by
    rw [List.replicate_succ, List.replicate_succ, List.flatten_cons, List.flatten_cons]
    exact Vals.append h (Vals.rep h k)
theorem foldl_rep (its : List Value) : ∀ (k : Nat) (acc : List Value),
    List.foldl (fun x1 x2 => x1 ++ x2) acc.toArray (List.replicate k its.toArray) = (acc ++ (List.replicate k its).flatten).toArray
  | 0, acc => by simp
  | k + 1, acc => by
    have e : acc.toArray ++ its.toArray = (acc ++ its).toArray := by simp
    have e2 : (acc ++ its) ++ (List.replicate k its).flatten = acc ++ (List.replicate (k + 1) its).flatten := by
      rw [List.replicate_succ, List.flatten_cons, List.append_assoc]
    rw [← e2, ← foldl_rep its k (acc ++ its), ← e, List.replicate_succ, List.foldl_cons]
section
variable {X : Cx} {pins : List (Addr × Obj)} {σ : St} {H : Hp} {s : Shared} {l b : Addr} {xs ys zs : List V}
theorem Inv.lset {its its' : List Value} {n : Nat} {f : Array Value → Array Value} {t' : Nat} (I : Inv X pins σ H s) (hH : H l = some (.lst xs))
    (e : s.heap.get? l = some { cls := .type "list", data := .seq its.toArray n }) (hf : f its.toArray = its'.toArray) (hv : Vals ys its') (hz : ys.length ≤ sizeLine) :
    Inv X pins σ (upd H l (.lst ys)) { s with heap := s.heap.update l (Obj.mapSeq f), toks := t' } := by
  have q := PySem.IsL.update e f
  rw [hf] at q
  refine I.write (x := l) (e := l) (by rw [hH]; exact trivial) (.inl rfl) (fun b' u hb hu => (Heap.get?_update_other s.heap (Obj.mapSeq f) (Ne.symm hb)).trans hu) ⟨_, q⟩ ?_
  exact ⟨hz, its', _, hv, q⟩
theorem Inv.lnew {its : List Value} {t' : Nat} (I : Inv X pins σ H s) (hv : Vals ys its) (hz : ys.length ≤ sizeLine) :
    Inv X pins σ (upd H s.heap.objs.size (.lst ys)) { s with heap := s.heap.push { cls := .type "list", data := .seq its.toArray }, toks := t' } :=
  I.laid (fun _ _ q => Heap.get?_push_of_some _ q) (Nat.le_refl _) ⟨hz, its, 0, hv, Heap.get?_push_size _ rfl⟩
theorem Inv.fresh (I : Inv X pins σ H s) : H s.heap.objs.size = none := I.hok.fresh (Nat.le_refl _)
theorem Inv.lstM (I : Inv X pins σ H s) (hH : H l = some (.lst xs)) : xs.length ≤ sizeLine ∧ ∃ (its : List Value) (n : Nat), Vals xs its ∧ xs.length = its.length ∧ s.heap.get? l = some { cls := .type "list", data := .seq its.toArray n } := by
  obtain ⟨z, its, n, r, e⟩ := I.hok l _ hH
  exact ⟨z, its, n, r, r.length, e⟩
theorem notLongL {n : Nat} (h : n ≤ sizeLine) : Builtin.List.listTooLong n = false := by
  unfold Builtin.List.listTooLong
  exact decide_eq_false (by omega)
end
section
variable {X : Cx}
noncomputable def rAppend : V → List V → Hp → VK → Prop := fun x vs H Q => ∃ l xs y, x = .ref l ∧ vs = [y] ∧ H l = some (.lst xs) ∧ xs.length < sizeLine ∧ Q .non (upd H l (.lst (xs ++ [y])))
theorem mt_append : MtM X "list.append" rAppend := by
  intro pins s σ H x vs v us Q I rx rv h
  obtain ⟨l, xs, y, rfl, rfl, hH, hz, q⟩ := h
  cases rx
  obtain ⟨u, rfl, ru⟩ := rv.one
  obtain ⟨z, its, n, r, hl, e⟩ := I.lstM hH
  refine call_meets F.slot_list_append ⟨_, e, rfl⟩ F.entry_list_append (F.args_list_append_2 _ _) (PySem.list_append l its.toArray n u (by rw [List.size_toArray]; omega)) ⟨e, ?_⟩
  refine ⟨.non, _, I.lset (its' := its ++ [u]) hH e (by simp) (r.append (.cons ru .nil)) ?_, rfl, q⟩
  rw [List.length_append, List.length_singleton]
  omega
noncomputable def rCat : R2 := fun x y H Q => ∃ l b xs zs, x = .ref l ∧ y = .ref b ∧ H l = some (.lst xs) ∧ H b = some (.lst zs) ∧ xs.length + zs.length ≤ sizeLine ∧ ∀ p, H p = none → Q (.ref p) (upd H p (.lst (xs ++ zs)))
theorem op_cat : OpR X (binaryOp .Add) rCat := by
  intro pins s σ H x y v u Q I rx ry h
  obtain ⟨l, b, xs, zs, rfl, rfl, hH, hB, hz, q⟩ := h
  cases rx
  cases ry
  obtain ⟨z, its, n, r, hl, e⟩ := I.lstM hH
  obtain ⟨z2, its2, n2, r2, hl2, e2⟩ := I.lstM hB
  refine PySem.P.add_list e e2 ?_ (by rw [List.size_toArray, List.size_toArray]; omega)
  have ea : its.toArray ++ its2.toArray = (its ++ its2).toArray := by simp
  rw [ea]
  exact ⟨.ref _, _, I.lnew (t' := s.toks) (r.append r2) (by rw [List.length_append]; omega), rfl, q _ I.fresh⟩
noncomputable def rRep : R2 := fun x y H Q => ∃ l k xs, x = .ref l ∧ y = .int k ∧ H l = some (.lst xs) ∧ -(2 ^ 63) ≤ k ∧ k < 2 ^ 63 ∧ xs.length * k.toNat ≤ sizeLine ∧
  ∀ p, H p = none → Q (.ref p) (upd H p (.lst (List.replicate k.toNat xs).flatten))
theorem len_rep {α : Type} (xs : List α) (k : Nat) : (List.replicate k xs).flatten.length = k * xs.length := by
  induction k with
  | zero => simp
  | succ k ih => rw [List.replicate_succ, List.flatten_cons, List.length_append, ih, Nat.succ_mul, Nat.add_comm]
theorem op_rep : OpR X (binaryOp .Mult) rRep := by
  intro pins s σ H x y v u Q I rx ry h
  obtain ⟨l, k, xs, rfl, rfl, hH, h1, h2, hz, q⟩ := h
  cases rx
  obtain ⟨t, rfl⟩ := ry
  obtain ⟨z, its, n, r, hl, e⟩ := I.lstM hH
  have hlen : its.toArray.size * k.toNat ≤ sizeLine := by rw [List.size_toArray, ← hl]; exact hz
  have hcap : ¬ its.toArray.size * k.toNat > (2 ^ 63 - 1) / 8 := by
    have : (sizeLine : Nat) ≤ (2 ^ 63 - 1) / 8 := by decide
    omega
  have hfit : ¬ (!Builtin.List.listFitsIndex k) = true := by
    rw [fitsIndex_both h1 h2]
    exact Bool.false_ne_true
  have hlong : ¬ Builtin.List.listTooLong (its.toArray.size * k.toNat) = true := by
    rw [notLongL hlen]
    exact Bool.false_ne_true
  have hnew : List.foldl (fun x1 x2 => x1 ++ x2) #[] (List.replicate (if its.toArray.isEmpty = true then 0 else k.toNat) its.toArray) = (List.replicate k.toNat its).flatten.toArray := by
    have f0 : ∀ m : Nat, List.foldl (fun x1 x2 => x1 ++ x2) #[] (List.replicate m its.toArray) = (List.replicate m its).flatten.toArray := fun m => by
      have := foldl_rep its m []
      rw [List.nil_append] at this
      exact this
    rw [f0]
    cases its with
    | nil => simp
    | cons a r' => rw [if_neg (by simp)]
  refine wpAny_binaryOp_repeat_ref (T := "list") (U := "int") (by decide) ⟨_, e, rfl⟩ (fun s' => typeIs_int s' k t) noFill_list_mul F.fills_int_mul F.slot_int_rmul repeat_list F.slot_int_index.lookup
    (call_meets F.slot_int_rmul (typeIs_int s k t) F.entry_int_rmul (F.args_int_rmul_2 _ _) (int___rmul___int_list k t l its.toArray n)
      ⟨e, rfl, ⟨_, e, rfl⟩, call_meets F.slot_list_mul ⟨_, e, rfl⟩ F.entry_list_mul (F.args_list_mul_2 _ _) (AutoListH.list___mul___list_int_3 l its.toArray n k t hfit hcap hlong) ⟨e, ?_⟩⟩)
  rw [hnew]
  exact ⟨.ref _, _, I.lnew (t' := s.toks) (r.rep k.toNat) (by rw [len_rep, Nat.mul_comm]; exact hz), rfl, q _ I.fresh⟩
end
section
variable {prog : Program} {w : World} {A : Around} {E : Value → Shared → Prop} {s : Shared}
set_option maxRecDepth 100000 in
end
section
variable {X : Cx}
end
end L2
namespace L2
open PySem PySem.Spec PyProof.Rows
section
variable {κ : Type} [DecidableEq κ]
noncomputable def valV (kvs : List (κ × V)) (k : κ) : Option V := (kvs.find? fun kv => decide (kv.1 = k)).map (·.2)
noncomputable def putK (kvs : List (κ × V)) (k : κ) (v : V) : List (κ × V) :=
  if (kvs.any fun kv => decide (kv.1 = k)) = true then kvs.map (fun kv => if kv.1 = k then (kv.1, v) else kv) else kvs ++ [(k, v)]
noncomputable def dropK (kvs : List (κ × V)) (k : κ) : List (κ × V) := kvs.filter fun kv => decide (kv.1 ≠ k)
theorem valV_pos {p : κ × V} {r : List (κ × V)} {k : κ} (e : p.1 = k) : valV (p :: r) k = some p.2 := by simp [valV, List.find?_cons, e]
theorem valV_neg {p : κ × V} {r : List (κ × V)} {k : κ} (e : ¬ p.1 = k) : valV (p :: r) k = valV r k := by simp [valV, List.find?_cons, e]
theorem valV_any (k : κ) : ∀ kvs : List (κ × V), (kvs.any fun kv => decide (kv.1 = k)) = (valV kvs k).isSome
  | [] => rfl
  | p :: r => by
    rw [List.any_cons]
    by_cases e : p.1 = k
    · simp only [valV_pos e, decide_eq_true e, Bool.true_or, Option.isSome_some]
    · rw [valV_neg e, decide_eq_false e, Bool.false_or]; exact valV_any k r
theorem length_putK (kvs : List (κ × V)) (k : κ) (v : V) : (putK kvs k v).length ≤ kvs.length + 1 := by
  unfold putK
  split
  · rw [List.length_map]; omega
  · rw [List.length_append, List.length_cons, List.length_nil]; omega
theorem RelO.isSome_eq {o : Option V} {u : Option Value} (r : RelO o u) : o.isSome = u.isSome := by
  cases o with
  | none => cases u with
    | none => rfl
    | some _ => exact (show False from r).elim
  | some _ => cases u with
    | none => exact (show False from r).elim
    | some _ => rfl
theorem KV.val {kvs : List (κ × V)} {vs : List (κ × Value)} (r : KV kvs vs) (k : κ) : RelO (valV kvs k) (valueAt vs k) := by
  unfold KV at r
  induction r with
  | nil => exact True.intro
  | @cons p q ps qs h t ih =>
    obtain ⟨h1, h2⟩ := h
    by_cases e : p.1 = k
    · have e' : q.1 = k := h1.symm.trans e
      have b : valueAt (q :: qs) k = some q.2 := by simp [valueAt, List.find?_cons, e']
      rw [valV_pos e, b]; exact h2
    · have e' : ¬ q.1 = k := fun z => e (h1.trans z)
      have b : valueAt (q :: qs) k = valueAt qs k := by simp [valueAt, List.find?_cons, e']
      rw [valV_neg e, b]; exact ih
theorem KV.any {kvs : List (κ × V)} {vs : List (κ × Value)} (r : KV kvs vs) (k : κ) : (kvs.any fun kv => decide (kv.1 = k)) = vs.any fun kv => decide (kv.1 = k) := by
  unfold KV at r
  induction r with
  | nil => rfl
  | cons h t ih => rw [List.any_cons, List.any_cons, ih, h.1]
theorem KV.repl {kvs : List (κ × V)} {vs : List (κ × Value)} (r : KV kvs vs) (k : κ) {y : V} {u : Value} (ry : RelV y u) :
    KV (kvs.map fun kv => if kv.1 = k then (kv.1, y) else kv) (vs.map fun kv => if kv.1 = k then (kv.1, u) else kv) := by
  unfold KV at r ⊢
  induction r with
  | nil => exact .nil
  | @cons p q ps qs h t ih =>
    rw [List.map_cons, List.map_cons]
    refine .cons ?_ ih
    obtain ⟨h1, h2⟩ := h
    by_cases e : p.1 = k
    · rw [if_pos e, if_pos (h1.symm.trans e)]; exact ⟨h1, ry⟩
    · rw [if_neg e, if_neg (fun z => e (h1.trans z))]; exact ⟨h1, h2⟩
theorem KV.put {kvs : List (κ × V)} {vs : List (κ × Value)} (r : KV kvs vs) (k : κ) {y : V} {u : Value} (ry : RelV y u) : KV (putK kvs k y) (stored vs k u) := by
  unfold putK stored
  rw [r.any k]
  by_cases e : (vs.any fun kv => decide (kv.1 = k)) = true
  · rw [if_pos e, if_pos e]; exact r.repl k ry
  · rw [if_neg e, if_neg e]; exact Paired.snoc r ⟨rfl, ry⟩
theorem KV.length {kvs : List (κ × V)} {vs : List (κ × Value)} (r : KV kvs vs) : kvs.length = vs.length := Paired.length r
end
theorem kV_is {P : Program} {w : World} {k : Key} {u : Value} (r : RelV (kV k) u) : (mixKind P w).is k u = true := by
  cases k with
  | inl i => obtain ⟨t, e⟩ := (show ∃ t, u = Value.int i t from r); subst e; exact mixKind_int P w i t
  | inr x => obtain ⟨t, e⟩ := (show ∃ t, u = Value.str x t from r); subst e; exact mixKind_str P w x t
theorem nV_is {P : Program} {w : World} {k : NKey} {u : Value} (r : RelV (nV k) u) : (optKind P w).is k u = true := by
  cases k with
  | none => cases (show u = Value.none from r); rfl
  | some k => exact kV_is (P := P) (w := w) (k := k) r
theorem items_are {P : Program} {w : World} : ∀ {ks : List NKey} {us : List Value}, Vals (ks.map nV) us → ItemsAre (optKind P w) ks us
  | [], _, r => by rw [List.map_nil] at r; cases r; exact .nil
  | k :: ks, _, r => by
    rw [List.map_cons] at r
    cases r with
    | cons h t => exact .cons (nV_is h) (items_are t)
noncomputable abbrev KT (H : Hp) : List (List NKey × V) → List (List NKey × Addr × Value) → Prop := Paired fun p q => p.1 = q.1 ∧ H q.2.1 = some (.tup (p.1.map nV)) ∧ RelV p.2 q.2.2
theorem KT.val {H : Hp} {kvs : List (List NKey × V)} {xs : List (List NKey × Addr × Value)} (r : KT H kvs xs) (k : List NKey) : RelO (valV kvs k) ((atKey xs k).map (·.2)) := by
  induction r with
  | nil => exact True.intro
  | @cons p q ps qs h t ih =>
    obtain ⟨h1, _, h2⟩ := h
    by_cases e : p.1 = k
    · have e' : q.1 = k := h1.symm.trans e
      have b : atKey (q :: qs) k = some q.2 := by simp [atKey, List.find?_cons, e']
      rw [valV_pos e, b]; exact h2
    · have e' : ¬ q.1 = k := fun z => e (h1.trans z)
      have b : atKey (q :: qs) k = atKey qs k := by simp [atKey, List.find?_cons, e']
      rw [valV_neg e, b]; exact ih
theorem KT.repl {H : Hp} {kvs : List (List NKey × V)} {xs : List (List NKey × Addr × Value)} (r : KT H kvs xs) (k : List NKey) {y : V} {u : Value} (ry : RelV y u) :
    KT H (kvs.map fun kv => if kv.1 = k then (kv.1, y) else kv) (xs.map (putAt k u)) := by
  induction r with
  | nil => exact .nil
  | @cons p q ps qs h t ih =>
    rw [List.map_cons, List.map_cons]
    refine .cons ?_ ih
    obtain ⟨h1, h2, h3⟩ := h
    unfold putAt
    by_cases e : p.1 = k
    · rw [if_pos e, if_pos (h1.symm.trans e)]; exact ⟨h1, h2, ry⟩
    · rw [if_neg e, if_neg (fun z => e (h1.trans z))]; exact ⟨h1, h2, h3⟩
theorem KT.put {H : Hp} {kvs : List (List NKey × V)} {xs : List (List NKey × Addr × Value)} (r : KT H kvs xs) (k : List NKey) {b : Addr} {y : V} {u : Value} (hb : H b = some (.tup (k.map nV))) (ry : RelV y u) :
    KT H (putK kvs k y) (storedH xs k b u) := by
  have e : (kvs.any fun kv => decide (kv.1 = k)) = (atKey xs k).isSome := by
    rw [valV_any, (r.val k).isSome_eq, Option.isSome_map]
  unfold putK storedH
  rw [e]
  by_cases q : (atKey xs k).isSome = true
  · rw [if_pos q, if_pos q]; exact r.repl k ry
  · rw [if_neg q, if_neg q]; exact Paired.snoc r ⟨rfl, hb, ry⟩
theorem KT.keeps {H H' : Hp} {kvs : List (List NKey × V)} {xs : List (List NKey × Addr × Value)} (r : KT H kvs xs) (ht : ∀ b ys, H b = some (.tup ys) → H' b = some (.tup ys)) : KT H' kvs xs :=
  Paired.mapP r fun _ _ z => ⟨z.1, ht _ _ z.2.1, z.2.2⟩
section
variable {P : Program} {w : World} {H : Hp} {h : Heap} {a : Addr}
theorem rd_of {u : HO} (ok : HOk P w H h) (e : Rd H a u) : ObjOk P w H h a u := e.ok ok
theorem dk_rd {kvs : List (Key × V)} (ok : HOk P w H h) (e : Rd H a (.dK kvs)) : kvs.length ≤ sizeLine ∧ (a == sysModules) = false ∧ ∃ vs, KV kvs vs ∧ h.DictOf (mixKind P w) a vs :=
  show ObjOk P w H h a (.dK kvs) from rd_of ok e
theorem dk_of {kvs : List (Key × V)} (ok : HOk P w H h) (e : H a = some (.dK kvs)) : kvs.length ≤ sizeLine ∧ (a == sysModules) = false ∧ ∃ vs, KV kvs vs ∧ h.DictOf (mixKind P w) a vs := dk_rd ok (.inl e)
theorem key_of {ks : List NKey} (ok : HOk P w H h) (e : H a = some (.tup (ks.map nV))) : (tupleKind (optKind P w)).is h ks a := by
  obtain ⟨_, its, r, o, h1, h2, n, h3⟩ := (show ObjOk P w H h a (.tup (ks.map nV)) from ok a _ e)
  exact ⟨o, its.toArray, n, h1, h2, h3, by simpa using items_are r⟩
theorem dt_rd {kvs : List (List NKey × V)} (ok : HOk P w H h) (e : Rd H a (.dT kvs)) : kvs.length ≤ sizeLine ∧ (a == sysModules) = false ∧
    ∃ xs, KT H kvs xs ∧ h.DictOfH (tupleKind (optKind P w)) a xs := by
  obtain ⟨z, y, xs, r, o, es, ep, h1, h2, h3, h4, h5⟩ := (show ObjOk P w H h a (.dT kvs) from rd_of ok e)
  refine ⟨z, y, xs, r, o, es, ep, h1, h2, h3, h4, fun x hx => ?_, h5⟩
  have all : ∀ {l : List (List NKey × V)} {m : List (List NKey × Addr × Value)}, KT H l m → ∀ x ∈ m, (tupleKind (optKind P w)).is h x.1 x.2.1 := by
    intro l m q
    induction q with
    | nil => intro x hx; exact nomatch hx
    | @cons p q ps qs hq t ih =>
      intro x hx
      rcases List.mem_cons.mp hx with e | hx
      · subst e
        exact key_of ok (by rw [← hq.1]; exact hq.2.1)
      · exact ih x hx
  exact all r x hx
theorem dt_of {kvs : List (List NKey × V)} (ok : HOk P w H h) (e : H a = some (.dT kvs)) : kvs.length ≤ sizeLine ∧ (a == sysModules) = false ∧
    ∃ xs, KT H kvs xs ∧ h.DictOfH (tupleKind (optKind P w)) a xs := dt_rd ok (.inl e)
end
noncomputable def DGet (H : Hp) (a : Addr) (y : V) (r : Option V) : Prop :=
  (∃ kvs k, Rd H a (.dK kvs) ∧ y = kV k ∧ r = valV kvs k) ∨ ∃ kvs k b, Rd H a (.dT kvs) ∧ y = .ref b ∧ H b = some (.tup (k.map nV)) ∧ r = valV kvs k
noncomputable def DPut (H : Hp) (a : Addr) (y v : V) (H' : Hp) : Prop :=
  (∃ kvs k, H a = some (.dK kvs) ∧ y = kV k ∧ kvs.length < sizeLine ∧ H' = upd H a (.dK (putK kvs k v))) ∨
  ∃ kvs k b, H a = some (.dT kvs) ∧ y = .ref b ∧ H b = some (.tup (k.map nV)) ∧ kvs.length < sizeLine ∧ H' = upd H a (.dT (putK kvs k v))
theorem DGet.k {H : Hp} {a : Addr} {kvs : List (Key × V)} {k : Key} (e : H a = some (.dK kvs)) : DGet H a (kV k) (valV kvs k) := .inl ⟨kvs, k, .inl e, rfl, rfl⟩
theorem DPut.k {H : Hp} {a : Addr} {kvs : List (Key × V)} {k : Key} {v : V} (e : H a = some (.dK kvs)) (hl : kvs.length < sizeLine) : DPut H a (kV k) v (upd H a (.dK (putK kvs k v))) := .inl ⟨kvs, k, e, rfl, hl, rfl⟩
section
variable {X : Cx} {pins : List (Addr × Obj)} {σ : St} {H : Hp} {s : Shared} {a : Addr} {y v : V} {u r : Value} {o : Option V} {A : Around} {E : Value → Shared → Prop}
theorem Inv.big (I : Inv X pins σ H s) : sysModules < s.heap.objs.size := by
  have h : mainGlobals < s.heap.objs.size := (I.mod.glob.keeps I.bk).lt
  exact Nat.lt_trans (by decide) h
theorem d_in {Q : Value → Shared → Prop} (hu : A.units + 1 < cLine) (I : Inv X pins σ H s) (g : DGet H a y o) (ry : RelV y u) (h : ∀ s', Inv X pins σ H s' → Q (.bool o.isSome) s') :
    wpAny (model X.prog X.w) A (compareOp .In u (.ref a)) Q E s := by
  rcases g with ⟨kvs, k, e, ey, l⟩ | ⟨kvs, k, b, e, ey, eb, l⟩
  · subst ey
    obtain ⟨z, hd, vs, rel, dd⟩ := dk_rd I.hok e
    refine wpAny_in_of (kV_is ry) hd dd.mapOf ?_
    rw [← (rel.val k).isSome_eq, ← l]
    exact h _ (I.tok _)
  · subst ey
    cases (show u = Value.ref b from ry)
    obtain ⟨z, hd, xs, rel, dd⟩ := dt_rd I.hok e
    refine wpAny_in_heap (tupleKind_room_in1 hu) (key_of I.hok eb) hd dd ?_
    have q := (rel.val k).isSome_eq
    rw [Option.isSome_map] at q
    rw [← q, ← l]
    exact h _ (I.tok _)
theorem d_notIn {Q : Value → Shared → Prop} (hu : A.units + 1 < cLine) (I : Inv X pins σ H s) (g : DGet H a y o) (ry : RelV y u) (h : ∀ s', Inv X pins σ H s' → Q (.bool (!o.isSome)) s') :
    wpAny (model X.prog X.w) A (compareOp .NotIn u (.ref a)) Q E s := by
  rcases g with ⟨kvs, k, e, ey, l⟩ | ⟨kvs, k, b, e, ey, eb, l⟩
  · subst ey
    obtain ⟨z, hd, vs, rel, dd⟩ := dk_rd I.hok e
    refine wpAny_notIn_of (kV_is ry) hd dd.mapOf ?_
    rw [← (rel.val k).isSome_eq, ← l]
    exact h _ (I.tok _)
  · subst ey
    cases (show u = Value.ref b from ry)
    obtain ⟨z, hd, xs, rel, dd⟩ := dt_rd I.hok e
    refine wpAny_notIn_heap (tupleKind_room_in1 hu) (key_of I.hok eb) hd dd ?_
    have q := (rel.val k).isSome_eq
    rw [Option.isSome_map] at q
    rw [← q, ← l]
    exact h _ (I.tok _)
theorem d_write {h' : Heap} {t' : Nat} {ob : HO} (I : Inv X pins σ H s) (mu : Mut (H a)) (hs : Heap.SameBut a s.heap h') (he : ∃ q, h'.get? a = some q) (new : ObjOk X.prog X.w (upd H a ob) h' a ob) :
    Inv X pins σ (upd H a ob) { s with heap := h', toks := t' } :=
  I.write (x := a) (e := a) mu (.inl rfl) (fun b q hb z => (hs.2 b hb).trans z) he new
theorem dk_new {P : Program} {w : World} {H' : Hp} {h' : Heap} {kvs : List (Key × V)} {vs : List (Key × Value)} (z : kvs.length ≤ sizeLine) (hd : (a == sysModules) = false) (rel : KV kvs vs) (dd : h'.DictOf (mixKind P w) a vs) :
    ObjOk P w H' h' a (.dK kvs) := ⟨z, hd, vs, rel, dd⟩
theorem d_setItem {H' : Hp} {Q : Unit → Shared → Prop} (hu : A.units + 1 < cLine) (I : Inv X pins σ H s) (g : DPut H a y v H') (ry : RelV y u) (rv : RelV v r) (h : ∀ s', Inv X pins σ H' s' → Q () s') :
    wpAny (model X.prog X.w) A (setItem (.ref a) u r) Q E s := by
  rcases g with ⟨kvs, k, e, ey, l, eH⟩ | ⟨kvs, k, b, e, ey, eb, l, eH⟩
  · subst ey eH
    obtain ⟨z, hd, vs, rel, dd⟩ := dk_of I.hok e
    have hz : vs.length ≤ sizeLine := by rw [← rel.length]; exact z
    have hl : (putK kvs k v).length ≤ sizeLine := by have := length_putK kvs k v; omega
    refine wpAny_setItem_pairs (hsz := hz) (kV_is ry) dd fun h' dd' hs => h _ ?_
    have he : ∃ q, h'.get? a = some q := let ⟨q, _, _, hq, _⟩ := dd'; ⟨q, hq⟩
    exact d_write I (by rw [e]; exact True.intro) hs he (dk_new hl hd (rel.put k rv) dd')
  · subst ey eH
    cases (show u = Value.ref b from ry)
    obtain ⟨z, hd, xs, rel, dd⟩ := dt_of I.hok e
    have hz : xs.length ≤ sizeLine := by rw [← Paired.length rel]; exact z
    have hl : (putK kvs k v).length ≤ sizeLine := by have := length_putK kvs k v; omega
    refine wpAny_setItem_heap (hsz := hz) (tupleKind_room_in1 hu) (key_of I.hok eb) dd fun h' dd' hs => h _ ?_
    obtain ⟨q, es, ep, hq, h2, h3, h4, _, h5⟩ := dd'
    refine d_write I (by rw [e]; exact True.intro) hs ⟨q, hq⟩ ⟨hl, hd, _, (rel.put k eb rv).keeps fun c ys ec => ?_, q, es, ep, hq, h2, h3, h4, h5⟩
    rw [upd_ne (ne_of ec e (fun z => nomatch z))]
    exact ec
end
section
variable {X : Cx} {pins : List (Addr × Obj)} {σ : St} {H : Hp} {s : Shared} {a : Addr} {kvs : List (Key × V)} {k : Key} {u : Value} {A : Around} {E : Value → Shared → Prop}
end
noncomputable def tDGet (td ty : TE) : TE := fun σ H Q => td σ H fun x H1 => ty σ H1 fun y H2 => ∃ a v, x = .ref a ∧ DGet H2 a y (some v) ∧ Q v H2
noncomputable def tDIn (ty td : TE) : TE := fun σ H Q => ty σ H fun y H1 => td σ H1 fun x H2 => ∃ a o, x = .ref a ∧ DGet H2 a y o ∧ Q (.bl o.isSome) H2
noncomputable def tDNotIn (ty td : TE) : TE := fun σ H Q => ty σ H fun y H1 => td σ H1 fun x H2 => ∃ a o, x = .ref a ∧ DGet H2 a y o ∧ Q (.bl (!o.isSome)) H2
noncomputable def sDPut (td ty tv : TE) : TS := fun D σ H => tv σ H fun v H1 => td σ H1 fun x H2 => ty σ H2 fun y H3 => ∃ a H4, x = .ref a ∧ DPut H3 a y v H4 ∧ D.nx σ H4
section
variable {X : Cx} {o i e value : Expr} {pos pos' tpos : Pos} {td ty tv : TE}
theorem pc_din (hu : X.A.units + 1 < cLine) (hi : PE X i ty) (ho : PE X o td) : PC X .In i o (tDIn ty td) := by
  intro pins s σ H Q I h
  refine thn (hi pins s σ H _ I h) fun iv s1 ⟨y, H1, I1, ry, q1⟩ => thn (ho pins s1 σ H1 _ I1 q1) fun u s2 ⟨x, H2, I2, rx, a, ov, ex, g, q2⟩ => ?_
  subst ex
  obtain rfl : u = Value.ref a := rx
  exact d_in hu I2 g ry fun s3 I3 => ⟨.bl ov.isSome, H2, I3, rfl, q2⟩
theorem pc_dnotin (hu : X.A.units + 1 < cLine) (hi : PE X i ty) (ho : PE X o td) : PC X .NotIn i o (tDNotIn ty td) := by
  intro pins s σ H Q I h
  refine thn (hi pins s σ H _ I h) fun iv s1 ⟨y, H1, I1, ry, q1⟩ => thn (ho pins s1 σ H1 _ I1 q1) fun u s2 ⟨x, H2, I2, rx, a, ov, ex, g, q2⟩ => ?_
  subst ex
  obtain rfl : u = Value.ref a := rx
  exact d_notIn hu I2 g ry fun s3 I3 => ⟨.bl (!ov.isSome), H2, I3, rfl, q2⟩
theorem ps_dput (hu : X.A.units + 1 < cLine) (ho : PE X o td) (hi : PE X i ty) (hv : PE X value tv) (hs : swapsWith value (some (.Subscript o i pos')) pos.line X.env = pure false) :
    PS X (.Assign [.Subscript o i pos'] value pos) (sDPut td ty tv) := by
  intro pins s σ H D I h
  refine wpAny_Assign_Subscript (thn (hv pins s σ H _ I h) fun r s1 ⟨v, H1, I1, rv, q1⟩ => thn (ho pins s1 σ H1 _ I1 q1) fun u s2 ⟨x, H2, I2, rx, q2⟩ => thn (hi pins s2 σ H2 _ I2 q2) fun iv s3 ⟨y, H3, I3, ry, a, H4, ex, g, q3⟩ => ?_) hs
  subst ex
  obtain rfl : u = Value.ref a := rx
  exact d_setItem hu I3 g ry rv fun s4 I4 => ⟨σ, H4, I4, q3⟩
end
theorem dk_empty {P : Program} {w : World} {H : Hp} (h : Heap) (hb : sysModules < h.objs.size) : ObjOk P w H (h.push { cls := .type "dict", data := .dict #[] }) h.objs.size (.dK []) :=
  ⟨Nat.zero_le _, beq_eq_false_iff_ne.mpr (Ne.symm (Nat.ne_of_lt hb)), [], .nil, Heap.DictOf.new h⟩
noncomputable def tDNewK : TE := fun _ H Q => ∀ p, H p = none → Q (.ref p) (upd H p (.dK []))
section
variable {X : Cx} {pos : Pos}
end
noncomputable def tPairs : List (TE × TE) → St → Hp → (List (V × V) → Hp → Prop) → Prop
  | [], _, H, Q => Q [] H
  | (tk, tv) :: r, σ, H, Q => tk σ H fun x H1 => tv σ H1 fun y H2 => tPairs r σ H2 fun ps H3 => Q ((x, y) :: ps) H3
noncomputable abbrev VV : List (V × V) → List (Value × Value) → Prop := Paired fun p q => RelV p.1 q.1 ∧ RelV p.2 q.2
noncomputable def PPs (X : Cx) (pos : Pos) (keys : List (Option Expr)) (values : List Expr) (trs : List (TE × TE)) : Prop :=
  ∀ (pins : List (Addr × Obj)) (s : Shared) (σ : St) (H : Hp) (Q : List (V × V) → Hp → Prop), Inv X pins σ H s → tPairs trs σ H Q →
    wpAny (model X.prog X.w) X.A (evalPairs (pairTrees keys values X.env pos)) (fun vs s' => ∃ ps H', Inv X pins σ H' s' ∧ VV ps vs ∧ Q ps H') X.xe s
theorem pps_nil {X : Cx} {pos : Pos} : PPs X pos [] [] [] := fun pins s σ H Q I h => pairTrees_nil_walk ⟨[], H, I, .nil, h⟩
theorem pps_cons {X : Cx} {pos : Pos} {k v : Expr} {ks : List (Option Expr)} {vs : List Expr} {tk tv : TE} {trs : List (TE × TE)} (hk : PE X k tk) (hv : PE X v tv) (hr : PPs X pos ks vs trs) :
    PPs X pos (some k :: ks) (v :: vs) ((tk, tv) :: trs) := fun pins s σ H Q I h =>
  pairTrees_cons_walk (thn (hk pins s σ H _ I h) fun u s1 ⟨x, H1, I1, rx, q1⟩ => thn (hv pins s1 σ H1 _ I1 q1) fun w2 s2 ⟨y, H2, I2, ry, q2⟩ =>
    thn (hr pins s2 σ H2 _ I2 q2) fun ws s3 ⟨ps, H3, I3, rel, q3⟩ => ⟨(x, y) :: ps, H3, I3, .cons ⟨rx, ry⟩ rel, q3⟩)
noncomputable def mergeK (kvs more : List (Key × V)) : List (Key × V) := more.foldl (fun acc kv => putK acc kv.1 kv.2) kvs
theorem KV.merge : ∀ {more : List (Key × V)} {rs : List (Key × Value)} {kvs : List (Key × V)} {vs : List (Key × Value)}, KV more rs → KV kvs vs → KV (mergeK kvs more) (merged vs rs) := by
  intro more rs kvs vs r
  unfold KV at r
  induction r generalizing kvs vs with
  | nil => intro q; exact q
  | @cons p q ps qs h t ih =>
    intro r0
    have e : KV (putK kvs p.1 p.2) (stored vs q.1 q.2) := by
      have := r0.put p.1 h.2
      rw [← h.1]; exact this
    exact ih e
theorem length_mergeK : ∀ (more kvs : List (Key × V)), (mergeK kvs more).length ≤ kvs.length + more.length
  | [], kvs => by show kvs.length ≤ kvs.length + 0; omega
  | p :: r, kvs => by
    have h1 := length_mergeK r (putK kvs p.1 p.2)
    have h2 := length_putK kvs p.1 p.2
    show (mergeK (putK kvs p.1 p.2) r).length ≤ _
    rw [List.length_cons]; omega
theorem carries_of {P : Program} {w : World} : ∀ {kvs : List (Key × V)} {ws : List (Value × Value)}, VV (kvs.map fun kv => (kV kv.1, kv.2)) ws → ∃ rs, Carries (mixKind P w) ws rs ∧ KV kvs rs
  | [], _, r => by rw [List.map_nil] at r; cases r; exact ⟨[], True.intro, .nil⟩
  | p :: kvs, _, r => by
    rw [List.map_cons] at r
    cases r with
    | @cons a b as bs h t =>
      obtain ⟨rs, c, q⟩ := carries_of (P := P) (w := w) t
      obtain ⟨b1, b2⟩ := b
      exact ⟨(p.1, b2) :: rs, ⟨kV_is h.1, rfl, c⟩, .cons ⟨rfl, h.2⟩ q⟩
noncomputable def tDisp (trs : List (TE × TE)) : TE := fun σ H Q => ∀ p, H p = none → tPairs trs σ (upd H p (.dK [])) fun ps H2 => H2 p = some (.dK []) ∧ ∃ kvs : List (Key × V), ps = kvs.map (fun kv => (kV kv.1, kv.2)) ∧ kvs.length ≤ 15 ∧ Q (.ref p) (upd H2 p (.dK (mergeK [] kvs)))
theorem pe_disp {X : Cx} {pos : Pos} {keys : List (Option Expr)} {values : List Expr} {trs : List (TE × TE)} (h : PPs X pos keys values trs) (hall : keys.all (·.isSome) = true) (hl : keys.length = values.length) (h0 : keys ≠ [])
    (h15 : keys.length ≤ 15) : PE X (.Dict keys values pos) (tDisp trs) := by
  intro pins s σ H Q I q
  have hn := I.hok.fresh (Nat.le_refl s.heap.objs.size)
  have I1 := I.laid (a := s.heap.objs.size) (o := .dK []) (h' := s.heap.push { cls := .type "dict", data := .dict #[] }) (t' := s.toks) (fun _ _ q => Heap.get?_push_of_some _ q) (Nat.le_refl _) (dk_empty s.heap I.big)
  refine wpAny_Dict_walk (knd := mixKind X.prog X.w) hall hl h0 h15 (thn (h pins _ σ _ _ I1 (q _ hn)) fun ws s2 ⟨ps, H2, I2, rel, e, kvs, ep, lk, q2⟩ => ?_)
  subst ep
  obtain ⟨rs, c, rk⟩ := carries_of (P := X.prog) (w := X.w) rel
  obtain ⟨z, hd, vs0, r0, dd⟩ := dk_of I2.hok e
  cases r0
  refine ⟨rs, c, dd, fun h' dd' hs => ⟨.ref s.heap.objs.size, _, ?_, rfl, q2⟩⟩
  have hz : (mergeK [] kvs).length ≤ sizeLine := by
    have h1 := length_mergeK kvs []
    rw [List.length_nil] at h1
    rw [sizeLine_eq]; omega
  have he : ∃ q, h'.get? s.heap.objs.size = some q := let ⟨q, _, _, hq, _⟩ := dd'; ⟨q, hq⟩
  exact d_write I2 (by rw [e]; exact True.intro) hs he (dk_new hz hd (rk.merge .nil) dd')
section
variable {X : Cx} {pins : List (Addr × Obj)} {σ : St} {H : Hp} {s : Shared} {a : Addr} {y d : V} {u r : Value} {o : Option V} {A : Around} {E : Value → Shared → Prop}
end
section
variable {X : Cx} {o e f : Expr} {apos cpos : Pos} {td ty tx : TE}
end
section
variable {X : Cx} {pins : List (Addr × Obj)} {σ : St} {H : Hp} {s : Shared} {a : Addr} {kvs : List (Key × V)} {A : Around} {E : Value → Shared → Prop}
end
section
variable {X : Cx} {pins : List (Addr × Obj)} {σ : St} {H : Hp} {s : Shared} {a : Addr} {y : V} {u : Value} {A : Around} {E : Value → Shared → Prop}
end
end L2
namespace Att
open PySem PySem.W PySem.Calls PyProof.Rows
theorem ints_of_wellAll {P : Params} {h : Heap} : ∀ (ns : List Int) (vs : List Value), WellAll P h vs (ns.map WData.int) → IntsAre vs ns := by
  intro ns
  induction ns with
  | nil =>
    intro vs w
    rw [List.map_nil] at w
    cases w
    exact .nil
  | cons n ns ih =>
    intro vs w
    rw [List.map_cons] at w
    cases w with
    | cons a b =>
      cases a
      exact .cons _ _ (ih _ b)
theorem script_of {l : OpenLaw} {n : Nat} (hn : l.most = some n) {P : Params} {h : Heap} {args : List WData} {vals : List Value}
    (hpre : l.row.toRowW.claim.pre args = true) (hwl : WellAll P h vals args) :
    ∃ a vs ns, vals = [Value.ref a] ∧ args = [WData.list (ns.map WData.int)] ∧ h.get? a = some { cls := .type "list", data := .seq vs.toArray } ∧ IntsAre vs ns ∧ ns.length ≤ n := by
  have hsh : WShape.hasAll [] args [.list .int] = true := (pre_splitW hpre).1
  have hc : l.pre.holds [] { args := args } = true := (pre_splitW hpre).2
  obtain ⟨d, r, rfl, h1, h2⟩ := hasAllW_cons hsh
  obtain rfl := hasAllW_nil h2
  obtain ⟨xs, rfl, h3⟩ := hasW_list h1
  obtain ⟨ns, rfl⟩ := items_int h3
  have hlen : ns.length ≤ n := by
    unfold OpenLaw.pre at hc
    have h4 : (WTm.not (.lt (.lit (.int (n : Int))) (.len (.arg 0)))).holds [] { args := [.list (ns.map .int)] } = true := by
      have h4 := (holds_andW hc).1
      rw [hn] at h4
      exact h4
    have h5 := condW_of h4 (w_not (w_lt w_lit (w_len_list (w_arg rfl))))
    rw [List.length_map] at h5
    refine Nat.le_of_not_lt fun q => ?_
    have q' : (n : Int) < ((ns.length : Nat) : Int) := by omega
    first
      | (rw [decide_eq_true q'] at h5; exact absurd h5 (by decide))
      | (simp at h5; omega)
  cases hwl with
  | cons w1 w2 =>
    cases w2
    cases w1 with
    | list ho hall => exact ⟨_, _, ns, rfl, rfl, ho, ints_of_wellAll ns _ hall, hlen⟩
theorem post_true (l : OpenLaw) (args : List WData) : l.row.toRowW.claim.post args (.bool true) args = true :=
  postW_of (r := l.row.toRowW) (X := (true == true))
    (show WShape.has [] (.bool true) .bool = true by first | rfl | decide | simp [WShape.has, WShape.arms, WShape.armsAll])
    (show (WTm.eq .res (.lit (.bool true))).value [] { args := args, res := some (.bool true), after := args } = some (.bool (true == true)) from w_eq_bool (w_res rfl) w_lit) rfl
theorem attach_call {l : OpenLaw} {n : Nat} {q : Program} {loose : List Str} {XP : (Str → Option Value) → Heap → Prop} {YP : World → Heap → Prop} {d : DefRec}
    (hn : l.most = some n) (hdf : d.params.defaults = [])
    (call : ∀ (w : World) (s₀ s₁ : Shared) (mg mb : Str → Option Value) (fa : Addr) (o : Obj) (pm cd doc : Value) (a : Addr) (vs : List Value) (ns : List Int),
      Ground q loose [] XP w s₀ mg mb s₁.heap → YP w s₁.heap →
      s₁.heap.get? fa = some o → o.data = .func (docDef d.name d.params d.body d.scope pm cd doc) → s₁.heap.CodeRec cd d.name → mg d.name = some (.ref fa) →
      s₁.heap.get? a = some { cls := .type "list", data := .seq vs.toArray } → IntsAre vs ns → ns.length ≤ n → s₁.gens = #[] →
      codeAny (model l.prog w) callerA (.call (.ref fa) ⟨[.ref a], []⟩) (fun r s' => r = .ok (.ret (.bool true)) ∧ OldK s₁.heap s'.heap ∧ s'.os = s₁.os ∧ AllBare s'.gens) s₁) :
    WalkO q loose XP YP l.row.toRowW d [] (fun f vs => PySem.call f vs) := by
  intro w s₀ s₁ mg mb G Y fa o pm cd doc dV kV ho hd hcd hD hmg hg args vals as hpre hlay hrd hwl hlo
  obtain rfl : dV = .none := Dflts.none hD hdf
  obtain rfl : kV = .none := Dflts.noKw hD
  obtain ⟨a, vs, ns, rfl, rfl, hobj, hints, hlen⟩ := script_of hn hpre hwl
  refine enter_call (codeAny_mono (call w s₀ s₁ mg mb fa o pm cd doc a vs ns G Y ho (fd_plain hd) hcd hmg hobj hints hlen hg) fun r s' hq => ?_)
  obtain ⟨rfl, h2, h3, h4⟩ := hq
  exact ⟨.inl ⟨.bool true, .bool true, [], rfl, fun _ => rfl, .bool true, post_true l _, fun _ => ⟨List.Pairwise.nil, fun _ hm => (nomatch hm)⟩⟩, h2, h3, h4⟩
section
variable {prog : Program} {w : World} {A : Around} {E : Value → Shared → Prop} {s : Shared} {K : Frag}
end
end Att
namespace L2
open PySem PySem.Spec PyProof.Rows
theorem vals_ints : ∀ {vs : List Value} {ns : List Int}, IntsAre vs ns → Vals (ns.map V.int) vs
  | _, _, .nil => .nil
  | _, _, .cons n t h => .cons ⟨t, rfl⟩ (vals_ints h)
noncomputable def Only (H : Hp) : Prop := ∀ b, H b = none ∨ ∃ o xs, H b = some (.frz o (.lst xs))
theorem law_call {P : Program} {w : World} {K : PySem.W.Frag} {mg mb : Str → Option Value} {CX : CXT} {k : Nat} {fa a : Addr} {fd : FuncData} {x : Str} {sp : Sp} {s₁ : Shared} {vs : List Value} {ns : List Int}
    (KX : K.In s₁.heap) (hns : s₁.heap.Ns mainGlobals mg) (hb : s₁.heap.Ns builtinsNs mb) (hbb : ∀ x : Str, x ≠ "__name__" → mb x = bootBuiltins x) (hlim : s₁.heap.NoLimit) (hg : s₁.gens = #[])
    (ha : s₁.heap.get? a = some { cls := .type "list", data := .seq vs.toArray }) (hi : IntsAre vs ns) (hl : ns.length ≤ sizeLine) (hr : Room k callerA)
    (F : ∀ base : Heap, K.In base → base.Ns mainGlobals mg → FnOk P w K mg base CX k fa fd [x] sp) (hbind : ∀ (s : Shared) (u : Value), BindsTo s fd ⟨[u], []⟩ [(x, u)])
    (hsp : ∀ H : Hp, Only H → SqL K H a (ns.map V.int) → sp [.ref a] H (fun v _ => v = .bl true) fun _ _ _ => False)
    (hCX : ∀ H e s', CX [] H s₁ (fun _ _ _ => False) e s' → False) :
    codeAny (model P w) callerA (.call (.ref fa) ⟨[.ref a], []⟩) (fun r s' => r = .ok (.ret (.bool true)) ∧ OldK s₁.heap s'.heap ∧ s'.os = s₁.os ∧ AllBare s'.gens) s₁ := by
  have rv := vals_ints hi
  have lenV := hi.length
  -- from an abstract heap in which nothing but the script may be tracked
  have core : ∀ H : Hp, Only H → SqL K H a (ns.map V.int) → HOk P w H s₁.heap → (∀ b, H b ≠ none → b = a) → (H a ≠ none → K.lookup a = none) →
      codeAny (model P w) callerA (.call (.ref fa) ⟨[.ref a], []⟩) (fun r s' => r = .ok (.ret (.bool true)) ∧ OldK s₁.heap s'.heap ∧ s'.os = s₁.os ∧ AllBare s'.gens) s₁ := by
    intro H hO hS hok hA hK
    have base_of : ∀ {b : Addr} {o : Obj}, s₁.heap.get? b = some o → H b = none → (hidT s₁.heap H).get? b = some o := fun e n => hidT_get e n
    have noA : ∀ {b : Addr} {o : Obj} {es : Array DictEntry} {ep : Nat}, s₁.heap.get? b = some o → o.data = .dict es ep → H b = none := fun {b o es ep} e d => by
      cases q : H b with
      | none => rfl
      | some u =>
        have e' : b = a := hA b (by rw [q]; simp)
        subst e'
        rw [ha] at e; cases e
        have d' : Data.seq vs.toArray _ = Data.dict es ep := d
        cases d'
    have nsK : ∀ {b : Addr} {m : Str → Option Value}, s₁.heap.Ns b m → (hidT s₁.heap H).Ns b m := fun {b m} ⟨o, es, ep, e, d, r⟩ => ⟨o, es, ep, base_of e (noA e d), d, r⟩
    have hKb : K.In (hidT s₁.heap H) := fun b o e => base_of (KX b o e) (by
      cases q : H b with
      | none => rfl
      | some u =>
        have e' : b = a := hA b (by rw [q]; simp)
        subst e'
        rw [hK (by rw [q]; simp)] at e; cases e)
    have hM : Mod K mg (hidT s₁.heap H) := ⟨hKb, nsK hns, ⟨mb, nsK hb, hbb⟩, let ⟨mc, h1, h2⟩ := hlim; ⟨mc, nsK h1, h2⟩⟩
    have e0 : Env0 P w K mg (hidT s₁.heap H) callerA [] s₁ H := ⟨rfl, hM, fun b o e => of_hidT e, Nat.le_of_eq (hidT_size _ _), trivial, fun b hb => absurd (show b ∈ ([] : List Addr) from hb) (by simp), hok, .of_eq hg⟩
    refine codeAny_mono ((F _ hKb (nsK hns)).run callerA [] s₁ H ⟨[.ref a], []⟩ [.ref a] [.ref a] _ _ hr e0 (hbind s₁ (.ref a)) (.cons rfl .nil) (hsp H hO hS)) fun r s' h => ?_
    cases r with
    | error e => exact (hCX H e s' h).elim
    | ok fl =>
      cases fl with
      | next => exact False.elim h
      | brk => exact False.elim h
      | cont => exact False.elim h
      | ret u =>
        obtain ⟨v, H', os, bare, un, hok', r', q⟩ := h
        have q' : v = .bl true := q
        subst q'
        obtain rfl : u = Value.bool true := r'
        refine ⟨rfl, OldK.of_keep fun b o e => ?_, os, bare⟩
        cases q : H b with
        | none => exact un.keep b o e q (by intro z; exact absurd (show b ∈ ([] : List Addr) from z) (by simp)) (by simp)
        | some u =>
          rcases hO b with z | ⟨ob, xs, z⟩
          · rw [q] at z; cases z
          · have z2 := un.frzs b ob _ z
            obtain ⟨e1, _⟩ := hok b _ z
            obtain ⟨e2, _⟩ := hok' b _ z2
            rw [e] at e1; cases e1
            exact e2
  cases hk : K.lookup a with
  | some o =>
    -- the script is one of the module's own objects
    have e := KX a o hk
    rw [ha] at e
    cases e
    refine core (fun _ => none) (fun _ => .inl rfl) (.inr ⟨_, vs.toArray, _, hk, rfl, rfl, rfl, by rw [List.size_toArray, lenV]; exact hl, by simpa using rv⟩) (fun b u z => by have z' : (none : Option HO) = some u := z; cases z') (fun b z => absurd rfl z) fun z => absurd rfl z
  | none =>
    refine core (fun b => if b = a then some (.frz { cls := .type "list", data := .seq vs.toArray } (.lst (ns.map V.int))) else none) (fun b => ?_) (.inl (.inr ⟨{ cls := .type "list", data := .seq vs.toArray }, if_pos rfl⟩)) (fun b u z => ?_) (fun b z => ?_) fun _ => hk
    · by_cases hb : b = a
      · exact .inr ⟨_, _, if_pos hb⟩
      · exact .inl (if_neg hb)
    · by_cases hb : b = a
      · have z' := (if_pos hb).symm.trans z
        cases z'
        subst hb
        exact ⟨ha, by rw [List.length_map]; exact hl, vs, _, rv, ha⟩
      · have z' := (if_neg hb).symm.trans z
        cases z'
    · by_cases hb : b = a
      · exact hb
      · exact absurd (if_neg hb) z
end L2
namespace L2
open PySem PySem.Spec PyProof.Rows
noncomputable abbrev KOf {K : PySem.W.Frag} {h : Heap} (_ : K.In h) : PySem.W.Frag := K
theorem walk_of {l : PySem.W.OpenLaw} {n k : Nat} {q : Program} {loose : List Str} {XP : (Str → Option Value) → Heap → Prop} {YP : World → Heap → Prop} {d : DefRec} {K : Params → PySem.W.Frag} {CX : World → CXT} {sp : World → Sp} {x : Str}
    (hn : l.most = some n) (hn2 : n ≤ sizeLine) (hdf : d.params.defaults = []) (hr : Room k callerA)
    (hY : ∀ (w : World) (h : Heap), YP w h → (K w.params).In h)
    (F : ∀ (w : World) (mg : Str → Option Value) (fa : Addr) (h : Heap), (K w.params).In h → h.Ns mainGlobals mg → mg d.name = some (.ref fa) →
      ∃ fd : FuncData, (∀ (s : Shared) (u : Value), BindsTo s fd ⟨[u], []⟩ [(x, u)]) ∧
        ∀ base : Heap, (K w.params).In base → base.Ns mainGlobals mg → FnOk l.prog w (K w.params) mg base (CX w) k fa fd [x] (sp w))
    (hsp : ∀ (w : World) (H : Hp) (a : Addr) (ns : List Int), ns.length ≤ n → Only H → SqL (K w.params) H a (ns.map V.int) → sp w [.ref a] H (fun v _ => v = .bl true) fun _ _ _ => False)
    (hCX : ∀ (w : World) (H : Hp) (s : Shared) (e : Value) (s' : Shared), CX w [] H s (fun _ _ _ => False) e s' → False) :
    PySem.W.WalkO q loose XP YP l.row.toRowW d [] (fun f vs => PySem.call f vs) := by
  refine Att.attach_call hn hdf fun w s₀ s₁ mg mb fa o pm cd doc a vs ns G Y ho hd hcd hmg hobj hints hlen hg => ?_
  have KX := hY w _ Y
  obtain ⟨fd, hb, hF⟩ := F w mg fa _ KX G.T.g hmg
  exact law_call KX G.T.g G.T.b G.T.builtins G.T.nolimit hg hobj hints (Nat.le_trans hlen hn2) hr hF hb (fun H hO hS => hsp w H a ns hlen hO hS) fun H e s' => hCX w H s₁ e s'
end L2
namespace L2
open PySem PySem.Spec PyProof.Rows
noncomputable def defArgs (s : Stmt) : Arguments := match s with
  | .FunctionDef _ a _ _ _ _ _ _ _ _ => a
  | _ => { posonlyargs := [], args := [], vararg := none, kwonlyargs := [], kw_defaults := [], kwarg := none, defaults := [] }
noncomputable def defBody (s : Stmt) : List Stmt := match s with
  | .FunctionDef _ _ b _ _ _ _ _ _ _ => b
  | _ => []
noncomputable def defScope (s : Stmt) : Scope := match s with
  | .FunctionDef _ _ _ _ _ _ sc _ _ _ => sc
  | _ => { kind := .function, names := [], isGenerator := false, isCoroutine := false }
noncomputable abbrev CX0 : CXT := fun _ _ _ _ _ _ => False
noncomputable abbrev E0 : XK := fun _ _ _ => False
theorem pass0 {X : Cx} : Passes CX0 X E0 := fun _ _ _ _ _ _ _ h => h.elim
structure Fun (K : PySem.W.Frag) (x qual : Str) (st : Stmt) (f : Addr) (fd : FuncData) : Prop where
  ex : ∃ (oc : Value) (od : Option Addr) (kV doc pm : Value) (an : Option Addr) (cdv ct : Value) (osl : Array (Option Value)),
    fd = PySem.W.fnOf x qual (defArgs st) (defBody st) (defScope st) .none kV doc pm an cdv ct ∧ K.lookup f = some ⟨oc, od, .func fd, osl⟩ ∧ PySem.W.codeIn K cdv qual = true
  kp : PySem.W.keepIn K (.ref f) = true
section
variable {P : Program} {w : World} {K : PySem.W.Frag} {mg : Str → Option Value} {base : Heap}
theorem Fun.ok {x qual : Str} {st : Stmt} {f : Addr} {fd : FuncData} {N ps : List Str} {k : Nat} {sp : Sp} (F : Fun K x qual st f fd) (S : FnScope N ps (defScope st)) (len : ∀ vs H Q E, sp vs H Q E → vs.length = ps.length)
    (hbody : ∀ (cdv : Value) (A : Around) (outer : List Env) (s : Shared) (H : Hp) (vs : List V) (Q : VK) (E : XK), Room k (A.deeper (envOfC qual (defScope st) s.heap.objs.size f cdv)) → sp vs H Q E →
      ∃ t, PSs (cxOf CX0 P w K mg base N qual (defScope st) f cdv A outer s H E).nox (defBody st) t ∧ t { nx := fun _ H' => Q .non H', rt := Q } (start N vs) H) : FnOk P w K mg base CX0 (k + 1) f fd ps sp := by
  obtain ⟨oc, od, kV, doc, pm, an, cdv, ct, osl, rfl, lk, hcd⟩ := F.ex
  refine fn_of lk hcd S len fun A outer s H vs Q E hr hsp => ?_
  obtain ⟨t, h, q⟩ := hbody cdv A outer s H vs Q E hr hsp
  exact ⟨t, h.nox, q⟩
theorem Fun.binds {x qual : Str} {st : Stmt} {f : Addr} {fd : FuncData} {ps : List Str} (F : Fun K x qual st f fd)
    (h : ∀ (kV doc pm : Value) (an : Option Addr) (cdv ct : Value) (us : List Value), us.length = ps.length → bindArgs (PySem.W.fnOf x qual (defArgs st) (defBody st) (defScope st) .none kV doc pm an cdv ct) ⟨us, []⟩ = pure (ps.zip us)) : Binds K fd ps [] := by
  obtain ⟨oc, od, kV, doc, pm, an, cdv, ct, osl, rfl, lk, hcd⟩ := F.ex
  exact .all (h kV doc pm an cdv ct)
theorem fun_mk {x qual : Str} {st : Stmt} {f : Addr} {oc : Value} {od an : Option Addr} {osl : Array (Option Value)} {kV doc pm cdv ct : Value} (l : K.lookup f = some ⟨oc, od, .func (PySem.W.fnOf x qual (defArgs st) (defBody st) (defScope st) .none kV doc pm an cdv ct), osl⟩)
    (c : PySem.W.codeIn K cdv qual = true) (k : PySem.W.keepIn K (.ref f) = true) : Fun K x qual st f (PySem.W.fnOf x qual (defArgs st) (defBody st) (defScope st) .none kV doc pm an cdv ct) := ⟨⟨oc, od, kV, doc, pm, an, cdv, ct, osl, rfl, l, c⟩, k⟩
end
theorem hu_of {A : Around} {k : Nat} (hr : Room k A) : A.units + 1 < cLine := Nat.lt_of_le_of_lt (Nat.add_le_add_left (by decide : 1 ≤ 64) _) hr.units
section
variable {X : Cx}
end
noncomputable def Same (H H' : Hp) : Prop := ∀ b o, H b = some o → H' b = some o
theorem Same.refl (H : Hp) : Same H H := fun _ _ h => h
theorem Same.trans {H H1 H2 : Hp} (a : Same H H1) (b : Same H1 H2) : Same H H2 := fun c o h => b c o (a c o h)
theorem Same.free {H H' : Hp} (e : Same H H') {l : Addr} (h : H' l = Option.none) : H l = Option.none := by
  cases q : H l with
  | none => rfl
  | some o =>
    rw [e l o q] at h
    cases h
theorem Same.seq {K : PySem.W.Frag} {H H' : Hp} {a : Addr} {xs : List V} (e : Same H H') (h : SqL K H a xs) : SqL K H' a xs := by
  rcases h with (h | ⟨o, h⟩) | h
  · exact .inl (.inl (e _ _ h))
  · exact .inl (.inr ⟨o, e _ _ h⟩)
  · exact .inr h
end L2
namespace L2
open PySem PySem.Spec PyProof.Rows
section
variable {X : Cx}
end
section
variable {κ : Type} [DecidableEq κ]
end
end L2
set_option maxHeartbeats 4000000
namespace L2
open PySem PySem.Spec PyProof.Rows
noncomputable abbrev runIfs (ifs : List Expr) (env : Env) : Sem Bool :=
  forIn ifs true fun c r => if r = true then do let ok ← isTrue c env (eval c env); pure (ForInStep.yield ok) else pure (ForInStep.yield r)
theorem comp_loop {prog : Program} {w : World} {A : Around} {R : Result → Shared → Prop} {s : Shared} {elt tg iter : Expr} {ifs : List Expr} {scope : Scope} {pos : Pos} {it acc : Value} {env : Env} (I : Nat → Shared → Prop)
    (turn : ∀ n s, I n s → wpAny (model prog w) A (pyNext it) (fun r s1 => match r with
      | none => R (.ok .next) s1
      | some v => wpAny (model prog w) A (letOwnedTupleGo tg it v) (fun _ s2 => wpAny (model prog w) A (assign tg env v) (fun _ s3 => wpAny (model prog w) A (runIfs ifs env) (fun ok s4 =>
          if ok = true then wpAny (model prog w) A (eval elt env) (fun x s5 => wpAny (model prog w) A (call (.builtin "list.append") [acc, x]) (fun _ s6 => ∃ m, m < n ∧ I m s6) (fun _ _ => False) s5) (fun _ _ => False) s4
          else ∃ m, m < n ∧ I m s4) (fun _ _ => False) s3) (fun _ _ => False) s2) (fun _ _ => False) s1) (fun _ _ => False) s)
    (n : Nat) (h : I n s) : codeAny (model prog w) A (.compLoop (.ListComp elt [⟨tg, iter, ifs, 0⟩] scope pos) 0 it acc env) R s := by
  refine codeAny_loop rfl I (fun n s hI => ?_) n h
  show wpAny _ A ((compTurn (.ListComp elt [⟨tg, iter, ifs, 0⟩] scope pos) 0 it acc env).onRaise (fun x => do noteFrame x env; theTreesLotGoes x)) _ _ s
  refine wpAny_noted (wpAny_noRaise ?_)
  rw [compTurn_list]
  refine wpAny_bind (wpAny_standAt (wpAny_bind (thn (turn n s hI) fun r s1 h1 => ?_)))
  cases r with
  | none => exact wpAny_pure h1
  | some v =>
    refine wpAny_bind (thn h1 fun _ s2 h2 => wpAny_bind (thn h2 fun _ s3 h3 => wpAny_bind (thn h3 fun ok s4 h4 => ?_)))
    cases ok with
    | false => exact wpAny_pure ⟨rfl, h4⟩
    | true => exact wpAny_bind (wpAny_bind (thn h4 fun x s5 h5 => wpAny_bind (thn h5 fun _ s6 h6 => wpAny_pure (wpAny_pure ⟨rfl, h6⟩))))
theorem closure_go (env : Env) : ∀ (names : List (Str × NameKind)) (cs : List (Str × Addr)), (∀ n, (n, NameKind.free) ∈ names → ∃ c, env.cells.lookup n = some c) → (∀ n c, cs.lookup n = some c → env.cells.lookup n = some c) →
    ∃ cl, (forIn names cs fun (p : Str × NameKind) (r : List (Str × Addr)) => (if p.2 == NameKind.free then do let c ← cellOf env p.1; pure (ForInStep.yield ((p.1, c) :: r)) else pure (ForInStep.yield r) : Sem (ForInStep (List (Str × Addr))))) = pure cl ∧
      (∀ n c, cl.lookup n = some c → env.cells.lookup n = some c) ∧ (∀ n, ((n, NameKind.free) ∈ names ∨ ∃ c, cs.lookup n = some c) → ∃ c, cl.lookup n = some c)
  | [], cs, _, hcs => ⟨cs, rfl, hcs, fun n h => h.elim (fun z => nomatch z) id⟩
  | (m, k) :: r, cs, hn, hcs => by
    cases hk : k == NameKind.free with
    | false =>
      obtain ⟨cl, e, h1, h2⟩ := closure_go env r cs (fun n z => hn n (List.mem_cons_of_mem _ z)) hcs
      refine ⟨cl, ?_, h1, fun n z => h2 n ?_⟩
      · rw [List.forIn_cons]; simp only [hk]; exact e
      · rcases z with z | z
        · rcases List.mem_cons.mp z with q | q
          · cases q; simp at hk
          · exact .inl q
        · exact .inr z
    | true =>
      have ek : k = NameKind.free := by simpa using hk
      subst ek
      obtain ⟨c, hc⟩ := hn m List.mem_cons_self
      obtain ⟨cl, e, h1, h2⟩ := closure_go env r ((m, c) :: cs) (fun n z => hn n (List.mem_cons_of_mem _ z)) (fun n c' z => by
        by_cases q : n = m
        · subst q; simp [List.lookup_cons] at z; subst z; exact hc
        · rw [List.lookup_cons, beq_eq_false_iff_ne.mpr q] at z; exact hcs n c' z)
      refine ⟨cl, ?_, h1, fun n z => h2 n ?_⟩
      · rw [List.forIn_cons]; simp only [cellOf, hc]; exact e
      · rcases z with z | ⟨c', z⟩
        · rcases List.mem_cons.mp z with q | q
          · cases q; exact .inr ⟨c, by simp [List.lookup_cons]⟩
          · exact .inl q
        · by_cases q : n = m
          · subst q; exact .inr ⟨c, by simp [List.lookup_cons]⟩
          · exact .inr ⟨c', by rw [List.lookup_cons, beq_eq_false_iff_ne.mpr q]; exact z⟩
theorem closure_of {scope : Scope} {env : Env} (hn : ∀ n, (n, NameKind.free) ∈ scope.names → ∃ c, env.cells.lookup n = some c) :
    ∃ cl, closureFor scope env = pure cl ∧ (∀ n c, cl.lookup n = some c → env.cells.lookup n = some c) ∧ (∀ n, (n, NameKind.free) ∈ scope.names → ∃ c, cl.lookup n = some c) := by
  obtain ⟨cl, e, h1, h2⟩ := closure_go env scope.names [] hn (fun _ _ z => nomatch z)
  refine ⟨cl, ?_, h1, fun n z => h2 n (.inl z)⟩
  unfold closureFor
  simp only [bind_pure]
  exact e
end L2
set_option maxHeartbeats 4000000
namespace L2
open PySem PySem.Spec PyProof.Rows
noncomputable def relNames (names onames : List (Str × NameKind)) : List (Str × NameKind) :=
  names.map fun (n, k) => if (k == .free && onames.lookup n == some .cell) then (n, .cell) else (n, k)
noncomputable def compOk (sc osc : Scope) (N rest : List Str) : Bool :=
  (sc.kind == .function && osc.kind == .function && sc.names.all fun y => y.2 != .cell && (y.2 != .local || sc.names.lookup y.1 == some .local) && (y.2 != .free || osc.names.lookup y.1 == some .cell || osc.names.lookup y.1 == some .free))
  && N.length == rest.length && (N.zip rest).all fun p => match (relNames sc.names osc.names).lookup p.2 with
    | some .local => false
    | some .cell => p.1 == p.2 && (p.2, NameKind.free) ∈ sc.names && (osc.names.lookup p.2 == some .cell || osc.names.lookup p.2 == some .free)
    | some .free => p.1 == p.2 && (p.2, NameKind.free) ∈ sc.names && (osc.names.lookup p.2 == some .cell || osc.names.lookup p.2 == some .free)
    | _ => true
structure CompSc (sc osc : Scope) (N rest : List Str) : Prop where
  kind : sc.kind = .function
  okind : osc.kind = .function
  cell : ∀ y ∈ sc.names, y.2 ≠ .cell
  loc : ∀ y ∈ sc.names, y.2 = .local → sc.names.lookup y.1 = some .local
  free : ∀ n, (n, NameKind.free) ∈ sc.names → osc.names.lookup n = some .cell ∨ osc.names.lookup n = some .free
  len : N.length = rest.length
  look : ∀ (i : Nat) x, rest[i]? = some x → ((relNames sc.names osc.names).lookup x = some .local ∨ (relNames sc.names osc.names).lookup x = some .cell ∨ (relNames sc.names osc.names).lookup x = some .free) →
    N[i]? = some x ∧ (x, NameKind.free) ∈ sc.names ∧ (osc.names.lookup x = some .cell ∨ osc.names.lookup x = some .free) ∧ ((relNames sc.names osc.names).lookup x = some .cell ∨ (relNames sc.names osc.names).lookup x = some .free)
theorem compOk_is {sc osc : Scope} {N rest : List Str} (h : compOk sc osc N rest = true) : CompSc sc osc N rest := by
  unfold compOk at h
  simp only [Bool.and_eq_true, beq_iff_eq, List.all_eq_true] at h
  obtain ⟨⟨⟨⟨hk, hok⟩, hy⟩, hl⟩, hz⟩ := h
  refine ⟨hk, hok, fun y z e => ?_, fun y z e => ?_, fun n z => ?_, hl, fun i x e v => ?_⟩
  · have := (hy y z).1.1; rw [e] at this; simp at this
  · have := (hy y z).1.2; rw [e] at this; simpa using this
  · have := (hy _ z).2; simpa using this
  · have hi : i < rest.length := (List.getElem?_eq_some_iff.mp e).1
    have hi' : i < N.length := by omega
    have hN : N[i]? = some N[i] := List.getElem?_eq_getElem hi'
    have hm : (N[i], x) ∈ N.zip rest := by
      refine List.mem_of_getElem? (i := i) ?_
      rw [List.getElem?_zip_eq_some]; exact ⟨hN, e⟩
    have q := hz _ hm
    dsimp only at q
    rcases v with v | v | v
    · rw [v] at q; simp at q
    · rw [v] at q; simp only [Bool.and_eq_true, beq_iff_eq, Bool.or_eq_true, decide_eq_true_eq] at q
      obtain ⟨⟨q1, q2⟩, q3⟩ := q
      exact ⟨by rw [hN, q1], q2, q3, .inl v⟩
    · rw [v] at q; simp only [Bool.and_eq_true, beq_iff_eq, Bool.or_eq_true, decide_eq_true_eq] at q
      obtain ⟨⟨q1, q2⟩, q3⟩ := q
      exact ⟨by rw [hN, q1], q2, q3, .inr v⟩
theorem relabel_names {sc : Scope} {env : Env} (hk : env.scope.kind = .function) : (relabel sc env).names = relNames sc.names env.scope.names := by
  unfold relabel relNames Env.kindOf
  simp [hk]
theorem rel_free {names onames : List (Str × NameKind)} (hc : ∀ y ∈ names, y.2 ≠ .cell) {x : Str} (h : (relNames names onames).lookup x = some .cell ∨ (relNames names onames).lookup x = some .free) : (x, NameKind.free) ∈ names := by
  have hm : (x, NameKind.cell) ∈ relNames names onames ∨ (x, NameKind.free) ∈ relNames names onames := h.imp PySem.mem_of_lookup PySem.mem_of_lookup
  rcases hm with hm | hm
  · obtain ⟨⟨n, k⟩, hn, e⟩ := List.mem_map.mp hm
    dsimp only at e
    split at e
    · rename_i hh; cases e; simp at hh; obtain ⟨rfl, _⟩ := hh; exact hn
    · cases e; exact absurd rfl (hc _ hn)
  · obtain ⟨⟨n, k⟩, hn, e⟩ := List.mem_map.mp hm
    dsimp only at e
    split at e
    · cases e
    · cases e; exact hn
noncomputable def compCx (X : Cx) (scope : Scope) (N' : List Str) (cl : List (Str × Addr)) (s2 : Shared) (H2 : Hp) (C : Addr) (fp : List Addr) : Cx :=
  { X with N := N', s₀ := s2, H₀ := H2, env := compEnvC scope cl C X.env, outer := X.stack, stack := X.stack, ex := fp, fn := fun _ => false, pn := [], xe := fun _ _ => False }
section
variable {X : Cx} {pins : List (Addr × Obj)} {σ : St} {H2 : Hp} {s2 : Shared} {scope : Scope} {own rest : List Str} {cl : List (Str × Addr)} {fp : List Addr} {C : Addr}
theorem compCx_ok (I : Inv X pins σ H2 s2) (S : CompSc scope X.env.scope X.N rest) (h1 : ∀ n c, cl.lookup n = some c → X.env.cells.lookup n = some c) (h2 : ∀ n, (n, NameKind.free) ∈ scope.names → ∃ c, cl.lookup n = some c)
    (hC : s2.heap.objs.size ≤ C) (hf : ∀ b ∈ fp, FpOk X pins H2 b) (ho : ∀ b ∈ fp, ∃ o, s2.heap.get? b = some o) : (compCx X scope (own ++ rest) cl s2 H2 C fp).Ok where
  mod := I.ok.mod
  kind := S.kind
  glob := I.ok.glob
  blt := I.ok.blt
  above := hC
  inj := fun x y c e1 e2 => I.ok.inj x y c (h1 x c e1) (h1 y c e2)
  has := fun x hx => h2 x (rel_free S.cell (by
    have e : (compCx X scope (own ++ rest) cl s2 H2 C fp).env.kindOf x = (relNames scope.names X.env.scope.names).lookup x := congrArg (List.lookup x) (relabel_names (sc := scope) I.ok.kind)
    rw [e] at hx; exact hx))
  cab := fun _ _ z => nomatch z
  hd := I.ok.hd
  frames := I.ok.frames
  stk := .inl rfl
  exf := fun b hb => by
    obtain ⟨o, e⟩ := ho b hb
    exact ⟨Nat.ne_of_lt (Nat.lt_of_lt_of_le (Heap.lt_size e) hC), fun x c e => (hf b hb).2.2.2.2.1 x c (h1 x c e)⟩
  bs := I.bs
  bsz := Nat.le_trans I.ok.bsz I.sz
  noex := fun b o e hb => by
    rcases (hf b hb).2.2.2.1 with z | z
    · exact I.ok.noex b o e z
    · exact absurd (Nat.lt_of_lt_of_le (Heap.lt_size e) (Nat.le_trans I.ok.bsz z)) (Nat.lt_irrefl _)
  exfs := fun b hb z => by
    rcases List.mem_cons.mp (I.stkSub b z) with q | q
    · exact (hf b hb).2.1 q
    · exact (hf b hb).2.2.1 q
  funs := I.stack
  frf := I.stkFree
theorem comp_start {h1 : Heap} {t1 : Nat} (I : Inv X pins σ H2 s2) (S : CompSc scope X.env.scope X.N rest) (hc1 : ∀ n c, cl.lookup n = some c → X.env.cells.lookup n = some c) (hc2 : ∀ n, (n, NameKind.free) ∈ scope.names → ∃ c, cl.lookup n = some c)
    (hC : s2.heap.objs.size ≤ C) (hf : ∀ b ∈ fp, FpOk X pins H2 b) (ho : ∀ b ∈ fp, ∃ o, s2.heap.get? b = some o)
    (old : ∀ b o, s2.heap.get? b = some o → h1.get? b = some o) (ns : h1.Ns C fun _ => none) :
    Inv (compCx X scope (own ++ rest) cl s2 H2 C fp) [] (List.replicate own.length none ++ σ) H2 { s2 with heap := h1, toks := t1 } := by
  obtain ⟨m, hn, hl⟩ := id I.loc
  have hv : ∀ x, Vis (compCx X scope (own ++ rest) cl s2 H2 C fp).env.scope x → ((relNames scope.names X.env.scope.names).lookup x = some .local ∨ (relNames scope.names X.env.scope.names).lookup x = some .cell ∨ (relNames scope.names X.env.scope.names).lookup x = some .free) := fun x z => by
    have e : (compCx X scope (own ++ rest) cl s2 H2 C fp).env.scope.names = relNames scope.names X.env.scope.names := relabel_names (sc := scope) I.ok.kind
    unfold Vis at z; rw [e] at z; exact z
  refine ⟨compCx_ok I S hc1 hc2 hC hf ho, rfl, I.bare, Un.kept old, ⟨_, ns, fun i x v e1 e2 e3 => ?_⟩, fun x c e => ?_, I.hok.fresh hC, fun x c e => I.freeC x c (hc1 x c e), fun p hp => absurd (show p ∈ ([] : List (Addr × Obj)) from hp) (by simp), I.hok.kept old, ?_⟩
  · have e1' : (own ++ rest)[i]? = some x := e1
    by_cases hi : i < own.length
    · rw [List.getElem?_append_left (by simpa using hi), List.getElem?_replicate] at e2
      split at e2 <;> cases e2
    · have hi' : own.length ≤ i := Nat.le_of_not_lt hi
      rw [List.getElem?_append_right (by simpa using hi'), List.length_replicate] at e2
      rw [List.getElem?_append_right hi'] at e1'
      obtain ⟨q1, q2, q3, q4⟩ := S.look _ x e1' (hv x e3)
      obtain ⟨u, r, l⟩ := hl (i - own.length) x v q1 e2 (q3.elim (fun z => .inr (.inl z)) fun z => .inr (.inr z))
      refine ⟨u, r, .inr ⟨?_, ?_⟩⟩
      · have e : (compCx X scope (own ++ rest) cl s2 H2 C fp).env.kindOf x = (relNames scope.names X.env.scope.names).lookup x := congrArg (List.lookup x) (relabel_names (sc := scope) I.ok.kind)
        rw [e]; exact q4
      · rcases l with ⟨k, _⟩ | ⟨_, c, e, z⟩
        · have k' : X.env.scope.names.lookup x = some .local := k
          rcases q3 with q3 | q3 <;> (rw [q3] at k'; cases k')
        · obtain ⟨c', e'⟩ := hc2 x q2
          have e2 := hc1 x c' e'
          rw [e] at e2; cases e2
          obtain ⟨o, q, d⟩ := z
          exact ⟨c, e', o, old c o q, d⟩
  · obtain ⟨v, o, q, d⟩ := I.cell x c (hc1 x c e)
    exact ⟨v, o, old c o q, d⟩
  · show _ = (own ++ rest).length
    have := I.len; have := S.len
    simp only [List.length_append, List.length_replicate]; omega
theorem comp_end {H' : Hp} {s' : Shared} {σ' : St} {D : Addr} {ys : List V} {its : List Value} {n : Nat} {pins' : List (Addr × Obj)} (I : Inv X pins σ H2 s2) (J : Inv (compCx X scope (own ++ rest) cl s2 H2 C fp) pins' σ' H' s') (hf : ∀ b ∈ fp, FpOk X pins H2 b)
    (hD : s2.heap.objs.size ≤ D) (hDn : H' D = none) (hDo : s'.heap.get? D = some { cls := .type "list", data := .seq its.toArray n }) (r : Vals ys its) (hz : ys.length ≤ sizeLine) :
    Inv X pins σ (upd H' D (.lst ys)) s' := by
  have u : Un (frs X.stack) fp H2 H' s2.heap s'.heap := J.base
  have nD : ∀ b o, s2.heap.get? b = some o → b ≠ D := fun b o e => Nat.ne_of_lt (Nat.lt_of_lt_of_le (Heap.lt_size e) hD)
  refine I.call' (ch := fp) J.os ⟨u.keep, u.slot, fun b o e n hx => ?_, u.there, fun b xs e => ?_, fun b o v e => ?_, fun b ps e => ?_⟩ (fun b o e => ?_) J.bare fun b hb => ?_
  · rw [upd_ne (nD b o e)]; exact u.free b o e n hx
  · rw [upd_ne (ne_of_none (u.tups b xs e) hDn)]; exact u.tups b xs e
  · rw [upd_ne (ne_of_none (u.frzs b o v e) hDn)]; exact u.frzs b o v e
  · obtain ⟨more, q⟩ := u.tbls b ps e
    exact ⟨more, by rw [upd_ne (ne_of_none q hDn)]; exact q⟩
  · by_cases hb : b = D
    · subst hb; rw [upd_same] at e; cases e; exact ⟨hz, its, n, r, hDo⟩
    · rw [upd_ne hb] at e
      exact (J.hok b o e).stay (fun c v _ q => q) (fun c q => by rw [upd_ne (ne_of_none q hDn)]; exact q) fun c xs q => by rw [upd_ne (ne_of_none q hDn)]; exact q
  · obtain ⟨_, f1, _, f3, f4, f5⟩ := hf b hb
    exact ⟨f3, f1, f4, f5⟩
end
end L2
set_option maxHeartbeats 4000000
namespace L2
open PySem PySem.Spec PyProof.Rows
noncomputable def PTs (X : Cx) (ifs : List Expr) (t : TT) : Prop :=
  ∀ (pins : List (Addr × Obj)) (s : Shared) (σ : St) (H : Hp) (Q : Bool → Hp → Prop), Inv X pins σ H s → t σ H Q → wpAny (model X.prog X.w) X.A (runIfs ifs X.env) (TP X pins σ Q) X.xe s
noncomputable def tYes : TT := fun _ H Q => Q true H
theorem pts_nil {X : Cx} : PTs X [] tYes := fun _ _ _ H _ I h => wpAny_tests_nil ⟨H, I, h⟩
theorem pts_one {X : Cx} {c : Expr} {t : TT} (h : PT X c t) : PTs X [c] t := fun pins s σ H Q I q => wpAny_tests_one (h pins s σ H Q I q)
noncomputable def CompW (J : It) (g : TG) (tt : TT) (te : TE) (fin : List V → Hp → Prop) (σ0 : St) (H1 : Hp) : Prop :=
  ∃ W : Nat → Nat → List V → St → Hp → Prop, (∃ m, W 0 m [] σ0 H1) ∧ ∀ i m ys σ H, W i m ys σ H →
    (J.stop i H ∧ fin ys H) ∨ (J.go i H ∧ ys.length < sizeLine ∧ ∃ N : List V → St → Hp → Prop, (∀ ys' σ' H', N ys' σ' H' → ∃ m', m' < m ∧ W (i + 1) m' ys' σ' H') ∧
      ∀ x H', J.yld i H x H' → g x σ H' fun σ2 H2 => tt σ2 H2 fun b H3 => if b = true then te σ2 H3 fun y H4 => N (ys ++ [y]) σ2 H4 else N ys σ2 H3)
section
variable {X : Cx} {pins : List (Addr × Obj)} {σ : St} {H2 : Hp} {s2 : Shared} {scope : Scope} {own rest : List Str} {cl : List (Str × Addr)} {fp : List Addr} {E : Value → Shared → Prop}
theorem comp_run {elt tg iter : Expr} {ifs : List Expr} {pos : Pos} {J : It} {it : Addr} {tn : Nat → Heap → Prop} {g : TG} {tt : TT} {te : TE} {fin : List V → Hp → Prop} {RR : Value → Addr → Result → Shared → Prop} {D : Nat} (hD : s2.heap.objs.size = D) (hcalm : X.calm = true)
    (I : Inv X pins σ H2 s2) (S : CompSc scope X.env.scope X.N rest) (hc1 : ∀ n c, cl.lookup n = some c → X.env.cells.lookup n = some c) (hc2 : ∀ n, (n, NameKind.free) ∈ scope.names → ∃ c, cl.lookup n = some c)
    (T : Turn X.prog X.w X.K tg J fp it tn) (st : tn 0 s2.heap) (hf : ∀ b ∈ fp, FpOk X pins H2 b)
    (hg : PG (compCx X scope (own ++ rest) cl s2 H2 (D + 1 : Nat) fp) tg g) (ht : PTs (compCx X scope (own ++ rest) cl s2 H2 (D + 1 : Nat) fp) ifs tt)
    (he : PE (compCx X scope (own ++ rest) cl s2 H2 (D + 1 : Nat) fp) elt te)
    (hw : CompW J g tt te fin (List.replicate own.length none ++ σ) H2)
    (hR : ∀ (s' : Shared) (H' : Hp) (ys : List V), Inv X pins σ (upd H' D (.lst ys)) s' → (∃ m, s'.heap.Ns (D + 1 : Nat) m) → H' D = none → H' (D + 1 : Nat) = none → fin ys H' → RR (.ref D) (D + 1 : Nat) (.ok .next) s') :
    wpAny (model X.prog X.w) X.A (newList []) (fun acc s3 => wpAny (model X.prog X.w) X.A (newFunctionEnv scope X.env.globals cl [] X.env.qual none .none (some X.env)) (fun cenv s4 =>
      codeAny (model X.prog X.w) X.A (.compStart (.ListComp elt [⟨tg, iter, ifs, 0⟩] scope pos) 0 (.ref it) acc { cenv with scope := relabel scope X.env }) (RR acc cenv.locals) s4) E s3) E s2 := by
  refine wpAny_newObj_type (wpAny_newFunctionEnv S.cell (by intro y hy; simp at hy) (fun h1 hns hsb => ?_) S.kind)
  dsimp only at hns hsb ⊢
  generalize hHp : s2.heap.push { cls := .type "list", dict := none, data := .seq ([] : List Value).toArray } = Hp2 at hns hsb ⊢
  have hC : Hp2.objs.size = s2.heap.objs.size + 1 := by rw [← hHp, Heap.size_push]
  rw [hD] at hC
  rw [hC] at hns hsb ⊢
  rw [hD]
  have nDC : D ≠ D + 1 := Nat.ne_of_lt (Nat.lt_succ_self _)
  have below : ∀ b o, s2.heap.get? b = some o → b < D := fun b o e => by rw [← hD]; exact Heap.lt_size e
  have old : ∀ b o, s2.heap.get? b = some o → h1.get? b = some o := fun b o e => by
    exact hsb.extBut b o (Nat.ne_of_lt (Nat.lt_succ_of_lt (below b o e))) (Heap.get?_push_of_some _ (hHp ▸ Heap.get?_push_of_some _ e))
  have hDo : h1.get? D = some { cls := .type "list", data := .seq ([] : List Value).toArray 0 } :=
    hsb.extBut _ _ nDC (Heap.get?_push_of_some _ (by rw [← hHp, ← hD]; exact Heap.get?_push_size _ rfl))
  have hfo : ∀ b ∈ fp, ∃ o, s2.heap.get? b = some o := fun b hb => let ⟨o, e, _⟩ := T.obj 0 _ st b hb; ⟨o, e⟩
  have st1 : tn 0 h1 := T.keep _ _ _ st fun b hb o e => old b o e
  have J0 : Inv (compCx X scope (own ++ rest) cl s2 H2 (D + 1 : Nat) fp) [] (List.replicate own.length none ++ σ) H2 { s2 with heap := h1, toks := s2.toks } :=
    comp_start I S hc1 hc2 (by omega) hf hfo old hns
  have nfs : D ∉ (compCx X scope (own ++ rest) cl s2 H2 (D + 1 : Nat) fp).fs := fun z => by
    have z' : D ∈ frs X.stack := z
    rcases List.mem_cons.mp (I.stkSub D z') with q | q
    · exact Nat.lt_irrefl D (by have h := I.lt; rw [← q, hD] at h; exact h)
    · exact I.nofs (Nat.le_of_eq hD) q
  have ncl : ∀ x c, (compCx X scope (own ++ rest) cl s2 H2 (D + 1 : Nat) fp).env.cells.lookup x = some c → c ≠ D := fun x c e z => by
    obtain ⟨v, o, q, d⟩ := I.cell x c (hc1 x c e)
    exact Nat.ne_of_lt (below c o q) z
  have loop : ∀ s3 : Shared, s3 = { s2 with heap := h1, toks := s2.toks } →
      codeAny (model X.prog X.w) X.A (.compLoop (.ListComp elt [⟨tg, iter, ifs, 0⟩] scope pos) 0 (.ref it) (.ref D) (compEnvC scope cl (D + 1) X.env)) (RR (.ref D) (D + 1)) s3 := by
    rintro s3 rfl
    obtain ⟨W, ⟨m0, w0⟩, turn⟩ := hw
    refine comp_loop (fun m s' => ∃ (i : Nat) (ys : List V) (its : List Value) (n : Nat) (σ' : St) (H' : Hp), Inv (compCx X scope (own ++ rest) cl s2 H2 (D + 1 : Nat) fp) [] σ' H' s' ∧ tn i s'.heap ∧ (∀ b ∈ fp, H' b = none) ∧
      s'.heap.get? D = some { cls := .type "list", data := .seq its.toArray n } ∧ H' D = none ∧ Vals ys its ∧ ys.length ≤ sizeLine ∧ W i m ys σ' H') ?_ m0
      ⟨0, [], [], 0, _, H2, J0, st1, fun b hb => (hf b hb).1, hDo, by rw [← hD]; exact I.fresh, .nil, by simp, w0⟩
    rintro m s3 ⟨i, ys, its, n, σ3, H3, J3, st3, fr3, ho3, hn3, r3, z3, w3⟩
    have pin : ∀ {σ' : St} {H' : Hp} {s' : Shared}, Inv (compCx X scope (own ++ rest) cl s2 H2 (D + 1 : Nat) fp) [] σ' H' s' → s'.heap.get? D = some { cls := .type "list", data := .seq its.toArray n } → H' D = none →
        Inv (compCx X scope (own ++ rest) cl s2 H2 (D + 1 : Nat) fp) [(D, { cls := .type "list", data := .seq its.toArray n })] σ' H' s' := fun {σ' H' s'} K1 K2 K3 =>
      K1.pins_of fun p hp => by
        have e : p = (D, { cls := .type "list", data := .seq its.toArray n }) := by simpa using hp
        subst e
        exact ⟨K2, K3, nDC, nfs, fun v z => nomatch z⟩
    have fpk : ∀ {H' : Hp}, (∀ b ∈ fp, H' b = none) → ∀ b ∈ fp, FpOk (compCx X scope (own ++ rest) cl s2 H2 (D + 1 : Nat) fp) [(D, { cls := .type "list", data := .seq its.toArray n })] H' b := fun {H'} fr b hb => by
      obtain ⟨o, e⟩ := hfo b hb
      have lt := below b o e
      refine ⟨fr b hb, Nat.ne_of_lt (Nat.lt_succ_of_lt lt), ?_, .inl hb, fun x c q => (hf b hb).2.2.2.2.1 x c (hc1 x c q), fun p hp => ?_⟩
      · intro z
        have z' : b ∈ frs X.stack := z
        rcases List.mem_cons.mp (I.stkSub b z') with q | q
        · exact (hf b hb).2.1 q
        · exact (hf b hb).2.2.1 q
      · have e : p = (D, { cls := .type "list", data := .seq its.toArray n }) := by
          have hp' : p ∈ [(D, ({ cls := .type "list", data := .seq its.toArray n } : Obj))] := hp
          simpa using hp'
        subst e
        exact Nat.ne_of_gt lt
    have J3p := pin J3 ho3 hn3
    rcases turn i m ys σ3 H3 w3 with ⟨stop, q⟩ | ⟨go, hlt, N, hN, step⟩
    · refine thn (T.done (compCx X scope (own ++ rest) cl s2 H2 (D + 1 : Nat) fp) rfl rfl rfl hcalm i _ s3 σ3 H3 _ J3p (fpk fr3) st3 stop) fun r s4 ⟨hr, J4⟩ => ?_
      subst hr
      have ho4 := J4.pin _ (List.mem_append_right _ List.mem_cons_self)
      refine hR s4 H3 ys (comp_end I J4 hf (by omega) hn3 ho4.1 r3 z3) ?_ hn3 J4.free q
      obtain ⟨mm, hmm, _⟩ := J4.loc
      exact ⟨mm, hmm⟩
    · refine thn (T.item (compCx X scope (own ++ rest) cl s2 H2 (D + 1 : Nat) fp) rfl rfl rfl hcalm i _ s3 σ3 H3 _ J3p (fpk fr3) st3 go) fun r s4 ⟨u, hr, h4⟩ => ?_
      subst hr
      refine thn h4 fun _ s5 ⟨x, H5, J5, r5, y5, st5, fr5⟩ => ?_
      have J5' := J5.pinned (fpk fr5) (T.obj _ _ st5)
      refine thn (hg _ s5 σ3 H5 x u _ J5' r5 (step x H5 y5)) fun _ s6 ⟨σ6, H6, J6, q6⟩ => ?_
      refine thn (ht _ s6 σ6 H6 _ J6 q6) fun b s7 ⟨H7, J7, q7⟩ => ?_
      have stay : ∀ {σ' : St} {H' : Hp} {s' : Shared}, Inv (compCx X scope (own ++ rest) cl s2 H2 (D + 1 : Nat) fp) ([(D, { cls := .type "list", data := .seq its.toArray n })] ++ pinsAt fp s5.heap) σ' H' s' →
          Inv (compCx X scope (own ++ rest) cl s2 H2 (D + 1 : Nat) fp) [] σ' H' s' ∧ tn (i + 1) s'.heap ∧ (∀ b ∈ fp, H' b = none) ∧ s'.heap.get? D = some { cls := .type "list", data := .seq its.toArray n } ∧ H' D = none := fun {σ' H' s'} K1 => by
        refine ⟨K1.pins_of fun p hp => absurd hp (by simp), T.keep _ _ _ st5 fun b hb o e => (K1.pin (b, o) (List.mem_append_right _ (List.mem_append_right _ (mem_pinsAt hb e)))).1, fun b hb => ?_, ?_, ?_⟩
        · obtain ⟨o, e, d⟩ := T.obj _ _ st5 b hb
          exact (K1.pin (b, o) (List.mem_append_right _ (List.mem_append_right _ (mem_pinsAt hb e)))).2.1
        · exact (K1.pin (D, _) (List.mem_append_right _ (List.mem_append_left _ List.mem_cons_self))).1
        · exact (K1.pin (D, _) (List.mem_append_right _ (List.mem_append_left _ List.mem_cons_self))).2.1
      cases b with
      | false =>
        rw [if_neg Bool.false_ne_true] at q7 ⊢
        obtain ⟨k1, k2, k3, k4, k5⟩ := stay J7
        obtain ⟨m', hm, w'⟩ := hN _ _ _ q7
        exact ⟨m', hm, i + 1, ys, its, n, σ6, H7, k1, k2, k3, k4, k5, r3, z3, w'⟩
      | true =>
        rw [if_pos rfl] at q7 ⊢
        refine thn (he _ s7 σ6 H7 _ J7 q7) fun xv s8 ⟨y, H8, J8, r8, q8⟩ => ?_
        obtain ⟨k1, k2, k3, k4, k5⟩ := stay J8
        refine call_meets F.slot_list_append ⟨_, k4, rfl⟩ F.entry_list_append (F.args_list_append_2 _ _) (PySem.list_append D its.toArray n xv (by rw [List.size_toArray, ← r3.length]; omega)) ⟨k4, ?_⟩
        obtain ⟨m', hm, w'⟩ := hN _ _ _ q8
        have ho9 := PySem.IsL.update k4 (fun a => a.push xv)
        have ek : ∀ b o, b ≠ D → s8.heap.get? b = some o → (s8.heap.update D (Obj.mapSeq (fun a => a.push xv))).get? b = some o := fun b o hb e => (Heap.get?_update_other s8.heap (Obj.mapSeq _) (Ne.symm hb)).trans e
        refine ⟨m', hm, i + 1, ys ++ [y], its ++ [xv], (if ((its.toArray.push xv).size == its.toArray.size) = true then n else n + 1), σ6, H8, k1.turned (it := D) (t' := s8.toks) ek k5 nDC (.inr (show s2.heap.objs.size ≤ D by omega)) ncl (fun p hp => absurd (show p ∈ ([] : List (Addr × Obj)) from hp) (by simp)), ?_, k3, ?_, k5, r3.append (.cons r8 .nil), ?_, w'⟩
        · refine T.keep _ _ _ k2 fun b hb o e => ek b o ?_ e
          obtain ⟨o', e'⟩ := hfo b hb
          exact Nat.ne_of_lt (below b o' e')
        · have e2 : its.toArray.push xv = (its ++ [xv]).toArray := by simp
          rw [← e2]; exact ho9
        · simp only [List.length_append, List.length_cons, List.length_nil]; omega
  exact codeAny_compStart_list (loop _ rfl) (T.self X.A 0 _ _ _ st1 (loop _ rfl))
end
end L2
set_option maxHeartbeats 4000000
namespace L2
open PySem PySem.Spec PyProof.Rows
noncomputable def tComp (k : Nat) (wi : TI) (g : TG) (tt : TT) (te : TE) : TE := fun σ H Q => wi σ H fun J H1 => CompW J g tt te (fun ys H' => ∀ D, H' D = none → Q (.ref D) (upd H' D (.lst ys))) (List.replicate k none ++ σ) H1
section
variable {X : Cx} {elt tg iter : Expr} {ifs : List Expr} {scope : Scope} {pos : Pos} {wi : TI} {g : TG} {tt : TT} {te : TE}
theorem Inv.closed {pins : List (Addr × Obj)} {σ : St} {H : Hp} {s : Shared} {N rest : List Str} (I : Inv X pins σ H s) (S : CompSc scope X.env.scope N rest) :
    ∃ cl, closureFor scope X.env = pure cl ∧ (∀ n c, cl.lookup n = some c → X.env.cells.lookup n = some c) ∧ (∀ n, (n, NameKind.free) ∈ scope.names → ∃ c, cl.lookup n = some c) :=
  closure_of fun n z => I.ok.has n (S.free n z)
theorem Inv.letgo {pins pins' : List (Addr × Obj)} {σ σ' : St} {H H' : Hp} {s s' : Shared} {b : Addr} {h' : Heap} (I : Inv X pins σ H s) (J : Inv X pins σ' H' s') (hb : s.heap.objs.size ≤ b) (hn : H' b = none) (sb : Heap.SameBut b s'.heap h') : Inv X pins σ' H' { s' with heap := h' } := by
  obtain ⟨f0, f1, f2, f3, f4, f5⟩ := I.fpOk hb hn
  exact J.turned (t' := s'.toks) (fun c o hc e => (sb.2 c hc).trans e) f0 f1 f3 f4 f5
theorem pe_comp (own rest : List Str) (hcalm : X.calm = true) (S : CompSc scope X.env.scope X.N rest) (hi : PI X tg iter wi)
    (hg : ∀ cl s2 H2 C fp, PG (compCx X scope (own ++ rest) cl s2 H2 C fp) tg g) (ht : ∀ cl s2 H2 C fp, PTs (compCx X scope (own ++ rest) cl s2 H2 C fp) ifs tt) (he : ∀ cl s2 H2 C fp, PE (compCx X scope (own ++ rest) cl s2 H2 C fp) elt te)
    (hs : ∀ x, foldedSetIterable iter X.env x = pure x := by intro _; rfl) : PE X (.ListComp elt [⟨tg, iter, ifs, 0⟩] scope pos) (tComp own.length wi g tt te) := by
  intro pins s σ H Q I h
  obtain ⟨cl, hcl, hc1, hc2⟩ := I.closed S
  rw [eval_ListComp]
  refine wpAny_comprehension_free (use := none) rfl hs hcl S.kind S.loc (thn (hi pins s σ H _ I h) fun v s1 h1 => thn h1 fun itv s2 h2 => ?_)
  obtain ⟨it, fp, tn, J, H2, e, I2, T, st, hf, hw⟩ := h2
  subst e
  refine comp_run (RR := fun acc C => compPost (model X.prog X.w) X.A X.xe none (EP X pins σ Q) acc C) (D := s2.heap.objs.size) rfl hcalm I2 S hc1 hc2 T st hf (hg _ _ _ _ _) (ht _ _ _ _ _) (he _ _ _ _ _) hw ?_
  intro s' H' ys J' ⟨m, hm⟩ hD hC q
  refine ⟨m, hm, fun h' sb => ⟨.ref s2.heap.objs.size, _, I2.letgo (pins' := pins) (b := (s2.heap.objs.size + 1 : Nat)) J' (Nat.le_succ _) ?_ sb, rfl, q _ hD⟩⟩
  rw [upd_ne (Nat.ne_of_gt (Nat.lt_succ_self _))]; exact hC
theorem ps_comp {i : Nat} {y : Str} {py spos : Pos} (own rest : List Str) (hcalm : X.calm = true) (S : CompSc scope X.env.scope X.N rest) (hN : X.N.Nodup) (hy : X.N[i]? = some y) (hl : X.env.scope.names.lookup y = some .local) (hi : PI X tg iter wi)
    (hg : ∀ cl s2 H2 C fp, PG (compCx X scope (own ++ rest) cl s2 H2 C fp) tg g) (ht : ∀ cl s2 H2 C fp, PTs (compCx X scope (own ++ rest) cl s2 H2 C fp) ifs tt) (he : ∀ cl s2 H2 C fp, PE (compCx X scope (own ++ rest) cl s2 H2 C fp) elt te)
    (hsw : swapsWith (.ListComp elt [⟨tg, iter, ifs, 0⟩] scope pos) (some (.Name y py)) spos.line X.env = pure true := by rfl)
    (hs : ∀ x, foldedSetIterable iter X.env x = pure x := by intro _; rfl) : PS X (.Assign [.Name y py] (.ListComp elt [⟨tg, iter, ifs, 0⟩] scope pos) spos) (tAsg (tComp own.length wi g tt te) (gName i)) := by
  intro pins s σ H D I h
  obtain ⟨cl, hcl, hc1, hc2⟩ := I.closed S
  rw [exec_Assign_Name_used _ _ _ _ hsw]
  refine wpAny_bind (wpAny_standAt (wpAny_bind ?_))
  show wpAny _ X.A (do let _ ← comprehension (.ListComp elt [⟨tg, iter, ifs, 0⟩] scope pos) scope X.env _ (newList []) false (eval iter X.env) (some (assign (.Name y py) X.env))) _ _ s
  refine wpAny_bind (wpAny_mono (wpAny_comprehension_free (use := some (assign (.Name y py) X.env)) (Q := fun _ s' => SP X pins D .next s') rfl hs hcl S.kind S.loc (thn (hi pins s σ H _ I h) fun v s1 h1 => thn h1 fun itv s2 h2 => ?_)) (fun _ s' hq => wpAny_pure (wpAny_pure hq)) fun _ _ e => e)
  obtain ⟨it, fp, tn, J, H2, e, I2, T, st, hf, hw⟩ := h2
  subst e
  refine comp_run (RR := fun acc C => compPost (model X.prog X.w) X.A X.xe (some (assign (.Name y py) X.env)) (fun _ s' => SP X pins D .next s') acc C) (D := s2.heap.objs.size) rfl hcalm I2 S hc1 hc2 T st hf (hg _ _ _ _ _) (ht _ _ _ _ _) (he _ _ _ _ _) hw ?_
  intro s' H' ys J' ⟨m, hm⟩ hD hC q
  show wpAny _ X.A (assign (.Name y py) X.env (.ref s2.heap.objs.size)) _ _ s'
  refine wpAny_assign_Name (store_ok2 (v := .ref s2.heap.objs.size) J' hN hy (.inl hl) rfl (fun s3 J3 ⟨a, sb, ha⟩ => ?_) (.inr hl))
  have hne : s2.heap.objs.size + 1 ≠ a := by
    rcases ha with ha | ha
    · rw [ha]; exact Nat.ne_of_gt (Nat.lt_succ_of_lt I2.lt)
    · obtain ⟨v, o, e, d⟩ := I2.cell y a ha
      exact Nat.ne_of_gt (Nat.lt_succ_of_lt (Heap.lt_size e))
  refine ⟨m, hm.sameBut sb hne, fun h' sb' => ⟨_, _, I2.letgo (pins' := pins) (b := (s2.heap.objs.size + 1 : Nat)) J3 (Nat.le_succ _) ?_ sb', q _ hD⟩⟩
  rw [upd_ne (Nat.ne_of_gt (Nat.lt_succ_self _))]; exact hC
end
structure Walk (J : It) (xs : List V) (ok : Hp → Prop) : Prop where
  go : ∀ i H, ok H → i < xs.length → J.go i H
  yld : ∀ i H x H', ok H → i < xs.length → J.yld i H x H' → H' = H ∧ xs[i]? = some x
  stop : ∀ H, ok H → J.stop xs.length H
theorem walk_list {K : PySem.W.Frag} {a : Addr} {xs : List V} : Walk (Itl K a) xs (fun H => SqL K H a xs) where
  go := fun i H q hi => ⟨xs, xs[i], q, by simp [hi]⟩
  yld := fun i H x H' q _ y => ⟨y.1, y.2 xs q⟩
  stop := fun H q => ⟨xs, q, Nat.le_refl _⟩
noncomputable def rangeV (lo : Int) (n : Nat) : List V := (List.range n).map fun (i : Nat) => V.int (lo + i)
theorem rangeV_len (lo : Int) (n : Nat) : (rangeV lo n).length = n := by simp [rangeV]
theorem rangeV_get {lo : Int} {n i : Nat} (h : i < n) : (rangeV lo n)[i]? = some (.int (lo + i)) := by simp [rangeV, h]
theorem walk_range {lo : Int} {n : Nat} : Walk (Itr lo n) (rangeV lo n) (fun _ => True) where
  go := fun i H _ hi => by rw [rangeV_len] at hi; exact hi
  yld := fun i H x H' _ hi y => ⟨y.1, by rw [rangeV_len] at hi; rw [rangeV_get hi, y.2]⟩
  stop := fun H _ => Nat.le_of_eq (rangeV_len lo n).symm
theorem for_walk {J : It} {xs : List V} {ok : Hp → Prop} (w : Walk J xs ok) {g : TG} {tb : TS} {D : Ends} {σ : St} {H : Hp} (Pv : Nat → St → Hp → Prop) (h0 : Pv 0 σ H) (hl : ∀ i σ H, i ≤ xs.length → Pv i σ H → ok H)
    (hs : ∀ i x σ H, xs[i]? = some x → Pv i σ H → g x σ H fun σ2 H2 => tb { D with nx := Pv (i + 1), ct := Pv (i + 1), bk := D.nx } σ2 H2) (hd : ∀ σ H, Pv xs.length σ H → D.nx σ H) :
    ∃ W : Nat → Nat → St → Hp → Prop, (∃ m, W 0 m σ H) ∧ ∀ i m σ H, W i m σ H →
      (J.stop i H ∧ D.nx σ H) ∨ (J.go i H ∧ ∃ N : St → Hp → Prop, (∀ σ' H', N σ' H' → ∃ m', m' < m ∧ W (i + 1) m' σ' H') ∧ ∀ x H', J.yld i H x H' → g x σ H' fun σ2 H2 => tb { D with nx := N, ct := N, bk := D.nx } σ2 H2) := by
  refine ⟨fun i m σ H => m = xs.length - i ∧ i ≤ xs.length ∧ Pv i σ H, ⟨xs.length, by simp, Nat.zero_le _, h0⟩, ?_⟩
  rintro i m σ H ⟨rfl, hi, p⟩
  have q := hl i σ H hi p
  by_cases hlt : i < xs.length
  · refine .inr ⟨w.go i H q hlt, Pv (i + 1), fun σ' H' p' => ⟨xs.length - (i + 1), by omega, rfl, hlt, p'⟩, fun x H' y => ?_⟩
    obtain ⟨e, y'⟩ := w.yld i H x H' q hlt y
    subst e
    exact hs i x σ _ y' p
  · have e : i = xs.length := by omega
    subst e
    exact .inl ⟨w.stop H q, hd σ H p⟩
theorem comp_walk {J : It} {xs : List V} {ok : Hp → Prop} (w : Walk J xs ok) {tt : TT} {te : TE} {fin : List V → Hp → Prop} {σ : St} {H : Hp} (hz : xs.length ≤ sizeLine) (Pv : Nat → List V → Hp → Prop) (h0 : Pv 0 [] H) (hl : ∀ i ys H, i ≤ xs.length → Pv i ys H → ok H)
    (hlen : ∀ i ys H, Pv i ys H → ys.length ≤ i)
    (hs : ∀ i x ys H, xs[i]? = some x → Pv i ys H → tt (some x :: σ) H fun b H3 => if b = true then te (some x :: σ) H3 fun y H4 => (∃ o, some x :: σ = o :: σ) ∧ Pv (i + 1) (ys ++ [y]) H4 else (∃ o, some x :: σ = o :: σ) ∧ Pv (i + 1) ys H3) (hd : ∀ ys H, Pv xs.length ys H → fin ys H) :
    CompW J (gName 0) tt te fin (List.replicate 1 none ++ σ) H := by
  refine ⟨fun i m ys σ' H => m = xs.length - i ∧ i ≤ xs.length ∧ (∃ o, σ' = o :: σ) ∧ Pv i ys H, ⟨xs.length, by simp, Nat.zero_le _, ⟨none, rfl⟩, h0⟩, ?_⟩
  rintro i m ys σ' H ⟨rfl, hi, ⟨o, rfl⟩, p⟩
  have hy := hlen i ys H p
  have q := hl i ys H hi p
  by_cases hlt : i < xs.length
  · refine .inr ⟨w.go i H q hlt, by omega, fun ys' σ' H' => (∃ o, σ' = o :: σ) ∧ Pv (i + 1) ys' H', fun ys' σ' H' p' => ⟨xs.length - (i + 1), by omega, rfl, hlt, p'⟩, fun x H' y => ?_⟩
    obtain ⟨e, y'⟩ := w.yld i H x H' q hlt y
    subst e
    exact hs i x ys _ y' p
  · have e : i = xs.length := by omega
    subst e
    exact .inl ⟨w.stop H q, hd ys H p⟩
end L2
set_option maxHeartbeats 4000000
namespace L2
open PySem PySem.Spec PyProof.Rows
noncomputable def sgn (c : Nat) : V := .str ⟨#[c]⟩
noncomputable def Its (z : Str) : It := ⟨fun i _ => i < z.cps.size, fun i H x H' => H' = H ∧ ∃ c, z.cps[i]? = some c ∧ x = sgn c, fun i _ => i = z.cps.size⟩
section
variable {X : Cx} {tg : Expr}
noncomputable def iStr (tl : TE) : TI := fun σ H R => tl σ H fun x H1 => ∃ z, x = .str z ∧ R (Its z) H1
end
mutual
noncomputable def Rep (K : PySem.W.Frag) (H : Hp) : PyData → V → Prop
  | .none, v => v = .non
  | .bool b, v => v = .bl b
  | .int i, v => v = .int i
  | .str x, v => v = .str x
  | .list ds, v => ∃ a xs, v = .ref a ∧ SqL K H a xs ∧ Reps K H ds xs
  | .tuple ds, v => ∃ a xs, v = .ref a ∧ SqT K H a xs ∧ Reps K H ds xs
  | .dict _, _ => False
noncomputable def Reps (K : PySem.W.Frag) (H : Hp) : List PyData → List V → Prop
  | [], vs => vs = []
  | d :: ds, vs => ∃ v r, vs = v :: r ∧ Rep K H d v ∧ Reps K H ds r
end
section
variable {X : Cx} {pins : List (Addr × Obj)} {σ : St} {H : Hp} {s : Shared}
mutual
theorem Rep.reads (I : Inv X pins σ H s) : ∀ (d : PyData) (v : V) (u : Value), Rep X.K H d v → RelV v u → ∃ as, Reads s.heap u d as
  | .none, v, u, h, r => by
    have e : v = .non := by simpa [Rep] using h
    subst e; cases r; exact ⟨_, .none⟩
  | .bool b, v, u, h, r => by
    have e : v = .bl b := by simpa [Rep] using h
    subst e; cases r; exact ⟨_, .bool b⟩
  | .int i, v, u, h, r => by
    have e : v = .int i := by simpa [Rep] using h
    subst e; obtain ⟨t, rfl⟩ := r; exact ⟨_, .int i t⟩
  | .str x, v, u, h, r => by
    have e : v = .str x := by simpa [Rep] using h
    subst e; obtain ⟨t, rfl⟩ := r; exact ⟨_, .str x t⟩
  | .list ds, v, u, h, r => by
    obtain ⟨a, xs, rfl, hs, hr⟩ : ∃ a xs, v = .ref a ∧ SqL X.K H a xs ∧ Reps X.K H ds xs := by simpa only [Rep] using h
    cases r
    obtain ⟨its, rv, p, hz⟩ := I.list hs
    obtain ⟨o, ho, hc, n, hd⟩ := p.isList
    obtain ⟨as, q⟩ := Reps.reads I ds xs its hr rv
    exact ⟨_, .list ho hc hd (by simpa using q)⟩
  | .tuple ds, v, u, h, r => by
    obtain ⟨a, xs, rfl, hs, hr⟩ : ∃ a xs, v = .ref a ∧ SqT X.K H a xs ∧ Reps X.K H ds xs := by simpa only [Rep] using h
    cases r
    obtain ⟨its, rv, p, hz⟩ := I.tuple hs
    obtain ⟨o, ho, hc, n, hd⟩ := p
    obtain ⟨as, q⟩ := Reps.reads I ds xs its hr rv
    exact ⟨_, .tuple ho hc hd (by simpa using q)⟩
  | .dict _, v, u, h, r => by simp [Rep] at h
theorem Reps.reads (I : Inv X pins σ H s) : ∀ (ds : List PyData) (vs : List V) (us : List Value), Reps X.K H ds vs → Vals vs us → ∃ as, ReadsAll s.heap us ds as
  | [], vs, us, h, r => by
    have e : vs = [] := by simpa [Reps] using h
    subst e; cases r; exact ⟨_, .nil⟩
  | d :: ds, vs, us, h, r => by
    obtain ⟨v, q, rfl, h1, h2⟩ : ∃ v r, vs = v :: r ∧ Rep X.K H d v ∧ Reps X.K H ds r := by simpa only [Reps] using h
    cases r with
    | cons r1 r2 =>
      obtain ⟨as, q1⟩ := Rep.reads I d v _ h1 r1
      obtain ⟨bs, q2⟩ := Reps.reads I ds q _ h2 r2
      exact ⟨_, .cons q1 q2⟩
end
end
section
variable {X : Cx}
noncomputable def rEqD (K : PySem.W.Frag) (neg : Bool) : R2 := fun x y H Q => ∃ d e, Rep K H d x ∧ Rep K H e y ∧ SeqAt.shaped d = true ∧ SeqAt.shaped e = true ∧ Q (.bl (if neg then !PyData.eqv d e else PyData.eqv d e)) H
theorem op_eqD (hu : X.A.units + 64 < cLine) : OpR X (compareOp .Eq) (rEqD X.K false) := by
  intro pins s σ H x y v u Q I rx ry h
  obtain ⟨d, e, h1, h2, h3, h4, q⟩ := h
  obtain ⟨as, q1⟩ := Rep.reads I d x v h1 rx
  obtain ⟨bs, q2⟩ := Rep.reads I e y u h2 ry
  exact eq_dataH q1 q2 h3 h4 hu (fin_bl I q rfl)
theorem op_neD (hu : X.A.units + 64 < cLine) : OpR X (compareOp .NotEq) (rEqD X.K true) := by
  intro pins s σ H x y v u Q I rx ry h
  obtain ⟨d, e, h1, h2, h3, h4, q⟩ := h
  obtain ⟨as, q1⟩ := Rep.reads I d x v h1 rx
  obtain ⟨bs, q2⟩ := Rep.reads I e y u h2 ry
  exact ne_dataH q1 q2 h3 h4 hu (fin_bl I q rfl)
theorem bools_of : ∀ {bs : List Bool} {us : List Value}, Vals (bs.map V.bl) us → LSm.BoolsAre us bs
  | [], _, .nil => .nil
  | _ :: _, _, .cons r t => by cases r; exact .cons _ (bools_of t)
noncomputable def rAll (K : PySem.W.Frag) (g : List Bool → Bool) : List V → Hp → VK → Prop := fun xs H Q => ∃ a bs, xs = [.ref a] ∧ SqL K H a (bs.map V.bl) ∧ Q (.bl (g bs)) H
theorem call_all (hc : X.calm = true) : CallR X (.builtin "all") (rAll X.K fun bs => bs.all id) := by
  intro pins s σ H xs us Q I r h
  obtain ⟨a, bs, rfl, hs, q⟩ := h
  obtain ⟨u, rfl, ru⟩ := vals1 r
  cases ru
  obtain ⟨its, rv, p, hz⟩ := I.list hs
  have hl := p.isList
  have hb := bools_of rv
  have hlt : a < s.heap.objs.size := by obtain ⟨_, e, _⟩ := hl; exact Heap.lt_size e
  refine call_all_walk (wpAny_pyIter_list hl ?_)
  refine ⟨s.heap.objs.size, [s.heap.objs.size, a], [s.heap.objs.size], its.toArray.size, _, _, fun i => (bs[i]?).getD true, rfl, Walks.list (A := X.A.in1) (I.ok.hd hc) _ a (Nat.ne_of_lt hlt) its.toArray,
    ⟨⟨_, Heap.get?_push_size _ rfl, rfl, rfl⟩, hl.push _⟩, fun i v s' Q' E' hP hQ => ?_, fun h' tk hk => ?_⟩
  · obtain ⟨b, e, rfl⟩ := hb.get i v (by simpa using hP)
    simp only [e, Option.getD_some] at hQ
    exact wpAny_truthy_bool hQ
  · have e : ((List.range its.toArray.size).all fun i => (bs[i]?).getD true) = bs.all id := by
      rw [List.size_toArray, hb.length]; exact LSm.range_all bs
    rw [e]
    exact ⟨.bl (bs.all id), H, I.kept (LSm.kept_iter hk), rfl, q⟩
end
end L2
set_option maxHeartbeats 4000000
namespace L2
open PySem PySem.Spec PyProof.Rows
section
variable {X : Cx}
structure DefOk (K : PySem.W.Frag) (mg : Str → Option Value) (x : Str) (st : Stmt) (ps : List Str) (f : Addr) (fd : FuncData) : Prop where
  F : Fun K x x st f fd
  b : Binds K fd ps []
  m : mg x = some (.ref f)
theorem pvl (i : Nat) {x : Str} {pos : Pos} (hN : X.N[i]? = some x := by rfl) (hv : X.env.scope.names.lookup x = some .local := by rfl) (hd : (x == ("__debug__" : Str)) = false := by decide) (hcd : (x == ("__classdict__" : Str)) = false := by decide) : PE X (.Name x pos) (tVar i) := pe_var hN (.inl hv) hd hcd
theorem pvc (i : Nat) {x : Str} {pos : Pos} (hN : X.N[i]? = some x := by rfl) (hv : X.env.scope.names.lookup x = some .cell := by rfl) (hd : (x == ("__debug__" : Str)) = false := by decide) (hcd : (x == ("__classdict__" : Str)) = false := by decide) : PE X (.Name x pos) (tVar i) := pe_var hN (.inr (.inl hv)) hd hcd
theorem pgl (i : Nat) {x : Str} {pos : Pos} (hN : X.N.Nodup) (hi : X.N[i]? = some x := by rfl) (hv : X.env.scope.names.lookup x = some .local := by rfl) : PG X (.Name x pos) (gName i) := pg_name hN hi (.inl hv) (.inr hv)
theorem pgc (i : Nat) {x : Str} {pos : Pos} (hN : X.N.Nodup) (hi : X.N[i]? = some x := by rfl) (hv : X.env.scope.names.lookup x = some .cell := by rfl) (hf : X.fn x = true := by rfl) : PG X (.Name x pos) (gName i) := pg_name hN hi (.inr hv) (.inl hf)
theorem psl (i : Nat) {x : Str} {pos pos' : Pos} {e : Expr} {te : TE} (hN : X.N.Nodup) (he : PE X e te) (hi : X.N[i]? = some x := by rfl) (hv : X.env.scope.names.lookup x = some .local := by rfl) (hs : swapsWith e (some (.Name x pos')) pos.line X.env = pure false := by rfl) :
    PS X (.Assign [.Name x pos'] e pos) (tAsg te (gName i)) := ps_set hN hi (.inl hv) he hs (.inr hv)
theorem psc (i : Nat) {x : Str} {pos pos' : Pos} {e : Expr} {te : TE} (hN : X.N.Nodup) (he : PE X e te) (hi : X.N[i]? = some x := by rfl) (hv : X.env.scope.names.lookup x = some .cell := by rfl) (hs : swapsWith e (some (.Name x pos')) pos.line X.env = pure false := by rfl) (hf : X.fn x = true := by rfl) :
    PS X (.Assign [.Name x pos'] e pos) (tAsg te (gName i)) := ps_set hN hi (.inr hv) he hs (.inl hf)
theorem pgi {x : Str} {i : Int} {pos : Pos} (hm : ∃ tk, X.mg x = some (.int i tk)) (hg : Gl X x := by rfl) (hd : (x == ("__debug__" : Str)) = false := by decide) : PE X (.Name x pos) (tC (.int i)) := let ⟨t, e⟩ := hm; pe_glob hg e ⟨t, rfl⟩ hd
theorem pty {x : Str} {T : String} {pos : Pos} (hm : X.mg x = none) (hv : bootBuiltins x = some (.type T)) (hg : Gl X x := by rfl) (hn : x ≠ "__name__" := by decide) (hd : (x == ("__debug__" : Str)) = false := by decide) : PE X (.Name x pos) (tC (.ty T)) := pe_bltn hg hm hv rfl hn hd
end
theorem Same.new {H H' : Hp} (e : Same H H') {p : Addr} (h : H' p = none) (o : HO) : Same H (upd H' p o) := fun b q z => by
  rw [upd_ne (ne_of_none (e b q z) h)]; exact e b q z
theorem Same.upd_new {H : Hp} {p : Addr} (h : H p = none) (o : HO) : Same H (upd H p o) := (Same.refl H).new h o
theorem Same.set {H H' : Hp} (e : Same H H') {p : Addr} (h : H p = none) (o : HO) : Same H (upd H' p o) := fun b q z => by
  rw [upd_ne (ne_of_none z h)]; exact e b q z
end L2
set_option maxHeartbeats 4000000
namespace L2
open PySem PySem.Spec PyProof.Rows
theorem bt_len : bootBuiltins "len" = some (.builtin "len") := by decide +kernel
theorem bt_all : bootBuiltins "all" = some (.builtin "all") := by decide +kernel
theorem bt_min : bootBuiltins "min" = some (.builtin "min") := by decide +kernel
theorem bt_sum : bootBuiltins "sum" = some (.builtin "sum") := by decide +kernel
theorem bt_isinstance : bootBuiltins "isinstance" = some (.builtin "isinstance") := by decide +kernel
theorem bt_list : bootBuiltins "list" = some (.type "list") := by decide +kernel
theorem small_line {n : Nat} (h : n ≤ 1000000) : n ≤ sizeLine := by rw [sizeLine_eq]; omega
noncomputable def plainTs : List String := ["NoneType", "bool", "int", "str", "list", "tuple", "dict"]
structure Pl (K : PySem.W.Frag) (H : Hp) (x : V) (T : String) : Prop where
  ty : TyOf K H x (.type T)
  mem : T ∈ plainTs
  sz : ∀ z, x = .str z → z.length ≤ sizeLine
noncomputable def isiN (T S : String) : Bool := T == S || (T == "bool" && S == "int")
noncomputable def rIsP (K : PySem.W.Frag) : List V → Hp → VK → Prop := fun xs H Q => ∃ x S T, xs = [x, .ty S] ∧ Pl K H x T ∧ S ∈ plainTs ∧ Q (.bl (isiN T S)) H
end L2
set_option maxHeartbeats 4000000
namespace L2
open PySem PySem.Spec PyProof.Rows
section
variable {X : Cx}
end
end L2
set_option maxHeartbeats 4000000
namespace L2
open PySem PySem.Spec PyProof.Rows
section
variable {X : Cx} {K : PySem.W.Frag} (e : X.K = K)
include e
theorem k_all (hc : X.calm = true) : CallR X (.builtin "all") (rAll K fun bs => bs.all id) := by subst e; exact call_all hc
noncomputable def rLenS (K : PySem.W.Frag) : List V → Hp → VK → Prop := fun xs H Q => ∃ p ys, xs = [.ref p] ∧ (SqL K H p ys ∨ SqT K H p ys) ∧ Q (.int ys.length) H
theorem k_len : CallR X (.builtin "len") (rLenS K) := by subst e; exact call_len_seq
noncomputable def rLenV (K : PySem.W.Frag) : List V → Hp → VK → Prop := fun xs H Q => ∃ x n, xs = [x] ∧ LenV K x H n ∧ Q (.int n) H
noncomputable def rListOf (K : PySem.W.Frag) : List V → Hp → VK → Prop := fun xs H Q => ∃ p ys, xs = [.ref p] ∧ (SqL K H p ys ∨ SqT K H p ys) ∧ ∀ l, H l = none → Q (.ref l) (upd H l (.lst ys))
theorem k_list : CallR X (.type "list") (rListOf K) := by subst e; exact call_list_of
noncomputable def rTupleOf (K : PySem.W.Frag) : List V → Hp → VK → Prop := fun xs H Q => ∃ p ys, xs = [.ref p] ∧ ((SqL K H p ys ∧ ∀ l, H l = none → Q (.ref l) (upd H l (.tup ys))) ∨ (SqT K H p ys ∧ Q (.ref p) H))
theorem k_ixL : IxR X (rIxL K) := by subst e; exact ix_list
theorem k_ixT : IxR X (rIxT K) := by subst e; exact ix_tup
theorem k_slL : SlR X (rSlL K) := by subst e; exact sl_list
theorem k_eqD (hu : X.A.units + 64 < cLine) : OpR X (compareOp .Eq) (rEqD K false) := by subst e; exact op_eqD hu
theorem k_neD (hu : X.A.units + 64 < cLine) : OpR X (compareOp .NotEq) (rEqD K true) := by subst e; exact op_neD hu
theorem k_piL {tg l : Expr} {tl : TE} (hl : PE X l tl) : PI X tg l (iList K tl) := by subst e; exact pi_list hl
theorem k_pgT {es : List Expr} {k : Nat} {t : TGs} {n : Nat} {pos : Pos} (hc : X.calm = true) (h : PGs X es t) (hn : (assignEach es X.env).length = n := by rfl) (hst : (assignEach es X.env).findIdx? (·.1) = none := by rfl) : PG X (.Tuple es k pos) (gTup K n t) := by subst e; exact pg_tup hc h hn hst
theorem k_bm {o a : Expr} {es : List Expr} {to : TE} {t : TA} {name : Str} {apos cpos : Pos} {T id : String} {r : V → List V → Hp → VK → Prop} (pa : PlainAttrs T) (slot : Slot T name id) (hty : typeOf (.builtin id) = pure (.type "method_descriptor")) (hm : MtR X id r) (ho : PE X o to) (ha : PA X (a :: es) t)
    (hbase : attributeBase o name X.env (eval o X.env) = eval o X.env := by rfl)
    (hfew : ((backTo cpos (starEach (a :: es) X.env)).all (fun x => !x.1) && (backToKw cpos (keywordEach [] X.env)).all (fun x => x.1.isSome)
      && decide ((a :: es).length + ([] : List Keyword).length + (if ([] : List Keyword).isEmpty then 0 else 1) < 30)) = true := by rfl)
    (hline : (apos.endLine == cpos.line) = true := by rfl) (hs : starEach (a :: es) X.env = (false, eval a X.env) :: starEach es X.env := by rfl) (hplain : (backTo cpos (starEach es X.env)).any (·.1) = false := by rfl) :
    PE X (.Call (.Attribute o name apos) (a :: es) [] cpos) (tBM K T r to t) := by subst e; exact pe_bm pa slot hty hm ho ha hbase hfew hline hs hplain
end
end L2
namespace L2
open PySem PySem.Spec PyProof.Rows
noncomputable def notStar : Expr → Bool
  | .Starred _ _ => false
  | _ => true
theorem star_cons {e : Expr} {es : List Expr} {env : Env} (h : notStar e = true) : starEach (e :: es) env = (false, eval e env) :: starEach es env := by
  cases e <;> first | rfl | cases h
theorem star_none {env : Env} : ∀ {es : List Expr}, es.all notStar = true → (starEach es env).any (·.1) = false
  | [], _ => rfl
  | e :: es, h => by
    rw [List.all_cons, Bool.and_eq_true] at h
    rw [star_cons h.1, List.any_cons, star_none h.2]; rfl
theorem back_none {env : Env} {pos : Pos} {es : List Expr} (h : es.all notStar = true) : (backTo pos (starEach es env)).any (·.1) = false := by
  have := star_none (env := env) h
  unfold backTo
  rw [List.any_map]
  exact this
section
variable {X : Cx} {e : Expr} {es : List Expr} {te : TE} {t : TA}
theorem pal (hn : notStar e = true) (ha : PE X e te) (hr : PA X es t) : PA X (e :: es) (tCons te t) := pa_cons ha hr (star_cons hn)
theorem pe_defL {x : Str} {st : Stmt} {ps : List Str} {f : Addr} {fd : FuncData} {k : Nat} {sp : Sp} {p pos : Pos} (D : DefOk X.K X.mg x st ps f fd) (G : FnOk X.prog X.w X.K X.mg X.base CX0 k f fd ps sp) (hr : Room k X.A)
    (hg : Gl X x) (hdb : (x == ("__debug__" : Str)) = false) (hn : (e :: es).all notStar = true) (ha : PA X (e :: es) t) :
    PE X (.Call (.Name x p) (e :: es) [] pos) (tCall sp [] E0 t) :=
  have h : notStar e = true ∧ es.all notStar = true := by rw [List.all_cons, Bool.and_eq_true] at hn; exact hn
  pe_call G hr hg D.m D.F.kp D.b .nil pass0 ha hdb (star_cons h.1) (back_none h.2)
theorem pe_cB {x : Str} {p pos : Pos} {id : String} {r : List V → Hp → VK → Prop} (hc : CallR X (.builtin id) r) (hm : X.mg x = none) (hv : bootBuiltins x = some (.builtin id)) (hg : Gl X x) (hn : x ≠ "__name__") (hdb : (x == ("__debug__" : Str)) = false)
    (hs : (e :: es).all notStar = true) (ha : PA X (e :: es) t) : PE X (.Call (.Name x p) (e :: es) [] pos) (tCB r t) :=
  have h : notStar e = true ∧ es.all notStar = true := by rw [List.all_cons, Bool.and_eq_true] at hs; exact hs
  pe_callB hc hg hm hv ha hn hdb (star_cons h.1) (back_none h.2)
theorem pe_cTy {x : Str} {p pos : Pos} {T : String} {r : List V → Hp → VK → Prop} (hc : CallR X (.type T) r) (hm : X.mg x = none) (hv : bootBuiltins x = some (.type T)) (hg : Gl X x) (hn : x ≠ "__name__") (hdb : (x == ("__debug__" : Str)) = false)
    (hs : (e :: es).all notStar = true) (ha : PA X (e :: es) t) : PE X (.Call (.Name x p) (e :: es) [] pos) (tCB r t) :=
  have h : notStar e = true ∧ es.all notStar = true := by rw [List.all_cons, Bool.and_eq_true] at hs; exact hs
  pe_callTy hc hg hm hv ha hn hdb (star_cons h.1) (back_none h.2)
theorem back_all {env : Env} {pos : Pos} {es : List Expr} (h : es.all notStar = true) : (backTo pos (starEach es env)).all (fun x => !x.1) = true := by
  have := back_none (env := env) (pos := pos) h
  rw [List.any_eq_false] at this
  rw [List.all_eq_true]
  intro x hx
  have := this x hx
  simpa using this
theorem k_bmL {K : PySem.W.Frag} {o a : Expr} {to : TE} {name : Str} {apos cpos : Pos} {T id : String} {r : V → List V → Hp → VK → Prop} (ek : X.K = K) (pa : PlainAttrs T) (slot : Slot T name id) (hty : typeOf (.builtin id) = pure (.type "method_descriptor")) (hm : MtR X id r)
    (hbase : attributeBase o name X.env (eval o X.env) = eval o X.env) (hs : (a :: es).all notStar = true) (hsz : decide ((a :: es).length + 0 + 0 < 30) = true) (hline : (apos.endLine == cpos.line) = true) (ho : PE X o to) (ha : PA X (a :: es) t) :
    PE X (.Call (.Attribute o name apos) (a :: es) [] cpos) (tBM K T r to t) :=
  have h : notStar a = true ∧ es.all notStar = true := by rw [List.all_cons, Bool.and_eq_true] at hs; exact hs
  k_bm ek pa slot hty hm ho ha hbase (by rw [back_all hs]; exact hsz) hline (star_cons h.1) (back_none h.2)
end
end L2
namespace L2
open PySem PySem.Spec PyProof.Rows
noncomputable def ForW (J : It) (g : TG) (tb : TS) (D : Ends) (σ : St) (H1 : Hp) : Prop := ∃ W : Nat → Nat → St → Hp → Prop, (∃ m, W 0 m σ H1) ∧ ∀ i m σ H, W i m σ H →
  (J.stop i H ∧ D.nx σ H) ∨ (J.go i H ∧ ∃ N : St → Hp → Prop, (∀ σ' H', N σ' H' → ∃ m', m' < m ∧ W (i + 1) m' σ' H') ∧ ∀ x H', J.yld i H x H' → g x σ H' fun σ2 H2 => tb { D with nx := N, ct := N, bk := D.nx } σ2 H2)
theorem for_in {wi : TI} {g : TG} {tb : TS} {D : Ends} {σ : St} {H : Hp} (h : wi σ H fun J H1 => ForW J g tb D σ H1) : tFor wi g tb D σ H := h
theorem ForW.of {g : TG} {tb : TS} {D : Ends} {σ : St} {H : Hp} {J : It} {xs : List V} {ok : Hp → Prop} (w : Walk J xs ok) (Pv : Nat → St → Hp → Prop) (h0 : Pv 0 σ H) (hl : ∀ i σ H, i ≤ xs.length → Pv i σ H → ok H)
    (hs : ∀ i x σ H, xs[i]? = some x → Pv i σ H → g x σ H fun σ2 H2 => tb { D with nx := Pv (i + 1), ct := Pv (i + 1), bk := D.nx } σ2 H2) (hd : ∀ σ H, Pv xs.length σ H → D.nx σ H) : ForW J g tb D σ H := for_walk w Pv h0 hl hs hd
end L2
set_option maxHeartbeats 4000000
namespace L2
open PySem PySem.Spec PyProof.Rows
noncomputable def cutL {α : Type} (xs : List α) (lo hi : Option Int) : List α := (xs.drop (HT.sIx xs.length 0 lo)).take (HT.sIx xs.length xs.length hi - HT.sIx xs.length 0 lo)
section
variable {X : Cx}
noncomputable def rSlS : V → Option Int → Option Int → Hp → VK → Prop := fun x lo hi H Q => ∃ z, x = .str z ∧ z.length ≤ sizeLine ∧ Q (.str ⟨(cutL z.cps.toList lo hi).toArray⟩) H
noncomputable def rFind : V → List V → Hp → VK → Prop := fun x vs H Q => ∃ z y, x = .str z ∧ vs = [.str y] ∧ Q (.int (Txt.find z y)) H
noncomputable def rStarts : V → List V → Hp → VK → Prop := fun x vs H Q => ∃ z y, x = .str z ∧ vs = [.str y] ∧ Q (.bl (Txt.startswith z y)) H
end
end L2
namespace L2
open PySem
theorem range_item {lo : Int} {n i : Nat} {x : V} (h : (rangeV lo n)[i]? = some x) : i < n ∧ x = .int (lo + i) := by
  have hi : i < n := by have := (List.getElem?_eq_some_iff.mp h).1; rwa [rangeV_len] at this
  rw [rangeV_get hi] at h
  cases h
  exact ⟨hi, rfl⟩
end L2
set_option maxHeartbeats 4000000
namespace L2
open PySem PySem.Spec PyProof.Rows PySem.NumText
noncomputable def dgs (m : Nat) : List Nat := (Nat.toDigits 10 m).map Char.toNat
noncomputable def numS (n : Int) : List Nat := if n < 0 then 45 :: dgs n.natAbs else dgs n.natAbs
section
variable {X : Cx}
noncomputable def rIntT : List V → Hp → VK → Prop := fun xs H Q => ∃ z n, xs = [.str z] ∧ intText? z = some n ∧ z.length ≤ 640 ∧ Q (.int n) H
noncomputable def rStrA : List V → Hp → VK → Prop := fun xs H Q => (∃ i, xs = [.int i] ∧ i.natAbs < 10 ^ 100 ∧ Q (.str ⟨(numS i).toArray⟩) H) ∨ ∃ z, xs = [.str z] ∧ Q (.str z) H
end
end L2
namespace L2
open PySem PySem.Spec PyProof.Rows
section
variable {X : Cx}
noncomputable def rRepS : R2 := fun x y H Q => ∃ z n, x = .str z ∧ y = .int n ∧ MulOk z n ∧ Q (.str (Txt.mul z n)) H
end
end L2
namespace L2
open PySem
noncomputable def WGo (Pv : Nat → St → Hp → Prop) (m : Nat) (tb : TS) (D : Ends) (σ : St) (H1 : Hp) : Prop := ∃ N : St → Hp → Prop, (∀ σ' H', N σ' H' → ∃ m', m' < m ∧ Pv m' σ' H') ∧ tb { D with nx := N, ct := N, bk := D.nx } σ H1
theorem WGo.of {Pv : Nat → St → Hp → Prop} {m : Nat} {tb : TS} {D : Ends} {σ : St} {H1 : Hp} (h : tb { D with nx := fun σ' H' => ∃ m', m' < m ∧ Pv m' σ' H', ct := fun σ' H' => ∃ m', m' < m ∧ Pv m' σ' H', bk := D.nx } σ H1) : WGo Pv m tb D σ H1 := ⟨_, fun _ _ q => q, h⟩
theorem while_in {c : TT} {tb : TS} {D : Ends} {σ : St} {H : Hp} (Pv : Nat → St → Hp → Prop) (h0 : ∃ m, Pv m σ H) (hs : ∀ m σ H, Pv m σ H → c σ H fun b H1 => if b = true then WGo Pv m tb D σ H1 else D.nx σ H1) : tWhile c tb D σ H := ⟨Pv, h0, hs⟩
end L2
set_option maxHeartbeats 1000000
namespace L2
open PySem PySem.Spec PyProof.Rows
noncomputable def Trc (H : Hp) (h G : Heap) (e : Addr) (C : Value) (ed : Option Addr) (fl : Value) : Prop :=
  G.get? e = none ∧ H e = none ∧ ∃ oe vs, h.get? e = some oe ∧ oe.cls = C ∧ oe.dict = ed ∧ oe.data = .fields vs ∧ 1 < vs.size ∧
    ((vs[1]? = some .none ∧ fl = .none) ∨ ∃ T oT ts, vs[1]? = some (.ref T) ∧ G.get? T = none ∧ T ≠ e ∧ H T = none ∧ h.get? T = some oT ∧ oT.data = .fields ts ∧ ts[3]? = some fl)
structure Kp (H : Hp) (G : Heap) (fs : List Addr) (h h' : Heap) : Prop where
  keep : ∀ b o, h.get? b = some o → b ∉ fs → (G.get? b ≠ none ∨ H b ≠ none) → h'.get? b = some o
  slot : ∀ b o, h.get? b = some o → b ∈ fs → ∃ sl, h'.get? b = some { o with slots := sl }
  there : ∀ b o, h.get? b = some o → ∃ o', h'.get? b = some o'
  size : h.objs.size ≤ h'.objs.size
theorem Kp.refl (H : Hp) (G : Heap) (fs : List Addr) (h : Heap) : Kp H G fs h h := ⟨fun _ _ e _ _ => e, fun _ o e _ => ⟨o.slots, e⟩, fun _ o e => ⟨o, e⟩, Nat.le_refl _⟩
section
variable {M : Model} {A : Around} {E : Value → Shared → Prop} {s : Shared} {Q : Unit → Shared → Prop} {base : Heap} {env : Env} {outer : List Env} {L e : Addr} {C : Value} {ed : Option Addr} {G : Heap} {H : Hp}
theorem entry_wp {oe : Obj} {vs : Array Value} {head : Value} {hadNext : Bool} (hfr : A.frames = some (env :: outer)) (hl : s.heap.FunFrames base (env :: outer)) (hf : env.frame = some L)
    (he : s.heap.get? e = some oe) (hd : oe.data = .fields vs) (hsz : 1 < vs.size)
    (h : ∀ h' T oT ts, s.heap.objs.size ≤ T → h'.get? e = some (oe.mapFields (·.setIfInBounds 1 (.ref T))) → h'.get? T = some oT → oT.data = .fields ts → ts[3]? = some (rawInt L) →
      (∀ b o, b ≠ e → s.heap.get? b = some o → b ∉ frs (env :: outer) → h'.get? b = some o) → (∀ b o, b ≠ e → s.heap.get? b = some o → ∃ sl, h'.get? b = some { o with slots := sl }) → s.heap.objs.size ≤ h'.objs.size → Q () { s with heap := h' }) :
    wpAny M A (do let a ← frameOf env; let pl ← entryPlaceOf L hadNext; let b ← EntryCells.newEntry head a .none (rawInt L) .none pl; setField (.ref e) 1 b) Q E s := by
  have hene : e ∉ frs (env :: outer) := fun hm => by
    obtain ⟨_, o, ho, hnf⟩ := hl.mem hm
    rw [he] at ho
    cases ho
    exact hnf vs hd
  refine wpAny_bind (wpAny_frameOf_fun hfr hl hf fun h₁ hs₁ => ?_)
  refine wpAny_bind (wpAny_entryPlaceOf fun pl hpl => ?_)
  unfold EntryCells.newEntry newFields
  refine wpAny_bind (wpAny_newObj_type ?_ (hpl.sizeOk5 _ _ _ _ _))
  have he₁ : h₁.get? e = some oe := (hs₁.2.1 e hene).trans he
  generalize hO : ({ cls := .type "traceback", dict := none, data := .fields ([head, .ref L, .none, rawInt L, .none] ++ (if pl.isEmpty then List.replicate 6 Value.none else pl)).toArray } : Obj) = O
  have he₂ := Heap.get?_push_of_some (h := h₁) O he₁
  have hTe : h₁.objs.size ≠ e := Nat.ne_of_gt (Heap.lt_size he₁)
  refine wpAny_setField he₂ hd hsz (h _ h₁.objs.size O _ (Nat.le_of_eq hs₁.1.symm) (Heap.get?_update_self _ he₂ (Obj.isFreed_of_fields (Obj.data_mapFields hd _))) ?_ (by rw [← hO]) ?_ ?_ ?_ ?_)
  · rw [Heap.get?_update_other _ _ (Ne.symm hTe)]
    exact Heap.get?_push_size h₁ (by rw [← hO]; rfl)
  · first | (simp; done) | (rcases hpl with rfl | ⟨_, _, _, _, _, _, _, rfl⟩ <;> simp)
  · intro b o hb ho hn
    rw [Heap.get?_update_other _ _ (Ne.symm hb)]
    exact Heap.get?_push_of_some _ ((hs₁.2.1 b hn).trans ho)
  · intro b o hb ho
    obtain ⟨sl, e1⟩ := hs₁.2.2 b o ho
    exact ⟨sl, by rw [Heap.get?_update_other _ _ (Ne.symm hb)]; exact Heap.get?_push_of_some _ e1⟩
  · rw [Heap.size_after_update, Heap.size_push, hs₁.1]
    exact Nat.le_succ _
theorem note_wp (hfr : A.frames = some (env :: outer)) (hl : s.heap.FunFrames base (env :: outer)) (hf : env.frame = some L) (hH : ∀ b, s.heap.objs.size ≤ b → H b = none) (hG : ∀ b, s.heap.objs.size ≤ b → G.get? b = none) (t : Trc H s.heap G e C ed .none)
    (h : ∀ h', Trc H h' G e C ed (rawInt L) → h'.FunFrames base (env :: outer) → Kp H G (frs (env :: outer)) s.heap h' → Q () { s with heap := h' }) : wpAny M A (noteFrame (.ref e) env) Q E s := by
  obtain ⟨hn, hHe, oe, vs, he, hc, hdi, hd, hsz, ht⟩ := t
  unfold noteFrame
  simp only [hf]
  have nfr : ∀ b o ws, s.heap.get? b = some o → o.data = .fields ws → b ∉ frs (env :: outer) := fun b o ws ho hw hm => by
    obtain ⟨_, o', ho', hnf⟩ := hl.mem hm
    rw [ho] at ho'
    cases ho'
    exact hnf ws hw
  have fin : ∀ (s1 : Shared) (h' : Heap) (T : Addr) (oT : Obj) (ts : Array Value), s.heap.objs.size ≤ T → h'.get? e = some (oe.mapFields (·.setIfInBounds 1 (.ref T))) → h'.get? T = some oT → oT.data = .fields ts → ts[3]? = some (rawInt L) →
      (∀ b o, s.heap.get? b = some o → b ∉ frs (env :: outer) → (G.get? b ≠ none ∨ H b ≠ none) → h'.get? b = some o) → (∀ b o, s.heap.get? b = some o → (∀ ws, o.data ≠ .fields ws) → ∃ sl, h'.get? b = some { o with slots := sl }) →
      (∀ b o, s.heap.get? b = some o → ∃ o', h'.get? b = some o') → s.heap.objs.size ≤ h'.objs.size → Q () { s with heap := h' } := by
    intro s1 h' T oT ts hT e1 e2 e3 e4 k1 k2 k3 k4
    have le : e < s.heap.objs.size := Heap.lt_size he
    refine h h' ⟨hn, hHe, _, _, e1, by rw [Obj.cls_mapFields]; exact hc, ?_, Obj.data_mapFields hd _, by simpa using hsz, .inr ⟨T, oT, ts, by simp [hsz], hG T hT, Nat.ne_of_gt (Nat.lt_of_lt_of_le le hT), hH T hT, e2, e3, e4⟩⟩ (hl.of_keeps fun b o hb hnf => ?_) ⟨k1, fun b o hb hm => ?_, k3, k4⟩
    · rw [← hdi]
      obtain ⟨c, d, dt, sl⟩ := oe
      cases dt <;> rfl
    · obtain ⟨sl, q⟩ := k2 b o hb hnf
      exact ⟨_, q, rfl⟩
    · obtain ⟨_, o', ho', hnf⟩ := hl.mem hm
      rw [hb] at ho'
      cases ho'
      exact k2 b o hb hnf
  have nee : ∀ b o, s.heap.get? b = some o → (G.get? b ≠ none ∨ H b ≠ none) → b ≠ e := fun b o hb hx z => by
    subst z
    rcases hx with hx | hx
    · exact hx hn
    · exact hx hHe
  rcases ht with ⟨h1, _⟩ | ⟨T, oT, ts, h1, hT, hTe, hHT, gT, hdT, h3⟩
  · refine wpAny_bind (wpAny_field he hd h1 ?_)
    rw [if_neg (by decide)]
    refine entry_wp hfr hl hf he hd hsz fun h' T' oT' ts' q1 q2 q3 q4 q5 q6 q7 q8 => fin s h' T' oT' ts' q1 q2 q3 q4 q5 (fun b o hb hm hx => q6 b o (nee b o hb hx) hb hm) (fun b o hb hnf => q7 b o (fun z => ?_) hb) (fun b o hb => ?_) q8
    · subst z
      rw [he] at hb
      cases hb
      exact hnf vs hd
    · by_cases z : b = e
      · subst z
        exact ⟨_, q2⟩
      · obtain ⟨sl, q⟩ := q7 b o z hb
        exact ⟨_, q⟩
  · refine wpAny_bind (wpAny_field he hd h1 ?_)
    rw [if_pos (show (Value.ref T != Value.none) = true from by simp)]
    refine wpAny_bind (wpAny_field gT hdT h3 ?_)
    rw [if_neg (show ¬ ((Value.none == rawInt L) = true) from by simp [rawInt])]
    refine wpAny_bind (wpAny_setField gT hdT (Array.getElem?_eq_some_iff.mp h3).1 ?_)
    have other : ∀ b, b ≠ T → (s.heap.update T (Obj.mapFields (·.setIfInBounds 3 Value.none))).get? b = s.heap.get? b := fun b hb => Heap.get?_update_other _ _ (Ne.symm hb)
    have self := Heap.get?_update_self (Obj.mapFields (·.setIfInBounds 3 Value.none)) gT (Obj.isFreed_of_fields (Obj.data_mapFields hdT _))
    have neT : ∀ b o, s.heap.get? b = some o → (G.get? b ≠ none ∨ H b ≠ none) → b ≠ T := fun b o hb hx z => by
      subst z
      rcases hx with hx | hx
      · exact hx hT
      · exact hx hHT
    have neF : ∀ b o, s.heap.get? b = some o → (∀ ws, o.data ≠ .fields ws) → b ≠ T := fun b o hb hnf z => by
      subst z
      rw [gT] at hb
      cases hb
      exact hnf ts hdT
    have sz : (s.heap.update T (Obj.mapFields (·.setIfInBounds 3 Value.none))).objs.size = s.heap.objs.size := Heap.size_after_update ..
    refine entry_wp hfr (hl.of_keeps fun b o hb hnf => ⟨o, (other b (neF b o hb hnf)).trans hb, rfl⟩) hf ((other e (Ne.symm hTe)).trans he) hd hsz
      fun h' T' oT' ts' q1 q2 q3 q4 q5 q6 q7 q8 => fin s h' T' oT' ts' (by rw [sz] at q1; exact q1) q2 q3 q4 q5 (fun b o hb hm hx => q6 b o (nee b o hb hx) ((other b (neT b o hb hx)).trans hb) hm)
        (fun b o hb hnf => q7 b o (fun z => ?_) ((other b (neF b o hb hnf)).trans hb)) (fun b o hb => ?_) (by rw [sz] at q8; exact q8)
    · subst z
      rw [he] at hb
      cases hb
      exact hnf vs hd
    · by_cases z : b = e
      · subst z
        exact ⟨_, q2⟩
      · by_cases y : b = T
        · subst y
          obtain ⟨sl, q⟩ := q7 b _ z self
          exact ⟨_, q⟩
        · obtain ⟨sl, q⟩ := q7 b o z ((other b y).trans hb)
          exact ⟨_, q⟩
theorem flight_wp {fl : Value} (hl : s.heap.FunFrames base outer) (t : Trc H s.heap G e C ed fl)
    (h : ∀ h', Trc H h' G e C ed .none → h'.FunFrames base outer → Kp H G [] s.heap h' → (∀ b o, s.heap.get? b = some o → (∀ ws, o.data ≠ .fields ws) → h'.get? b = some o) → Q () { s with heap := h' }) : wpAny M A (setFlight (.ref e) none) Q E s := by
  obtain ⟨hn, hHe, oe, vs, he, hc, hdi, hd, hsz, ht⟩ := t
  unfold setFlight
  rcases ht with ⟨h1, _⟩ | ⟨T, oT, ts, h1, hT, hTe, hHT, gT, hdT, h3⟩
  · refine wpAny_bind (wpAny_field he hd h1 ?_)
    rw [if_neg (by decide)]
    exact wpAny_pure (h s.heap ⟨hn, hHe, oe, vs, he, hc, hdi, hd, hsz, .inl ⟨h1, rfl⟩⟩ hl (Kp.refl ..) fun _ _ e _ => e)
  · have hs3 : 3 < ts.size := (Array.getElem?_eq_some_iff.mp h3).1
    refine wpAny_bind (wpAny_field he hd h1 ?_)
    rw [if_pos (show (Value.ref T != Value.none) = true from by simp)]
    have other : ∀ b, b ≠ T → (s.heap.update T (Obj.mapFields (·.setIfInBounds 3 ((none : Option Addr).elim Value.none fun f => rawInt f)))).get? b = s.heap.get? b := fun b hb => Heap.get?_update_other _ _ (Ne.symm hb)
    have self := Heap.get?_update_self (Obj.mapFields (·.setIfInBounds 3 ((none : Option Addr).elim Value.none fun f => rawInt f))) gT (Obj.isFreed_of_fields (Obj.data_mapFields hdT _))
    refine wpAny_setField gT hdT hs3 (h _ ⟨hn, hHe, oe, vs, (other e (Ne.symm hTe)).trans he, hc, hdi, hd, hsz, .inr ⟨T, _, _, h1, hT, hTe, hHT, self, Obj.data_mapFields hdT _, by simp [hs3]⟩⟩ (hl.of_keeps fun b o hb hnf => ⟨o, (other b fun z => ?_).trans hb, rfl⟩)
      ⟨fun b o hb _ hx => (other b fun z => ?_).trans hb, fun _ _ _ hm => (nomatch hm), fun b o hb => ?_, Nat.le_of_eq (Heap.size_after_update ..).symm⟩ fun b o hb hnf => (other b fun z => ?_).trans hb)
    · subst z
      rw [gT] at hb
      cases hb
      exact hnf ts hdT
    · subst z
      rcases hx with hx | hx
      · exact hx hT
      · exact hx hHT
    · by_cases z : b = T
      · subst z
        exact ⟨_, self⟩
      · exact ⟨o, (other b z).trans hb⟩
    · subst z
      rw [gT] at hb
      cases hb
      exact hnf ts hdT
end
end L2
set_option maxHeartbeats 1000000
namespace L2
open PySem PySem.Spec PyProof.Rows
noncomputable def CXE (P : Program) (w : World) : CXT := fun outer H s E e s' => ∃ a C ed H', e = .ref a ∧ s'.os = s.os ∧ AllBare s'.gens ∧ Un (frs outer) [] H H' s.heap s'.heap ∧ HOk P w H' s'.heap ∧ Trc H' s'.heap s.heap a C ed .none ∧ E C ed H'
theorem Trc.older {H : Hp} {h G G' : Heap} {e : Addr} {C : Value} {ed : Option Addr} {fl : Value} (t : Trc H h G e C ed fl) (hm : ∀ b, G.get? b = none → G'.get? b = none) : Trc H h G' e C ed fl := by
  obtain ⟨hn, hHe, oe, vs, he, hc, hdi, hd, hsz, ht⟩ := t
  refine ⟨hm _ hn, hHe, oe, vs, he, hc, hdi, hd, hsz, ?_⟩
  rcases ht with ht | ⟨T, oT, ts, h1, hT, r⟩
  · exact .inl ht
  · exact .inr ⟨T, oT, ts, h1, hm _ hT, r⟩
theorem get_none {h : Heap} {b : Addr} (hb : h.objs.size ≤ b) : h.get? b = none := Heap.get?_none_of_le hb
theorem Inv.back {X : Cx} {pins : List (Addr × Obj)} {σ : St} {H : Hp} {s : Shared} (I : Inv X pins σ H s) (hex : X.ex = []) (b : Addr) (e : s.heap.get? b = none) : X.s₀.heap.get? b = none := by
  cases q : X.s₀.heap.get? b with
  | none => rfl
  | some o =>
    obtain ⟨o', e'⟩ := I.base.there b o q (by rw [hex]; simp)
    rw [e] at e'; cases e'
structure Cov (X : Cx) (pins : List (Addr × Obj)) (G : Heap) : Prop where
  loc : G.get? X.env.locals ≠ none
  cell : ∀ x c, X.env.cells.lookup x = some c → G.get? c ≠ none
  pin : ∀ p ∈ X.pn ++ pins, G.get? p.1 ≠ none
  old : ∀ b, G.get? b = none → X.s₀.heap.get? b = none
theorem Inv.cov {X : Cx} {pins : List (Addr × Obj)} {σ : St} {H : Hp} {s : Shared} (I : Inv X pins σ H s) (hex : X.ex = []) : Cov X pins s.heap :=
  ⟨by obtain ⟨m, ⟨o, _, _, ho, _⟩, _⟩ := I.loc; rw [ho]; simp, fun x c e => by obtain ⟨v, o, ho, _⟩ := I.cell x c e; rw [ho]; simp, fun p hp => by rw [(I.pin p hp).1]; simp, I.back hex⟩
structure Told (X : Cx) (S : St → Prop) (E : XK) : Prop where
  ex : X.ex = []
  on : ∀ pins σ H s a C ed G, S σ → Inv X pins σ H s → Trc H s.heap G a C ed .none → Cov X pins G → (∀ b, s.heap.get? b = none → G.get? b = none) → E C ed H → X.xe (.ref a) s
theorem Told.passes {X : Cx} {S : St → Prop} {E : XK} (T : Told X S E) {pins : List (Addr × Obj)} {σ : St} {H : Hp} {s s' : Shared} {e : Value} (hS : S σ) (I : Inv X pins σ H s) (h : CXE X.prog X.w X.stack H s E e s') : X.xe e s' := by
  obtain ⟨a, C, ed, H', rfl, os, bare, un, hok, t, q⟩ := h
  have J : Inv X pins σ H' s' := I.call' os un hok bare (fun b z => absurd z (by simp))
  refine T.on pins σ H' s' a C ed s.heap hS J t (I.cov T.ex) (fun b e => ?_) q
  cases z : s.heap.get? b with
  | none => rfl
  | some o =>
    obtain ⟨o', e'⟩ := un.there b o z (by simp)
    rw [e] at e'; cases e'
theorem Kp.hok {P : Program} {w : World} {H : Hp} {G : Heap} {fs : List Addr} {h h' : Heap} (k : Kp H G fs h h') (hf : ∀ b ∈ fs, H b = none) (ok : HOk P w H h) : HOk P w H h' := fun a o e =>
  (ok a o e).stay (fun b u hb q => by
    have hn : H b ≠ none := by
      rcases hb with rfl | hb
      · rw [e]; simp
      · rw [hb]; simp
    exact k.keep b u q (fun z => hn (hf b z)) (.inr hn)) (fun _ q => q) fun _ _ q => q
theorem leave_own {X : Cx} {pins : List (Addr × Obj)} {σ : St} {H : Hp} {s : Shared} {a : Addr} {C : Value} {ed : Option Addr} {E : XK} {E' : Value → Shared → Prop} (hf : X.env.frame = some X.env.locals) (hst : X.stack = X.env :: X.outer) (hex : X.ex = [])
    (I : Inv X pins σ H s) (t : Trc H s.heap X.s₀.heap a C ed .none) (q : E C ed H) :
    wpAny (model X.prog X.w) X.A (leaving X.env (.ref a)) (fun _ s' => CXE X.prog X.w X.outer X.H₀ X.s₀ E (.ref a) s') E' s := by
  have stk : s.heap.FunFrames X.base (X.env :: X.outer) := hst ▸ I.stack
  have sfr : ∀ b ∈ frs (X.env :: X.outer), H b = none := hst ▸ I.stkFree
  unfold leaving
  refine wpAny_bind (note_wp (hst ▸ I.ok.frames) stk hf (fun b hb => I.hok.fresh hb) (fun b hb => I.back hex b (get_none hb)) t fun h1 t1 f1 k1 => ?_)
  refine flight_wp (s := { s with heap := h1 }) (outer := X.env :: X.outer) f1 t1 fun h2 t2 f2 k2 _ => ?_
  have hlt : ∀ b o, X.s₀.heap.get? b = some o → X.s₀.heap.get? b ≠ none := fun b o e => by rw [e]; simp
  have hnl : ∀ b o, X.s₀.heap.get? b = some o → b ≠ X.env.locals := fun b o e => Nat.ne_of_lt (Nat.lt_of_lt_of_le (Heap.lt_size e) I.ok.above)
  have mem : ∀ b, b ∈ frs (X.env :: X.outer) → b = X.env.locals ∨ b ∈ frs X.outer := fun b hb => by
    unfold frs at hb ⊢
    rw [List.filterMap_cons, hf] at hb
    exact List.mem_cons.mp hb
  have mem2 : ∀ b, b ∈ frs X.outer → b ∈ frs (X.env :: X.outer) := fun b hb => by
    unfold frs at hb ⊢
    rw [List.filterMap_cons, hf]
    exact List.mem_cons_of_mem _ hb
  refine ⟨a, C, ed, H, rfl, I.os, I.bare, ⟨fun b o e hn hb _ => ?_, fun b o e hn hb _ => ?_, fun b o e hn _ => ?_, fun b o e _ => ?_, I.base.tups, I.base.frzs, I.base.tbls⟩, k2.hok (fun _ z => absurd z (by simp)) (k1.hok sfr I.hok), t2, q⟩
  · have e1 := I.base.keep b o e hn hb (by rw [hex]; simp)
    have e2 := k1.keep b o e1 (fun z => (mem b z).elim (hnl b o e) hb) (.inl (hlt b o e))
    exact k2.keep b o e2 (by simp) (.inl (hlt b o e))
  · obtain ⟨sl, e1⟩ := I.base.slot b o e hn hb (by rw [hex]; simp)
    obtain ⟨sl', e2⟩ := k1.slot b _ e1 (mem2 b hb)
    exact ⟨sl', k2.keep b _ e2 (by simp) (.inl (hlt b o e))⟩
  · exact I.base.free b o e hn (by rw [hex]; simp)
  · obtain ⟨o1, e1⟩ := I.base.there b o e (by rw [hex]; simp)
    obtain ⟨o2, e2⟩ := k1.there b o1 e1
    exact k2.there b o2 e2
theorem told_cx {P : Program} {w : World} {K : PySem.W.Frag} {mg : Str → Option Value} {base : Heap} {N : List Str} {qual : Str} {scope : Scope} {f : Addr} {cd : Value} {A : Around} {outer : List Env} {s : Shared} {H : Hp} {E : XK} :
    Told (cxOf (CXE P w) P w K mg base N qual scope f cd A outer s H E) (fun _ => True) E := ⟨rfl, fun _ _ _ _ _ _ _ _ _ I t c _ q => leave_own (X := cxOf (CXE P w) P w K mg base N qual scope f cd A outer s H E) rfl rfl rfl I (t.older c.old) q⟩
theorem Fun.okX {P : Program} {w : World} {K : PySem.W.Frag} {mg : Str → Option Value} {base : Heap} {x qual : Str} {st : Stmt} {f : Addr} {fd : FuncData} {N ps : List Str} {k : Nat} {sp : Sp} (F : Fun K x qual st f fd) (S : FnScope N ps (defScope st)) (len : ∀ vs H Q E, sp vs H Q E → vs.length = ps.length)
    (hbody : ∀ (cdv : Value) (A : Around) (outer : List Env) (s : Shared) (H : Hp) (vs : List V) (Q : VK) (E : XK), Room k (A.deeper (envOfC qual (defScope st) s.heap.objs.size f cdv)) → sp vs H Q E →
      ∃ t, PSs (cxOf (CXE P w) P w K mg base N qual (defScope st) f cdv A outer s H E) (defBody st) t ∧ t { nx := fun _ H' => Q .non H', rt := Q } (start N vs) H) : FnOk P w K mg base (CXE P w) (k + 1) f fd ps sp := by
  obtain ⟨oc, od, kV, doc, pm, an, cdv, ct, osl, rfl, lk, hcd⟩ := F.ex
  exact fn_of lk hcd S len fun A outer s H vs Q E hr hsp => hbody cdv A outer s H vs Q E hr hsp
section
variable {X : Cx} {k : Nat} {f C : Addr} {fd : FuncData} {ps : List Str} {sp : Sp} {x m : Str} {p pos apos : Pos} {e o : Expr} {es : List Expr} {ta : TE} {t : TA} {S : St → Prop} {E : XK}
theorem run_fnX {pins : List (Addr × Obj)} {σ : St} {H : Hp} {s : Shared} {Q : VK} {us : List Value} {vs : List V} (T : Told X S E) (F : FnOk X.prog X.w X.K X.mg X.base (CXE X.prog X.w) k f fd ps sp) (hr : Room k X.A) (hb : Binds X.K fd ps []) (hS : S σ)
    (I : Inv X pins σ H s) (r : Vals vs us) (h : sp vs H Q E) : wpAny (model X.prog X.w) X.A (call (.ref f) us) (EP X pins σ Q) X.xe s := by
  have hl : (us ++ ([] : List Value)).length = ps.length := by rw [List.append_nil, ← r.length]; exact F.len _ _ _ _ h
  have bd := hb s us I.kIn hl
  rw [List.append_nil] at bd
  refine wpAny_call (codeAny_mono (F.run X.A X.stack s H ⟨us, []⟩ us vs Q E hr I.env0 bd r h) fun r s' hq => ?_)
  match r, hq with
  | .error e, hq => exact T.passes hS I hq
  | .ok (.ret u), hq => exact I.after hq
  | .ok .next, hq => exact False.elim hq
  | .ok .brk, hq => exact False.elim hq
  | .ok .cont, hq => exact False.elim hq
noncomputable def tCallX (S : St → Prop) (sp : Sp) (E : XK) (t : TA) : TE := fun σ H Q => t σ H fun vs H1 => S σ ∧ sp vs H1 Q E
theorem pe_defX {st : Stmt} (T : Told X S E) (D : DefOk X.K X.mg x st ps f fd) (G : FnOk X.prog X.w X.K X.mg X.base (CXE X.prog X.w) k f fd ps sp) (hr : Room k X.A)
    (hg : Gl X x) (hdb : (x == ("__debug__" : Str)) = false) (hn : (e :: es).all notStar = true) (ha : PA X (e :: es) t) :
    PE X (.Call (.Name x p) (e :: es) [] pos) (tCallX S sp E t) := by
  have hs : notStar e = true ∧ es.all notStar = true := by rw [List.all_cons, Bool.and_eq_true] at hn; exact hn
  intro pins s σ H Q I h
  refine wpAny_Call_Name_kw (ld_glob I hg D.m ?_ hdb)
  refine PySem.W.callWith_K (h₀ := X.base) I.ok.mod.kin D.F.kp (thn (ha pos pins s σ H _ I h) fun us s1 ⟨vs, H1, I1, r, hS, q⟩ => ⟨I1.kIn, ?_⟩) (star_cons hs.1) (back_none hs.2)
  exact run_fnX T G hr D.b hS I1 r q
end
end L2
set_option maxHeartbeats 1000000
namespace L2
open PySem PySem.Spec PyProof.Rows
noncomputable abbrev vbm : List Value := [.type "ValueError", .type "Exception", .type "BaseException", .type "object"]
theorem ns_any {K : PySem.W.Frag} {h : Heap} {N : Addr} {mg : Str → Option Value} {n : Str} {r : Option Value} (X : K.In h) (G : h.Ns N mg) (e : PySem.W.nsIn K N n = some r) : mg n = r := by
  obtain ⟨o, es, ep, ho, hd, _, hf⟩ := G
  unfold PySem.W.nsIn at e
  split at e
  · rename_i q
    have z := X _ _ q
    rw [ho] at z
    cases z
    cases hd
    rw [← hf]
    unfold nsFind findBy
    rw [← Array.find?_toList]
    split at e
    · rename_i he
      rw [he]
      exact Option.some.inj e
    · rename_i he
      rw [he]
      split at e
      · cases e
      · exact Option.some.inj e
  · cases e
noncomputable def exB (K : PySem.W.Frag) (C : Addr) (ini : Option Value) : Bool := match K.lookup C with
  | some ⟨.type "type", _, .cls cd, sl⟩ => (match cd.mro, sl.toList with
    | .ref C' :: bm, [_, _, _, _, some (.builtin n), _] => C' == C && (n == "ValueError.__new__" && (PySem.W.tailIn K vbm bm && (!cd.hasDel && (PySem.W.nsOkIn K cd.ns && PySem.W.nsIn K cd.ns "__init__" == some ini))))
    | _, _ => false)
  | _ => false
theorem exB_obj {K : PySem.W.Frag} {h : Heap} {C : Addr} {ini : Option Value} (X : K.In h) (q : exB K C ini = true) :
    ∃ nm qn N bs bm hd sn sub ab col dd k0 k1 k2 k3 k5, h.get? C = some (excClassObj nm qn C N bs bm hd sn sub ab col dd k0 k1 k2 k3 k5 "ValueError.__new__") ∧ (∃ mN, h.Ns N mN ∧ mN "__init__" = ini) ∧ OwnTail h vbm bm := by
  unfold exB at q
  split at q
  · rename_i dd cd sl ho
    split at q
    · rename_i C' bm k0 k1 k2 k3 n k5 hm hs
      simp only [Bool.and_eq_true, beq_iff_eq, Bool.not_eq_true'] at q
      obtain ⟨rfl, rfl, ht, hdel, hok, hni⟩ := q
      obtain ⟨nm, bs, mro, ns, qn, hd, sn, sub, ab, col, del⟩ := cd
      obtain ⟨l⟩ := sl
      dsimp only at hm hdel hok hni hs
      subst hm hdel hs
      have hN : h.Ns ns (h.nsMap ns) := .of_isNs (PySem.W.isNs_of_in X hok)
      exact ⟨nm, qn, ns, bs, bm, hd, sn, sub, ab, col, dd, k0, k1, k2, k3, k5, X _ _ ho, ⟨_, hN, ns_any X hN hni⟩, PySem.W.tail_of_in X ht⟩
    · cases q
  · cases q
theorem exB_base {h : Heap} {bm : List Value} (T : OwnTail h vbm bm) : bm.contains (.type "BaseException") = true := T.hasType (by decide)
theorem ObjOk.got {P : Program} {w : World} {H : Hp} {h : Heap} {a : Addr} {o : HO} (x : ObjOk P w H h a o) : ∃ u, h.get? a = some u := by
  cases o with
  | lst xs => obtain ⟨_, _, _, _, e⟩ := x; exact ⟨_, e⟩
  | tup xs => obtain ⟨_, _, _, _, e, _⟩ := x; exact ⟨_, e⟩
  | dK kvs => obtain ⟨_, _, _, _, o, _, _, e, _⟩ := x; exact ⟨_, e⟩
  | dT kvs => obtain ⟨_, _, _, _, o, _, _, e, _⟩ := x; exact ⟨_, e⟩
  | set S n => obtain ⟨o, _, _, _, e, _⟩ := x; exact ⟨_, e⟩
  | ins C dx fs => obtain ⟨_, _, _, e, _⟩ := x; exact ⟨_, e⟩
  | own y => exact x
  | xd fs => obtain ⟨_, ⟨_, _, _, e, _⟩, _⟩ := x; exact ⟨_, e⟩
  | rng lo hi => obtain ⟨_, _, _, e⟩ := x; exact ⟨_, e⟩
  | frz ob u => obtain ⟨e, _⟩ := x; exact ⟨_, e⟩
  | tbl ps => exact ⟨_, (show h.get? a = some _ from x)⟩
  | met f y => exact ⟨_, (show h.get? a = some _ from x)⟩
  | ext φ => obtain ⟨_, e, _⟩ := x; exact e
theorem HOk.unheld {P : Program} {w : World} {H : Hp} {h : Heap} {a : Addr} (x : HOk P w H h) (e : h.get? a = none) : H a = none := by
  cases q : H a with
  | none => rfl
  | some o =>
    obtain ⟨u, e'⟩ := (x a o q).got
    rw [e] at e'; cases e'
theorem made_trc {H : Hp} {h h' G : Heap} {e : Addr} {C : Value} {vs : List Value} (m : Heap.MadeExcOf h h' e C vs) (hG : ∀ b, h.get? b = none → G.get? b = none) (hH : ∀ b, h.get? b = none → H b = none) : Trc H h' G e C none .none := by
  obtain ⟨t, he, _, _⟩ := m.there
  exact ⟨hG e m.new, hH e m.new, _, _, he, rfl, rfl, rfl, Nat.lt_of_sub_eq_succ rfl, .inl ⟨rfl, rfl⟩⟩
section
variable {X : Cx} {e : Expr} {es : List Expr} {t : TA} {S : St → Prop} {E : XK}
noncomputable def tRaise (S : St → Prop) (E : XK) (C : Addr) (t : TA) : TS := fun _ σ H => t σ H fun vs H1 => S σ ∧ vs.length ≤ sizeLine ∧ E (.ref C) none H1
theorem ps_raise {x : Str} {np cpos pos : Pos} {C : Addr} (T : Told X S E) (hcalm : X.calm = true) (q : exB X.K C none = true) (hg : Gl X x) (hm : X.mg x = some (.ref C)) (hdb : (x == ("__debug__" : Str)) = false) (hn : (e :: es).all notStar = true) (ha : PA X (e :: es) t) :
    PS X (.Raise (some (.Call (.Name x np) (e :: es) [] cpos)) none pos) (tRaise S E C t) := by
  intro pins s σ H D I h
  have hs : notStar e = true ∧ es.all notStar = true := by rw [List.all_cons, Bool.and_eq_true] at hn; exact hn
  obtain ⟨nm, qn, N, bs, bm, hd, sn, sub, ab, col, dd, k0, k1, k2, k3, k5, hC, ⟨mN, hN, hni⟩, TL⟩ := exB_obj I.ok.mod.kin q
  have F := PySem.F.excBase_ValueError
  refine wpAny_Raise_call_subU (nm := nm) (q := qn) (C := C) (N := N) (bs := bs) (bm := bm) (hdct := hd) (sn := sn) (sub := sub) (ab := ab) (col := col) (dd := dd) (k0 := k0) (k1 := k1) (k2 := k2) (k3 := k3) (k5 := k5) F (by decide) F (exB_base TL) (I.ok.hd hcalm) (back_none hn) hni (ld_glob I hg hm ⟨rfl, ?_⟩ hdb)
  have hst := star_cons (es := es) (env := X.env) hs.1
  have ha2 := ha cpos pins s σ H _ I h
  rw [hst] at ha2 ⊢
  refine Calls.evalArgs_plain (thn ha2 fun us s1 z => ?_)
  obtain ⟨vs, H1, I1, r, hS, hl, qE⟩ := z
  refine ⟨rfl, by rw [← r.length]; exact hl, I1.bk _ _ hC, hN.keeps I1.bk, TL.keeps I1.bk, fun h' a m => ?_⟩
  have J : Inv X pins σ H1 { s1 with heap := h' } := by
    have := I1.kept (h' := h') (t' := s1.toks) m.keeps
    exact this
  refine T.on pins σ H1 _ a (.ref C) none s1.heap hS J (made_trc m (fun b hb => hb) fun b hb => I1.hok.unheld hb) (I1.cov T.ex) (fun b hb => ?_) qE
  cases z : s1.heap.get? b with
  | none => rfl
  | some o =>
    have := m.keeps b o z
    rw [show h'.get? b = none from hb] at this; cases this
end
end L2
set_option maxHeartbeats 1000000
namespace L2
open PySem PySem.Spec PyProof.Rows
section
variable {X : Cx} {pins : List (Addr × Obj)} {σ : St} {H : Hp} {s : Shared} {G : Heap}
theorem Inv.kp {h' : Heap} (I : Inv X pins σ H s) (c : Cov X pins G) (k : Kp H G (frs X.stack) s.heap h') : Inv X pins σ H { s with heap := h' } := by
  have any : ∀ b o, s.heap.get? b = some o → G.get? b ≠ none → ∃ sl, h'.get? b = some { o with slots := sl } := fun b o e hg => by
    by_cases hb : b ∈ frs X.stack
    · exact k.slot b o e hb
    · exact ⟨o.slots, k.keep b o e hb (.inl hg)⟩
  have hG : ∀ b o, X.s₀.heap.get? b = some o → G.get? b ≠ none := fun b o e z => by
    have := c.old b z
    rw [e] at this; cases this
  have nL : ∀ b o, X.s₀.heap.get? b = some o → b ≠ X.env.locals := fun b o e => Nat.ne_of_lt (Nat.lt_of_lt_of_le (Heap.lt_size e) I.ok.above)
  have cellK : ∀ x cc, X.env.cells.lookup x = some cc → ∀ v, s.heap.IsCell cc v → h'.IsCell cc v := fun x cc e v ⟨o, ho, hd⟩ => by
    obtain ⟨sl, q⟩ := any cc o ho (c.cell x cc e)
    exact ⟨_, q, hd⟩
  refine ⟨I.ok, I.os, I.bare, ⟨fun b o e hn hb hx => ?_, fun b o e hn hb hx => ?_, I.base.free, fun b o e hx => ?_, I.base.tups, I.base.frzs, I.base.tbls⟩, ?_, fun x cc e => ?_, I.free, I.freeC, fun p hp => ?_, k.hok I.stkFree I.hok, I.len⟩
  · exact k.keep b o (I.base.keep b o e hn hb hx) (fun z => (List.mem_cons.mp (I.stkSub b z)).elim (nL b o e) hb) (.inl (hG b o e))
  · obtain ⟨sl, e1⟩ := I.base.slot b o e hn hb hx
    obtain ⟨sl', e2⟩ := any b _ e1 (hG b o e)
    exact ⟨sl', e2⟩
  · obtain ⟨o1, e1⟩ := I.base.there b o e hx
    exact k.there b o1 e1
  · obtain ⟨m, ⟨o, es, ep, ho, r⟩, hl⟩ := I.loc
    obtain ⟨sl, q⟩ := any _ o ho c.loc
    refine ⟨m, ⟨_, es, ep, q, r⟩, fun i x v e1 e2 e3 => ?_⟩
    obtain ⟨u, ru, l⟩ := hl i x v e1 e2 e3
    refine ⟨u, ru, ?_⟩
    rcases l with l | ⟨kk, cc, e, z⟩
    · exact .inl l
    · exact .inr ⟨kk, cc, e, cellK x cc e _ z⟩
  · obtain ⟨v, z⟩ := I.cell x cc e
    exact ⟨v, cellK x cc e v z⟩
  · obtain ⟨e, n, ne, nf, d⟩ := I.pin p hp
    exact ⟨k.keep p.1 p.2 e (fun z => (List.mem_cons.mp (I.stkSub p.1 z)).elim ne nf) (.inl (c.pin p hp)), n, ne, nf, d⟩
theorem Inv.hold {a : Addr} {o : HO} (I : Inv X pins σ H s) (c : Cov X pins G) (ha : G.get? a = none) (hH : H a = none) (ok : ObjOk X.prog X.w (upd H a o) s.heap a o) : Inv X pins σ (upd H a o) s := by
  have ne : ∀ b, G.get? b ≠ none → b ≠ a := fun b h z => by subst z; exact h ha
  have ne2 : ∀ b u, H b = some u → b ≠ a := fun b u h z => by subst z; rw [hH] at h; cases h
  have neo : ∀ b o', X.s₀.heap.get? b = some o' → b ≠ a := fun b o' e z => by
    subst z
    have := c.old b ha
    rw [e] at this; cases this
  refine ⟨I.ok, I.os, I.bare, ⟨I.base.keep, I.base.slot, fun b o' e hn hx => by rw [upd_ne (neo b o' e)]; exact I.base.free b o' e hn hx, I.base.there, fun b xs e => ?_, fun b o' u e => ?_, fun b ps e => ?_⟩, I.loc, I.cell, by rw [upd_ne (ne _ c.loc)]; exact I.free, fun x cc e => by rw [upd_ne (ne _ (c.cell x cc e))]; exact I.freeC x cc e, fun p hp => ?_, fun b u e => ?_, I.len⟩
  · have := I.base.tups b xs e
    rw [upd_ne (ne2 b _ this)]; exact this
  · have := I.base.frzs b o' u e
    rw [upd_ne (ne2 b _ this)]; exact this
  · obtain ⟨m, this⟩ := I.base.tbls b ps e
    exact ⟨m, by rw [upd_ne (ne2 b _ this)]; exact this⟩
  · obtain ⟨e, n, r⟩ := I.pin p hp
    exact ⟨e, by rw [upd_ne (ne _ (c.pin p hp))]; exact n, r⟩
  · by_cases z : b = a
    · subst z
      rw [upd_same] at e
      cases e
      exact ok
    · rw [upd_ne z] at e
      exact (I.hok b u e).stay (fun _ _ _ q => q) (fun d q => by rw [upd_ne (ne2 d _ q)]; exact q) fun d xs q => by rw [upd_ne (ne2 d _ q)]; exact q
theorem name_gone {M : Model} {A : Around} {E : Value → Shared → Prop} {i : Nat} {n : Str} {pos : Pos} {Q : Unit → Shared → Prop} (I : Inv X pins σ H s) (hN : X.N.Nodup) (hi : X.N[i]? = some n) (hk : X.env.scope.names.lookup n = some .local)
    (h : ∀ s', Inv X pins (σ.set i none) H s' → Q () s') : wpAny M A (do bindName X.env n .none; unbindBehindTheSuite X.env n pos) Q E s := by
  refine wpAny_bind (wpAny_bindName (store_ok (v := .non) I hN hi (.inl hk) rfl (fun s1 I1 => ?_) (.inr hk)))
  have hcls : (X.env.scope.kind == .class || (X.env.scope.kind == .module && X.env.locals != X.env.globals)) = false := by rw [I.ok.kind]; rfl
  have hiσ : i < σ.length := by rw [I.len]; exact (List.getElem?_eq_some_iff.mp hi).1
  obtain ⟨m, hn, hl⟩ := id I1.loc
  obtain ⟨u, ru, l⟩ := hl i n .non hi (List.getElem?_set_self hiσ) (.inl hk)
  have hv : m n = some u := by
    rcases l with l | ⟨l, _⟩
    · exact l.2
    · have l2 : X.env.scope.names.lookup n = some .cell ∨ X.env.scope.names.lookup n = some .free := l
      rw [hk] at l2
      rcases l2 with l2 | l2 <;> cases l2
  unfold unbindBehindTheSuite
  refine wpAny_onRaise (wpAny_unbindName_local hk hn hv hcls fun h' u' hn' hs => h _ ?_)
  obtain ⟨oL, _, _, hoL, _⟩ := id hn
  refine ⟨I1.ok, I1.os, I1.bare, ⟨fun b o e n hb hx => ?_, fun b o e n hb hx => ?_, I1.base.free, fun b o e hx => ?_, I1.base.tups, I1.base.frzs, I1.base.tbls⟩, ⟨_, hn', fun j y v' e1 e2 e3 => ?_⟩, fun y c e => ?_, I1.free, I1.freeC, fun p hp => ?_, fun b ob e => ?_, by simpa using I.len⟩
  · exact (hs.2 b (Nat.ne_of_lt (Nat.lt_of_lt_of_le (Heap.lt_size e) I1.ok.above))).trans (I1.base.keep b o e n hb hx)
  · obtain ⟨sl, e1⟩ := I1.base.slot b o e n hb hx
    exact ⟨sl, (hs.2 b (Nat.ne_of_lt (Nat.lt_of_lt_of_le (Heap.lt_size e) I1.ok.above))).trans e1⟩
  · obtain ⟨o', e1⟩ := I1.base.there b o e hx
    exact ⟨o', (hs.2 b (Nat.ne_of_lt (Nat.lt_of_lt_of_le (Heap.lt_size e) I1.ok.above))).trans e1⟩
  · by_cases hj : j = i
    · subst hj
      rw [List.getElem?_set_self hiσ] at e2
      cases e2
    · rw [List.getElem?_set_ne (Ne.symm hj)] at e2
      obtain ⟨w, rw', q⟩ := hl j y v' e1 (by rw [List.getElem?_set_ne (Ne.symm hj)]; exact e2) e3
      refine ⟨w, rw', ?_⟩
      rcases q with ⟨kk, e⟩ | ⟨kk, c, e, z⟩
      · refine .inl ⟨kk, ?_⟩
        have : y ≠ n := fun e => hj (nodup_ix hN e1 (e ▸ hi))
        simp [this, e]
      · exact .inr ⟨kk, c, e, z.sameBut hs (I1.cne y c e)⟩
  · obtain ⟨w', z⟩ := I1.cell y c e
    exact ⟨w', z.sameBut hs (I1.cne y c e)⟩
  · obtain ⟨e, n, ne, nf, d⟩ := I1.pin p hp
    exact ⟨(hs.2 p.1 ne).trans e, n, ne, nf, d⟩
  · refine (I1.hok b ob e).stay (fun c w' hc q => (hs.2 c ?_).trans q) (fun _ q => q) fun _ _ q => q
    rintro rfl
    rcases hc with rfl | hc
    · rw [I1.free] at e; cases e
    · rw [I1.free] at hc; cases hc
end
end L2
set_option maxHeartbeats 1000000
namespace L2
open PySem PySem.Spec PyProof.Rows
noncomputable def ExO (a : Addr) (C : Value) (ed : Option Addr) : HO := .ext fun h => ∃ oe vs, h.get? a = some oe ∧ oe.cls = C ∧ oe.dict = ed ∧ oe.data = .fields vs
theorem exo_ok {P : Program} {w : World} {H : Hp} {h : Heap} {a : Addr} {C : Value} {ed : Option Addr} (x : ∃ oe vs, h.get? a = some oe ∧ oe.cls = C ∧ oe.dict = ed ∧ oe.data = .fields vs) : ObjOk P w H h a (ExO a C ed) :=
  ⟨x, (let ⟨oe, _, e, _⟩ := x; ⟨oe, e⟩), fun h1 h2 ⟨oe, vs, e, r⟩ k => ⟨oe, vs, k oe e, r⟩⟩
noncomputable def Cx.inTry (X : Cx) (pins : List (Addr × Obj)) (W : Value → Shared → Prop) : Cx := { X with xe := W, pn := X.pn ++ pins }
noncomputable def Cx.inHand (X : Cx) (a : Addr) : Cx := { X with A := X.A.mark (some (.ref a)), calm := false, xe := fun _ _ => False }
section
variable {X : Cx} {pins : List (Addr × Obj)} {σ : St} {H : Hp} {s : Shared} {G : Heap} {W : Value → Shared → Prop}
theorem Inv.inTry (I : Inv X pins σ H s) : Inv (X.inTry pins W) [] σ H s :=
  have ok := I.ok
  ⟨⟨ok.mod, ok.kind, ok.glob, ok.blt, ok.above, ok.inj, ok.has, ok.cab, ok.hd, ok.frames, ok.stk, ok.exf, ok.bs, ok.bsz, ok.noex, ok.exfs, ok.funs, ok.frf⟩, I.os, I.bare, I.base, I.loc, I.cell, I.free, I.freeC,
    fun p hp => I.pin p (by rw [List.append_nil] at hp; exact hp), I.hok, I.len⟩
theorem Inv.offTry {pins' : List (Addr × Obj)} (I : Inv (X.inTry pins W) pins' σ H s) : Inv X pins σ H s :=
  have ok := I.ok
  ⟨⟨ok.mod, ok.kind, ok.glob, ok.blt, ok.above, ok.inj, ok.has, ok.cab, ok.hd, ok.frames, ok.stk, ok.exf, ok.bs, ok.bsz, ok.noex, ok.exfs, ok.funs, ok.frf⟩, I.os, I.bare, I.base, I.loc, I.cell, I.free, I.freeC,
    fun p hp => I.pin p (List.mem_append_left _ hp), I.hok, I.len⟩
theorem Cov.offTry {pins' : List (Addr × Obj)} (c : Cov (X.inTry pins W) pins' G) : Cov X pins G := ⟨c.loc, c.cell, fun p hp => c.pin p (List.mem_append_left _ hp), c.old⟩
theorem Inv.inHand {a : Addr} (I : Inv X pins σ H s) : Inv (X.inHand a) pins σ H s :=
  have ok := I.ok
  ⟨⟨ok.mod, ok.kind, ok.glob, ok.blt, ok.above, ok.inj, ok.has, ok.cab, (fun z => nomatch z), ok.frames, ok.stk, ok.exf, ok.bs, ok.bsz, ok.noex, ok.exfs, ok.funs, ok.frf⟩, I.os, I.bare, I.base, I.loc, I.cell, I.free, I.freeC, I.pin, I.hok, I.len⟩
theorem Inv.offHand {a : Addr} (I : Inv (X.inHand a) pins σ H s) (ox : X.Ok) : Inv X pins σ H s := ⟨ox, I.os, I.bare, I.base, I.loc, I.cell, I.free, I.freeC, I.pin, I.hok, I.len⟩
end
noncomputable def tryW (X : Cx) (pins : List (Addr × Obj)) (σ : St) (E : XK) : Value → Shared → Prop := fun e s => ∃ a C ed H G, e = .ref a ∧ Inv X pins σ H s ∧ Trc H s.heap G a C ed .none ∧ Cov X pins G ∧ (∀ b, s.heap.get? b = none → G.get? b = none) ∧ E C ed H
theorem told_try {X : Cx} {pins : List (Addr × Obj)} {σ : St} {E : XK} (hex : X.ex = []) : Told (X.inTry pins (tryW X pins σ E)) (fun σ' => σ' = σ) E :=
  ⟨hex, fun _ _ H _ a C ed G hS I t c hG q => ⟨a, C, ed, H, G, rfl, by subst hS; exact I.offTry, t, c.offTry, hG, q⟩⟩
noncomputable def PH (X : Cx) (hs : List ExceptHandler) (th : Value → Option Addr → TS) : Prop :=
  ∀ (pins : List (Addr × Obj)) (s : Shared) (σ : St) (H : Hp) (D : Ends) (a : Addr) (C : Value) (ed : Option Addr) (G : Heap), Inv X pins σ H s → Trc H s.heap G a C ed .none → Cov X pins G → th C ed D σ H →
    wpAny (model X.prog X.w) X.A (handleBy (.ref a) X.env hs) (SP X pins D) X.xe s
theorem ph_nil {X : Cx} : PH X [] (fun _ _ _ _ _ => False) := fun _ _ _ _ _ _ _ _ _ _ _ _ h => h.elim
noncomputable def subB (K : PySem.W.Frag) (C B : Addr) : Bool := match K.lookup C with
  | some ⟨_, _, .cls cd, _⟩ => cd.mro.contains (.ref B)
  | _ => false
theorem sub_of {K : PySem.W.Frag} {h : Heap} {C B : Addr} {ini : Option Value} {nm qn : Str} {N : Addr} {bs bm : List Value} {hd : Bool} {sn : List Str} {sub : List Value} {ab : Bool} {col : Option Bool} {dd : Option Addr} {k0 k1 k2 k3 k5 : Option Value} {nw : String} (X : K.In h) (q : exB K C ini = true)
    (hC : h.get? C = some (excClassObj nm qn C N bs bm hd sn sub ab col dd k0 k1 k2 k3 k5 nw)) : subB K C B = (Value.ref C :: bm).contains (.ref B) := by
  unfold exB at q
  split at q
  · rename_i ho
    have e := X _ _ ho
    rw [hC] at e
    cases e
    unfold subB
    rw [ho]
  · cases q
theorem match_own {M : Model} {A : Around} {E : Value → Shared → Prop} {h : Heap} {g : Array GenState} {d : Drawn} {t : Nat} {os : OsState} {e C B : Addr} {oe : Obj} {Q : Bool → Shared → Prop}
    {nm qn : Str} {N : Addr} {bs bm : List Value} {hd : Bool} {sn : List Str} {sub : List Value} {ab : Bool} {col : Option Bool} {dd : Option Addr} {k0 k1 k2 k3 k5 : Option Value} {nw : String}
    {nm' qn' : Str} {N' : Addr} {bs' bm' : List Value} {hd' : Bool} {sn' : List Str} {sub' : List Value} {ab' : Bool} {col' : Option Bool} {dd' : Option Addr} {l0 l1 l2 l3 l5 : Option Value} {nw' : String}
    (hC : h.get? C = some (excClassObj nm qn C N bs bm hd sn sub ab col dd k0 k1 k2 k3 k5 nw)) (hB : h.get? B = some (excClassObj nm' qn' B N' bs' bm' hd' sn' sub' ab' col' dd' l0 l1 l2 l3 l5 nw'))
    (he : h.get? e = some oe) (hcls : oe.cls = .ref C) (hbase : bm'.contains (.type "BaseException") = true) (hq : Q ((Value.ref C :: bm).contains (.ref B)) ⟨h, g, d, t, os⟩) : wpAny M A (excMatches (.ref e) (.ref B)) Q E ⟨h, g, d, t, os⟩ := by
  have hcB : (Value.ref B :: bm').contains (.type "BaseException") = true := by rw [List.contains_cons, hbase, Bool.or_true]
  have f := tc_notTuple
  unfold excMatches
  repeat (first | (with_reducible refine wpAny_loadPart_at he ?_; rw [hcls]) | with_reducible refine wpAny_loadPart_at hB ?_ | (with_reducible refine wpAny_isSubtype_exc hB ?_; rw [hcB]) | with_reducible refine wpAny_isSubtype_exc hC ?_ | wp_step)
  cases hb : (Value.ref C :: bm).contains (.ref B) <;> (rw [hb] at hq; wp_walk; exact hq)
end L2
set_option maxHeartbeats 1000000
namespace L2
open PySem PySem.Spec PyProof.Rows
noncomputable def offE (i : Nat) (D : Ends) : Ends := { nx := fun σ H => D.nx (σ.set i none) H, rt := D.rt, bk := fun σ H => D.bk (σ.set i none) H, ct := fun σ H => D.ct (σ.set i none) H }
noncomputable def tAs (K : PySem.W.Frag) (B : Addr) (i : Nat) (ts : TS) (thr : Value → Option Addr → TS) : Value → Option Addr → TS := fun C ed D σ H => ∃ Cc ini b, C = .ref Cc ∧ exB K Cc ini = true ∧ subB K Cc B = b ∧
  if b = true then (∀ a, H a = none → ts (offE i D) (σ.set i (some (.ref a))) (upd H a (ExO a C ed))) else thr C ed D σ H
section
variable {X : Cx}
theorem Kp.wide' {H : Hp} {G : Heap} {h h' : Heap} {fs : List Addr} (k : Kp H G [] h h') (hd : ∀ b ∈ fs, ∀ o, h.get? b = some o → ∃ sl, h'.get? b = some { o with slots := sl }) : Kp H G fs h h' :=
  ⟨fun b o e _ hx => k.keep b o e (by simp) hx, fun b o e hm => hd b hm o e, k.there, k.size⟩
theorem ph_as {x n : Str} {np hpos : Pos} {b₀ : Stmt} {suite : List Stmt} {rest : List ExceptHandler} {ts : TS} {thr : Value → Option Addr → TS} {B : Addr} {i : Nat} {inB : Option Value} (hg : Gl X x) (hm : X.mg x = some (.ref B)) (qB : exB X.K B inB = true) (hdb : (x == ("__debug__" : Str)) = false)
    (hN : X.N.Nodup) (hi : X.N[i]? = some n) (hk : X.env.scope.names.lookup n = some .local) (hsu : ∀ a, PSs (X.inHand a) (b₀ :: suite) ts) (hr : PH X rest thr) :
    PH X (.ExceptHandler (some (.Name x np)) (some n) (b₀ :: suite) hpos :: rest) (tAs X.K B i ts thr) := by
  intro pins s σ H D a C ed G I t c h
  obtain ⟨Cc, ini, b, rfl, q, hb, h⟩ := h
  have Ih : Inv (X.inHand a) pins σ H s := I.inHand
  refine wpAny_handleBy_cons (codeAny_handlers_test (ld_glob (X := X.inHand a) Ih hg hm ?_ hdb)) (by intro z; cases z)
  obtain ⟨_, qn, N, bs, bm, hd, sn, sub, ab, col, dd, k0, k1, k2, k3, k5, hC, _, TL⟩ := exB_obj I.kIn q
  obtain ⟨_, qn', N', bs', bm', hd', sn', sub', ab', col', dd', l0, l1, l2, l3, l5, hB, _, TB⟩ := exB_obj I.kIn qB
  obtain ⟨ha, hHa, oe, vs, he, hcl, hdi, hda, hsz, htb⟩ := id t
  obtain ⟨sh, sg, sd, stk, sos⟩ := s
  refine match_own hC hB he hcl (exB_base TB) ?_
  rw [← sub_of I.kIn q hC, hb]
  cases b with
  | false =>
    rw [if_neg Bool.false_ne_true] at h
    exact hr pins _ σ H D a _ ed G I t c h
  | true =>
    rw [if_pos rfl] at h
    refine codeAny_handlers_suite_as ?_
    refine flight_wp (outer := X.stack) I.stack t fun h1 t1 f1 kp1 kn1 => ?_
    have I1 : Inv X pins σ H { heap := h1, gens := sg, drawn := sd, toks := stk, os := sos } := I.kp c (kp1.wide' fun b hm o e => ?_)
    · have Ia : Inv X pins σ (upd H a (ExO a (.ref Cc) ed)) { heap := h1, gens := sg, drawn := sd, toks := stk, os := sos } := by
        obtain ⟨_, _, oe1, vs1, he1, hcl1, hdi1, hda1, _⟩ := id t1
        exact I1.hold c ha hHa (exo_ok ⟨oe1, vs1, he1, hcl1, hdi1, hda1⟩)
      refine store_ok (X := X.inHand a) (v := .ref a) Ia.inHand hN hi (.inl hk) rfl (fun s2 I2 => ?_) (.inr hk)
      refine wpAny_mono (hsu a pins s2 _ _ _ I2 (h a hHa)) (fun f s3 z => ?_) fun _ _ z => z.elim
      show wpAny _ X.A (do bindName X.env n .none; unbindBehindTheSuite X.env n hpos) _ _ s3
      cases f with
      | next =>
        obtain ⟨σ', H', J, z⟩ := z
        exact name_gone (J.offHand I.ok) hN hi hk fun s4 J4 => ⟨_, H', J4, z⟩
      | brk =>
        obtain ⟨σ', H', J, z⟩ := z
        exact name_gone (J.offHand I.ok) hN hi hk fun s4 J4 => ⟨_, H', J4, z⟩
      | cont =>
        obtain ⟨σ', H', J, z⟩ := z
        exact name_gone (J.offHand I.ok) hN hi hk fun s4 J4 => ⟨_, H', J4, z⟩
      | ret u =>
        obtain ⟨v, σ', H', J, rv, z⟩ := z
        exact name_gone (J.offHand I.ok) hN hi hk fun s4 J4 => ⟨v, _, H', J4, rv, z⟩
    · obtain ⟨_, o', ho', hnf⟩ := I.stack.mem hm
      have e' := ho'.symm.trans e
      cases e'
      exact ⟨o.slots, kn1 b o ho' hnf⟩
noncomputable def tTry (tb : St → XK → TS) (th : Value → Option Addr → TS) : TS := fun D σ H => tb σ (fun C ed H' => th C ed D σ H') D σ H
theorem ps_try {body : List Stmt} {h₀ : ExceptHandler} {hs : List ExceptHandler} {pos : Pos} {tb : St → XK → TS} {th : Value → Option Addr → TS} (hst : X.stack = X.env :: X.outer) (hfr : X.env.frame = some X.env.locals)
    (hb : ∀ (pins : List (Addr × Obj)) (σ : St) (E : XK), PSs (X.inTry pins (tryW X pins σ E)) body (tb σ E)) (hh : PH X (h₀ :: hs) th) : PS X (.Try body (h₀ :: hs) [] [] pos) (tTry tb th) := by
  intro pins s σ H D I h
  refine wpAny_Try_except (wpAny_mono (hb pins σ _ [] s σ H D I.inTry h) (fun f s1 z => ?_) fun e s1 z => ?_)
  · cases f with
    | next =>
      obtain ⟨σ', H', J, z⟩ := z
      exact wpAny_execs_nil ⟨σ', H', J.offTry, z⟩
    | brk =>
      obtain ⟨σ', H', J, z⟩ := z
      exact ⟨σ', H', J.offTry, z⟩
    | cont =>
      obtain ⟨σ', H', J, z⟩ := z
      exact ⟨σ', H', J.offTry, z⟩
    | ret u =>
      obtain ⟨v, σ', H', J, rv, z⟩ := z
      exact ⟨v, σ', H', J.offTry, rv, z⟩
  · obtain ⟨a, C, ed, H', G, rfl, J, t, c, hG, q⟩ := z
    refine note_wp (hst ▸ J.ok.frames) (hst ▸ J.stack) hfr (fun b hb => J.hok.fresh hb) ?_ t fun h1 t1 f1 k1 => ?_
    · exact fun b hb => hG b (get_none hb)
    · have J1 : Inv X pins σ H' { s1 with heap := h1 } := J.kp c (hst ▸ k1)
      refine flight_wp (s := { s1 with heap := h1 }) (outer := X.env :: X.outer) f1 t1 fun h2 t2 f2 k2 kn2 => ?_
      have J2 : Inv X pins σ H' { s1 with heap := h2 } := J1.kp c (k2.wide' fun b hm o e => ?_)
      · exact hh pins _ σ H' D a C ed G J2 t2 c q
      · have fs1 : h1.FunFrames X.base X.stack := hst ▸ f1
        obtain ⟨_, o', ho', hnf⟩ := fs1.mem hm
        have e' := ho'.symm.trans e
        cases e'
        exact ⟨o.slots, kn2 b o ho' hnf⟩
end
end L2
set_option maxHeartbeats 1000000
namespace L2
open PySem PySem.Spec PyProof.Rows
section
variable {prog : Program} {w : World} {A : Around} {E : Value → Shared → Prop} {s : Shared} {K : PySem.W.Frag} {a C : Addr} {ox : Obj} {od : Option Obj} {name : Str}
structure XCls (K : PySem.W.Frag) (C : Addr) : Prop where
  ga : PySem.W.findIn K (.ref C) "__getattribute__" = some (some (.builtin "BaseException.__getattribute__"))
  gh : PySem.W.findIn K (.ref C) "__getattr__" = some none
  base : PySem.W.mroIn K C (.type "BaseException") = some true
  obj : PySem.W.mroIn K C (.type "object") = some true
  hd : PySem.W.hasDictIn K C = true
  cl : PySem.W.findIn K (.ref C) "__class__" = some (some (.builtin "object.__class__"))
  cg : PySem.W.specialIn K (.builtin "object.__class__") "__get__" = some (some (.builtin "getset_descriptor.__get__"))
  ct : PySem.W.takesIn K (.builtin "object.__class__") = some true
theorem xga_call {tk : Tok} {R : Result → Shared → Prop} (c : XCls K C) (X : K.In s.heap) (I : PySem.W.InstAt s.heap a ox C od)
    (h : wpAny (model prog w) A.in1 (Builtin.«object.__getattribute__» ⟨[.ref a, .str name tk], []⟩) (fun fin s' => match fin with | .done f => R (.ok f) s' | .again c' => c'.quiet = true ∧ codeAny (model prog w) A c' R s') (fun e s' => R (.error e) s') s) :
    codeAny (model prog w) A (.call (.builtin "BaseException.__getattribute__") ⟨[.ref a, .str name tk], []⟩) R s := by
  have hi : PySem.W.Looks (model prog w) s.heap (isInstance (.ref a) (.type "BaseException")) true := I.type.andThen (PySem.W.looks_mroIn X c.base)
  have hk : builtinKind "BaseException.__getattribute__" = some .slot := by decide +kernel
  have hs : splitId "BaseException.__getattribute__" = some ("BaseException", "__getattribute__") := by decide +kernel
  refine codeAny_call_builtin PySem.F.attr_ValueError.ga.plain PySem.F.entry_bexc_ga (@PySem.W.check_slot (model prog w) _ _ s "BaseException.__getattribute__" "BaseException" "__getattribute__" (.ref a) [.str name tk] [] _ hk hs hi (PySem.F.args_bexc_ga _ _) ?_)
  exact h
theorem xget_by {tk : Tok} {fill expr : Bool} {v : Value} {Q : Value → Shared → Prop} (c : XCls K C) (X : K.In s.heap) (I : PySem.W.InstAt s.heap a ox C od) (hh : PySem.W.handedIn v = true)
    (h : ∀ R : Result → Shared → Prop, R (.ok (.ret v)) s → codeAny (model prog w) A (.call (.builtin "BaseException.__getattribute__") ⟨[.ref a, .str name tk], []⟩) R s) (q : Q v s) :
    wpAny (model prog w) A (getAttrBy (.ref a) (.str name tk) fill expr) Q E s := by
  obtain ⟨sh, g, d, t, os⟩ := s
  have L0 := I.type (M := model prog w)
  have L1 := PySem.W.looks_findIn (M := model prog w) X c.ga
  have L2 := PySem.W.looks_findIn (M := model prog w) X c.gh
  have f3 := PySem.F.attr_ValueError.ga.bind (.ref a)
  have hx2 : (Value.builtin "BaseException.__getattribute__" == Value.builtin "object.__getattribute__") = false := by decide +kernel
  unfold getAttrBy
  refine wpAny_holding (wpAny_bind (L0.at (wpAny_bind (L1.at ?_))))
  dsimp only
  rw [hx2, Bool.and_false, if_neg Bool.false_ne_true]
  unfold getAttrByItsOwn hookBefore
  refine wpAny_bind ?_
  rw [if_pos (show onTheHeap (Value.ref C) = true from rfl)]
  refine L2.at (wpAny_bind (wpAny_attempt (wpAny_holding ?_)))
  unfold callGetattribute boundAndCalled
  rw [if_neg (by cases expr <;> decide)]
  rw [f3]
  refine wpAny_bind (wpAny_pure (wpAny_call (h _ ?_)))
  show wpAny _ _ (handedOut v) _ _ _
  rw [PySem.W.handedOut_of hh]
  exact wpAny_pure q
theorem xget_class {tk : Tok} {R : Result → Shared → Prop} (c : XCls K C) (X : K.In s.heap) (I : PySem.W.InstAt s.heap a ox C od) (q : R (.ok (.ret (.ref C))) s) :
    codeAny (model prog w) A (.call (.builtin "BaseException.__getattribute__") ⟨[.ref a, .str "__class__" tk], []⟩) R s := by
  have hf : PySem.W.findObj K C od "__class__" = some (.bind (.builtin "getset_descriptor.__get__") (.builtin "object.__class__")) := by
    obtain ⟨cd, hc, _⟩ := PySem.W.any_some c.hd
    unfold PySem.W.findObj
    rw [hc, Option.bind_some, c.cl, Option.bind_some]
    simp [c.cg, c.ct]
  refine xga_call c X I ?_
  obtain ⟨sh, g, d, t, os⟩ := s
  have L0 := I.type (M := model prog w)
  have L1 := PySem.W.looks_find (M := model prog w) X I hf
  unfold Builtin.«object.__getattribute__»
  refine wpAny_bind (wpAny_pure (wpAny_bind (wpAny_pure (wpAny_bind (L0.at (wpAny_bind (L1.at ?_)))))))
  dsimp only
  refine wpAny_bind (wpAny_holding (wpAny_call (PySem.W.class_get (s := ⟨sh, g, d, t, os⟩) X I c.obj ?_)))
  exact wpAny_pure q
end
end L2
set_option maxHeartbeats 1000000
namespace L2
open PySem PySem.Spec PyProof.Rows
section
variable {K : PySem.W.Frag} {a C : Addr}
theorem kitx_exc (c : XCls K C) : PySem.W.KitX K (.ref a) (.ref C) (fun h => ∃ ox od, PySem.W.InstAt h a ox C od) where
  ty := fun _ _ _ ⟨_, _, I⟩ => I.type
  it := fun _ _ X _ => by
    obtain ⟨cd, hc, _⟩ := PySem.W.any_some c.hd
    unfold PySem.W.clsIn at hc
    split at hc
    · rename_i ho
      intro A' Q' E' s' k q
      unfold isType loadHead
      exact wpAny_bind (wpAny_loadPart (k _ _ (X _ _ ho)) (wpAny_pure q))
    · cases hc
  ne := fun h tp dd its n sl X htp => by
    obtain ⟨cd, hc, _⟩ := PySem.W.any_some c.hd
    refine Bool.eq_false_iff.mpr fun q => ?_
    have e : C = tp := Value.ref.inj (beq_iff_eq.mp q)
    subst e
    unfold PySem.W.clsIn at hc
    split at hc
    · rename_i ho
      have z := (X _ _ ho).symm.trans htp
      cases z
    · cases hc
  ca := fun {prog w A E Q s} X p k => by
    obtain ⟨ox, od, I⟩ := p
    unfold getAttr? getAttrBy?
    refine wpAny_bind (wpAny_mkText (wpAny_bind (wpAny_attempt ?_)))
    refine xget_by (s := { s with toks := s.toks + 1 }) c X I rfl (fun R q => xget_class (s := { s with toks := s.toks + 1 }) c X I q) ?_
    exact wpAny_pure k
end
noncomputable def XdOk (H : Hp) (ed : Option Addr) : Prop := ed = none ∨ ∃ dx fs, ed = some dx ∧ H dx = some (.xd fs)
section
variable {P : Program} {w : World} {H : Hp} {h : Heap} {a C : Addr} {ed : Option Addr}
theorem exo_inst (hok : HOk P w H h) (e : H a = some (ExO a (.ref C) ed)) (hd : XdOk H ed) : ∃ ox od, PySem.W.InstAt h a ox C od := by
  obtain ⟨⟨oe, vs, e1, e2, e3, e4⟩, _⟩ := (show ObjOk P w H h a (ExO a (.ref C) ed) from hok a _ e)
  have hn : PySem.W.notCls oe = true := by
    obtain ⟨c, d, dt, sl⟩ := oe
    cases e4
    rfl
  rcases hd with rfl | ⟨dx, fs, rfl, hx⟩
  · exact ⟨oe, none, e1, e2, hn, by rw [e3]; trivial⟩
  · obtain ⟨mA, hns, _⟩ := (show ObjOk P w H h dx (.xd fs) from hok dx _ hx)
    obtain ⟨od, ho, _⟩ := lookIn_ns hns
    exact ⟨oe, some od, e1, e2, hn, by rw [e3]; exact ho⟩
end
section
variable {X : Cx}
noncomputable def rIsX (K : PySem.W.Frag) : List V → Hp → VK → Prop := fun xs H Q => ∃ a C ed b, H a = some (ExO a (.ref C) ed) ∧ XdOk H ed ∧ XCls K C ∧ ((∃ B, xs = [.ref a, .ref B] ∧ PySem.W.kitOne K (.ref C) (.ref B) = some b) ∨ ∃ S, xs = [.ref a, .ty S] ∧ PySem.W.kitOne K (.ref C) (.type S) = some b) ∧ Q (.bl b) H
theorem call_isX : CallR X (.builtin "isinstance") (rIsX X.K) := by
  intro pins s σ H xs us Q I r h
  obtain ⟨a, C, ed, b, e, hd, c, hx, q⟩ := h
  have J := exo_inst I.hok e hd
  rcases hx with ⟨B, rfl, hk⟩ | ⟨S, rfl, hk⟩
  · obtain ⟨u, z, rfl, ru, rz⟩ := vals2 r
    cases (show u = Value.ref a from ru)
    cases (show z = Value.ref B from rz)
    exact PySem.W.kia_one (kitx_exc c) I.kIn J hk (fun z => nomatch z) fun tk => ⟨.bl b, H, I.tok _, rfl, q⟩
  · obtain ⟨u, z, rfl, ru, rz⟩ := vals2 r
    cases (show u = Value.ref a from ru)
    cases rz
    exact PySem.W.kia_one (kitx_exc c) I.kIn J hk (fun z => nomatch z) fun tk => ⟨.bl b, H, I.tok _, rfl, q⟩
theorem k_isX {K : PySem.W.Frag} (e : X.K = K) : CallR X (.builtin "isinstance") (rIsX K) := by subst e; exact call_isX
noncomputable def tXF (K : PySem.W.Frag) (te : TE) (f : Str) : TE := fun σ H Q => te σ H fun x H1 => ∃ a C dx fs v, x = .ref a ∧ H1 a = some (ExO a (.ref C) (some dx)) ∧ H1 dx = some (.xd fs) ∧ XCls K C ∧ NoAttr K C f ∧ fs.lookup f = some v ∧ Q v H1
end
end L2
set_option maxHeartbeats 1000000
namespace L2
open PySem PySem.Spec PyProof.Rows
theorem refuse_tail {h : Heap} {self : Value} : ∀ {tl : List Value}, OwnTail h vbm tl → refuseLoop self "__setattr__" tl = pure ()
  | _, .base => PySem.F.store_ValueError.passes self
  | _, .own _ _ _ T => by rw [refuseLoop_ref]; exact refuse_tail T
section
variable {prog : Program} {w : World} {A : Around} {E : Value → Shared → Prop} {h : Heap} {g : Array GenState} {d : Drawn} {t : Nat} {os : OsState} {K : PySem.W.Frag}
variable {nm q : Str} {C N a : Addr} {bs bm : List Value} {sn : List Str} {sub : List Value} {ab : Bool} {col : Option Bool} {dd : Option Addr} {k0 k1 k2 k3 k5 : Option Value} {newId : String} {name : Str} {v : Value} {o : Obj} {vs : Array Value}
theorem xset_entry {tk : Tok} {Q : Fin → Shared → Prop} (X : K.In h) (hC : h.get? C = some (excClassObj nm q C N bs bm true sn sub ab col dd k0 k1 k2 k3 k5 newId)) (hpass : refuseLoop (.ref a) "__setattr__" bm = pure ())
    (hna : PySem.W.findIn K (.ref C) name = some none) (hx : h.get? a = some o) (hc : o.cls = .ref C) (hd : o.data = .fields vs) (hdn : o.dict = none)
    (hq : ∀ h' tk', h'.get? a = some { o with dict := some h.objs.size } → h'.Ns1 h.objs.size (fun y => if y = name then some v else none) → (∀ b u, b ≠ a → h.get? b = some u → h'.get? b = some u) → Q (.done (.ret .none)) ⟨h', g, d, tk', os⟩) :
    wpAny (model prog w) A (Builtin.«object.__setattr__» ⟨[.ref a, .str name tk, v], []⟩) Q E ⟨h, g, d, t, os⟩ := by
  have L3 := PySem.W.looks_findIn (M := model prog w) X hna
  unfold Builtin.«object.__setattr__»
  repeat (first | rw [refuse_eq] | (rw [refuseLoop_ref, hpass]) | (with_reducible refine wpAny_loadPart_at hx ?_; rw [hc]) | with_reducible refine wpAny_mroOf_exc hC ?_ | with_reducible refine L3.at ?_ | wp_step)
  rw [hdn]
  dsimp only
  rw [if_neg (by simp [typeHasDict]), hd]
  dsimp only
  have ne : a ≠ h.objs.size := Nat.ne_of_lt (Heap.lt_size hx)
  have g1 : (h.push { cls := .type "dict", data := .dict #[] }).get? a = some o := Heap.get?_push_of_some _ hx
  refine wpAny_bind (wpAny_alloc' (wpAny_bind (wpAny_update' g1 (wpAny_pure ?_))))
  generalize hH : (h.push { cls := .type "dict", data := .dict #[] }).update a (fun o => { cls := o.cls, dict := some h.objs.size, data := o.data, slots := o.slots }) = h1
  have g2 : h1.get? h.objs.size = some { cls := .type "dict", data := .dict #[] } := by
    rw [← hH]
    exact (Heap.get?_update_ne _ _ _ _ ne.symm).trans (Heap.get?_push_at rfl rfl)
  have g3 : h1.get? a = some { cls := o.cls, dict := some h.objs.size, data := o.data, slots := o.slots } := by
    rw [← hH]
    refine Heap.get?_update_self _ g1 ?_
    have fr := (Heap.get?_some_iff.mp hx).2
    obtain ⟨oc, od, odt, osl⟩ := o
    cases odt <;> first | rfl | exact fr
  have g4 : ∀ b u, b ≠ a → h.get? b = some u → h1.get? b = some u := fun b u hb e => by
    rw [← hH]
    exact (Heap.get?_update_ne _ _ _ _ hb).trans (Heap.get?_push_of_some _ e)
  have n1 : h1.Ns h.objs.size (fun _ => none) := ⟨_, #[], _, g2, rfl, fun e he => absurd he (by simp), fun _ => rfl⟩
  show wpAny _ _ (Builtin.ObjectAttr.storeInDict h.objs.size (.str name tk) name v) _ _ _
  unfold Builtin.ObjectAttr.storeInDict Builtin.ObjectAttr.newKeyGuard
  refine wpAny_bind (wpAny_pure (wpAny_bind (wpAny_nsSet1 (Heap.Ns1.of_empty n1) fun h2 n2 hs => ?_)))
  obtain ⟨oD, esD, epD, hoD, hdD, hcD⟩ := n2.count (Within.cons name v Within.nil)
  refine wpAny_bind (wpAny_lookBehind hoD (by rw [hdD]; exact pastItsLine_dict (Nat.le_trans hcD (by rw [List.length_cons, List.length_nil, sizeLine_eq]; omega))) ?_)
  wp_walk
  exact hq h2 _ ((hs.2 a ne).trans g3) n2 fun b u hb e => (hs.2 b (Nat.ne_of_lt (Heap.lt_size e))).trans (g4 b u hb e)
theorem xset_attr {Q : Unit → Shared → Prop} (X : K.In h) (hC : h.get? C = some (excClassObj nm q C N bs bm true sn sub ab col dd k0 k1 k2 k3 k5 newId)) (T : OwnTail h vbm bm) (hsa : PySem.W.findIn K (.ref C) "__setattr__" = some (some (.builtin "object.__setattr__")))
    (hna : PySem.W.findIn K (.ref C) name = some none) (hx : h.get? a = some o) (hc : o.cls = .ref C) (hd : o.data = .fields vs) (hdn : o.dict = none)
    (hq : ∀ h' tk', h'.get? a = some { o with dict := some h.objs.size } → h'.Ns1 h.objs.size (fun y => if y = name then some v else none) → (∀ b u, b ≠ a → h.get? b = some u → h'.get? b = some u) → Q () ⟨h', g, d, tk', os⟩) :
    wpAny (model prog w) A (setAttr (.ref a) name v) Q E ⟨h, g, d, t, os⟩ := by
  have SF := PySem.F.store_ValueError
  have J : PySem.W.InstAt h a o C none := ⟨hx, hc, by obtain ⟨c, d, dt, sl⟩ := o; cases hd; rfl, by rw [hdn]; trivial⟩
  have hob : PySem.W.Looks (model prog w) h (isInstance (.ref a) (.type "object")) true := J.type.andThen fun A Q E s k z => by
    obtain ⟨sh, sg, sd, st, so⟩ := s
    refine wpAny_isSubtype_exc (k _ _ hC) ?_
    have : (Value.ref C :: bm).contains (.type "object") = true := by rw [List.contains_cons, T.hasType (X := "object") (b := true) (by decide), Bool.or_true]
    rw [this]; exact z
  refine PySem.W.set_plain (s := ⟨h, g, d, t, os⟩) X J hsa ?_
  refine codeAny_call_builtin SF.slot.plain SF.entry (@PySem.W.check_slot (model prog w) _ _ ⟨h, g, d, t + 1, os⟩ "object.__setattr__" "object" "__setattr__" (.ref a) [.str name t, v] [] _ SF.kind SF.split hob (SF.args (.ref a) (.str name t) v) ?_)
  exact xset_entry X hC (refuse_tail T) hna hx hc hd hdn fun h' tk' e1 e2 e3 => hq h' tk' e1 e2 e3
end
end L2
set_option maxHeartbeats 1000000
namespace L2
open PySem PySem.Spec PyProof.Rows
noncomputable def ExN (a : Addr) (C : Value) (ed : Option Addr) : HO := .ext fun h => ∃ oe vs, h.get? a = some oe ∧ oe.cls = C ∧ oe.dict = ed ∧ oe.data = .fields vs ∧ 1 < vs.size ∧ vs[1]? = some .none
theorem exn_ok {P : Program} {w : World} {H : Hp} {h : Heap} {a : Addr} {C : Value} {ed : Option Addr} (x : ∃ oe vs, h.get? a = some oe ∧ oe.cls = C ∧ oe.dict = ed ∧ oe.data = .fields vs ∧ 1 < vs.size ∧ vs[1]? = some .none) : ObjOk P w H h a (ExN a C ed) :=
  ⟨x, (let ⟨oe, _, e, _⟩ := x; ⟨oe, e⟩), fun _ _ ⟨oe, vs, e, r⟩ k => ⟨oe, vs, k oe e, r⟩⟩
theorem exn_get {P : Program} {w : World} {H : Hp} {h : Heap} {a : Addr} {C : Value} {ed : Option Addr} (hok : HOk P w H h) (e : H a = some (ExN a C ed)) : ∃ oe vs, h.get? a = some oe ∧ oe.cls = C ∧ oe.dict = ed ∧ oe.data = .fields vs ∧ 1 < vs.size ∧ vs[1]? = some .none :=
  (show ObjOk P w H h a (ExN a C ed) from hok a _ e).1
noncomputable def dropH (H : Hp) (a : Addr) : Hp := fun b => if b = a then none else H b
theorem drop_ne {H : Hp} {a b : Addr} (h : b ≠ a) : dropH H a b = H b := by unfold dropH; rw [if_neg h]
theorem drop_same {H : Hp} {a : Addr} : dropH H a a = none := by unfold dropH; rw [if_pos rfl]
section
variable {X : Cx} {pins : List (Addr × Obj)} {σ : St} {H : Hp} {s : Shared} {a : Addr}
theorem Inv.dropX {C : Value} {ed : Option Addr} (I : Inv X pins σ H s) (e : H a = some (ExN a C ed)) : Inv X pins σ (dropH H a) s := by
  have keep : ∀ b o, H b = some o → (∀ φ, o ≠ .ext φ) → dropH H a b = some o := fun b o q n => by
    rw [drop_ne]
    · exact q
    · intro z
      subst z
      rw [e] at q
      exact n _ (Option.some.inj q).symm
  have none_ : ∀ b, H b = none → dropH H a b = none := fun b q => by
    unfold dropH
    split
    · rfl
    · exact q
  refine ⟨I.ok, I.os, I.bare, ⟨I.base.keep, I.base.slot, fun b o q n hx => none_ b (I.base.free b o q n hx), I.base.there, fun b xs q => keep b _ (I.base.tups b xs q) (fun _ z => nomatch z), fun b o u q => keep b _ (I.base.frzs b o u q) (fun _ z => nomatch z), fun b ps q => ?_⟩, I.loc, I.cell, none_ _ I.free, fun x c q => none_ _ (I.freeC x c q), fun p hp => ?_, fun b o q => ?_, I.len⟩
  · obtain ⟨m, q⟩ := I.base.tbls b ps q
    exact ⟨m, keep b _ q (fun _ z => nomatch z)⟩
  · obtain ⟨e1, n, r⟩ := I.pin p hp
    exact ⟨e1, none_ _ n, r⟩
  · have hb : H b = some o := by
      unfold dropH at q
      split at q
      · cases q
      · exact q
    exact (I.hok b o hb).stay (fun _ _ _ z => z) (fun d z => keep d _ z (fun _ y => nomatch y)) fun d xs z => keep d _ z (fun _ y => nomatch y)
theorem hasDict_is {K : PySem.W.Frag} {h : Heap} {C : Addr} {nm qn : Str} {N : Addr} {bs bm : List Value} {hd : Bool} {sn : List Str} {sub : List Value} {ab : Bool} {col : Option Bool} {dd : Option Addr} {k0 k1 k2 k3 k5 : Option Value} {nw : String} (X : K.In h) (q : PySem.W.hasDictIn K C = true)
    (hC : h.get? C = some (excClassObj nm qn C N bs bm hd sn sub ab col dd k0 k1 k2 k3 k5 nw)) : hd = true := by
  obtain ⟨cd, hc, hdd⟩ := PySem.W.any_some q
  unfold PySem.W.clsIn at hc
  split at hc
  · rename_i ho
    have e := X _ _ ho
    rw [hC] at e
    cases e
    cases hc
    exact hdd
  · cases hc
noncomputable def sXset (K : PySem.W.Frag) (ta tv : TE) (f : Str) : TS := fun D σ H => tv σ H fun y H1 => ta σ H1 fun x H2 => ∃ a C ini, x = .ref a ∧ H2 a = some (ExN a (.ref C) none) ∧ exB K C ini = true ∧ PySem.W.hasDictIn K C = true ∧
  PySem.W.findIn K (.ref C) "__setattr__" = some (some (.builtin "object.__setattr__")) ∧ NoAttr K C f ∧ ∀ dx, H2 dx = none → dx ≠ a → D.nx σ (upd (upd H2 dx (.xd [(f, y)])) a (ExN a (.ref C) (some dx)))
theorem ps_xset {o value : Expr} {f : Str} {pos pos' : Pos} {ta tv : TE} (ha : PE X o ta) (hv : PE X value tv) (hs : swapsWith value (some (.Attribute o f pos')) pos.line X.env = pure false) : PS X (.Assign [.Attribute o f pos'] value pos) (sXset X.K ta tv f) := by
  intro pins s σ H D I h
  refine plainObj_wpAny_Assign_Attribute (thn (hv pins s σ H _ I h) fun u s1 ⟨y, H1, I1, ry, q⟩ => thn (ha pins s1 σ H1 _ I1 q) fun ov s2 ⟨x, H2, I2, rx, a, C, ini, ex, ea, qC, hd, hsa, na, q2⟩ => ?_) hs
  subst ex
  obtain rfl : ov = Value.ref a := rx
  obtain ⟨_, qn, N, bs, bm, hd', sn, sub, ab, col, dd, k0, k1, k2, k3, k5, hC, _, TL⟩ := exB_obj I2.kIn qC
  obtain rfl := hasDict_is I2.kIn hd hC
  obtain ⟨oe, vs, e1, e2, e3, e4, e5, e6⟩ := exn_get I2.hok ea
  have fr : H2 s2.heap.objs.size = none := I2.hok.fresh (Nat.le_refl _)
  have nea : s2.heap.objs.size ≠ a := Nat.ne_of_gt (Heap.lt_size e1)
  obtain ⟨sh, sg, sd, st, so⟩ := s2
  refine xset_attr I2.kIn hC TL hsa na e1 e2 e4 e3 fun h' tk' g1 g2 g3 => ⟨σ, _, ?_, q2 sh.objs.size fr nea⟩
  have nb : ∀ b, H2 b = none → b ≠ a := fun b z y => by subst y; rw [ea] at z; cases z
  have ob : ∀ b u, H2 b = some u → (∀ φ, u ≠ .ext φ) → upd (upd H2 sh.objs.size (.xd [(f, y)])) a (ExN a (.ref C) (some sh.objs.size)) b = some u := fun b u z n => by
    have h1 : b ≠ a := fun y => by subst y; rw [ea] at z; exact n _ (Option.some.inj z).symm
    have h2 : b ≠ sh.objs.size := fun y => by subst y; rw [fr] at z; cases z
    rw [upd_ne h1, upd_ne h2]; exact z
  refine I2.step (g' := sg) (d' := sd) (ch := []) (fun _ z => nomatch z) (fun b o _ _ _ z n => g3 b o (nb b n) z) (fun b o _ _ _ z n => ⟨o.slots, g3 b o (nb b n) z⟩) (fun b o _ z n => ?_) (fun b o _ z => ?_)
    (fun b xs z => ob b _ z (fun _ y => nomatch y)) (fun b o u z => ob b _ z (fun _ y => nomatch y)) (fun b ps z => ⟨#[], by rw [Array.append_empty]; exact ob b _ z (fun _ y => nomatch y)⟩) (fun m hm => ?_) (fun b o z => ?_) I2.bare
  · rw [upd_ne (nb b n), upd_ne (Nat.ne_of_lt (Heap.lt_size z))]; exact n
  · by_cases y : b = a
    · subst y; exact ⟨_, g1⟩
    · exact ⟨o, g3 b o y z⟩
  · obtain ⟨o, es, ep, ho, r⟩ := hm
    exact ⟨o, es, ep, g3 _ o (nb _ I2.free) ho, r⟩
  · by_cases ya : b = a
    · subst ya
      rw [upd_same] at z
      cases z
      exact exn_ok ⟨_, vs, g1, e2, rfl, e4, e5, e6⟩
    · rw [upd_ne ya] at z
      by_cases y2 : b = sh.objs.size
      · subst y2
        rw [upd_same] at z
        cases z
        refine ⟨_, g2, fun g => ?_⟩
        show RelO (putF f y [] |>.lookup g) (if g = f then some u else none)
        rw [lookup_putF]
        by_cases q : g = f
        · rw [if_pos q, if_pos q]; exact ry
        · rw [if_neg q, if_neg q]; exact True.intro
      · rw [upd_ne y2] at z
        refine (I2.hok b o z).stay (fun c w hc e => g3 c w ?_ e) (fun c z => ob c _ z (fun _ y => nomatch y)) fun c xs z => ob c _ z (fun _ y => nomatch y)
        rcases hc with rfl | hc
        · exact ya
        · intro y3
          subst y3
          rw [ea] at hc
          cases hc
end
end L2
set_option maxHeartbeats 1000000
namespace L2
open PySem PySem.Spec PyProof.Rows
section
variable {prog : Program} {w : World} {A : Around} {E : Value → Shared → Prop} {h : Heap} {g : Array GenState} {d : Drawn} {t : Nat} {os : OsState}
variable {nm qn : Str} {C N : Addr} {bs bm : List Value} {hd : Bool} {sn : List Str} {sub : List Value} {ab : Bool} {col : Option Bool} {dd : Option Addr} {k0 k1 k2 k3 k5 : Option Value}
theorem xcall_body {mN : Str → Option Value} {rest : List Value} {fI : Addr} {oI : Obj} {Q : PySem.Fin → Shared → Prop}
    (hC : h.get? C = some (excClassObj nm qn C N bs bm hd sn sub ab col dd k0 k1 k2 k3 k5 "ValueError.__new__")) (T : OwnTail h vbm bm) (hn : h.Ns N mN) (hi : mN "__init__" = some (.ref fI)) (hfI : h.get? fI = some oI) (hfc : oI.cls = .type "function")
    (hq : ∀ h' e, Heap.MadeExcOf h h' e (.ref C) rest → wpAny (model prog w) A (call (.ref fI) (.ref e :: rest)) (fun r s' => r = .none ∧ Q (.done (.ret (.ref e))) s') E ⟨h', g, d, t, os⟩) (hrest : rest.length ≤ sizeLine) :
    wpAny (model prog w) A (Builtin.«type.__call__» ⟨.ref C :: rest, []⟩) Q E ⟨h, g, d, t, os⟩ := by
  have F := PySem.F.excBase_ValueError
  have hB : vbm.contains (.type "ValueError") = true := by decide
  repeat (first | with_reducible refine wpAny_loadPart_at hC ?_ | with_reducible refine wpAny_madeBy_exc hC ?_ | wp_step)
  refine codeAny_call_builtin_code (Code.quiet_builtin _ F.quiet) (wpAny_check_new_subU F hB T hC ?_)
  refine codeAny_exc_new_subU F hB F T hC ?_ hrest
  show wpAny _ _ _ _ _ _
  generalize hO : ({ cls := .ref C, data := .fields #[.ref h.objs.size, .none, .none, .none, .bool false, .none] } : Obj) = O
  generalize hP : ({ cls := .type "tuple", data := .seq rest.toArray } : Obj) = P
  have kp : ∀ b o, h.get? b = some o → ((h.push P).push O).get? b = some o := fun b o e => Heap.get?_push_of_some _ (Heap.get?_push_of_some _ e)
  have e0 : ((h.push P).push O).get? (h.objs.size + 1) = some O := Heap.get?_push_at (by simp only [Heap.size_push]) (by rw [← hO]; rfl)
  have e1 : ((h.push P).push O).get? h.objs.size = some P := Heap.get?_push_of_some _ (Heap.get?_push_at rfl (by rw [← hP]; rfl))
  have hcC : (Value.ref C :: bm).contains (.ref C) = true := by simp
  have oc : O.cls = .ref C := by rw [← hO]
  unfold isInstance
  repeat (first | (with_reducible refine wpAny_loadPart_at e0 ?_; rw [oc]) | (with_reducible refine wpAny_isSubtype_exc (kp _ _ hC) ?_; rw [hcC]) | wp_step)
  show wpAny _ _ (typeLookup (.ref C) _) _ _ _
  refine wpAny_typeLookup_tail (kp _ _ hC) (hn.keeps kp) (T.keeps kp) F.mroIs F.init.lookup ?_
  rw [hi]
  refine wpAny_holding (wpAny_bind ?_)
  unfold bindSpecial
  refine wpAny_bind (wpAny_typeOf (T := "function") ⟨_, kp _ _ hfI, hfc⟩ ?_)
  rw [if_pos (by decide)]
  refine wpAny_pure (wpAny_bind (wpAny_mono (hq _ (h.objs.size + 1) ⟨kp, Heap.get?_none_of_le (Nat.le_succ _), h.objs.size, by rw [e0, ← hO], Heap.get?_none_of_le (Nat.le_refl _), by rw [e1, ← hP]⟩) (fun r s' hr => ?_) fun _ _ x => x))
  obtain ⟨rfl, hQ⟩ := hr
  wp_walk
  exact hQ
theorem xcall_init {mN : Str → Option Value} {rest : List Value} {fI : Addr} {oI : Obj} {Q : Value → Shared → Prop}
    (hC : h.get? C = some (excClassObj nm qn C N bs bm hd sn sub ab col dd k0 k1 k2 k3 k5 "ValueError.__new__")) (T : OwnTail h vbm bm) (hn : h.Ns N mN) (hi : mN "__init__" = some (.ref fI)) (hfI : h.get? fI = some oI) (hfc : oI.cls = .type "function")
    (hq : ∀ h' e, Heap.MadeExcOf h h' e (.ref C) rest → wpAny (model prog w) (A.under (.builtin "type.__call__" ⟨.ref C :: rest, []⟩)) (call (.ref fI) (.ref e :: rest)) (fun r s' => r = .none ∧ Q (.ref e) s') E ⟨h', g, d, t, os⟩) (hrest : rest.length ≤ sizeLine) :
    wpAny (model prog w) A (call (.ref C) rest) Q E ⟨h, g, d, t, os⟩ := by
  have f1 := tc_lookup
  have f2 := tc_bind (.ref C)
  have hT : (⟨h, g, d, t, os⟩ : Shared).TypeIs (.ref C) "type" := ⟨_, hC, rfl⟩
  refine wpAny_call (codeAny_of_tree ?_)
  show wpAny _ _ (callAny (.ref C) _) _ _ _
  repeat (any_goals (first | assumption | with_reducible refine wpAny_loadPart_at hC ?_ | wp_step))
  refine ⟨rfl, ?_⟩
  exact codeAny_call_builtin_at (Code.quiet_builtin _ (by decide +kernel)) entry_typeCall (wpAny_check_type_call_sub hC (xcall_body hC T hn hi hfI hfc (fun h' e hm => hq h' e hm) hrest))
theorem xraise_any {M : Model} {env : Env} {s : Shared} {x : Sem Value} {Q : Flow → Shared → Prop} (hh : A.handled = none)
    (hq : wpAny M A x (fun v s₁ => ∃ e oe, v = .ref e ∧ s₁.heap.get? C = some (excClassObj nm qn C N bs bm hd sn sub ab col dd k0 k1 k2 k3 k5 "ValueError.__new__") ∧ OwnTail s₁.heap vbm bm ∧ s₁.heap.get? e = some oe ∧ oe.cls = .ref C ∧ (∃ vs, oe.data = .fields vs ∧ vs[1]? = some .none) ∧ E (.ref e) s₁) E s) :
    wpAny M A (raiseStmt env (some x) none) Q E s := by
  unfold raiseStmt
  refine wpAny_bind (wpAny_mono hq (fun v s₁ h₁ => ?_) fun _ _ x => x)
  obtain ⟨e, oe, rfl, hC, T, he, hcls, ⟨vs, hdt, h1⟩, hE⟩ := h₁
  have hcB : (Value.ref C :: bm).contains (.type "BaseException") = true := by rw [List.contains_cons, exB_base T, Bool.or_true]
  obtain ⟨hp, g, d, tk, os⟩ := s₁
  repeat (first | (with_reducible refine wpAny_loadPart_at he ?_; (try rw [hcls])) | with_reducible refine wpAny_loadPart_at hC ?_ | (with_reducible refine wpAny_isSubtype_exc hC ?_; rw [hcB]) | wp_step)
  rw [hdt]
  refine wpAny_pure ?_
  rw [h1]
  refine wpAny_pure ?_
  rw [if_neg (by decide)]
  exact wpAny_pure (wpAny_raiseNew_none hh hE)
end
section
variable {X : Cx} {e : Expr} {es : List Expr} {t : TA} {S : St → Prop} {E : XK} {k : Nat} {f C : Addr} {fd : FuncData} {ps : List Str} {sp : Sp}
noncomputable def tRaiseI (S : St → Prop) (E : XK) (C : Addr) (sp : Sp) (t : TA) : TS := fun _ σ H => t σ H fun vs H1 => S σ ∧ vs.length ≤ sizeLine ∧ ∀ a, H1 a = none → sp (.ref a :: vs) (upd H1 a (ExN a (.ref C) none)) (fun v H2 => v = .non ∧ ∃ ed, H2 a = some (ExN a (.ref C) ed) ∧ E (.ref C) ed (dropH H2 a)) E0
theorem ps_raiseI {x : Str} {np cpos pos : Pos} (T : Told X S E) (hcalm : X.calm = true) (q : exB X.K C (some (.ref f)) = true) (hfn : PySem.W.isFn X.K (.ref f) = true) (F : FnOk X.prog X.w X.K X.mg X.base CX0 k f fd ps sp) (hr : Room (k + 1) X.A) (hb : Binds X.K fd ps []) (hkp : PySem.W.keepIn X.K (.ref C) = true)
    (hg : Gl X x) (hm : X.mg x = some (.ref C)) (hdb : (x == ("__debug__" : Str)) = false) (hn : (e :: es).all notStar = true) (ha : PA X (e :: es) t) :
    PS X (.Raise (some (.Call (.Name x np) (e :: es) [] cpos)) none pos) (tRaiseI S E C sp t) := by
  intro pins s σ H D I h
  have hs : notStar e = true ∧ es.all notStar = true := by rw [List.all_cons, Bool.and_eq_true] at hn; exact hn
  obtain ⟨nm, qn, N, bs, bm, hd, sn, sub, ab, col, dd, k0, k1, k2, k3, k5, hC, ⟨mN, hN, hni⟩, TL⟩ := exB_obj I.ok.mod.kin q
  rw [arm_exec_Raise]
  simp only [evalOpt, Option.map]
  refine wpAny_bind (wpAny_standAt (xraise_any (C := C) (nm := nm) (qn := qn) (N := N) (bs := bs) (bm := bm) (hd := hd) (sn := sn) (sub := sub) (ab := ab) (col := col) (dd := dd) (k0 := k0) (k1 := k1) (k2 := k2) (k3 := k3) (k5 := k5) (I.ok.hd hcalm) ?_))
  refine wpAny_bind (wpAny_mono (Q := fun v s₁ => ∃ e oe, v = .ref e ∧ s₁.heap.get? C = some (excClassObj nm qn C N bs bm hd sn sub ab col dd k0 k1 k2 k3 k5 "ValueError.__new__") ∧ OwnTail s₁.heap vbm bm ∧ s₁.heap.get? e = some oe ∧ oe.cls = .ref C ∧ (∃ vs, oe.data = .fields vs ∧ vs[1]? = some .none) ∧ X.xe (.ref e) s₁) ?_ (fun v s₃ h₃ => wpAny_bind (wpAny_standAt (wpAny_pure h₃))) fun _ _ x => x)
  refine wpAny_Call_Name_kw (ld_glob I hg hm ?_ hdb)
  refine PySem.W.callWith_K (h₀ := X.base) I.ok.mod.kin hkp (thn (ha cpos pins s σ H _ I h) fun us s1 z => ?_) (star_cons hs.1) (back_none hs.2)
  obtain ⟨vs, H1, I1, r, hS, hl, hi⟩ := z
  refine ⟨I1.kIn, ?_⟩
  obtain ⟨oI, hoI, hfc⟩ : ∃ oI, X.base.get? f = some oI ∧ oI.cls = .type "function" := by
    have e1 := beq_iff_eq.mp hfn
    unfold PySem.W.typeIn at e1
    obtain ⟨o, ho, hc⟩ := Option.map_eq_some_iff.mp e1
    exact ⟨o, I.ok.mod.kin _ _ ho, hc⟩
  have hus : us.length ≤ sizeLine := by rw [← r.length]; exact hl
  obtain ⟨sh, sg, sd, st, so⟩ := s1
  show wpAny _ _ (call (.ref C) us) _ _ _
  refine xcall_init (I1.bk _ _ hC) (TL.keeps I1.bk) (hN.keeps I1.bk) hni (I1.bk _ _ hoI) hfc (fun h' a m => ?_) hus
  have hHa : H1 a = none := I1.hok.unheld m.new
  obtain ⟨tp, ht, _, _⟩ := m.there
  have J1 : Inv X pins σ H1 ⟨h', sg, sd, st, so⟩ := I1.kept (h' := h') (t' := st) m.keeps
  have J2 : Inv X pins σ (upd H1 a (ExN a (.ref C) none)) ⟨h', sg, sd, st, so⟩ := J1.hold (I1.cov T.ex) m.new hHa (exn_ok ⟨_, _, ht, rfl, rfl, rfl, Nat.lt_of_sub_eq_succ rfl, rfl⟩)
  have r2 : Vals (V.ref a :: vs) (Value.ref a :: us) := .cons rfl r
  have sp1 := hi a hHa
  have hlen : (Value.ref a :: us ++ ([] : List Value)).length = ps.length := by rw [List.append_nil, ← r2.length]; exact F.len _ _ _ _ sp1
  have bd := hb ⟨h', sg, sd, st, so⟩ (Value.ref a :: us) J2.kIn hlen
  rw [List.append_nil] at bd
  refine wpAny_call (codeAny_mono (F.run _ X.stack _ _ ⟨Value.ref a :: us, []⟩ (Value.ref a :: us) _ _ E0 (hr.make C us []) (J2.env0.make C us []) bd r2 sp1) fun res s' hq => ?_)
  match res, hq with
  | .error e, hq => exact False.elim hq
  | .ok .next, hq => exact False.elim hq
  | .ok .brk, hq => exact False.elim hq
  | .ok .cont, hq => exact False.elim hq
  | .ok (.ret u), hq =>
    obtain ⟨v, H', os', bare, un, hok, rv, rfl, ed, hx, qE⟩ := hq
    have J3 : Inv X pins σ H' s' := J2.call' os' un hok bare (fun b z => absurd z (by simp))
    obtain ⟨oe, ws, g1, g2, g3, g4, g5, g6⟩ := exn_get J3.hok hx
    refine ⟨rv, a, oe, rfl, J3.bk _ _ hC, TL.keeps J3.bk, g1, g2, ⟨ws, g4, g6⟩, ?_⟩
    refine T.on pins σ (dropH H' a) s' a (.ref C) ed sh hS (J3.dropX hx) ⟨m.new, drop_same, oe, ws, g1, g2, g3, g4, g5, .inl ⟨g6, rfl⟩⟩ (I1.cov T.ex) (fun b hb => ?_) qE
    cases z : sh.get? b with
    | none => rfl
    | some o =>
      obtain ⟨o', e'⟩ := un.there b o (m.keeps b o z) (by simp)
      rw [hb] at e'; cases e'
end
end L2
set_option maxHeartbeats 1000000
namespace L2
open PySem PySem.Spec PyProof.Rows
section
variable {X : Cx} {k : Nat} {f C : Addr} {fd : FuncData} {ps : List Str} {sp : Sp} {x m : Str} {p pos apos : Pos} {e o : Expr} {es : List Expr} {ta : TE} {t : TA} {S : St → Prop} {E : XK}
noncomputable def tMethX (S : St → Prop) (C : Addr) (m : Str) (sp : Sp) (E : XK) (ta : TE) (t : TA) : TE := fun σ H Q => ta σ H fun x H1 => ∃ a dx fs, x = .ref a ∧ H1 a = some (.ins C dx fs) ∧ fs.lookup m = none ∧ t σ H1 fun vs H2 => S σ ∧ sp (x :: vs) H2 Q E
noncomputable def tMakeX (S : St → Prop) (C : Addr) (sp : Sp) (E : XK) (t : TA) : TE := fun σ H Q => t σ H fun vs H1 => S σ ∧ ∀ x dx, H1 x = none → H1 dx = none → dx ≠ x → sp (.ref x :: vs) (upd (upd H1 dx (.own x)) x (.ins C dx [])) (fun v H2 => v = .non ∧ Q (.ref x) H2) E
end
end L2
set_option maxHeartbeats 1000000
namespace L2
open PySem PySem.Spec PyProof.Rows
noncomputable def inCls (s : Stmt) (j : Nat) : Stmt := match s with
  | .ClassDef _ _ _ b _ _ _ _ _ _ _ => b.getD j (.Pass ⟨0, 0, 0, 0⟩)
  | _ => .Pass ⟨0, 0, 0, 0⟩
structure MthOk (K : PySem.W.Frag) (x qual : Str) (st : Stmt) (ps : List Str) (f : Addr) (fd : FuncData) : Prop where
  F : Fun K x qual st f fd
  b : Binds K fd ps []
  fn : PySem.W.isFn K (.ref f) = true
structure ExcOk (K : PySem.W.Frag) (mg : Str → Option Value) (x : Str) (c : Addr) (ini : Option Value) : Prop where
  m : mg x = some (.ref c)
  x : exB K c ini = true
  kp : PySem.W.keepIn K (.ref c) = true
  xc : XCls K c
  sa : PySem.W.findIn K (.ref c) "__setattr__" = some (some (.builtin "object.__setattr__"))
structure OwnOk (K : PySem.W.Frag) (mg : Str → Option Value) (x : Str) (c fi : Addr) : Prop where
  m : mg x = some (.ref c)
  cls : Cls K c
  mkr : Mk K c fi
theorem exc_mk {K : PySem.W.Frag} {h : Heap} {mg : Str → Option Value} {x : Str} {c : Addr} {ini : Option Value} (X : K.In h) (G : h.Ns mainGlobals mg) (a : PySem.W.nsIn K mainGlobals x = some (some (.ref c))) (e : exB K c ini = true) (kp : PySem.W.keepIn K (.ref c) = true)
    (ga : PySem.W.findIn K (.ref c) "__getattribute__" = some (some (.builtin "BaseException.__getattribute__"))) (gh : PySem.W.findIn K (.ref c) "__getattr__" = some none) (ba : PySem.W.mroIn K c (.type "BaseException") = some true) (ob : PySem.W.mroIn K c (.type "object") = some true) (hd : PySem.W.hasDictIn K c = true)
    (cl : PySem.W.findIn K (.ref c) "__class__" = some (some (.builtin "object.__class__"))) (cg : PySem.W.specialIn K (.builtin "object.__class__") "__get__" = some (some (.builtin "getset_descriptor.__get__"))) (ct : PySem.W.takesIn K (.builtin "object.__class__") = some true)
    (sa : PySem.W.findIn K (.ref c) "__setattr__" = some (some (.builtin "object.__setattr__"))) : ExcOk K mg x c ini := ⟨PySem.W.mg_of X G a, e, kp, ⟨ga, gh, ba, ob, hd, cl, cg, ct⟩, sa⟩
theorem own_mk {K : PySem.W.Frag} {h : Heap} {mg : Str → Option Value} {x : Str} {c fi : Addr} (X : K.In h) (G : h.Ns mainGlobals mg) (a : PySem.W.nsIn K mainGlobals x = some (some (.ref c))) (pg : PySem.W.plainGet K c Str.empty = true) (hd : PySem.W.hasDictIn K c = true) (po : PySem.W.plainOver K c = true)
    (sa : PySem.W.findIn K (.ref c) "__setattr__" = some (some (.builtin "object.__setattr__"))) (ma : PySem.W.makesIn K c = true) (i : PySem.W.findIn K (.ref c) "__init__" = some (some (.ref fi))) (fn : PySem.W.isFn K (.ref fi) = true) (kp : PySem.W.keepIn K (.ref c) = true) : OwnOk K mg x c fi :=
  ⟨PySem.W.mg_of X G a, ⟨pg, hd, po, sa⟩, ⟨ma, i, fn, kp⟩⟩
section
variable {X : Cx}
theorem pgcl {x : Str} {c : Addr} {pos : Pos} (hm : X.mg x = some (.ref c)) (hg : Gl X x) (hd : (x == ("__debug__" : Str)) = false) : PE X (.Name x pos) (tC (.ref c)) := pe_glob hg hm rfl hd
end
theorem bt_ValueError : bootBuiltins "ValueError" = some (.type "ValueError") := by decide +kernel
end L2
set_option maxHeartbeats 1000000
namespace L2
open PySem PySem.Spec PyProof.Rows
noncomputable def Ite (K : PySem.W.Frag) (a : Addr) : It where
  go := fun i H => ∃ xs x, SqL K H a xs ∧ xs[i]? = some x
  yld := fun i H y H' => ∃ p x, H p = none ∧ y = .ref p ∧ (∀ ys, SqL K H a ys → ys[i]? = some x) ∧ H' = upd H p (.tup [.int i, x])
  stop := fun i H => ∃ xs, SqL K H a xs ∧ xs.length ≤ i
theorem turn_enum {P : Program} {w : World} {K : PySem.W.Frag} {elts : List Expr} {x1 : Nat} {tpos : Pos} (a e it : Addr) (hne : e ≠ it) : Turn P w K (.Tuple elts x1 tpos) (Ite K a) [e, it] e (fun i h => ∃ old, IsEnum h e it i old ∧ h.IsListIter it a i) where
  mem := by simp
  obj := fun i h st b hb => by
    obtain ⟨old, h1, o, h2, c, d⟩ := st
    rcases List.mem_cons.mp hb with rfl | hb
    · exact ⟨_, h1, fun v z => nomatch z⟩
    · cases List.mem_singleton.mp hb
      exact ⟨o, h2, fun v z => by rw [d] at z; cases z⟩
  keep := fun i h h' st k => by
    obtain ⟨old, h1, h2⟩ := st
    exact ⟨old, k e (by simp) _ h1, h2.at fun o z => k it (by simp) o z⟩
  item := by
    intro X hP hw hK hc i pins s σ H E I hf st hg
    subst hP hw hK
    obtain ⟨xs, x, hq, hx⟩ := hg
    obtain ⟨its, rv, p, hz⟩ := I.list hq
    obtain ⟨u, hu, ru⟩ := rv.get hx
    obtain ⟨old, h1, h2⟩ := st
    obtain ⟨f0, f1, f2, f3, f4, f5⟩ := hf e (by simp)
    obtain ⟨g0, g1, g2, g3, g4, g5⟩ := hf it (by simp)
    have fr : H s.heap.objs.size = none := I.hok.fresh (Nat.le_refl _)
    have pe : s.heap.objs.size ≠ e := Nat.ne_of_gt (Heap.lt_size h1)
    refine wpAny_pyNext_enum_item h1 h2 p.isList (x := u) (by simpa using hu) hne fun h' out st' tup sz k => ⟨.ref s.heap.objs.size, rfl, ?_⟩
    refine wpAny_letOwnedTupleGo_enum (s := { s with heap := h', toks := s.toks + 1 }) out fun h'' he' sb => ?_
    have kk : ∀ b o, b ∉ [e, it] → s.heap.get? b = some o → h''.get? b = some o := fun b o hb z =>
      (sb.2 b (fun q => hb (by simp [q]))).trans (k b o (fun q => hb (by simp [q])) (fun q => hb (by simp [q])) z)
    have kt : h''.get? s.heap.objs.size = some { cls := .type "tuple", data := .seq #[.int i s.toks, u] } := (sb.2 _ pe).trans tup
    have nt : ∀ b v, H b = some v → b ∉ [e, it] := fun b v z hb => by
      rcases List.mem_cons.mp hb with rfl | hb
      · rw [f0] at z; cases z
      · cases List.mem_singleton.mp hb
        rw [g0] at z; cases z
    have np : ∀ b v, H b = some v → b ≠ s.heap.objs.size := fun b v z q => by subst q; rw [fr] at z; cases z
    have up : ∀ b v, H b = some v → upd H s.heap.objs.size (.tup [.int i, x]) b = some v := fun b v z => by rw [upd_ne (np b v z)]; exact z
    refine ⟨.ref s.heap.objs.size, upd H s.heap.objs.size (.tup [.int i, x]), ?_, rfl, ⟨_, x, fr, rfl, fun ys hy => by rw [I.list_inj hy hq]; exact hx, rfl⟩, ⟨u, he', st'.at fun o z => (sb.2 it (Ne.symm hne)).trans z⟩, fun b hb => ?_⟩
    · show Inv X pins σ _ { s with heap := h'', gens := s.gens, drawn := s.drawn, toks := s.toks + 1 }
      refine Inv.step (s := s) (h' := h'') (t' := s.toks + 1) (g' := s.gens) (d' := s.drawn) (ch := [e, it]) I (fun b hb => ?_) (fun b o _ _ hb z _ => kk b o hb z) (fun b o _ _ hb z _ => ⟨o.slots, kk b o hb z⟩) (fun b o _ z n => by rw [upd_ne (Nat.ne_of_lt (Heap.lt_size z))]; exact n) (fun b o hb z => ⟨o, kk b o hb z⟩)
        (fun b ys z => up b _ z) (fun b o v z => up b _ z) (fun b ps z => ⟨#[], by rw [Array.append_empty]; exact up b _ z⟩) (fun m hm => ?_) (fun b v z => ?_) I.bare
      · rcases List.mem_cons.mp hb with rfl | hb
        · exact ⟨f3, f1, f4, f5⟩
        · cases List.mem_singleton.mp hb
          exact ⟨g3, g1, g4, g5⟩
      · obtain ⟨o, es, ep, ho, r⟩ := hm
        refine ⟨o, es, ep, kk _ o (fun hb => ?_) ho, r⟩
        rcases List.mem_cons.mp hb with q | hb
        · exact f1 q.symm
        · exact g1 (List.mem_singleton.mp hb).symm
      · by_cases q : b = s.heap.objs.size
        · subst q
          rw [upd_same] at z
          cases z
          exact ⟨small_line (Nat.le_of_ble_eq_true rfl), [.int i s.toks, u], .cons ⟨_, rfl⟩ (.cons ru .nil), _, kt, rfl, _, rfl⟩
        · rw [upd_ne q] at z
          refine (I.hok b v z).stay (fun c o hc y => kk c o ?_ y) (fun c y => up c _ y) fun c ys y => up c _ y
          rcases hc with rfl | hc
          · exact nt _ _ z
          · exact nt _ _ hc
    · rcases List.mem_cons.mp hb with rfl | hb
      · rw [upd_ne (Ne.symm pe)]; exact f0
      · cases List.mem_singleton.mp hb
        obtain ⟨o, h2', _⟩ := h2
        rw [upd_ne (Nat.ne_of_lt (Heap.lt_size h2'))]; exact g0
  done := by
    intro X hP hw hK hc i pins s σ H E I hf st hg
    subst hP hw hK
    obtain ⟨xs, hq, hx⟩ := hg
    obtain ⟨its, rv, p, hz⟩ := I.list hq
    obtain ⟨old, h1, h2⟩ := st
    obtain ⟨g0, g1, g2, g3, g4, g5⟩ := hf it (by simp)
    have hl := rv.length
    exact wpAny_pyNext_enum_end (I.ok.hd hc) h1 h2 p.isList (by simp; omega) fun h' eb => ⟨rfl, I.turned (t' := s.toks) (fun b o hb z => eb b o hb z) g0 g1 g3 g4 g5⟩
  self := fun _ _ _ _ _ st h => by
    obtain ⟨old, h1, h2⟩ := st
    exact wpAny_pyIter_enum h1 h
section
variable {X : Cx}
noncomputable def iEnum (K : PySem.W.Frag) (ta : TA) : TI := fun σ H R => ta σ H fun vs H1 => ∃ a, vs = [.ref a] ∧ (∃ xs, SqL K H1 a xs) ∧ R (Ite K a) H1
theorem pi_enum {a : Expr} {ta : TA} {p pos tpos : Pos} {elts : List Expr} {x1 : Nat} (hg : Gl X "enumerate") (hm : X.mg "enumerate" = none) (ha : PA X [a] ta) (hn : notStar a = true) : PI X (.Tuple elts x1 tpos) (.Call (.Name "enumerate" p) [a] [] pos) (iEnum X.K ta) := by
  intro pins s σ H R I h
  refine Call_ (ld_blt I hg hm boot_enumerate (PyProof.Rows.callWith_type1 (thn (ha pos pins s σ H _ I h) fun us s1 ⟨vs, H1, I1, r1, q1⟩ => ?_) (star_cons hn) rfl))
  obtain ⟨l, e, ⟨xs, hq⟩, q⟩ := q1
  subst e
  cases r1 with
  | cons r rr =>
    cases rr
    cases (show _ = Value.ref l from r)
    obtain ⟨its, rv, pl, hz⟩ := I1.list hq
    refine call_enumerate_list pl.isList fun h' he st sz k => ?_
    refine wpAny_pyIter_enum (s := { s1 with heap := h' }) he ?_
    refine ⟨s1.heap.objs.size + 1, [s1.heap.objs.size + 1, s1.heap.objs.size], _, _, H1, rfl, I1.kept (t' := s1.toks) k, turn_enum l _ _ (Nat.succ_ne_self _), ⟨_, he, st⟩, fun b hb => ?_, q⟩
    rcases List.mem_cons.mp hb with rfl | hb
    · exact I1.fpOk (Nat.le_succ _) (I1.hok.fresh (Nat.le_succ _))
    · cases List.mem_singleton.mp hb
      exact I1.fpOk (Nat.le_refl _) (I1.hok.fresh (Nat.le_refl _))
end
theorem ForW.enum {K : PySem.W.Frag} {a : Addr} {xs : List V} {g : TG} {tb : TS} {D : Ends} {σ : St} {H : Hp} (Pv : Nat → St → Hp → Prop) (h0 : Pv 0 σ H) (hl : ∀ i σ H, Pv i σ H → SqL K H a xs)
    (hs : ∀ (i : Nat) x σ H p, xs[i]? = some x → Pv i σ H → H p = none → g (.ref p) σ (upd H p (.tup [.int i, x])) fun σ2 H2 => tb { D with nx := Pv (i + 1), ct := Pv (i + 1), bk := D.nx } σ2 H2)
    (hd : ∀ σ H, Pv xs.length σ H → D.nx σ H) : ForW (Ite K a) g tb D σ H := by
  refine ⟨fun i m σ H => Pv i σ H ∧ i ≤ xs.length ∧ m = xs.length - i, ⟨_, h0, Nat.zero_le _, rfl⟩, fun i m σ H ⟨h1, h2, h3⟩ => ?_⟩
  have sq := hl i σ H h1
  by_cases e : i = xs.length
  · subst e
    exact .inl ⟨⟨xs, sq, Nat.le_refl _⟩, hd σ H h1⟩
  · have lt : i < xs.length := Nat.lt_of_le_of_ne h2 e
    refine .inr ⟨⟨xs, xs[i], sq, List.getElem?_eq_getElem lt⟩, Pv (i + 1), fun σ' H' z => ⟨xs.length - (i + 1), by omega, z, lt, rfl⟩, fun x H' hy => ?_⟩
    obtain ⟨p, x', hp, rfl, hx, rfl⟩ := hy
    exact hs i x' σ H p (hx xs sq) h1 hp
end L2
set_option maxHeartbeats 4000000
namespace L2
open PySem PySem.Spec PyProof.Rows
section
variable {prog : Program} {w : World} {A : Around} {E : Value → Shared → Prop} {s : Shared} {T : String} {r d : Addr} {n : Nat} {P : Nat → Value → Prop} {OK : Heap → Prop}
end
end L2
namespace L2
open PySem PySem.Spec PyProof.Rows
theorem ints_of_ix : ∀ {us : List Value} {ks : List Int}, us.length = ks.length → (∀ (i : Nat) v k, us[i]? = some v → ks[i]? = some k → ∃ t, v = Value.int k t) → IntsAre us ks
  | [], [], _, _ => .nil
  | [], _ :: _, h, _ => by cases h
  | _ :: _, [], h, _ => by cases h
  | u :: us, k :: ks, h, f => by
    obtain ⟨t, rfl⟩ := f 0 u k rfl rfl
    exact .cons k t (ints_of_ix (by simpa using h) fun i v k' a b => f (i + 1) v k' (by simpa using a) (by simpa using b))
theorem vals_of_ints : ∀ {us : List Value} {ks : List Int}, IntsAre us ks → Vals (ks.map V.int) us
  | _, _, .nil => .nil
  | _, _, .cons _ _ t => .cons ⟨_, rfl⟩ (vals_of_ints t)
section
variable {X : Cx}
noncomputable def rSortD : List V → Hp → VK → Prop := fun xs H Q => ∃ d kvs, ∃ ks : List Int, xs = [.ref d] ∧ H d = some (.dK kvs) ∧ kvs.map (·.1) = ks.map Sum.inl ∧ kvs.length < 64 ∧
  ∀ p, ∀ ms : List Int, H p = none → ms.Perm ks → ms.Pairwise (· ≤ ·) → Q (.ref p) (upd H p (.lst (ms.map V.int)))
end
end L2
set_option maxHeartbeats 4000000
namespace L2
open PySem PySem.Spec PyProof.Rows
open AutoSeq1 (wpAny_loadPart')
section
variable {prog : Program} {w : World} {A : Around} {E : Value → Shared → Prop} {s : Shared}
end
end L2
namespace L2
open PySem PySem.Spec PyProof.Rows
section
variable {X : Cx}
noncomputable def rDPop : V → List V → Hp → VK → Prop := fun x vs H Q => ∃ d kvs k v, x = .ref d ∧ vs = [kV k] ∧ H d = some (.dK kvs) ∧ valV kvs k = some v ∧ Q v (upd H d (.dK (dropK kvs k)))
end
end L2
set_option maxHeartbeats 4000000
namespace L2
open PySem PySem.Spec PyProof.Rows
section
variable {X : Cx}
end
end L2
namespace L2
open PySem PySem.Spec PyProof.Rows
section
variable {X : Cx} {k : Nat} {f C : Addr} {fd : FuncData} {ps : List Str} {sp : Sp} {x m : Str} {p pos apos : Pos} {e o : Expr} {es : List Expr} {ta : TE} {t : TA}
end
end L2
set_option maxHeartbeats 4000000
namespace L2
open PySem PySem.Spec PyProof.Rows
section
variable {X : Cx}
noncomputable def rIndexS (K : PySem.W.Frag) : V → List V → Hp → VK → Prop := fun x vs H Q => ∃ l, ∃ ns : List Str, ∃ z, ∃ j : Nat, x = .ref l ∧ vs = [.str z] ∧ SqL K H l (ns.map V.str) ∧ ns[j]? = some z ∧ (∀ m, m < j → ns[m]? ≠ some z) ∧ Q (.int j) H
end
end L2
set_option maxHeartbeats 4000000
namespace L2
open PySem PySem.Spec PyProof.Rows
section
variable {M : Model} {A : Around} {E : Value → Shared → Prop} {s : Shared} {Q : Unit → Shared → Prop} {base : Heap} {env : Env} {outer : List Env} {L e : Addr} {C : Value} {ed : Option Addr} {G : Heap} {H : Hp}
theorem note_any {fl : Value} (hfr : A.frames = some (env :: outer)) (hl : s.heap.FunFrames base (env :: outer)) (hf : env.frame = some L) (hH : ∀ b, s.heap.objs.size ≤ b → H b = none) (hG : ∀ b, s.heap.objs.size ≤ b → G.get? b = none) (t : Trc H s.heap G e C ed fl)
    (h : ∀ h', Trc H h' G e C ed (rawInt L) → h'.FunFrames base (env :: outer) → Kp H G (frs (env :: outer)) s.heap h' → Q () { s with heap := h' }) : wpAny M A (noteFrame (.ref e) env) Q E s := by
  obtain ⟨hn, hHe, oe, vs, he, hc, hdi, hd, hsz, ht⟩ := t
  unfold noteFrame
  simp only [hf]
  have nfr : ∀ b o ws, s.heap.get? b = some o → o.data = .fields ws → b ∉ frs (env :: outer) := fun b o ws ho hw hm => by
    obtain ⟨_, o', ho', hnf⟩ := hl.mem hm
    rw [ho] at ho'
    cases ho'
    exact hnf ws hw
  have fin : ∀ (s1 : Shared) (h' : Heap) (T : Addr) (oT : Obj) (ts : Array Value), s.heap.objs.size ≤ T → h'.get? e = some (oe.mapFields (·.setIfInBounds 1 (.ref T))) → h'.get? T = some oT → oT.data = .fields ts → ts[3]? = some (rawInt L) →
      (∀ b o, s.heap.get? b = some o → b ∉ frs (env :: outer) → (G.get? b ≠ none ∨ H b ≠ none) → h'.get? b = some o) → (∀ b o, s.heap.get? b = some o → (∀ ws, o.data ≠ .fields ws) → ∃ sl, h'.get? b = some { o with slots := sl }) →
      (∀ b o, s.heap.get? b = some o → ∃ o', h'.get? b = some o') → s.heap.objs.size ≤ h'.objs.size → Q () { s with heap := h' } := by
    intro s1 h' T oT ts hT e1 e2 e3 e4 k1 k2 k3 k4
    have le : e < s.heap.objs.size := Heap.lt_size he
    refine h h' ⟨hn, hHe, _, _, e1, by rw [Obj.cls_mapFields]; exact hc, ?_, Obj.data_mapFields hd _, by simpa using hsz, .inr ⟨T, oT, ts, by simp [hsz], hG T hT, Nat.ne_of_gt (Nat.lt_of_lt_of_le le hT), hH T hT, e2, e3, e4⟩⟩ (hl.of_keeps fun b o hb hnf => ?_) ⟨k1, fun b o hb hm => ?_, k3, k4⟩
    · rw [← hdi]
      obtain ⟨c, d, dt, sl⟩ := oe
      cases dt <;> rfl
    · obtain ⟨sl, q⟩ := k2 b o hb hnf
      exact ⟨_, q, rfl⟩
    · obtain ⟨_, o', ho', hnf⟩ := hl.mem hm
      rw [hb] at ho'
      cases ho'
      exact k2 b o hb hnf
  have nee : ∀ b o, s.heap.get? b = some o → (G.get? b ≠ none ∨ H b ≠ none) → b ≠ e := fun b o hb hx z => by
    subst z
    rcases hx with hx | hx
    · exact hx hn
    · exact hx hHe
  rcases ht with ⟨h1, _⟩ | ⟨T, oT, ts, h1, hT, hTe, hHT, gT, hdT, h3⟩
  · refine wpAny_bind (wpAny_field he hd h1 ?_)
    rw [if_neg (by decide)]
    refine entry_wp hfr hl hf he hd hsz fun h' T' oT' ts' q1 q2 q3 q4 q5 q6 q7 q8 => fin s h' T' oT' ts' q1 q2 q3 q4 q5 (fun b o hb hm hx => q6 b o (nee b o hb hx) hb hm) (fun b o hb hnf => q7 b o (fun z => ?_) hb) (fun b o hb => ?_) q8
    · subst z
      rw [he] at hb
      cases hb
      exact hnf vs hd
    · by_cases z : b = e
      · subst z
        exact ⟨_, q2⟩
      · obtain ⟨sl, q⟩ := q7 b o z hb
        exact ⟨_, q⟩
  · refine wpAny_bind (wpAny_field he hd h1 ?_)
    rw [if_pos (show (Value.ref T != Value.none) = true from by simp)]
    refine wpAny_bind (wpAny_field gT hdT h3 ?_)
    by_cases hfl : (fl == rawInt L) = true
    · rw [if_pos hfl]
      have efl : fl = rawInt L := by simpa using hfl
      subst efl
      exact wpAny_pure (h s.heap ⟨hn, hHe, oe, vs, he, hc, hdi, hd, hsz, .inr ⟨T, oT, ts, h1, hT, hTe, hHT, gT, hdT, h3⟩⟩ hl (Kp.refl ..))
    rw [if_neg hfl]
    refine wpAny_bind (wpAny_setField gT hdT (Array.getElem?_eq_some_iff.mp h3).1 ?_)
    have other : ∀ b, b ≠ T → (s.heap.update T (Obj.mapFields (·.setIfInBounds 3 Value.none))).get? b = s.heap.get? b := fun b hb => Heap.get?_update_other _ _ (Ne.symm hb)
    have self := Heap.get?_update_self (Obj.mapFields (·.setIfInBounds 3 Value.none)) gT (Obj.isFreed_of_fields (Obj.data_mapFields hdT _))
    have neT : ∀ b o, s.heap.get? b = some o → (G.get? b ≠ none ∨ H b ≠ none) → b ≠ T := fun b o hb hx z => by
      subst z
      rcases hx with hx | hx
      · exact hx hT
      · exact hx hHT
    have neF : ∀ b o, s.heap.get? b = some o → (∀ ws, o.data ≠ .fields ws) → b ≠ T := fun b o hb hnf z => by
      subst z
      rw [gT] at hb
      cases hb
      exact hnf ts hdT
    have sz : (s.heap.update T (Obj.mapFields (·.setIfInBounds 3 Value.none))).objs.size = s.heap.objs.size := Heap.size_after_update ..
    refine entry_wp hfr (hl.of_keeps fun b o hb hnf => ⟨o, (other b (neF b o hb hnf)).trans hb, rfl⟩) hf ((other e (Ne.symm hTe)).trans he) hd hsz
      fun h' T' oT' ts' q1 q2 q3 q4 q5 q6 q7 q8 => fin s h' T' oT' ts' (by rw [sz] at q1; exact q1) q2 q3 q4 q5 (fun b o hb hm hx => q6 b o (nee b o hb hx) ((other b (neT b o hb hx)).trans hb) hm)
        (fun b o hb hnf => q7 b o (fun z => ?_) ((other b (neF b o hb hnf)).trans hb)) (fun b o hb => ?_) (by rw [sz] at q8; exact q8)
    · subst z
      rw [he] at hb
      cases hb
      exact hnf vs hd
    · by_cases z : b = e
      · subst z
        exact ⟨_, q2⟩
      · by_cases y : b = T
        · subst y
          obtain ⟨sl, q⟩ := q7 b _ z self
          exact ⟨_, q⟩
        · obtain ⟨sl, q⟩ := q7 b o z ((other b y).trans hb)
          exact ⟨_, q⟩
theorem flight_any {fl : Value} {o : Option Addr} (hl : s.heap.FunFrames base outer) (t : Trc H s.heap G e C ed fl)
    (h : ∀ h' fl', Trc H h' G e C ed fl' → h'.FunFrames base outer → Kp H G [] s.heap h' → (∀ b o, s.heap.get? b = some o → (∀ ws, o.data ≠ .fields ws) → h'.get? b = some o) → Q () { s with heap := h' }) : wpAny M A (setFlight (.ref e) o) Q E s := by
  obtain ⟨hn, hHe, oe, vs, he, hc, hdi, hd, hsz, ht⟩ := t
  unfold setFlight
  rcases ht with ⟨h1, _⟩ | ⟨T, oT, ts, h1, hT, hTe, hHT, gT, hdT, h3⟩
  · refine wpAny_bind (wpAny_field he hd h1 ?_)
    rw [if_neg (by decide)]
    exact wpAny_pure (h s.heap .none ⟨hn, hHe, oe, vs, he, hc, hdi, hd, hsz, .inl ⟨h1, rfl⟩⟩ hl (Kp.refl ..) fun _ _ e _ => e)
  · have hs3 : 3 < ts.size := (Array.getElem?_eq_some_iff.mp h3).1
    refine wpAny_bind (wpAny_field he hd h1 ?_)
    rw [if_pos (show (Value.ref T != Value.none) = true from by simp)]
    have other : ∀ b, b ≠ T → (s.heap.update T (Obj.mapFields (·.setIfInBounds 3 (o.elim Value.none fun f => rawInt f)))).get? b = s.heap.get? b := fun b hb => Heap.get?_update_other _ _ (Ne.symm hb)
    have self := Heap.get?_update_self (Obj.mapFields (·.setIfInBounds 3 (o.elim Value.none fun f => rawInt f))) gT (Obj.isFreed_of_fields (Obj.data_mapFields hdT _))
    refine wpAny_setField gT hdT hs3 (h _ (o.elim Value.none fun f => rawInt f) ⟨hn, hHe, oe, vs, (other e (Ne.symm hTe)).trans he, hc, hdi, hd, hsz, .inr ⟨T, _, _, h1, hT, hTe, hHT, self, Obj.data_mapFields hdT _, by simp [hs3]⟩⟩ (hl.of_keeps fun b ob hb hnf => ⟨ob, (other b fun z => ?_).trans hb, rfl⟩)
      ⟨fun b ob hb _ hx => (other b fun z => ?_).trans hb, fun _ _ _ hm => (nomatch hm), fun b ob hb => ?_, Nat.le_of_eq (Heap.size_after_update ..).symm⟩ fun b ob hb hnf => (other b fun z => ?_).trans hb)
    · subst z
      rw [gT] at hb
      cases hb
      exact hnf ts hdT
    · subst z
      rcases hx with hx | hx
      · exact hx hT
      · exact hx hHT
    · by_cases z : b = T
      · subst z
        exact ⟨_, self⟩
      · exact ⟨ob, (other b z).trans hb⟩
    · subst z
      rw [gT] at hb
      cases hb
      exact hnf ts hdT
end
theorem leave_any {X : Cx} {fl : Value} {pins : List (Addr × Obj)} {σ : St} {H : Hp} {s : Shared} {a : Addr} {C : Value} {ed : Option Addr} {E : XK} {E' : Value → Shared → Prop} (hf : X.env.frame = some X.env.locals) (hst : X.stack = X.env :: X.outer) (hex : X.ex = [])
    (I : Inv X pins σ H s) (t : Trc H s.heap X.s₀.heap a C ed fl) (q : E C ed H) :
    wpAny (model X.prog X.w) X.A (leaving X.env (.ref a)) (fun _ s' => CXE X.prog X.w X.outer X.H₀ X.s₀ E (.ref a) s') E' s := by
  have stk : s.heap.FunFrames X.base (X.env :: X.outer) := hst ▸ I.stack
  have sfr : ∀ b ∈ frs (X.env :: X.outer), H b = none := hst ▸ I.stkFree
  unfold leaving
  refine wpAny_bind (note_any (hst ▸ I.ok.frames) stk hf (fun b hb => I.hok.fresh hb) (fun b hb => I.back hex b (get_none hb)) t fun h1 t1 f1 k1 => ?_)
  refine flight_wp (s := { s with heap := h1 }) (outer := X.env :: X.outer) f1 t1 fun h2 t2 f2 k2 _ => ?_
  have hlt : ∀ b o, X.s₀.heap.get? b = some o → X.s₀.heap.get? b ≠ none := fun b o e => by rw [e]; simp
  have hnl : ∀ b o, X.s₀.heap.get? b = some o → b ≠ X.env.locals := fun b o e => Nat.ne_of_lt (Nat.lt_of_lt_of_le (Heap.lt_size e) I.ok.above)
  have mem : ∀ b, b ∈ frs (X.env :: X.outer) → b = X.env.locals ∨ b ∈ frs X.outer := fun b hb => by
    unfold frs at hb ⊢
    rw [List.filterMap_cons, hf] at hb
    exact List.mem_cons.mp hb
  have mem2 : ∀ b, b ∈ frs X.outer → b ∈ frs (X.env :: X.outer) := fun b hb => by
    unfold frs at hb ⊢
    rw [List.filterMap_cons, hf]
    exact List.mem_cons_of_mem _ hb
  refine ⟨a, C, ed, H, rfl, I.os, I.bare, ⟨fun b o e hn hb _ => ?_, fun b o e hn hb _ => ?_, fun b o e hn _ => ?_, fun b o e _ => ?_, I.base.tups, I.base.frzs, I.base.tbls⟩, k2.hok (fun _ z => absurd z (by simp)) (k1.hok sfr I.hok), t2, q⟩
  · have e1 := I.base.keep b o e hn hb (by rw [hex]; simp)
    have e2 := k1.keep b o e1 (fun z => (mem b z).elim (hnl b o e) hb) (.inl (hlt b o e))
    exact k2.keep b o e2 (by simp) (.inl (hlt b o e))
  · obtain ⟨sl, e1⟩ := I.base.slot b o e hn hb (by rw [hex]; simp)
    obtain ⟨sl', e2⟩ := k1.slot b _ e1 (mem2 b hb)
    exact ⟨sl', k2.keep b _ e2 (by simp) (.inl (hlt b o e))⟩
  · exact I.base.free b o e hn (by rw [hex]; simp)
  · obtain ⟨o1, e1⟩ := I.base.there b o e (by rw [hex]; simp)
    obtain ⟨o2, e2⟩ := k1.there b o1 e1
    exact k2.there b o2 e2
structure Leaves (X : Cx) (E : XK) : Prop where
  ex : X.ex = []
  stk : X.stack = X.env :: X.outer
  fr : X.env.frame = some X.env.locals
  on : ∀ pins σ H s a C ed fl, Inv X pins σ H s → Trc H s.heap X.s₀.heap a C ed fl → E C ed H → X.xe (.ref a) s
theorem leaves_cx {P : Program} {w : World} {K : PySem.W.Frag} {mg : Str → Option Value} {base : Heap} {N : List Str} {qual : Str} {scope : Scope} {f : Addr} {cd : Value} {A : Around} {outer : List Env} {s : Shared} {H : Hp} {E : XK} :
    Leaves (cxOf (CXE P w) P w K mg base N qual scope f cd A outer s H E) E := ⟨rfl, rfl, rfl, fun _ _ _ _ _ _ _ _ I t q => leave_any (X := cxOf (CXE P w) P w K mg base N qual scope f cd A outer s H E) rfl rfl rfl I t q⟩
structure ToldC (X : Cx) (E : XK) : Prop where
  on : ∀ pins σ H s e s', Inv X pins σ H s → CXE X.prog X.w X.stack H s E e s' → X.xe e s'
section
variable {X : Cx} {k : Nat} {f C : Addr} {fd : FuncData} {ps : List Str} {sp : Sp} {x m : Str} {p pos apos : Pos} {e o : Expr} {es : List Expr} {ta : TE} {t : TA} {E : XK}
theorem run_fnC {pins : List (Addr × Obj)} {σ : St} {H : Hp} {s : Shared} {Q : VK} {us : List Value} {vs : List V} (T : ToldC X E) (F : FnOk X.prog X.w X.K X.mg X.base (CXE X.prog X.w) k f fd ps sp) (hr : Room k X.A) (hb : Binds X.K fd ps [])
    (I : Inv X pins σ H s) (r : Vals vs us) (h : sp vs H Q E) : wpAny (model X.prog X.w) X.A (call (.ref f) us) (EP X pins σ Q) X.xe s := by
  have hl : (us ++ ([] : List Value)).length = ps.length := by rw [List.append_nil, ← r.length]; exact F.len _ _ _ _ h
  have bd := hb s us I.kIn hl
  rw [List.append_nil] at bd
  refine wpAny_call (codeAny_mono (F.run X.A X.stack s H ⟨us, []⟩ us vs Q E hr I.env0 bd r h) fun r s' hq => ?_)
  match r, hq with
  | .error e, hq => exact T.on _ _ _ _ _ _ I hq
  | .ok (.ret u), hq => exact I.after hq
  | .ok .next, hq => exact False.elim hq
  | .ok .brk, hq => exact False.elim hq
  | .ok .cont, hq => exact False.elim hq
theorem pe_defC {st : Stmt} (T : ToldC X E) (D : DefOk X.K X.mg x st ps f fd) (G : FnOk X.prog X.w X.K X.mg X.base (CXE X.prog X.w) k f fd ps sp) (hr : Room k X.A)
    (hg : Gl X x) (hdb : (x == ("__debug__" : Str)) = false) (hn : (e :: es).all notStar = true) (ha : PA X (e :: es) t) :
    PE X (.Call (.Name x p) (e :: es) [] pos) (tCallX (fun _ => True) sp E t) := by
  have hs : notStar e = true ∧ es.all notStar = true := by rw [List.all_cons, Bool.and_eq_true] at hn; exact hn
  intro pins s σ H Q I h
  refine wpAny_Call_Name_kw (ld_glob I hg D.m ?_ hdb)
  refine PySem.W.callWith_K (h₀ := X.base) I.ok.mod.kin D.F.kp (thn (ha pos pins s σ H _ I h) fun us s1 ⟨vs, H1, I1, r, _, q⟩ => ⟨I1.kIn, ?_⟩) (star_cons hs.1) (back_none hs.2)
  exact run_fnC T G hr D.b I1 r q
end
noncomputable def compCxE (X : Cx) (scope : Scope) (N' : List Str) (cl : List (Str × Addr)) (s2 : Shared) (H2 : Hp) (C : Addr) (fp : List Addr) (xe : Value → Shared → Prop) : Cx := { compCx X scope N' cl s2 H2 C fp with xe := xe }
section
variable {X : Cx} {pins : List (Addr × Obj)} {σ : St} {H : Hp} {s : Shared} {W : Value → Shared → Prop}
theorem Inv.toXe (I : Inv X pins σ H s) : Inv { X with xe := W } pins σ H s :=
  have ok := I.ok
  ⟨⟨ok.mod, ok.kind, ok.glob, ok.blt, ok.above, ok.inj, ok.has, ok.cab, ok.hd, ok.frames, ok.stk, ok.exf, ok.bs, ok.bsz, ok.noex, ok.exfs, ok.funs, ok.frf⟩, I.os, I.bare, I.base, I.loc, I.cell, I.free, I.freeC, I.pin, I.hok, I.len⟩
theorem Inv.offXe (I : Inv { X with xe := W } pins σ H s) : Inv X pins σ H s :=
  have ok := I.ok
  ⟨⟨ok.mod, ok.kind, ok.glob, ok.blt, ok.above, ok.inj, ok.has, ok.cab, ok.hd, ok.frames, ok.stk, ok.exf, ok.bs, ok.bsz, ok.noex, ok.exfs, ok.funs, ok.frf⟩, I.os, I.bare, I.base, I.loc, I.cell, I.free, I.freeC, I.pin, I.hok, I.len⟩
end
theorem comp_loopX {Ex : Value → Shared → Prop} {prog : Program} {w : World} {A : Around} {R : Result → Shared → Prop} {s : Shared} {elt tg iter : Expr} {ifs : List Expr} {scope : Scope} {pos : Pos} {it acc : Value} {env : Env} (I : Nat → Shared → Prop)
    (turn : ∀ n s, I n s → wpAny (model prog w) A (pyNext it) (fun r s1 => match r with
      | none => R (.ok .next) s1
      | some v => wpAny (model prog w) A (letOwnedTupleGo tg it v) (fun _ s2 => wpAny (model prog w) A (assign tg env v) (fun _ s3 => wpAny (model prog w) A (runIfs ifs env) (fun ok s4 =>
          if ok = true then wpAny (model prog w) A (eval elt env) (fun x s5 => wpAny (model prog w) A (call (.builtin "list.append") [acc, x]) (fun _ s6 => ∃ m, m < n ∧ I m s6) (fun _ _ => False) s5) Ex s4
          else ∃ m, m < n ∧ I m s4) Ex s3) Ex s2) (fun _ _ => False) s1) (fun _ _ => False) s)
    (hEx : ∀ e s', Ex e s' → notedBy (model prog w) A env (fun x s'' => R (.error x) s'') e s') (n : Nat) (h : I n s) : codeAny (model prog w) A (.compLoop (.ListComp elt [⟨tg, iter, ifs, 0⟩] scope pos) 0 it acc env) R s := by
  refine codeAny_loop rfl I (fun n s hI => ?_) n h
  show wpAny _ A ((compTurn (.ListComp elt [⟨tg, iter, ifs, 0⟩] scope pos) 0 it acc env).onRaise (fun x => do noteFrame x env; theTreesLotGoes x)) _ _ s
  refine wpAny_noted ?_
  have no : ∀ (e : Value) (s' : Shared), False → notedBy (model prog w) A env (fun x s'' => R (.error x) s'') e s' := fun _ _ z => z.elim
  rw [compTurn_list]
  refine wpAny_bind (wpAny_standAt (wpAny_bind (wpAny_mono (turn n s hI) (fun r s1 h1 => ?_) no)))
  cases r with
  | none => exact wpAny_pure h1
  | some v =>
    refine wpAny_bind (wpAny_mono h1 (fun _ s2 h2 => wpAny_bind (wpAny_mono h2 (fun _ s3 h3 => wpAny_bind (wpAny_mono h3 (fun ok s4 h4 => ?_) hEx)) hEx)) no)
    cases ok with
    | false => exact wpAny_pure ⟨rfl, h4⟩
    | true => exact wpAny_bind (wpAny_bind (wpAny_mono h4 (fun x s5 h5 => wpAny_bind (wpAny_mono h5 (fun _ s6 h6 => wpAny_pure (wpAny_pure ⟨rfl, h6⟩)) no)) hEx))
noncomputable def xeOf (X' : Cx) (EX : XK) : Value → Shared → Prop := fun e s' => ∃ pins σ H s, Inv X' pins σ H s ∧ CXE X'.prog X'.w X'.stack H s EX e s'
theorem told_comp {X : Cx} {scope : Scope} {N' : List Str} {cl : List (Str × Addr)} {s2 : Shared} {H2 : Hp} {C : Addr} {fp : List Addr} {EX : XK} : ToldC (compCxE X scope N' cl s2 H2 C fp (xeOf (compCx X scope N' cl s2 H2 C fp) EX)) EX :=
  ⟨fun pins σ H s e s' I h => ⟨pins, σ, H, s, Inv.offXe I, h⟩⟩
section
variable {X : Cx} {pins : List (Addr × Obj)} {σ : St} {H2 : Hp} {s2 : Shared} {scope : Scope} {own rest : List Str} {cl : List (Str × Addr)} {fp : List Addr} {E : Value → Shared → Prop}
theorem comp_runX {EX : XK} {elt tg iter : Expr} {ifs : List Expr} {pos : Pos} {J : It} {it : Addr} {tn : Nat → Heap → Prop} {g : TG} {tt : TT} {te : TE} {fin : List V → Hp → Prop} {RR : Value → Addr → Result → Shared → Prop} {D : Nat} (hD : s2.heap.objs.size = D) (hcalm : X.calm = true)
    (I : Inv X pins σ H2 s2) (S : CompSc scope X.env.scope X.N rest) (hc1 : ∀ n c, cl.lookup n = some c → X.env.cells.lookup n = some c) (hc2 : ∀ n, (n, NameKind.free) ∈ scope.names → ∃ c, cl.lookup n = some c)
    (T : Turn X.prog X.w X.K tg J fp it tn) (st : tn 0 s2.heap) (hf : ∀ b ∈ fp, FpOk X pins H2 b)
    (hg : PG (compCxE X scope (own ++ rest) cl s2 H2 (D + 1 : Nat) fp (xeOf (compCx X scope (own ++ rest) cl s2 H2 (D + 1 : Nat) fp) EX)) tg g) (ht : PTs (compCxE X scope (own ++ rest) cl s2 H2 (D + 1 : Nat) fp (xeOf (compCx X scope (own ++ rest) cl s2 H2 (D + 1 : Nat) fp) EX)) ifs tt)
    (he : PE (compCxE X scope (own ++ rest) cl s2 H2 (D + 1 : Nat) fp (xeOf (compCx X scope (own ++ rest) cl s2 H2 (D + 1 : Nat) fp) EX)) elt te)
    (hX : ∀ e s', xeOf (compCx X scope (own ++ rest) cl s2 H2 (D + 1 : Nat) fp) EX e s' → notedBy (model X.prog X.w) X.A (compEnvC scope cl (D + 1) X.env) (fun x s'' => RR (.ref D) (D + 1 : Nat) (.error x) s'') e s')
    (hw : CompW J g tt te fin (List.replicate own.length none ++ σ) H2)
    (hR : ∀ (s' : Shared) (H' : Hp) (ys : List V), Inv X pins σ (upd H' D (.lst ys)) s' → (∃ m, s'.heap.Ns (D + 1 : Nat) m) → H' D = none → H' (D + 1 : Nat) = none → fin ys H' → RR (.ref D) (D + 1 : Nat) (.ok .next) s') :
    wpAny (model X.prog X.w) X.A (newList []) (fun acc s3 => wpAny (model X.prog X.w) X.A (newFunctionEnv scope X.env.globals cl [] X.env.qual none .none (some X.env)) (fun cenv s4 =>
      codeAny (model X.prog X.w) X.A (.compStart (.ListComp elt [⟨tg, iter, ifs, 0⟩] scope pos) 0 (.ref it) acc { cenv with scope := relabel scope X.env }) (RR acc cenv.locals) s4) E s3) E s2 := by
  refine wpAny_newObj_type (wpAny_newFunctionEnv S.cell (by intro y hy; simp at hy) (fun h1 hns hsb => ?_) S.kind)
  dsimp only at hns hsb ⊢
  generalize hHp : s2.heap.push { cls := .type "list", dict := none, data := .seq ([] : List Value).toArray } = Hp2 at hns hsb ⊢
  have hC : Hp2.objs.size = s2.heap.objs.size + 1 := by rw [← hHp, Heap.size_push]
  rw [hD] at hC
  rw [hC] at hns hsb ⊢
  rw [hD]
  have nDC : D ≠ D + 1 := Nat.ne_of_lt (Nat.lt_succ_self _)
  have below : ∀ b o, s2.heap.get? b = some o → b < D := fun b o e => by rw [← hD]; exact Heap.lt_size e
  have old : ∀ b o, s2.heap.get? b = some o → h1.get? b = some o := fun b o e => by
    exact hsb.extBut b o (Nat.ne_of_lt (Nat.lt_succ_of_lt (below b o e))) (Heap.get?_push_of_some _ (hHp ▸ Heap.get?_push_of_some _ e))
  have hDo : h1.get? D = some { cls := .type "list", data := .seq ([] : List Value).toArray 0 } :=
    hsb.extBut _ _ nDC (Heap.get?_push_of_some _ (by rw [← hHp, ← hD]; exact Heap.get?_push_size _ rfl))
  have hfo : ∀ b ∈ fp, ∃ o, s2.heap.get? b = some o := fun b hb => let ⟨o, e, _⟩ := T.obj 0 _ st b hb; ⟨o, e⟩
  have st1 : tn 0 h1 := T.keep _ _ _ st fun b hb o e => old b o e
  have J0 : Inv (compCx X scope (own ++ rest) cl s2 H2 (D + 1 : Nat) fp) [] (List.replicate own.length none ++ σ) H2 { s2 with heap := h1, toks := s2.toks } :=
    comp_start I S hc1 hc2 (by omega) hf hfo old hns
  have nfs : D ∉ (compCx X scope (own ++ rest) cl s2 H2 (D + 1 : Nat) fp).fs := fun z => by
    have z' : D ∈ frs X.stack := z
    rcases List.mem_cons.mp (I.stkSub D z') with q | q
    · exact Nat.lt_irrefl D (by have h := I.lt; rw [← q, hD] at h; exact h)
    · exact I.nofs (Nat.le_of_eq hD) q
  have ncl : ∀ x c, (compCx X scope (own ++ rest) cl s2 H2 (D + 1 : Nat) fp).env.cells.lookup x = some c → c ≠ D := fun x c e z => by
    obtain ⟨v, o, q, d⟩ := I.cell x c (hc1 x c e)
    exact Nat.ne_of_lt (below c o q) z
  have loop : ∀ s3 : Shared, s3 = { s2 with heap := h1, toks := s2.toks } →
      codeAny (model X.prog X.w) X.A (.compLoop (.ListComp elt [⟨tg, iter, ifs, 0⟩] scope pos) 0 (.ref it) (.ref D) (compEnvC scope cl (D + 1) X.env)) (RR (.ref D) (D + 1)) s3 := by
    rintro s3 rfl
    obtain ⟨W, ⟨m0, w0⟩, turn⟩ := hw
    refine comp_loopX (Ex := xeOf (compCx X scope (own ++ rest) cl s2 H2 (D + 1 : Nat) fp) EX) (fun m s' => ∃ (i : Nat) (ys : List V) (its : List Value) (n : Nat) (σ' : St) (H' : Hp), Inv (compCx X scope (own ++ rest) cl s2 H2 (D + 1 : Nat) fp) [] σ' H' s' ∧ tn i s'.heap ∧ (∀ b ∈ fp, H' b = none) ∧
      s'.heap.get? D = some { cls := .type "list", data := .seq its.toArray n } ∧ H' D = none ∧ Vals ys its ∧ ys.length ≤ sizeLine ∧ W i m ys σ' H') ?_ hX m0
      ⟨0, [], [], 0, _, H2, J0, st1, fun b hb => (hf b hb).1, hDo, by rw [← hD]; exact I.fresh, .nil, by simp, w0⟩
    rintro m s3 ⟨i, ys, its, n, σ3, H3, J3, st3, fr3, ho3, hn3, r3, z3, w3⟩
    have pin : ∀ {σ' : St} {H' : Hp} {s' : Shared}, Inv (compCx X scope (own ++ rest) cl s2 H2 (D + 1 : Nat) fp) [] σ' H' s' → s'.heap.get? D = some { cls := .type "list", data := .seq its.toArray n } → H' D = none →
        Inv (compCx X scope (own ++ rest) cl s2 H2 (D + 1 : Nat) fp) [(D, { cls := .type "list", data := .seq its.toArray n })] σ' H' s' := fun {σ' H' s'} K1 K2 K3 =>
      K1.pins_of fun p hp => by
        have e : p = (D, { cls := .type "list", data := .seq its.toArray n }) := by simpa using hp
        subst e
        exact ⟨K2, K3, nDC, nfs, fun v z => nomatch z⟩
    have fpk : ∀ {H' : Hp}, (∀ b ∈ fp, H' b = none) → ∀ b ∈ fp, FpOk (compCx X scope (own ++ rest) cl s2 H2 (D + 1 : Nat) fp) [(D, { cls := .type "list", data := .seq its.toArray n })] H' b := fun {H'} fr b hb => by
      obtain ⟨o, e⟩ := hfo b hb
      have lt := below b o e
      refine ⟨fr b hb, Nat.ne_of_lt (Nat.lt_succ_of_lt lt), ?_, .inl hb, fun x c q => (hf b hb).2.2.2.2.1 x c (hc1 x c q), fun p hp => ?_⟩
      · intro z
        have z' : b ∈ frs X.stack := z
        rcases List.mem_cons.mp (I.stkSub b z') with q | q
        · exact (hf b hb).2.1 q
        · exact (hf b hb).2.2.1 q
      · have e : p = (D, { cls := .type "list", data := .seq its.toArray n }) := by
          have hp' : p ∈ [(D, ({ cls := .type "list", data := .seq its.toArray n } : Obj))] := hp
          simpa using hp'
        subst e
        exact Nat.ne_of_gt lt
    have J3p := pin J3 ho3 hn3
    rcases turn i m ys σ3 H3 w3 with ⟨stop, q⟩ | ⟨go, hlt, N, hN, step⟩
    · refine thn (T.done (compCx X scope (own ++ rest) cl s2 H2 (D + 1 : Nat) fp) rfl rfl rfl hcalm i _ s3 σ3 H3 _ J3p (fpk fr3) st3 stop) fun r s4 ⟨hr, J4⟩ => ?_
      subst hr
      have ho4 := J4.pin _ (List.mem_append_right _ List.mem_cons_self)
      refine hR s4 H3 ys (comp_end I J4 hf (by omega) hn3 ho4.1 r3 z3) ?_ hn3 J4.free q
      obtain ⟨mm, hmm, _⟩ := J4.loc
      exact ⟨mm, hmm⟩
    · refine thn (T.item (compCx X scope (own ++ rest) cl s2 H2 (D + 1 : Nat) fp) rfl rfl rfl hcalm i _ s3 σ3 H3 _ J3p (fpk fr3) st3 go) fun r s4 ⟨u, hr, h4⟩ => ?_
      subst hr
      refine thn h4 fun _ s5 ⟨x, H5, J5, r5, y5, st5, fr5⟩ => ?_
      have J5' := J5.pinned (fpk fr5) (T.obj _ _ st5)
      refine thn (hg _ s5 σ3 H5 x u _ (Inv.toXe J5') r5 (step x H5 y5)) fun _ s6 ⟨σ6, H6, J6, q6⟩ => ?_
      refine thn (ht _ s6 σ6 H6 _ J6 q6) fun b s7 ⟨H7, J7, q7⟩ => ?_
      have stay : ∀ {σ' : St} {H' : Hp} {s' : Shared}, Inv (compCx X scope (own ++ rest) cl s2 H2 (D + 1 : Nat) fp) ([(D, { cls := .type "list", data := .seq its.toArray n })] ++ pinsAt fp s5.heap) σ' H' s' →
          Inv (compCx X scope (own ++ rest) cl s2 H2 (D + 1 : Nat) fp) [] σ' H' s' ∧ tn (i + 1) s'.heap ∧ (∀ b ∈ fp, H' b = none) ∧ s'.heap.get? D = some { cls := .type "list", data := .seq its.toArray n } ∧ H' D = none := fun {σ' H' s'} K1 => by
        refine ⟨K1.pins_of fun p hp => absurd hp (by simp), T.keep _ _ _ st5 fun b hb o e => (K1.pin (b, o) (List.mem_append_right _ (List.mem_append_right _ (mem_pinsAt hb e)))).1, fun b hb => ?_, ?_, ?_⟩
        · obtain ⟨o, e, d⟩ := T.obj _ _ st5 b hb
          exact (K1.pin (b, o) (List.mem_append_right _ (List.mem_append_right _ (mem_pinsAt hb e)))).2.1
        · exact (K1.pin (D, _) (List.mem_append_right _ (List.mem_append_left _ List.mem_cons_self))).1
        · exact (K1.pin (D, _) (List.mem_append_right _ (List.mem_append_left _ List.mem_cons_self))).2.1
      cases b with
      | false =>
        rw [if_neg Bool.false_ne_true] at q7 ⊢
        obtain ⟨k1, k2, k3, k4, k5⟩ := stay (Inv.offXe J7)
        obtain ⟨m', hm, w'⟩ := hN _ _ _ q7
        exact ⟨m', hm, i + 1, ys, its, n, σ6, H7, k1, k2, k3, k4, k5, r3, z3, w'⟩
      | true =>
        rw [if_pos rfl] at q7 ⊢
        refine thn (he _ s7 σ6 H7 _ J7 q7) fun xv s8 ⟨y, H8, J8, r8, q8⟩ => ?_
        obtain ⟨k1, k2, k3, k4, k5⟩ := stay (Inv.offXe J8)
        refine call_meets F.slot_list_append ⟨_, k4, rfl⟩ F.entry_list_append (F.args_list_append_2 _ _) (PySem.list_append D its.toArray n xv (by rw [List.size_toArray, ← r3.length]; omega)) ⟨k4, ?_⟩
        obtain ⟨m', hm, w'⟩ := hN _ _ _ q8
        have ho9 := PySem.IsL.update k4 (fun a => a.push xv)
        have ek : ∀ b o, b ≠ D → s8.heap.get? b = some o → (s8.heap.update D (Obj.mapSeq (fun a => a.push xv))).get? b = some o := fun b o hb e => (Heap.get?_update_other s8.heap (Obj.mapSeq _) (Ne.symm hb)).trans e
        refine ⟨m', hm, i + 1, ys ++ [y], its ++ [xv], (if ((its.toArray.push xv).size == its.toArray.size) = true then n else n + 1), σ6, H8, k1.turned (it := D) (t' := s8.toks) ek k5 nDC (.inr (show s2.heap.objs.size ≤ D by omega)) ncl (fun p hp => absurd (show p ∈ ([] : List (Addr × Obj)) from hp) (by simp)), ?_, k3, ?_, k5, r3.append (.cons r8 .nil), ?_, w'⟩
        · refine T.keep _ _ _ k2 fun b hb o e => ek b o ?_ e
          obtain ⟨o', e'⟩ := hfo b hb
          exact Nat.ne_of_lt (below b o' e')
        · have e2 : its.toArray.push xv = (its ++ [xv]).toArray := by simp
          rw [← e2]; exact ho9
        · simp only [List.length_append, List.length_cons, List.length_nil]; omega
  exact codeAny_compStart_list (loop _ rfl) (T.self X.A 0 _ _ _ st1 (loop _ rfl))
end
section
variable {X : Cx} {pins : List (Addr × Obj)} {σ : St} {H2 : Hp} {s2 : Shared} {scope : Scope} {N' : List Str} {cl : List (Str × Addr)} {fp : List Addr} {C : Addr} {EX : XK} {use : Option (Value → Sem Unit)} {QQ : Value → Shared → Prop} {acc : Value}
theorem comp_throw (L : Leaves X EX) (I : Inv X pins σ H2 s2) (hf : ∀ b ∈ fp, FpOk X pins H2 b) (hC : s2.heap.objs.size ≤ C) : ∀ e s', xeOf (compCx X scope N' cl s2 H2 C fp) EX e s' →
    notedBy (model X.prog X.w) X.A (compEnvC scope cl C X.env) (fun x s'' => compPost (model X.prog X.w) X.A X.xe use QQ acc C (.error x) s'') e s' := by
  rintro e s' ⟨pins1, σ1, H1, s1, J1, a, Cv, ed, H', rfl, os, bare, un, hok, t, q⟩
  have J : Inv (compCx X scope N' cl s2 H2 C fp) pins1 σ1 H' s' := J1.call' os un hok bare (fun b z => absurd z (by simp))
  have u : Un (frs X.stack) fp H2 H' s2.heap s'.heap := J.base
  have u1 : Un (frs X.stack) fp H2 H1 s2.heap s1.heap := J1.base
  have hfr : X.A.frames = some (X.env :: X.outer) := L.stk ▸ I.ok.frames
  have hst : X.stack = X.env :: X.outer := L.stk
  have hfun : s'.heap.FunFrames X.base (X.env :: X.outer) := hst ▸ (show s'.heap.FunFrames X.base X.stack from J.stack)
  have sfr : ∀ b ∈ frs (X.env :: X.outer), H' b = none := hst ▸ (show ∀ b ∈ frs X.stack, H' b = none from J.stkFree)
  have low : ∀ b o, s2.heap.get? b = some o → b ≠ C := fun b o z => Nat.ne_of_lt (Nat.lt_of_lt_of_le (Heap.lt_size z) hC)
  have frl : ∀ b ∈ frs X.stack, b ≠ C := fun b hb => by
    obtain ⟨_, o, ho, _⟩ := I.stack.mem hb
    exact low b o ho
  have hG : ∀ b, s'.heap.objs.size ≤ b → s1.heap.get? b = none := fun b hb => by
    cases z : s1.heap.get? b with
    | none => rfl
    | some o =>
      obtain ⟨o', e'⟩ := un.there b o z (by simp)
      exact absurd (Heap.lt_size e') (Nat.not_lt.mpr hb)
  show wpAny _ X.A (noteFrame (.ref a) (compEnvC scope cl C X.env)) _ _ s'
  have en : noteFrame (.ref a) (compEnvC scope cl C X.env) = noteFrame (.ref a) X.env := rfl
  rw [en]
  refine note_wp hfr hfun L.fr (fun b hb => J.hok.fresh hb) hG t fun h1 t1 f1 k1 => ?_
  have c1 : s1.heap.get? C ≠ none := by
    obtain ⟨m, ⟨o, _, _, ho, _⟩, _⟩ := J1.loc
    have ho' : s1.heap.get? C = some o := ho
    rw [ho']; simp
  have fC : H' C = none := J.free
  have old : ∀ b, s1.heap.get? b = none → X.s₀.heap.get? b = none := fun b hb => by
    cases z : X.s₀.heap.get? b with
    | none => rfl
    | some o =>
      obtain ⟨o1, e1⟩ := I.base.there b o z (by rw [L.ex]; simp)
      have nf : b ∉ fp := fun hfb => by
        rcases (hf b hfb).2.2.2.1 with y | y
        · rw [L.ex] at y
          cases y
        · exact absurd (Heap.lt_size z) (Nat.not_lt.mpr y)
      obtain ⟨o2, e2⟩ := u1.there b o1 e1 nf
      rw [hb] at e2
      cases e2
  have fin : ∃ m, ({ s' with heap := h1 } : Shared).heap.Ns C m ∧ ∀ h', Heap.SameBut C h1 h' → ∀ cenv : Env, cenv.locals = C → wpAny (model X.prog X.w) X.A (PySem.passOn "comprehension.variables-let-go" (.ref a) cenv : Sem Value) (fun _ _ => False) X.xe { s' with heap := h' } := by
    obtain ⟨m, ⟨o, es, ep, ho, hr⟩, _⟩ := J.loc
    have ho' : s'.heap.get? C = some o := ho
    refine ⟨m, ⟨o, es, ep, k1.keep C o ho' (fun z => frl C (hst ▸ z) rfl) (.inl c1), hr⟩, fun h3 sb cenv _ => ?_⟩
    have nC : ∀ b, s1.heap.get? b = none → b ≠ C := fun b hb z => by subst z; exact c1 hb
    have st3 : ∀ b, b ≠ C → h3.get? b = h1.get? b := fun b hb => sb.2 b hb
    obtain ⟨hn, hHe, oe, vs, he, hc, hdi, hd, hsz, ht⟩ := t1
    rcases ht with ⟨_, z⟩ | ⟨T, oT, ts, hv, hT, hTe, hHT, gT, hdT, h3'⟩
    · exact absurd z (by simp [rawInt])
    have he3 : h3.get? a = some oe := (st3 a (nC a hn)).trans he
    have t3 : Trc H' h3 s1.heap a Cv ed (rawInt X.env.locals) := ⟨hn, hHe, oe, vs, he3, hc, hdi, hd, hsz, .inr ⟨T, oT, ts, hv, hT, hTe, hHT, (st3 T (nC T hT)).trans gT, hdT, h3'⟩⟩
    unfold PySem.passOn
    refine wpAny_bind (wpAny_field (s := { s' with heap := h3 }) he3 hd hv ?_)
    rw [if_neg (show ¬ ((Value.ref T == Value.none) = true) from by simp)]
    refine wpAny_bind (flight_any (s := { s' with heap := h3 }) (base := X.base) (outer := []) trivial t3 fun h4 fl' t4 _ k4 _ => wpAny_throw ?_)
    have hok4 : HOk X.prog X.w H' h4 := k4.hok (fun _ z => absurd z (by simp)) (fun b ob eb => ((k1.hok sfr (show HOk X.prog X.w H' s'.heap from J.hok)) b ob eb).stay (fun c v hb qq => by
      have hne : H' c ≠ none := by
        rcases hb with rfl | hb
        · rw [eb]; simp
        · rw [hb]; simp
      exact (st3 c fun z => hne (by rw [z]; exact fC)).trans qq) (fun _ qq => qq) fun _ _ qq => qq)
    have in1 : ∀ b o, s2.heap.get? b = some o → b ∉ fp → s1.heap.get? b ≠ none := fun b o z hx => by
      obtain ⟨o', e'⟩ := u1.there b o z hx
      rw [e']; simp
    have I4 : Inv X pins σ H' { s' with heap := h4 } := by
      refine I.call' (s' := { s' with heap := h4 }) (ch := fp) J.os ⟨fun b o z n hb hx => ?_, fun b o z n hb hx => ?_, u.free, fun b o z hx => ?_, u.tups, u.frzs, u.tbls⟩ hok4 bare fun b hb => ?_
      · have e1 := u.keep b o z n hb hx
        have e2 := k1.keep b o e1 (by rw [← hst]; exact hb) (.inl (in1 b o z hx))
        exact k4.keep b o ((st3 b (low b o z)).trans e2) (by simp) (.inl (in1 b o z hx))
      · obtain ⟨sl, e1⟩ := u.slot b o z n hb hx
        obtain ⟨sl', e2⟩ := k1.slot b _ e1 (by rw [← hst]; exact hb)
        exact ⟨sl', k4.keep b _ ((st3 b (low b o z)).trans e2) (by simp) (.inl (in1 b o z hx))⟩
      · obtain ⟨o1, e1⟩ := u.there b o z hx
        obtain ⟨o2, e2⟩ := k1.there b o1 e1
        exact k4.there b o2 ((st3 b (low b o z)).trans e2)
      · obtain ⟨_, f1, _, f3, f4, f5⟩ := hf b hb
        exact ⟨f3, f1, f4, f5⟩
    exact L.on pins σ H' _ a Cv ed fl' I4 (t4.older old) q
  cases use <;> exact fin
end
section
variable {X : Cx} {elt tg iter : Expr} {ifs : List Expr} {scope : Scope} {pos : Pos} {wi : TI} {g : TG} {tt : TT} {te : TE} {EX : XK}
theorem pe_compX (L : Leaves X EX) (own rest : List Str) (hcalm : X.calm = true) (S : CompSc scope X.env.scope X.N rest) (hi : PI X tg iter wi)
    (hg : ∀ cl s2 H2 C fp xe, PG (compCxE X scope (own ++ rest) cl s2 H2 C fp xe) tg g) (ht : ∀ cl s2 H2 C fp xe, PTs (compCxE X scope (own ++ rest) cl s2 H2 C fp xe) ifs tt) (he : ∀ cl s2 H2 C fp xe, ToldC (compCxE X scope (own ++ rest) cl s2 H2 C fp xe) EX → PE (compCxE X scope (own ++ rest) cl s2 H2 C fp xe) elt te)
    (hs : ∀ x, foldedSetIterable iter X.env x = pure x := by intro _; rfl) : PE X (.ListComp elt [⟨tg, iter, ifs, 0⟩] scope pos) (tComp own.length wi g tt te) := by
  intro pins s σ H Q I h
  obtain ⟨cl, hcl, hc1, hc2⟩ := I.closed S
  rw [eval_ListComp]
  refine wpAny_comprehension_free (use := none) rfl hs hcl S.kind S.loc (thn (hi pins s σ H _ I h) fun v s1 h1 => thn h1 fun itv s2 h2 => ?_)
  obtain ⟨it, fp, tn, J, H2, e, I2, T, st, hf, hw⟩ := h2
  subst e
  refine comp_runX (EX := EX) (RR := fun acc C => compPost (model X.prog X.w) X.A X.xe none (EP X pins σ Q) acc C) (D := s2.heap.objs.size) rfl hcalm I2 S hc1 hc2 T st hf (hg _ _ _ _ _ _) (ht _ _ _ _ _ _) (he _ _ _ _ _ _ told_comp) (comp_throw L I2 hf (Nat.le_succ _)) hw ?_
  intro s' H' ys J' ⟨m, hm⟩ hD hC q
  refine ⟨m, hm, fun h' sb => ⟨.ref s2.heap.objs.size, _, I2.letgo (pins' := pins) (b := (s2.heap.objs.size + 1 : Nat)) J' (Nat.le_succ _) ?_ sb, rfl, q _ hD⟩⟩
  rw [upd_ne (Nat.ne_of_gt (Nat.lt_succ_self _))]; exact hC
end
end L2
set_option maxHeartbeats 4000000
namespace L2
open PySem PySem.Spec PyProof.Rows
section
variable {prog : Program} {w : World} {A : Around} {R : Result → Shared → Prop} {I : Addr} {fp wr : List Addr} {G : Array GenState → Array GenState → Prop} {n : Nat} {P : Nat → Value → Prop} {St : Nat → Shared → Prop}
variable {α : Type} [DecidableEq α] [BEq α] [LawfulBEq α] {knd : PySem.KeyKind prog w α}
end
section
variable {prog : Program} {w : World} {A : Around} {E : Value → Shared → Prop} {s : Shared}
noncomputable abbrev bareSet (led : Bool) : Obj := { cls := .type "set", dict := none, data := .set #[] 0 (.fresh 0 0 led) }
set_option maxHeartbeats 3200000 in
variable {α : Type} [DecidableEq α] [BEq α] [LawfulBEq α] {knd : PySem.KeyKind prog w α}
end
end L2
set_option maxHeartbeats 4000000
namespace L2
open PySem PySem.Spec PyProof.Rows
theorem bt_set : bootBuiltins "set" = some (.type "set") := by decide +kernel
section
variable {X : Cx}
end
end L2
set_option maxHeartbeats 4000000
namespace L2
open PySem PySem.Spec PyProof.Rows
section
variable {X : Cx}
end
end L2
set_option maxHeartbeats 4000000
namespace L2
open PySem PySem.Spec PyProof.Rows
section
variable {X : Cx}
noncomputable def tStop : TS := fun _ _ _ => False
theorem pss_stop {rest : List Stmt} : PSs X rest tStop := fun _ _ _ _ _ _ h => h.elim
end
end L2
set_option maxHeartbeats 4000000
namespace L2
open PySem PySem.Spec PyProof.Rows
noncomputable def Itz (K : PySem.W.Frag) (a b : Addr) : It where
  go := fun i H => ∃ xs ys x y, SqL K H a xs ∧ SqL K H b ys ∧ xs[i]? = some x ∧ ys[i]? = some y
  yld := fun i H v H' => ∃ p x y, H p = none ∧ v = .ref p ∧ (∀ zs, SqL K H a zs → zs[i]? = some x) ∧ (∀ zs, SqL K H b zs → zs[i]? = some y) ∧ H' = upd H p (.tup [x, y])
  stop := fun i H => ∃ xs ys, SqL K H a xs ∧ SqL K H b ys ∧ (xs.length ≤ i ∨ ys.length ≤ i)
theorem turn_zip {P : Program} {w : World} {K : PySem.W.Frag} {elts : List Expr} {x1 : Nat} {tpos : Pos} (z TI TO i1 i2 a b : Addr) (D : ZipApart z TI TO i1 i2 a b) :
    Turn P w K (.Tuple elts x1 tpos) (Itz K a b) [z, TI, TO, i1, i2] z (fun i h => IsZip h z TI TO .none ∧ IsPair h TI (.ref i1) (.ref i2) ∧ (∃ x y, IsPair h TO x y) ∧ h.IsListIter i1 a i ∧ h.IsListIter i2 b i) where
  mem := by simp
  obj := fun i h st c hc => by
    obtain ⟨h1, h2, ⟨x, y, h3⟩, ⟨o4, e4, _, d4⟩, ⟨o5, e5, _, d5⟩⟩ := st
    simp only [List.mem_cons, List.not_mem_nil, or_false] at hc
    rcases hc with rfl | rfl | rfl | rfl | rfl
    · exact ⟨_, h1, fun v z => nomatch z⟩
    · exact ⟨_, h2, fun v z => nomatch z⟩
    · exact ⟨_, h3, fun v z => nomatch z⟩
    · exact ⟨_, e4, fun v z => by rw [d4] at z; cases z⟩
    · exact ⟨_, e5, fun v z => by rw [d5] at z; cases z⟩
  keep := fun i h h' st k => by
    obtain ⟨h1, h2, ⟨x, y, h3⟩, h4, h5⟩ := st
    exact ⟨k z (by simp) _ h1, k TI (by simp) _ h2, ⟨x, y, k TO (by simp) _ h3⟩, h4.at fun o e => k i1 (by simp) o e, h5.at fun o e => k i2 (by simp) o e⟩
  item := by
    intro X hP hw hK hc i pins s σ H E I hf st hg
    subst hP hw hK
    obtain ⟨xs, ys, x, y, hqa, hqb, hx, hy⟩ := hg
    obtain ⟨ia, ra, pa, _⟩ := I.list hqa
    obtain ⟨ib, rb, pb, _⟩ := I.list hqb
    obtain ⟨u, hu, ru⟩ := ra.get hx
    obtain ⟨v, hv, rv⟩ := rb.get hy
    obtain ⟨h1, h2, ⟨ox, oy, h3⟩, h4, h5⟩ := st
    have fr : H s.heap.objs.size = none := I.hok.fresh (Nat.le_refl _)
    have pz : s.heap.objs.size ≠ z := Nat.ne_of_gt (Heap.lt_size h1)
    refine wpAny_pyNext_zip_item D h1 h2 h3 h4 h5 pa.isList pb.isList (x := u) (y := v) (by simpa using hu) (by simpa using hv) fun h' out to' st1 st2 tup sz k => ⟨.ref s.heap.objs.size, rfl, ?_⟩
    refine wpAny_letOwnedTupleGo_zip (s := { s with heap := h' }) out fun h'' hz' sb => ?_
    have kk : ∀ c o, c ∉ [z, TI, TO, i1, i2] → s.heap.get? c = some o → h''.get? c = some o := fun c o hb e =>
      (sb.2 c (fun q => hb (by simp [q]))).trans (k c o (fun q => hb (by simp [q])) (fun q => hb (by simp [q])) (fun q => hb (by simp [q])) (fun q => hb (by simp [q])) e)
    have kt : h''.get? s.heap.objs.size = some { cls := .type "tuple", data := .seq #[u, v] } := (sb.2 _ pz).trans tup
    have nt : ∀ c w', H c = some w' → c ∉ [z, TI, TO, i1, i2] := fun c w' e hb => by
      rw [(hf c hb).1] at e; cases e
    have np : ∀ c w', H c = some w' → c ≠ s.heap.objs.size := fun c w' e q => by subst q; rw [fr] at e; cases e
    have up : ∀ c w', H c = some w' → upd H s.heap.objs.size (.tup [x, y]) c = some w' := fun c w' e => by rw [upd_ne (np c w' e)]; exact e
    have lts : ∀ c ∈ [z, TI, TO, i1, i2], c < s.heap.objs.size := fun c hc => by
      obtain ⟨o4, e4, _, _⟩ := h4
      obtain ⟨o5, e5, _, _⟩ := h5
      simp only [List.mem_cons, List.not_mem_nil, or_false] at hc
      rcases hc with rfl | rfl | rfl | rfl | rfl
      · exact Heap.lt_size h1
      · exact Heap.lt_size h2
      · exact Heap.lt_size h3
      · exact Heap.lt_size e4
      · exact Heap.lt_size e5
    refine ⟨.ref s.heap.objs.size, upd H s.heap.objs.size (.tup [x, y]), ?_, rfl, ⟨_, x, y, fr, rfl, fun zs hz => by rw [I.list_inj hz hqa]; exact hx, fun zs hz => by rw [I.list_inj hz hqb]; exact hy, rfl⟩, ⟨hz', (sb.2 TI D.TIz).trans (k TI _ D.TIz D.TITO D.TIi1 D.TIi2 h2), ⟨u, v, (sb.2 TO D.TOz).trans to'⟩, st1.at fun o e => (sb.2 i1 D.i1z).trans e, st2.at fun o e => (sb.2 i2 D.i2z).trans e⟩, fun c hc => ?_⟩
    · show Inv X pins σ _ { s with heap := h'', gens := s.gens, drawn := s.drawn, toks := s.toks }
      refine Inv.step (s := s) (h' := h'') (t' := s.toks) (g' := s.gens) (d' := s.drawn) (ch := [z, TI, TO, i1, i2]) I (fun c hc => ?_) (fun c o _ _ hb e _ => kk c o hb e) (fun c o _ _ hb e _ => ⟨o.slots, kk c o hb e⟩) (fun c o _ e n => by rw [upd_ne (Nat.ne_of_lt (Heap.lt_size e))]; exact n) (fun c o hb e => ⟨o, kk c o hb e⟩)
        (fun c zs e => up c _ e) (fun c o w' e => up c _ e) (fun c ps e => ⟨#[], by rw [Array.append_empty]; exact up c _ e⟩) (fun m hm => ?_) (fun c w' e => ?_) I.bare
      · obtain ⟨f0, f1, f2, f3, f4, f5⟩ := hf c hc
        exact ⟨f3, f1, f4, f5⟩
      · obtain ⟨o, es, ep, ho, r⟩ := hm
        exact ⟨o, es, ep, kk _ o (fun hb => (hf _ hb).2.1 rfl) ho, r⟩
      · by_cases q : c = s.heap.objs.size
        · subst q
          rw [upd_same] at e
          cases e
          exact ⟨small_line (Nat.le_of_ble_eq_true rfl), [u, v], .cons ru (.cons rv .nil), _, kt, rfl, _, rfl⟩
        · rw [upd_ne q] at e
          refine (I.hok c w' e).stay (fun d o hd y => kk d o ?_ y) (fun d y => up d _ y) fun d zs y => up d _ y
          rcases hd with rfl | hd
          · exact nt _ _ e
          · exact nt _ _ hd
    · rw [upd_ne (Nat.ne_of_lt (lts c hc))]
      exact (hf c hc).1
  done := by
    intro X hP hw hK hc i pins s σ H E I hf st hg
    subst hP hw hK
    obtain ⟨xs, ys, hqa, hqb, hx⟩ := hg
    obtain ⟨ia, ra, pa, _⟩ := I.list hqa
    obtain ⟨ib, rb, pb, _⟩ := I.list hqb
    obtain ⟨h1, h2, ⟨ox, oy, h3⟩, h4, h5⟩ := st
    have la := ra.length
    have lb := rb.length
    refine wpAny_pyNext_zip_end (I.ok.hd hc) D h1 h2 h3 h4 h5 pa.isList pb.isList (by
      rcases hx with hx | hx
      · left; simp; omega
      · right; simp; omega) fun h' k => ⟨rfl, ?_⟩
    have kk : ∀ c o, c ∉ [z, TI, TO, i1, i2] → s.heap.get? c = some o → h'.get? c = some o := fun c o hb e =>
      k c o (fun q => hb (by simp [q])) (fun q => hb (by simp [q])) (fun q => hb (by simp [q])) (fun q => hb (by simp [q])) e
    have nt : ∀ c w', H c = some w' → c ∉ [z, TI, TO, i1, i2] := fun c w' e hb => by
      rw [(hf c hb).1] at e; cases e
    show Inv X pins σ _ { s with heap := h', gens := s.gens, drawn := s.drawn, toks := s.toks }
    refine Inv.step (s := s) (h' := h') (t' := s.toks) (g' := s.gens) (d' := s.drawn) (ch := [z, TI, TO, i1, i2]) I (fun c hc => ?_) (fun c o _ _ hb e _ => kk c o hb e) (fun c o _ _ hb e _ => ⟨o.slots, kk c o hb e⟩) (fun _ _ _ _ n => n) (fun c o hb e => ⟨o, kk c o hb e⟩)
      (fun _ _ e => e) (fun _ _ _ e => e) (fun c ps e => ⟨#[], by rw [Array.append_empty]; exact e⟩) (fun m hm => ?_) (fun c w' e => ?_) I.bare
    · obtain ⟨f0, f1, f2, f3, f4, f5⟩ := hf c hc
      exact ⟨f3, f1, f4, f5⟩
    · obtain ⟨o, es, ep, ho, r⟩ := hm
      exact ⟨o, es, ep, kk _ o (fun hb => (hf _ hb).2.1 rfl) ho, r⟩
    · refine (I.hok c w' e).stay (fun d o hd y => kk d o ?_ y) (fun d y => y) fun d zs y => y
      rcases hd with rfl | hd
      · exact nt _ _ e
      · exact nt _ _ hd
  self := fun _ _ _ _ _ st h => wpAny_pyIter_zip st.1 h
theorem boot_zip : bootBuiltins "zip" = some (.type "zip") := by decide +kernel
section
variable {X : Cx}
noncomputable def iZip (K : PySem.W.Frag) (ta : TA) : TI := fun σ H R => ta σ H fun vs H1 => ∃ a b, vs = [.ref a, .ref b] ∧ (∃ xs, SqL K H1 a xs) ∧ (∃ ys, SqL K H1 b ys) ∧ R (Itz K a b) H1
theorem pi_zip {a b : Expr} {ta : TA} {p pos tpos : Pos} {elts : List Expr} {x1 : Nat} (hg : Gl X "zip") (hm : X.mg "zip" = none) (ha : PA X [a, b] ta) (hn : notStar a = true) (hn2 : notStar b = true) : PI X (.Tuple elts x1 tpos) (.Call (.Name "zip" p) [a, b] [] pos) (iZip X.K ta) := by
  intro pins s σ H R I h
  refine Call_ (ld_blt I hg hm boot_zip (PyProof.Rows.callWith_type1 (thn (ha pos pins s σ H _ I h) fun us s1 ⟨vs, H1, I1, r1, q1⟩ => ?_) (star_cons hn) (by rw [star_cons hn2]; rfl)))
  obtain ⟨l, m, e, ⟨xs, hq⟩, ⟨ys, hq2⟩, q⟩ := q1
  subst e
  obtain ⟨u, v, rfl, ru, rv⟩ := vals2 r1
  cases (show u = Value.ref l from ru)
  cases (show v = Value.ref m from rv)
  obtain ⟨ia, ra, pa, _⟩ := I1.list hq
  obtain ⟨ib, rb, pb, _⟩ := I1.list hq2
  have la : l < s1.heap.objs.size := by obtain ⟨o, e, _⟩ := pa.isList; exact Heap.lt_size e
  have lb : m < s1.heap.objs.size := by obtain ⟨o, e, _⟩ := pb.isList; exact Heap.lt_size e
  refine call_zip_2 pa.isList pb.isList fun h' hz hTI hTO st1 st2 sz k => ?_
  refine wpAny_pyIter_zip (s := { s1 with heap := h' }) hz ?_
  refine ⟨s1.heap.objs.size + 4, [s1.heap.objs.size + 4, s1.heap.objs.size + 2, s1.heap.objs.size + 3, s1.heap.objs.size, s1.heap.objs.size + 1], _, _, H1, rfl, I1.kept (t' := s1.toks) k, turn_zip _ _ _ _ _ l m ?_, ⟨hz, hTI, ⟨_, _, hTO⟩, st1, st2⟩, fun c hc => ?_, q⟩
  · have la' : Nat.lt l s1.heap.objs.size := la
    have lb' : Nat.lt m s1.heap.objs.size := lb
    generalize s1.heap.objs.size = N at *
    constructor <;> first | exact Nat.ne_of_lt (by simp only [Nat.lt_eq] at *; omega) | exact Nat.ne_of_gt (by simp only [Nat.lt_eq] at *; omega)
  · have hle : s1.heap.objs.size ≤ c := by
      simp only [List.mem_cons, List.not_mem_nil, or_false] at hc
      rcases hc with rfl | rfl | rfl | rfl | rfl
      · exact Nat.le_add_right _ _
      · exact Nat.le_add_right _ _
      · exact Nat.le_add_right _ _
      · exact Nat.le_refl _
      · exact Nat.le_add_right _ _
    exact I1.fpOk hle (I1.hok.fresh hle)
theorem k_zip {K : PySem.W.Frag} {a b : Expr} {ta : TA} {p pos tpos : Pos} {elts : List Expr} {x1 : Nat} (e : X.K = K) (hg : Gl X "zip") (hm : X.mg "zip" = none) (ha : PA X [a, b] ta) (hn : notStar a = true) (hn2 : notStar b = true) : PI X (.Tuple elts x1 tpos) (.Call (.Name "zip" p) [a, b] [] pos) (iZip K ta) := by subst e; exact pi_zip hg hm ha hn hn2
end
theorem ForW.zip {K : PySem.W.Frag} {a b : Addr} {xs ys : List V} {g : TG} {tb : TS} {D : Ends} {σ : St} {H : Hp} (Pv : Nat → St → Hp → Prop) (h0 : Pv 0 σ H) (hl : ∀ i σ H, Pv i σ H → SqL K H a xs ∧ SqL K H b ys)
    (hs : ∀ (i : Nat) x y σ H p, xs[i]? = some x → ys[i]? = some y → Pv i σ H → H p = none → g (.ref p) σ (upd H p (.tup [x, y])) fun σ2 H2 => tb { D with nx := Pv (i + 1), ct := Pv (i + 1), bk := D.nx } σ2 H2)
    (hd : ∀ σ H, Pv (min xs.length ys.length) σ H → D.nx σ H) : ForW (Itz K a b) g tb D σ H := by
  refine ⟨fun i m σ H => Pv i σ H ∧ i ≤ min xs.length ys.length ∧ m = min xs.length ys.length - i, ⟨_, h0, Nat.zero_le _, rfl⟩, fun i m σ H ⟨h1, h2, h3⟩ => ?_⟩
  obtain ⟨sa, sb⟩ := hl i σ H h1
  by_cases e : i = min xs.length ys.length
  · subst e
    exact .inl ⟨⟨xs, ys, sa, sb, by omega⟩, hd σ H h1⟩
  · have lt : i < min xs.length ys.length := Nat.lt_of_le_of_ne h2 e
    have lx : i < xs.length := by omega
    have ly : i < ys.length := by omega
    refine .inr ⟨⟨xs, ys, xs[i], ys[i], sa, sb, List.getElem?_eq_getElem lx, List.getElem?_eq_getElem ly⟩, Pv (i + 1), fun σ' H' z => ⟨min xs.length ys.length - (i + 1), by omega, z, lt, rfl⟩, fun v H' hy => ?_⟩
    obtain ⟨p, x', y', hp, rfl, hx, hy, rfl⟩ := hy
    exact hs i x' y' σ H p (hx xs sa) (hy ys sb) h1 hp
theorem comp_zip {K : PySem.W.Frag} {a b : Addr} {xs ys : List V} {g : TG} {tt : TT} {te : TE} {fin : List V → Hp → Prop} {σ : St} {H : Hp} (hz : xs.length ≤ sizeLine) (Pv : Nat → List V → St → Hp → Prop) (h0 : Pv 0 [] σ H) (hl : ∀ i zs σ H, Pv i zs σ H → (SqL K H a xs ∧ SqL K H b ys) ∧ zs.length ≤ i)
    (hs : ∀ (i : Nat) x y zs σ H p, xs[i]? = some x → ys[i]? = some y → Pv i zs σ H → H p = none → g (.ref p) σ (upd H p (.tup [x, y])) fun σ2 H2 => tt σ2 H2 fun b H3 => if b = true then te σ2 H3 fun y H4 => Pv (i + 1) (zs ++ [y]) σ2 H4 else Pv (i + 1) zs σ2 H3)
    (hd : ∀ zs σ H, Pv (min xs.length ys.length) zs σ H → fin zs H) : CompW (Itz K a b) g tt te fin σ H := by
  refine ⟨fun i m zs σ H => m = min xs.length ys.length - i ∧ i ≤ min xs.length ys.length ∧ Pv i zs σ H, ⟨_, rfl, Nat.zero_le _, h0⟩, ?_⟩
  rintro i m zs σ H ⟨rfl, hi, p⟩
  obtain ⟨⟨sa, sb⟩, hy⟩ := hl i zs σ H p
  by_cases e : i = min xs.length ys.length
  · subst e
    exact .inl ⟨⟨xs, ys, sa, sb, by omega⟩, hd zs σ H p⟩
  · have lt : i < min xs.length ys.length := Nat.lt_of_le_of_ne hi e
    have lx : i < xs.length := by omega
    have ly : i < ys.length := by omega
    refine .inr ⟨⟨xs, ys, xs[i], ys[i], sa, sb, List.getElem?_eq_getElem lx, List.getElem?_eq_getElem ly⟩, by omega, Pv (i + 1), fun zs' σ' H' z => ⟨min xs.length ys.length - (i + 1), by omega, rfl, lt, z⟩, fun v H' hv => ?_⟩
    obtain ⟨q, x', y', hq, rfl, hx, hy, rfl⟩ := hv
    exact hs i x' y' zs σ H q (hx xs sa) (hy ys sb) p hq
section
variable {X : Cx}
noncomputable def rGetL (K : PySem.W.Frag) : V → V → Hp → VK → Prop := fun x y H Q => ∃ p xs, ∃ i : Nat, ∃ v, x = .ref p ∧ y = .int i ∧ SqL K H p xs ∧ xs[i]? = some v ∧ Q v H
theorem get_list : PGet X (rGetL X.K) := by
  intro pins s σ H x y v u Q I rx ry h
  obtain ⟨p, xs, i, z, rfl, rfl, hq, he, q⟩ := h
  cases rx
  obtain ⟨t, rfl⟩ := ry
  obtain ⟨its, r, pl, hz⟩ := I.list hq
  obtain ⟨w, ew, rw'⟩ := r.get he
  have hl := r.length
  have hn := line63
  have hi := (List.getElem?_eq_some_iff.mp he).1
  have h63 : (i : Int) < 2 ^ 63 := by omega
  exact wpAny_getItem_list pl.isList (Int.natCast_nonneg _) h63 (by rw [Int.toNat_natCast]; simpa using ew) ⟨z, H, I, rw', q⟩
theorem k_getL {K : PySem.W.Frag} (e : X.K = K) : PGet X (rGetL K) := by subst e; exact get_list
theorem pgl2 (K : PySem.W.Frag) (i j : Nat) {x y : Str} {p1 p2 pos : Pos} {k : Nat} (hN : X.N.Nodup) (e : X.K = K := by rfl) (hc : X.calm = true := by rfl) (hi : X.N[i]? = some x := by rfl) (hj : X.N[j]? = some y := by rfl) (hv : X.env.scope.names.lookup x = some .local := by rfl) (hw : X.env.scope.names.lookup y = some .local := by rfl)
    (h1 : (assignEach [.Name x p1, .Name y p2] X.env).map (·.2) = assign (.Name x p1) X.env :: (assignEach [.Name y p2] X.env).map (·.2) := by rfl) (h2 : (assignEach [.Name y p2] X.env).map (·.2) = assign (.Name y p2) X.env :: (assignEach [] X.env).map (·.2) := by rfl)
    (hn : (assignEach [.Name x p1, .Name y p2] X.env).length = 2 := by rfl) (hst : (assignEach [.Name x p1, .Name y p2] X.env).findIdx? (·.1) = none := by rfl) : PG X (.Tuple [.Name x p1, .Name y p2] k pos) (gTup K 2 (gCons (gName i) (gCons (gName j) gNil))) :=
  k_pgT e hc (pgs_cons (pgl i hN hi hv) (pgs_cons (pgl j hN hj hw) pgs_nil h2) h1) hn hst
end
end L2
set_option maxHeartbeats 4000000
namespace L2
open PySem PySem.Spec PyProof.Rows
section
variable {prog : Program} {w : World} {A : Around} {E : Value → Shared → Prop} {s : Shared}
end
section
variable {prog : Program} {w : World} {A : Around} {R : Result → Shared → Prop} {I : Addr} {fp wr : List Addr} {G : Array GenState → Array GenState → Prop} {n : Nat} {P : Nat → Value → Prop} {St : Nat → Shared → Prop}
variable {α : Type} [DecidableEq α] {knd : PySem.KeyKind prog w α}
end
section
variable {prog : Program} {w : World} {A : Around} {E : Value → Shared → Prop} {s : Shared} {α : Type} [DecidableEq α] {knd : PySem.KeyKind prog w α}
end
section
variable {X : Cx}
end
end L2
set_option maxHeartbeats 4000000
namespace HT
open PySem PySem.Spec PyProof.Rows L2
end HT
namespace L2
open PySem PySem.Spec PyProof.Rows HT
section
variable {prog : Program} {w : World} {A : Around} {E : Value → Shared → Prop} {s : Shared}
end
section
variable {X : Cx}
end
end L2
set_option maxHeartbeats 4000000
namespace L2
open PySem PySem.Spec PyProof.Rows
section
variable {prog : Program} {w : World} {A : Around} {R : Result → Shared → Prop} {I : Addr} {fp wr : List Addr} {n : Nat} {P : Nat → Value → Prop} {St : Nat → Heap → Prop}
end
section
variable {prog : Program} {w : World} {A : Around} {E : Value → Shared → Prop} {s : Shared}
end
section
variable {prog : Program} {w : World} {A : Around} {R : Result → Shared → Prop} {I : Addr} {fp wr : List Addr} {n : Nat} {P : Nat → Value → Prop} {St : Nat → Heap → Prop}
end
section
variable {prog : Program} {w : World} {A : Around} {E : Value → Shared → Prop} {s : Shared}
end
end L2
set_option maxHeartbeats 4000000
namespace L2
open PySem PySem.Spec PyProof.Rows
section
variable {X : Cx}
theorem int_val {zs : List Int} {its : List Value} {i : Nat} {v : Value} (r : Vals (zs.map V.int) its) (hv : its.toArray[i]? = some v) : i < zs.length ∧ ∃ t, v = .int (zs.getD i 0) t := by
  have hv' : its[i]? = some v := by simpa using hv
  have hm : i < zs.length := by
    have := r.length
    rw [List.length_map] at this
    rw [this]
    exact (List.getElem?_eq_some_iff.mp hv').1
  obtain ⟨u, hu, t, e⟩ := r.get (i := i) (x := V.int zs[i]) (by rw [List.getElem?_map, List.getElem?_eq_getElem hm]; rfl)
  rw [hv'] at hu
  cases hu
  exact ⟨hm, t, by rw [List.getD_eq_getElem?_getD, List.getElem?_eq_getElem hm]; exact e⟩
theorem getD_at {α : Type} {l : List α} {i : Nat} {x d : α} (h : l[i]? = some x) : l.getD i d = x := by rw [List.getD_eq_getElem?_getD, h]; rfl
end
end L2
set_option maxHeartbeats 4000000
namespace L2
open PySem PySem.Spec PyProof.Rows
section
variable {X : Cx}
noncomputable def rSumI (K : PySem.W.Frag) : List V → Hp → VK → Prop := fun xs H Q => ∃ l, ∃ zs : List Int, xs = [.ref l] ∧ SqL K H l (zs.map V.int) ∧ Q (.int (zs.foldl (· + ·) 0)) H
theorem preSum_fold (zs : List Int) : ∀ k, k ≤ zs.length → preSum (fun i => zs.getD i 0) k = (zs.take k).foldl (· + ·) 0
  | 0, _ => rfl
  | k + 1, h => by
    have hk : k < zs.length := h
    show preSum (fun i => zs.getD i 0) k + zs.getD k 0 = _
    rw [preSum_fold zs k (by omega), List.take_add_one, List.getElem?_eq_getElem hk, List.foldl_append, getD_at (List.getElem?_eq_getElem hk)]
    rfl
theorem call_sum (hc : X.calm = true) : CallR X (.builtin "sum") (rSumI X.K) := by
  intro pins s σ H xs us Q I r h
  obtain ⟨l, zs, rfl, hq, q⟩ := h
  obtain ⟨lv, rfl, rl⟩ := vals1 r
  cases (show lv = Value.ref l from rl)
  obtain ⟨its, r', pl, hz⟩ := I.list hq
  have hl := r'.length
  rw [List.length_map] at hl
  obtain ⟨ol, hol, hcl⟩ := id pl.isList
  have ll : l < s.heap.objs.size := Heap.lt_size hol
  refine call_sum_walkAnyS (wpAny_pyIter_list pl.isList ⟨s.heap.objs.size, _, _, _, _, _, _, fun i => zs.getD i 0, rfl, (Walks.list (by simp [I.ok.hd hc]) s.heap.objs.size l (Nat.ne_of_lt ll) its.toArray).toS, ⟨⟨_, Heap.get?_push_size _ rfl, rfl, rfl⟩, pl.isList.push _⟩, ?_, fun i v hv => (int_val r' hv).2, fun s' t' mv => ?_⟩)
  · intro b hb
    rw [Heap.size_push]
    simp only [List.mem_cons, List.not_mem_nil, or_false] at hb
    rcases hb with rfl | rfl
    · exact Nat.lt_succ_self _
    · exact Nat.lt_succ_of_lt ll
  · obtain ⟨h', g', d', tk', os'⟩ := s'
    obtain rfl : g' = s.gens := mv.gens
    obtain rfl : d' = s.drawn := mv.drawn
    obtain rfl : os' = s.os := mv.os
    have e : preSum (fun i => zs.getD i 0) its.toArray.size = zs.foldl (· + ·) 0 := by
      rw [List.size_toArray, ← hl, preSum_fold zs zs.length (Nat.le_refl _), List.take_length]
    rw [e]
    refine ⟨.int _, H, I.kept (t' := tk') fun b o hb => ?_, ⟨_, rfl⟩, q⟩
    refine mv.heap b o ?_ (Heap.get?_push_of_some _ hb)
    simp only [List.mem_cons, List.not_mem_nil, or_false]
    exact Nat.ne_of_lt (Heap.lt_size hb)
theorem k_sumI {K : PySem.W.Frag} (e : X.K = K) (hc : X.calm = true) : CallR X (.builtin "sum") (rSumI K) := by subst e; exact call_sum hc
end
end L2
set_option maxHeartbeats 4000000
namespace L2
open PySem PySem.Spec PyProof.Rows
section
variable {X : Cx}
noncomputable def rInD (K : PySem.W.Frag) (neg : Bool) : R2 := fun x y H Q => ∃ d es, Rep K H d x ∧ Rep K H (.list es) y ∧ SeqAt.shaped d = true ∧ SeqAt.shaped (.list es) = true ∧ Q (.bl (if neg then !es.any (fun e => PyData.eqv e d) else es.any (fun e => PyData.eqv e d))) H
theorem shaped_lay {d : PyData} (h : SeqAt.shaped d = true) : d.canLay0 = true ∧ d.depth ≤ 64 := by
  unfold SeqAt.shaped at h
  rw [Bool.and_eq_true] at h
  exact ⟨h.1, by have := of_decide_eq_true h.2; omega⟩
theorem op_inD (hu : X.A.units + 64 < cLine) : OpR X (compareOp .In) (rInD X.K false) := by
  intro pins s σ H x y v u Q I rx ry h
  obtain ⟨d, es, h1, h2, h3, h4, q⟩ := h
  obtain ⟨as, q1⟩ := Rep.reads I d x v h1 rx
  obtain ⟨bs, q2⟩ := Rep.reads I _ y u h2 ry
  have l1 := shaped_lay h3
  have l2 := shaped_lay h4
  have l3 : PyData.canLayAll0 es = true := by simpa [PyData.canLay0] using l2.1
  refine SeqAt.in_list_reads q2 q1 l3 l1.1 ?_ (fin_bl I q rfl)
  have := Nat.min_le_left (PyData.depthAll es) d.depth
  have l5 : PyData.depthAll es + 1 ≤ 64 := by simpa [PyData.depth] using l2.2
  omega
theorem op_notInD (hu : X.A.units + 64 < cLine) : OpR X (compareOp .NotIn) (rInD X.K true) := by
  intro pins s σ H x y v u Q I rx ry h
  obtain ⟨d, es, h1, h2, h3, h4, q⟩ := h
  obtain ⟨as, q1⟩ := Rep.reads I d x v h1 rx
  obtain ⟨bs, q2⟩ := Rep.reads I _ y u h2 ry
  have l1 := shaped_lay h3
  have l2 := shaped_lay h4
  have l3 : PyData.canLayAll0 es = true := by simpa [PyData.canLay0] using l2.1
  refine SeqAt.notIn_list_reads q2 q1 l3 l1.1 ?_ (fin_bl I q rfl)
  have := Nat.min_le_left (PyData.depthAll es) d.depth
  have l5 : PyData.depthAll es + 1 ≤ 64 := by simpa [PyData.depth] using l2.2
  omega
theorem k_inD {K : PySem.W.Frag} (e : X.K = K) (hu : X.A.units + 64 < cLine) : OpR X (compareOp .In) (rInD K false) := by subst e; exact op_inD hu
theorem k_notInD {K : PySem.W.Frag} (e : X.K = K) (hu : X.A.units + 64 < cLine) : OpR X (compareOp .NotIn) (rInD K true) := by subst e; exact op_notInD hu
theorem inplace_list {M : Model} {A : Around} {E : Value → Shared → Prop} {s : Shared} {a b : Value} {Q : Value → Shared → Prop} (ha : s.TypeIs a "list") (hb : s.TypeIs b "list")
    (hc : wpAny M A (call (.builtin "list.__iadd__") [a, b]) Q E s) : wpAny M A (inplaceOp .Add a b) Q E s := by
  have hi : typeLookup (.type "list") (dunderI "add") = pure (some (.builtin "list.__iadd__")) := F.slot_list_iadd.lookup
  have hq : isSeqSlot (some (.builtin "list.__iadd__")) = true := by decide +kernel
  unfold inplaceOp
  refine wpAny_holding ?_
  have hfi : fillsInplaceSlot (.type "list") "add" (Operator.Add == .Add) = pure false := by
    unfold fillsInplaceSlot
    show (typeLookup (.type "list") (dunderI "add") >>= fun fi => pure (fi.isSome && !isSeqSlot fi)) = pure false
    rw [hi, pure_bind, hq]; rfl
  have hsi : seqSlot? (.type "list") (dunderI "add") = pure (some (.builtin "list.__iadd__")) := PyProof.Rows.seqSlot_of hi hq
  refine wpAny_bind (wpAny_typeOf ha (wpAny_bind (wpAny_of_eq hfi ?_)))
  show wpAny M A (if false = true then _ else _) Q E s
  rw [if_neg Bool.false_ne_true]
  refine wpAny_bind (binaryOp1_none (nm := "add") ha hb noFill_list_add ?_)
  refine wpAny_bind (wpAny_of_eq hsi ?_)
  exact wpAny_bind (wpAny_rule hc)
noncomputable def rLAdd : V → V → Hp → VK → Prop := fun x y H Q => ∃ l b xs zs, x = .ref l ∧ y = .ref b ∧ H l = some (.lst xs) ∧ H b = some (.lst zs) ∧ xs.length + zs.length ≤ sizeLine ∧ Q (.ref l) (upd H l (.lst (xs ++ zs)))
theorem ip_ladd : PIp X .Add rLAdd := by
  intro pins s σ H x y v u Q I rx ry h
  obtain ⟨l, b, xs, zs, rfl, rfl, hH, hB, hz, q⟩ := h
  cases rx
  cases ry
  obtain ⟨z, its, n, r, hl, e⟩ := I.lstM hH
  obtain ⟨z2, its2, n2, r2, hl2, e2⟩ := I.lstM hB
  have hsz : its.toArray.size + its2.toArray.size ≤ sizeLine := by rw [List.size_toArray, List.size_toArray]; omega
  have hlong : ¬ (!its.toArray.isEmpty && Builtin.List.listTooLong (its.toArray.size + its2.toArray.size)) = true := by
    rw [notLongL hsz, Bool.and_false]
    exact Bool.false_ne_true
  refine inplace_list ⟨_, e, rfl⟩ ⟨_, e2, rfl⟩ (call_meets F.slot_list_iadd ⟨_, e, rfl⟩ F.entry_list_iadd (F.args_list_iadd_2 _ _)
    (AutoSeq1.list___iadd___list_list_0 l its.toArray n b its2.toArray n2 hlong (by rw [List.size_toArray]; omega) (by omega)) ⟨e, e2, ?_⟩)
  refine ⟨.ref l, _, I.lset (its' := its ++ its2) hH e (by simp) (r.append r2) ?_, rfl, q⟩
  rw [List.length_append]
  omega
end
theorem comp_walkG {J : It} {xs : List V} {ok : Hp → Prop} (w : Walk J xs ok) {g : TG} {tt : TT} {te : TE} {fin : List V → Hp → Prop} {σ : St} {H : Hp} (hz : xs.length ≤ sizeLine) (Pv : Nat → List V → St → Hp → Prop) (h0 : Pv 0 [] σ H) (hl : ∀ i zs σ H, Pv i zs σ H → ok H ∧ zs.length ≤ i)
    (hs : ∀ (i : Nat) x zs σ H, xs[i]? = some x → Pv i zs σ H → g x σ H fun σ2 H2 => tt σ2 H2 fun b H3 => if b = true then te σ2 H3 fun y H4 => Pv (i + 1) (zs ++ [y]) σ2 H4 else Pv (i + 1) zs σ2 H3)
    (hd : ∀ zs σ H, Pv xs.length zs σ H → fin zs H) : CompW J g tt te fin σ H := by
  refine ⟨fun i m zs σ H => m = xs.length - i ∧ i ≤ xs.length ∧ Pv i zs σ H, ⟨_, rfl, Nat.zero_le _, h0⟩, ?_⟩
  rintro i m zs σ H ⟨rfl, hi, p⟩
  obtain ⟨q, hy⟩ := hl i zs σ H p
  by_cases hlt : i < xs.length
  · refine .inr ⟨w.go i H q hlt, by omega, Pv (i + 1), fun zs' σ' H' z => ⟨xs.length - (i + 1), by omega, rfl, hlt, z⟩, fun x H' y => ?_⟩
    obtain ⟨e, y'⟩ := w.yld i H x H' q hlt y
    subst e
    exact hs i x zs σ _ y' p
  · have e : i = xs.length := by omega
    subst e
    exact .inl ⟨w.stop H q, hd zs σ H p⟩
end L2
set_option maxHeartbeats 4000000
namespace L2
open PySem PySem.Spec PyProof.Rows
section
noncomputable def All2 {α β : Type} (R : α → β → Prop) (xs : List α) (ys : List β) : Prop := xs.length = ys.length ∧ ∀ (i : Nat) x y, xs[i]? = some x → ys[i]? = some y → R x y
variable {α β : Type} {R S : α → β → Prop} {xs : List α} {ys : List β}
theorem All2.nil : All2 R [] [] := ⟨rfl, fun i x y h => by simp at h⟩
theorem All2.mono (h : All2 R xs ys) (f : ∀ x y, R x y → S x y) : All2 S xs ys := ⟨h.1, fun i x y a b => f x y (h.2 i x y a b)⟩
theorem All2.at {i : Nat} {x : α} (h : All2 R xs ys) (hx : xs[i]? = some x) : ∃ y, ys[i]? = some y ∧ R x y := by
  have hi : i < ys.length := by rw [← h.1]; exact (List.getElem?_eq_some_iff.mp hx).1
  exact ⟨_, List.getElem?_eq_getElem hi, h.2 i x _ hx (List.getElem?_eq_getElem hi)⟩
theorem All2.at' {i : Nat} {y : β} (h : All2 R xs ys) (hy : ys[i]? = some y) : ∃ x, xs[i]? = some x ∧ R x y := by
  have hi : i < xs.length := by rw [h.1]; exact (List.getElem?_eq_some_iff.mp hy).1
  exact ⟨_, List.getElem?_eq_getElem hi, h.2 i _ y (List.getElem?_eq_getElem hi) hy⟩
theorem All2.meml {x : α} (h : All2 R xs ys) (hx : x ∈ xs) : ∃ y ∈ ys, R x y := by
  obtain ⟨i, hi⟩ := List.mem_iff_getElem?.mp hx
  obtain ⟨y, hy, r⟩ := h.at hi
  exact ⟨y, List.mem_of_getElem? hy, r⟩
theorem All2.append {xs' : List α} {ys' : List β} (h : All2 R xs ys) (h' : All2 R xs' ys') : All2 R (xs ++ xs') (ys ++ ys') := by
  refine ⟨by simp [h.1, h'.1], fun i x y a b => ?_⟩
  by_cases c : i < xs.length
  · rw [List.getElem?_append_left c] at a
    rw [List.getElem?_append_left (by rw [← h.1]; exact c)] at b
    exact h.2 i x y a b
  · rw [List.getElem?_append_right (by omega)] at a
    rw [List.getElem?_append_right (by rw [← h.1]; omega), ← h.1] at b
    exact h'.2 _ x y a b
theorem All2.one {x : α} {y : β} (h : R x y) : All2 R [x] [y] := ⟨rfl, fun i a b ha hb => by
  cases i with
  | zero => simp at ha hb; subst ha hb; exact h
  | succ i => simp at ha⟩
theorem All2.snoc {x : α} {y : β} (h : All2 R xs ys) (r : R x y) : All2 R (xs ++ [x]) (ys ++ [y]) := h.append (.one r)
theorem All2.tail {x : α} {y : β} (h : All2 R (x :: xs) (y :: ys)) : R x y ∧ All2 R xs ys :=
  ⟨h.2 0 x y rfl rfl, by simpa using h.1, fun i a b ha hb => h.2 (i + 1) a b (by simpa using ha) (by simpa using hb)⟩
end
theorem nodup_le : ∀ (m : Nat) (l : List Nat), l.Nodup → (∀ x ∈ l, x < m) → l.length ≤ m
  | 0, [], _, _ => Nat.le_refl _
  | 0, x :: l, _, h => absurd (h x List.mem_cons_self) (Nat.not_lt_zero _)
  | m + 1, l, hn, h => by
    by_cases c : m ∈ l
    · have h1 := nodup_le m (l.erase m) (hn.erase m) fun x hx => by
        have := h x (List.mem_of_mem_erase hx)
        have : x ≠ m := fun e => by
          subst e
          exact absurd hx (List.Nodup.not_mem_erase hn)
        omega
      have := List.length_erase_of_mem c
      have : 0 < l.length := List.length_pos_of_mem c
      omega
    · exact Nat.le_succ_of_le (nodup_le m l hn fun x hx => by
        have := h x hx
        have : x ≠ m := fun e => c (e ▸ hx)
        omega)
noncomputable abbrev Box := Nat × Nat
noncomputable def gAt (g : List (List Int)) (b : Box) : Int := (g.getD b.1 []).getD b.2 0
noncomputable def RowAt (H : Hp) (x : V) (r : List Int) : Prop := ∃ p, x = .ref p ∧ H p = some (.lst (r.map V.int))
noncomputable def GridV (H : Hp) (xs : List V) (g : List (List Int)) : Prop := All2 (RowAt H) xs g
noncomputable def BoxAt (H : Hp) (x : V) (b : Box) : Prop := ∃ p, x = .ref p ∧ H p = some (.tup [.int b.1, .int b.2])
noncomputable def BoxesV (H : Hp) (xs : List V) (bs : List Box) : Prop := All2 (BoxAt H) xs bs
theorem RowAt.mono {H H' : Hp} {x : V} {r : List Int} (s : Same H H') (h : RowAt H x r) : RowAt H' x r := by
  obtain ⟨p, e, g⟩ := h; exact ⟨p, e, s _ _ g⟩
theorem BoxAt.mono {H H' : Hp} {x : V} {b : Box} (s : Same H H') (h : BoxAt H x b) : BoxAt H' x b := by
  obtain ⟨p, e, g⟩ := h; exact ⟨p, e, s _ _ g⟩
theorem GridV.mono {H H' : Hp} {xs : List V} {g : List (List Int)} (s : Same H H') (h : GridV H xs g) : GridV H' xs g := All2.mono h fun _ _ => RowAt.mono s
theorem BoxesV.mono {H H' : Hp} {xs : List V} {g : List Box} (s : Same H H') (h : BoxesV H xs g) : BoxesV H' xs g := All2.mono h fun _ _ => BoxAt.mono s
structure GOk (g : List (List Int)) (R C : Nat) : Prop where
  rows : g.length = R
  cols : ∀ r ∈ g, r.length = C
  pos : ∀ r ∈ g, ∀ x ∈ r, 0 ≤ x
noncomputable def InG (R C : Nat) (b : Box) : Prop := b.1 < R ∧ b.2 < C
theorem GOk.at {g : List (List Int)} {R C : Nat} (h : GOk g R C) {b : Box} (i : InG R C b) : ∃ r, g[b.1]? = some r ∧ r[b.2]? = some (gAt g b) ∧ 0 ≤ gAt g b ∧ r ∈ g := by
  have h1 : b.1 < g.length := by rw [h.rows]; exact i.1
  have e1 := List.getElem?_eq_getElem h1
  have m1 : g[b.1] ∈ g := List.getElem_mem h1
  have h2 : b.2 < g[b.1].length := by rw [h.cols _ m1]; exact i.2
  have e2 := List.getElem?_eq_getElem h2
  have e : gAt g b = g[b.1][b.2] := by
    unfold gAt
    rw [show g.getD b.1 [] = g[b.1] by rw [List.getD_eq_getElem?_getD, e1]; rfl, List.getD_eq_getElem?_getD, e2]; rfl
  exact ⟨_, e1, by rw [e]; exact e2, by rw [e]; exact h.pos _ m1 _ (List.getElem_mem h2), m1⟩
structure Arc where
  a : Int
  b : Int
  l : Int
  u : Int
instance : Inhabited Arc := ⟨⟨0, 0, 0, 0⟩⟩
noncomputable def Arc.vs (A : Arc) : List V := [.int A.a, .int A.b, .int A.l, .int A.u]
noncomputable def ArcAt (H : Hp) (x : V) (A : Arc) : Prop := ∃ p, x = .ref p ∧ H p = some (.tup A.vs)
noncomputable def ArcsV (H : Hp) (xs : List V) (as : List Arc) : Prop := All2 (ArcAt H) xs as
theorem ArcAt.mono {H H' : Hp} {x : V} {A : Arc} (s : Same H H') (h : ArcAt H x A) : ArcAt H' x A := by
  obtain ⟨p, e, g⟩ := h; exact ⟨p, e, s _ _ g⟩
theorem ArcsV.mono {H H' : Hp} {xs : List V} {as : List Arc} (s : Same H H') (h : ArcsV H xs as) : ArcsV H' xs as := All2.mono h fun _ _ => ArcAt.mono s
noncomputable def InN (m : Nat) (A : Arc) : Prop := 0 ≤ A.a ∧ A.a < m ∧ 0 ≤ A.b ∧ A.b < m
noncomputable def StepOk (as : List Arc) (n pl t : Nat) (sg : Int) : Prop := ∃ A, as[pl]? = some A ∧ ((sg = 1 ∧ A.a = n ∧ A.b = t) ∨ (sg = -1 ∧ A.b = n ∧ A.a = t))
noncomputable def StepV (H : Hp) (as : List Arc) (n : Nat) (x : V) : Prop := ∃ (q : Addr) (pl t : Nat) (sg : Int), x = .ref q ∧ H q = some (.tup [.int pl, .int t, .int sg]) ∧ StepOk as n pl t sg
structure StepsAt (H : Hp) (as : List Arc) (D : Nat → Int → Prop) (bnd n : Nat) (p : Addr) : Prop where
  ex : ∃ ts, H p = some (.lst ts) ∧ ts.length ≤ bnd ∧ (∀ t ∈ ts, StepV H as n t) ∧
    ∀ (pl t : Nat) (sg : Int), D pl sg → StepOk as n pl t sg → ∃ q, V.ref q ∈ ts ∧ H q = some (.tup [.int pl, .int t, .int sg])
noncomputable def roomF (as : List Arc) (fl : List Int) (pl : Nat) (sg : Int) : Int := if sg = 1 then (as.getD pl default).u - fl.getD pl 0 else fl.getD pl 0 - (as.getD pl default).l
structure StreamAt (H : Hp) (C x : Addr) (m : Nat) (as : List Arc) (fl : List Int) : Prop where
  ex : ∃ (dx la lb ls : Addr) (xs : List V) (sa : List Addr), H x = some (.ins C dx [("arcs", .ref la), ("borne", .ref lb), ("steps", .ref ls)]) ∧ H la = some (.lst xs) ∧ ArcsV H xs as ∧ H lb = some (.lst (fl.map V.int)) ∧
    H ls = some (.lst (sa.map V.ref)) ∧ sa.length = m ∧ ∀ (n : Nat) p, sa[n]? = some p → StepsAt H as (fun _ _ => True) (2 * as.length) n p
  len : fl.length = as.length
  small : as.length ≤ 1000 ∧ m ≤ 1000
  inn : ∀ A ∈ as, InN m A
theorem StepV.mono {H H' : Hp} {as : List Arc} {n : Nat} {x : V} (s : Same H H') (h : StepV H as n x) : StepV H' as n x := by
  obtain ⟨q, pl, t, sg, e, g, r⟩ := h; exact ⟨q, pl, t, sg, e, s _ _ g, r⟩
theorem StepsAt.mono {H H' : Hp} {as : List Arc} {D : Nat → Int → Prop} {bnd n : Nat} {p : Addr} (s : Same H H') (h : StepsAt H as D bnd n p) : StepsAt H' as D bnd n p := by
  obtain ⟨ts, e, l, a, b⟩ := h.ex
  refine ⟨ts, s _ _ e, l, fun t ht => (a t ht).mono s, fun pl t sg h1 h2 => ?_⟩
  obtain ⟨q, h3, h4⟩ := b pl t sg h1 h2
  exact ⟨q, h3, s _ _ h4⟩
theorem StreamAt.mono {H H' : Hp} {C x : Addr} {m : Nat} {as : List Arc} {fl : List Int} (s : Same H H') (h : StreamAt H C x m as fl) : StreamAt H' C x m as fl := by
  obtain ⟨dx, la, lb, ls, xs, sa, h1, h2, h3, h4, h5, h6, h7⟩ := h.ex
  exact ⟨⟨dx, la, lb, ls, xs, sa, s _ _ h1, s _ _ h2, h3.mono s, s _ _ h4, s _ _ h5, h6, fun n p hp => (h7 n p hp).mono s⟩, h.len, h.small, h.inn⟩
noncomputable def StepTo (as : List Arc) (fl : List Int) (n pl t : Nat) (sg : Int) : Prop := StepOk as n pl t sg ∧ 0 < roomF as fl pl sg
noncomputable abbrev Ent := Nat × Option (Nat × Nat × Int)
noncomputable def keysE (es : List Ent) : List Nat := es.map (·.1)
noncomputable def EntV (H : Hp) (kv : Key × V) (e : Ent) : Prop := kv.1 = Sum.inl (e.1 : Int) ∧ match e.2 with
  | none => kv.2 = .non
  | some (n, pl, sg) => ∃ q, kv.2 = .ref q ∧ H q = some (.tup [.int n, .int pl, .int sg])
theorem EntV.mono {H H' : Hp} {kv : Key × V} {e : Ent} (s : Same H H') (h : EntV H kv e) : EntV H' kv e := by
  obtain ⟨k, o⟩ := e
  cases o with
  | none => exact h
  | some z => obtain ⟨a, q, b, c⟩ := h; exact ⟨a, q, b, s _ _ c⟩
noncomputable def EntsV (H : Hp) (kvs : List (Key × V)) (es : List Ent) : Prop := All2 (EntV H) kvs es
theorem EntsV.mono {H H' : Hp} {kvs : List (Key × V)} {es : List Ent} (s : Same H H') (h : EntsV H kvs es) : EntsV H' kvs es := All2.mono h fun _ _ => EntV.mono s
noncomputable def TSame (H H' : Hp) : Prop := ∀ q zs, H q = some (.tup zs) → H' q = some (.tup zs)
theorem TSame.set {H H' : Hp} (s : TSame H H') {p : Addr} {o o' : HO} (h : H' p = some o) (hn : ∀ zs, o ≠ .tup zs) : TSame H (upd H' p o') := fun q zs z => by
  have h1 := s q zs z
  rw [upd_ne (fun e => by subst e; rw [h] at h1; exact hn zs (Option.some.inj h1))]
  exact h1
theorem TSame.new {H H' : Hp} (s : TSame H H') {p : Addr} {o' : HO} (h : H' p = none) : TSame H (upd H' p o') := fun q zs z => by
  have h1 := s q zs z
  rw [upd_ne (fun e => by subst e; rw [h] at h1; cases h1)]
  exact h1
theorem TSame.refl (H : Hp) : TSame H H := fun _ _ z => z
theorem EntV.monoT {H H' : Hp} {kv : Key × V} {e : Ent} (s : TSame H H') (h : EntV H kv e) : EntV H' kv e := by
  obtain ⟨k, o⟩ := e
  cases o with
  | none => exact h
  | some z => obtain ⟨a, q, b, c⟩ := h; exact ⟨a, q, b, s _ _ c⟩
theorem EntsV.monoT {H H' : Hp} {kvs : List (Key × V)} {es : List Ent} (s : TSame H H') (h : EntsV H kvs es) : EntsV H' kvs es := All2.mono h fun _ _ => EntV.monoT s
theorem BoxesV.monoT {H H' : Hp} {xs : List V} {es : List Box} (s : TSame H H') (h : BoxesV H xs es) : BoxesV H' xs es := All2.mono h fun _ _ ⟨p, e, g⟩ => ⟨p, e, s _ _ g⟩
theorem StepV.monoT {H H' : Hp} {as : List Arc} {n : Nat} {x : V} (s : TSame H H') (h : StepV H as n x) : StepV H' as n x := by
  obtain ⟨q, pl, t, sg, e, g, r⟩ := h; exact ⟨q, pl, t, sg, e, s _ _ g, r⟩
theorem StepOk.same {as : List Arc} {n n' pl t t' : Nat} {sg : Int} (h : StepOk as n pl t sg) (h' : StepOk as n' pl t' sg) : n = n' ∧ t = t' := by
  obtain ⟨A, hA, c⟩ := h
  obtain ⟨A', hA', c'⟩ := h'
  rw [hA] at hA'
  cases hA'
  rcases c with ⟨rfl, a, b⟩ | ⟨rfl, a, b⟩ <;> rcases c' with ⟨e, a', b'⟩ | ⟨e, a', b'⟩ <;> first | exact ⟨by omega, by omega⟩ | exact absurd e (by decide)
theorem steps_app {H : Hp} {sa : List Addr} (nd : sa.Nodup) {as : List Arc} {D : Nat → Int → Prop} {bnd : Nat} (h : ∀ (n : Nat) a, sa[n]? = some a → StepsAt H as D bnd n a) {N pl t : Nat} {sg : Int} {aN r : Addr} {ts : List V} (hN : sa[N]? = some aN) (so : StepOk as N pl t sg) (hr : H r = none) (hts : H aN = some (.lst ts)) :
    ∀ (n : Nat) a, sa[n]? = some a → StepsAt (upd (upd H r (.tup [.int pl, .int t, .int sg])) aN (.lst (ts ++ [.ref r]))) as (fun pl' sg' => D pl' sg' ∨ (pl' = pl ∧ sg' = sg)) (bnd + 1) n a := by
  intro n a ha
  have nr : aN ≠ r := ne_of_none hts hr
  have tss : TSame H (upd (upd H r (.tup [.int pl, .int t, .int sg])) aN (.lst (ts ++ [.ref r]))) := ((TSame.refl H).new hr).set (by rw [upd_ne nr]; exact hts) (fun _ z => by cases z)
  obtain ⟨ts', e, l, p1, p2⟩ := (h n a ha).ex
  have nar : a ≠ r := ne_of_none e hr
  by_cases c : n = N
  · subst c
    rw [hN] at ha
    cases ha
    rw [hts] at e
    cases e
    refine ⟨ts ++ [.ref r], upd_same, by simp; exact l, fun y hy => ?_, fun pl' t' sg' hd so' => ?_⟩
    · rcases List.mem_append.mp hy with z | z
      · exact (p1 y z).monoT tss
      · exact ⟨r, pl, t, sg, List.mem_singleton.mp z, by rw [upd_ne (Ne.symm nr), upd_same], so⟩
    · rcases hd with hd | ⟨rfl, rfl⟩
      · obtain ⟨q, h3, h4⟩ := p2 pl' t' sg' hd so'
        exact ⟨q, List.mem_append_left _ h3, tss _ _ h4⟩
      · obtain ⟨_, rfl⟩ := so.same so'
        exact ⟨r, List.mem_append_right _ (List.mem_singleton.mpr rfl), by rw [upd_ne (Ne.symm nr), upd_same]⟩
  · have naN : a ≠ aN := fun z => by
      subst z
      exact c ((List.getElem?_inj (List.getElem?_eq_some_iff.mp ha).1 nd).mp (ha.trans hN.symm))
    refine ⟨ts', by rw [upd_ne naN, upd_ne nar]; exact e, by omega, fun y hy => (p1 y hy).monoT tss, fun pl' t' sg' hd so' => ?_⟩
    rcases hd with hd | ⟨rfl, rfl⟩
    · obtain ⟨q, h3, h4⟩ := p2 pl' t' sg' hd so'
      exact ⟨q, h3, tss _ _ h4⟩
    · exact absurd (so'.same so).1 c
noncomputable def SameBut (x : Addr) (H H' : Hp) : Prop := ∀ b o, b ≠ x → H b = some o → H' b = some o
theorem SameBut.new {x : Addr} {H H' : Hp} (s : SameBut x H H') {p : Addr} {o : HO} (h : H' p = none) : SameBut x H (upd H' p o) := fun b q n z => by
  have := s b q n z
  rw [upd_ne (fun e => by subst e; rw [h] at this; cases this)]; exact this
theorem SameBut.at {x : Addr} {H H' : Hp} (s : SameBut x H H') {o : HO} : SameBut x H (upd H' x o) := fun b q n z => by
  rw [upd_ne n]; exact s b q n z
theorem SameBut.set {x : Addr} {H H' : Hp} (s : SameBut x H H') {p : Addr} {o : HO} (h : H p = none) : SameBut x H (upd H' p o) := fun b q n z => by
  rw [upd_ne (fun e => by subst e; rw [h] at z; cases z)]; exact s b q n z
structure CInv (as : List Arc) (fl : List Int) (m start : Nat) (es : List Ent) : Prop where
  hd : ∃ r, es = (start, none) :: r
  some_ : ∀ (i : Nat) e, es[i + 1]? = some e → e.2 ≠ none
  tree : ∀ (i : Nat) k n pl sg, es[i]? = some (k, some (n, pl, sg)) → n ∈ keysE (es.take i) ∧ StepTo as fl n pl k sg
  nd : (keysE es).Nodup
  lt : ∀ k ∈ keysE es, k < m
noncomputable def Closed (as : List Arc) (fl : List Int) (es : List Ent) (n : Nat) : Prop := ∀ pl t sg, StepTo as fl n pl t sg → t ∈ keysE es
theorem keysE_append (a b : List Ent) : keysE (a ++ b) = keysE a ++ keysE b := List.map_append
theorem Closed.more {as : List Arc} {fl : List Int} {es es' : List Ent} {n : Nat} (h : Closed as fl es n) (s : ∀ k ∈ keysE es, k ∈ keysE es') : Closed as fl es' n := fun pl t sg z => s _ (h pl t sg z)
theorem CInv.start {as : List Arc} {fl : List Int} {m s : Nat} (h : s < m) : CInv as fl m s [(s, none)] where
  hd := ⟨_, rfl⟩
  some_ := fun i e h => by simp at h
  tree := fun i k n pl sg h => by
    cases i with
    | zero => simp at h
    | succ i => simp at h
  nd := by simp [keysE]
  lt := fun k hk => by simp [keysE] at hk; omega
theorem CInv.snoc {as : List Arc} {fl : List Int} {m s : Nat} {es : List Ent} (h : CInv as fl m s es) {n pl t : Nat} {sg : Int} (hn : n ∈ keysE es) (st : StepTo as fl n pl t sg) (ht : t ∉ keysE es) (hm : t < m) : CInv as fl m s (es ++ [(t, some (n, pl, sg))]) where
  hd := by obtain ⟨r, e⟩ := h.hd; exact ⟨r ++ [(t, some (n, pl, sg))], by rw [e]; rfl⟩
  some_ := fun i e he => by
    by_cases c : i + 1 < es.length
    · rw [List.getElem?_append_left c] at he; exact h.some_ i e he
    · rw [List.getElem?_append_right (by omega)] at he
      cases j : i + 1 - es.length with
      | zero => rw [j] at he; simp at he; subst he; simp
      | succ j' => rw [j] at he; simp at he
  tree := fun i k n' pl' sg' he => by
    by_cases c : i < es.length
    · rw [List.getElem?_append_left c] at he
      obtain ⟨h1, h2⟩ := h.tree i k n' pl' sg' he
      refine ⟨?_, h2⟩
      rw [List.take_append_of_le_length (by omega)]
      exact h1
    · rw [List.getElem?_append_right (by omega)] at he
      cases j : i - es.length with
      | zero =>
        rw [j] at he
        simp at he
        obtain ⟨rfl, rfl, rfl, rfl⟩ := he
        have e : i = es.length := by omega
        rw [e, List.take_append_of_le_length (Nat.le_refl _), List.take_length]
        exact ⟨hn, st⟩
      | succ j' => rw [j] at he; simp at he
  nd := by
    rw [keysE_append]
    refine List.nodup_append.mpr ⟨h.nd, by simp [keysE], fun a ha b hb => ?_⟩
    simp [keysE] at hb
    subst hb
    exact fun e => ht (e ▸ ha)
  lt := fun k hk => by
    rw [keysE_append] at hk
    rcases List.mem_append.mp hk with z | z
    · exact h.lt k z
    · simp [keysE] at z; omega
theorem CInv.len {as : List Arc} {fl : List Int} {m s : Nat} {es : List Ent} (h : CInv as fl m s es) : es.length ≤ m := by
  have := nodup_le m (keysE es) h.nd h.lt
  unfold keysE at this
  rwa [List.length_map] at this
structure Came (as : List Arc) (fl : List Int) (m start : Nat) (es : List Ent) : Prop extends CInv as fl m start es where
  closed : ∀ n ∈ keysE es, Closed as fl es n
theorem valE_some {H : Hp} : ∀ {kvs : List (Key × V)} {es : List Ent}, EntsV H kvs es → ∀ k : Nat, (valV kvs (Sum.inl (k : Int))).isSome = decide (k ∈ keysE es)
  | [], [], _, k => by simp [valV, keysE]
  | [], _ :: _, h, _ => by have := h.1; simp at this
  | _ :: _, [], h, _ => by have := h.1; simp at this
  | kv :: kvs, e :: es, h, k => by
    obtain ⟨h1, h2⟩ := All2.tail h
    by_cases c : k = e.1
    · rw [valV_pos (by rw [h1.1, c])]
      simp [keysE, c]
    · rw [valV_neg (by rw [h1.1]; intro z; exact c (by have := Sum.inl.inj z; omega)), valE_some h2 k]
      unfold keysE
      rw [List.map_cons]
      simp only [List.mem_cons, c, false_or]
theorem putE_new {H : Hp} {kvs : List (Key × V)} {es : List Ent} (h : EntsV H kvs es) {k : Nat} (hk : k ∉ keysE es) (v : V) : putK kvs (Sum.inl (k : Int)) v = kvs ++ [(Sum.inl (k : Int), v)] := by
  unfold putK
  rw [if_neg]
  intro z
  obtain ⟨kv, hm, he⟩ := List.any_eq_true.mp z
  obtain ⟨e, hem, r⟩ := All2.meml h hm
  have h1 := of_decide_eq_true he
  rw [r.1] at h1
  have h2 : (e.1 : Int) = k := Sum.inl.inj h1
  exact hk (by
    have : e.1 = k := by omega
    rw [← this]
    exact List.mem_map_of_mem hem)
inductive Reach (L : Nat → Nat → Prop) (s : Nat) : Nat → Prop
  | here : Reach L s s
  | step {u v : Nat} : Reach L s u → L u v → Reach L s v
theorem Reach.mono {L L' : Nat → Nat → Prop} {s v : Nat} (f : ∀ a b, L a b → L' a b) (h : Reach L s v) : Reach L' s v := by
  induction h with
  | here => exact .here
  | step _ l ih => exact ih.step (f _ _ l)
theorem Reach.stays {L : Nat → Nat → Prop} {s v : Nat} {P : Nat → Prop} (h : Reach L s v) (hs : P s) (hc : ∀ a b, P a → L a b → P b) : P v := by
  induction h with
  | here => exact hs
  | step _ l ih => exact hc _ _ ih l
noncomputable def LinkS (as : List Arc) (fl : List Int) (u v : Nat) : Prop := ∃ pl sg, StepTo as fl u pl v sg
theorem CInv.reach {as : List Arc} {fl : List Int} {m s : Nat} {es : List Ent} (h : CInv as fl m s es) : ∀ (i : Nat) e, es[i]? = some e → Reach (LinkS as fl) s e.1 := by
  intro i
  induction i using Nat.strongRecOn with
  | ind i ih =>
    intro e he
    obtain ⟨k, o⟩ := e
    cases o with
    | none =>
      cases i with
      | zero =>
        obtain ⟨r, e⟩ := h.hd
        rw [e] at he
        simp at he
        rw [← he]
        exact .here
      | succ i => exact absurd rfl (h.some_ i _ he)
    | some z =>
      obtain ⟨n, pl, sg⟩ := z
      obtain ⟨h1, h2⟩ := h.tree i k n pl sg he
      unfold keysE at h1
      obtain ⟨e', hm, rfl⟩ := List.mem_map.mp h1
      obtain ⟨j, hj⟩ := List.mem_iff_getElem?.mp hm
      have hji : j < i := by
        have := (List.getElem?_eq_some_iff.mp hj).1
        rw [List.length_take] at this; omega
      rw [List.getElem?_take_of_lt hji] at hj
      exact (ih j hji e' hj).step ⟨pl, sg, h2⟩
theorem Came.iff {as : List Arc} {fl : List Int} {m s : Nat} {es : List Ent} (h : Came as fl m s es) (v : Nat) : v ∈ keysE es ↔ Reach (LinkS as fl) s v := by
  constructor
  · intro hv
    obtain ⟨e, he, rfl⟩ := List.mem_map.mp hv
    obtain ⟨i, hi⟩ := List.mem_iff_getElem?.mp he
    exact h.toCInv.reach i e hi
  · intro hr
    refine hr.stays (P := fun v => v ∈ keysE es) ?_ fun a b ha ⟨pl, sg, st⟩ => h.closed a ha pl b sg st
    obtain ⟨r, e⟩ := h.hd
    rw [e]
    exact List.mem_cons_self
end L2
set_option maxHeartbeats 4000000
namespace L2
open PySem PySem.Spec PyProof.Rows
section
variable {X : Cx} {pins : List (Addr × Obj)} {σ : St} {H2 : Hp} {s2 : Shared} {scope : Scope} {own rest : List Str} {cl : List (Str × Addr)} {fp : List Addr} {C : Nat}
end
section
variable {X : Cx} {pins : List (Addr × Obj)} {σ : St} {H2 : Hp} {s2 : Shared} {scope : Scope} {own rest : List Str} {cl : List (Str × Addr)} {fp : List Addr} {E : Value → Shared → Prop}
end
section
variable {X : Cx} {elt tg iter : Expr} {ifs : List Expr} {scope : Scope} {pos : Pos} {wi : TI} {g : TG} {tt : TT} {te : TE}
end
section
variable {X : Cx}
end
end L2
set_option maxHeartbeats 4000000
namespace L2
open PySem PySem.Spec PyProof.Rows
section
variable {X : Cx}
end
structure ExcM (mg : Str → Option Value) (n : Str) (a : Addr) : Prop where
  m : mg n = some (.ref a)
end L2
set_option maxHeartbeats 4000000
namespace L2
open PySem PySem.Spec PyProof.Rows
structure RoomH (k : Nat) (A : Around) : Prop where
  dp : A.depth + 3 * k + 5 < recursionLimit
  un : A.units + 16 * k + 200 < cLine
theorem Room.toH {k : Nat} {A : Around} (r : Room k A) : RoomH k A := ⟨r.dp, r.un⟩
theorem RoomH.deeper {k : Nat} {A : Around} (r : RoomH (k + 1) A) (env : Env) : RoomH k (A.deeper env) :=
  ⟨by have := r.dp; show A.depth + 1 + 3 * k + 5 < _; omega, by have := r.un; show A.units + 3 + 16 * k + 200 < _; omega⟩
theorem RoomH.mark {k : Nat} {A : Around} (r : RoomH k A) (v : Option Value) : RoomH k (A.mark v) := by
  cases v with
  | none => rw [Around.mark_none]; exact r
  | some v => exact ⟨r.dp, r.un⟩
structure FnOkH (P : Program) (w : World) (K : PySem.W.Frag) (mg : Str → Option Value) (base : Heap) (k : Nat) (f : Addr) (fd : FuncData) (ps : List Str) (sp : Sp) : Prop where
  len : ∀ vs H Q E, sp vs H Q E → vs.length = ps.length
  run : ∀ (A : Around) (outer : List Env) (s : Shared) (H : Hp) (us : List Value) (vs : List V) (Q : VK) (E : XK), RoomH k A → Env0 P w K mg base A outer s H → BindsTo s fd ⟨us, []⟩ (ps.zip us) → Vals vs us → sp vs H Q E →
    codeAny (model P w) A (.call (.ref f) ⟨us, []⟩) (CR CX0 outer P w H s Q E) s
noncomputable abbrev Cx.hot (X : Cx) : Cx := { X.nox with calm := false }
section
variable {P : Program} {w : World} {K : PySem.W.Frag} {mg : Str → Option Value} {base : Heap} {x qual : Str} {st : Stmt} {f : Addr} {fd : FuncData} {N ps : List Str} {k : Nat} {sp : Sp}
theorem Fun.okH (F : Fun K x qual st f fd) (S : FnScope N ps (defScope st)) (len : ∀ vs H Q E, sp vs H Q E → vs.length = ps.length)
    (hbody : ∀ (cdv : Value) (A : Around) (outer : List Env) (s : Shared) (H : Hp) (vs : List V) (Q : VK) (E : XK), RoomH k (A.deeper (envOfC qual (defScope st) s.heap.objs.size f cdv)) → sp vs H Q E →
      ∃ t, PSs (cxOf CX0 P w K mg base N qual (defScope st) f cdv A outer s H E).hot (defBody st) t ∧ t { nx := fun _ H' => Q .non H', rt := Q } (start N vs) H) : FnOkH P w K mg base (k + 1) f fd ps sp := by
  obtain ⟨oc, od, kV, doc, pm, an, cdv, ct, osl, rfl, lk, hcd⟩ := F.ex
  refine ⟨len, fun A outer s H us vs Q E hr e0 hb r hsp => ?_⟩
  have hl := len _ _ _ _ hsp
  have KX : K.In s.heap := e0.mod.kin.keeps fun b o e => (e0.bs b o e).1
  have lim : s.heap.NoLimit := e0.mod.nolimit.keeps fun b o e => (e0.bs b o e).1
  have hkind : ∀ y ∈ ps.zip us, (defScope st).names.lookup y.1 = some .local ∨ ((defScope st).names.lookup y.1 = some .cell ∧ ((cellsFrom (s.heap.objs.size + 1) (defScope st).names []).lookup y.1).isSome = true) := fun ⟨n, v⟩ hy => by
    rcases S.par n (List.of_mem_zip hy).1 with q | q
    · exact .inl q
    · exact .inr ⟨q, PySem.W.cellsFrom_some _ _ _ (.inl q)⟩
  refine codeAny_call_function (by have := hr.dp; omega) (KX _ _ lk) rfl S.co S.gen rfl (PySem.W.codeRec_of KX hcd) (hb _ _ _ _ ?_)
  refine wpAny_newFunctionEnv_cells S.kind hkind fun env he s1 x => ?_
  subst he
  refine ⟨lim.keeps x.toInCall.keep, codeAny_func ?_⟩
  obtain ⟨t, ht, hq⟩ := hbody cdv A outer s H vs Q E (hr.deeper _) hsp
  have I0 := inv_start (CX := CX0) (A := { A with handled := none }) (E := E) S rfl ⟨e0.frames, e0.mod, e0.bs, e0.bsz, e0.funs, e0.frf, e0.hok, e0.bare⟩ hl r x
  have I : Inv (cxOf CX0 P w K mg base N qual (defScope st) f cdv A outer s H E).hot [] (start N vs) H s1 :=
    have ok := I0.ok
    ⟨⟨ok.mod, ok.kind, ok.glob, ok.blt, ok.above, ok.inj, ok.has, ok.cab, (fun z => nomatch z), ok.frames, ok.stk, ok.exf, ok.bs, ok.bsz, ok.noex, ok.exfs, ok.funs, ok.frf⟩, I0.os, I0.bare, I0.base, I0.loc, I0.cell, I0.free, I0.freeC, I0.pin, I0.hok, I0.len⟩
  refine wpAny_mono (ht [] s1 (start N vs) H _ I hq) (fun fl s' hs => ?_) fun e s' hs => hs.elim
  cases fl with
  | ret u =>
    obtain ⟨v, σ', H', J, rv, q⟩ := hs
    exact ⟨v, H', J.os, J.bare, J.base, J.hok, rv, q⟩
  | next =>
    obtain ⟨σ', H', J, q⟩ := hs
    exact ⟨V.non, H', J.os, J.bare, J.base, J.hok, rfl, q⟩
  | brk =>
    obtain ⟨_, _, _, q⟩ := hs
    exact False.elim q
  | cont =>
    obtain ⟨_, _, _, q⟩ := hs
    exact False.elim q
end
section
variable {X : Cx} {x : Str} {st : Stmt} {ps : List Str} {f : Addr} {fd : FuncData} {k : Nat} {sp : Sp} {p pos : Pos} {e : Expr} {es : List Expr} {t : TA}
theorem pe_defH (D : DefOk X.K X.mg x st ps f fd) (G : FnOkH X.prog X.w X.K X.mg X.base k f fd ps sp) (hr : RoomH k X.A) (hg : Gl X x) (hdb : (x == ("__debug__" : Str)) = false) (hn : (e :: es).all notStar = true) (ha : PA X (e :: es) t) : PE X (.Call (.Name x p) (e :: es) [] pos) (tCall sp [] E0 t) := by
  have h : notStar e = true ∧ es.all notStar = true := by rw [List.all_cons, Bool.and_eq_true] at hn; exact hn
  intro pins s σ H Q I hq
  refine wpAny_Call_Name_kw (ld_glob I hg D.m ?_ hdb)
  refine PySem.W.callWith_K (h₀ := X.base) I.ok.mod.kin D.F.kp (thn (ha pos pins s σ H _ I hq) fun us s1 ⟨vs, H1, I1, r, q⟩ => ⟨I1.kIn, ?_⟩) (star_cons h.1) (back_none h.2)
  have hl : (us ++ []).length = ps.length := by rw [List.append_nil, ← r.length, ← G.len _ _ _ _ q, List.append_nil]
  have hb := D.b s1 us I1.kIn hl
  rw [List.append_nil] at hb
  replace q : sp vs H1 Q E0 := by have q2 : sp (vs ++ []) H1 Q E0 := q; rwa [List.append_nil] at q2
  refine wpAny_call (codeAny_mono (G.run X.A X.stack s1 H1 us vs Q E0 hr I1.env0 hb r q) fun r s' hq => ?_)
  cases r with
  | error e => exact False.elim hq
  | ok fl =>
    cases fl with
    | ret u => exact I1.after hq
    | next => exact False.elim hq
    | brk => exact False.elim hq
    | cont => exact False.elim hq
end
end L2
set_option maxHeartbeats 4000000
namespace L2
open PySem
noncomputable def Ris (xs : Array Nat) : Prop := xs.toList.Pairwise (· < ·)
theorem Ris.lt {xs : Array Nat} (h : Ris xs) {i j : Nat} (hij : i < j) (hj : j < xs.size) : xs[i] < xs[j] := by
  have := List.pairwise_iff_getElem.mp h i j (by simp; omega) (by simpa using hj) hij
  simpa using this
theorem below_go {xs : Array Nat} {j : Nat} (h : Ris xs) : ∀ (fuel lo hi : Nat), lo ≤ hi → hi ≤ xs.size → hi - lo ≤ fuel → (∀ k (hk : k < xs.size), k < lo → xs[k] < j) → (∀ k (hk : k < xs.size), hi ≤ k → j ≤ xs[k]) →
    SetTable.below.go xs j fuel lo hi ≤ xs.size ∧ (∀ k (hk : k < xs.size), k < SetTable.below.go xs j fuel lo hi → xs[k] < j) ∧ (∀ k (hk : k < xs.size), SetTable.below.go xs j fuel lo hi ≤ k → j ≤ xs[k])
  | 0, lo, hi, h1, h2, h3, h4, h5 => by
    have e : hi = lo := by omega
    subst e
    exact ⟨h2, h4, h5⟩
  | fuel + 1, lo, hi, h1, h2, h3, h4, h5 => by
    unfold SetTable.below.go
    by_cases c : lo < hi
    · rw [if_pos c]
      have hm : (lo + hi) / 2 < xs.size := by omega
      have eg : xs.getD ((lo + hi) / 2) j = xs[(lo + hi) / 2] := by simp [Array.getD, hm]
      dsimp only
      rw [eg]
      by_cases d : xs[(lo + hi) / 2] < j
      · rw [if_pos d]
        refine below_go h fuel _ hi (by omega) h2 (by omega) (fun k hk hkl => ?_) h5
        by_cases e : k = (lo + hi) / 2
        · subst e; exact d
        · have := h.lt (show k < (lo + hi) / 2 by omega) hm
          omega
      · rw [if_neg d]
        refine below_go h fuel lo _ (by omega) (by omega) (by omega) h4 (fun k hk hkl => ?_)
        by_cases e : k = (lo + hi) / 2
        · subst e; omega
        · have := h.lt (show (lo + hi) / 2 < k by omega) hk
          omega
    · rw [if_neg c]
      have e : hi = lo := by omega
      subst e
      exact ⟨h2, h4, h5⟩
theorem below_ok {xs : Array Nat} (h : Ris xs) (j : Nat) : SetTable.below xs j ≤ xs.size ∧ (∀ k (hk : k < xs.size), k < SetTable.below xs j → xs[k] < j) ∧ (∀ k (hk : k < xs.size), SetTable.below xs j ≤ k → j ≤ xs[k]) :=
  below_go h xs.size 0 xs.size (Nat.zero_le _) (Nat.le_refl _) (by omega) (fun _ _ z => absurd z (Nat.not_lt_zero _)) (fun k hk z => absurd hk (by omega))
theorem below_at {xs : Array Nat} (h : Ris xs) {i j : Nat} (hi : i ≤ xs.size) (h1 : ∀ k (hk : k < xs.size), k < i → xs[k] < j) (h2 : ∀ k (hk : k < xs.size), i ≤ k → j ≤ xs[k]) : SetTable.below xs j = i := by
  obtain ⟨a, b, c⟩ := below_ok h j
  rcases Nat.lt_trichotomy (SetTable.below xs j) i with z | z | z
  · have hk : SetTable.below xs j < xs.size := by omega
    have e1 := h1 _ hk z
    have e2 := c _ hk (Nat.le_refl _)
    omega
  · exact z
  · have hk : i < xs.size := by omega
    have e1 := h2 _ hk (Nat.le_refl _)
    have e2 := b _ hk z
    omega
theorem below_mem {xs : Array Nat} (h : Ris xs) {j : Nat} (hm : j ∈ xs.toList) : xs[SetTable.below xs j]? = some j := by
  obtain ⟨i, hi⟩ := List.mem_iff_getElem?.mp hm
  obtain ⟨hl, e⟩ := List.getElem?_eq_some_iff.mp hi
  have hl' : i < xs.size := by simpa using hl
  have e' : xs[i] = j := by simpa using e
  have : SetTable.below xs j = i := below_at h (Nat.le_of_lt hl') (fun k hk z => by rw [← e']; exact h.lt z hl') fun k hk z => by
    rcases Nat.lt_or_eq_of_le z with z | rfl
    · rw [← e']; exact Nat.le_of_lt (h.lt z hk)
    · omega
  rw [this, Array.getElem?_eq_getElem hl', e']
theorem Ris.ins {xs : Array Nat} (h : Ris xs) {j : Nat} (hm : j ∉ xs.toList) : Ris (SetTable.insertAt xs (SetTable.below xs j) j) := by
  obtain ⟨a, b, c⟩ := below_ok h j
  unfold Ris
  rw [SetTable.toList_insertAt]
  generalize SetTable.below xs j = p at *
  have ht : ∀ x ∈ xs.toList.take p, x < j := fun x hx => by
    obtain ⟨i, hi⟩ := List.mem_iff_getElem?.mp hx
    rw [List.getElem?_take] at hi
    split at hi
    · rename_i hip
      obtain ⟨hl, e⟩ := List.getElem?_eq_some_iff.mp hi
      have hl' : i < xs.size := by simpa using hl
      have := b i hl' hip
      rw [← e]; simpa using this
    · cases hi
  have hd : ∀ x ∈ xs.toList.drop p, j < x := fun x hx => by
    obtain ⟨i, hi⟩ := List.mem_iff_getElem?.mp hx
    rw [List.getElem?_drop] at hi
    obtain ⟨hl, e⟩ := List.getElem?_eq_some_iff.mp hi
    have hl' : p + i < xs.size := by simpa using hl
    have h1 := c (p + i) hl' (by omega)
    have e' : xs[p + i] = x := by simpa using e
    have h2 : x ≠ j := fun z => hm (by rw [← z]; exact List.mem_of_getElem? hi)
    omega
  rw [List.pairwise_append]
  refine ⟨h.sublist (List.take_sublist ..), List.pairwise_cons.mpr ⟨hd, h.sublist (List.drop_sublist ..)⟩, fun x hx y hy => ?_⟩
  rcases List.mem_cons.mp hy with rfl | hy
  · exact ht x hx
  · exact Nat.lt_trans (ht x hx) (hd y hy)
theorem ris_range (n : Nat) : Ris (Array.range n) := by
  unfold Ris
  rw [Array.toList_range]
  exact List.pairwise_lt_range
theorem slot_live {t : SetTable} (h : Ris t.place) {j : Nat} (hm : j ∈ t.place.toList) : ∃ i, t.slot j = .live i := by
  unfold SetTable.slot
  dsimp only
  rw [below_mem h hm]
  exact ⟨SetTable.below t.place j, by rw [if_pos (by simp)]⟩
theorem adv_dummy (t : SetTable) (p : SetTable.Probe) : (t.advance p).dummy = p.dummy := by
  unfold SetTable.advance
  split <;> rfl
theorem probe_go {t : SetTable} {h : Int} : ∀ (fuel : Nat) (p : SetTable.Probe) (j : Nat) (dm : Option Nat), (∀ d, p.dummy = some d → t.slot d = .dummy) → SetTable.probe.go t (fun _ => h + 1) h fuel p = some (.empty j dm) →
    t.slot j = .empty ∧ ∀ d, dm = some d → t.slot d = .dummy
  | 0, p, j, dm, _, e => by simp [SetTable.probe.go] at e
  | fuel + 1, p, j, dm, hp, e => by
    unfold SetTable.probe.go at e
    cases hs : t.slot p.j with
    | empty =>
      rw [hs] at e
      simp only [Option.some.injEq, SetTable.Met.empty.injEq] at e
      obtain ⟨rfl, rfl⟩ := e
      exact ⟨hs, hp⟩
    | dummy =>
      rw [hs] at e
      refine probe_go fuel _ j dm (fun d hd => ?_) e
      rw [adv_dummy] at hd
      cases hd
      exact hs
    | live i =>
      rw [hs] at e
      simp only at e
      rw [if_neg (by simp; omega)] at e
      exact probe_go fuel _ j dm (fun d hd => hp d (by rw [← adv_dummy t]; exact hd)) e
theorem free_ok {t : SetTable} {h : Int} {j : Nat} {b : Bool} (hr : Ris t.place) (e : t.freeSlot h = some (j, b)) : j ∉ t.place.toList := by
  unfold SetTable.freeSlot at e
  split at e
  · rename_i k dm hq
    simp only [Option.some.injEq, Prod.mk.injEq] at e
    obtain ⟨rfl, rfl⟩ := e
    have := probe_go _ _ k dm (fun d hd => by simp [SetTable.probeStart] at hd) hq
    intro hm
    obtain ⟨i, hi⟩ := slot_live hr hm
    cases dm with
    | none => rw [show (Option.getD none k) = k from rfl, this.1] at hi; cases hi
    | some d => rw [show (Option.getD (some d) k) = d from rfl, this.2 d rfl] at hi; cases hi
  · cases e
theorem layNew_ris {t : SetTable} (hr : Ris t.place) (es : Array (Int × Value)) (h : Int) (x : Value) : Ris (layNew t es h x).2.1.place ∧ (layNew t es h x).2.1.led = t.led := by
  unfold layNew
  split
  · rename_i slot wd e
    have hn := free_ok hr e
    have h1 : Ris (t.put slot).1.place := hr.ins hn
    have h2 : (t.put slot).1.led = t.led := rfl
    dsimp only
    unfold SetTable.orStandIn
    split
    · exact ⟨h1, h2⟩
    · exact ⟨ris_range _, h2⟩
  · exact ⟨ris_range _, rfl⟩
theorem relaid_ris {t t' : SetTable} {hs : Array Int} {wanted : Nat} {o : Array Nat} (e : t.relaid hs wanted = some (t', o)) : Ris t'.place ∧ t'.led = t.led := by
  unfold SetTable.relaid SetTable.laid at e
  cases q : SetTable.layClean (SetTable.sizeAbove wanted - 1) hs with
  | none => rw [q] at e; cases e
  | some owner =>
    rw [q] at e
    cases e
    refine ⟨?_, rfl⟩
    unfold Ris
    dsimp only
    rw [List.pairwise_map]
    generalize SetTable.sizeAbove wanted - 1 + 1 = N
    have key : ∀ l : List Nat, l.Pairwise (· < ·) → (l.filterMap fun j => (owner.getD j none).map (j, ·)).Pairwise fun a b => a.1 < b.1 := by
      intro l
      induction l with
      | nil => intro _; exact .nil
      | cons a l ih =>
        intro hp
        obtain ⟨h1, h2⟩ := List.pairwise_cons.mp hp
        cases hq : owner.getD a none with
        | none => rw [List.filterMap_cons_none (by rw [hq]; rfl)]; exact ih h2
        | some c =>
          rw [List.filterMap_cons_some (b := (a, c)) (by rw [hq]; rfl)]
          refine List.pairwise_cons.mpr ⟨fun y hy => ?_, ih h2⟩
          obtain ⟨z, hz, e⟩ := List.mem_filterMap.mp hy
          have : y.1 = z := by
            cases hz2 : owner.getD z none with
            | none => rw [hz2] at e; cases e
            | some c2 => rw [hz2] at e; cases e; rfl
          rw [this]
          exact h1 z hz
    exact key _ List.pairwise_lt_range
theorem relayAll_ris {t : SetTable} (hr : Ris t.place) (es : Array (Int × Value)) (wanted : Nat) : Ris (relayAll t es wanted).2.1.place ∧ (relayAll t es wanted).2.1.led = t.led := by
  unfold relayAll
  split
  · rename_i t' o e
    dsimp only
    split
    · exact relaid_ris e
    · exact ⟨ris_range _, rfl⟩
  · exact ⟨ris_range _, rfl⟩
theorem erase_perm {α : Type} : ∀ (l : List α) (i : Nat) (h : i < l.length), (l[i] :: l.eraseIdx i).Perm l
  | a :: l, 0, h => by simp
  | a :: l, i + 1, h => by
    have := erase_perm l i (by simpa using h)
    simp only [List.getElem_cons_succ, List.eraseIdx_cons_succ]
    exact (List.Perm.swap _ _ _).trans (this.cons a)
theorem pick_go {α : Type} (next : Nat → Nat) : ∀ (fuel k : Nat) (left : List α) (out : Array α), fuel = left.length → (pickOrder.go next fuel k left out).toList.Perm (out.toList ++ left)
  | 0, k, left, out, h => by
    have : left = [] := List.eq_nil_of_length_eq_zero h.symm
    subst this
    simp [pickOrder.go]
  | fuel + 1, k, left, out, h => by
    unfold pickOrder.go
    have hl : next k % left.length < left.length := Nat.mod_lt _ (by omega)
    rw [List.getElem?_eq_getElem hl]
    dsimp only
    refine (pick_go next fuel (k + 1) _ _ (by rw [List.length_eraseIdx_of_lt hl]; omega)).trans ?_
    rw [Array.toList_push, List.append_assoc]
    refine List.Perm.append_left _ ?_
    exact erase_perm left _ hl
theorem pick_perm {α : Type} (next : Nat → Nat) (xs : Array α) : (pickOrder next xs).toList.Perm xs.toList := by
  have := pick_go next xs.size 0 xs.toList #[] (by simp)
  simpa [pickOrder] using this
end L2
set_option maxHeartbeats 4000000
namespace L2
open PySem PySem.Spec PyProof.Rows
noncomputable def kOf (e : Int × Value) : Int := numOf e.2
structure SR (prog : Program) (w : World) (es : Array (Int × Value)) (t : SetTable) (ks : List Int) : Prop where
  el : ElemsOf (intKind prog w) es.toList
  fits : t.fits es.size = true
  ris : Ris t.place
  led : t.led = !(w.params.followText "set-order")
  nd : (es.toList.map kOf).Nodup
  mem : ∀ k, k ∈ es.toList.map kOf ↔ k ∈ ks
  len : es.size ≤ ks.length
noncomputable def SetR (prog : Program) (w : World) (h : Heap) (a : Addr) (ks : List Int) : Prop := ∃ o es ep t, h.get? a = some o ∧ o.ExactSet ∧ o.data = .set es ep t ∧ SR prog w es t ks
theorem isInt_shape {k : Int} {v : Value} {prog : Program} {w : World} (h : (intKind prog w).is k v = true) : ∃ t, v = .int k t := by
  have h' : Value.isInt k v = true := h
  cases v with
  | int j t =>
    have e : (j == k) = true ∨ (k == j) = true := by first | exact .inl h' | exact .inr h'
    rcases e with e | e
    · exact ⟨t, by rw [beq_iff_eq.mp e]⟩
    · exact ⟨t, by rw [beq_iff_eq.mp e]⟩
  | _ => cases h'
section
variable {prog : Program} {w : World} {es : Array (Int × Value)} {t : SetTable} {ks : List Int}
theorem SR.perm {es' : Array (Int × Value)} {t' : SetTable} (h : SR prog w es t ks) (p : es'.toList.Perm es.toList) (f : t'.fits es'.size = true) (r : Ris t'.place) (l : t'.led = t.led) : SR prog w es' t' ks where
  el := h.el.perm p
  fits := f
  ris := r
  led := l.trans h.led
  nd := (p.map kOf).nodup_iff.mpr h.nd
  mem := fun k => ((p.map kOf).mem_iff).trans (h.mem k)
  len := by
    have := p.length_eq
    rw [Array.length_toList, Array.length_toList] at this
    rw [this]; exact h.len
theorem SR.put {k : Int} {tk : Tok} (h : SR prog w es t ks) (hn : k ∉ ks) {es' : Array (Int × Value)} {t' : SetTable} (p : es'.toList.Perm (es.toList ++ [(hashInt k, .int k tk)])) (f : t'.fits es'.size = true) (r : Ris t'.place) (l : t'.led = t.led) : SR prog w es' t' (ks ++ [k]) where
  el := (h.el.push (k := k) (x := .int k tk) (intKind_is _ _ _ _) rfl).perm p
  fits := f
  ris := r
  led := l.trans h.led
  nd := by
    refine (p.map kOf).nodup_iff.mpr ?_
    rw [List.map_append]
    refine List.nodup_append.mpr ⟨h.nd, by simp, fun a ha b hb => ?_⟩
    have : b = k := by simpa [kOf, numOf] using hb
    rw [this]
    intro e
    exact hn ((h.mem k).mp (by rw [← e]; exact ha))
  mem := fun k' => by
    rw [(p.map kOf).mem_iff, List.map_append, List.mem_append, List.mem_append, h.mem k']
    simp [kOf, numOf]
  len := by
    have := p.length_eq
    rw [Array.length_toList, List.length_append, Array.length_toList] at this
    have := h.len
    rw [List.length_append]
    simp only [List.length_cons, List.length_nil] at *
    omega
theorem SR.again {k : Int} (h : SR prog w es t ks) (hk : k ∈ ks) : SR prog w es t (ks ++ [k]) where
  el := h.el
  fits := h.fits
  ris := h.ris
  led := h.led
  nd := h.nd
  mem := fun k' => by
    rw [h.mem k', List.mem_append]
    refine ⟨.inl, fun z => z.elim id fun z => ?_⟩
    rw [List.mem_singleton.mp z]; exact hk
  len := by have := h.len; rw [List.length_append]; omega
end
section
variable {prog : Program} {w : World} {A : Around} {E : Value → Shared → Prop} {s : Shared}
theorem store_R {a : Addr} {o : Obj} {es es' : Array (Int × Value)} {ep : Nat} {t t' : SetTable} (h : Heap) (ho : h.get? a = some o) (hd : o.data = .set es ep t) : (h.update a (Obj.putSet es' t')).get? a = some { o with data := .set es' (ep + 1) t' } := by
  have := Heap.get?_update_self (Obj.putSet es' t') ho (by rw [putSet_of es' t' hd]; rfl)
  rw [putSet_of es' t' hd] at this
  exact this
theorem add_R {a : Addr} {ks : List Int} {k : Int} {tk : Tok} {Q : Bool → Shared → Prop} (h : SetR prog w s.heap a ks) (room : ks.length + 1 < scanBound)
    (hQ : ∀ b h', Heap.SameBut a s.heap h' → SetR prog w h' a (ks ++ [k]) → Q b { s with heap := h' }) : wpAny (model prog w) A (setAddHashed a (.int k tk) (hashInt k)) Q E s := by
  obtain ⟨o, es, ep, t, ho, hex, hd, R⟩ := h
  have hb : es.size < scanBound := by have := R.len; omega
  have hkey : (intKind prog w).is k (.int k tk) = true := intKind_is _ _ _ _
  have hgw : ∀ (b : Bool) {s₁ : Shared} {Q' : Unit → Shared → Prop}, Q' () s₁ → wpAny (model prog w) A (match b with | true => rule "set.scan.the-table-gave-way" | false => pure ()) Q' E s₁ :=
    fun b s₁ Q' hq => by cases b <;> first | exact wpAny_pure hq | exact wpAny_rule hq
  unfold setAddHashed setAddHashedIn
  refine wpAny_holding (wpAny_bind (wpAny_setState_of ho hd R.fits ?_))
  dsimp only
  rw [byScan_of (knd := intKind prog w) rfl hb R.el]
  simp only [↓reduceIte]
  unfold setAddByScan
  refine wpAny_bind (wpAny_bind (wpAny_rule (wpAny_bind (wpAny_setScan_of (knd := intKind prog w) (k := k) hkey ho hd R.fits R.el ?_))))
  cases hr : List.findIdx? (fun e => (intKind prog w).is k e.2) es.toList with
  | some j =>
    dsimp only
    obtain ⟨hj, hpj, _⟩ := List.findIdx?_eq_some_iff_getElem.mp hr
    obtain ⟨t', et⟩ := isInt_shape hpj
    have hk : k ∈ ks := (R.mem k).mp (List.mem_map.mpr ⟨es.toList[j], List.getElem_mem hj, by unfold kOf; rw [et]; rfl⟩)
    have := hQ false s.heap (Heap.SameBut.refl a s.heap) ⟨o, es, ep, t, ho, hex, hd, R.again hk⟩
    exact wpAny_pure (wpAny_pure this)
  | none =>
    dsimp only
    have hk : k ∉ ks := fun z => by
      obtain ⟨e, he, q⟩ := List.mem_map.mp ((R.mem k).mpr z)
      obtain ⟨⟨k', hk', _⟩, _⟩ := R.el e he
      obtain ⟨t', et⟩ := isInt_shape hk'
      have e2 : k' = k := by unfold kOf at q; rw [et] at q; exact q
      subst e2
      have := List.findIdx?_eq_none_iff.mp hr e he
      rw [hk'] at this; exact Bool.noConfusion this
    have hp := layNew_perm t es (hashInt k) (.int k tk)
    have hf := layNew_fits t es (hashInt k) (.int k tk)
    have hrs := layNew_ris R.ris es (hashInt k) (.int k tk)
    generalize layNew t es (hashInt k) (.int k tk) = L at hp hf hrs ⊢
    obtain ⟨es1, t1, wasDummy, gave⟩ := L
    dsimp only at hp hf hrs ⊢
    rw [Array.toList_push] at hp
    have R1 := R.put hk hp hf hrs.1 hrs.2
    have hz1 : es1.size ≤ sizeLine := fits_of_scanBound (by have := R1.len; rw [List.length_append] at this; simp at this; omega)
    refine wpAny_bind (hgw _ ?_)
    have fin : ∀ (t2 : SetTable), t2 = t1 → wpAny (model prog w) A (do
        storeSet a es1 t2
        if (!wasDummy && t2.tooFull) = true then do
            (match (relayAll t2 es1 (SetTable.grown es1.size)).2.2 with | true => rule "set.scan.the-table-gave-way" | false => pure ())
            storeSet a (relayAll t2 es1 (SetTable.grown es1.size)).1 (relayAll t2 es1 (SetTable.grown es1.size)).2.1
            pure (some true)
          else pure (some true)) (fun r s' => wpAny (model prog w) A (match r with | some added => pure added | none => setAddHashedIn a (.int k tk) (hashInt k) 99999) Q E s') E s := by
      intro t2 e2
      rw [e2]
      refine wpAny_bind (wpAny_storeSet_of ho hd ?_ hz1)
      have g1 := store_R (es' := es1) (t' := t1) s.heap ho hd
      have sb := Heap.SameBut.update s.heap a (Obj.putSet es1 t1)
      split
      · have hp2 := relayAll_perm t1 es1 (SetTable.grown es1.size)
        have hf2 := relayAll_fits t1 es1 (SetTable.grown es1.size)
        have hr2 := relayAll_ris R1.ris es1 (SetTable.grown es1.size)
        generalize relayAll t1 es1 (SetTable.grown es1.size) = L2' at hp2 hf2 hr2 ⊢
        obtain ⟨es2, t3, gave2⟩ := L2'
        dsimp only at hp2 hf2 hr2 ⊢
        have R2 := R1.perm hp2 hf2 hr2.1 hr2.2
        have hz2 : es2.size ≤ sizeLine := fits_of_scanBound (by have := R2.len; rw [List.length_append] at this; simp at this; omega)
        refine wpAny_bind (hgw _ (wpAny_bind (wpAny_storeSet_of g1 rfl ?_ hz2)))
        have g2 := store_R (es' := es2) (t' := t3) _ g1 rfl
        exact wpAny_pure (wpAny_pure (hQ _ _ (sb.trans (Heap.SameBut.update _ a _)) ⟨_, es2, _, t3, g2, hex, rfl, R2⟩))
      · exact wpAny_pure (wpAny_pure (hQ _ _ sb ⟨_, es1, _, t1, g1, hex, rfl, R1⟩))
    split
    · refine wpAny_bind ?_
      rw [hashByValue_scannable 8 rfl]
      refine wpAny_pure ?_
      exact fin _ (by simp [plainKind])
    · refine wpAny_bind (wpAny_pure ?_)
      exact fin _ (by simp)
end
end L2
set_option maxHeartbeats 4000000
namespace L2
open PySem PySem.Spec PyProof.Rows
section
variable {prog : Program} {w : World} {A : Around} {R : Result → Shared → Prop} {I : Addr} {fp wr : List Addr} {G : Array GenState → Array GenState → Prop} {n : Nat} {P : Nat → Value → Prop} {St : Nat → Shared → Prop}
theorem fill_R (W : WalksS prog w A.in1 I fp wr G n P St) {b : Addr} (nb : b ∉ fp) {val : Nat → Int} (hv : ∀ i v, P i v → ∃ t, v = .int (val i) t) (room : n + 1 < scanBound) :
    ∀ (m i : Nat) (s : Shared), n - i = m → i ≤ n → St i s → SetR prog w s.heap b ((List.range i).map val) →
      (∀ s', Moved (b :: wr) G s s' → SetR prog w s'.heap b ((List.range n).map val) → R (.ok (.ret .none)) s') →
      codeAny (model prog w) A (.builtin "set.update.loop" ⟨[.ref b, .ref I], []⟩) R s := by
  have nw : b ∉ wr := fun z => nb (W.sub _ z)
  have more : ∀ c ∈ wr, c ∈ b :: wr := fun c hc => List.mem_cons_of_mem _ hc
  have same : ∀ {s s' : Shared} {ks : List Int}, SetR prog w s.heap b ks → Moved wr G s s' → SetR prog w s'.heap b ks := fun {s s' ks} h hm => by
    obtain ⟨o, es, ep, t, ho, r⟩ := h
    exact ⟨o, es, ep, t, hm.heap b _ nw ho, r⟩
  intro m
  induction m with
  | zero =>
    intro i s hm hi hst hS hR
    obtain rfl : i = n := by omega
    refine codeAny_builtin PyProof.Rows.F.entry_set_update_loop ?_
    rw [Around.under_plainId PyProof.Rows.F.plain_set_update_loop _]
    show wpAny _ A.in1 (pyNext (.ref I) >>= _) _ _ s
    exact wpAny_bind (W.done s _ _ hst fun s' mv => wpAny_pure (hR s' (mv.mono more) (same hS mv)))
  | succ m ih =>
    intro i s hm hi hst hS hR
    have lt : i < n := by omega
    refine codeAny_builtin PyProof.Rows.F.entry_set_update_loop ?_
    rw [Around.under_plainId PyProof.Rows.F.plain_set_update_loop _]
    show wpAny _ A.in1 (pyNext (.ref I) >>= _) _ _ s
    refine wpAny_bind (W.item i s _ _ lt hst fun v s' hP hst' mv => ?_)
    obtain ⟨t, rfl⟩ := hv i v hP
    show wpAny _ A.in1 (holding [Value.int (val i) t] (setAdd b (Value.int (val i) t)) >>= _) _ _ s'
    refine wpAny_bind (wpAny_holding ?_)
    unfold setAdd
    refine wpAny_holding (wpAny_bind ((intKind prog w).pyHash (k := val i) (intKind_is _ _ _ _) ?_))
    have hS' := same hS mv
    refine add_R (s := { s' with toks := s'.toks + 1 }) hS' (by simp; omega) fun bo h' sb hS2 => ?_
    have hS3 : SetR prog w h' b ((List.range (i + 1)).map val) := by
      rw [List.range_succ, List.map_append]; exact hS2
    refine wpAny_pure ⟨plainId_quiet PyProof.Rows.F.plain_set_update_loop _, ih (i + 1) _ (by omega) lt (W.frame _ s' _ _ hst' (Nat.le_succ _) fun c hc o e => ?_) hS3 fun s'' mv' hS4 => ?_⟩
    · rw [sb.2 c (fun z : c = b => nb (by rw [← z]; exact hc))]; exact e
    · refine hR s'' (Moved.trans W.gtrans ((mv.mono more).then_heap (Nat.le_succ _) fun c o hc e => ?_) mv') hS4
      rw [sb.2 c (fun z : c = b => hc (by rw [z]; exact List.mem_cons_self))]; exact e
end
section
variable {prog : Program} {w : World} {A : Around} {E : Value → Shared → Prop} {s : Shared}
theorem code_set_newL (a : Value) {Q₁ : Value → Shared → Prop} (h : Q₁ (.ref s.heap.objs.size) { s with heap := s.heap.push (bareSet (!(w.params.followText "set-order"))) }) :
    codeAny (model prog w) A (.call (.builtin "set.__new__") ⟨[.type "set", a], []⟩) (wants Q₁ E) s := by
  refine codeAny_of_tree ?_
  show wpAny _ A.in1 (do checkBuiltinCall "set.__new__" ⟨[.type "set", a], []⟩; again (.builtin "set.__new__" ⟨[.type "set", a], []⟩)) _ _ s
  refine wpAny_bind (wpAny_of_eq (PySem.F.newCall_set_1 a) (wpAny_pure ⟨plainId_quiet PySem.F.plain_set_new _, codeAny_builtin PySem.F.entry_set_new ?_⟩))
  rw [Around.under_plainId PySem.F.plain_set_new _]
  unfold Builtin.«set.__new__» Builtin.Frozenset.newClass
  have hsub := sub_set_self
  obtain ⟨hp, g, d, tk, os⟩ := s
  dsimp only
  wp_walk
  refine wpAny_askSetting (wpAny_pure ?_)
  dsimp only
  simp only [newObj]
  exact wpAny_bind (wpAny_alloc (wpAny_pure (wpAny_pure h)))
set_option maxHeartbeats 3200000 in
theorem set_callL {x : Value} {Q : Value → Shared → Prop} {Z : Heap → Prop}
    (fill : ∀ (E' : Value → Shared → Prop) (Q' : Unit → Shared → Prop), (∀ h' tk, Z h' → Q' () { s with heap := h', toks := tk }) → wpAny (model prog w) A.in1.in1 (Builtin.Frozenset.updateFrom "set.__init__" s.heap.objs.size x) Q' E' { s with heap := s.heap.push (bareSet (!(w.params.followText "set-order"))) })
    (h : ∀ (h' : Heap) (tk : Nat), Z h' → Q (.ref s.heap.objs.size) { s with heap := h', toks := tk }) : wpAny (model prog w) A (call (.type "set") [x]) Q E s := by
  obtain ⟨c, tl, hmro⟩ := PySem.F.called_set.mro
  have g1 := PySem.F.called_set.made
  have g2 := PySem.F.called_set.sub
  have g3 := PySem.F.called_set.notType
  have g4 := PySem.F.called_set.canCreate
  have g5 := PySem.F.typeCall_set_1 x
  refine wpAny_call (codeAny_of_tree ?_)
  show wpAny _ _ (callAny (.type "set") _) _ _ _
  refine wpAny_pure ⟨Code.quiet_builtin _ (by decide +kernel), codeAny_builtin PySem.F.entry_type_call ?_⟩
  rw [Around.under_plain (weight_type_call_type "set" [x] []) rfl]
  repeat (any_goals (first | assumption | wp_step))
  generalize hled : (!(w.params.followText "set-order")) = led at *
  refine codeAny_mono (code_set_newL x (E := E) (Q₁ := fun v s1 => v = .ref s.heap.objs.size ∧ s1 = { s with heap := s.heap.push (bareSet led) }) ⟨rfl, by rw [hled]⟩) fun r s1 hr => ?_
  match r, hr with
  | .error e, hr => exact hr
  | .ok .next, hr => exact hr.elim
  | .ok .brk, hr => exact hr.elim
  | .ok .cont, hr => exact hr.elim
  | .ok (.ret v), hr =>
    obtain ⟨rfl, rfl⟩ := hr
    have at0 : (s.heap.push (bareSet led)).get? s.heap.objs.size = some (bareSet led) := Heap.get?_push_size _ rfl
    have hT : Shared.TypeIs { s with heap := s.heap.push (bareSet led) } (.ref s.heap.objs.size) "set" := ⟨_, at0, rfl⟩
    have i1 := PySem.F.called_set.init.lookup
    have i2 := PySem.F.called_set.init.bind (.ref s.heap.objs.size)
    repeat (any_goals (first | assumption | wp_step))
    refine codeAny_mono (codeAny_call_builtin (R := wants (fun r s2 => r = .none ∧ ∃ h' tk, s2 = { s with heap := h', toks := tk } ∧ Z h') E) PySem.F.called_set.init.plain PySem.F.entry_set_init (check_set_init_1 hT ?_)) fun r2 s2 hr2 => ?_
    · have at1 : ({ s with heap := s.heap.push (bareSet led) } : Shared).heap.get? s.heap.objs.size = some (bareSet led) := at0
      unfold Builtin.«set.__init__» noKeywords
      generalize hU : Builtin.Frozenset.updateFrom = U
      wp_walk
      subst hU
      exact fill _ _ fun h' tk z => wpAny_pure ⟨rfl, h', tk, rfl, z⟩
    · match r2, hr2 with
      | .error e, hr2 => exact hr2
      | .ok .next, hr2 => exact hr2.elim
      | .ok .brk, hr2 => exact hr2.elim
      | .ok .cont, hr2 => exact hr2.elim
      | .ok (.ret v), hr2 =>
        obtain ⟨rfl, h', tk, rfl, z⟩ := hr2
        repeat (any_goals (first | assumption | wp_step))
        exact h _ _ z
theorem set_ofR {l : Addr} {vs : List Value} {zs : List Int} {Q : Value → Shared → Prop} (hh : A.handled = none) (hl : s.heap.IsList l vs.toArray) (hv : IntsAre vs zs) (room : zs.length + 1 < scanBound)
    (h : ∀ (h' : Heap) (tk : Nat), SetR prog w h' s.heap.objs.size zs → (∀ c o, s.heap.get? c = some o → h'.get? c = some o) → Q (.ref s.heap.objs.size) { s with heap := h', toks := tk }) : wpAny (model prog w) A (call (.type "set") [.ref l]) Q E s := by
  have hlen := hv.length
  have erg : (List.range vs.toArray.size).map (fun i => zs.getD i 0) = zs := by
    refine List.ext_getElem? fun i => ?_
    rw [List.getElem?_map]
    by_cases hi : i < zs.length
    · rw [List.getElem?_range (by simp; omega), List.getElem?_eq_getElem hi]
      simp [List.getD_eq_getElem?_getD, List.getElem?_eq_getElem hi]
    · rw [List.getElem?_eq_none (l := List.range _) (by rw [List.length_range, List.size_toArray]; omega), List.getElem?_eq_none (l := zs) (by omega)]
      rfl
  refine set_callL (Z := fun h' => SetR prog w h' s.heap.objs.size zs ∧ ∀ c o, s.heap.get? c = some o → h'.get? c = some o) (fun E' Q' q => ?_) fun h' tk z => h h' tk z.1 z.2
  generalize hled : (!(w.params.followText "set-order")) = led at *
  obtain ⟨ol, hol, hcl, nl, hdl⟩ := id hl
  obtain ⟨ocls, odict, odata, oslots⟩ := ol
  simp only at hcl hdl
  subst hcl; subst hdl
  have at1 : (s.heap.push (bareSet led)).get? l = some { cls := .type "list", dict := odict, data := .seq vs.toArray nl, slots := oslots } := Heap.get?_push_of_some _ hol
  have k1 := PySem.F.sub_list_set
  have k2 := PySem.F.sub_list_frozenset
  have k3 : (Value.type "list" == Value.type "dict") = false := by decide
  have hl1 : (s.heap.push (bareSet led)).IsList l vs.toArray := ⟨_, at1, rfl, nl, rfl⟩
  unfold Builtin.Frozenset.updateFrom
  generalize hP : pyIter = PI
  wp_walk
  subst hP
  refine wpAny_pyIter_list hl1 ?_
  refine wpAny_bind (wpAny_runValue ?_)
  have ll : l < s.heap.objs.size := Heap.lt_size hol
  have sz : (s.heap.push (bareSet led)).objs.size = s.heap.objs.size + 1 := Heap.size_push ..
  refine fill_R (val := fun i => zs.getD i 0) ((Walks.list (by simp [hh]) _ l (by rw [sz]; exact Nat.ne_of_lt (Nat.lt_succ_of_lt ll)) vs.toArray).toS) (b := s.heap.objs.size) (by rw [sz]; simp; exact Nat.ne_of_gt ll) (fun i v hv' => ?_) (by simp; omega) (vs.toArray.size - 0) 0 _ (by omega) (Nat.zero_le _) ⟨⟨_, Heap.get?_push_size _ rfl, rfl, rfl⟩, hl1.push _⟩ ?_ ?_
  · have hv2 : vs[i]? = some v := by simpa using hv'
    have hi : i < zs.length := by
      have := (List.getElem?_eq_some_iff.mp hv2).1
      omega
    obtain ⟨t, ht⟩ := hv.get i _ (List.getElem?_eq_getElem hi)
    rw [hv2] at ht
    cases ht
    exact ⟨t, by rw [List.getD_eq_getElem?_getD, List.getElem?_eq_getElem hi]; rfl⟩
  · have g := Heap.get?_push_of_some (h := s.heap.push (bareSet led)) { cls := .type "list_iterator", data := .fields #[.ref l, .int 0 0] } (Heap.get?_push_size (o := bareSet led) s.heap rfl)
    exact ⟨_, #[], 0, .fresh 0 0 led, g, ⟨rfl, rfl, rfl⟩, rfl, ⟨fun e he => by simp at he, by rfl, List.Pairwise.nil, hled.symm ▸ rfl, by simp, fun k => by simp, by simp⟩⟩
  · intro s' mv hS
    obtain ⟨h', g', d', tk', os'⟩ := s'
    obtain rfl : g' = s.gens := mv.gens
    obtain rfl : d' = s.drawn := mv.drawn
    obtain rfl : os' = s.os := mv.os
    show wpAny _ _ _ _ _ _
    refine wpAny_pure ?_
    rw [erg] at hS
    refine q h' tk' ⟨hS, fun c o e => ?_⟩
    have hc := Heap.lt_size e
    refine mv.heap c o ?_ (Heap.get?_push_of_some _ (Heap.get?_push_of_some _ e))
    rw [sz]
    simp only [List.mem_cons, List.not_mem_nil, or_false, not_or]
    exact ⟨Nat.ne_of_lt hc, Nat.ne_of_lt (Nat.lt_succ_of_lt hc)⟩
end
end L2
set_option maxHeartbeats 4000000
namespace L2
open PySem PySem.Spec PyProof.Rows
theorem entry_set_iter : entryFor table "set.__iter__" = some Builtin.«frozenset.__iter__» :=
  entryFor_alias (id' := "frozenset.__iter__") (by kernel_rfl) rfl (by decide +kernel) (by kernel_rfl)
theorem slot_set_iterator_next : Slot "set_iterator" "__next__" "set_iterator.__next__" :=
  .of (owner := "set_iterator") (n := "__next__") (by rw [typeLookup_type, builtinLookup_eq_fast]; kernel_rfl) (by decide +kernel) (by decide +kernel) (by decide +kernel)
    (by first | exact .inl (by decide +kernel) | exact .inr (by decide +kernel)) (by rw [isSubtype_type]; kernel_rfl)
theorem entry_set_iterator_next : entryFor table "set_iterator.__next__" = some Builtin.«set_iterator.__next__» := entryFor_of_tree (by kernel_rfl)
theorem args_set_iterator_next (a : Value) : argsOk "set_iterator.__next__" ⟨[a], []⟩ := by unfold argsOk; kernel_rfl
theorem slot_set_iterator_iter : Slot "set_iterator" "__iter__" "set_iterator.__iter__" :=
  .of (owner := "set_iterator") (n := "__iter__") (by rw [typeLookup_type, builtinLookup_eq_fast]; kernel_rfl) (by decide +kernel) (by decide +kernel) (by decide +kernel)
    (by first | exact .inl (by decide +kernel) | exact .inr (by decide +kernel)) (by rw [isSubtype_type]; kernel_rfl)
theorem entry_set_iterator_iter : entryFor table "set_iterator.__iter__" = some Builtin.«dict_keyiterator.__iter__» :=
  entryFor_alias (id' := "dict_keyiterator.__iter__") (by kernel_rfl) rfl (by decide +kernel) (by kernel_rfl)
theorem args_set_iterator_iter (a : Value) : argsOk "set_iterator.__iter__" ⟨[a], []⟩ := by unfold argsOk; kernel_rfl
noncomputable abbrev setItO (first : Value) (i : Nat) (a : Addr) (n ep : Nat) : Obj := { cls := .type "set_iterator", data := .fields #[first, .int i 0, .ref a, .int n 0, .int ep 0] }
noncomputable def SetIt (h : Heap) (it : Addr) (first : Value) (i : Nat) (a : Addr) (n ep : Nat) : Prop := ∃ o, h.get? it = some o ∧ o.cls = .type "set_iterator" ∧ o.data = .fields #[first, .int i 0, .ref a, .int n 0, .int ep 0]
section
variable {M : Model} {A : Around} {E : Value → Shared → Prop} {s : Shared}
theorem wpAny_chs {src : Source} {n : Nat} {Q : Nat → Shared → Prop} (hn : n ≠ 0) (h : ∀ i d', i < n → Q i { s with drawn := d' }) : wpAny M A (choose src n) Q E s := fun Γ p hΓ => ⟨hn, h _ _ (Nat.mod_lt _ (by omega))⟩
theorem draw_ok {α : Type} : ∀ (n : Nat) (xs : List α) (s : Shared) {Q : List α → Shared → Prop}, n = xs.length → (∀ l d', l.Perm xs → Q l { s with drawn := d' }) → wpAny M A (drawOrder n xs) Q E s
  | 0, xs, s, Q, hl, h => by
    have : xs = [] := List.eq_nil_of_length_eq_zero hl.symm
    subst this
    exact wpAny_pure (h [] s.drawn (.refl _))
  | n + 1, [], s, Q, hl, h => by cases hl
  | n + 1, x :: xs, s, Q, hl, h => by
    unfold drawOrder
    refine wpAny_bind (wpAny_chs (by simp) fun i d' hi => ?_)
    rw [List.getElem?_eq_getElem hi]
    dsimp only
    refine wpAny_bind (draw_ok n _ _ (by rw [List.length_eraseIdx_of_lt hi]; omega) fun l d2 hp => wpAny_pure ?_)
    exact h _ d2 ((hp.cons _).trans (erase_perm _ _ hi))
end
section
variable {prog : Program} {w : World} {A : Around} {E : Value → Shared → Prop} {s : Shared} {a : Addr} {o : Obj} {es : Array (Int × Value)} {ep : Nat} {t : SetTable} {ks : List Int}
noncomputable abbrev byT (w : World) : Bool := w.params.followText "set-order"
noncomputable abbrev drw (w : World) (es : Array (Int × Value)) (t : SetTable) : Bool := !byT w && (!t.plain && decide (es.size > 1))
theorem pyIter_set {Q : Value → Shared → Prop} (ho : s.heap.get? a = some o) (hex : o.ExactSet) (hd : o.data = .set es ep t) (R : SR prog w es t ks) (hz : es.size ≤ sizeLine)
    (h1 : drw w es t = false → Q (.ref s.heap.objs.size) { s with heap := s.heap.push (setItO (.int 0 0) 0 a es.size ep) })
    (h2 : drw w es t = true → ∀ (l : List Nat) d', l.Perm (List.range es.size) → Q (.ref (s.heap.objs.size + 1 : Nat)) { s with heap := (s.heap.push (seqObj "tuple" (l.map fun (i : Nat) => Value.int i 0).toArray 0)).push (setItO (.ref s.heap.objs.size) 0 a es.size ep), drawn := d' }) :
    wpAny (model prog w) A (pyIter (.ref a)) Q E s := by
  have hT : s.TypeIs (.ref a) "set" := ⟨o, ho, hex.1⟩
  refine wpAny_pyIter_slot hT PySem.F.slot_set_iter (wpAny_call_entry PySem.F.slot_set_iter hT entry_set_iter ?_ (PySem.F.args_set_iter_1 _))
  show wpAny _ _ (Builtin.Frozenset.sizeOf a >>= _) _ _ s
  unfold Builtin.Frozenset.sizeOf
  refine wpAny_bind (wpAny_bind (wpAny_setEntries_of ho hd R.fits (wpAny_pure ?_)))
  refine wpAny_bind ?_
  unfold setDrawn setsByText
  refine wpAny_bind (wpAny_setState_of ho hd R.fits ?_)
  refine wpAny_bind (wpAny_bind (wpAny_askSetting (wpAny_pure ?_)))
  show wpAny _ _ (pure (drw w es t)) _ _ s
  refine wpAny_pure ?_
  cases hD : drw w es t with
  | false =>
    show wpAny _ _ (pure (rawInt 0) >>= _) _ _ s
    refine wpAny_bind (wpAny_pure ?_)
    refine wpAny_bind (wpAny_setEpoch_of ho hd R.fits ?_)
    refine wpAny_bind (wpAny_newObj_type (wpAny_pure ⟨_, rfl, "set_iterator", _, ⟨_, Heap.get?_push_size _ rfl, rfl⟩, slot_set_iterator_next.lookup, ?_⟩) (by size_fits))
    exact h1 hD
  | true =>
    show wpAny _ _ (drawOrder es.size (List.range es.size) >>= _) _ _ s
    refine wpAny_bind (draw_ok _ _ _ (by simp) fun l d' hp => ?_)
    have hll : l.length = es.size := by rw [hp.length_eq]; simp
    refine wpAny_bind (wpAny_newTuple ?_ (by rw [List.length_map, hll]; exact hz))
    have ho' := Heap.get?_push_of_some (h := s.heap) { cls := .type "tuple", data := .seq (l.map fun (i : Nat) => rawInt i).toArray } ho
    refine wpAny_bind (wpAny_setEpoch_of (s := { s with heap := s.heap.push { cls := .type "tuple", data := .seq (l.map fun (i : Nat) => rawInt i).toArray }, drawn := d' }) ho' hd R.fits ?_)
    refine wpAny_bind (wpAny_newObj_type (wpAny_pure ⟨_, rfl, "set_iterator", _, ⟨_, Heap.get?_push_size _ rfl, rfl⟩, slot_set_iterator_next.lookup, ?_⟩) (by size_fits))
    have := h2 hD l d' hp
    rw [show (s.heap.push { cls := .type "tuple", data := .seq (l.map fun (i : Nat) => rawInt i).toArray }).objs.size = s.heap.objs.size + 1 from Heap.size_push ..]
    exact this
theorem SetIt.typeIs {it : Addr} {first : Value} {i n : Nat} (x : SetIt s.heap it first i a n ep) : s.TypeIs (.ref it) "set_iterator" := let ⟨o, ho, hc, _⟩ := x; ⟨o, ho, hc⟩
theorem SetIt.at {h h' : Heap} {it : Addr} {first : Value} {i n : Nat} (x : SetIt h it first i a n ep) (e : ∀ o, h.get? it = some o → h'.get? it = some o) : SetIt h' it first i a n ep := let ⟨o, ho, r⟩ := x; ⟨o, e _ ho, r⟩
theorem setIt_next {it : Addr} {f : Value} {i n : Nat} {Q : Option Value → Shared → Prop} (hit : SetIt s.heap it f i a n ep) (ho : s.heap.get? a = some o) (hd : o.data = .set es ep t) (hf : t.fits es.size = true) (hn : n = es.size)
    (h : wpAny (model prog w) A.in1 (do
      if let .int slot _ := f then
        match ← setNext a slot.toNat i ep with
        | some (x, next) =>
          setField (.ref it) 0 (rawInt next)
          setField (.ref it) 1 (rawInt ((i : Int) + 1))
          ret x
        | none => setField (.ref it) 2 .none; raiseNew (← newExc (.type "StopIteration") [])
      else
        let some places ← seqItems? f | unsupported "internal:set_iterator"
        match places[i]? with
        | some (.int place _) =>
          let x ← setNextDrawn a place.toNat ep
          setField (.ref it) 1 (rawInt ((i : Int) + 1))
          ret x
        | some _ => unsupported "internal:set_iterator"
        | none => setField (.ref it) 0 (rawInt 0); setField (.ref it) 2 .none; raiseNew (← newExc (.type "StopIteration") []))
      (fun fin s' => ∃ r, fin = .done (.ret r) ∧ Q (some r) s') (fun e s' => wpAny (model prog w) A (do if ← isInstance e (.type "StopIteration") then pure none else throw e) Q E s') s) :
    wpAny (model prog w) A (pyNext (.ref it)) Q E s := by
  obtain ⟨oi, hoi, hci, hdi⟩ := id hit
  unfold pyNext
  refine wpAny_bind (wpAny_attempt (wpAny_callSpecial?_slot (name := Str.ofString "__next__") hit.typeIs slot_set_iterator_next
    (wpAny_call_entry slot_set_iterator_next hit.typeIs entry_set_iterator_next ?_ (args_set_iterator_next _))))
  unfold Builtin.«set_iterator.__next__»
  refine wpAny_bind (wpAny_pure ?_)
  refine wpAny_bind (wpAny_fieldsOf hoi hdi ?_)
  dsimp only
  refine wpAny_bind (wpAny_setEntries_of ho hd hf ?_)
  rw [if_neg (by rw [hn]; simp)]
  exact wpAny_mono h (fun fin s' ⟨r, e, q⟩ => ⟨r, e, wpAny_pure q⟩) fun _ _ z => z
theorem setIt_put {h : Heap} {it : Addr} {x0 x1 x2 x3 x4 : Value} {o : Obj} (ho : h.get? it = some o) (hc : o.cls = .type "set_iterator") (hd : o.data = .fields #[x0, x1, x2, x3, x4]) (k : Nat) (v : Value) :
    ∃ o', (h.update it (Obj.mapFields (·.setIfInBounds k v))).get? it = some o' ∧ o'.cls = .type "set_iterator" ∧ o'.data = .fields (#[x0, x1, x2, x3, x4].setIfInBounds k v) :=
  ⟨_, Heap.get?_update_self _ ho (Obj.isFreed_of_fields (Obj.data_mapFields hd _)), (Obj.cls_mapFields ..).trans hc, by rw [Obj.data_mapFields hd]⟩
theorem stop_ok {h : Heap} {Q : Option Value → Shared → Prop} (hh : A.handled = none) (hQ : ∀ h', (∀ b o, h.get? b = some o → h'.get? b = some o) → Q none { s with heap := h' }) :
    wpAny (model prog w) A.in1 (do raiseNew (← newExc (.type "StopIteration") []) : Sem PySem.Fin) (fun fin s' => ∃ r, fin = .done (.ret r) ∧ Q (some r) s') (fun e s' => wpAny (model prog w) A (do if ← isInstance e (.type "StopIteration") then pure none else throw e) Q E s') { s with heap := h } := by
  refine wpAny_bind ?_
  simp only [newExc, newTuple]
  refine wpAny_bind (wpAny_newObj_type ?_ (by size_fits))
  refine wpAny_bind (m := firstArgMember _ _) (wpAny_of_eq (a := Value.none) (by first | rfl | (simp only [firstArgMember]; rfl)) ?_)
  refine wpAny_newObj_type ?_ (by size_fits)
  simp only [raiseNew]
  refine wpAny_bind (wpAny_handled ?_)
  rw [show A.in1.handled = none from hh]
  refine wpAny_bind (wpAny_pure (wpAny_throw ?_))
  refine wpAny_bind (wpAny_isInstance (T := "StopIteration") (b := true) ⟨_, Heap.get?_push_size _ rfl, rfl⟩ isSubtype_stop ?_)
  exact wpAny_pure (hQ _ fun b o e => Heap.get?_push_of_some _ (Heap.get?_push_of_some _ e))
theorem upd_other {h : Heap} {b it : Addr} {f : Obj → Obj} {o : Obj} (hb : b ≠ it) (e : h.get? b = some o) : (h.update it f).get? b = some o := (Heap.get?_update_other _ _ (Ne.symm hb)).trans e
theorem pyIter_setIt {it : Addr} {first : Value} {i n : Nat} {Q : Value → Shared → Prop} (hit : SetIt s.heap it first i a n ep) (h : Q (.ref it) s) : wpAny (model prog w) A (pyIter (.ref it)) Q E s := by
  refine wpAny_pyIter_slot hit.typeIs slot_set_iterator_iter (wpAny_call_entry slot_set_iterator_iter hit.typeIs entry_set_iterator_iter ?_ (args_set_iterator_iter _))
  show wpAny _ _ (ret (.ref it)) _ _ s
  exact wpAny_pure ⟨_, rfl, "set_iterator", _, hit.typeIs, slot_set_iterator_next.lookup, h⟩
theorem walk_setAB (hh : A.handled = none) (I : Addr) (hne : a ≠ I) (hd : o.data = .set es ep t) (hf : t.fits es.size = true) (vs : List Value) (sl : Nat → Nat) (hn : vs.length = es.size)
    (hnx : ∀ (A' : Around) (E' : Value → Shared → Prop) (s' : Shared) (Q' : Option (Value × Nat) → Shared → Prop) (i : Nat) (v : Value), vs[i]? = some v → s'.heap.get? a = some o → Q' (some (v, sl (i + 1))) s' → wpAny (model prog w) A' (setNext a (sl i) i ep) Q' E' s')
    (hen : ∀ (A' : Around) (E' : Value → Shared → Prop) (s' : Shared) (Q' : Option (Value × Nat) → Shared → Prop), s'.heap.get? a = some o → Q' none s' → wpAny (model prog w) A' (setNext a (sl vs.length) vs.length ep) Q' E' s') :
    Walks prog w A I [I, a] [I] vs.length (fun i v => vs[i]? = some v) (fun i h => SetIt h I (.int (sl i) 0) i a vs.length ep ∧ h.get? a = some o) where
  sub := fun b hb => by simp at hb; simp [hb]
  frame := fun _ _ _ st hk => ⟨st.1.at fun o e => hk I (by simp) o e, hk a (by simp) _ st.2⟩
  item := fun i s Q E hi st hQ => by
    obtain ⟨⟨oi, hoi, hci, hdi⟩, hoa⟩ := st
    refine setIt_next ⟨oi, hoi, hci, hdi⟩ hoa hd hf hn ?_
    refine wpAny_bind (hnx _ _ _ _ i vs[i] (List.getElem?_eq_getElem hi) hoa ?_)
    dsimp only
    refine wpAny_bind (wpAny_setField hoi hdi (by simp) ?_)
    obtain ⟨o1, g1, c1, d1⟩ := setIt_put hoi hci hdi 0 (rawInt (sl (i + 1)))
    refine wpAny_bind (wpAny_setField (s := { s with heap := _ }) g1 d1 (by simp) ?_)
    obtain ⟨o2, g2, c2, d2⟩ := setIt_put (x0 := rawInt (sl (i + 1))) g1 c1 (by rw [d1]; rfl) 1 (rawInt ((i : Int) + 1))
    refine wpAny_pure ⟨_, rfl, hQ _ _ s.toks (List.getElem?_eq_getElem hi) ⟨⟨o2, g2, c2, by rw [d2]; rfl⟩, upd_other hne (upd_other hne hoa)⟩ fun b o' hb e => upd_other (by simpa using hb) (upd_other (by simpa using hb) e)⟩
  done := fun s Q E st hQ => by
    obtain ⟨⟨oi, hoi, hci, hdi⟩, hoa⟩ := st
    refine setIt_next ⟨oi, hoi, hci, hdi⟩ hoa hd hf hn ?_
    refine wpAny_bind (hen _ _ _ _ hoa ?_)
    dsimp only
    refine wpAny_bind (wpAny_setField hoi hdi (by simp) ?_)
    refine stop_ok hh fun h' hk => hQ h' s.toks fun b o' hb e => hk _ _ (upd_other (by simpa using hb) e)
  self := fun i s Q E st hQ => pyIter_setIt st.1 hQ
theorem walk_setC (hh : A.handled = none) (I T : Addr) (hne : a ≠ I) (hnT : T ≠ I) (hd : o.data = .set es ep t) (hf : t.fits es.size = true) (l : List Nat) (hl : ∀ i ∈ l, i < es.size) (hn : l.length = es.size) :
    Walks prog w A I [I, a, T] [I] l.length (fun i v => (l.map fun j => (es.getD j (0, Value.none)).2)[i]? = some v)
      (fun i h => SetIt h I (.ref T) i a l.length ep ∧ h.get? a = some o ∧ h.get? T = some (seqObj "tuple" (l.map fun (i : Nat) => Value.int i 0).toArray 0)) where
  sub := fun b hb => by simp at hb; simp [hb]
  frame := fun _ _ _ st hk => ⟨st.1.at fun o e => hk I (by simp) o e, hk a (by simp) _ st.2.1, hk T (by simp) _ st.2.2⟩
  item := fun i s Q E hi st hQ => by
    obtain ⟨⟨oi, hoi, hci, hdi⟩, hoa, hoT⟩ := st
    refine setIt_next ⟨oi, hoi, hci, hdi⟩ hoa hd hf hn ?_
    dsimp only
    have hp : (l.map fun (i : Nat) => Value.int i 0).toArray[i]? = some (Value.int (l[i] : Nat) 0) := by simp [hi]
    have hls : l[i] < es.size := hl _ (List.getElem_mem hi)
    have hv : (l.map fun j => (es.getD j (0, Value.none)).2)[i]? = some es[l[i]].2 := by simp [hi, Array.getD, hls]
    refine wpAny_bind (m := seqItems? (.ref T)) (wpAny_bind (wpAny_load hoT (wpAny_pure ?_)))
    dsimp only
    rw [hp]
    dsimp only
    unfold setNextDrawn
    refine wpAny_bind (wpAny_bind (wpAny_setState_of hoa hd hf ?_))
    dsimp only
    rw [if_neg (by simp), show ((l[i] : Nat) : Int).toNat = l[i] from rfl, Array.getElem?_eq_getElem hls]
    refine wpAny_pure ?_
    refine wpAny_bind (wpAny_setField hoi hdi (by simp) ?_)
    obtain ⟨o2, g2, c2, d2⟩ := setIt_put hoi hci hdi 1 (rawInt ((i : Int) + 1))
    exact wpAny_pure ⟨_, rfl, hQ _ _ s.toks hv ⟨⟨o2, g2, c2, by rw [d2]; rfl⟩, upd_other hne hoa, upd_other hnT hoT⟩ fun b o' hb e => upd_other (by simpa using hb) e⟩
  done := fun s Q E st hQ => by
    obtain ⟨⟨oi, hoi, hci, hdi⟩, hoa, hoT⟩ := st
    refine setIt_next ⟨oi, hoi, hci, hdi⟩ hoa hd hf hn ?_
    dsimp only
    refine wpAny_bind (m := seqItems? (.ref T)) (wpAny_bind (wpAny_load hoT (wpAny_pure ?_)))
    dsimp only
    rw [show (l.map fun (i : Nat) => Value.int i 0).toArray[l.length]? = none by simp]
    dsimp only
    refine wpAny_bind (wpAny_setField hoi hdi (by simp) ?_)
    obtain ⟨o1, g1, c1, d1⟩ := setIt_put hoi hci hdi 0 (rawInt 0)
    refine wpAny_bind (wpAny_setField (s := { s with heap := _ }) g1 d1 (by simp) ?_)
    refine stop_ok hh fun h' hk => hQ h' s.toks fun b o' hb e => hk _ _ (upd_other (by simpa using hb) (upd_other (by simpa using hb) e))
  self := fun i s Q E st hQ => pyIter_setIt st.1 hQ
theorem next_A (hb : byT w = true) (hd : o.data = .set es ep t) (hf : t.fits es.size = true) (A' : Around) (E' : Value → Shared → Prop) (s' : Shared) (Q' : Option (Value × Nat) → Shared → Prop) (i : Nat) (ho : s'.heap.get? a = some o)
    (h : Q' (((pickOrder (w.params.setOrder a ep) es)[i]?).map fun e => (e.2, 0)) s') : wpAny (model prog w) A' (setNext a 0 i ep) Q' E' s' := by
  unfold setNext setsByText
  refine wpAny_bind (wpAny_setState_of ho hd hf ?_)
  dsimp only
  refine wpAny_bind (wpAny_bind (wpAny_askSetting (wpAny_pure ?_)))
  show wpAny _ _ (if byT w = true then _ else _) _ _ _
  rw [if_pos hb, if_neg (by simp)]
  unfold setWalk setsByText
  refine wpAny_bind (wpAny_bind (wpAny_setState_of ho hd hf ?_))
  dsimp only
  refine wpAny_bind (wpAny_bind (wpAny_askSetting (wpAny_pure ?_)))
  show wpAny _ _ (if byT w = true then _ else _) _ _ _
  rw [if_pos hb]
  refine wpAny_bind (wpAny_askSetting (wpAny_pure (wpAny_pure h)))
theorem next_B (hb : byT w = false) (hD : drw w es t = false) (hd : o.data = .set es ep t) (hf : t.fits es.size = true) (hl : t.led = true) (slot : Nat) (A' : Around) (E' : Value → Shared → Prop) (s' : Shared) (Q' : Option (Value × Nat) → Shared → Prop) (i : Nat) (ho : s'.heap.get? a = some o)
    (h : Q' (match es[SetTable.below t.place slot]?, t.place[SetTable.below t.place slot]? with | some (_, x), some j => some (x, j + 1) | _, _ => none) s') : wpAny (model prog w) A' (setNext a slot i ep) Q' E' s' := by
  unfold setNext setsByText
  refine wpAny_bind (wpAny_setState_of ho hd hf ?_)
  dsimp only
  refine wpAny_bind (wpAny_bind (wpAny_askSetting (wpAny_pure ?_)))
  have hD' : (!t.plain && decide (es.size > 1)) = false := by
    have : drw w es t = (!byT w && (!t.plain && decide (es.size > 1))) := rfl
    rw [this, hb] at hD
    simpa using hD
  show wpAny _ _ (if byT w = true then _ else if (!t.plain && decide (es.size > 1)) = true then _ else _) _ _ _
  rw [hb, hD', if_neg Bool.false_ne_true, if_neg Bool.false_ne_true]
  show wpAny _ _ ((if (!t.led && !es.isEmpty) = true then unsupported "set:maker-not-led" else pure ()) >>= _) _ _ _
  rw [hl, if_neg (by simp)]
  exact wpAny_bind (wpAny_pure (wpAny_pure h))
end
end L2
set_option maxHeartbeats 4000000
namespace L2
open PySem PySem.Spec PyProof.Rows
section
variable {prog : Program} {w : World} {es : Array (Int × Value)} {t : SetTable} {ks : List Int}
theorem ints_el {l : List (Int × Value)} : (∀ e ∈ l, ∃ k, (intKind prog w).is k e.2 = true) → IntsAre (l.map (·.2)) (l.map kOf) := by
  induction l with
  | nil => intro _; exact .nil
  | cons e l ih =>
    intro h
    obtain ⟨k, hk⟩ := h e List.mem_cons_self
    obtain ⟨tk, et⟩ := isInt_shape hk
    have e1 : kOf e = k := by unfold kOf; rw [et]; rfl
    rw [List.map_cons, List.map_cons, et, e1]
    exact .cons k tk (ih fun x hx => h x (List.mem_cons_of_mem _ hx))
theorem SR.ints (R : SR prog w es t ks) {l : List (Int × Value)} (p : l.Perm es.toList) : IntsAre (l.map (·.2)) (l.map kOf) ∧ (l.map kOf).Nodup ∧ (∀ k, k ∈ l.map kOf ↔ k ∈ ks) ∧ l.length ≤ ks.length :=
  ⟨ints_el fun e he => let ⟨⟨k, hk, _⟩, _⟩ := R.el e (p.mem_iff.mp he); ⟨k, hk⟩, (p.map kOf).nodup_iff.mpr R.nd, fun k => ((p.map kOf).mem_iff).trans (R.mem k), by rw [p.length_eq, Array.length_toList]; exact R.len⟩
theorem getD_range {α : Type} (es : Array α) (d : α) : (List.range es.size).map (fun j => es.getD j d) = es.toList := by
  refine List.ext_getElem? fun i => ?_
  rw [List.getElem?_map, show es.toList[i]? = es[i]? from Array.getElem?_toList]
  by_cases hi : i < es.size
  · rw [List.getElem?_range hi, Array.getElem?_eq_getElem hi]
    simp [Array.getD, hi]
  · rw [List.getElem?_eq_none (l := List.range _) (by rw [List.length_range]; omega), Array.getElem?_eq_none (by omega)]
    rfl
end
section
variable {prog : Program} {w : World} {A : Around} {E : Value → Shared → Prop} {s : Shared} {a : Addr} {ks : List Int}
theorem iter_R {Q : Value → Shared → Prop} (hh : A.handled = none) (h : SetR prog w s.heap a ks) (hz : ks.length ≤ sizeLine)
    (hQ : ∀ (I : Addr) (h1 : Heap) d1 (fp : List Addr) (St : Nat → Heap → Prop) (vs : List Value) (ms : List Int), Walks prog w A I fp [I] vs.length (fun i v => vs[i]? = some v) St → St 0 h1 → s.heap.objs.size ≤ I → (∀ b ∈ fp, b = a ∨ s.heap.objs.size ≤ b) →
      (∀ b o, s.heap.get? b = some o → h1.get? b = some o) → IntsAre vs ms → ms.Nodup → (∀ k, k ∈ ms ↔ k ∈ ks) → vs.length ≤ ks.length → Q (.ref I) { s with heap := h1, drawn := d1 }) : wpAny (model prog w) A (pyIter (.ref a)) Q E s := by
  obtain ⟨o, es, ep, t, ho, hex, hd, R⟩ := h
  have hfe : t.place.size = es.size := by
    have := R.fits
    simp only [SetTable.fits, Bool.and_eq_true, beq_iff_eq] at this
    exact this.1
  have hla : a < s.heap.objs.size := Heap.lt_size ho
  refine pyIter_set ho hex hd R (Nat.le_trans R.len hz) (fun hD => ?_) fun hD l d' hp => ?_
  · cases hb : byT w with
    | true =>
      have hp := pick_perm (w.params.setOrder a ep) es
      obtain ⟨i1, i2, i3, i4⟩ := R.ints hp
      have hn : ((pickOrder (w.params.setOrder a ep) es).toList.map (·.2)).length = es.size := by rw [List.length_map, hp.length_eq, Array.length_toList]
      refine hQ s.heap.objs.size _ s.drawn _ _ _ _ (walk_setAB hh s.heap.objs.size (Nat.ne_of_lt hla) hd R.fits ((pickOrder (w.params.setOrder a ep) es).toList.map (·.2)) (fun _ => 0) hn (fun A' E' s' Q' i v hv ho' hq => ?_) (fun A' E' s' Q' ho' hq => ?_)) ⟨⟨_, Heap.get?_push_size _ rfl, rfl, by rw [hn]; rfl⟩, Heap.get?_push_of_some _ ho⟩ (Nat.le_refl _) (fun b hb => ?_) (fun b o e => Heap.get?_push_of_some _ e) i1 i2 i3 (by rw [List.length_map]; exact i4)
      · refine next_A hb hd R.fits A' E' s' Q' i ho' ?_
        rw [List.getElem?_map, Array.getElem?_toList] at hv
        obtain ⟨e, he, rfl⟩ := Option.map_eq_some_iff.mp hv
        rw [he]
        exact hq
      · refine next_A hb hd R.fits A' E' s' Q' _ ho' ?_
        rw [List.length_map, Array.length_toList, Array.getElem?_eq_none (Nat.le_refl _)]
        exact hq
      · rcases List.mem_cons.mp hb with rfl | hb
        · exact .inr (Nat.le_refl _)
        · exact .inl (List.mem_singleton.mp hb)
    | false =>
      have hled : t.led = true := by rw [R.led, show w.params.followText "set-order" = false from hb]; rfl
      obtain ⟨i1, i2, i3, i4⟩ := R.ints (.refl _)
      have hn : (es.toList.map (·.2)).length = es.size := by rw [List.length_map, Array.length_toList]
      have hbel : ∀ i, i ≤ es.size → SetTable.below t.place (match i with | 0 => 0 | j + 1 => t.place.getD j 0 + 1) = i := fun i hi => by
        refine below_at R.ris (by omega) (fun k hk hki => ?_) (fun k hk hki => ?_)
        · cases i with
          | zero => omega
          | succ j =>
            have hj : j < t.place.size := by omega
            have e : t.place.getD j 0 = t.place[j] := by simp [Array.getD, hj]
            dsimp only
            rw [e]
            rcases Nat.lt_or_eq_of_le (Nat.le_of_lt_succ hki) with z | rfl
            · exact Nat.lt_succ_of_lt (R.ris.lt z hj)
            · exact Nat.lt_succ_self _
        · cases i with
          | zero => exact Nat.zero_le _
          | succ j =>
            have hj : j < t.place.size := by omega
            have e : t.place.getD j 0 = t.place[j] := by simp [Array.getD, hj]
            dsimp only
            rw [e]
            exact R.ris.lt hki hk
      refine hQ s.heap.objs.size _ s.drawn _ _ _ _ (walk_setAB hh s.heap.objs.size (Nat.ne_of_lt hla) hd R.fits (es.toList.map (·.2)) (fun i => match i with | 0 => 0 | j + 1 => t.place.getD j 0 + 1) hn (fun A' E' s' Q' i v hv ho' hq => ?_) (fun A' E' s' Q' ho' hq => ?_)) ⟨⟨_, Heap.get?_push_size _ rfl, rfl, by rw [hn]; rfl⟩, Heap.get?_push_of_some _ ho⟩ (Nat.le_refl _) (fun b hb => ?_) (fun b o e => Heap.get?_push_of_some _ e) i1 i2 i3 (by rw [List.length_map]; exact i4)
      · refine next_B hb hD hd R.fits hled _ A' E' s' Q' i ho' ?_
        rw [List.getElem?_map, Array.getElem?_toList] at hv
        obtain ⟨e, he, rfl⟩ := Option.map_eq_some_iff.mp hv
        have hi : i < es.size := (Array.getElem?_eq_some_iff.mp he).1
        rw [hbel i (Nat.le_of_lt hi), he, Array.getElem?_eq_getElem (show i < t.place.size by omega)]
        have e2 : t.place.getD i 0 = t.place[i]'(by omega) := by simp [Array.getD, show i < t.place.size by omega]
        dsimp only at hq ⊢
        rw [e2] at hq
        exact hq
      · refine next_B hb hD hd R.fits hled _ A' E' s' Q' _ ho' ?_
        rw [hn, hbel es.size (Nat.le_refl _), Array.getElem?_eq_none (Nat.le_refl _)]
        exact hq
      · rcases List.mem_cons.mp hb with rfl | hb
        · exact .inr (Nat.le_refl _)
        · exact .inl (List.mem_singleton.mp hb)
  · have hlt : ∀ i ∈ l, i < es.size := fun i hi => by simpa using hp.mem_iff.mp hi
    have hll : l.length = es.size := by rw [hp.length_eq]; simp
    have hp2 : (l.map fun j => es.getD j (0, Value.none)).Perm es.toList := by
      rw [← getD_range es (0, Value.none)]
      exact hp.map _
    obtain ⟨i1, i2, i3, i4⟩ := R.ints hp2
    rw [List.length_map] at i4
    have hsz : (s.heap.push (seqObj "tuple" (l.map fun (i : Nat) => Value.int i 0).toArray 0)).objs.size = s.heap.objs.size + 1 := Heap.size_push ..
    have W := walk_setC (prog := prog) (w := w) (A := A) hh (s.heap.objs.size + 1 : Nat) s.heap.objs.size (a := a) (Nat.ne_of_lt (Nat.lt_succ_of_lt hla)) (Nat.ne_of_lt (Nat.lt_succ_self _)) hd R.fits l hlt hll
    have ev : ((l.map fun j => es.getD j (0, Value.none)).map (·.2)) = l.map fun j => (es.getD j (0, Value.none)).2 := by rw [List.map_map]; rfl
    rw [ev] at i1
    have hl2 : (l.map fun j => (es.getD j (0, Value.none)).2).length = l.length := List.length_map ..
    have W2 : Walks prog w A (s.heap.objs.size + 1 : Nat) [(s.heap.objs.size + 1 : Nat), a, s.heap.objs.size] [(s.heap.objs.size + 1 : Nat)] (l.map fun j => (es.getD j (0, Value.none)).2).length (fun i v => (l.map fun j => (es.getD j (0, Value.none)).2)[i]? = some v)
      (fun i h => SetIt h (s.heap.objs.size + 1 : Nat) (.ref s.heap.objs.size) i a l.length ep ∧ h.get? a = some o ∧ h.get? s.heap.objs.size = some (seqObj "tuple" (l.map fun (i : Nat) => Value.int i 0).toArray 0)) := by rw [hl2]; exact W
    refine hQ _ _ d' _ _ _ _ W2 ⟨⟨_, by rw [← hsz]; exact Heap.get?_push_size _ rfl, rfl, by rw [hll]⟩, Heap.get?_push_of_some _ (Heap.get?_push_of_some _ ho), Heap.get?_push_of_some _ (Heap.get?_push_size _ rfl)⟩ (Nat.le_succ _) (fun b hb => ?_) (fun b o e => Heap.get?_push_of_some _ (Heap.get?_push_of_some _ e)) i1 i2 i3 (by rw [hl2]; exact i4)
    rcases List.mem_cons.mp hb with rfl | hb
    · exact .inr (Nat.le_succ _)
    · rcases List.mem_cons.mp hb with rfl | hb
      · exact .inl rfl
      · exact .inr (by rw [List.mem_singleton.mp hb]; exact Nat.le_refl _)
theorem hint_set {Q : Bool → Shared → Prop} {r : Addr} (hT : s.TypeIs (.ref r) "set") (h : Q false s) : wpAny (model prog w) A (Builtin.List.listLengthHint (.ref r)) Q E s := by
  unfold Builtin.List.listLengthHint
  refine wpAny_bind (wpAny_specialOf hT PySem.F.slot_set_len.lookup ?_)
  generalize hid : ("set.__len__" : String) = id0
  wp_delta
  rw [show splitId id0 = some ("set", "__len__") from by subst hid; decide +kernel]
  subst hid
  refine wpAny_bind (wpAny_isInstance (T := "set") (b := true) hT (by rw [isSubtype_type]; kernel_rfl) ?_)
  refine wpAny_ite_split (fun hab => absurd hab (by decide)) (fun _ => ?_)
  refine wpAny_ite_split (fun _ => ?_) (fun hab => absurd (by decide +kernel) hab)
  refine wpAny_bind (wpAny_typeOf hT ?_)
  exact wpAny_pure h
theorem extend_set {R : Result → Shared → Prop} (hh : A.handled = none) (hS0 : SetR prog w s.heap a ks) (hz : ks.length ≤ sizeLine) (S : Addr) (hSa : S ≠ a) (res : Value) (c₀ : Nat) (hS : s.heap.get? S = some { cls := .type "list", data := .seq #[] c₀ })
    (hR : ∀ h' tk d' acc' c' ms, (∀ b o, b ≠ S → s.heap.get? b = some o → h'.get? b = some o) → h'.get? S = some { cls := .type "list", dict := none, data := .seq acc' c', slots := #[] } → IntsAre acc'.toList ms → ms.Nodup → (∀ k, k ∈ ms ↔ k ∈ ks) → ms.length ≤ ks.length →
      R (.ok (.ret res)) { s with heap := h', toks := tk, drawn := d' }) :
    wpAny (model prog w) A.in1 (Builtin.List.listExtendWith (.ref S) (.ref a) res)
      (fun fin s' => match fin with | .done f => R (.ok f) s' | .again c' => c'.quiet = true ∧ codeAny (model prog w) A c' R s') (fun e s' => R (.error e) s') s := by
  have hT : s.TypeIs (.ref a) "set" := by obtain ⟨o, _, _, _, ho, hex, _⟩ := hS0; exact ⟨o, ho, hex.1⟩
  unfold Builtin.List.listExtendWith
  refine wpAny_bind (wpAny_typeOf (T := "set") hT ?_)
  have h1 : Builtin.List.listSameRef (.ref S) (.ref a) = false := by simp [Builtin.List.listSameRef, hSa]
  have h2 : (Value.type "set" == Value.type "list") = false := by decide
  have h3 : (Value.type "set" == Value.type "tuple") = false := by decide
  simp only [h1, h2, h3, Bool.or_false, Bool.false_eq_true, if_false]
  refine wpAny_bind (iter_R (A := A.in1) hh hS0 hz fun I hp1 d1 fp St vs ms W st hI hfp hk hi hnd hmem hle => ?_)
  have hSf : S ∉ fp := fun z => by
    rcases hfp S z with e | e
    · exact hSa e
    · exact absurd (Heap.lt_size hS) (Nat.not_lt.mpr e)
  have hT1 : Shared.TypeIs { s with heap := hp1, drawn := d1 } (.ref a) "set" := by obtain ⟨o, ho, hc⟩ := hT; exact ⟨o, hk _ _ ho, hc⟩
  have hS1 := hk _ _ hS
  refine wpAny_bind (wpAny_holding (hint_set hT1 ?_))
  have key : ∀ (h : Heap) (c₁ tk : Nat), St 0 h → (∀ b o, b ≠ S → s.heap.get? b = some o → h.get? b = some o) →
      h.get? S = some { cls := .type "list", data := .seq #[] c₁ } → codeAny (model prog w) A (.builtin "list.extend.loop" ⟨[.ref S, .ref I, res], []⟩) R { s with heap := h, toks := tk, drawn := d1 } := by
    intro h c₁ tk hst hk' hS₁
    refine codeAny_extend_loopS W.toS (by omega) S hSf res vs.length 0 _ #[] c₁ rfl (Nat.zero_le _) hst hS₁ (ItemsOf.nil _) fun s' acc' c' hm hS' hacc => ?_
    rw [Moved.eq_with hm]
    have ea : acc'.toList = vs := by
      refine List.ext_getElem? fun j => ?_
      rw [Array.getElem?_toList]
      by_cases hj : j < acc'.size
      · rw [Array.getElem?_eq_getElem hj, hacc.2 j _ (Array.getElem?_eq_getElem hj)]
      · have := hacc.1
        rw [Array.getElem?_eq_none (by omega), List.getElem?_eq_none (by omega)]
    refine hR s'.heap s'.toks d1 acc' c' ms (fun b o hb e => hm.heap b o (fun hmem => ?_) (hk' b o hb e)) hS' (by rw [ea]; exact hi) hnd hmem (by rw [← hi.length]; exact hle)
    rcases List.mem_cons.mp hmem with e' | hmem
    · exact hb e'
    · rw [List.mem_singleton.mp hmem] at e
      exact absurd (Heap.lt_size e) (Nat.not_lt.mpr hI)
  refine wpAny_ite_split (fun _ => ?_) (fun _ => wpAny_pure ⟨plainId_quiet PySem.F.plain_extend_loop _, key _ c₀ _ st (fun b o _ e => hk b o e) hS1⟩)
  refine wpAny_bind (wpAny_rule ?_)
  refine wpAny_bind ?_
  show wpAny _ _ (updateSeq S (·.push .none) >>= fun _ => updateSeq S (·.pop)) _ _ _
  refine wpAny_bind (wpAny_updateSeq hS1 rfl ?_)
  have hS₂ := Heap.get?_update_self (Obj.mapSeq (·.push Value.none)) hS1 rfl
  refine wpAny_updateSeq (hz := by seq_fits) hS₂ rfl ?_
  have hS₃ := Heap.get?_update_self (Obj.mapSeq (·.pop)) hS₂ rfl
  refine wpAny_pure ⟨plainId_quiet PySem.F.plain_extend_loop _, key _ _ _ ?_ (fun b o hb e => ?_) hS₃⟩
  · refine W.frame 0 _ _ st fun b hb o e => ?_
    have hbS : b ≠ S := fun h => hSf (h ▸ hb)
    exact upd_other hbS (upd_other hbS e)
  · exact upd_other hb (upd_other hb (hk _ _ e))
theorem proto_set {R : Result → Shared → Prop} (hh : A.handled = none) (hS0 : SetR prog w s.heap a ks) (hz : ks.length ≤ sizeLine)
    (hR : ∀ h' tk d' acc' c' ms, (∀ b o, s.heap.get? b = some o → h'.get? b = some o) → h'.get? s.heap.objs.size = some { cls := .type "list", dict := none, data := .seq acc' c', slots := #[] } → IntsAre acc'.toList ms → ms.Nodup → (∀ k, k ∈ ms ↔ k ∈ ks) → ms.length ≤ ks.length →
      R (.ok (.ret (.ref s.heap.objs.size))) { s with heap := h', toks := tk, drawn := d' }) :
    codeAny (model prog w) A (.builtin "proto.collect" ⟨[.ref a], []⟩) R s := by
  have hla : a < s.heap.objs.size := by obtain ⟨o, _, _, _, ho, _⟩ := hS0; exact Heap.lt_size ho
  refine codeAny_builtin PySem.F.entry_proto_collect ?_
  rw [Around.under_plainId PySem.F.plain_proto_collect _]
  show wpAny _ A.in1 (newList [] >>= fun l => again (.builtin "list.__iadd__" ⟨[l, .ref a], []⟩)) _ _ s
  refine wpAny_bind (wpAny_newObj_type ?_)
  refine wpAny_pure ⟨plainId_quiet PySem.F.plain_list_iadd _, codeAny_builtin PySem.F.entry_list_iadd ?_⟩
  rw [Around.under_plainId PySem.F.plain_list_iadd _]
  have hS : (s.heap.push { cls := .type "list", data := .seq ([] : List Value).toArray }).get? s.heap.objs.size = some { cls := .type "list", data := .seq #[] 0 } := Heap.get?_push_size _ rfl
  show wpAny _ A.in1 (Builtin.List.listExtendWith (.ref s.heap.objs.size) (.ref a) (.ref s.heap.objs.size)) _ _ _
  exact extend_set (s := { s with heap := s.heap.push { cls := .type "list", data := .seq ([] : List Value).toArray } }) (A := A) hh (by obtain ⟨o, es, ep, t, ho, r⟩ := hS0; exact ⟨o, es, ep, t, Heap.get?_push_of_some _ ho, r⟩) hz s.heap.objs.size (Nat.ne_of_gt hla) (.ref s.heap.objs.size) 0 hS
    (fun h' tk d' acc' c' ms hk hS' hi hnd hmem hle => hR h' tk d' acc' c' ms (fun b o e => hk b o (Nat.ne_of_lt (Heap.lt_size e)) (Heap.get?_push_of_some _ e)) hS' hi hnd hmem hle)
theorem collect_set {Q : List Value → Shared → Prop} (hh : A.handled = none) (hS0 : SetR prog w s.heap a ks) (hz : ks.length ≤ sizeLine)
    (hQ : ∀ h' tk d' vs ms, (∀ b o, s.heap.get? b = some o → h'.get? b = some o) → s.heap.objs.size < h'.objs.size → IntsAre vs ms → ms.Nodup → (∀ k, k ∈ ms ↔ k ∈ ks) → ms.length ≤ ks.length → Q vs { s with heap := h', toks := tk, drawn := d' }) : wpAny (model prog w) A (collect (.ref a)) Q E s := by
  unfold collect
  refine wpAny_bind (wpAny_runValue (proto_set hh hS0 hz fun h' tk d' acc' c' ms hk hS' hi hnd hmem hle => ?_))
  show wpAny _ A (load s.heap.objs.size >>= _) _ _ _
  refine wpAny_bind (wpAny_load hS' ?_)
  exact wpAny_pure (hQ h' tk d' acc'.toList ms hk (Heap.lt_size hS') hi hnd hmem hle)
theorem sorted_set {Q : Value → Shared → Prop} (hh : A.handled = none) (hS0 : SetR prog w s.heap a ks) (hz : ks.length < 64)
    (hQ : ∀ h' tk d' p vs' ms e, (∀ b o, s.heap.get? b = some o → h'.get? b = some o) → s.heap.objs.size ≤ p → h'.get? p = some (seqObj "list" vs' e) → IntsAre vs'.toList ms → ms.Nodup → (∀ k, k ∈ ms ↔ k ∈ ks) → ms.length ≤ ks.length → ms.Pairwise (· ≤ ·) → Q (.ref p) { s with heap := h', toks := tk, drawn := d' }) :
    wpAny (model prog w) A (call (.builtin "sorted") [.ref a]) Q E s := by
  refine Calls.call_function_entry kind_sorted plain_sorted entry_sorted (args_sorted1 _) ?_
  unfold Builtin.«sorted»
  refine wpAny_bind (m := checkCount "sorted" 1 1 _) (wpAny_pure ?_)
  refine wpAny_bind (collect_set hh hS0 (by rw [sizeLine_eq]; omega) fun h1 tk d1 vs ms hk hsz hi hnd hmem hle => ?_)
  have hvl : vs.length = ms.length := hi.length
  refine wpAny_bind (wpAny_newList ?_ (hsz := by rw [sizeLine_eq]; omega))
  have hoL : (h1.push (seqObj "list" vs.toArray 0)).get? h1.objs.size = some (seqObj "list" vs.toArray 0) := Heap.get?_push_size _ rfl
  show wpAny _ _ _ _ _ { s with heap := h1.push (seqObj "list" vs.toArray 0), toks := tk, drawn := d1 }
  refine wpAny_bind (wpAny_holding (wpAny_call_entry slot_list_sort ⟨_, hoL, rfl⟩ entry_list_sort (list_sort_tree hoL hi (by omega) fun out ns' a1 a2 a3 => ⟨_, rfl, ?_⟩) (args_list_sort _)))
  obtain ⟨e, he⟩ := sortedHeap_at (out := out) hoL
  exact wpAny_pure ⟨_, rfl, hQ _ tk d1 h1.objs.size out ns' e (fun b o eb => by
    rw [sortedHeap_old (Nat.ne_of_lt (Heap.lt_size (hk b o eb))) (by rw [size_push']; exact Nat.lt_succ_of_lt (Heap.lt_size (hk b o eb)))]
    exact Heap.get?_push_of_some _ (hk b o eb)) (Nat.le_of_lt hsz) he a1 (a2.nodup_iff.mpr hnd) (fun k => a2.mem_iff.trans (hmem k)) (by rw [a2.length_eq]; exact hle) a3⟩
end
end L2
set_option maxHeartbeats 4000000
namespace L2
open PySem PySem.Spec PyProof.Rows
theorem boot_sorted2 : bootBuiltins "sorted" = some (.builtin "sorted") := by decide +kernel
theorem strict_of {ms : List Int} (h : ms.Pairwise (· ≤ ·)) (n : ms.Nodup) : ms.Pairwise (· < ·) := by
  have := List.Pairwise.and h n
  exact this.imp fun ⟨a, b⟩ => by omega
section
variable {X : Cx} {K : PySem.W.Frag} {e : Expr} {te : TE} {p1 p2 q1 q2 : Pos} {pins : List (Addr × Obj)} {σ : St} {H : Hp} {s : Shared}
theorem Inv.drw (I : Inv X pins σ H s) (d) : Inv X pins σ H { s with drawn := d } := ⟨I.ok, I.os, I.bare, I.base, I.loc, I.cell, I.free, I.freeC, I.pin, I.hok, I.len⟩
noncomputable def tSortSet (K : PySem.W.Frag) (te : TE) : TE := fun σ H Q => te σ H fun x H1 => ∃ l, ∃ zs : List Int, x = .ref l ∧ SqL K H1 l (zs.map V.int) ∧ zs.length < 64 ∧
  ∀ D, ∀ ms : List Int, H1 D = none → ms.Pairwise (· < ·) → (∀ k, k ∈ ms ↔ k ∈ zs) → ms.length ≤ zs.length → Q (.ref D) (upd H1 D (.lst (ms.map V.int)))
theorem pe_sortSet (ek : X.K = K) (hc : X.calm = true) (hm1 : X.mg "sorted" = none) (hm2 : X.mg "set" = none) (hg1 : Gl X "sorted") (hg2 : Gl X "set") (hs : notStar e = true) (he : PE X e te) : PE X (.Call (.Name "sorted" p1) [.Call (.Name "set" p2) [e] [] q2] [] q1) (tSortSet K te) := by
  subst ek
  intro pins s σ H Q I h
  refine wpAny_Call_Name_kw (ld_blt I hg1 hm1 boot_sorted2 ?_ (by decide) (by decide))
  refine PyProof.Rows.callWith_builtin1 ?_ (star_cons rfl) (back_none rfl)
  rw [star_cons (e := .Call (.Name "set" p2) [e] [] q2) (es := []) rfl]
  refine Calls.spliced_cons (wpAny_Call_Name_kw (ld_blt I hg2 hm2 bt_set ?_ (by decide) (by decide)))
  refine PyProof.Rows.callWith_type1 ?_ (star_cons hs) (back_none rfl)
  rw [star_cons (e := e) (es := []) hs]
  refine Calls.spliced_cons (thn (he pins s σ H _ I h) fun u s1 ⟨x, H1, I1, r1, q1⟩ => Calls.spliced_nil ?_)
  obtain ⟨l, zs, rfl, hq, hz64, q⟩ := q1
  cases r1
  obtain ⟨its, r, pl, hz⟩ := I1.list hq
  have hi : IntsAre its zs := by
    refine ints_of_ix (by rw [← r.length, List.length_map]) fun i v k hv hk => ?_
    obtain ⟨u, hu, ru⟩ := r.get (i := i) (x := V.int k) (by rw [List.getElem?_map, hk]; rfl)
    rw [hv] at hu
    cases hu
    exact ru
  refine set_ofR (I1.ok.hd hc) pl.isList hi (by unfold scanBound; omega) fun h' tk hS hk => Calls.spliced_nil ?_
  refine sorted_set (s := { s1 with heap := h', toks := tk }) (I1.ok.hd hc) hS hz64 fun h2 tk2 d2 p vs' ms e hk2 hpz hpe hi' hnd hmem hle hso => ?_
  have hsz : s1.heap.objs.size ≤ h'.objs.size := by
    obtain ⟨o, _, _, _, ho, _⟩ := hS
    exact Nat.le_of_lt (Heap.lt_size ho)
  have hp1 : s1.heap.objs.size ≤ p := Nat.le_trans hsz hpz
  refine ⟨.ref p, upd H1 p (.lst (ms.map V.int)), (I1.drw d2).laid (t' := tk2) (fun b o eb => hk2 b o (hk b o eb)) hp1 (show ObjOk X.prog X.w _ h2 _ (.lst (ms.map V.int)) from ⟨by rw [List.length_map, sizeLine_eq]; omega, vs'.toList, e, vals_of_ints hi', hpe⟩), rfl, q p ms (I1.hok.fresh hp1) (strict_of hso hnd) hmem hle⟩
end
end L2
namespace NS
open PySem L2
seal L2.PE L2.PT L2.PA L2.PS L2.PSs L2.PG L2.PI L2.PTs L2.PW L2.PO L2.PGs L2.PPs L2.OpR L2.CallR L2.IxR L2.SlR L2.UnR L2.PSet
noncomputable def top (i : Nat) : Stmt := PySem.Challenge.pw_crosshall_k43_refusals_apart.main.body.getD i (.Pass ⟨0, 0, 0, 0⟩)
noncomputable abbrev s_asked_arc : Stmt := top 18
noncomputable abbrev s_asked_net : Stmt := top 19
noncomputable abbrev s_gains : Stmt := top 20
noncomputable abbrev s_holds_flow : Stmt := top 21
noncomputable abbrev s_flow_of : Stmt := top 25
noncomputable abbrev s_asked_flow : Stmt := top 26
noncomputable abbrev s_greatest_on : Stmt := top 29
noncomputable abbrev s_least_on : Stmt := top 30
noncomputable abbrev s_asked_cell : Stmt := top 32
noncomputable abbrev s_number_at : Stmt := top 33
noncomputable abbrev s_sum_of_all : Stmt := top 34
noncomputable abbrev s_column_node : Stmt := top 35
noncomputable abbrev s_others_of : Stmt := top 36
noncomputable abbrev s_stream_of : Stmt := top 37
noncomputable abbrev s_could_be : Stmt := top 42
noncomputable abbrev s_is_outright : Stmt := top 43
noncomputable abbrev s_boxes_of : Stmt := top 45
noncomputable abbrev s_is_small : Stmt := top 46
noncomputable abbrev s_first_outright : Stmt := top 47
noncomputable abbrev s_veil : Stmt := top 48
noncomputable abbrev s_dealt : Stmt := top 51
noncomputable abbrev s_asked_group : Stmt := top 54
noncomputable abbrev s_asked_pair : Stmt := top 55
noncomputable abbrev s_asked_groups : Stmt := top 56
noncomputable abbrev s_parts : Stmt := top 66
noncomputable abbrev s_l_draw : Stmt := top 68
noncomputable abbrev s_l_kinds : Stmt := top 69
noncomputable abbrev s_l_deed : Stmt := top 70
noncomputable abbrev s_l_told : Stmt := top 71
noncomputable abbrev s_law : Stmt := top 72
noncomputable abbrev s_NoRow___init__ : Stmt := inCls (top 10) 0
noncomputable abbrev s_NoSuch___init__ : Stmt := inCls (top 11) 0
noncomputable abbrev s_NoField___init__ : Stmt := inCls (top 12) 0
noncomputable abbrev s_NoKind___init__ : Stmt := inCls (top 13) 0
noncomputable abbrev s_NoVeil___init__ : Stmt := inCls (top 14) 0
noncomputable abbrev s_Stream___init__ : Stmt := inCls (top 23) 0
noncomputable abbrev s_Stream_room : Stmt := inCls (top 23) 1
noncomputable abbrev s_Stream_reach : Stmt := inCls (top 23) 2
theorem sc_asked_arc : FnScope ["many", "arc"] ["many", "arc"] (defScope s_asked_arc) := ⟨rfl, rfl, rfl, by decide +kernel, rfl, by decide +kernel, by decide +kernel⟩
theorem sc_asked_net : FnScope ["many", "arcs"] ["many", "arcs"] (defScope s_asked_net) := ⟨rfl, rfl, rfl, by decide +kernel, rfl, by decide +kernel, by decide +kernel⟩
theorem sc_gains : FnScope ["many", "arcs", "flow", "told", "arc", "number"] ["many", "arcs", "flow"] (defScope s_gains) := ⟨rfl, rfl, rfl, by decide +kernel, rfl, by decide +kernel, by decide +kernel⟩
theorem sc_holds_flow : FnScope ["many", "arcs", "flow"] ["many", "arcs", "flow"] (defScope s_holds_flow) := ⟨rfl, rfl, rfl, by decide +kernel, rfl, by decide +kernel, by decide +kernel⟩
theorem sc_flow_of : FnScope ["many", "arcs"] ["many", "arcs"] (defScope s_flow_of) := ⟨rfl, rfl, rfl, by decide +kernel, rfl, by decide +kernel, by decide +kernel⟩
theorem sc_asked_flow : FnScope ["many", "arcs", "flow"] ["many", "arcs", "flow"] (defScope s_asked_flow) := ⟨rfl, rfl, rfl, by decide +kernel, rfl, by decide +kernel, by decide +kernel⟩
theorem sc_greatest_on : FnScope ["many", "arcs", "flow", "at", "arc", "stream", "number", "nodes"] ["many", "arcs", "flow", "at"] (defScope s_greatest_on) := ⟨rfl, rfl, rfl, by decide +kernel, rfl, by decide +kernel, by decide +kernel⟩
theorem sc_least_on : FnScope ["many", "arcs", "flow", "at", "arc", "stream", "number", "nodes"] ["many", "arcs", "flow", "at"] (defScope s_least_on) := ⟨rfl, rfl, rfl, by decide +kernel, rfl, by decide +kernel, by decide +kernel⟩
theorem sc_asked_cell : FnScope ["grid", "hidden", "cell"] ["grid", "hidden", "cell"] (defScope s_asked_cell) := ⟨rfl, rfl, rfl, by decide +kernel, rfl, by decide +kernel, by decide +kernel⟩
theorem sc_number_at : FnScope ["grid", "cell"] ["grid", "cell"] (defScope s_number_at) := ⟨rfl, rfl, rfl, by decide +kernel, rfl, by decide +kernel, by decide +kernel⟩
theorem sc_sum_of_all : FnScope ["grid"] ["grid"] (defScope s_sum_of_all) := ⟨rfl, rfl, rfl, by decide +kernel, rfl, by decide +kernel, by decide +kernel⟩
theorem sc_column_node : FnScope ["grid", "column"] ["grid", "column"] (defScope s_column_node) := ⟨rfl, rfl, rfl, by decide +kernel, rfl, by decide +kernel, by decide +kernel⟩
theorem sc_others_of : FnScope ["hidden", "cell"] ["hidden", "cell"] (defScope s_others_of) := ⟨rfl, rfl, rfl, by decide +kernel, rfl, by decide +kernel, by decide +kernel⟩
theorem sc_stream_of : FnScope ["grid", "boxes", "most", "arcs"] ["grid", "boxes"] (defScope s_stream_of) := ⟨rfl, rfl, rfl, by decide +kernel, rfl, by decide +kernel, by decide +kernel⟩
theorem sc_could_be : FnScope ["grid", "hidden", "cell"] ["grid", "hidden", "cell"] (defScope s_could_be) := ⟨rfl, rfl, rfl, by decide +kernel, rfl, by decide +kernel, by decide +kernel⟩
theorem sc_is_outright : FnScope ["grid", "hidden", "cell", "stream", "column"] ["grid", "hidden", "cell"] (defScope s_is_outright) := ⟨rfl, rfl, rfl, by decide +kernel, rfl, by decide +kernel, by decide +kernel⟩
theorem sc_boxes_of : FnScope ["grid", "told", "row", "numbers"] ["grid"] (defScope s_boxes_of) := ⟨rfl, rfl, rfl, by decide +kernel, rfl, by decide +kernel, by decide +kernel⟩
theorem sc_is_small : FnScope ["grid", "box", "few"] ["grid", "box", "few"] (defScope s_is_small) := ⟨rfl, rfl, rfl, by decide +kernel, rfl, by decide +kernel, by decide +kernel⟩
theorem sc_first_outright : FnScope ["grid", "hidden", "small", "box"] ["grid", "hidden", "small"] (defScope s_first_outright) := ⟨rfl, rfl, rfl, by decide +kernel, rfl, by decide +kernel, by decide +kernel⟩
theorem sc_veil : FnScope ["grid", "few", "boxes", "small", "told", "hidden", "box", "fewer"] ["grid", "few"] (defScope s_veil) := ⟨rfl, rfl, rfl, by decide +kernel, rfl, by decide +kernel, by decide +kernel⟩
theorem sc_dealt : FnScope ["weights", "many", "whole", "told", "order", "left", "at"] ["weights", "many"] (defScope s_dealt) := ⟨rfl, rfl, rfl, by decide +kernel, rfl, by decide +kernel, by decide +kernel⟩
theorem sc_asked_group : FnScope ["group", "many"] ["group", "many"] (defScope s_asked_group) := ⟨rfl, rfl, rfl, by decide +kernel, rfl, by decide +kernel, by decide +kernel⟩
theorem sc_asked_pair : FnScope ["one", "other", "shared"] ["one", "other"] (defScope s_asked_pair) := ⟨rfl, rfl, rfl, by decide +kernel, rfl, by decide +kernel, by decide +kernel⟩
theorem sc_asked_groups : FnScope ["groups", "many", "at", "group", "other"] ["groups", "many"] (defScope s_asked_groups) := ⟨rfl, rfl, rfl, by decide +kernel, rfl, by decide +kernel, by decide +kernel⟩
theorem sc_parts : FnScope ["grid", "many", "row_groups", "column_groups", "whole", "width", "links", "flow"] ["grid", "many", "row_groups", "column_groups"] (defScope s_parts) := ⟨rfl, rfl, rfl, by decide +kernel, rfl, by decide +kernel, by decide +kernel⟩
theorem sc_l_draw : FnScope ["_law_script", "_law_k", "_law_many", "_law_number"] ["_law_script", "_law_k", "_law_many"] (defScope s_l_draw) := ⟨rfl, rfl, rfl, by decide +kernel, rfl, by decide +kernel, by decide +kernel⟩
theorem sc_l_kinds : FnScope ["_law_e", "_law_some"] ["_law_e"] (defScope s_l_kinds) := ⟨rfl, rfl, rfl, by decide +kernel, rfl, by decide +kernel, by decide +kernel⟩
theorem sc_l_deed : FnScope ["_law_sort", "_law_number", "_law_size", "_law_arcs"] ["_law_sort", "_law_number", "_law_size"] (defScope s_l_deed) := ⟨rfl, rfl, rfl, by decide +kernel, rfl, by decide +kernel, by decide +kernel⟩
theorem sc_l_told : FnScope ["_law_sort", "_law_number", "_law_size", "_law_kinds_here", "_law_e"] ["_law_sort", "_law_number", "_law_size"] (defScope s_l_told) := ⟨rfl, rfl, rfl, by decide +kernel, rfl, by decide +kernel, by decide +kernel⟩
theorem sc_law : FnScope ["_law_script", "_law_first", "_law_k", "_law_sort", "_law_due"] ["_law_script"] (defScope s_law) := ⟨rfl, rfl, rfl, by decide +kernel, rfl, by decide +kernel, by decide +kernel⟩
theorem sc_NoRow___init__ : FnScope ["self", "place"] ["self", "place"] (defScope s_NoRow___init__) := ⟨rfl, rfl, rfl, by decide +kernel, rfl, by decide +kernel, by decide +kernel⟩
theorem sc_NoSuch___init__ : FnScope ["self", "number"] ["self", "number"] (defScope s_NoSuch___init__) := ⟨rfl, rfl, rfl, by decide +kernel, rfl, by decide +kernel, by decide +kernel⟩
theorem sc_NoField___init__ : FnScope ["self", "name"] ["self", "name"] (defScope s_NoField___init__) := ⟨rfl, rfl, rfl, by decide +kernel, rfl, by decide +kernel, by decide +kernel⟩
theorem sc_NoKind___init__ : FnScope ["self", "name"] ["self", "name"] (defScope s_NoKind___init__) := ⟨rfl, rfl, rfl, by decide +kernel, rfl, by decide +kernel, by decide +kernel⟩
theorem sc_NoVeil___init__ : FnScope ["self", "cell"] ["self", "cell"] (defScope s_NoVeil___init__) := ⟨rfl, rfl, rfl, by decide +kernel, rfl, by decide +kernel, by decide +kernel⟩
theorem sc_Stream___init__ : FnScope ["self", "many", "arcs", "flow", "place", "arc"] ["self", "many", "arcs", "flow"] (defScope s_Stream___init__) := ⟨rfl, rfl, rfl, by decide +kernel, rfl, by decide +kernel, by decide +kernel⟩
theorem sc_Stream_room : FnScope ["self", "place", "sign"] ["self", "place", "sign"] (defScope s_Stream_room) := ⟨rfl, rfl, rfl, by decide +kernel, rfl, by decide +kernel, by decide +kernel⟩
theorem sc_Stream_reach : FnScope ["self", "start", "came", "rim", "further", "node", "place", "to", "sign"] ["self", "start"] (defScope s_Stream_reach) := ⟨rfl, rfl, rfl, by decide +kernel, rfl, by decide +kernel, by decide +kernel⟩
structure Txt (K : PySem.W.Frag) (mg : Str → Option Value) (f : Nat → Addr) (fd : Nat → FuncData) : Prop where
  d_asked_arc : DefOk K mg "asked_arc" s_asked_arc ["many", "arc"] (f 18) (fd 18)
  d_asked_net : DefOk K mg "asked_net" s_asked_net ["many", "arcs"] (f 19) (fd 19)
  d_gains : DefOk K mg "gains" s_gains ["many", "arcs", "flow"] (f 20) (fd 20)
  d_holds_flow : DefOk K mg "holds_flow" s_holds_flow ["many", "arcs", "flow"] (f 21) (fd 21)
  d_flow_of : DefOk K mg "flow_of" s_flow_of ["many", "arcs"] (f 25) (fd 25)
  d_asked_flow : DefOk K mg "asked_flow" s_asked_flow ["many", "arcs", "flow"] (f 26) (fd 26)
  d_greatest_on : DefOk K mg "greatest_on" s_greatest_on ["many", "arcs", "flow", "at"] (f 29) (fd 29)
  d_least_on : DefOk K mg "least_on" s_least_on ["many", "arcs", "flow", "at"] (f 30) (fd 30)
  d_asked_cell : DefOk K mg "asked_cell" s_asked_cell ["grid", "hidden", "cell"] (f 32) (fd 32)
  d_number_at : DefOk K mg "number_at" s_number_at ["grid", "cell"] (f 33) (fd 33)
  d_sum_of_all : DefOk K mg "sum_of_all" s_sum_of_all ["grid"] (f 34) (fd 34)
  d_column_node : DefOk K mg "column_node" s_column_node ["grid", "column"] (f 35) (fd 35)
  d_others_of : DefOk K mg "others_of" s_others_of ["hidden", "cell"] (f 36) (fd 36)
  d_stream_of : DefOk K mg "stream_of" s_stream_of ["grid", "boxes"] (f 37) (fd 37)
  d_could_be : DefOk K mg "could_be" s_could_be ["grid", "hidden", "cell"] (f 42) (fd 42)
  d_is_outright : DefOk K mg "is_outright" s_is_outright ["grid", "hidden", "cell"] (f 43) (fd 43)
  d_boxes_of : DefOk K mg "boxes_of" s_boxes_of ["grid"] (f 45) (fd 45)
  d_is_small : DefOk K mg "is_small" s_is_small ["grid", "box", "few"] (f 46) (fd 46)
  d_first_outright : DefOk K mg "first_outright" s_first_outright ["grid", "hidden", "small"] (f 47) (fd 47)
  d_veil : DefOk K mg "veil" s_veil ["grid", "few"] (f 48) (fd 48)
  d_dealt : DefOk K mg "dealt" s_dealt ["weights", "many"] (f 51) (fd 51)
  d_asked_group : DefOk K mg "asked_group" s_asked_group ["group", "many"] (f 54) (fd 54)
  d_asked_pair : DefOk K mg "asked_pair" s_asked_pair ["one", "other"] (f 55) (fd 55)
  d_asked_groups : DefOk K mg "asked_groups" s_asked_groups ["groups", "many"] (f 56) (fd 56)
  d_parts : DefOk K mg "parts" s_parts ["grid", "many", "row_groups", "column_groups"] (f 66) (fd 66)
  d_l_draw : DefOk K mg "_law_draw" s_l_draw ["_law_script", "_law_k", "_law_many"] (f 68) (fd 68)
  d_l_kinds : DefOk K mg "_law_kinds" s_l_kinds ["_law_e"] (f 69) (fd 69)
  d_l_deed : DefOk K mg "_law_deed" s_l_deed ["_law_sort", "_law_number", "_law_size"] (f 70) (fd 70)
  d_l_told : DefOk K mg "_law_told" s_l_told ["_law_sort", "_law_number", "_law_size"] (f 71) (fd 71)
  d_law : DefOk K mg "law" s_law ["_law_script"] (f 72) (fd 72)
  d_NoRow___init__ : MthOk K "__init__" "NoRow.__init__" s_NoRow___init__ ["self", "place"] (f 11000) (fd 11000)
  d_NoSuch___init__ : MthOk K "__init__" "NoSuch.__init__" s_NoSuch___init__ ["self", "number"] (f 12000) (fd 12000)
  d_NoField___init__ : MthOk K "__init__" "NoField.__init__" s_NoField___init__ ["self", "name"] (f 13000) (fd 13000)
  d_NoKind___init__ : MthOk K "__init__" "NoKind.__init__" s_NoKind___init__ ["self", "name"] (f 14000) (fd 14000)
  d_NoVeil___init__ : MthOk K "__init__" "NoVeil.__init__" s_NoVeil___init__ ["self", "cell"] (f 15000) (fd 15000)
  d_Stream___init__ : MthOk K "__init__" "Stream.__init__" s_Stream___init__ ["self", "many", "arcs", "flow"] (f 24000) (fd 24000)
  d_Stream_room : MthOk K "room" "Stream.room" s_Stream_room ["self", "place", "sign"] (f 24001) (fd 24001)
  d_Stream_reach : MthOk K "reach" "Stream.reach" s_Stream_reach ["self", "start"] (f 24002) (fd 24002)
  x_NoFields : ExcM mg "NoFields" (f 2)
  x_NoSieve : ExcM mg "NoSieve" (f 3)
  x_NoView : ExcM mg "NoView" (f 4)
  x_NoHead : ExcM mg "NoHead" (f 5)
  x_NoLine : ExcM mg "NoLine" (f 9)
  x_NoRow : ExcM mg "NoRow" (f 10)
  x_NoSuch : ExcM mg "NoSuch" (f 11)
  x_NoField : ExcM mg "NoField" (f 12)
  x_NoKind : ExcM mg "NoKind" (f 13)
  x_CrossError : ExcOk K mg "CrossError" (f 1) none
  x_NoNet : ExcOk K mg "NoNet" (f 6) none
  x_NoWhole : ExcOk K mg "NoWhole" (f 7) none
  x_NoGroups : ExcOk K mg "NoGroups" (f 8) none
  x_NoVeil : ExcOk K mg "NoVeil" (f 14) (some (.ref (f 15000)))
  o_Stream : OwnOk K mg "Stream" (f 23) (f 24000)
  m_Stream_room : Meth K (f 23) "room" (f 24001)
  m_Stream_reach : Meth K (f 23) "reach" (f 24002)
  na_NoRow_place : PySem.W.findIn K (.ref (f 10)) "place" = some none
  na_NoSuch_number : PySem.W.findIn K (.ref (f 11)) "number" = some none
  na_NoField_name : PySem.W.findIn K (.ref (f 12)) "name" = some none
  na_NoKind_name : PySem.W.findIn K (.ref (f 13)) "name" = some none
  na_NoVeil_cell : PySem.W.findIn K (.ref (f 14)) "cell" = some none
  na_Stream_arcs : PySem.W.findIn K (.ref (f 23)) "arcs" = some none
  na_Stream_borne : PySem.W.findIn K (.ref (f 23)) "borne" = some none
  na_Stream_steps : PySem.W.findIn K (.ref (f 23)) "steps" = some none
  su_NoGroups_CrossError : subB K (f 8) (f 1) = true
  ki_NoGroups_CrossError : PySem.W.kitOne K (.ref (f 8)) (.ref (f 1)) = some true
  ki_NoGroups_NoFields : PySem.W.kitOne K (.ref (f 8)) (.ref (f 2)) = some false
  ki_NoGroups_NoSieve : PySem.W.kitOne K (.ref (f 8)) (.ref (f 3)) = some false
  ki_NoGroups_NoView : PySem.W.kitOne K (.ref (f 8)) (.ref (f 4)) = some false
  ki_NoGroups_NoHead : PySem.W.kitOne K (.ref (f 8)) (.ref (f 5)) = some false
  ki_NoGroups_NoNet : PySem.W.kitOne K (.ref (f 8)) (.ref (f 6)) = some false
  ki_NoGroups_NoWhole : PySem.W.kitOne K (.ref (f 8)) (.ref (f 7)) = some false
  ki_NoGroups_NoGroups : PySem.W.kitOne K (.ref (f 8)) (.ref (f 8)) = some true
  ki_NoGroups_NoLine : PySem.W.kitOne K (.ref (f 8)) (.ref (f 9)) = some false
  ki_NoGroups_NoRow : PySem.W.kitOne K (.ref (f 8)) (.ref (f 10)) = some false
  ki_NoGroups_NoSuch : PySem.W.kitOne K (.ref (f 8)) (.ref (f 11)) = some false
  ki_NoGroups_NoField : PySem.W.kitOne K (.ref (f 8)) (.ref (f 12)) = some false
  ki_NoGroups_NoKind : PySem.W.kitOne K (.ref (f 8)) (.ref (f 13)) = some false
  ki_NoGroups_NoVeil : PySem.W.kitOne K (.ref (f 8)) (.ref (f 14)) = some false
  kv_NoGroups : PySem.W.kitOne K (.ref (f 8)) (.type "ValueError") = some true
  su_NoNet_CrossError : subB K (f 6) (f 1) = true
  ki_NoNet_CrossError : PySem.W.kitOne K (.ref (f 6)) (.ref (f 1)) = some true
  ki_NoNet_NoFields : PySem.W.kitOne K (.ref (f 6)) (.ref (f 2)) = some false
  ki_NoNet_NoSieve : PySem.W.kitOne K (.ref (f 6)) (.ref (f 3)) = some false
  ki_NoNet_NoView : PySem.W.kitOne K (.ref (f 6)) (.ref (f 4)) = some false
  ki_NoNet_NoHead : PySem.W.kitOne K (.ref (f 6)) (.ref (f 5)) = some false
  ki_NoNet_NoNet : PySem.W.kitOne K (.ref (f 6)) (.ref (f 6)) = some true
  ki_NoNet_NoWhole : PySem.W.kitOne K (.ref (f 6)) (.ref (f 7)) = some false
  ki_NoNet_NoGroups : PySem.W.kitOne K (.ref (f 6)) (.ref (f 8)) = some false
  ki_NoNet_NoLine : PySem.W.kitOne K (.ref (f 6)) (.ref (f 9)) = some false
  ki_NoNet_NoRow : PySem.W.kitOne K (.ref (f 6)) (.ref (f 10)) = some false
  ki_NoNet_NoSuch : PySem.W.kitOne K (.ref (f 6)) (.ref (f 11)) = some false
  ki_NoNet_NoField : PySem.W.kitOne K (.ref (f 6)) (.ref (f 12)) = some false
  ki_NoNet_NoKind : PySem.W.kitOne K (.ref (f 6)) (.ref (f 13)) = some false
  ki_NoNet_NoVeil : PySem.W.kitOne K (.ref (f 6)) (.ref (f 14)) = some false
  kv_NoNet : PySem.W.kitOne K (.ref (f 6)) (.type "ValueError") = some true
  su_NoVeil_CrossError : subB K (f 14) (f 1) = true
  ki_NoVeil_CrossError : PySem.W.kitOne K (.ref (f 14)) (.ref (f 1)) = some true
  ki_NoVeil_NoFields : PySem.W.kitOne K (.ref (f 14)) (.ref (f 2)) = some false
  ki_NoVeil_NoSieve : PySem.W.kitOne K (.ref (f 14)) (.ref (f 3)) = some false
  ki_NoVeil_NoView : PySem.W.kitOne K (.ref (f 14)) (.ref (f 4)) = some false
  ki_NoVeil_NoHead : PySem.W.kitOne K (.ref (f 14)) (.ref (f 5)) = some false
  ki_NoVeil_NoNet : PySem.W.kitOne K (.ref (f 14)) (.ref (f 6)) = some false
  ki_NoVeil_NoWhole : PySem.W.kitOne K (.ref (f 14)) (.ref (f 7)) = some false
  ki_NoVeil_NoGroups : PySem.W.kitOne K (.ref (f 14)) (.ref (f 8)) = some false
  ki_NoVeil_NoLine : PySem.W.kitOne K (.ref (f 14)) (.ref (f 9)) = some false
  ki_NoVeil_NoRow : PySem.W.kitOne K (.ref (f 14)) (.ref (f 10)) = some false
  ki_NoVeil_NoSuch : PySem.W.kitOne K (.ref (f 14)) (.ref (f 11)) = some false
  ki_NoVeil_NoField : PySem.W.kitOne K (.ref (f 14)) (.ref (f 12)) = some false
  ki_NoVeil_NoKind : PySem.W.kitOne K (.ref (f 14)) (.ref (f 13)) = some false
  ki_NoVeil_NoVeil : PySem.W.kitOne K (.ref (f 14)) (.ref (f 14)) = some true
  kv_NoVeil : PySem.W.kitOne K (.ref (f 14)) (.type "ValueError") = some true
  su_NoWhole_CrossError : subB K (f 7) (f 1) = true
  ki_NoWhole_CrossError : PySem.W.kitOne K (.ref (f 7)) (.ref (f 1)) = some true
  ki_NoWhole_NoFields : PySem.W.kitOne K (.ref (f 7)) (.ref (f 2)) = some false
  ki_NoWhole_NoSieve : PySem.W.kitOne K (.ref (f 7)) (.ref (f 3)) = some false
  ki_NoWhole_NoView : PySem.W.kitOne K (.ref (f 7)) (.ref (f 4)) = some false
  ki_NoWhole_NoHead : PySem.W.kitOne K (.ref (f 7)) (.ref (f 5)) = some false
  ki_NoWhole_NoNet : PySem.W.kitOne K (.ref (f 7)) (.ref (f 6)) = some false
  ki_NoWhole_NoWhole : PySem.W.kitOne K (.ref (f 7)) (.ref (f 7)) = some true
  ki_NoWhole_NoGroups : PySem.W.kitOne K (.ref (f 7)) (.ref (f 8)) = some false
  ki_NoWhole_NoLine : PySem.W.kitOne K (.ref (f 7)) (.ref (f 9)) = some false
  ki_NoWhole_NoRow : PySem.W.kitOne K (.ref (f 7)) (.ref (f 10)) = some false
  ki_NoWhole_NoSuch : PySem.W.kitOne K (.ref (f 7)) (.ref (f 11)) = some false
  ki_NoWhole_NoField : PySem.W.kitOne K (.ref (f 7)) (.ref (f 12)) = some false
  ki_NoWhole_NoKind : PySem.W.kitOne K (.ref (f 7)) (.ref (f 13)) = some false
  ki_NoWhole_NoVeil : PySem.W.kitOne K (.ref (f 7)) (.ref (f 14)) = some false
  kv_NoWhole : PySem.W.kitOne K (.ref (f 7)) (.type "ValueError") = some true
  n_ValueError : mg "ValueError" = none
  n_all : mg "all" = none
  n_enumerate : mg "enumerate" = none
  n_isinstance : mg "isinstance" = none
  n_len : mg "len" = none
  n_list : mg "list" = none
  n_min : mg "min" = none
  n_range : mg "range" = none
  n_set : mg "set" = none
  n_sorted : mg "sorted" = none
  n_sum : mg "sum" = none
  n_zip : mg "zip" = none
  g_MOST_NODES : ∃ tk, mg "MOST_NODES" = some (.int (120) tk)
  g_MOST_ARCS : ∃ tk, mg "MOST_ARCS" = some (.int (300) tk)
  g_MOST_GROUPS : ∃ tk, mg "MOST_GROUPS" = some (.int (8) tk)
theorem len0 {α : Type} {C : List α → Prop} (h : C []) (us : List α) (e : us.length = 0) : C us := (List.length_eq_zero_iff.mp e) ▸ h
theorem lenS {α : Type} {n : Nat} {C : List α → Prop} (h : ∀ (a : α) (us : List α), us.length = n → C (a :: us)) (us : List α) (e : us.length = n + 1) : C us := by
  cases us with
  | nil => cases e
  | cons a r => exact h a r (Nat.succ.inj e)
theorem lenB1 {fd : FuncData} {ps : List Str} (h : ∀ a : Value, bindArgs fd ⟨[a], []⟩ = pure (ps.zip [a])) (us : List Value) (e : us.length = 1) : bindArgs fd ⟨us, []⟩ = pure (ps.zip us) := by
  revert us
  exact lenS fun a => len0 (h a)
theorem lenB2 {fd : FuncData} {ps : List Str} (h : ∀ a b : Value, bindArgs fd ⟨[a, b], []⟩ = pure (ps.zip [a, b])) (us : List Value) (e : us.length = 2) : bindArgs fd ⟨us, []⟩ = pure (ps.zip us) := by
  revert us
  exact lenS fun a => lenS fun b => len0 (h a b)
theorem lenB3 {fd : FuncData} {ps : List Str} (h : ∀ a b c : Value, bindArgs fd ⟨[a, b, c], []⟩ = pure (ps.zip [a, b, c])) (us : List Value) (e : us.length = 3) : bindArgs fd ⟨us, []⟩ = pure (ps.zip us) := by
  revert us
  exact lenS fun a => lenS fun b => lenS fun c => len0 (h a b c)
theorem lenB4 {fd : FuncData} {ps : List Str} (h : ∀ a b c d : Value, bindArgs fd ⟨[a, b, c, d], []⟩ = pure (ps.zip [a, b, c, d])) (us : List Value) (e : us.length = 4) : bindArgs fd ⟨us, []⟩ = pure (ps.zip us) := by
  revert us
  exact lenS fun a => lenS fun b => lenS fun c => lenS fun d => len0 (h a b c d)
theorem txt_mk {K : PySem.W.Frag} {h : Heap} {mg : Str → Option Value} (X : K.In h) (G : h.Ns mainGlobals mg)
    {f18 : Addr} {od18 an18 : Option Addr} {sl18 : Array (Option Value)} {oc18 kV18 dc18 pm18 cd18 ct18 : Value}
    {f19 : Addr} {od19 an19 : Option Addr} {sl19 : Array (Option Value)} {oc19 kV19 dc19 pm19 cd19 ct19 : Value}
    {f20 : Addr} {od20 an20 : Option Addr} {sl20 : Array (Option Value)} {oc20 kV20 dc20 pm20 cd20 ct20 : Value}
    {f21 : Addr} {od21 an21 : Option Addr} {sl21 : Array (Option Value)} {oc21 kV21 dc21 pm21 cd21 ct21 : Value}
    {f25 : Addr} {od25 an25 : Option Addr} {sl25 : Array (Option Value)} {oc25 kV25 dc25 pm25 cd25 ct25 : Value}
    {f26 : Addr} {od26 an26 : Option Addr} {sl26 : Array (Option Value)} {oc26 kV26 dc26 pm26 cd26 ct26 : Value}
    {f29 : Addr} {od29 an29 : Option Addr} {sl29 : Array (Option Value)} {oc29 kV29 dc29 pm29 cd29 ct29 : Value}
    {f30 : Addr} {od30 an30 : Option Addr} {sl30 : Array (Option Value)} {oc30 kV30 dc30 pm30 cd30 ct30 : Value}
    {f32 : Addr} {od32 an32 : Option Addr} {sl32 : Array (Option Value)} {oc32 kV32 dc32 pm32 cd32 ct32 : Value}
    {f33 : Addr} {od33 an33 : Option Addr} {sl33 : Array (Option Value)} {oc33 kV33 dc33 pm33 cd33 ct33 : Value}
    {f34 : Addr} {od34 an34 : Option Addr} {sl34 : Array (Option Value)} {oc34 kV34 dc34 pm34 cd34 ct34 : Value}
    {f35 : Addr} {od35 an35 : Option Addr} {sl35 : Array (Option Value)} {oc35 kV35 dc35 pm35 cd35 ct35 : Value}
    {f36 : Addr} {od36 an36 : Option Addr} {sl36 : Array (Option Value)} {oc36 kV36 dc36 pm36 cd36 ct36 : Value}
    {f37 : Addr} {od37 an37 : Option Addr} {sl37 : Array (Option Value)} {oc37 kV37 dc37 pm37 cd37 ct37 : Value}
    {f42 : Addr} {od42 an42 : Option Addr} {sl42 : Array (Option Value)} {oc42 kV42 dc42 pm42 cd42 ct42 : Value}
    {f43 : Addr} {od43 an43 : Option Addr} {sl43 : Array (Option Value)} {oc43 kV43 dc43 pm43 cd43 ct43 : Value}
    {f45 : Addr} {od45 an45 : Option Addr} {sl45 : Array (Option Value)} {oc45 kV45 dc45 pm45 cd45 ct45 : Value}
    {f46 : Addr} {od46 an46 : Option Addr} {sl46 : Array (Option Value)} {oc46 kV46 dc46 pm46 cd46 ct46 : Value}
    {f47 : Addr} {od47 an47 : Option Addr} {sl47 : Array (Option Value)} {oc47 kV47 dc47 pm47 cd47 ct47 : Value}
    {f48 : Addr} {od48 an48 : Option Addr} {sl48 : Array (Option Value)} {oc48 kV48 dc48 pm48 cd48 ct48 : Value}
    {f51 : Addr} {od51 an51 : Option Addr} {sl51 : Array (Option Value)} {oc51 kV51 dc51 pm51 cd51 ct51 : Value}
    {f54 : Addr} {od54 an54 : Option Addr} {sl54 : Array (Option Value)} {oc54 kV54 dc54 pm54 cd54 ct54 : Value}
    {f55 : Addr} {od55 an55 : Option Addr} {sl55 : Array (Option Value)} {oc55 kV55 dc55 pm55 cd55 ct55 : Value}
    {f56 : Addr} {od56 an56 : Option Addr} {sl56 : Array (Option Value)} {oc56 kV56 dc56 pm56 cd56 ct56 : Value}
    {f66 : Addr} {od66 an66 : Option Addr} {sl66 : Array (Option Value)} {oc66 kV66 dc66 pm66 cd66 ct66 : Value}
    {f68 : Addr} {od68 an68 : Option Addr} {sl68 : Array (Option Value)} {oc68 kV68 dc68 pm68 cd68 ct68 : Value}
    {f69 : Addr} {od69 an69 : Option Addr} {sl69 : Array (Option Value)} {oc69 kV69 dc69 pm69 cd69 ct69 : Value}
    {f70 : Addr} {od70 an70 : Option Addr} {sl70 : Array (Option Value)} {oc70 kV70 dc70 pm70 cd70 ct70 : Value}
    {f71 : Addr} {od71 an71 : Option Addr} {sl71 : Array (Option Value)} {oc71 kV71 dc71 pm71 cd71 ct71 : Value}
    {f72 : Addr} {od72 an72 : Option Addr} {sl72 : Array (Option Value)} {oc72 kV72 dc72 pm72 cd72 ct72 : Value}
    {f11000 : Addr} {od11000 an11000 : Option Addr} {sl11000 : Array (Option Value)} {oc11000 kV11000 dc11000 pm11000 cd11000 ct11000 : Value}
    {f12000 : Addr} {od12000 an12000 : Option Addr} {sl12000 : Array (Option Value)} {oc12000 kV12000 dc12000 pm12000 cd12000 ct12000 : Value}
    {f13000 : Addr} {od13000 an13000 : Option Addr} {sl13000 : Array (Option Value)} {oc13000 kV13000 dc13000 pm13000 cd13000 ct13000 : Value}
    {f14000 : Addr} {od14000 an14000 : Option Addr} {sl14000 : Array (Option Value)} {oc14000 kV14000 dc14000 pm14000 cd14000 ct14000 : Value}
    {f15000 : Addr} {od15000 an15000 : Option Addr} {sl15000 : Array (Option Value)} {oc15000 kV15000 dc15000 pm15000 cd15000 ct15000 : Value}
    {f24000 : Addr} {od24000 an24000 : Option Addr} {sl24000 : Array (Option Value)} {oc24000 kV24000 dc24000 pm24000 cd24000 ct24000 : Value}
    {f24001 : Addr} {od24001 an24001 : Option Addr} {sl24001 : Array (Option Value)} {oc24001 kV24001 dc24001 pm24001 cd24001 ct24001 : Value}
    {f24002 : Addr} {od24002 an24002 : Option Addr} {sl24002 : Array (Option Value)} {oc24002 kV24002 dc24002 pm24002 cd24002 ct24002 : Value}
    {f1 : Addr}
    {f2 : Addr}
    {f3 : Addr}
    {f4 : Addr}
    {f5 : Addr}
    {f6 : Addr}
    {f7 : Addr}
    {f8 : Addr}
    {f9 : Addr}
    {f10 : Addr}
    {f11 : Addr}
    {f12 : Addr}
    {f13 : Addr}
    {f14 : Addr}
    {f23 : Addr}
    (a1 : PySem.W.nsIn K mainGlobals "CrossError" = some (some (.ref f1)))
    (a2 : PySem.W.nsIn K mainGlobals "NoFields" = some (some (.ref f2)))
    (a3 : PySem.W.nsIn K mainGlobals "NoSieve" = some (some (.ref f3)))
    (a4 : PySem.W.nsIn K mainGlobals "NoView" = some (some (.ref f4)))
    (a5 : PySem.W.nsIn K mainGlobals "NoHead" = some (some (.ref f5)))
    (a6 : PySem.W.nsIn K mainGlobals "NoNet" = some (some (.ref f6)))
    (a7 : PySem.W.nsIn K mainGlobals "NoWhole" = some (some (.ref f7)))
    (a8 : PySem.W.nsIn K mainGlobals "NoGroups" = some (some (.ref f8)))
    (a9 : PySem.W.nsIn K mainGlobals "NoLine" = some (some (.ref f9)))
    (a10 : PySem.W.nsIn K mainGlobals "NoRow" = some (some (.ref f10)))
    (a11 : PySem.W.nsIn K mainGlobals "NoSuch" = some (some (.ref f11)))
    (a12 : PySem.W.nsIn K mainGlobals "NoField" = some (some (.ref f12)))
    (a13 : PySem.W.nsIn K mainGlobals "NoKind" = some (some (.ref f13)))
    (a14 : PySem.W.nsIn K mainGlobals "NoVeil" = some (some (.ref f14)))
    (a23 : PySem.W.nsIn K mainGlobals "Stream" = some (some (.ref f23)))
    (a18 : PySem.W.nsIn K mainGlobals "asked_arc" = some (some (.ref f18)))
    (l18 : K.lookup f18 = some ⟨oc18, od18, .func (PySem.W.fnOf "asked_arc" "asked_arc" (defArgs s_asked_arc) (defBody s_asked_arc) (defScope s_asked_arc) .none kV18 dc18 pm18 an18 cd18 ct18), sl18⟩) (c18 : PySem.W.codeIn K cd18 "asked_arc" = true) (k18 : PySem.W.keepIn K (.ref f18) = true)
    (a19 : PySem.W.nsIn K mainGlobals "asked_net" = some (some (.ref f19)))
    (l19 : K.lookup f19 = some ⟨oc19, od19, .func (PySem.W.fnOf "asked_net" "asked_net" (defArgs s_asked_net) (defBody s_asked_net) (defScope s_asked_net) .none kV19 dc19 pm19 an19 cd19 ct19), sl19⟩) (c19 : PySem.W.codeIn K cd19 "asked_net" = true) (k19 : PySem.W.keepIn K (.ref f19) = true)
    (a20 : PySem.W.nsIn K mainGlobals "gains" = some (some (.ref f20)))
    (l20 : K.lookup f20 = some ⟨oc20, od20, .func (PySem.W.fnOf "gains" "gains" (defArgs s_gains) (defBody s_gains) (defScope s_gains) .none kV20 dc20 pm20 an20 cd20 ct20), sl20⟩) (c20 : PySem.W.codeIn K cd20 "gains" = true) (k20 : PySem.W.keepIn K (.ref f20) = true)
    (a21 : PySem.W.nsIn K mainGlobals "holds_flow" = some (some (.ref f21)))
    (l21 : K.lookup f21 = some ⟨oc21, od21, .func (PySem.W.fnOf "holds_flow" "holds_flow" (defArgs s_holds_flow) (defBody s_holds_flow) (defScope s_holds_flow) .none kV21 dc21 pm21 an21 cd21 ct21), sl21⟩) (c21 : PySem.W.codeIn K cd21 "holds_flow" = true) (k21 : PySem.W.keepIn K (.ref f21) = true)
    (a25 : PySem.W.nsIn K mainGlobals "flow_of" = some (some (.ref f25)))
    (l25 : K.lookup f25 = some ⟨oc25, od25, .func (PySem.W.fnOf "flow_of" "flow_of" (defArgs s_flow_of) (defBody s_flow_of) (defScope s_flow_of) .none kV25 dc25 pm25 an25 cd25 ct25), sl25⟩) (c25 : PySem.W.codeIn K cd25 "flow_of" = true) (k25 : PySem.W.keepIn K (.ref f25) = true)
    (a26 : PySem.W.nsIn K mainGlobals "asked_flow" = some (some (.ref f26)))
    (l26 : K.lookup f26 = some ⟨oc26, od26, .func (PySem.W.fnOf "asked_flow" "asked_flow" (defArgs s_asked_flow) (defBody s_asked_flow) (defScope s_asked_flow) .none kV26 dc26 pm26 an26 cd26 ct26), sl26⟩) (c26 : PySem.W.codeIn K cd26 "asked_flow" = true) (k26 : PySem.W.keepIn K (.ref f26) = true)
    (a29 : PySem.W.nsIn K mainGlobals "greatest_on" = some (some (.ref f29)))
    (l29 : K.lookup f29 = some ⟨oc29, od29, .func (PySem.W.fnOf "greatest_on" "greatest_on" (defArgs s_greatest_on) (defBody s_greatest_on) (defScope s_greatest_on) .none kV29 dc29 pm29 an29 cd29 ct29), sl29⟩) (c29 : PySem.W.codeIn K cd29 "greatest_on" = true) (k29 : PySem.W.keepIn K (.ref f29) = true)
    (a30 : PySem.W.nsIn K mainGlobals "least_on" = some (some (.ref f30)))
    (l30 : K.lookup f30 = some ⟨oc30, od30, .func (PySem.W.fnOf "least_on" "least_on" (defArgs s_least_on) (defBody s_least_on) (defScope s_least_on) .none kV30 dc30 pm30 an30 cd30 ct30), sl30⟩) (c30 : PySem.W.codeIn K cd30 "least_on" = true) (k30 : PySem.W.keepIn K (.ref f30) = true)
    (a32 : PySem.W.nsIn K mainGlobals "asked_cell" = some (some (.ref f32)))
    (l32 : K.lookup f32 = some ⟨oc32, od32, .func (PySem.W.fnOf "asked_cell" "asked_cell" (defArgs s_asked_cell) (defBody s_asked_cell) (defScope s_asked_cell) .none kV32 dc32 pm32 an32 cd32 ct32), sl32⟩) (c32 : PySem.W.codeIn K cd32 "asked_cell" = true) (k32 : PySem.W.keepIn K (.ref f32) = true)
    (a33 : PySem.W.nsIn K mainGlobals "number_at" = some (some (.ref f33)))
    (l33 : K.lookup f33 = some ⟨oc33, od33, .func (PySem.W.fnOf "number_at" "number_at" (defArgs s_number_at) (defBody s_number_at) (defScope s_number_at) .none kV33 dc33 pm33 an33 cd33 ct33), sl33⟩) (c33 : PySem.W.codeIn K cd33 "number_at" = true) (k33 : PySem.W.keepIn K (.ref f33) = true)
    (a34 : PySem.W.nsIn K mainGlobals "sum_of_all" = some (some (.ref f34)))
    (l34 : K.lookup f34 = some ⟨oc34, od34, .func (PySem.W.fnOf "sum_of_all" "sum_of_all" (defArgs s_sum_of_all) (defBody s_sum_of_all) (defScope s_sum_of_all) .none kV34 dc34 pm34 an34 cd34 ct34), sl34⟩) (c34 : PySem.W.codeIn K cd34 "sum_of_all" = true) (k34 : PySem.W.keepIn K (.ref f34) = true)
    (a35 : PySem.W.nsIn K mainGlobals "column_node" = some (some (.ref f35)))
    (l35 : K.lookup f35 = some ⟨oc35, od35, .func (PySem.W.fnOf "column_node" "column_node" (defArgs s_column_node) (defBody s_column_node) (defScope s_column_node) .none kV35 dc35 pm35 an35 cd35 ct35), sl35⟩) (c35 : PySem.W.codeIn K cd35 "column_node" = true) (k35 : PySem.W.keepIn K (.ref f35) = true)
    (a36 : PySem.W.nsIn K mainGlobals "others_of" = some (some (.ref f36)))
    (l36 : K.lookup f36 = some ⟨oc36, od36, .func (PySem.W.fnOf "others_of" "others_of" (defArgs s_others_of) (defBody s_others_of) (defScope s_others_of) .none kV36 dc36 pm36 an36 cd36 ct36), sl36⟩) (c36 : PySem.W.codeIn K cd36 "others_of" = true) (k36 : PySem.W.keepIn K (.ref f36) = true)
    (a37 : PySem.W.nsIn K mainGlobals "stream_of" = some (some (.ref f37)))
    (l37 : K.lookup f37 = some ⟨oc37, od37, .func (PySem.W.fnOf "stream_of" "stream_of" (defArgs s_stream_of) (defBody s_stream_of) (defScope s_stream_of) .none kV37 dc37 pm37 an37 cd37 ct37), sl37⟩) (c37 : PySem.W.codeIn K cd37 "stream_of" = true) (k37 : PySem.W.keepIn K (.ref f37) = true)
    (a42 : PySem.W.nsIn K mainGlobals "could_be" = some (some (.ref f42)))
    (l42 : K.lookup f42 = some ⟨oc42, od42, .func (PySem.W.fnOf "could_be" "could_be" (defArgs s_could_be) (defBody s_could_be) (defScope s_could_be) .none kV42 dc42 pm42 an42 cd42 ct42), sl42⟩) (c42 : PySem.W.codeIn K cd42 "could_be" = true) (k42 : PySem.W.keepIn K (.ref f42) = true)
    (a43 : PySem.W.nsIn K mainGlobals "is_outright" = some (some (.ref f43)))
    (l43 : K.lookup f43 = some ⟨oc43, od43, .func (PySem.W.fnOf "is_outright" "is_outright" (defArgs s_is_outright) (defBody s_is_outright) (defScope s_is_outright) .none kV43 dc43 pm43 an43 cd43 ct43), sl43⟩) (c43 : PySem.W.codeIn K cd43 "is_outright" = true) (k43 : PySem.W.keepIn K (.ref f43) = true)
    (a45 : PySem.W.nsIn K mainGlobals "boxes_of" = some (some (.ref f45)))
    (l45 : K.lookup f45 = some ⟨oc45, od45, .func (PySem.W.fnOf "boxes_of" "boxes_of" (defArgs s_boxes_of) (defBody s_boxes_of) (defScope s_boxes_of) .none kV45 dc45 pm45 an45 cd45 ct45), sl45⟩) (c45 : PySem.W.codeIn K cd45 "boxes_of" = true) (k45 : PySem.W.keepIn K (.ref f45) = true)
    (a46 : PySem.W.nsIn K mainGlobals "is_small" = some (some (.ref f46)))
    (l46 : K.lookup f46 = some ⟨oc46, od46, .func (PySem.W.fnOf "is_small" "is_small" (defArgs s_is_small) (defBody s_is_small) (defScope s_is_small) .none kV46 dc46 pm46 an46 cd46 ct46), sl46⟩) (c46 : PySem.W.codeIn K cd46 "is_small" = true) (k46 : PySem.W.keepIn K (.ref f46) = true)
    (a47 : PySem.W.nsIn K mainGlobals "first_outright" = some (some (.ref f47)))
    (l47 : K.lookup f47 = some ⟨oc47, od47, .func (PySem.W.fnOf "first_outright" "first_outright" (defArgs s_first_outright) (defBody s_first_outright) (defScope s_first_outright) .none kV47 dc47 pm47 an47 cd47 ct47), sl47⟩) (c47 : PySem.W.codeIn K cd47 "first_outright" = true) (k47 : PySem.W.keepIn K (.ref f47) = true)
    (a48 : PySem.W.nsIn K mainGlobals "veil" = some (some (.ref f48)))
    (l48 : K.lookup f48 = some ⟨oc48, od48, .func (PySem.W.fnOf "veil" "veil" (defArgs s_veil) (defBody s_veil) (defScope s_veil) .none kV48 dc48 pm48 an48 cd48 ct48), sl48⟩) (c48 : PySem.W.codeIn K cd48 "veil" = true) (k48 : PySem.W.keepIn K (.ref f48) = true)
    (a51 : PySem.W.nsIn K mainGlobals "dealt" = some (some (.ref f51)))
    (l51 : K.lookup f51 = some ⟨oc51, od51, .func (PySem.W.fnOf "dealt" "dealt" (defArgs s_dealt) (defBody s_dealt) (defScope s_dealt) .none kV51 dc51 pm51 an51 cd51 ct51), sl51⟩) (c51 : PySem.W.codeIn K cd51 "dealt" = true) (k51 : PySem.W.keepIn K (.ref f51) = true)
    (a54 : PySem.W.nsIn K mainGlobals "asked_group" = some (some (.ref f54)))
    (l54 : K.lookup f54 = some ⟨oc54, od54, .func (PySem.W.fnOf "asked_group" "asked_group" (defArgs s_asked_group) (defBody s_asked_group) (defScope s_asked_group) .none kV54 dc54 pm54 an54 cd54 ct54), sl54⟩) (c54 : PySem.W.codeIn K cd54 "asked_group" = true) (k54 : PySem.W.keepIn K (.ref f54) = true)
    (a55 : PySem.W.nsIn K mainGlobals "asked_pair" = some (some (.ref f55)))
    (l55 : K.lookup f55 = some ⟨oc55, od55, .func (PySem.W.fnOf "asked_pair" "asked_pair" (defArgs s_asked_pair) (defBody s_asked_pair) (defScope s_asked_pair) .none kV55 dc55 pm55 an55 cd55 ct55), sl55⟩) (c55 : PySem.W.codeIn K cd55 "asked_pair" = true) (k55 : PySem.W.keepIn K (.ref f55) = true)
    (a56 : PySem.W.nsIn K mainGlobals "asked_groups" = some (some (.ref f56)))
    (l56 : K.lookup f56 = some ⟨oc56, od56, .func (PySem.W.fnOf "asked_groups" "asked_groups" (defArgs s_asked_groups) (defBody s_asked_groups) (defScope s_asked_groups) .none kV56 dc56 pm56 an56 cd56 ct56), sl56⟩) (c56 : PySem.W.codeIn K cd56 "asked_groups" = true) (k56 : PySem.W.keepIn K (.ref f56) = true)
    (a66 : PySem.W.nsIn K mainGlobals "parts" = some (some (.ref f66)))
    (l66 : K.lookup f66 = some ⟨oc66, od66, .func (PySem.W.fnOf "parts" "parts" (defArgs s_parts) (defBody s_parts) (defScope s_parts) .none kV66 dc66 pm66 an66 cd66 ct66), sl66⟩) (c66 : PySem.W.codeIn K cd66 "parts" = true) (k66 : PySem.W.keepIn K (.ref f66) = true)
    (a68 : PySem.W.nsIn K mainGlobals "_law_draw" = some (some (.ref f68)))
    (l68 : K.lookup f68 = some ⟨oc68, od68, .func (PySem.W.fnOf "_law_draw" "_law_draw" (defArgs s_l_draw) (defBody s_l_draw) (defScope s_l_draw) .none kV68 dc68 pm68 an68 cd68 ct68), sl68⟩) (c68 : PySem.W.codeIn K cd68 "_law_draw" = true) (k68 : PySem.W.keepIn K (.ref f68) = true)
    (a69 : PySem.W.nsIn K mainGlobals "_law_kinds" = some (some (.ref f69)))
    (l69 : K.lookup f69 = some ⟨oc69, od69, .func (PySem.W.fnOf "_law_kinds" "_law_kinds" (defArgs s_l_kinds) (defBody s_l_kinds) (defScope s_l_kinds) .none kV69 dc69 pm69 an69 cd69 ct69), sl69⟩) (c69 : PySem.W.codeIn K cd69 "_law_kinds" = true) (k69 : PySem.W.keepIn K (.ref f69) = true)
    (a70 : PySem.W.nsIn K mainGlobals "_law_deed" = some (some (.ref f70)))
    (l70 : K.lookup f70 = some ⟨oc70, od70, .func (PySem.W.fnOf "_law_deed" "_law_deed" (defArgs s_l_deed) (defBody s_l_deed) (defScope s_l_deed) .none kV70 dc70 pm70 an70 cd70 ct70), sl70⟩) (c70 : PySem.W.codeIn K cd70 "_law_deed" = true) (k70 : PySem.W.keepIn K (.ref f70) = true)
    (a71 : PySem.W.nsIn K mainGlobals "_law_told" = some (some (.ref f71)))
    (l71 : K.lookup f71 = some ⟨oc71, od71, .func (PySem.W.fnOf "_law_told" "_law_told" (defArgs s_l_told) (defBody s_l_told) (defScope s_l_told) .none kV71 dc71 pm71 an71 cd71 ct71), sl71⟩) (c71 : PySem.W.codeIn K cd71 "_law_told" = true) (k71 : PySem.W.keepIn K (.ref f71) = true)
    (a72 : PySem.W.nsIn K mainGlobals "law" = some (some (.ref f72)))
    (l72 : K.lookup f72 = some ⟨oc72, od72, .func (PySem.W.fnOf "law" "law" (defArgs s_law) (defBody s_law) (defScope s_law) .none kV72 dc72 pm72 an72 cd72 ct72), sl72⟩) (c72 : PySem.W.codeIn K cd72 "law" = true) (k72 : PySem.W.keepIn K (.ref f72) = true)
    (a11000 : PySem.W.findIn K (.ref f10) "__init__" = some (some (.ref f11000)))
    (l11000 : K.lookup f11000 = some ⟨oc11000, od11000, .func (PySem.W.fnOf "__init__" "NoRow.__init__" (defArgs s_NoRow___init__) (defBody s_NoRow___init__) (defScope s_NoRow___init__) .none kV11000 dc11000 pm11000 an11000 cd11000 ct11000), sl11000⟩) (c11000 : PySem.W.codeIn K cd11000 "NoRow.__init__" = true) (k11000 : PySem.W.keepIn K (.ref f11000) = true)
    (b11000 : PySem.W.isFn K (.ref f11000) = true)
    (a12000 : PySem.W.findIn K (.ref f11) "__init__" = some (some (.ref f12000)))
    (l12000 : K.lookup f12000 = some ⟨oc12000, od12000, .func (PySem.W.fnOf "__init__" "NoSuch.__init__" (defArgs s_NoSuch___init__) (defBody s_NoSuch___init__) (defScope s_NoSuch___init__) .none kV12000 dc12000 pm12000 an12000 cd12000 ct12000), sl12000⟩) (c12000 : PySem.W.codeIn K cd12000 "NoSuch.__init__" = true) (k12000 : PySem.W.keepIn K (.ref f12000) = true)
    (b12000 : PySem.W.isFn K (.ref f12000) = true)
    (a13000 : PySem.W.findIn K (.ref f12) "__init__" = some (some (.ref f13000)))
    (l13000 : K.lookup f13000 = some ⟨oc13000, od13000, .func (PySem.W.fnOf "__init__" "NoField.__init__" (defArgs s_NoField___init__) (defBody s_NoField___init__) (defScope s_NoField___init__) .none kV13000 dc13000 pm13000 an13000 cd13000 ct13000), sl13000⟩) (c13000 : PySem.W.codeIn K cd13000 "NoField.__init__" = true) (k13000 : PySem.W.keepIn K (.ref f13000) = true)
    (b13000 : PySem.W.isFn K (.ref f13000) = true)
    (a14000 : PySem.W.findIn K (.ref f13) "__init__" = some (some (.ref f14000)))
    (l14000 : K.lookup f14000 = some ⟨oc14000, od14000, .func (PySem.W.fnOf "__init__" "NoKind.__init__" (defArgs s_NoKind___init__) (defBody s_NoKind___init__) (defScope s_NoKind___init__) .none kV14000 dc14000 pm14000 an14000 cd14000 ct14000), sl14000⟩) (c14000 : PySem.W.codeIn K cd14000 "NoKind.__init__" = true) (k14000 : PySem.W.keepIn K (.ref f14000) = true)
    (b14000 : PySem.W.isFn K (.ref f14000) = true)
    (a15000 : PySem.W.findIn K (.ref f14) "__init__" = some (some (.ref f15000)))
    (l15000 : K.lookup f15000 = some ⟨oc15000, od15000, .func (PySem.W.fnOf "__init__" "NoVeil.__init__" (defArgs s_NoVeil___init__) (defBody s_NoVeil___init__) (defScope s_NoVeil___init__) .none kV15000 dc15000 pm15000 an15000 cd15000 ct15000), sl15000⟩) (c15000 : PySem.W.codeIn K cd15000 "NoVeil.__init__" = true) (k15000 : PySem.W.keepIn K (.ref f15000) = true)
    (b15000 : PySem.W.isFn K (.ref f15000) = true)
    (a24000 : PySem.W.findIn K (.ref f23) "__init__" = some (some (.ref f24000)))
    (l24000 : K.lookup f24000 = some ⟨oc24000, od24000, .func (PySem.W.fnOf "__init__" "Stream.__init__" (defArgs s_Stream___init__) (defBody s_Stream___init__) (defScope s_Stream___init__) .none kV24000 dc24000 pm24000 an24000 cd24000 ct24000), sl24000⟩) (c24000 : PySem.W.codeIn K cd24000 "Stream.__init__" = true) (k24000 : PySem.W.keepIn K (.ref f24000) = true)
    (b24000 : PySem.W.isFn K (.ref f24000) = true)
    (a24001 : PySem.W.findIn K (.ref f23) "room" = some (some (.ref f24001)))
    (l24001 : K.lookup f24001 = some ⟨oc24001, od24001, .func (PySem.W.fnOf "room" "Stream.room" (defArgs s_Stream_room) (defBody s_Stream_room) (defScope s_Stream_room) .none kV24001 dc24001 pm24001 an24001 cd24001 ct24001), sl24001⟩) (c24001 : PySem.W.codeIn K cd24001 "Stream.room" = true) (k24001 : PySem.W.keepIn K (.ref f24001) = true)
    (b24001 : PySem.W.isFn K (.ref f24001) = true)
    (a24002 : PySem.W.findIn K (.ref f23) "reach" = some (some (.ref f24002)))
    (l24002 : K.lookup f24002 = some ⟨oc24002, od24002, .func (PySem.W.fnOf "reach" "Stream.reach" (defArgs s_Stream_reach) (defBody s_Stream_reach) (defScope s_Stream_reach) .none kV24002 dc24002 pm24002 an24002 cd24002 ct24002), sl24002⟩) (c24002 : PySem.W.codeIn K cd24002 "Stream.reach" = true) (k24002 : PySem.W.keepIn K (.ref f24002) = true)
    (b24002 : PySem.W.isFn K (.ref f24002) = true)
    (x_CrossError_e : exB K f1 none = true)
    (x_CrossError_kp : PySem.W.keepIn K (.ref f1) = true)
    (x_CrossError_ga : PySem.W.findIn K (.ref f1) "__getattribute__" = some (some (.builtin "BaseException.__getattribute__")))
    (x_CrossError_gh : PySem.W.findIn K (.ref f1) "__getattr__" = some none)
    (x_CrossError_ba : PySem.W.mroIn K f1 (.type "BaseException") = some true)
    (x_CrossError_ob : PySem.W.mroIn K f1 (.type "object") = some true)
    (x_CrossError_hd : PySem.W.hasDictIn K f1 = true)
    (x_CrossError_cl : PySem.W.findIn K (.ref f1) "__class__" = some (some (.builtin "object.__class__")))
    (x_CrossError_cg : PySem.W.specialIn K (.builtin "object.__class__") "__get__" = some (some (.builtin "getset_descriptor.__get__")))
    (x_CrossError_ct : PySem.W.takesIn K (.builtin "object.__class__") = some true)
    (x_CrossError_sa : PySem.W.findIn K (.ref f1) "__setattr__" = some (some (.builtin "object.__setattr__")))
    (x_NoNet_e : exB K f6 none = true)
    (x_NoNet_kp : PySem.W.keepIn K (.ref f6) = true)
    (x_NoNet_ga : PySem.W.findIn K (.ref f6) "__getattribute__" = some (some (.builtin "BaseException.__getattribute__")))
    (x_NoNet_gh : PySem.W.findIn K (.ref f6) "__getattr__" = some none)
    (x_NoNet_ba : PySem.W.mroIn K f6 (.type "BaseException") = some true)
    (x_NoNet_ob : PySem.W.mroIn K f6 (.type "object") = some true)
    (x_NoNet_hd : PySem.W.hasDictIn K f6 = true)
    (x_NoNet_cl : PySem.W.findIn K (.ref f6) "__class__" = some (some (.builtin "object.__class__")))
    (x_NoNet_cg : PySem.W.specialIn K (.builtin "object.__class__") "__get__" = some (some (.builtin "getset_descriptor.__get__")))
    (x_NoNet_ct : PySem.W.takesIn K (.builtin "object.__class__") = some true)
    (x_NoNet_sa : PySem.W.findIn K (.ref f6) "__setattr__" = some (some (.builtin "object.__setattr__")))
    (x_NoWhole_e : exB K f7 none = true)
    (x_NoWhole_kp : PySem.W.keepIn K (.ref f7) = true)
    (x_NoWhole_ga : PySem.W.findIn K (.ref f7) "__getattribute__" = some (some (.builtin "BaseException.__getattribute__")))
    (x_NoWhole_gh : PySem.W.findIn K (.ref f7) "__getattr__" = some none)
    (x_NoWhole_ba : PySem.W.mroIn K f7 (.type "BaseException") = some true)
    (x_NoWhole_ob : PySem.W.mroIn K f7 (.type "object") = some true)
    (x_NoWhole_hd : PySem.W.hasDictIn K f7 = true)
    (x_NoWhole_cl : PySem.W.findIn K (.ref f7) "__class__" = some (some (.builtin "object.__class__")))
    (x_NoWhole_cg : PySem.W.specialIn K (.builtin "object.__class__") "__get__" = some (some (.builtin "getset_descriptor.__get__")))
    (x_NoWhole_ct : PySem.W.takesIn K (.builtin "object.__class__") = some true)
    (x_NoWhole_sa : PySem.W.findIn K (.ref f7) "__setattr__" = some (some (.builtin "object.__setattr__")))
    (x_NoGroups_e : exB K f8 none = true)
    (x_NoGroups_kp : PySem.W.keepIn K (.ref f8) = true)
    (x_NoGroups_ga : PySem.W.findIn K (.ref f8) "__getattribute__" = some (some (.builtin "BaseException.__getattribute__")))
    (x_NoGroups_gh : PySem.W.findIn K (.ref f8) "__getattr__" = some none)
    (x_NoGroups_ba : PySem.W.mroIn K f8 (.type "BaseException") = some true)
    (x_NoGroups_ob : PySem.W.mroIn K f8 (.type "object") = some true)
    (x_NoGroups_hd : PySem.W.hasDictIn K f8 = true)
    (x_NoGroups_cl : PySem.W.findIn K (.ref f8) "__class__" = some (some (.builtin "object.__class__")))
    (x_NoGroups_cg : PySem.W.specialIn K (.builtin "object.__class__") "__get__" = some (some (.builtin "getset_descriptor.__get__")))
    (x_NoGroups_ct : PySem.W.takesIn K (.builtin "object.__class__") = some true)
    (x_NoGroups_sa : PySem.W.findIn K (.ref f8) "__setattr__" = some (some (.builtin "object.__setattr__")))
    (x_NoVeil_e : exB K f14 (some (.ref f15000)) = true)
    (x_NoVeil_kp : PySem.W.keepIn K (.ref f14) = true)
    (x_NoVeil_ga : PySem.W.findIn K (.ref f14) "__getattribute__" = some (some (.builtin "BaseException.__getattribute__")))
    (x_NoVeil_gh : PySem.W.findIn K (.ref f14) "__getattr__" = some none)
    (x_NoVeil_ba : PySem.W.mroIn K f14 (.type "BaseException") = some true)
    (x_NoVeil_ob : PySem.W.mroIn K f14 (.type "object") = some true)
    (x_NoVeil_hd : PySem.W.hasDictIn K f14 = true)
    (x_NoVeil_cl : PySem.W.findIn K (.ref f14) "__class__" = some (some (.builtin "object.__class__")))
    (x_NoVeil_cg : PySem.W.specialIn K (.builtin "object.__class__") "__get__" = some (some (.builtin "getset_descriptor.__get__")))
    (x_NoVeil_ct : PySem.W.takesIn K (.builtin "object.__class__") = some true)
    (x_NoVeil_sa : PySem.W.findIn K (.ref f14) "__setattr__" = some (some (.builtin "object.__setattr__")))
    (o_Stream_pg : PySem.W.plainGet K f23 Str.empty = true)
    (o_Stream_hd : PySem.W.hasDictIn K f23 = true)
    (o_Stream_po : PySem.W.plainOver K f23 = true)
    (o_Stream_sa : PySem.W.findIn K (.ref f23) "__setattr__" = some (some (.builtin "object.__setattr__")))
    (o_Stream_ma : PySem.W.makesIn K f23 = true)
    (o_Stream_kp : PySem.W.keepIn K (.ref f23) = true)
    (v_na_NoRow_place : PySem.W.findIn K (.ref f10) "place" = some none)
    (v_na_NoSuch_number : PySem.W.findIn K (.ref f11) "number" = some none)
    (v_na_NoField_name : PySem.W.findIn K (.ref f12) "name" = some none)
    (v_na_NoKind_name : PySem.W.findIn K (.ref f13) "name" = some none)
    (v_na_NoVeil_cell : PySem.W.findIn K (.ref f14) "cell" = some none)
    (v_na_Stream_arcs : PySem.W.findIn K (.ref f23) "arcs" = some none)
    (v_na_Stream_borne : PySem.W.findIn K (.ref f23) "borne" = some none)
    (v_na_Stream_steps : PySem.W.findIn K (.ref f23) "steps" = some none)
    (v_su_NoGroups_CrossError : subB K f8 f1 = true)
    (v_ki_NoGroups_CrossError : PySem.W.kitOne K (.ref f8) (.ref f1) = some true)
    (v_ki_NoGroups_NoFields : PySem.W.kitOne K (.ref f8) (.ref f2) = some false)
    (v_ki_NoGroups_NoSieve : PySem.W.kitOne K (.ref f8) (.ref f3) = some false)
    (v_ki_NoGroups_NoView : PySem.W.kitOne K (.ref f8) (.ref f4) = some false)
    (v_ki_NoGroups_NoHead : PySem.W.kitOne K (.ref f8) (.ref f5) = some false)
    (v_ki_NoGroups_NoNet : PySem.W.kitOne K (.ref f8) (.ref f6) = some false)
    (v_ki_NoGroups_NoWhole : PySem.W.kitOne K (.ref f8) (.ref f7) = some false)
    (v_ki_NoGroups_NoGroups : PySem.W.kitOne K (.ref f8) (.ref f8) = some true)
    (v_ki_NoGroups_NoLine : PySem.W.kitOne K (.ref f8) (.ref f9) = some false)
    (v_ki_NoGroups_NoRow : PySem.W.kitOne K (.ref f8) (.ref f10) = some false)
    (v_ki_NoGroups_NoSuch : PySem.W.kitOne K (.ref f8) (.ref f11) = some false)
    (v_ki_NoGroups_NoField : PySem.W.kitOne K (.ref f8) (.ref f12) = some false)
    (v_ki_NoGroups_NoKind : PySem.W.kitOne K (.ref f8) (.ref f13) = some false)
    (v_ki_NoGroups_NoVeil : PySem.W.kitOne K (.ref f8) (.ref f14) = some false)
    (v_kv_NoGroups : PySem.W.kitOne K (.ref f8) (.type "ValueError") = some true)
    (v_su_NoNet_CrossError : subB K f6 f1 = true)
    (v_ki_NoNet_CrossError : PySem.W.kitOne K (.ref f6) (.ref f1) = some true)
    (v_ki_NoNet_NoFields : PySem.W.kitOne K (.ref f6) (.ref f2) = some false)
    (v_ki_NoNet_NoSieve : PySem.W.kitOne K (.ref f6) (.ref f3) = some false)
    (v_ki_NoNet_NoView : PySem.W.kitOne K (.ref f6) (.ref f4) = some false)
    (v_ki_NoNet_NoHead : PySem.W.kitOne K (.ref f6) (.ref f5) = some false)
    (v_ki_NoNet_NoNet : PySem.W.kitOne K (.ref f6) (.ref f6) = some true)
    (v_ki_NoNet_NoWhole : PySem.W.kitOne K (.ref f6) (.ref f7) = some false)
    (v_ki_NoNet_NoGroups : PySem.W.kitOne K (.ref f6) (.ref f8) = some false)
    (v_ki_NoNet_NoLine : PySem.W.kitOne K (.ref f6) (.ref f9) = some false)
    (v_ki_NoNet_NoRow : PySem.W.kitOne K (.ref f6) (.ref f10) = some false)
    (v_ki_NoNet_NoSuch : PySem.W.kitOne K (.ref f6) (.ref f11) = some false)
    (v_ki_NoNet_NoField : PySem.W.kitOne K (.ref f6) (.ref f12) = some false)
    (v_ki_NoNet_NoKind : PySem.W.kitOne K (.ref f6) (.ref f13) = some false)
    (v_ki_NoNet_NoVeil : PySem.W.kitOne K (.ref f6) (.ref f14) = some false)
    (v_kv_NoNet : PySem.W.kitOne K (.ref f6) (.type "ValueError") = some true)
    (v_su_NoVeil_CrossError : subB K f14 f1 = true)
    (v_ki_NoVeil_CrossError : PySem.W.kitOne K (.ref f14) (.ref f1) = some true)
    (v_ki_NoVeil_NoFields : PySem.W.kitOne K (.ref f14) (.ref f2) = some false)
    (v_ki_NoVeil_NoSieve : PySem.W.kitOne K (.ref f14) (.ref f3) = some false)
    (v_ki_NoVeil_NoView : PySem.W.kitOne K (.ref f14) (.ref f4) = some false)
    (v_ki_NoVeil_NoHead : PySem.W.kitOne K (.ref f14) (.ref f5) = some false)
    (v_ki_NoVeil_NoNet : PySem.W.kitOne K (.ref f14) (.ref f6) = some false)
    (v_ki_NoVeil_NoWhole : PySem.W.kitOne K (.ref f14) (.ref f7) = some false)
    (v_ki_NoVeil_NoGroups : PySem.W.kitOne K (.ref f14) (.ref f8) = some false)
    (v_ki_NoVeil_NoLine : PySem.W.kitOne K (.ref f14) (.ref f9) = some false)
    (v_ki_NoVeil_NoRow : PySem.W.kitOne K (.ref f14) (.ref f10) = some false)
    (v_ki_NoVeil_NoSuch : PySem.W.kitOne K (.ref f14) (.ref f11) = some false)
    (v_ki_NoVeil_NoField : PySem.W.kitOne K (.ref f14) (.ref f12) = some false)
    (v_ki_NoVeil_NoKind : PySem.W.kitOne K (.ref f14) (.ref f13) = some false)
    (v_ki_NoVeil_NoVeil : PySem.W.kitOne K (.ref f14) (.ref f14) = some true)
    (v_kv_NoVeil : PySem.W.kitOne K (.ref f14) (.type "ValueError") = some true)
    (v_su_NoWhole_CrossError : subB K f7 f1 = true)
    (v_ki_NoWhole_CrossError : PySem.W.kitOne K (.ref f7) (.ref f1) = some true)
    (v_ki_NoWhole_NoFields : PySem.W.kitOne K (.ref f7) (.ref f2) = some false)
    (v_ki_NoWhole_NoSieve : PySem.W.kitOne K (.ref f7) (.ref f3) = some false)
    (v_ki_NoWhole_NoView : PySem.W.kitOne K (.ref f7) (.ref f4) = some false)
    (v_ki_NoWhole_NoHead : PySem.W.kitOne K (.ref f7) (.ref f5) = some false)
    (v_ki_NoWhole_NoNet : PySem.W.kitOne K (.ref f7) (.ref f6) = some false)
    (v_ki_NoWhole_NoWhole : PySem.W.kitOne K (.ref f7) (.ref f7) = some true)
    (v_ki_NoWhole_NoGroups : PySem.W.kitOne K (.ref f7) (.ref f8) = some false)
    (v_ki_NoWhole_NoLine : PySem.W.kitOne K (.ref f7) (.ref f9) = some false)
    (v_ki_NoWhole_NoRow : PySem.W.kitOne K (.ref f7) (.ref f10) = some false)
    (v_ki_NoWhole_NoSuch : PySem.W.kitOne K (.ref f7) (.ref f11) = some false)
    (v_ki_NoWhole_NoField : PySem.W.kitOne K (.ref f7) (.ref f12) = some false)
    (v_ki_NoWhole_NoKind : PySem.W.kitOne K (.ref f7) (.ref f13) = some false)
    (v_ki_NoWhole_NoVeil : PySem.W.kitOne K (.ref f7) (.ref f14) = some false)
    (v_kv_NoWhole : PySem.W.kitOne K (.ref f7) (.type "ValueError") = some true)
    (z_ValueError : PySem.W.nsIn K mainGlobals "ValueError" = some none)
    (z_all : PySem.W.nsIn K mainGlobals "all" = some none)
    (z_enumerate : PySem.W.nsIn K mainGlobals "enumerate" = some none)
    (z_isinstance : PySem.W.nsIn K mainGlobals "isinstance" = some none)
    (z_len : PySem.W.nsIn K mainGlobals "len" = some none)
    (z_list : PySem.W.nsIn K mainGlobals "list" = some none)
    (z_min : PySem.W.nsIn K mainGlobals "min" = some none)
    (z_range : PySem.W.nsIn K mainGlobals "range" = some none)
    (z_set : PySem.W.nsIn K mainGlobals "set" = some none)
    (z_sorted : PySem.W.nsIn K mainGlobals "sorted" = some none)
    (z_sum : PySem.W.nsIn K mainGlobals "sum" = some none)
    (z_zip : PySem.W.nsIn K mainGlobals "zip" = some none)
    {tk_MOST_NODES : Tok} (y_MOST_NODES : PySem.W.nsIn K mainGlobals "MOST_NODES" = some (some (.int (120) tk_MOST_NODES)))
    {tk_MOST_ARCS : Tok} (y_MOST_ARCS : PySem.W.nsIn K mainGlobals "MOST_ARCS" = some (some (.int (300) tk_MOST_ARCS)))
    {tk_MOST_GROUPS : Tok} (y_MOST_GROUPS : PySem.W.nsIn K mainGlobals "MOST_GROUPS" = some (some (.int (8) tk_MOST_GROUPS)))
    : ∃ f fd, Txt K mg f fd ∧ f 72 = f72 ∧ ∃ kV dc pm an cd ct, fd 72 = PySem.W.fnOf "law" "law" (defArgs s_law) (defBody s_law) (defScope s_law) .none kV dc pm an cd ct := by
  refine ⟨fun i => match i with | 18 => f18 | 19 => f19 | 20 => f20 | 21 => f21 | 25 => f25 | 26 => f26 | 29 => f29 | 30 => f30 | 32 => f32 | 33 => f33 | 34 => f34 | 35 => f35 | 36 => f36 | 37 => f37 | 42 => f42 | 43 => f43 | 45 => f45 | 46 => f46 | 47 => f47 | 48 => f48 | 51 => f51 | 54 => f54 | 55 => f55 | 56 => f56 | 66 => f66 | 68 => f68 | 69 => f69 | 70 => f70 | 71 => f71 | 72 => f72 | 11000 => f11000 | 12000 => f12000 | 13000 => f13000 | 14000 => f14000 | 15000 => f15000 | 24000 => f24000 | 24001 => f24001 | 24002 => f24002 | 1 => f1 | 2 => f2 | 3 => f3 | 4 => f4 | 5 => f5 | 6 => f6 | 7 => f7 | 8 => f8 | 9 => f9 | 10 => f10 | 11 => f11 | 12 => f12 | 13 => f13 | 14 => f14 | 23 => f23 | _ => 0, fun i => match i with | 18 => PySem.W.fnOf "asked_arc" "asked_arc" (defArgs s_asked_arc) (defBody s_asked_arc) (defScope s_asked_arc) .none kV18 dc18 pm18 an18 cd18 ct18 | 19 => PySem.W.fnOf "asked_net" "asked_net" (defArgs s_asked_net) (defBody s_asked_net) (defScope s_asked_net) .none kV19 dc19 pm19 an19 cd19 ct19 | 20 => PySem.W.fnOf "gains" "gains" (defArgs s_gains) (defBody s_gains) (defScope s_gains) .none kV20 dc20 pm20 an20 cd20 ct20 | 21 => PySem.W.fnOf "holds_flow" "holds_flow" (defArgs s_holds_flow) (defBody s_holds_flow) (defScope s_holds_flow) .none kV21 dc21 pm21 an21 cd21 ct21 | 25 => PySem.W.fnOf "flow_of" "flow_of" (defArgs s_flow_of) (defBody s_flow_of) (defScope s_flow_of) .none kV25 dc25 pm25 an25 cd25 ct25 | 26 => PySem.W.fnOf "asked_flow" "asked_flow" (defArgs s_asked_flow) (defBody s_asked_flow) (defScope s_asked_flow) .none kV26 dc26 pm26 an26 cd26 ct26 | 29 => PySem.W.fnOf "greatest_on" "greatest_on" (defArgs s_greatest_on) (defBody s_greatest_on) (defScope s_greatest_on) .none kV29 dc29 pm29 an29 cd29 ct29 | 30 => PySem.W.fnOf "least_on" "least_on" (defArgs s_least_on) (defBody s_least_on) (defScope s_least_on) .none kV30 dc30 pm30 an30 cd30 ct30 | 32 => PySem.W.fnOf "asked_cell" "asked_cell" (defArgs s_asked_cell) (defBody s_asked_cell) (defScope s_asked_cell) .none kV32 dc32 pm32 an32 cd32 ct32 | 33 => PySem.W.fnOf "number_at" "number_at" (defArgs s_number_at) (defBody s_number_at) (defScope s_number_at) .none kV33 dc33 pm33 an33 cd33 ct33 | 34 => PySem.W.fnOf "sum_of_all" "sum_of_all" (defArgs s_sum_of_all) (defBody s_sum_of_all) (defScope s_sum_of_all) .none kV34 dc34 pm34 an34 cd34 ct34 | 35 => PySem.W.fnOf "column_node" "column_node" (defArgs s_column_node) (defBody s_column_node) (defScope s_column_node) .none kV35 dc35 pm35 an35 cd35 ct35 | 36 => PySem.W.fnOf "others_of" "others_of" (defArgs s_others_of) (defBody s_others_of) (defScope s_others_of) .none kV36 dc36 pm36 an36 cd36 ct36 | 37 => PySem.W.fnOf "stream_of" "stream_of" (defArgs s_stream_of) (defBody s_stream_of) (defScope s_stream_of) .none kV37 dc37 pm37 an37 cd37 ct37 | 42 => PySem.W.fnOf "could_be" "could_be" (defArgs s_could_be) (defBody s_could_be) (defScope s_could_be) .none kV42 dc42 pm42 an42 cd42 ct42 | 43 => PySem.W.fnOf "is_outright" "is_outright" (defArgs s_is_outright) (defBody s_is_outright) (defScope s_is_outright) .none kV43 dc43 pm43 an43 cd43 ct43 | 45 => PySem.W.fnOf "boxes_of" "boxes_of" (defArgs s_boxes_of) (defBody s_boxes_of) (defScope s_boxes_of) .none kV45 dc45 pm45 an45 cd45 ct45 | 46 => PySem.W.fnOf "is_small" "is_small" (defArgs s_is_small) (defBody s_is_small) (defScope s_is_small) .none kV46 dc46 pm46 an46 cd46 ct46 | 47 => PySem.W.fnOf "first_outright" "first_outright" (defArgs s_first_outright) (defBody s_first_outright) (defScope s_first_outright) .none kV47 dc47 pm47 an47 cd47 ct47 | 48 => PySem.W.fnOf "veil" "veil" (defArgs s_veil) (defBody s_veil) (defScope s_veil) .none kV48 dc48 pm48 an48 cd48 ct48 | 51 => PySem.W.fnOf "dealt" "dealt" (defArgs s_dealt) (defBody s_dealt) (defScope s_dealt) .none kV51 dc51 pm51 an51 cd51 ct51 | 54 => PySem.W.fnOf "asked_group" "asked_group" (defArgs s_asked_group) (defBody s_asked_group) (defScope s_asked_group) .none kV54 dc54 pm54 an54 cd54 ct54 | 55 => PySem.W.fnOf "asked_pair" "asked_pair" (defArgs s_asked_pair) (defBody s_asked_pair) (defScope s_asked_pair) .none kV55 dc55 pm55 an55 cd55 ct55 | 56 => PySem.W.fnOf "asked_groups" "asked_groups" (defArgs s_asked_groups) (defBody s_asked_groups) (defScope s_asked_groups) .none kV56 dc56 pm56 an56 cd56 ct56 | 66 => PySem.W.fnOf "parts" "parts" (defArgs s_parts) (defBody s_parts) (defScope s_parts) .none kV66 dc66 pm66 an66 cd66 ct66 | 68 => PySem.W.fnOf "_law_draw" "_law_draw" (defArgs s_l_draw) (defBody s_l_draw) (defScope s_l_draw) .none kV68 dc68 pm68 an68 cd68 ct68 | 69 => PySem.W.fnOf "_law_kinds" "_law_kinds" (defArgs s_l_kinds) (defBody s_l_kinds) (defScope s_l_kinds) .none kV69 dc69 pm69 an69 cd69 ct69 | 70 => PySem.W.fnOf "_law_deed" "_law_deed" (defArgs s_l_deed) (defBody s_l_deed) (defScope s_l_deed) .none kV70 dc70 pm70 an70 cd70 ct70 | 71 => PySem.W.fnOf "_law_told" "_law_told" (defArgs s_l_told) (defBody s_l_told) (defScope s_l_told) .none kV71 dc71 pm71 an71 cd71 ct71 | 72 => PySem.W.fnOf "law" "law" (defArgs s_law) (defBody s_law) (defScope s_law) .none kV72 dc72 pm72 an72 cd72 ct72 | 11000 => PySem.W.fnOf "__init__" "NoRow.__init__" (defArgs s_NoRow___init__) (defBody s_NoRow___init__) (defScope s_NoRow___init__) .none kV11000 dc11000 pm11000 an11000 cd11000 ct11000 | 12000 => PySem.W.fnOf "__init__" "NoSuch.__init__" (defArgs s_NoSuch___init__) (defBody s_NoSuch___init__) (defScope s_NoSuch___init__) .none kV12000 dc12000 pm12000 an12000 cd12000 ct12000 | 13000 => PySem.W.fnOf "__init__" "NoField.__init__" (defArgs s_NoField___init__) (defBody s_NoField___init__) (defScope s_NoField___init__) .none kV13000 dc13000 pm13000 an13000 cd13000 ct13000 | 14000 => PySem.W.fnOf "__init__" "NoKind.__init__" (defArgs s_NoKind___init__) (defBody s_NoKind___init__) (defScope s_NoKind___init__) .none kV14000 dc14000 pm14000 an14000 cd14000 ct14000 | 15000 => PySem.W.fnOf "__init__" "NoVeil.__init__" (defArgs s_NoVeil___init__) (defBody s_NoVeil___init__) (defScope s_NoVeil___init__) .none kV15000 dc15000 pm15000 an15000 cd15000 ct15000 | 24000 => PySem.W.fnOf "__init__" "Stream.__init__" (defArgs s_Stream___init__) (defBody s_Stream___init__) (defScope s_Stream___init__) .none kV24000 dc24000 pm24000 an24000 cd24000 ct24000 | 24001 => PySem.W.fnOf "room" "Stream.room" (defArgs s_Stream_room) (defBody s_Stream_room) (defScope s_Stream_room) .none kV24001 dc24001 pm24001 an24001 cd24001 ct24001 | 24002 => PySem.W.fnOf "reach" "Stream.reach" (defArgs s_Stream_reach) (defBody s_Stream_reach) (defScope s_Stream_reach) .none kV24002 dc24002 pm24002 an24002 cd24002 ct24002 | _ => PySem.W.fnOf "law" "law" (defArgs s_law) (defBody s_law) (defScope s_law) .none kV72 dc72 pm72 an72 cd72 ct72, ⟨?_, ?_, ?_, ?_, ?_, ?_, ?_, ?_, ?_, ?_, ?_, ?_, ?_, ?_, ?_, ?_, ?_, ?_, ?_, ?_, ?_, ?_, ?_, ?_, ?_, ?_, ?_, ?_, ?_, ?_, ?_, ?_, ?_, ?_, ?_, ?_, ?_, ?_, ?_, ?_, ?_, ?_, ?_, ?_, ?_, ?_, ?_, ?_, ?_, ?_, ?_, ?_, ?_, ?_, ?_, ?_, ?_, ?_, ?_, ?_, ?_, ?_, ?_, ?_, ?_, ?_, ?_, ?_, ?_, ?_, ?_, ?_, ?_, ?_, ?_, ?_, ?_, ?_, ?_, ?_, ?_, ?_, ?_, ?_, ?_, ?_, ?_, ?_, ?_, ?_, ?_, ?_, ?_, ?_, ?_, ?_, ?_, ?_, ?_, ?_, ?_, ?_, ?_, ?_, ?_, ?_, ?_, ?_, ?_, ?_, ?_, ?_, ?_, ?_, ?_, ?_, ?_, ?_, ?_, ?_, ?_, ?_, ?_, ?_, ?_, ?_, ?_, ?_, ?_, ?_, ?_, ?_, ?_, ?_, ?_, ?_, ?_, ?_, ?_, ?_, ?_, ?_⟩, rfl, _, _, _, _, _, _, rfl⟩
  · exact (by have F := fun_mk (st := s_asked_arc) l18 c18 k18; exact ⟨F, F.binds (ps := ["many", "arc"]) fun _ _ _ _ _ _ us hl => lenB2 (fun _ _ => rfl) us hl, PySem.W.mg_of X G a18⟩)
  · exact (by have F := fun_mk (st := s_asked_net) l19 c19 k19; exact ⟨F, F.binds (ps := ["many", "arcs"]) fun _ _ _ _ _ _ us hl => lenB2 (fun _ _ => rfl) us hl, PySem.W.mg_of X G a19⟩)
  · exact (by have F := fun_mk (st := s_gains) l20 c20 k20; exact ⟨F, F.binds (ps := ["many", "arcs", "flow"]) fun _ _ _ _ _ _ us hl => lenB3 (fun _ _ _ => rfl) us hl, PySem.W.mg_of X G a20⟩)
  · exact (by have F := fun_mk (st := s_holds_flow) l21 c21 k21; exact ⟨F, F.binds (ps := ["many", "arcs", "flow"]) fun _ _ _ _ _ _ us hl => lenB3 (fun _ _ _ => rfl) us hl, PySem.W.mg_of X G a21⟩)
  · exact (by have F := fun_mk (st := s_flow_of) l25 c25 k25; exact ⟨F, F.binds (ps := ["many", "arcs"]) fun _ _ _ _ _ _ us hl => lenB2 (fun _ _ => rfl) us hl, PySem.W.mg_of X G a25⟩)
  · exact (by have F := fun_mk (st := s_asked_flow) l26 c26 k26; exact ⟨F, F.binds (ps := ["many", "arcs", "flow"]) fun _ _ _ _ _ _ us hl => lenB3 (fun _ _ _ => rfl) us hl, PySem.W.mg_of X G a26⟩)
  · exact (by have F := fun_mk (st := s_greatest_on) l29 c29 k29; exact ⟨F, F.binds (ps := ["many", "arcs", "flow", "at"]) fun _ _ _ _ _ _ us hl => lenB4 (fun _ _ _ _ => rfl) us hl, PySem.W.mg_of X G a29⟩)
  · exact (by have F := fun_mk (st := s_least_on) l30 c30 k30; exact ⟨F, F.binds (ps := ["many", "arcs", "flow", "at"]) fun _ _ _ _ _ _ us hl => lenB4 (fun _ _ _ _ => rfl) us hl, PySem.W.mg_of X G a30⟩)
  · exact (by have F := fun_mk (st := s_asked_cell) l32 c32 k32; exact ⟨F, F.binds (ps := ["grid", "hidden", "cell"]) fun _ _ _ _ _ _ us hl => lenB3 (fun _ _ _ => rfl) us hl, PySem.W.mg_of X G a32⟩)
  · exact (by have F := fun_mk (st := s_number_at) l33 c33 k33; exact ⟨F, F.binds (ps := ["grid", "cell"]) fun _ _ _ _ _ _ us hl => lenB2 (fun _ _ => rfl) us hl, PySem.W.mg_of X G a33⟩)
  · exact (by have F := fun_mk (st := s_sum_of_all) l34 c34 k34; exact ⟨F, F.binds (ps := ["grid"]) fun _ _ _ _ _ _ us hl => lenB1 (fun _ => rfl) us hl, PySem.W.mg_of X G a34⟩)
  · exact (by have F := fun_mk (st := s_column_node) l35 c35 k35; exact ⟨F, F.binds (ps := ["grid", "column"]) fun _ _ _ _ _ _ us hl => lenB2 (fun _ _ => rfl) us hl, PySem.W.mg_of X G a35⟩)
  · exact (by have F := fun_mk (st := s_others_of) l36 c36 k36; exact ⟨F, F.binds (ps := ["hidden", "cell"]) fun _ _ _ _ _ _ us hl => lenB2 (fun _ _ => rfl) us hl, PySem.W.mg_of X G a36⟩)
  · exact (by have F := fun_mk (st := s_stream_of) l37 c37 k37; exact ⟨F, F.binds (ps := ["grid", "boxes"]) fun _ _ _ _ _ _ us hl => lenB2 (fun _ _ => rfl) us hl, PySem.W.mg_of X G a37⟩)
  · exact (by have F := fun_mk (st := s_could_be) l42 c42 k42; exact ⟨F, F.binds (ps := ["grid", "hidden", "cell"]) fun _ _ _ _ _ _ us hl => lenB3 (fun _ _ _ => rfl) us hl, PySem.W.mg_of X G a42⟩)
  · exact (by have F := fun_mk (st := s_is_outright) l43 c43 k43; exact ⟨F, F.binds (ps := ["grid", "hidden", "cell"]) fun _ _ _ _ _ _ us hl => lenB3 (fun _ _ _ => rfl) us hl, PySem.W.mg_of X G a43⟩)
  · exact (by have F := fun_mk (st := s_boxes_of) l45 c45 k45; exact ⟨F, F.binds (ps := ["grid"]) fun _ _ _ _ _ _ us hl => lenB1 (fun _ => rfl) us hl, PySem.W.mg_of X G a45⟩)
  · exact (by have F := fun_mk (st := s_is_small) l46 c46 k46; exact ⟨F, F.binds (ps := ["grid", "box", "few"]) fun _ _ _ _ _ _ us hl => lenB3 (fun _ _ _ => rfl) us hl, PySem.W.mg_of X G a46⟩)
  · exact (by have F := fun_mk (st := s_first_outright) l47 c47 k47; exact ⟨F, F.binds (ps := ["grid", "hidden", "small"]) fun _ _ _ _ _ _ us hl => lenB3 (fun _ _ _ => rfl) us hl, PySem.W.mg_of X G a47⟩)
  · exact (by have F := fun_mk (st := s_veil) l48 c48 k48; exact ⟨F, F.binds (ps := ["grid", "few"]) fun _ _ _ _ _ _ us hl => lenB2 (fun _ _ => rfl) us hl, PySem.W.mg_of X G a48⟩)
  · exact (by have F := fun_mk (st := s_dealt) l51 c51 k51; exact ⟨F, F.binds (ps := ["weights", "many"]) fun _ _ _ _ _ _ us hl => lenB2 (fun _ _ => rfl) us hl, PySem.W.mg_of X G a51⟩)
  · exact (by have F := fun_mk (st := s_asked_group) l54 c54 k54; exact ⟨F, F.binds (ps := ["group", "many"]) fun _ _ _ _ _ _ us hl => lenB2 (fun _ _ => rfl) us hl, PySem.W.mg_of X G a54⟩)
  · exact (by have F := fun_mk (st := s_asked_pair) l55 c55 k55; exact ⟨F, F.binds (ps := ["one", "other"]) fun _ _ _ _ _ _ us hl => lenB2 (fun _ _ => rfl) us hl, PySem.W.mg_of X G a55⟩)
  · exact (by have F := fun_mk (st := s_asked_groups) l56 c56 k56; exact ⟨F, F.binds (ps := ["groups", "many"]) fun _ _ _ _ _ _ us hl => lenB2 (fun _ _ => rfl) us hl, PySem.W.mg_of X G a56⟩)
  · exact (by have F := fun_mk (st := s_parts) l66 c66 k66; exact ⟨F, F.binds (ps := ["grid", "many", "row_groups", "column_groups"]) fun _ _ _ _ _ _ us hl => lenB4 (fun _ _ _ _ => rfl) us hl, PySem.W.mg_of X G a66⟩)
  · exact (by have F := fun_mk (st := s_l_draw) l68 c68 k68; exact ⟨F, F.binds (ps := ["_law_script", "_law_k", "_law_many"]) fun _ _ _ _ _ _ us hl => lenB3 (fun _ _ _ => rfl) us hl, PySem.W.mg_of X G a68⟩)
  · exact (by have F := fun_mk (st := s_l_kinds) l69 c69 k69; exact ⟨F, F.binds (ps := ["_law_e"]) fun _ _ _ _ _ _ us hl => lenB1 (fun _ => rfl) us hl, PySem.W.mg_of X G a69⟩)
  · exact (by have F := fun_mk (st := s_l_deed) l70 c70 k70; exact ⟨F, F.binds (ps := ["_law_sort", "_law_number", "_law_size"]) fun _ _ _ _ _ _ us hl => lenB3 (fun _ _ _ => rfl) us hl, PySem.W.mg_of X G a70⟩)
  · exact (by have F := fun_mk (st := s_l_told) l71 c71 k71; exact ⟨F, F.binds (ps := ["_law_sort", "_law_number", "_law_size"]) fun _ _ _ _ _ _ us hl => lenB3 (fun _ _ _ => rfl) us hl, PySem.W.mg_of X G a71⟩)
  · exact (by have F := fun_mk (st := s_law) l72 c72 k72; exact ⟨F, F.binds (ps := ["_law_script"]) fun _ _ _ _ _ _ us hl => lenB1 (fun _ => rfl) us hl, PySem.W.mg_of X G a72⟩)
  · exact (by have F := fun_mk (st := s_NoRow___init__) l11000 c11000 k11000; exact ⟨F, F.binds (ps := ["self", "place"]) fun _ _ _ _ _ _ us hl => lenB2 (fun _ _ => rfl) us hl, b11000⟩)
  · exact (by have F := fun_mk (st := s_NoSuch___init__) l12000 c12000 k12000; exact ⟨F, F.binds (ps := ["self", "number"]) fun _ _ _ _ _ _ us hl => lenB2 (fun _ _ => rfl) us hl, b12000⟩)
  · exact (by have F := fun_mk (st := s_NoField___init__) l13000 c13000 k13000; exact ⟨F, F.binds (ps := ["self", "name"]) fun _ _ _ _ _ _ us hl => lenB2 (fun _ _ => rfl) us hl, b13000⟩)
  · exact (by have F := fun_mk (st := s_NoKind___init__) l14000 c14000 k14000; exact ⟨F, F.binds (ps := ["self", "name"]) fun _ _ _ _ _ _ us hl => lenB2 (fun _ _ => rfl) us hl, b14000⟩)
  · exact (by have F := fun_mk (st := s_NoVeil___init__) l15000 c15000 k15000; exact ⟨F, F.binds (ps := ["self", "cell"]) fun _ _ _ _ _ _ us hl => lenB2 (fun _ _ => rfl) us hl, b15000⟩)
  · exact (by have F := fun_mk (st := s_Stream___init__) l24000 c24000 k24000; exact ⟨F, F.binds (ps := ["self", "many", "arcs", "flow"]) fun _ _ _ _ _ _ us hl => lenB4 (fun _ _ _ _ => rfl) us hl, b24000⟩)
  · exact (by have F := fun_mk (st := s_Stream_room) l24001 c24001 k24001; exact ⟨F, F.binds (ps := ["self", "place", "sign"]) fun _ _ _ _ _ _ us hl => lenB3 (fun _ _ _ => rfl) us hl, b24001⟩)
  · exact (by have F := fun_mk (st := s_Stream_reach) l24002 c24002 k24002; exact ⟨F, F.binds (ps := ["self", "start"]) fun _ _ _ _ _ _ us hl => lenB2 (fun _ _ => rfl) us hl, b24002⟩)
  · exact ⟨PySem.W.mg_of X G a2⟩
  · exact ⟨PySem.W.mg_of X G a3⟩
  · exact ⟨PySem.W.mg_of X G a4⟩
  · exact ⟨PySem.W.mg_of X G a5⟩
  · exact ⟨PySem.W.mg_of X G a9⟩
  · exact ⟨PySem.W.mg_of X G a10⟩
  · exact ⟨PySem.W.mg_of X G a11⟩
  · exact ⟨PySem.W.mg_of X G a12⟩
  · exact ⟨PySem.W.mg_of X G a13⟩
  · exact (exc_mk X G a1 x_CrossError_e x_CrossError_kp x_CrossError_ga x_CrossError_gh x_CrossError_ba x_CrossError_ob x_CrossError_hd x_CrossError_cl x_CrossError_cg x_CrossError_ct x_CrossError_sa)
  · exact (exc_mk X G a6 x_NoNet_e x_NoNet_kp x_NoNet_ga x_NoNet_gh x_NoNet_ba x_NoNet_ob x_NoNet_hd x_NoNet_cl x_NoNet_cg x_NoNet_ct x_NoNet_sa)
  · exact (exc_mk X G a7 x_NoWhole_e x_NoWhole_kp x_NoWhole_ga x_NoWhole_gh x_NoWhole_ba x_NoWhole_ob x_NoWhole_hd x_NoWhole_cl x_NoWhole_cg x_NoWhole_ct x_NoWhole_sa)
  · exact (exc_mk X G a8 x_NoGroups_e x_NoGroups_kp x_NoGroups_ga x_NoGroups_gh x_NoGroups_ba x_NoGroups_ob x_NoGroups_hd x_NoGroups_cl x_NoGroups_cg x_NoGroups_ct x_NoGroups_sa)
  · exact (exc_mk X G a14 x_NoVeil_e x_NoVeil_kp x_NoVeil_ga x_NoVeil_gh x_NoVeil_ba x_NoVeil_ob x_NoVeil_hd x_NoVeil_cl x_NoVeil_cg x_NoVeil_ct x_NoVeil_sa)
  · exact (own_mk X G a23 o_Stream_pg o_Stream_hd o_Stream_po o_Stream_sa o_Stream_ma a24000 b24000 o_Stream_kp)
  · exact ⟨a24001, b24001, k24001⟩
  · exact ⟨a24002, b24002, k24002⟩
  · exact v_na_NoRow_place
  · exact v_na_NoSuch_number
  · exact v_na_NoField_name
  · exact v_na_NoKind_name
  · exact v_na_NoVeil_cell
  · exact v_na_Stream_arcs
  · exact v_na_Stream_borne
  · exact v_na_Stream_steps
  · exact v_su_NoGroups_CrossError
  · exact v_ki_NoGroups_CrossError
  · exact v_ki_NoGroups_NoFields
  · exact v_ki_NoGroups_NoSieve
  · exact v_ki_NoGroups_NoView
  · exact v_ki_NoGroups_NoHead
  · exact v_ki_NoGroups_NoNet
  · exact v_ki_NoGroups_NoWhole
  · exact v_ki_NoGroups_NoGroups
  · exact v_ki_NoGroups_NoLine
  · exact v_ki_NoGroups_NoRow
  · exact v_ki_NoGroups_NoSuch
  · exact v_ki_NoGroups_NoField
  · exact v_ki_NoGroups_NoKind
  · exact v_ki_NoGroups_NoVeil
  · exact v_kv_NoGroups
  · exact v_su_NoNet_CrossError
  · exact v_ki_NoNet_CrossError
  · exact v_ki_NoNet_NoFields
  · exact v_ki_NoNet_NoSieve
  · exact v_ki_NoNet_NoView
  · exact v_ki_NoNet_NoHead
  · exact v_ki_NoNet_NoNet
  · exact v_ki_NoNet_NoWhole
  · exact v_ki_NoNet_NoGroups
  · exact v_ki_NoNet_NoLine
  · exact v_ki_NoNet_NoRow
  · exact v_ki_NoNet_NoSuch
  · exact v_ki_NoNet_NoField
  · exact v_ki_NoNet_NoKind
  · exact v_ki_NoNet_NoVeil
  · exact v_kv_NoNet
  · exact v_su_NoVeil_CrossError
  · exact v_ki_NoVeil_CrossError
  · exact v_ki_NoVeil_NoFields
  · exact v_ki_NoVeil_NoSieve
  · exact v_ki_NoVeil_NoView
  · exact v_ki_NoVeil_NoHead
  · exact v_ki_NoVeil_NoNet
  · exact v_ki_NoVeil_NoWhole
  · exact v_ki_NoVeil_NoGroups
  · exact v_ki_NoVeil_NoLine
  · exact v_ki_NoVeil_NoRow
  · exact v_ki_NoVeil_NoSuch
  · exact v_ki_NoVeil_NoField
  · exact v_ki_NoVeil_NoKind
  · exact v_ki_NoVeil_NoVeil
  · exact v_kv_NoVeil
  · exact v_su_NoWhole_CrossError
  · exact v_ki_NoWhole_CrossError
  · exact v_ki_NoWhole_NoFields
  · exact v_ki_NoWhole_NoSieve
  · exact v_ki_NoWhole_NoView
  · exact v_ki_NoWhole_NoHead
  · exact v_ki_NoWhole_NoNet
  · exact v_ki_NoWhole_NoWhole
  · exact v_ki_NoWhole_NoGroups
  · exact v_ki_NoWhole_NoLine
  · exact v_ki_NoWhole_NoRow
  · exact v_ki_NoWhole_NoSuch
  · exact v_ki_NoWhole_NoField
  · exact v_ki_NoWhole_NoKind
  · exact v_ki_NoWhole_NoVeil
  · exact v_kv_NoWhole
  · exact (PySem.W.mg_none_of X G z_ValueError)
  · exact (PySem.W.mg_none_of X G z_all)
  · exact (PySem.W.mg_none_of X G z_enumerate)
  · exact (PySem.W.mg_none_of X G z_isinstance)
  · exact (PySem.W.mg_none_of X G z_len)
  · exact (PySem.W.mg_none_of X G z_list)
  · exact (PySem.W.mg_none_of X G z_min)
  · exact (PySem.W.mg_none_of X G z_range)
  · exact (PySem.W.mg_none_of X G z_set)
  · exact (PySem.W.mg_none_of X G z_sorted)
  · exact (PySem.W.mg_none_of X G z_sum)
  · exact (PySem.W.mg_none_of X G z_zip)
  · exact ⟨_, PySem.W.mg_of X G y_MOST_NODES⟩
  · exact ⟨_, PySem.W.mg_of X G y_MOST_ARCS⟩
  · exact ⟨_, PySem.W.mg_of X G y_MOST_GROUPS⟩
section
variable {P : Program} {w : World} {K : PySem.W.Frag} {mg : Str → Option Value} {base : Heap} {f : Nat → Addr} {fd : Nat → FuncData}
theorem scal_ii (i j : Int) : scal (.int i) (.int j) = true := rfl
theorem scal_bb (i j : Bool) : scal (.bl i) (.bl j) = true := rfl
local macro_rules | `(tactic| walk_at "dl") => `(tactic| ((try dsimp only [cxOf, L2.Cx.inTry, L2.Cx.inHand]); simp only [L2.start, tSeq, tNext, tIfS, tRet, tRetN, tAsg, tDrop, gName, tVar, tC, tOp, tUn, tCall, tCB, tCons, tNil, tTest, tB, tNot, tAnd, tOr, tAndV, tOrV, tNotV, tIf, tChain, tLst, tTup, tBM, tBM0, rI, rI0, rU, rEq, rNe, scal_ii, scal_bb, tComp, iStr, iList, iTup, iRng1, iRng2, tYes, rIsP, rAll, rLenS, rLenV, rListOf, rTupleOf, tDisp, tPairs, tSl, tPart, tNoPart, rSlS, rSlL, rFind, rStarts, rIntT, rStrA, rRepS, tCallX, tRaise, tRaiseI, tTry, tAs, offE, tXF, sXset, tMethX, tMakeX, rIsX, tFld, sFld, tMeth, rSortD, rDPop, tDNewK, tDIn, tDNotIn, tDGet, sDPut, rIndexS, tStop, tAugS, ipI, iZip, gSub, tAug, iEnum, tMake, tDisp, tPairs, tBreak, tSortSet, 
  List.map_cons, List.map_nil, List.cons_append, List.nil_append, List.length_cons, List.length_nil, List.getElem?_cons_zero, List.getElem?_cons_succ, Option.some.injEq, exists_eq_left', exists_eq_left, List.set_cons_zero, List.set_cons_succ, List.cons.injEq, and_true, true_and, V.int.injEq, V.str.injEq, V.bl.injEq, V.ref.injEq, V.ty.injEq, exists_and_left, exists_and_right, List.append_nil, reduceCtorEq, false_and, and_false, exists_false, or_false, false_or, decide_true, decide_false, Bool.not_true, Bool.not_false, if_true, if_false, Bool.false_eq_true, ite_true, ite_false, and_assoc, Nat.reduceAdd, Nat.reduceSub, List.replicate_succ, List.replicate_zero, Nat.zero_add, Nat.add_zero, Nat.sub_self, Int.reduceEq, Int.reduceLT, Int.reduceLE, ↓reduceIte, decide_eq_true_eq]))
theorem getD_of {α : Type} {l : List α} {i : Nat} {x d : α} (h : l[i]? = some x) : l.getD i d = x := by rw [List.getD_eq_getElem?_getD, h]; rfl
theorem ixN_nat {n j : Nat} (h : j < n) : ixN n (j : Int) = some j := by
  unfold ixN
  rw [if_pos (by omega), if_pos (by omega), Int.toNat_natCast]
theorem ints_reps {K : PySem.W.Frag} {H : Hp} : ∀ zs : List Int, Reps K H (zs.map .int) (zs.map V.int) ∧ PyData.canLayAll0 (zs.map .int) = true ∧ PyData.depthAll (zs.map .int) = 0
  | [] => by simp [Reps, PyData.canLayAll0, PyData.depthAll]
  | z :: zs => by
    obtain ⟨h1, h2, h3⟩ := ints_reps (K := K) (H := H) zs
    refine ⟨?_, ?_, ?_⟩
    · simp only [List.map_cons, Reps]
      exact ⟨_, _, rfl, by simp [Rep], h1⟩
    · simp [PyData.canLayAll0, PyData.canLay0, h2]
    · simp [PyData.depthAll, PyData.depth, h3]
theorem ints_eqv : ∀ a b : List Int, PyData.eqvAll (a.map .int) (b.map .int) = decide (a = b)
  | [], [] => by simp [PyData.eqvAll]
  | [], _ :: _ => by simp [PyData.eqvAll]
  | _ :: _, [] => by simp [PyData.eqvAll]
  | x :: a, y :: b => by
    simp only [List.map_cons, PyData.eqvAll, ints_eqv a b]
    by_cases e : x = y <;> simp [PyData.eqv, e]
theorem rep_zero (m : Nat) : (List.replicate m [V.int 0]).flatten = (List.replicate m (0 : Int)).map V.int := by
  induction m with
  | zero => rfl
  | succ m ih => rw [List.replicate_succ, List.flatten_cons, ih, List.replicate_succ]; rfl
theorem eqI_of {K : PySem.W.Frag} {H : Hp} {a b : Addr} {x y : List Int} {neg : Bool} {Q : VK} (h1 : H a = some (.lst (x.map V.int))) (h2 : H b = some (.lst (y.map V.int))) (q : Q (.bl (if neg then !decide (x = y) else decide (x = y))) H) : rEqD K neg (.ref a) (.ref b) H Q := by
  have sh : ∀ zs : List Int, SeqAt.shaped (.list (zs.map .int)) = true := fun zs => by
    obtain ⟨_, r2, r3⟩ := ints_reps (K := K) (H := H) zs
    unfold SeqAt.shaped
    simp only [PyData.canLay0, PyData.depth, r2, Bool.true_and]
    exact decide_eq_true (by omega)
  refine ⟨.list (x.map .int), .list (y.map .int), ?_, ?_, sh x, sh y, ?_⟩
  · simp only [Rep]; exact ⟨a, _, rfl, .of h1, (ints_reps x).1⟩
  · simp only [Rep]; exact ⟨b, _, rfl, .of h2, (ints_reps y).1⟩
  · have e : PyData.eqv (.list (x.map .int)) (.list (y.map .int)) = decide (x = y) := by simp only [PyData.eqv]; exact ints_eqv x y
    rw [e]
    exact q
noncomputable def stepG (g : List Int) (A : Arc) (x : Int) : List Int := (g.set A.a.toNat (g.getD A.a.toNat 0 - x)).set A.b.toNat ((g.set A.a.toNat (g.getD A.a.toNat 0 - x)).getD A.b.toNat 0 + x)
noncomputable def gainsF (m : Nat) (as : List Arc) (fl : List Int) : Nat → List Int
  | 0 => List.replicate m 0
  | i + 1 => stepG (gainsF m as fl i) (as.getD i default) (fl.getD i 0)
theorem gainsF_len (m : Nat) (as : List Arc) (fl : List Int) : ∀ i, (gainsF m as fl i).length = m
  | 0 => List.length_replicate
  | i + 1 => by
    show (stepG (gainsF m as fl i) _ _).length = m
    unfold stepG
    rw [List.length_set, List.length_set, gainsF_len m as fl i]
noncomputable def inB (A : Arc) (x : Int) : Bool := decide (A.l ≤ x) && decide (x ≤ A.u)
noncomputable def boundsF (as : List Arc) (fl : List Int) : Nat → Bool
  | 0 => true
  | i + 1 => boundsF as fl i && inB (as.getD i default) (fl.getD i 0)
noncomputable def holdsF (m : Nat) (as : List Arc) (fl : List Int) : Bool := decide (fl.length = as.length) && (boundsF as fl as.length && decide (gainsF m as fl as.length = List.replicate m 0))
theorem bounds_all (as : List Arc) (fl : List Int) : ∀ n, ((List.range n).map fun j => inB (as.getD j default) (fl.getD j 0)).all id = boundsF as fl n
  | 0 => rfl
  | n + 1 => by
    rw [List.range_succ, List.map_append, List.all_append, bounds_all as fl n]
    simp [boundsF]
theorem bounds_false {as : List Arc} {fl : List Int} {i : Nat} {A : Arc} {n : Int} (hb : inB A n = false) (hA : as[i]? = some A) (hn : fl[i]? = some n) : ∀ {k : Nat}, i < k → boundsF as fl k = false
  | k + 1, h => by
    show (boundsF as fl k && inB (as.getD k default) (fl.getD k 0)) = false
    rcases Nat.lt_succ_iff_lt_or_eq.mp h with h | rfl
    · rw [bounds_false hb hA hn h, Bool.false_and]
    · rw [show as.getD i default = A by rw [List.getD_eq_getElem?_getD, hA]; rfl, show fl.getD i 0 = n by rw [List.getD_eq_getElem?_getD, hn]; rfl, hb, Bool.and_false]
theorem map_set_int (fl : List Int) (k : Nat) (v : Int) : (fl.map V.int).set k (.int v) = (fl.set k v).map V.int := by rw [List.map_set]
noncomputable def boxD (b : Box) : PyData := .tuple [.int b.1, .int b.2]
theorem boxD_rep {H : Hp} {x : V} {b : Box} (h : BoxAt H x b) : Rep K H (boxD b) x := by
  obtain ⟨p, rfl, hp⟩ := h
  unfold boxD
  simp only [Rep]
  exact ⟨p, _, rfl, .of hp, by simp [Reps, Rep]⟩
theorem boxD_shape (b : Box) : SeqAt.shaped (boxD b) = true := by
  unfold boxD
  simp [SeqAt.shaped, PyData.canLay0, PyData.canLayAll0, PyData.depth, PyData.depthAll]
theorem boxD_eq (b c : Box) : PyData.eqv (boxD b) (boxD c) = decide (b = c) := by
  obtain ⟨b1, b2⟩ := b
  obtain ⟨c1, c2⟩ := c
  unfold boxD
  simp only [PyData.eqv, PyData.eqvAll, Prod.mk.injEq, Bool.and_true]
  by_cases h1 : b1 = c1
  · by_cases h2 : b2 = c2
    · simp [h1, h2]
    · have : ¬ (b2 : Int) = c2 := by omega
      simp [h2, this]
  · have : ¬ (b1 : Int) = c1 := by omega
    simp [h1, this]
theorem boxes_reps {H : Hp} : ∀ {xs : List V} {bs : List Box}, BoxesV H xs bs → Reps K H (bs.map boxD) xs ∧ PyData.canLayAll0 (bs.map boxD) = true ∧ PyData.depthAll (bs.map boxD) ≤ 1
  | [], [], _ => by simp [Reps, PyData.canLayAll0, PyData.depthAll]
  | [], _ :: _, h => by have := h.1; simp at this
  | _ :: _, [], h => by have := h.1; simp at this
  | x :: xs, b :: bs, h => by
    obtain ⟨h1, h2⟩ := All2.tail h
    obtain ⟨r1, r2, r3⟩ := boxes_reps h2
    refine ⟨?_, ?_, ?_⟩
    · simp only [List.map_cons, Reps]
      exact ⟨_, _, rfl, boxD_rep h1, r1⟩
    · have := SeqAt.canLay_of_shaped (boxD_shape b)
      simp [PyData.canLayAll0, this, r2]
    · have : PyData.depth (boxD b) = 1 := by simp [boxD, PyData.depth, PyData.depthAll]
      simp [PyData.depthAll, this]; omega
theorem boxes_shape (K : PySem.W.Frag) {H : Hp} {xs : List V} {bs : List Box} (h : BoxesV H xs bs) : SeqAt.shaped (.list (bs.map boxD)) = true := by
  obtain ⟨r1, r2, r3⟩ := boxes_reps (K := K) h
  simp only [SeqAt.shaped, PyData.canLay0, PyData.depth, r2, Bool.true_and]
  exact decide_eq_true (by omega)
theorem boxes_any (bs : List Box) (b : Box) : (bs.map boxD).any (fun e => PyData.eqv e (boxD b)) = decide (b ∈ bs) := by
  induction bs with
  | nil => simp
  | cons c bs ih =>
    rw [List.map_cons, List.any_cons, ih, boxD_eq]
    by_cases h : c = b
    · simp [h]
    · have : ¬ b = c := fun e => h e.symm
      simp [h, this]
theorem boxEq_of {H : Hp} {x y : V} {b c : Box} {neg : Bool} {Q : VK} (h1 : BoxAt H x b) (h2 : BoxAt H y c) (q : Q (.bl (if neg then !decide (b = c) else decide (b = c))) H) : rEqD K neg x y H Q :=
  ⟨_, _, boxD_rep h1, boxD_rep h2, boxD_shape _, boxD_shape _, by rw [boxD_eq]; exact q⟩
theorem boxIn_of {H : Hp} {x : V} {a : Addr} {xs : List V} {b : Box} {bs : List Box} {neg : Bool} {Q : VK} (h1 : BoxAt H x b) (ha : SqL K H a xs) (h2 : BoxesV H xs bs) (q : Q (.bl (if neg then !decide (b ∈ bs) else decide (b ∈ bs))) H) : rInD K neg x (.ref a) H Q :=
  ⟨_, _, boxD_rep h1, by simp only [Rep]; exact ⟨a, xs, rfl, ha, (boxes_reps h2).1⟩, boxD_shape _, boxes_shape K h2, by rw [boxes_any]; exact q⟩
noncomputable def sp_number_at (K : PySem.W.Frag) : Sp := fun vs H Q _ => ∃ (la : Addr) (xs : List V) (v : V) (g : List (List Int)) (b : Box) (R C : Nat), vs = [.ref la, v] ∧ H la = some (.lst xs) ∧ GridV H xs g ∧ GOk g R C ∧ BoxAt H v b ∧ InG R C b ∧ Q (.int (gAt g b)) H
theorem at_grid {H : Hp} {la : Addr} {xs : List V} {g : List (List Int)} {b : Box} {R C : Nat} (hla : H la = some (.lst xs)) (hg : GridV H xs g) (ok : GOk g R C) (hi : InG R C b) :
    ∃ p, atI xs (b.1 : Int) = some (V.ref p) ∧ ∃ ys, H p = some (.lst ys) ∧ atI ys (b.2 : Int) = some (.int (gAt g b)) := by
  obtain ⟨r, h1, h2, _, _⟩ := ok.at hi
  obtain ⟨x, hx, p, rfl, hp⟩ := All2.at' hg h1
  exact ⟨p, atI_nat hx, _, hp, atI_nat (by rw [List.getElem?_map, h2]; rfl)⟩
theorem ok_number_at (T : Txt K mg f fd) : FnOk P w K mg base CX0 1 (f 33) (fd 33) ["grid", "cell"] (sp_number_at K) := by
  refine T.d_number_at.F.ok sc_number_at (fun vs H Q E h => ?_) (fun cdv A outer s H vs Q E hr h => ?_)
  · obtain ⟨la, xs, v, g, b, R, C, rfl, _⟩ := h
    rfl
  · obtain ⟨la, xs, v, g, b, R, C, rfl, hla, hg, ok, ⟨pb, rfl, hb⟩, hi, k⟩ := h
    refine ⟨_, (pss_one (ps_ret (pe_ix (k_ixL rfl) (pe_ix (k_ixL rfl) (pvl 0) (pe_ix (k_ixT rfl) (pvl 1) pe_int (fun _ _ => rfl)) (fun _ _ => rfl)) (pe_ix (k_ixT rfl) (pvl 1) pe_int (fun _ _ => rfl)) (fun _ _ => rfl)))), ?_⟩
    walk_at "dl"
    obtain ⟨p, h1, ys, h2, h3⟩ := at_grid hla hg ok hi
    exact ⟨pb, _, _, _, rfl, rfl, .of hb, atI_nat (j := 0) rfl, la, _, _, _, rfl, rfl, .of hla, h1, pb, _, _, _, rfl, rfl, .of hb, atI_nat (j := 1) rfl, p, _, _, _, rfl, rfl, .of h2, h3, k⟩
noncomputable def sumI (r : List Int) : Int := r.foldl (· + ·) 0
noncomputable def sumAll (g : List (List Int)) : Int := sumI (g.map sumI)
noncomputable def sp_sum_of_all (K : PySem.W.Frag) : Sp := fun vs H Q _ => ∃ (la : Addr) (xs : List V) (g : List (List Int)), vs = [.ref la] ∧ H la = some (.lst xs) ∧ GridV H xs g ∧ g.length ≤ 1000 ∧ ∀ H', Same H H' → Q (.int (sumAll g)) H'
theorem ok_sum_of_all (T : Txt K mg f fd) : FnOk P w K mg base CX0 1 (f 34) (fd 34) ["grid"] (sp_sum_of_all K) := by
  refine T.d_sum_of_all.F.ok sc_sum_of_all (fun vs H Q E h => ?_) (fun cdv A outer s H vs Q E hr h => ?_)
  · obtain ⟨la, xs, g, rfl, _⟩ := h
    rfl
  · obtain ⟨la, xs, g, rfl, hla, hg, hs, k⟩ := h
    refine ⟨_, (pss_one (ps_ret (pe_cB (k_sumI rfl rfl) T.n_sum bt_sum rfl (by decide) (by decide) rfl (pal rfl (pe_comp ["row"] ["grid"] rfl (show CompSc _ (defScope s_sum_of_all) ["grid"] ["grid"] from compOk_is (by decide +kernel)) (k_piL rfl (pvl 0)) (fun _ _ _ _ _ => (pgl 0 (show (["row", "grid"] : List Str).Nodup by decide +kernel))) (fun _ _ _ _ _ => pts_nil) (fun _ _ _ _ _ => (pe_cB (k_sumI rfl rfl) T.n_sum bt_sum rfl (by decide) (by decide) rfl (pal rfl (pvl 0) pa_nil)))) pa_nil)))), ?_⟩
    walk_at "dl"
    refine ⟨⟨_, .of hla⟩, ?_⟩
    refine comp_walk walk_list (by rw [hg.1]; exact small_line (by omega)) (fun i ys H' => Same H H' ∧ ys = ((g.map sumI).take i).map V.int) ⟨Same.refl _, rfl⟩ (fun _ _ _ _ q => .of (q.1 _ _ hla)) (fun i ys H' q => by rw [q.2, List.length_map, List.length_take]; omega) ?_ ?_
    · rintro i x ys H2 hx ⟨s2, rfl⟩
      obtain ⟨r, hr, p, rfl, hp⟩ := All2.at hg hx
      walk_at "dl"
      refine ⟨p, r, rfl, .of (s2 _ _ hp), ⟨_, rfl⟩, s2, ?_⟩
      rw [List.take_succ, List.getElem?_map, hr, List.map_append]
      rfl
    · rintro ys H2 ⟨s2, rfl⟩ D hD
      refine ⟨D, _, rfl, .of upd_same, ?_⟩
      rw [List.take_of_length_le (by rw [List.length_map, hg.1]; exact Nat.le_refl _)]
      exact k _ (s2.new hD _)
noncomputable def sp_column_node (K : PySem.W.Frag) : Sp := fun vs H Q _ => ∃ (la : Addr) (xs : List V) (c : Int), vs = [.ref la, .int c] ∧ H la = some (.lst xs) ∧ Q (.int (xs.length + c)) H
theorem ok_column_node (T : Txt K mg f fd) : FnOk P w K mg base CX0 1 (f 35) (fd 35) ["grid", "column"] (sp_column_node K) := by
  refine T.d_column_node.F.ok sc_column_node (fun vs H Q E h => ?_) (fun cdv A outer s H vs Q E hr h => ?_)
  · obtain ⟨la, xs, c, rfl, _⟩ := h
    rfl
  · obtain ⟨la, xs, c, rfl, hla, k⟩ := h
    refine ⟨_, (pss_one (ps_ret (pe_op op_add (pe_cB (k_len rfl) T.n_len bt_len rfl (by decide) (by decide) rfl (pal rfl (pvl 0) pa_nil)) (pvl 1)))), ?_⟩
    walk_at "dl"
    exact ⟨_, .inl (.of hla), k⟩
noncomputable def sp_others_of (K : PySem.W.Frag) : Sp := fun vs H Q _ => ∃ (lh : Addr) (xs : List V) (v : V) (bs : List Box) (c : Box), vs = [.ref lh, v] ∧ H lh = some (.lst xs) ∧ BoxesV H xs bs ∧ BoxAt H v c ∧ bs.length ≤ 1000 ∧
  ∀ H' p ys, Same H H' → H' p = some (.lst ys) → BoxesV H' ys (bs.filter fun b => decide (b ≠ c)) → Q (.ref p) H'
theorem ok_others_of (T : Txt K mg f fd) : FnOk P w K mg base CX0 1 (f 36) (fd 36) ["hidden", "cell"] (sp_others_of K) := by
  refine T.d_others_of.F.ok sc_others_of (fun vs H Q E h => ?_) (fun cdv A outer s H vs Q E hr h => ?_)
  · obtain ⟨lh, xs, v, bs, c, rfl, _⟩ := h
    rfl
  · obtain ⟨lh, xs, v, bs, c, rfl, hlh, hb, hc, hs, k⟩ := h
    refine ⟨_, (pss_one (ps_ret (pe_comp ["box"] ["hidden", "cell"] rfl (show CompSc _ (defScope s_others_of) ["hidden", "cell"] ["hidden", "cell"] from compOk_is (by decide +kernel)) (k_piL rfl (pvl 0)) (fun _ _ _ _ _ => (pgl 0 (show (["box", "hidden", "cell"] : List Str).Nodup by decide +kernel))) (fun _ _ _ _ _ => (pts_one (pt_cmpR (k_neD rfl hr.units) (pvl 0) (pvc 2) (nomark _)))) (fun _ _ _ _ _ => (pvl 0))))), ?_⟩
    walk_at "dl"
    refine ⟨⟨_, .of hlh⟩, ?_⟩
    refine comp_walk walk_list (by rw [hb.1]; exact small_line (by omega)) (fun i ys H' => Same H H' ∧ BoxesV H' ys ((bs.take i).filter fun b => decide (b ≠ c))) ⟨Same.refl _, All2.nil⟩ (fun _ _ _ _ q => .of (q.1 _ _ hlh)) (fun i ys H' q => by rw [q.2.1]; exact Nat.le_trans (List.length_filter_le _ _) (by rw [List.length_take]; omega)) ?_ ?_
    · rintro i x ys H2 hx ⟨s2, hy⟩
      obtain ⟨b, hbi, hx2⟩ := All2.at hb hx
      have hx3 := hx2.mono s2
      walk_at "dl"
      refine boxEq_of hx3 (hc.mono s2) ⟨_, rfl, ?_⟩
      rw [List.take_succ, hbi, List.filter_append]
      by_cases e : b = c
      · rw [if_neg (by simp [e])]
        refine ⟨⟨_, rfl⟩, s2, ?_⟩
        rw [show List.filter (fun b => decide (b ≠ c)) (some b).toList = [] by simp [e], List.append_nil]
        exact hy
      · rw [if_pos (by simp [e])]
        refine ⟨⟨_, rfl⟩, s2, ?_⟩
        rw [show List.filter (fun b => decide (b ≠ c)) (some b).toList = [b] by simp [e]]
        exact All2.snoc hy hx3
    · rintro ys H2 ⟨s2, hy⟩ D hD
      rw [List.take_of_length_le (by rw [hb.1]; exact Nat.le_refl _)] at hy
      exact k _ D ys (s2.new hD _) upd_same (hy.mono (Same.upd_new hD _))
noncomputable def sp_Stream_room (K : PySem.W.Frag) (f : Nat → Addr) : Sp := fun vs H Q _ => ∃ (x : Addr) (pl m : Nat) (sg : Int) (as : List Arc) (fl : List Int), vs = [.ref x, .int pl, .int sg] ∧ StreamAt H (f 23) x m as fl ∧ pl < as.length ∧ Q (.int (roomF as fl pl sg)) H
theorem ok_Stream_room (T : Txt K mg f fd) : FnOk P w K mg base CX0 1 (f 24001) (fd 24001) ["self", "place", "sign"] (sp_Stream_room K f) := by
  refine T.d_Stream_room.F.ok sc_Stream_room (fun vs H Q E h => ?_) (fun cdv A outer s H vs Q E hr h => ?_)
  · obtain ⟨x, pl, m, sg, as, fl, rfl, _⟩ := h
    rfl
  · obtain ⟨x, pl, m, sg, as, fl, rfl, S, hp, k⟩ := h
    refine ⟨_, (pss_cons (ps_if (pt_cmpR op_eq (pvl 2) pe_int (nomark _))
     (pss_one (ps_ret (pe_op op_sub (pe_ix (k_ixT rfl) (pe_ix (k_ixL rfl) (pe_fld (pvl 0) rfl) (pvl 1) (fun _ _ => rfl)) pe_int (fun _ _ => rfl)) (pe_ix (k_ixL rfl) (pe_fld (pvl 0) rfl) (pvl 1) (fun _ _ => rfl)))))
     pss_nil)
     (pss_one (ps_ret (pe_op op_sub (pe_ix (k_ixL rfl) (pe_fld (pvl 0) rfl) (pvl 1) (fun _ _ => rfl)) (pe_ix (k_ixT rfl) (pe_ix (k_ixL rfl) (pe_fld (pvl 0) rfl) (pvl 1) (fun _ _ => rfl)) pe_int (fun _ _ => rfl)))))), ?_⟩
    walk_at "dl"
    obtain ⟨dx, la, lb, ls, xs, sa, h1, h2, h3, h4, h5, h6, h7⟩ := S.ex
    have e1 := List.getElem?_eq_getElem hp
    have hp2 : pl < fl.length := by rw [S.len]; exact hp
    have e2 := List.getElem?_eq_getElem hp2
    obtain ⟨v, hv, pa, rfl, hpa⟩ := All2.at' h3 e1
    unfold roomF at k
    rw [getD_of e1, getD_of e2] at k
    by_cases c : sg = 1
    · rw [if_pos c] at k ⊢
      exact ⟨_, _, _, h1, T.o_Stream.cls, T.na_Stream_arcs, _, rfl, la, _, _, _, rfl, rfl, .of h2, atI_nat hv, pa, _, _, _, rfl, rfl, .of hpa, atI_nat (j := 3) rfl, _, _, _, h1, T.o_Stream.cls, T.na_Stream_borne, _, rfl, lb, _, _, _, rfl, rfl, .of h4, atI_nat (by rw [List.getElem?_map, e2]; rfl), _, rfl, _, rfl, k⟩
    · rw [if_neg c] at k ⊢
      exact ⟨_, _, _, h1, T.o_Stream.cls, T.na_Stream_borne, _, rfl, lb, _, _, _, rfl, rfl, .of h4, atI_nat (by rw [List.getElem?_map, e2]; rfl), _, _, _, h1, T.o_Stream.cls, T.na_Stream_arcs, _, rfl, la, _, _, _, rfl, rfl, .of h2, atI_nat hv, pa, _, _, _, rfl, rfl, .of hpa, atI_nat (j := 2) rfl, _, rfl, _, rfl, k⟩
noncomputable def sp_Stream_reach (K : PySem.W.Frag) (f : Nat → Addr) : Sp := fun vs H Q _ => ∃ (x : Addr) (st m : Nat) (as : List Arc) (fl : List Int), vs = [.ref x, .int st] ∧ StreamAt H (f 23) x m as fl ∧ st < m ∧
  ∀ H' p kvs es, Same H H' → H' p = some (.dK kvs) → EntsV H' kvs es → Came as fl m st es → Q (.ref p) H'
structure Mid (as : List Arc) (fl : List Int) (m st : Nat) (es : List Ent) (rim fu : List Nat) : Prop extends CInv as fl m st es where
  rimIn : ∀ n ∈ rim, n ∈ keysE es
  fuIn : ∀ n ∈ fu, n ∈ keysE es
  done : ∀ n ∈ keysE es, n ∈ rim ∨ n ∈ fu ∨ Closed as fl es n
noncomputable def natV (n : Nat) : V := V.int (n : Int)
theorem natsV_get {ns : List Nat} {i : Nat} {x : V} (h : (ns.map natV)[i]? = some x) : ∃ n, ns[i]? = some n ∧ x = .int (n : Int) := by
  rw [List.getElem?_map] at h
  obtain ⟨n, hn, rfl⟩ := Option.map_eq_some_iff.mp h
  exact ⟨n, hn, rfl⟩
theorem TruL {H : Hp} {q : Addr} {xs : List V} {k : Bool} (h : H q = some (.lst xs)) (e : k = !xs.isEmpty) : TruV K (.ref q) H k := .inl ⟨xs, .of h, e⟩
noncomputable def RchP (H : Hp) (x p : Addr) (st m : Nat) (as : List Arc) (fl : List Int) (μ : Nat) (σ : St) (H' : Hp) : Prop := ∃ (q : Addr) (kvs : List (Key × V)) (es : List Ent) (rim : List Nat), (∃ v4 v5 v6 v7 v8, σ = [some (V.ref x), some (V.int (st : Int)), some (V.ref p), some (V.ref q), v4, v5, v6, v7, v8]) ∧ Same H H' ∧ H q = none ∧ H' p = some (.dK kvs) ∧ EntsV H' kvs es ∧ H' q = some (.lst (rim.map natV)) ∧ Mid as fl m st es rim [] ∧ μ = 2 * (m - es.length) + (if rim = [] then 0 else 1)
noncomputable def RndP (H : Hp) (x p q u : Addr) (st m : Nat) (as : List Arc) (fl : List Int) (es0 : List Ent) (rim : List Nat) (i : Nat) (σ : St) (H' : Hp) : Prop := ∃ (kvs : List (Key × V)) (es : List Ent) (fu : List Nat), (∃ v5 v6 v7 v8, σ = [some (V.ref x), some (V.int (st : Int)), some (V.ref p), some (V.ref q), some (V.ref u), v5, v6, v7, v8]) ∧ Same H H' ∧ H' p = some (.dK kvs) ∧ EntsV H' kvs es ∧ H' q = some (.lst (rim.map natV)) ∧ H' u = some (.lst (fu.map natV)) ∧ Mid as fl m st es (rim.drop i) fu ∧ es.length = es0.length + fu.length
noncomputable def StpP (H : Hp) (x p q u : Addr) (st m : Nat) (as : List Arc) (fl : List Int) (es0 : List Ent) (rim : List Nat) (i nd : Nat) (ts : List V) (j : Nat) (σ : St) (H' : Hp) : Prop := ∃ (kvs : List (Key × V)) (es : List Ent) (fu : List Nat), (∃ v6 v7 v8, σ = [some (V.ref x), some (V.int (st : Int)), some (V.ref p), some (V.ref q), some (V.ref u), some (natV nd), v6, v7, v8]) ∧ Same H H' ∧ H' p = some (.dK kvs) ∧ EntsV H' kvs es ∧ H' q = some (.lst (rim.map natV)) ∧ H' u = some (.lst (fu.map natV)) ∧ Mid as fl m st es (rim.drop i) fu ∧ es.length = es0.length + fu.length ∧
  ∀ (r : Addr) (pl t : Nat) (sg : Int), V.ref r ∈ ts.take j → H r = some (.tup [.int pl, .int t, .int sg]) → 0 < roomF as fl pl sg → t ∈ keysE es
theorem ok_Stream_reach (T : Txt K mg f fd) : FnOk P w K mg base CX0 2 (f 24002) (fd 24002) ["self", "start"] (sp_Stream_reach K f) := by
  refine T.d_Stream_reach.F.ok sc_Stream_reach (fun vs H Q E h => ?_) (fun cdv A outer s H vs Q E hr h => ?_)
  · obtain ⟨x, st, m, as, fl, rfl, _⟩ := h
    rfl
  · obtain ⟨x, st, m, as, fl, rfl, S, hst, k⟩ := h
    refine ⟨_, (pss_cons (psl 2 sc_Stream_reach.nd (pe_disp (pps_cons (pvl 1) pe_non pps_nil) rfl rfl (List.cons_ne_nil _ _) (by show 1 ≤ 15; decide)))
     (pss_cons (psl 3 sc_Stream_reach.nd (pe_lst (pal rfl (pvl 1) pa_nil)))
     (pss_cons (ps_while PassesOwn.never (pt_truth (pvl 3) (fun _ => rfl))
     (pss_cons (psl 4 sc_Stream_reach.nd (pe_lst pa_nil))
     (pss_cons (ps_for PassesOwn.never rfl (k_piL rfl (pvl 3)) (pgl 5 sc_Stream_reach.nd)
     (pss_one (ps_for PassesOwn.never rfl (k_piL rfl (pe_ix (k_ixL rfl) (pe_fld (pvl 0) rfl) (pvl 5) (fun _ _ => rfl))) (k_pgT rfl rfl (pgs_cons (pgl 6 sc_Stream_reach.nd) (pgs_cons (pgl 7 sc_Stream_reach.nd) (pgs_cons (pgl 8 sc_Stream_reach.nd) pgs_nil))))
     (pss_one (ps_if (PW.pt (pw_and (pt_cmp (pc_dnotin (hu_of hr) (pvl 7) (pvl 2))) (pw_and1 (pt_cmpR op_gt (pe_meth (pvl 0) T.o_Stream.cls T.m_Stream_room (ok_Stream_room T) (hr.mono (by decide)) T.d_Stream_room.b .nil pass0 (pal rfl (pvl 6) (pal rfl (pvl 8) pa_nil)) rfl rfl rfl) pe_int (nomark _)))))
     (pss_cons (ps_dput (hu_of hr) (pvl 2) (pvl 7) (pe_tup (pal rfl (pvl 5) (pal rfl (pvl 6) (pal rfl (pvl 8) pa_nil)))) rfl)
     (pss_one (ps_expr (k_bmL rfl PySem.F.plainAttrs_list PySem.F.slot_list_append PySem.F.type_list_append mt_append rfl rfl rfl rfl (pvl 4) (pal rfl (pvl 7) pa_nil)))))
     pss_nil)))))
     (pss_one (psl 3 sc_Stream_reach.nd (pvl 4))))))
     (pss_one (ps_ret (pvl 2)))))), ?_⟩
    walk_at "dl"
    intro p hp
    have u0 := Same.upd_new hp (HO.dK [])
    refine ⟨upd_same, [(Sum.inl (st : Int), .non)], rfl, (by show 1 ≤ 15; decide), ?_⟩
    rw [upd_upd]
    have em : mergeK [] [(Sum.inl (st : Int), V.non)] = [(Sum.inl (st : Int), V.non)] := rfl
    rw [em]
    have s1 := Same.upd_new hp (HO.dK [(Sum.inl (st : Int), V.non)])
    have g1 : upd H p (HO.dK [(Sum.inl (st : Int), V.non)]) p = some (.dK [(Sum.inl (st : Int), V.non)]) := upd_same
    generalize upd H p (HO.dK [(Sum.inl (st : Int), V.non)]) = H1 at *
    refine ⟨small_line (by decide), fun q hq => ?_⟩
    have hqH : H q = none := s1.free hq
    have g1' := Same.upd_new hq (HO.lst [V.int (st : Int)]) _ _ g1
    have s2 := s1.new hq (HO.lst [V.int (st : Int)])
    have g2 : upd H1 q (HO.lst [V.int (st : Int)]) q = some (.lst ([st].map natV)) := upd_same
    generalize upd H1 q (HO.lst [V.int (st : Int)]) = H2 at *
    refine while_in (RchP H x p st m as fl) ⟨_, q, _, [(st, none)], [st], ⟨none, none, none, none, none, rfl⟩, s2, hqH, g1', All2.one ⟨rfl, rfl⟩, g2, ⟨CInv.start hst, fun n hn => by simpa [keysE] using hn, (fun _ h => nomatch h), fun n hn => .inl (by simpa [keysE] using hn)⟩, rfl⟩ ?_
    clear g2 s2 g1' hqH hq s1 g1
    rintro μ σ H3 ⟨q, kvs, es, rim, ⟨v4, v5, v6, v7, v8, rfl⟩, s3, hqH, g3, e3, r3, M, hμ⟩
    walk_at "dl"
    by_cases cr : rim = []
    · subst cr
      refine ⟨false, TruL r3 rfl, ?_⟩
      rw [if_neg Bool.false_ne_true]
      exact k H3 p kvs es s3 g3 e3 ⟨M.toCInv, fun n hn => by
        rcases M.done n hn with z | z | z
        · cases z
        · cases z
        · exact z⟩
    refine ⟨true, TruL r3 (by cases rim with | nil => exact absurd rfl cr | cons => rfl), ?_⟩
    rw [if_pos rfl]
    refine WGo.of ?_
    walk_at "dl"
    refine ⟨Nat.zero_le _, fun u hu => ?_⟩
    have huH := s3.free hu
    have hqu : q ≠ u := ne_of_none r3 hu
    have u4 := Same.upd_new hu (HO.lst [])
    have g4 : upd H3 u (HO.lst []) u = some (.lst (([] : List Nat).map natV)) := upd_same
    have s4 := s3.trans u4
    have g3' := u4 _ _ g3
    have e3' := e3.mono u4
    have r3' := u4 _ _ r3
    generalize upd H3 u (HO.lst []) = H4 at *
    refine for_in ?_
    walk_at "dl"
    refine ⟨⟨_, .of r3'⟩, ?_⟩
    refine ForW.of walk_list (RndP H x p q u st m as fl es rim) ⟨kvs, es, [], ⟨v5, v6, v7, v8, rfl⟩, s4, g3', e3', r3', g4, M, rfl⟩ (fun i σ H' _ ⟨_, _, _, _, _, _, _, z, _⟩ => .of z) ?_ ?_
    · rintro i y σ H5 hy ⟨kvs5, es5, fu5, ⟨v5, v6, v7, v8, rfl⟩, s5, g5, e5, r5, f5, M5, l5⟩
      obtain ⟨nd, hnd, rfl⟩ := natsV_get hy
      walk_at "dl"
      refine for_in ?_
      walk_at "dl"
      obtain ⟨dx, la, lb, ls, xs, sa, h1, h2, h3, h4, h5, h6, h7⟩ := S.ex
      have ndK : nd ∈ keysE es5 := M5.rimIn nd (List.mem_of_getElem? (i := 0) (by rw [List.getElem?_drop, Nat.add_zero]; exact hnd))
      have ndm : nd < m := M5.lt nd ndK
      have hsa := List.getElem?_eq_getElem (show nd < sa.length by omega)
      generalize sa[nd]'(show nd < sa.length by omega) = na at hsa
      obtain ⟨ts, hts, lts, sok, scp⟩ := (h7 nd na hsa).ex
      refine ⟨_, _, _, s5 _ _ h1, T.o_Stream.cls, T.na_Stream_steps, _, rfl, ls, _, _, _, rfl, rfl, .of (s5 _ _ h5), atI_nat (by rw [List.getElem?_map, hsa]; rfl), na, rfl, ⟨_, .of (s5 _ _ hts)⟩, ?_⟩
      refine ForW.of walk_list (StpP H x p q u st m as fl es rim i nd ts) ⟨kvs5, es5, fu5, ⟨v6, v7, v8, rfl⟩, s5, g5, e5, r5, f5, M5, l5, fun _ _ _ _ z => nomatch z⟩ (fun j σ H' _ ⟨_, _, _, _, z, _⟩ => .of (z _ _ hts)) ?_ ?_
      · rintro j y σ H6 hj ⟨kvs6, es6, fu6, ⟨v6, v7, v8, rfl⟩, s6, g6, e6, r6, f6, M6, l6, d6⟩
        obtain ⟨r, pl, t, sg, rfl, hr', so⟩ := sok _ (List.mem_of_getElem? hj)
        refine ⟨r, _, rfl, .of (s6 _ _ hr'), rfl, ?_⟩
        simp only [gCons, gNil, gName]
        walk_at "dl"
        obtain ⟨A0, hA0, hcase⟩ := so
        have hpl : pl < as.length := (List.getElem?_eq_some_iff.mp hA0).1
        have inA := S.inn A0 (List.mem_of_getElem? hA0)
        have htm : t < m := by
          obtain ⟨i1, i2, i3, i4⟩ := inA
          rcases hcase with ⟨_, _, z⟩ | ⟨_, _, z⟩ <;> omega
        have old : ∀ (es' : List Ent), (∀ k ∈ keysE es6, k ∈ keysE es') → (0 < roomF as fl pl sg → t ∈ keysE es') → ∀ (r' : Addr) (pl' t' : Nat) (sg' : Int), V.ref r' ∈ ts.take (j + 1) → H r' = some (.tup [.int pl', .int t', .int sg']) → 0 < roomF as fl pl' sg' → t' ∈ keysE es' := by
          intro es' sub new r' pl' t' sg' hm hr2 hroom
          rw [List.take_succ, hj] at hm
          rcases List.mem_append.mp hm with z | z
          · exact sub _ (d6 r' pl' t' sg' z hr2 hroom)
          · simp at z
            subst z
            rw [hr'] at hr2
            simp at hr2
            obtain ⟨a1, a2, a3⟩ := hr2
            have : pl = pl' := by omega
            have : t = t' := by omega
            subst a3
            subst pl'
            subst t'
            exact new hroom
        refine ⟨_, DGet.k (k := Sum.inl (t : Int)) g6, ?_⟩
        rw [valE_some e6 t]
        by_cases ck : t ∈ keysE es6
        · rw [if_neg (by simp [ck])]
          exact ⟨kvs6, es6, fu6, ⟨_, _, _, rfl⟩, s6, g6, e6, r6, f6, M6, l6, old es6 (fun _ z => z) fun _ => ck⟩
        rw [if_pos (by simp [ck])]
        refine ⟨_, _, s6 _ _ h1, rfl, x, pl, m, sg, as, fl, rfl, S.mono s6, hpl, _, rfl, ?_⟩
        by_cases cr : 0 < roomF as fl pl sg
        · rw [if_pos (by simpa using cr)]
          refine ⟨small_line (by decide), fun pt hpt => ?_⟩
          have n1 : p ≠ pt := ne_of_none g6 hpt
          have n2 : u ≠ pt := ne_of_none f6 hpt
          have n3 : u ≠ p := ne_of f6 g6 (by intro z; cases z)
          have n4 : q ≠ pt := ne_of_none r6 hpt
          have n5 : q ≠ p := ne_of r6 g6 (by intro z; cases z)
          have n6 := hqu
          have lk : kvs6.length ≤ m := by rw [e6.1]; exact M6.toCInv.len
          have hm := S.small.2
          have lf : fu6.length ≤ m := by have := M6.toCInv.len; omega
          refine ⟨_, DPut.k (k := Sum.inl (t : Int)) (by rw [upd_ne n1]; exact g6) (small_line (by omega)), .inl ⟨rfl, _, .of (by rw [upd_ne n3, upd_ne n2]; exact f6)⟩, u, fu6.map natV, .int (t : Int), rfl, rfl, by rw [upd_ne n3, upd_ne n2]; exact f6, by rw [List.length_map, sizeLine_eq]; omega, ?_⟩
          rw [putE_new e6 ck]
          have ndk : nd ∈ keysE es6 := M6.rimIn nd (List.mem_of_getElem? (i := 0) (by rw [List.getElem?_drop, Nat.add_zero]; exact hnd))
          have C7 := M6.toCInv.snoc ndk ⟨⟨A0, hA0, hcase⟩, cr⟩ ck htm
          have sub : ∀ k ∈ keysE es6, k ∈ keysE (es6 ++ [(t, some (nd, pl, sg))]) := fun k hk => by rw [keysE_append]; exact List.mem_append_left _ hk
          have tin : t ∈ keysE (es6 ++ [(t, some (nd, pl, sg))]) := by rw [keysE_append]; exact List.mem_append_right _ (by simp [keysE])
          have ts7 : TSame H6 (upd (upd (upd H6 pt (HO.tup [natV nd, V.int ↑pl, V.int sg])) p (.dK (kvs6 ++ [(Sum.inl (t : Int), V.ref pt)]))) u (.lst (fu6.map natV ++ [.int (t : Int)]))) :=
            (((TSame.refl H6).new hpt).set (by rw [upd_ne n1]; exact g6) (fun _ z => by cases z)).set (by rw [upd_ne n3, upd_ne n2]; exact f6) (fun _ z => by cases z)
          refine ⟨_, es6 ++ [(t, some (nd, pl, sg))], fu6 ++ [t], ⟨_, _, _, rfl⟩, ((s6.new hpt _).set hp _).set huH _, by rw [upd_ne (Ne.symm n3), upd_same], All2.snoc (e6.monoT ts7) ⟨rfl, pt, rfl, by rw [upd_ne (Ne.symm n2), upd_ne (Ne.symm n1), upd_same]; rfl⟩, by rw [upd_ne n6, upd_ne n5, upd_ne n4]; exact r6, by rw [upd_same, List.map_append]; rfl, ⟨C7, fun n hn => sub n (M6.rimIn n hn), fun n hn => ?_, fun n hn => ?_⟩, by simp; omega, old _ sub fun _ => tin⟩
          · rcases List.mem_append.mp hn with z | z
            · exact sub n (M6.fuIn n z)
            · rw [List.mem_singleton.mp z]; exact tin
          · rw [keysE_append] at hn
            rcases List.mem_append.mp hn with z | z
            · rcases M6.done n z with y | y | y
              · exact .inl y
              · exact .inr (.inl (List.mem_append_left _ y))
              · exact .inr (.inr (y.more sub))
            · exact .inr (.inl (List.mem_append_right _ (by simpa [keysE] using z)))
        · rw [if_neg (by simpa using cr)]
          exact ⟨kvs6, es6, fu6, ⟨_, _, _, rfl⟩, s6, g6, e6, r6, f6, M6, l6, old es6 (fun _ z => z) fun z => absurd z cr⟩
      · rintro σ H6 ⟨kvs6, es6, fu6, ⟨v6, v7, v8, rfl⟩, s6, g6, e6, r6, f6, M6, l6, d6⟩
        rw [List.take_length] at d6
        have hdr : rim.drop i = nd :: rim.drop (i + 1) := by
          have hi := (List.getElem?_eq_some_iff.mp hnd)
          rw [List.drop_eq_getElem_cons hi.1, hi.2]
        refine ⟨kvs6, es6, fu6, ⟨_, _, _, _, rfl⟩, s6, g6, e6, r6, f6, ⟨M6.toCInv, fun n hn => M6.rimIn n (by rw [hdr]; exact List.mem_cons_of_mem _ hn), M6.fuIn, fun n hn => ?_⟩, l6⟩
        have cnd : Closed as fl es6 nd := fun pl t sg ⟨⟨A0, hA0, hcase⟩, hroom⟩ => by
          have hpl : pl < as.length := (List.getElem?_eq_some_iff.mp hA0).1
          obtain ⟨q', m1, m2⟩ := scp pl t sg trivial ⟨A0, hA0, hcase⟩
          exact d6 q' pl t sg m1 m2 hroom
        rcases M6.done n hn with z | z | z
        · rw [hdr] at z
          rcases List.mem_cons.mp z with rfl | z
          · exact .inr (.inr cnd)
          · exact .inl z
        · exact .inr (.inl z)
        · exact .inr (.inr z)
    · rintro σ H5 ⟨kvs5, es5, fu5, ⟨v5, v6, v7, v8, rfl⟩, s5, g5, e5, r5, f5, M5, l5⟩
      walk_at "dl"
      have lm := M5.toCInv.len
      refine ⟨_, ?_, u, kvs5, es5, fu5, ⟨_, _, _, _, _, rfl⟩, s5, huH, g5, e5, f5, ⟨M5.toCInv, M5.fuIn, (fun _ h => nomatch h), fun n hn => ?_⟩, rfl⟩
      · rw [hμ, if_neg cr]
        by_cases cf : fu5 = []
        · rw [if_pos cf]
          rw [cf] at l5
          simp at l5
          omega
        · rw [if_neg cf]
          have : 0 < fu5.length := List.length_pos_iff.mpr cf
          omega
      · rcases M5.done n hn with z | z | z
        · rw [List.length_map, List.drop_length] at z; cases z
        · exact .inl z
        · exact .inr (.inr z)
noncomputable def sp_Stream___init__ (K : PySem.W.Frag) (f : Nat → Addr) : Sp := fun vs H Q _ => ∃ (x dx la lf : Addr) (m : Nat) (xs : List V) (as : List Arc) (fl : List Int), vs = [.ref x, .int m, .ref la, .ref lf] ∧ H x = some (.ins (f 23) dx []) ∧ m ≤ 1000 ∧ H la = some (.lst xs) ∧ ArcsV H xs as ∧ as.length ≤ 1000 ∧ (∀ A ∈ as, InN m A) ∧ H lf = some (.lst (fl.map V.int)) ∧ fl.length = as.length ∧
  ∀ H', SameBut x H H' → StreamAt H' (f 23) x m as fl → Q .non H'
structure IniQ (H : Hp) (C x dx p1 p2 ls : Addr) (xs : List V) (as : List Arc) (fl : List Int) (sa : List Addr) (D : Nat → Int → Prop) (bnd : Nat) (H' : Hp) : Prop where
  B : SameBut x H H'
  hx : H' x = some (.ins C dx [("arcs", .ref p1), ("borne", .ref p2), ("steps", .ref ls)])
  g : H' p1 = some (.lst xs)
  k : H' p2 = some (.lst (fl.map V.int))
  l : H' ls = some (.lst (sa.map V.ref))
  st : ∀ (n : Nat) a, sa[n]? = some a → StepsAt H' as D bnd n a
noncomputable def IniP (H : Hp) (C x dx la lf p1 p2 ls : Addr) (m : Nat) (xs : List V) (as : List Arc) (fl : List Int) (sa : List Addr) (i : Nat) (σ : St) (H' : Hp) : Prop := (∃ v4 v5, σ = [some (V.ref x), some (V.int (m : Int)), some (V.ref la), some (V.ref lf), v4, v5]) ∧ IniQ H C x dx p1 p2 ls xs as fl sa (fun pl _ => pl < i) (2 * i) H'
theorem IniQ.app {H H' : Hp} {C x dx p1 p2 ls : Addr} {xs : List V} {as : List Arc} {fl : List Int} {sa : List Addr} {D : Nat → Int → Prop} {bnd : Nat} (J : IniQ H C x dx p1 p2 ls xs as fl sa D bnd H') (nd : sa.Nodup) (fr : ∀ (n : Nat) a, sa[n]? = some a → H a = none ∧ a ≠ x ∧ a ≠ p1 ∧ a ≠ p2 ∧ a ≠ ls)
    {N pl t : Nat} {sg : Int} {aN : Addr} (hN : sa[N]? = some aN) (so : StepOk as N pl t sg) : ∃ ts, H' aN = some (.lst ts) ∧ ts.length ≤ bnd ∧ ∀ r, H' r = none →
      IniQ H C x dx p1 p2 ls xs as fl sa (fun pl' sg' => D pl' sg' ∨ (pl' = pl ∧ sg' = sg)) (bnd + 1) (upd (upd H' r (.tup [.int pl, .int t, .int sg])) aN (.lst (ts ++ [.ref r]))) := by
  obtain ⟨ts, h1, h2, _⟩ := (J.st N aN hN).ex
  obtain ⟨f1, f2, f3, f4, f5⟩ := fr N aN hN
  refine ⟨ts, h1, h2, fun r hr => ⟨(J.B.new hr).set f1, ?_, ?_, ?_, ?_, steps_app nd J.st hN so hr h1⟩⟩
  · rw [upd_ne (Ne.symm f2), upd_ne (ne_of_none J.hx hr)]; exact J.hx
  · rw [upd_ne (Ne.symm f3), upd_ne (ne_of_none J.g hr)]; exact J.g
  · rw [upd_ne (Ne.symm f4), upd_ne (ne_of_none J.k hr)]; exact J.k
  · rw [upd_ne (Ne.symm f5), upd_ne (ne_of_none J.l hr)]; exact J.l
theorem IniQ.keep {H H' H2 : Hp} {C x dx p1 p2 ls : Addr} {xs : List V} {as : List Arc} {fl : List Int} {sa : List Addr} {D : Nat → Int → Prop} {bnd : Nat} (J : IniQ H C x dx p1 p2 ls xs as fl sa D bnd H') (s : Same H' H2) : IniQ H C x dx p1 p2 ls xs as fl sa D bnd H2 :=
  ⟨fun b o n z => s _ _ (J.B b o n z), s _ _ J.hx, s _ _ J.g, s _ _ J.k, s _ _ J.l, fun n a ha => (J.st n a ha).mono s⟩
theorem ok_Stream___init__ (T : Txt K mg f fd) : FnOk P w K mg base CX0 1 (f 24000) (fd 24000) ["self", "many", "arcs", "flow"] (sp_Stream___init__ K f) := by
  refine T.d_Stream___init__.F.ok sc_Stream___init__ (fun vs H Q E h => ?_) (fun cdv A outer s H vs Q E hr h => ?_)
  · obtain ⟨x, dx, la, lf, m, xs, as, fl, rfl, _⟩ := h
    rfl
  · obtain ⟨x, dx, la, lf, m, xs, as, fl, rfl, hx, hm, hla, hA, h1000, hin, hlf, hlen, k⟩ := h
    refine ⟨_, (pss_cons (ps_fld (pvl 0) (pe_cTy (k_list rfl) T.n_list bt_list rfl (by decide) (by decide) rfl (pal rfl (pvl 2) pa_nil)) rfl)
     (pss_cons (ps_fld (pvl 0) (pe_cTy (k_list rfl) T.n_list bt_list rfl (by decide) (by decide) rfl (pal rfl (pvl 3) pa_nil)) rfl)
     (pss_cons (ps_fld (pvl 0) (pe_comp ["node"] ["self", "many", "arcs", "flow", "place", "arc"] rfl (show CompSc _ (defScope s_Stream___init__) ["self", "many", "arcs", "flow", "place", "arc"] ["self", "many", "arcs", "flow", "place", "arc"] from compOk_is (by decide +kernel)) (pi_range1 rfl T.n_range (pal rfl (pvl 1) pa_nil)) (fun _ _ _ _ _ => (pgl 0 (show (["node", "self", "many", "arcs", "flow", "place", "arc"] : List Str).Nodup by decide +kernel))) (fun _ _ _ _ _ => pts_nil) (fun _ _ _ _ _ => (pe_lst pa_nil))) rfl)
     (pss_one (ps_for PassesOwn.never rfl (pi_enum rfl T.n_enumerate (pal rfl (pvl 2) pa_nil) rfl) (k_pgT rfl rfl (pgs_cons (pgl 4 sc_Stream___init__.nd) (pgs_cons (pgl 5 sc_Stream___init__.nd) pgs_nil)))
     (pss_cons (ps_expr (k_bmL rfl PySem.F.plainAttrs_list PySem.F.slot_list_append PySem.F.type_list_append mt_append rfl rfl rfl rfl (pe_ix (k_ixL rfl) (pe_fld (pvl 0) rfl) (pe_ix (k_ixT rfl) (pvl 5) pe_int (fun _ _ => rfl)) (fun _ _ => rfl)) (pal rfl (pe_tup (pal rfl (pvl 4) (pal rfl (pe_ix (k_ixT rfl) (pvl 5) pe_int (fun _ _ => rfl)) (pal rfl pe_int pa_nil)))) pa_nil)))
     (pss_one (ps_expr (k_bmL rfl PySem.F.plainAttrs_list PySem.F.slot_list_append PySem.F.type_list_append mt_append rfl rfl rfl rfl (pe_ix (k_ixL rfl) (pe_fld (pvl 0) rfl) (pe_ix (k_ixT rfl) (pvl 5) pe_int (fun _ _ => rfl)) (fun _ _ => rfl)) (pal rfl (pe_tup (pal rfl (pvl 4) (pal rfl (pe_ix (k_ixT rfl) (pvl 5) pe_int (fun _ _ => rfl)) (pal rfl (pe_un un_neg pe_int) pa_nil)))) pa_nil)))))))))), ?_⟩
    walk_at "dl"
    have nxla : la ≠ x := ne_of hla hx (by intro z; cases z)
    have nxlf : lf ≠ x := ne_of hlf hx (by intro z; cases z)
    refine ⟨xs, .inl (.of hla), fun p1 hp1 => ?_⟩
    have n1 : x ≠ p1 := ne_of_none hx hp1
    have B1 : SameBut x H (upd H p1 (.lst xs)) := SameBut.new (fun _ _ _ z => z) hp1
    have hx1 : upd H p1 (.lst xs) x = some (.ins (f 23) dx []) := by rw [upd_ne n1]; exact hx
    have g1 : upd H p1 (.lst xs) p1 = some (.lst xs) := upd_same
    generalize upd H p1 (.lst xs) = H1 at *
    refine ⟨_, _, _, hx1, T.o_Stream.cls, T.na_Stream_arcs, by decide, ?_⟩
    have B2 : SameBut x H (upd H1 x (.ins (f 23) dx (putF ("arcs" : Str) (.ref p1) []))) := B1.at
    have hx2 : upd H1 x (.ins (f 23) dx (putF ("arcs" : Str) (.ref p1) [])) x = some (.ins (f 23) dx [("arcs", .ref p1)]) := upd_same
    have g2 : upd H1 x (.ins (f 23) dx (putF ("arcs" : Str) (.ref p1) [])) p1 = some (.lst xs) := by rw [upd_ne (Ne.symm n1)]; exact g1
    generalize upd H1 x (.ins (f 23) dx (putF ("arcs" : Str) (.ref p1) [])) = H2 at *
    refine ⟨fl.map V.int, .inl (.of (B2 _ _ nxlf hlf)), fun p2 hp2 => ?_⟩
    have n2 : x ≠ p2 := ne_of_none hx2 hp2
    have n3 : p1 ≠ p2 := ne_of_none g2 hp2
    have B3 : SameBut x H (upd H2 p2 (.lst (fl.map V.int))) := B2.new hp2
    have hx3 : upd H2 p2 (.lst (fl.map V.int)) x = some (.ins (f 23) dx [("arcs", .ref p1)]) := by rw [upd_ne n2]; exact hx2
    have g3 : upd H2 p2 (.lst (fl.map V.int)) p1 = some (.lst xs) := by rw [upd_ne n3]; exact g2
    have k3 : upd H2 p2 (.lst (fl.map V.int)) p2 = some (.lst (fl.map V.int)) := upd_same
    generalize upd H2 p2 (.lst (fl.map V.int)) = H3 at *
    refine ⟨_, _, _, hx3, T.o_Stream.cls, T.na_Stream_borne, (by show 1 < 1000; decide), ?_⟩
    have ep : putF (Str.ofString "borne") (V.ref p2) [(("arcs" : Str), V.ref p1)] = ([("arcs", .ref p1), ("borne", .ref p2)] : List (Str × V)) := by
      show (if (("arcs" : Str) = "borne") then _ else _) = _
      rw [if_neg (by decide)]
      rfl
    rw [ep]
    have B4 : SameBut x H (upd H3 x (.ins (f 23) dx [("arcs", .ref p1), ("borne", .ref p2)])) := B3.at
    have hx4 : upd H3 x (.ins (f 23) dx [("arcs", .ref p1), ("borne", .ref p2)]) x = some (.ins (f 23) dx [("arcs", .ref p1), ("borne", .ref p2)]) := upd_same
    have g4 : upd H3 x (.ins (f 23) dx [("arcs", .ref p1), ("borne", .ref p2)]) p1 = some (.lst xs) := by rw [upd_ne (Ne.symm n1)]; exact g3
    have k4 : upd H3 x (.ins (f 23) dx [("arcs", .ref p1), ("borne", .ref p2)]) p2 = some (.lst (fl.map V.int)) := by rw [upd_ne (Ne.symm n2)]; exact k3
    generalize upd H3 x (.ins (f 23) dx [("arcs", .ref p1), ("borne", .ref p2)]) = H4 at *
    refine ⟨by omega, by omega, ?_⟩
    rw [Int.toNat_natCast]
    have fr : ∀ a, H4 a = none → H a = none := fun a ha => by
      cases e : H a with
      | none => rfl
      | some o => rw [B4 a o (fun z => by subst z; rw [hx4] at ha; cases ha) e] at ha; cases ha
    refine comp_walk walk_range (by rw [rangeV_len]; exact small_line (by omega)) (fun i ys H' => Same H4 H' ∧ ∃ sa : List Addr, ys = sa.map V.ref ∧ sa.length = i ∧ sa.Nodup ∧ ∀ a ∈ sa, H4 a = none ∧ H' a = some (.lst [])) ⟨Same.refl _, [], rfl, rfl, List.nodup_nil, fun _ z => nomatch z⟩ (fun _ _ _ _ _ => trivial) (fun i ys H' q => by obtain ⟨_, sa, rfl, h2, _⟩ := q; rw [List.length_map, h2]; exact Nat.le_refl _) ?_ ?_
    · rintro i y ys H5 hy ⟨s5, sa, rfl, l5, n5, a5⟩
      walk_at "dl"
      refine ⟨Nat.zero_le _, fun a ha => ⟨⟨_, rfl⟩, s5.new ha _, sa ++ [a], by rw [List.map_append]; rfl, by simp [l5], List.nodup_append.mpr ⟨n5, by simp, fun b hb c hc => ?_⟩, fun b hb => ?_⟩⟩
      · rw [List.mem_singleton.mp hc]
        intro e
        subst e
        rw [(a5 _ hb).2] at ha; cases ha
      · rcases List.mem_append.mp hb with z | z
        · have : b ≠ a := fun e => by subst e; rw [(a5 _ z).2] at ha; cases ha
          exact ⟨(a5 b z).1, by rw [upd_ne this]; exact (a5 b z).2⟩
        · rw [List.mem_singleton.mp z]
          exact ⟨s5.free ha, upd_same⟩
    · rintro ys H5 ⟨s5, sa, rfl, l5, n5, a5⟩ ls hls
      rw [rangeV_len] at l5
      have nxl : x ≠ ls := ne_of_none (s5 _ _ hx4) hls
      refine ⟨_, _, _, by rw [upd_ne nxl]; exact s5 _ _ hx4, T.o_Stream.cls, T.na_Stream_steps, (by show 2 < 1000; decide), ?_⟩
      have ep : putF (Str.ofString "steps") (V.ref ls) [(("arcs" : Str), V.ref p1), ("borne", V.ref p2)] = ([("arcs", .ref p1), ("borne", .ref p2), ("steps", .ref ls)] : List (Str × V)) := by
        show (if (("arcs" : Str) = "steps") then _ else _ :: (if (("borne" : Str) = "steps") then _ else _)) = _
        rw [if_neg (by decide), if_neg (by decide)]
        rfl
      rw [ep]
      have B5 : SameBut x H H5 := fun b o nb hb => s5 _ _ (B4 b o nb hb)
      refine for_in ?_
      walk_at "dl"
      have I0 : IniP H (f 23) x dx la lf p1 p2 ls m xs as fl sa 0 [some (V.ref x), some (V.int (m : Int)), some (V.ref la), some (V.ref lf), none, none] (upd (upd H5 ls (.lst (sa.map V.ref))) x (.ins (f 23) dx [("arcs", .ref p1), ("borne", .ref p2), ("steps", .ref ls)])) := by
        have n6 : p1 ≠ ls := ne_of_none (s5 _ _ g4) hls
        have n7 : p2 ≠ ls := ne_of_none (s5 _ _ k4) hls
        refine ⟨⟨none, none, rfl⟩, (B5.new hls).at, upd_same, by rw [upd_ne (Ne.symm n1), upd_ne n6]; exact s5 _ _ g4, by rw [upd_ne (Ne.symm n2), upd_ne n7]; exact s5 _ _ k4, by rw [upd_ne (Ne.symm nxl), upd_same], fun n a ha => ⟨[], ?_, Nat.zero_le _, (fun _ z => nomatch z), fun pl _ _ z => absurd z (Nat.not_lt_zero _)⟩⟩
        have h1 := a5 a (List.mem_of_getElem? ha)
        have e1 : a ≠ x := fun e => by subst e; rw [hx4] at h1; cases h1.1
        have e2 : a ≠ ls := ne_of_none h1.2 hls
        rw [upd_ne e1, upd_ne e2]; exact h1.2
      have hsaH : ∀ (n : Nat) a, sa[n]? = some a → H a = none ∧ a ≠ x ∧ a ≠ p1 ∧ a ≠ p2 ∧ a ≠ ls := fun n a ha => by
        have h1 := a5 a (List.mem_of_getElem? ha)
        exact ⟨fr a h1.1, (fun e => by subst e; rw [hx4] at h1; cases h1.1), (fun e => by subst e; rw [g4] at h1; cases h1.1), (fun e => by subst e; rw [k4] at h1; cases h1.1), ne_of_none h1.2 hls⟩
      generalize upd (upd H5 ls (.lst (sa.map V.ref))) x (.ins (f 23) dx [("arcs", .ref p1), ("borne", .ref p2), ("steps", .ref ls)]) = H6 at *
      refine ⟨⟨xs, .of (I0.2.B _ _ nxla hla)⟩, ?_⟩
      refine ForW.enum (xs := xs) (IniP H (f 23) x dx la lf p1 p2 ls m xs as fl sa) I0 (fun i σ H' q => .of (q.2.B _ _ nxla hla)) ?_ ?_
      · rintro i y σ H7 q hy ⟨⟨v4, v5, rfl⟩, J7⟩ hq
        obtain ⟨A0, hA0, pa, rfl, hpa⟩ := All2.at hA hy
        have npa : pa ≠ x := ne_of hpa hx (by intro z; cases z)
        have u8 := Same.upd_new hq (HO.tup [V.int (i : Int), V.ref pa])
        have g8 : upd H7 q (HO.tup [V.int (i : Int), V.ref pa]) q = some (HO.tup [V.int (i : Int), V.ref pa]) := upd_same
        have J8 := J7.keep u8
        generalize upd H7 q (HO.tup [V.int (i : Int), V.ref pa]) = H8 at *
        refine ⟨q, _, rfl, .of g8, rfl, ?_⟩
        simp only [gCons, gNil, gName]
        walk_at "dl"
        obtain ⟨i1, i2, i3, i4⟩ := hin A0 (List.mem_of_getElem? hA0)
        have hil : i < as.length := (List.getElem?_eq_some_iff.mp hA0).1
        obtain ⟨aa, ab, al, au⟩ := A0
        simp only at i1 i2 i3 i4
        obtain ⟨na, rfl⟩ : ∃ na : Nat, aa = (na : Int) := ⟨aa.toNat, by omega⟩
        obtain ⟨nb, rfl⟩ : ∃ nb : Nat, ab = (nb : Int) := ⟨ab.toNat, by omega⟩
        unfold Arc.vs at hpa
        simp only at hpa
        have ha := List.getElem?_eq_getElem (show na < sa.length by omega)
        generalize sa[na]'(show na < sa.length by omega) = pna at ha
        have hb := List.getElem?_eq_getElem (show nb < sa.length by omega)
        generalize sa[nb]'(show nb < sa.length by omega) = pnb at hb
        obtain ⟨ts, t1, t2, t3⟩ := J8.app n5 hsaH ha (pl := i) (t := nb) (sg := 1) ⟨_, hA0, .inl ⟨rfl, rfl, rfl⟩⟩
        have pa8 := J8.B _ _ npa hpa
        refine ⟨_, _, _, J8.hx, T.o_Stream.cls, T.na_Stream_steps, _, rfl, pa, _, _, _, rfl, rfl, .of pa8, atI_nat (j := 0) rfl, ls, _, _, V.ref pna, rfl, rfl, .of J8.l, atI_nat (by rw [List.getElem?_map, ha]; rfl), .inl ⟨rfl, _, .of t1⟩, pa, _, _, _, rfl, rfl, .of pa8, atI_nat (j := 1) rfl, small_line (by decide), fun r hr => ?_⟩
        have J9 := t3 r hr
        have nr : pna ≠ r := ne_of_none t1 hr
        refine ⟨pna, ts, _, rfl, rfl, by rw [upd_ne nr]; exact t1, by rw [sizeLine_eq]; omega, ?_⟩
        generalize upd (upd H8 r (HO.tup [V.int (i : Int), V.int (nb : Int), V.int 1])) pna (HO.lst (ts ++ [V.ref r])) = H9 at *
        obtain ⟨ts', t1', t2', t3'⟩ := J9.app n5 hsaH hb (pl := i) (t := na) (sg := -1) ⟨_, hA0, .inr ⟨rfl, rfl, rfl⟩⟩
        have pa9 := J9.B _ _ npa hpa
        refine ⟨_, _, _, J9.hx, T.o_Stream.cls, T.na_Stream_steps, _, rfl, pa, _, _, _, rfl, rfl, .of pa9, atI_nat (j := 1) rfl, ls, _, _, V.ref pnb, rfl, rfl, .of J9.l, atI_nat (by rw [List.getElem?_map, hb]; rfl), .inl ⟨rfl, _, .of t1'⟩, pa, _, _, _, rfl, rfl, .of pa9, atI_nat (j := 0) rfl, small_line (by decide), fun r' hr' => ?_⟩
        have J10 := t3' r' hr'
        have nr' : pnb ≠ r' := ne_of_none t1' hr'
        refine ⟨pnb, ts', _, rfl, rfl, by rw [upd_ne nr']; exact t1', by rw [sizeLine_eq]; omega, ⟨_, _, rfl⟩, J10.B, J10.hx, J10.g, J10.k, J10.l, fun n a hna => ?_⟩
        obtain ⟨ts'', z1, z2, z3, z4⟩ := (J10.st n a hna).ex
        refine ⟨ts'', z1, by omega, z3, fun pl t sg hd so => z4 pl t sg ?_ so⟩
        by_cases e : pl = i
        · subst e
          obtain ⟨A1, _, c⟩ := so
          rcases c with ⟨rfl, _⟩ | ⟨rfl, _⟩
          · exact .inl (.inr ⟨rfl, rfl⟩)
          · exact .inr ⟨rfl, rfl⟩
        · exact .inl (.inl (by omega))
      · rintro σ H7 ⟨⟨v4, v5, rfl⟩, J7⟩
        refine k H7 J7.B ⟨⟨dx, p1, p2, ls, xs, sa, J7.hx, J7.g, ?_, J7.k, J7.l, l5, fun n a ha => ?_⟩, hlen, ⟨h1000, hm⟩, hin⟩
        · exact All2.mono hA fun v A ⟨pa, e, hpa⟩ => ⟨pa, e, J7.B _ _ (ne_of hpa hx (by intro z; cases z)) hpa⟩
        · obtain ⟨ts, t1, t2, t3, t4⟩ := (J7.st n a ha).ex
          rw [hA.1] at t2 t4
          exact ⟨ts, t1, t2, t3, fun pl t sg _ so => t4 pl t sg (by obtain ⟨A0, hA0, _⟩ := so; exact (List.getElem?_eq_some_iff.mp hA0).1) so⟩
theorem sum_from (r : List Int) : ∀ a : Int, (∀ x ∈ r, 0 ≤ x) → a ≤ r.foldl (· + ·) a ∧ ∀ x ∈ r, a + x ≤ r.foldl (· + ·) a := by
  induction r with
  | nil => intro a _; exact ⟨Int.le_refl _, fun _ h => nomatch h⟩
  | cons y r ih =>
    intro a h
    have hy := h y List.mem_cons_self
    obtain ⟨h1, h2⟩ := ih (a + y) fun x hx => h x (List.mem_cons_of_mem _ hx)
    rw [List.foldl_cons]
    refine ⟨by omega, fun x hx => ?_⟩
    rcases List.mem_cons.mp hx with rfl | hx
    · exact h1
    · have := h2 x hx
      omega
theorem sumI_ge {r : List Int} (h : ∀ x ∈ r, 0 ≤ x) {x : Int} (hx : x ∈ r) : x ≤ sumI r := by
  have := (sum_from r 0 h).2 x hx
  unfold sumI
  omega
theorem sumI_pos {r : List Int} (h : ∀ x ∈ r, 0 ≤ x) : 0 ≤ sumI r := (sum_from r 0 h).1
theorem gAt_le {g : List (List Int)} {R C : Nat} (ok : GOk g R C) {b : Box} (hi : InG R C b) : gAt g b ≤ sumAll g := by
  obtain ⟨r, h1, h2, h3, h4⟩ := ok.at hi
  have a1 := sumI_ge (ok.pos r h4) (List.mem_of_getElem? h2)
  have a2 : sumI r ≤ sumI (g.map sumI) := sumI_ge (fun x hx => by
    obtain ⟨r', hr', rfl⟩ := List.mem_map.mp hx
    exact sumI_pos (ok.pos r' hr')) (List.mem_map_of_mem h4)
  unfold sumAll
  omega
noncomputable def arcOf (R : Nat) (most : Int) (b : Box) : Arc := ⟨b.1, (R : Int) + b.2, 0, most⟩
noncomputable def sp_stream_of (K : PySem.W.Frag) (f : Nat → Addr) : Sp := fun vs H Q _ => ∃ (la lb : Addr) (xs ys : List V) (g : List (List Int)) (bs : List Box) (R C : Nat), vs = [.ref la, .ref lb] ∧ H la = some (.lst xs) ∧ GridV H xs g ∧ GOk g R C ∧ 1 ≤ R ∧ R ≤ 100 ∧ C ≤ 100 ∧ H lb = some (.lst ys) ∧ BoxesV H ys bs ∧ (∀ b ∈ bs, InG R C b) ∧ bs.length ≤ 1000 ∧
  ∀ H' x, Same H H' → StreamAt H' (f 23) x (R + C) (bs.map (arcOf R (sumAll g + 1))) (bs.map (gAt g)) → Q (.ref x) H'
theorem ok_stream_of (T : Txt K mg f fd) : FnOk P w K mg base CX0 3 (f 37) (fd 37) ["grid", "boxes"] (sp_stream_of K f) := by
  refine T.d_stream_of.F.ok sc_stream_of (fun vs H Q E h => ?_) (fun cdv A outer s H vs Q E hr h => ?_)
  · obtain ⟨la, lb, xs, ys, g, bs, R, C, rfl, _⟩ := h
    rfl
  · obtain ⟨la, lb, xs, ys, g, bs, R, C, rfl, hla, hg, ok, hR, hR2, hC2, hlb, hb, hin, hbl, k⟩ := h
    refine ⟨_, (pss_cons (psc 2 sc_stream_of.nd (pe_op op_add (pe_defL T.d_sum_of_all (ok_sum_of_all T) (hr.mono (by decide)) rfl (by decide) rfl (pal rfl (pvc 0) pa_nil)) pe_int))
     (pss_cons (ps_comp ["row", "column"] ["grid", "boxes", "most", "arcs"] rfl (show CompSc _ (defScope s_stream_of) ["grid", "boxes", "most", "arcs"] ["grid", "boxes", "most", "arcs"] from compOk_is (by decide +kernel)) sc_stream_of.nd (i := 3) rfl rfl (k_piL rfl (pvl 1)) (fun _ _ _ _ _ => (pgl2 K 0 1 (show (["row", "column", "grid", "boxes", "most", "arcs"] : List Str).Nodup by decide +kernel))) (fun _ _ _ _ _ => pts_nil) (fun _ _ _ _ _ => (pe_tup (pal rfl (pvl 0) (pal rfl (pe_defL T.d_column_node (ok_column_node T) (hr.mono (by decide)) rfl (by decide) rfl (pal rfl (pvc 2) (pal rfl (pvl 1) pa_nil))) (pal rfl pe_int (pal rfl (pvc 4) pa_nil)))))))
     (pss_one (ps_ret (pe_make T.o_Stream.mkr (ok_Stream___init__ T) (hr.mono (by decide)) rfl T.o_Stream.m T.d_Stream___init__.b .nil pass0 (pal rfl (pe_defL T.d_column_node (ok_column_node T) (hr.mono (by decide)) rfl (by decide) rfl (pal rfl (pvc 0) (pal rfl (pe_cB (k_len rfl) T.n_len bt_len rfl (by decide) (by decide) rfl (pal rfl (pe_ix (k_ixL rfl) (pvc 0) pe_int (fun _ _ => rfl)) pa_nil)) pa_nil))) (pal rfl (pvl 3) (pal rfl (pe_comp ["box"] ["grid", "boxes", "most", "arcs"] rfl (show CompSc _ (defScope s_stream_of) ["grid", "boxes", "most", "arcs"] ["grid", "boxes", "most", "arcs"] from compOk_is (by decide +kernel)) (k_piL rfl (pvl 1)) (fun _ _ _ _ _ => (pgl 0 (show (["box", "grid", "boxes", "most", "arcs"] : List Str).Nodup by decide +kernel))) (fun _ _ _ _ _ => pts_nil) (fun _ _ _ _ _ => (pe_defL T.d_number_at (ok_number_at T) (hr.mono (by decide)) rfl (by decide) rfl (pal rfl (pvc 1) (pal rfl (pvl 0) pa_nil))))) pa_nil))) (by decide) rfl rfl))))), ?_⟩
    walk_at "dl"
    have hgl := hg.1
    have hrl := ok.rows
    refine ⟨la, xs, g, rfl, hla, hg, by omega, fun H1 s1 => ⟨_, rfl, ⟨_, .of (s1 _ _ hlb)⟩, ?_⟩⟩
    refine comp_walkG walk_list (by rw [hb.1]; exact small_line (by omega)) (fun i zs σ H' => (∃ v0 v1, σ = [v0, v1, some (V.ref la), some (V.ref lb), some (V.int (sumAll g + 1)), none]) ∧ Same H H' ∧ ArcsV H' zs ((bs.take i).map (arcOf R (sumAll g + 1)))) ⟨⟨none, none, rfl⟩, s1, All2.nil⟩ (fun i zs σ H' q => ⟨.of (q.2.1 _ _ hlb), by rw [q.2.2.1, List.length_map, List.length_take]; omega⟩) ?_ ?_
    · rintro i y zs σ H2 hy ⟨⟨v0, v1, rfl⟩, s2, hz⟩
      obtain ⟨b, hbi, pb, rfl, hpb⟩ := All2.at hb hy
      refine ⟨pb, _, rfl, .of (s2 _ _ hpb), rfl, ?_⟩
      simp only [gCons, gNil, gName]
      walk_at "dl"
      refine ⟨xs, s2 _ _ hla, small_line (by decide), fun p hp => ⟨⟨_, rfl⟩, s2.new hp _, ?_⟩⟩
      rw [List.take_succ, hbi, List.map_append]
      refine All2.snoc (ArcsV.mono (Same.upd_new hp _) hz) ⟨p, rfl, ?_⟩
      rw [upd_same, hgl, hrl]
      rfl
    · rintro zs σ H2 ⟨⟨v0, v1, rfl⟩, s2, hz⟩ D hD
      rw [List.take_of_length_le (by rw [hb.1]; exact Nat.le_refl _)] at hz
      have u3 := Same.upd_new hD (HO.lst zs)
      have g3 : upd H2 D (HO.lst zs) D = some (.lst zs) := upd_same
      have s3 := s2.trans u3
      have hz3 := ArcsV.mono u3 hz
      generalize upd H2 D (HO.lst zs) = H3 at *
      obtain ⟨r0, hr0⟩ : ∃ r0, g[0]? = some r0 := ⟨_, List.getElem?_eq_getElem (by omega)⟩
      obtain ⟨x0, hx0, p0, rfl, hp0⟩ := All2.at' hg hr0
      have l0 := ok.cols r0 (List.mem_of_getElem? hr0)
      refine ⟨la, _, _, _, rfl, rfl, .of (s3 _ _ hla), atI_nat (j := 0) hx0, p0, rfl, _, .inl (.of (s3 _ _ hp0)), la, xs, _, rfl, s3 _ _ hla, ⟨_, .of (s3 _ _ hlb)⟩, ?_⟩
      rw [List.length_map, l0, hgl, hrl]
      refine comp_walk walk_list (by rw [hb.1]; exact small_line (by omega)) (fun i ws H' => Same H3 H' ∧ ws = ((bs.take i).map (gAt g)).map V.int) ⟨Same.refl _, rfl⟩ (fun _ _ _ _ q => .of (q.1 _ _ (s3 _ _ hlb))) (fun i ws H' q => by rw [q.2, List.length_map, List.length_map, List.length_take]; omega) ?_ ?_
      · rintro i y ws H4 hy ⟨s4, rfl⟩
        obtain ⟨b, hbi, hbx⟩ := All2.at hb hy
        have s34 := s3.trans s4
        walk_at "dl"
        refine ⟨xs, s34 _ _ hla, g, hg.mono s34, b, R, C, ok, hbx.mono s34, hin b (List.mem_of_getElem? hbi), ⟨_, rfl⟩, s4, ?_⟩
        rw [List.take_succ, hbi, List.map_append, List.map_append]
        rfl
      · rintro ws H4 ⟨s4, rfl⟩ D2 hD2 x dx hx hdx hne
        rw [List.take_of_length_le (by rw [hb.1]; exact Nat.le_refl _)] at hx hdx ⊢
        have u5 := Same.upd_new hD2 (HO.lst ((bs.map (gAt g)).map V.int))
        have g5 : upd H4 D2 (HO.lst ((bs.map (gAt g)).map V.int)) D2 = some (.lst ((bs.map (gAt g)).map V.int)) := upd_same
        have s45 := s4.trans u5
        generalize upd H4 D2 (HO.lst ((bs.map (gAt g)).map V.int)) = H5 at *
        have u6 := (Same.upd_new hdx (HO.own x)).new (show upd H5 dx (HO.own x) x = none by rw [upd_ne (Ne.symm hne)]; exact hx) (HO.ins (f 23) dx [])
        refine ⟨x, dx, D, D2, R + C, zs, bs.map (arcOf R (sumAll g + 1)), bs.map (gAt g), by simp, upd_same, by omega, u6 _ _ (s45 _ _ g3), (hz3.mono s45).mono u6, by rw [List.length_map]; exact hbl, fun A hA => ?_, u6 _ _ g5, by simp, fun H6 B6 S6 => ⟨rfl, k H6 x ?_ S6⟩⟩
        · obtain ⟨b, hbm, rfl⟩ := List.mem_map.mp hA
          obtain ⟨i1, i2⟩ := hin b hbm
          refine ⟨?_, ?_, ?_, ?_⟩ <;> (show _; simp only [arcOf]; omega)
        · intro b o hbo
          have h5 := s45 _ _ (s3 _ _ hbo)
          exact B6 b o (fun e => by subst e; rw [hx] at h5; cases h5) (u6 _ _ h5)
noncomputable def Lk (g : List (List Int)) (R : Nat) (bs : List Box) (u v : Nat) : Prop := ∃ b ∈ bs, (u = b.1 ∧ v = R + b.2) ∨ (u = R + b.2 ∧ v = b.1 ∧ 0 < gAt g b)
theorem Lk.mono {g : List (List Int)} {R : Nat} {bs cs : List Box} (h : ∀ b ∈ bs, b ∈ cs) {u v : Nat} (l : Lk g R bs u v) : Lk g R cs u v := by
  obtain ⟨b, hb, c⟩ := l; exact ⟨b, h b hb, c⟩
theorem link_iff {g : List (List Int)} {R C : Nat} (ok : GOk g R C) {bs : List Box} (hin : ∀ b ∈ bs, InG R C b) (u v : Nat) : LinkS (bs.map (arcOf R (sumAll g + 1))) (bs.map (gAt g)) u v ↔ Lk g R bs u v := by
  constructor
  · rintro ⟨pl, sg, ⟨A, hA, hc⟩, hr⟩
    rw [List.getElem?_map] at hA
    obtain ⟨b, hb, rfl⟩ := Option.map_eq_some_iff.mp hA
    refine ⟨b, List.mem_of_getElem? hb, ?_⟩
    rcases hc with ⟨rfl, h1, h2⟩ | ⟨rfl, h1, h2⟩
    · left
      simp only [arcOf] at h1 h2
      omega
    · right
      simp only [arcOf] at h1 h2
      refine ⟨by omega, by omega, ?_⟩
      unfold roomF at hr
      rw [if_neg (by decide), getD_of (by rw [List.getElem?_map, hb]; rfl), getD_of (by rw [List.getElem?_map, hb]; rfl)] at hr
      simp only [arcOf] at hr
      omega
  · rintro ⟨b, hb, hc⟩
    obtain ⟨pl, hpl⟩ := List.mem_iff_getElem?.mp hb
    rcases hc with ⟨rfl, rfl⟩ | ⟨rfl, rfl, h0⟩
    · refine ⟨pl, 1, ⟨arcOf R (sumAll g + 1) b, by rw [List.getElem?_map, hpl]; rfl, .inl ⟨rfl, rfl, by simp [arcOf]⟩⟩, ?_⟩
      unfold roomF
      rw [if_pos rfl, getD_of (by rw [List.getElem?_map, hpl]; rfl), getD_of (by rw [List.getElem?_map, hpl]; rfl)]
      have := gAt_le ok (hin b hb)
      simp only [arcOf]
      omega
    · refine ⟨pl, -1, ⟨arcOf R (sumAll g + 1) b, by rw [List.getElem?_map, hpl]; rfl, .inr ⟨rfl, by simp [arcOf], rfl⟩⟩, ?_⟩
      unfold roomF
      rw [if_neg (by decide), getD_of (by rw [List.getElem?_map, hpl]; rfl), getD_of (by rw [List.getElem?_map, hpl]; rfl)]
      simp only [arcOf]
      omega
theorem reach_iff {L L' : Nat → Nat → Prop} (h : ∀ u v, L u v ↔ L' u v) (s v : Nat) : Reach L s v ↔ Reach L' s v := ⟨fun r => r.mono fun a b => (h a b).mp, fun r => r.mono fun a b => (h a b).mpr⟩
noncomputable def others (bs : List Box) (c : Box) : List Box := bs.filter fun b => decide (b ≠ c)
noncomputable def Outr (g : List (List Int)) (R : Nat) (bs : List Box) (c : Box) : Prop := ¬ (0 < gAt g c ∧ Reach (Lk g R (others bs c)) c.1 (R + c.2)) ∧ ¬ Reach (Lk g R (others bs c)) (R + c.2) c.1
open Classical in
noncomputable def outr (g : List (List Int)) (R : Nat) (bs : List Box) (c : Box) : Bool := decide (Outr g R bs c)
theorem outr_t {g : List (List Int)} {R : Nat} {bs : List Box} {c : Box} (h : Outr g R bs c) : outr g R bs c = true := by unfold outr; exact @decide_eq_true _ (Classical.propDecidable _) h
theorem outr_f {g : List (List Int)} {R : Nat} {bs : List Box} {c : Box} (h : ¬ Outr g R bs c) : outr g R bs c = false := by unfold outr; exact @decide_eq_false _ (Classical.propDecidable _) h
theorem outr_is {g : List (List Int)} {R : Nat} {bs : List Box} {c : Box} : outr g R bs c = true ↔ Outr g R bs c := by unfold outr; exact @decide_eq_true_iff _ (Classical.propDecidable _)
theorem Outr.less {g : List (List Int)} {R : Nat} {bs cs : List Box} {c : Box} (h : ∀ b ∈ bs, b ∈ cs) (o : Outr g R cs c) : Outr g R bs c := by
  have sub : ∀ u v, Lk g R (others bs c) u v → Lk g R (others cs c) u v := fun u v => Lk.mono fun b hb => by
    obtain ⟨h1, h2⟩ := List.mem_filter.mp hb
    exact List.mem_filter.mpr ⟨h b h1, h2⟩
  exact ⟨fun ⟨z, r⟩ => o.1 ⟨z, r.mono sub⟩, fun r => o.2 (r.mono sub)⟩
noncomputable def sp_is_outright (K : PySem.W.Frag) : Sp := fun vs H Q _ => ∃ (la lh : Addr) (xs ys : List V) (v : V) (g : List (List Int)) (bs : List Box) (c : Box) (R C : Nat), vs = [.ref la, .ref lh, v] ∧ H la = some (.lst xs) ∧ GridV H xs g ∧ GOk g R C ∧ 1 ≤ R ∧ R ≤ 100 ∧ C ≤ 100 ∧ H lh = some (.lst ys) ∧ BoxesV H ys bs ∧ (∀ b ∈ bs, InG R C b) ∧ bs.length ≤ 1000 ∧ BoxAt H v c ∧ InG R C c ∧
  ∀ H', Same H H' → Q (.bl (outr g R bs c)) H'
theorem ok_is_outright (T : Txt K mg f fd) : FnOk P w K mg base CX0 4 (f 43) (fd 43) ["grid", "hidden", "cell"] (sp_is_outright K) := by
  refine T.d_is_outright.F.ok sc_is_outright (fun vs H Q E h => ?_) (fun cdv A outer s H vs Q E hr h => ?_)
  · obtain ⟨la, lh, xs, ys, v, g, bs, c, R, C, rfl, _⟩ := h
    rfl
  · obtain ⟨la, lh, xs, ys, v, g, bs, c, R, C, rfl, hla, hg, ok, hR, hR2, hC2, hlh, hb, hin, hbl, hc, hci, k⟩ := h
    refine ⟨_, (pss_cons (psl 3 sc_is_outright.nd (pe_defL T.d_stream_of (ok_stream_of T) (hr.mono (by decide)) rfl (by decide) rfl (pal rfl (pvl 0) (pal rfl (pe_defL T.d_others_of (ok_others_of T) (hr.mono (by decide)) rfl (by decide) rfl (pal rfl (pvl 1) (pal rfl (pvl 2) pa_nil))) pa_nil))))
     (pss_cons (psl 4 sc_is_outright.nd (pe_defL T.d_column_node (ok_column_node T) (hr.mono (by decide)) rfl (by decide) rfl (pal rfl (pvl 0) (pal rfl (pe_ix (k_ixT rfl) (pvl 2) pe_int (fun _ _ => rfl)) pa_nil))))
     (pss_cons (ps_if (PW.pt (pw_and (pt_cmpR op_gt (pe_defL T.d_number_at (ok_number_at T) (hr.mono (by decide)) rfl (by decide) rfl (pal rfl (pvl 0) (pal rfl (pvl 2) pa_nil))) pe_int (nomark _)) (pw_and1 (pt_cmp (pc_din (hu_of hr) (pvl 4) (pe_meth (pvl 3) T.o_Stream.cls T.m_Stream_reach (ok_Stream_reach T) (hr.mono (by decide)) T.d_Stream_reach.b .nil pass0 (pal rfl (pe_ix (k_ixT rfl) (pvl 2) pe_int (fun _ _ => rfl)) pa_nil) rfl rfl rfl))))))
     (pss_one (ps_ret pe_bl))
     pss_nil)
     (pss_one (ps_ret (pe_cmp (pc_dnotin (hu_of hr) (pe_ix (k_ixT rfl) (pvl 2) pe_int (fun _ _ => rfl)) (pe_meth (pvl 3) T.o_Stream.cls T.m_Stream_reach (ok_Stream_reach T) (hr.mono (by decide)) T.d_Stream_reach.b .nil pass0 (pal rfl (pvl 4) pa_nil) rfl rfl rfl)))))))), ?_⟩
    walk_at "dl"
    have hgl := hg.1
    have hrl := ok.rows
    refine ⟨lh, ys, v, bs, c, rfl, hlh, hb, hc, hbl, fun H1 lo zs s1 hlo hz => ?_⟩
    have hoi : ∀ b ∈ others bs c, InG R C b := fun b hb => hin b (List.mem_filter.mp hb).1
    have hol : (others bs c).length ≤ 1000 := Nat.le_trans (List.length_filter_le _ _) hbl
    refine ⟨la, lo, xs, zs, g, others bs c, R, C, rfl, s1 _ _ hla, hg.mono s1, ok, hR, hR2, hC2, hlo, hz, hoi, hol, fun H2 x s2 S2 => ?_⟩
    have s12 := s1.trans s2
    obtain ⟨pc, rfl, hpc⟩ := hc
    have hpc2 := s12 _ _ hpc
    have ixT : ∀ (G : Hp) (R' : VK), Same H G → R' (.int (c.1 : Int)) G → rIxT K (V.ref pc) (V.int 0) G R' := fun G R' sG r => ⟨pc, _, _, _, rfl, rfl, .of (sG _ _ hpc), atI_nat (j := 0) rfl, r⟩
    refine ⟨pc, _, _, _, rfl, rfl, .of hpc2, atI_nat (j := 1) rfl, la, xs, _, rfl, s12 _ _ hla, ?_⟩
    rw [hgl, hrl]
    have L := link_iff ok hoi
    dsimp only
    have cast : ((R : Int) + (c.2 : Int)) = ((R + c.2 : Nat) : Int) := by omega
    rw [cast]
    have ri : ∀ u v, Reach (LinkS ((others bs c).map (arcOf R (sumAll g + 1))) ((others bs c).map (gAt g))) u v ↔ Reach (Lk g R (others bs c)) u v := reach_iff L
    obtain ⟨dx, _, _, _, _, _, hx2, _⟩ := S2.ex
    have c1 := hci.1
    have c2 := hci.2
    have tail : ∀ (G : Hp), Same H2 G → ¬ (0 < gAt g c ∧ Reach (Lk g R (others bs c)) c.1 (R + c.2)) → rIxT K (V.ref pc) (V.int 0) G fun y H1 => ∃ a, V.ref x = V.ref a ∧ ∃ x_3 x_4, H1 a = some (HO.ins (f 23) x_3 x_4) ∧ List.lookup (Str.ofString "reach") x_4 = none ∧ sp_Stream_reach K f [V.ref x, V.int ((R + c.2 : Nat) : Int)] H1 (fun x H2 => ∃ a, x = V.ref a ∧ ∃ x, DGet H2 a y x ∧ Q (V.bl !x.isSome) H2) E0 := by
      intro G sG hno
      refine ixT G _ (s12.trans sG) ⟨x, rfl, dx, _, sG _ _ hx2, rfl, x, R + c.2, R + C, _, _, rfl, S2.mono sG, by omega, fun H3 p kvs es s3 hp he hcm => ⟨p, rfl, _, DGet.k (k := Sum.inl (c.1 : Int)) hp, ?_⟩⟩
      rw [valE_some he]
      have := k H3 ((s12.trans sG).trans s3)
      by_cases cr : Reach (Lk g R (others bs c)) (R + c.2) c.1
      · rw [decide_eq_true ((hcm.iff c.1).mpr ((ri _ _).mpr cr))]
        rw [outr_f (fun o => o.2 cr)] at this
        exact this
      · rw [decide_eq_false (fun z => cr ((ri _ _).mp ((hcm.iff c.1).mp z)))]
        rw [outr_t ⟨hno, cr⟩] at this
        exact this
    refine ⟨la, xs, V.ref pc, g, c, R, C, rfl, s12 _ _ hla, hg.mono s12, ok, ⟨pc, rfl, hpc2⟩, hci, _, rfl, ?_⟩
    by_cases c0 : 0 < gAt g c
    · rw [if_pos c0]
      refine ⟨x, rfl, dx, _, hx2, rfl, ixT H2 _ s12 ⟨x, c.1, R + C, _, _, rfl, S2, by omega, fun H3 p kvs es s3 hp he hcm => ⟨p, rfl, _, DGet.k (k := Sum.inl ((R + c.2 : Nat) : Int)) hp, ?_⟩⟩⟩
      rw [valE_some he]
      by_cases cr : Reach (Lk g R (others bs c)) c.1 (R + c.2)
      · rw [decide_eq_true ((hcm.iff _).mpr ((ri _ _).mpr cr)), if_pos rfl]
        have := k H3 (s12.trans s3)
        rw [outr_f (fun o => o.1 ⟨c0, cr⟩)] at this
        exact this
      · rw [decide_eq_false (fun z => cr ((ri _ _).mp ((hcm.iff _).mp z))), if_neg Bool.false_ne_true]
        exact tail H3 s3 fun z => cr z.2
    · rw [if_neg c0]
      exact tail H2 (Same.refl _) fun z => c0 z.1
noncomputable def sp_is_small (K : PySem.W.Frag) : Sp := fun vs H Q _ => ∃ (la : Addr) (xs : List V) (v : V) (g : List (List Int)) (b : Box) (R C : Nat) (few : Int), vs = [.ref la, v, .int few] ∧ H la = some (.lst xs) ∧ GridV H xs g ∧ GOk g R C ∧ BoxAt H v b ∧ InG R C b ∧ Q (.bl (decide (1 ≤ gAt g b) && decide (gAt g b ≤ few))) H
theorem ok_is_small (T : Txt K mg f fd) : FnOk P w K mg base CX0 1 (f 46) (fd 46) ["grid", "box", "few"] (sp_is_small K) := by
  refine T.d_is_small.F.ok sc_is_small (fun vs H Q E h => ?_) (fun cdv A outer s H vs Q E hr h => ?_)
  · obtain ⟨la, xs, v, g, b, R, C, few, rfl, _⟩ := h
    rfl
  · obtain ⟨la, xs, v, g, b, R, C, few, rfl, hla, hg, ok, ⟨pb, rfl, hb⟩, hi, k⟩ := h
    refine ⟨_, (pss_one (ps_ret (pe_chain op_le op_le pe_int (pe_ix (k_ixL rfl) (pe_ix (k_ixL rfl) (pvl 0) (pe_ix (k_ixT rfl) (pvl 1) pe_int (fun _ _ => rfl)) (fun _ _ => rfl)) (pe_ix (k_ixT rfl) (pvl 1) pe_int (fun _ _ => rfl)) (fun _ _ => rfl)) (pvl 2)))), ?_⟩
    walk_at "dl"
    obtain ⟨p, h1, ys, h2, h3⟩ := at_grid hla hg ok hi
    refine ⟨pb, _, _, _, rfl, rfl, .of hb, atI_nat (j := 0) rfl, la, _, _, _, rfl, rfl, .of hla, h1, pb, _, _, _, rfl, rfl, .of hb, atI_nat (j := 1) rfl, p, _, _, _, rfl, rfl, .of h2, h3, _, rfl, ?_⟩
    by_cases c : 1 ≤ gAt g b
    · rw [decide_eq_true c] at k
      rw [if_pos c]
      exact ⟨_, rfl, k⟩
    · rw [decide_eq_false c] at k
      rw [if_neg c]
      exact k
noncomputable def rowB (C r : Nat) : List Box := (List.range C).map fun c => (r, c)
noncomputable def allB (C : Nat) : Nat → List Box
  | 0 => []
  | r + 1 => allB C r ++ rowB C r
theorem allB_len (C : Nat) : ∀ R, (allB C R).length = R * C
  | 0 => by simp [allB]
  | R + 1 => by simp [allB, rowB, allB_len C R, Nat.succ_mul]
theorem allB_mem {C : Nat} {b : Box} : ∀ {R : Nat}, b ∈ allB C R ↔ InG R C b
  | 0 => by simp [allB, InG]
  | R + 1 => by
    unfold allB
    rw [List.mem_append, allB_mem]
    unfold rowB InG
    constructor
    · rintro (⟨h1, h2⟩ | h)
      · exact ⟨by omega, h2⟩
      · obtain ⟨c, hc, rfl⟩ := List.mem_map.mp h
        exact ⟨Nat.lt_succ_self _, List.mem_range.mp hc⟩
    · rintro ⟨h1, h2⟩
      by_cases e : b.1 = R
      · exact .inr (List.mem_map.mpr ⟨b.2, List.mem_range.mpr h2, by rw [← e]⟩)
      · exact .inl ⟨by omega, h2⟩
theorem allB_nodup (C : Nat) : ∀ R, (allB C R).Nodup
  | 0 => List.nodup_nil
  | R + 1 => by
    unfold allB
    refine List.nodup_append.mpr ⟨allB_nodup C R, ?_, fun a ha b hb e => ?_⟩
    · unfold rowB
      refine List.pairwise_map.mpr ?_
      refine List.Pairwise.imp ?_ (List.nodup_range (n := C))
      intro a b h e
      exact h (Prod.mk.inj e).2
    · subst e
      obtain ⟨h1, h2⟩ := allB_mem.mp ha
      unfold rowB at hb
      obtain ⟨c, hc, rfl⟩ := List.mem_map.mp hb
      exact absurd h1 (Nat.lt_irrefl _)
noncomputable def RowP (H : Hp) (C r i : Nat) (zs : List V) (H' : Hp) : Prop := Same H H' ∧ BoxesV H' zs ((List.range i).map fun c => ((r, c) : Box))
theorem RowP.step {H H' : Hp} {C r i : Nat} {zs : List V} {p : Addr} (h : RowP H C r i zs H') (hp : H' p = none) : RowP H C r (i + 1) (zs ++ [.ref p]) (upd H' p (.tup [.int (r : Int), .int (i : Int)])) := by
  refine ⟨h.1.new hp _, ?_⟩
  rw [List.range_succ, List.map_append]
  exact All2.snoc (h.2.mono (Same.upd_new hp _)) ⟨p, rfl, upd_same⟩
noncomputable def sp_boxes_of (K : PySem.W.Frag) : Sp := fun vs H Q _ => ∃ (la : Addr) (xs : List V) (g : List (List Int)) (R C : Nat), vs = [.ref la] ∧ H la = some (.lst xs) ∧ GridV H xs g ∧ GOk g R C ∧ R ≤ 10 ∧ C ≤ 10 ∧
  ∀ H' p ys, Same H H' → H p = none → H' p = some (.lst ys) → BoxesV H' ys (allB C R) → Q (.ref p) H'
theorem ok_boxes_of (T : Txt K mg f fd) : FnOk P w K mg base CX0 1 (f 45) (fd 45) ["grid"] (sp_boxes_of K) := by
  refine T.d_boxes_of.F.ok sc_boxes_of (fun vs H Q E h => ?_) (fun cdv A outer s H vs Q E hr h => ?_)
  · obtain ⟨la, xs, g, R, C, rfl, _⟩ := h
    rfl
  · obtain ⟨la, xs, g, R, C, rfl, hla, hg, ok, hR, hC, k⟩ := h
    refine ⟨_, (pss_cons (psl 1 sc_boxes_of.nd (pe_lst pa_nil))
     (pss_cons (ps_for PassesOwn.never rfl (pi_enum rfl T.n_enumerate (pal rfl (pvl 0) pa_nil) rfl) (k_pgT rfl rfl (pgs_cons (pgc 2 sc_boxes_of.nd) (pgs_cons (pgl 3 sc_boxes_of.nd) pgs_nil)))
     (pss_one (ps_aug sc_boxes_of.nd (i := 1) rfl (.inl rfl) (pe_comp ["column"] ["grid", "told", "row", "numbers"] rfl (show CompSc _ (defScope s_boxes_of) ["grid", "told", "row", "numbers"] ["grid", "told", "row", "numbers"] from compOk_is (by decide +kernel)) (pi_range1 rfl T.n_range (pal rfl (pe_cB (k_len rfl) T.n_len bt_len rfl (by decide) (by decide) rfl (pal rfl (pvl 3) pa_nil)) pa_nil)) (fun _ _ _ _ _ => (pgl 0 (show (["column", "grid", "told", "row", "numbers"] : List Str).Nodup by decide +kernel))) (fun _ _ _ _ _ => pts_nil) (fun _ _ _ _ _ => (pe_tup (pal rfl (pvc 3) (pal rfl (pvl 0) pa_nil))))) ip_ladd)))
     (pss_one (ps_ret (pvl 1))))), ?_⟩
    walk_at "dl"
    have hxl : xs.length = R := hg.1.trans ok.rows
    refine ⟨Nat.zero_le _, fun p hp => ?_⟩
    have s1 := Same.upd_new hp (HO.lst [])
    have g1 : upd H p (HO.lst []) p = some (.lst []) := upd_same
    generalize upd H p (HO.lst []) = H1 at *
    refine for_in ?_
    walk_at "dl"
    refine ⟨⟨_, .of (s1 _ _ hla)⟩, ?_⟩
    refine ForW.enum (xs := xs) (fun i σ H' => (∃ v2 v3, σ = [some (V.ref la), some (V.ref p), v2, v3]) ∧ Same H H' ∧ ∃ ys, H' p = some (.lst ys) ∧ BoxesV H' ys (allB C i)) ⟨⟨none, none, rfl⟩, s1, [], g1, All2.nil⟩ (fun i σ H' q => .of (q.2.1 _ _ hla)) ?_ ?_
    · rintro i y σ H2 q hy ⟨⟨v2, v3, rfl⟩, s2, ys, hys, hB⟩ hq
      have hi : i < xs.length := (List.getElem?_eq_some_iff.mp hy).1
      obtain ⟨r, hr', pr, rfl, hpr⟩ := All2.at hg hy
      have u3 := Same.upd_new hq (HO.tup [V.int (i : Int), V.ref pr])
      have g3 : upd H2 q (HO.tup [V.int (i : Int), V.ref pr]) q = some (HO.tup [V.int (i : Int), V.ref pr]) := upd_same
      have s3 := s2.trans u3
      have hys3 := u3 _ _ hys
      have hB3 := hB.mono u3
      generalize upd H2 q (HO.tup [V.int (i : Int), V.ref pr]) = H3 at *
      refine ⟨q, _, rfl, .of g3, rfl, ?_⟩
      simp only [gCons, gNil, gName]
      walk_at "dl"
      have hrl := ok.cols r (List.mem_of_getElem? hr')
      refine ⟨_, .inl (.of (s3 _ _ hpr)), ?_⟩
      rw [List.length_map, hrl]
      refine ⟨by omega, by omega, ?_⟩
      rw [Int.toNat_natCast]
      refine comp_walk walk_range (by rw [rangeV_len]; exact small_line (by omega)) (RowP H3 C i) ⟨Same.refl _, All2.nil⟩ (fun _ _ _ _ _ => trivial) (fun j zs H' q => by rw [q.2.1, List.length_map, List.length_range]; exact Nat.le_refl _) ?_ ?_
      · rintro j x zs H4 hx hJ
        obtain ⟨hj, rfl⟩ := range_item hx
        walk_at "dl"
        refine ⟨small_line (by decide), fun a ha => ⟨⟨_, rfl⟩, ?_⟩⟩
        rw [Int.zero_add]
        exact hJ.step ha
      · rintro zs H4 ⟨s4, hz⟩ D hD
        rw [rangeV_len] at hz
        have u5 := Same.upd_new hD (HO.lst zs)
        have np : p ≠ D := ne_of_none (s4 _ _ hys3) hD
        have l1 : ys.length = i * C := hB.1.trans (allB_len C i)
        have l2 : zs.length = C := by rw [hz.1, List.length_map, List.length_range]
        have l3 : i * C ≤ 10 * 10 := Nat.mul_le_mul (by omega) hC
        have np5 : upd H4 D (HO.lst zs) p = some (.lst ys) := u5 _ _ (s4 _ _ hys3)
        refine ⟨p, D, ys, zs, rfl, rfl, np5, upd_same, small_line (by omega), rfl, ⟨_, rfl⟩, ((s3.trans s4).trans u5).set hp _, _, upd_same, ?_⟩
        have tsm : TSame (upd H4 D (HO.lst zs)) (upd (upd H4 D (HO.lst zs)) p (HO.lst (ys ++ zs))) := (TSame.refl _).set np5 (fun _ z => by cases z)
        exact All2.append (BoxesV.monoT tsm ((hB3.mono s4).mono u5)) (BoxesV.monoT tsm (hz.mono u5))
    · rintro σ H2 ⟨⟨v2, v3, rfl⟩, s2, ys, hys, hB⟩
      rw [hxl] at hB
      walk_at "dl"
      exact k H2 p ys s2 hp hys hB
noncomputable def FoundV (H : Hp) (v : V) : Option Box → Prop
  | none => v = .non
  | some b => BoxAt H v b
noncomputable def sp_first_outright (K : PySem.W.Frag) : Sp := fun vs H Q _ => ∃ (la lh ls : Addr) (xs ys zs : List V) (g : List (List Int)) (bs ss : List Box) (R C : Nat), vs = [.ref la, .ref lh, .ref ls] ∧ H la = some (.lst xs) ∧ GridV H xs g ∧ GOk g R C ∧ 1 ≤ R ∧ R ≤ 10 ∧ C ≤ 10 ∧ H lh = some (.lst ys) ∧ BoxesV H ys bs ∧ (∀ b ∈ bs, InG R C b) ∧ bs.length ≤ 1000 ∧ H ls = some (.lst zs) ∧ BoxesV H zs ss ∧ (∀ b ∈ ss, InG R C b) ∧
  ∀ H' v, Same H H' → FoundV H' v (ss.find? (outr g R bs)) → Q v H'
theorem ok_first_outright (T : Txt K mg f fd) : FnOk P w K mg base CX0 5 (f 47) (fd 47) ["grid", "hidden", "small"] (sp_first_outright K) := by
  refine T.d_first_outright.F.ok sc_first_outright (fun vs H Q E h => ?_) (fun cdv A outer s H vs Q E hr h => ?_)
  · obtain ⟨la, lh, ls, xs, ys, zs, g, bs, ss, R, C, rfl, _⟩ := h
    rfl
  · obtain ⟨la, lh, ls, xs, ys, zs, g, bs, ss, R, C, rfl, hla, hg, ok, hR, hR2, hC2, hlh, hb, hin, hbl, hls, hs, hsi, k⟩ := h
    refine ⟨_, (pss_cons (ps_for PassesOwn.never rfl (k_piL rfl (pvl 2)) (pgl 3 sc_first_outright.nd)
     (pss_one (ps_if (pt_val (pe_defL T.d_is_outright (ok_is_outright T) (hr.mono (by decide)) rfl (by decide) rfl (pal rfl (pvl 0) (pal rfl (pvl 1) (pal rfl (pvl 3) pa_nil)))))
     (pss_one (ps_ret (pvl 3)))
     pss_nil)))
     (pss_one (ps_ret pe_non))), ?_⟩
    walk_at "dl"
    refine for_in ?_
    walk_at "dl"
    refine ⟨⟨_, .of hls⟩, ?_⟩
    refine ForW.of walk_list (fun i σ H' => (∃ v3, σ = [some (V.ref la), some (V.ref lh), some (V.ref ls), v3]) ∧ Same H H' ∧ ∀ b ∈ ss.take i, outr g R bs b = false) ⟨⟨none, rfl⟩, Same.refl _, (fun _ z => by simp at z)⟩ (fun i σ H' _ q => .of (q.2.1 _ _ hls)) ?_ ?_
    · rintro i x σ H2 hx ⟨⟨v3, rfl⟩, s2, ha⟩
      obtain ⟨b, hbi, hbx⟩ := All2.at hs hx
      walk_at "dl"
      refine ⟨la, lh, xs, ys, x, g, bs, b, R, C, rfl, s2 _ _ hla, hg.mono s2, ok, hR, by omega, by omega, s2 _ _ hlh, hb.mono s2, hin, hbl, hbx.mono s2, hsi b (List.mem_of_getElem? hbi), fun H3 s3 => ?_⟩
      have tk : ss.take (i + 1) = ss.take i ++ [b] := by rw [List.take_succ, hbi]; rfl
      cases co : outr g R bs b with
      | true =>
        refine ⟨_, rfl, ?_⟩
        rw [if_pos rfl]
        refine k H3 x (s2.trans s3) ?_
        have e : ss.find? (outr g R bs) = some b := by
          have sp : ss = ss.take i ++ b :: ss.drop (i + 1) := by
            have hi := List.getElem?_eq_some_iff.mp hbi
            conv => lhs; rw [← List.take_append_drop i ss, List.drop_eq_getElem_cons hi.1, hi.2]
          rw [sp, List.find?_append, List.find?_eq_none.mpr (fun z hz => by rw [ha z hz]; exact Bool.false_ne_true), List.find?_cons, co]
          rfl
        rw [e]
        exact (hbx.mono s2).mono s3
      | false =>
        refine ⟨_, rfl, ?_⟩
        rw [if_neg Bool.false_ne_true]
        refine ⟨⟨_, rfl⟩, s2.trans s3, fun z hz => ?_⟩
        rw [tk] at hz
        rcases List.mem_append.mp hz with y | y
        · exact ha z y
        · rw [List.mem_singleton.mp y]; exact co
    · rintro σ H2 ⟨⟨v3, rfl⟩, s2, ha⟩
      rw [hs.1, List.take_length] at ha
      walk_at "dl"
      refine k H2 .non s2 ?_
      rw [List.find?_eq_none.mpr (fun z hz => by rw [ha z hz]; exact Bool.false_ne_true)]
      rfl
noncomputable def sp_NoVeil___init__ (K : PySem.W.Frag) : Sp := fun vs H Q _ => ∃ a C v ini, vs = [.ref a, v] ∧ H a = some (ExN a (.ref C) none) ∧ exB K C ini = true ∧ PySem.W.hasDictIn K C = true ∧ PySem.W.findIn K (.ref C) "__setattr__" = some (some (.builtin "object.__setattr__")) ∧ PySem.W.findIn K (.ref C) "cell" = some none ∧
  ∀ dx, H dx = none → dx ≠ a → Q .non (upd (upd H dx (.xd [("cell", v)])) a (ExN a (.ref C) (some dx)))
theorem ok_NoVeil___init__ (T : Txt K mg f fd) : FnOk P w K mg base CX0 1 (f 15000) (fd 15000) ["self", "cell"] (sp_NoVeil___init__ K) := by
  refine T.d_NoVeil___init__.F.ok sc_NoVeil___init__ (fun vs H Q E h => ?_) (fun cdv A outer s H vs Q E hr h => ?_)
  · obtain ⟨a, C, v, ini, rfl, _⟩ := h
    rfl
  · obtain ⟨a, C, v, ini, rfl, e1, e2, e3, e4, e5, k⟩ := h
    refine ⟨_, (pss_one (ps_xset (pvl 0) (pvl 1) rfl)), ?_⟩
    walk_at "dl"
    exact ⟨C, e1, ⟨ini, e2⟩, e3, e4, e5, k⟩
theorem raised {H1 : Hp} {a dx : Addr} {o1 o2 o3 : HO} (ha : H1 a = none) (hdx : upd H1 a o1 dx = none) (hne : dx ≠ a) : Same H1 (dropH (upd (upd (upd H1 a o1) dx o2) a o3) a) ∧ dropH (upd (upd (upd H1 a o1) dx o2) a o3) a dx = some o2 := by
  refine ⟨fun b o hb1 => ?_, ?_⟩
  · have n1 : b ≠ a := fun z => by subst z; rw [ha] at hb1; cases hb1
    have n2 : b ≠ dx := fun z => by
      subst z
      rw [upd_ne n1] at hdx
      rw [hdx] at hb1; cases hb1
    rw [drop_ne n1, upd_ne n1, upd_ne n2, upd_ne n1]
    exact hb1
  · rw [drop_ne hne, upd_ne hne, upd_same]
noncomputable def isSm (g : List (List Int)) (few : Int) (b : Box) : Bool := decide (1 ≤ gAt g b) && decide (gAt g b ≤ few)
noncomputable def smalls (g : List (List Int)) (few : Int) (bs : List Box) : List Box := bs.filter (isSm g few)
noncomputable def stepV (g : List (List Int)) (R : Nat) (ss hid : List Box) (b : Box) : List Box := if b ∉ ss ∧ ss.find? (outr g R (others hid b)) = none then others hid b else hid
noncomputable def veilF (g : List (List Int)) (R : Nat) (ss all : List Box) : Nat → List Box
  | 0 => all
  | i + 1 => match all[i]? with
    | some b => stepV g R ss (veilF g R ss all i) b
    | none => veilF g R ss all i
theorem veilF_sub (g : List (List Int)) (R : Nat) (ss all : List Box) : ∀ i, ∀ b ∈ veilF g R ss all i, b ∈ all
  | 0, b, h => h
  | i + 1, b, h => by
    unfold veilF at h
    cases e : all[i]? with
    | none => rw [e] at h; exact veilF_sub g R ss all i b h
    | some c =>
      rw [e] at h
      simp only [stepV] at h
      split at h
      · exact veilF_sub g R ss all i b (List.mem_filter.mp h).1
      · exact veilF_sub g R ss all i b h
theorem veilF_len (g : List (List Int)) (R : Nat) (ss all : List Box) : ∀ i, (veilF g R ss all i).length ≤ all.length
  | 0 => Nat.le_refl _
  | i + 1 => by
    unfold veilF
    cases e : all[i]? with
    | none => exact veilF_len g R ss all i
    | some c =>
      simp only [stepV]
      split
      · exact Nat.le_trans (List.length_filter_le _ _) (veilF_len g R ss all i)
      · exact veilF_len g R ss all i
theorem comp_boxes {H : Hp} {l : Addr} {xs : List V} {bs : List Box} {pr : Box → Bool} {tt : TT} {fin : List V → Hp → Prop} {σ : St} (hl : H l = some (.lst xs)) (hb : BoxesV H xs bs) (hs : bs.length ≤ 1000)
    (ht : ∀ (i : Nat) x b H1 (Q : Bool → Hp → Prop), xs[i]? = some x → bs[i]? = some b → Same H H1 → (∀ H2, Same H1 H2 → Q (pr b) H2) → tt (some x :: σ) H1 Q)
    (hd : ∀ ys H', Same H H' → BoxesV H' ys (bs.filter pr) → fin ys H') : CompW (Itl K l) (gName 0) tt (tVar 0) fin (none :: σ) H := by
  refine comp_walk walk_list (by rw [hb.1]; exact small_line (by omega)) (fun i ys H' => Same H H' ∧ BoxesV H' ys ((bs.take i).filter pr)) ⟨Same.refl _, All2.nil⟩ (fun _ _ _ _ q => .of (q.1 _ _ hl)) (fun i ys H' q => by rw [q.2.1]; exact Nat.le_trans (List.length_filter_le _ _) (by rw [List.length_take]; omega)) ?_ ?_
  · rintro i x ys H2 hx ⟨s2, hy⟩
    obtain ⟨b, hbi, hx2⟩ := All2.at hb hx
    refine ht i x b H2 _ hx hbi s2 fun H3 s3 => ?_
    rw [List.take_succ, hbi, List.filter_append]
    cases e : pr b with
    | false =>
      rw [if_neg Bool.false_ne_true, show List.filter pr (some b).toList = [] by simp [e], List.append_nil]
      exact ⟨⟨_, rfl⟩, s2.trans s3, hy.mono s3⟩
    | true =>
      rw [if_pos rfl, show List.filter pr (some b).toList = [b] by simp [e]]
      exact ⟨⟨_, rfl⟩, s2.trans s3, All2.snoc (hy.mono s3) ((hx2.mono s2).mono s3)⟩
  · rintro ys H2 ⟨s2, hy⟩
    rw [List.take_of_length_le (by rw [hb.1]; exact Nat.le_refl _)] at hy
    exact hd ys H2 s2 hy
noncomputable def AOk (m : Int) (A : Arc) : Prop := 0 ≤ A.a ∧ A.a < m ∧ 0 ≤ A.b ∧ A.b < m ∧ A.a ≠ A.b ∧ 0 ≤ A.l ∧ A.l ≤ A.u
noncomputable def NetOk (m : Int) (as : List Arc) : Prop := 1 ≤ m ∧ m ≤ 120 ∧ as.length ≤ 300 ∧ ∀ A ∈ as, AOk m A
noncomputable def sp_asked_arc (K : PySem.W.Frag) (f : Nat → Addr) : Sp := fun vs H Q E => ∃ m p A, vs = [.int m, .ref p] ∧ H p = some (.tup (Arc.vs A)) ∧ (AOk m A → Q (.bl true) H) ∧ (¬ AOk m A → E (.ref (f 6)) none H)
theorem ok_asked_arc (T : Txt K mg f fd) : FnOk P w K mg base (CXE P w) 1 (f 18) (fd 18) ["many", "arc"] (sp_asked_arc K f) := by
  refine T.d_asked_arc.F.okX sc_asked_arc (fun vs H Q E h => ?_) (fun cdv A outer s H vs Q E hr h => ?_)
  · obtain ⟨m, p, A, rfl, _⟩ := h
    rfl
  · obtain ⟨m, p, A, rfl, hp, k1, k2⟩ := h
    unfold Arc.vs at hp
    refine ⟨_, (pss_cons (ps_if (PW.pt (pw_or (pt_not (pt_chain op_le op_lt pe_int (pe_ix (k_ixT rfl) (pvl 1) pe_int (fun _ _ => rfl)) (pvl 0))) (pw_or1 (pt_not (pt_chain op_le op_lt pe_int (pe_ix (k_ixT rfl) (pvl 1) pe_int (fun _ _ => rfl)) (pvl 0))))))
     (pss_one (ps_raise told_cx rfl T.x_NoNet.x rfl T.x_NoNet.m (by decide) rfl (pal rfl pe_str pa_nil)))
     pss_nil)
     (pss_cons (ps_if (pt_cmpR op_eq (pe_ix (k_ixT rfl) (pvl 1) pe_int (fun _ _ => rfl)) (pe_ix (k_ixT rfl) (pvl 1) pe_int (fun _ _ => rfl)) (nomark _))
     (pss_one (ps_raise told_cx rfl T.x_NoNet.x rfl T.x_NoNet.m (by decide) rfl (pal rfl pe_str pa_nil)))
     pss_nil)
     (pss_cons (ps_if (pt_not (pt_chain op_le op_le pe_int (pe_ix (k_ixT rfl) (pvl 1) pe_int (fun _ _ => rfl)) (pe_ix (k_ixT rfl) (pvl 1) pe_int (fun _ _ => rfl))))
     (pss_one (ps_raise told_cx rfl T.x_NoNet.x rfl T.x_NoNet.m (by decide) rfl (pal rfl pe_str pa_nil)))
     pss_nil)
     (pss_one (ps_ret pe_bl))))), ?_⟩
    ((try dsimp only [cxOf, L2.Cx.inTry, L2.Cx.inHand]); simp only [L2.start, tSeq, tNext, tIfS, tRet, tRetN, tAsg, tDrop, gName, tVar, tC, tOp, tUn, tCall, tCB, tCons, tNil, tTest, tB, tNot, tAnd, tOr, tAndV, tOrV, tNotV, tIf, tChain, tLst, tTup, tBM, tBM0, rI, rI0, rU, rEq, rNe, scal_ii, scal_bb, tComp, iStr, iList, iTup, iRng1, iRng2, tYes, rIsP, rAll, rLenS, rLenV, rListOf, rTupleOf, tDisp, tPairs, tSl, tPart, tNoPart, rSlS, rSlL, rFind, rStarts, rIntT, rStrA, rRepS, tCallX, tRaise, tRaiseI, tTry, tAs, offE, tXF, sXset, tMethX, tMakeX, rIsX, tFld, sFld, tMeth, rSortD, rDPop, tDNewK, tDIn, tDNotIn, tDGet, sDPut, rIndexS, tStop, tAugS, ipI, iZip, gSub, 
  List.map_cons, List.map_nil, List.cons_append, List.nil_append, List.length_cons, List.length_nil, List.getElem?_cons_zero, List.getElem?_cons_succ, Option.some.injEq, exists_eq_left', exists_eq_left, List.set_cons_zero, List.set_cons_succ, List.cons.injEq, and_true, true_and, V.int.injEq, V.str.injEq, V.bl.injEq, V.ref.injEq, V.ty.injEq, exists_and_left, exists_and_right, List.append_nil, reduceCtorEq, false_and, and_false, exists_false, or_false, false_or, decide_true, decide_false, Bool.not_true, Bool.not_false, if_true, if_false, Bool.false_eq_true, ite_true, ite_false, and_assoc, Nat.reduceAdd, Nat.reduceSub, List.replicate_succ, List.replicate_zero, Nat.zero_add, Nat.add_zero, Nat.sub_self])
    have no : ¬ AOk m A → (1 ≤ sizeLine ∧ E (Value.ref (f 6)) none H) := fun hn => ⟨small_line (by decide), k2 hn⟩
    refine ⟨p, _, _, _, rfl, rfl, .of hp, atI_nat (j := 0) rfl, _, rfl, ?_⟩
    by_cases c1 : ¬ 0 ≤ A.a
    · rw [if_neg (by simpa using c1)]
      exact no fun z => c1 z.1
    rw [if_pos (decide_eq_true (Decidable.not_not.mp c1))]
    refine ⟨_, rfl, ?_⟩
    by_cases c2 : ¬ A.a < m
    · rw [if_pos (by simpa using c2)]
      exact no fun z => c2 z.2.1
    rw [if_neg (by simpa using c2)]
    refine ⟨p, _, _, _, rfl, rfl, .of hp, atI_nat (j := 1) rfl, _, rfl, ?_⟩
    by_cases c3 : ¬ 0 ≤ A.b
    · rw [if_neg (by simpa using c3)]
      exact no fun z => c3 z.2.2.1
    rw [if_pos (decide_eq_true (Decidable.not_not.mp c3))]
    refine ⟨_, rfl, ?_⟩
    by_cases c4 : ¬ A.b < m
    · rw [if_pos (by simpa using c4)]
      exact no fun z => c4 z.2.2.2.1
    rw [if_neg (by simpa using c4)]
    refine ⟨p, _, _, _, rfl, rfl, .of hp, atI_nat (j := 0) rfl, p, _, _, _, rfl, rfl, .of hp, atI_nat (j := 1) rfl, rfl, ?_⟩
    by_cases c5 : A.a = A.b
    · rw [if_pos (by simpa using c5)]
      exact no fun z => z.2.2.2.2.1 c5
    rw [if_neg (by simpa using c5)]
    refine ⟨p, _, _, _, rfl, rfl, .of hp, atI_nat (j := 2) rfl, _, rfl, ?_⟩
    by_cases c6 : ¬ 0 ≤ A.l
    · rw [if_neg (by simpa using c6)]
      exact no fun z => c6 z.2.2.2.2.2.1
    rw [if_pos (decide_eq_true (Decidable.not_not.mp c6))]
    refine ⟨p, _, _, _, rfl, rfl, .of hp, atI_nat (j := 3) rfl, _, rfl, _, rfl, ?_⟩
    by_cases c7 : ¬ A.l ≤ A.u
    · rw [if_pos (by simpa using c7)]
      exact no fun z => c7 z.2.2.2.2.2.2
    rw [if_neg (by simpa using c7)]
    exact k1 ⟨by omega, by omega, by omega, by omega, c5, by omega, by omega⟩
noncomputable def sp_asked_net (K : PySem.W.Frag) (f : Nat → Addr) : Sp := fun vs H Q E => ∃ m l xs as, vs = [.int m, .ref l] ∧ H l = some (.lst xs) ∧ ArcsV H xs as ∧ as.length ≤ 1000 ∧ (NetOk m as → ∀ H', Same H H' → Q (.bl true) H') ∧ (¬ NetOk m as → ∀ H', Same H H' → E (.ref (f 6)) none H')
theorem ok_asked_net (T : Txt K mg f fd) : FnOk P w K mg base (CXE P w) 2 (f 19) (fd 19) ["many", "arcs"] (sp_asked_net K f) := by
  refine T.d_asked_net.F.okX sc_asked_net (fun vs H Q E h => ?_) (fun cdv A outer s H vs Q E hr h => ?_)
  · obtain ⟨m, l, xs, as, rfl, _⟩ := h
    rfl
  · obtain ⟨m, l, xs, as, rfl, hla, hA, h1000, k1, k2⟩ := h
    refine ⟨_, (pss_cons (ps_if (pt_not (pt_chain op_le op_le pe_int (pvc 0) (pgi T.g_MOST_NODES)))
     (pss_one (ps_raise told_cx rfl T.x_NoNet.x rfl T.x_NoNet.m (by decide) rfl (pal rfl pe_str pa_nil)))
     pss_nil)
     (pss_cons (ps_if (pt_cmpR op_gt (pe_cB (k_len rfl) T.n_len bt_len rfl (by decide) (by decide) rfl (pal rfl (pvl 1) pa_nil)) (pgi T.g_MOST_ARCS) (nomark _))
     (pss_one (ps_raise told_cx rfl T.x_NoNet.x rfl T.x_NoNet.m (by decide) rfl (pal rfl pe_str pa_nil)))
     pss_nil)
     (pss_one (ps_ret (pe_cB (k_all rfl rfl) T.n_all bt_all rfl (by decide) (by decide) rfl (pal rfl (pe_compX leaves_cx ["arc"] ["many", "arcs"] rfl (show CompSc _ (defScope s_asked_net) ["many", "arcs"] ["many", "arcs"] from compOk_is (by decide +kernel)) (k_piL rfl (pvl 1)) (fun _ _ _ _ _ _ => (pgl 0 (show (["arc", "many", "arcs"] : List Str).Nodup by decide +kernel))) (fun _ _ _ _ _ _ => pts_nil) (fun _ _ _ _ _ _ TC => (pe_defC TC T.d_asked_arc (ok_asked_arc T) (hr.mono (by decide)) rfl (by decide) rfl (pal rfl (pvc 1) (pal rfl (pvl 0) pa_nil))))) pa_nil)))))), ?_⟩
    ((try dsimp only [cxOf, L2.Cx.inTry, L2.Cx.inHand]); simp only [L2.start, tSeq, tNext, tIfS, tRet, tRetN, tAsg, tDrop, gName, tVar, tC, tOp, tUn, tCall, tCB, tCons, tNil, tTest, tB, tNot, tAnd, tOr, tAndV, tOrV, tNotV, tIf, tChain, tLst, tTup, tBM, tBM0, rI, rI0, rU, rEq, rNe, scal_ii, scal_bb, tComp, iStr, iList, iTup, iRng1, iRng2, tYes, rIsP, rAll, rLenS, rLenV, rListOf, rTupleOf, tDisp, tPairs, tSl, tPart, tNoPart, rSlS, rSlL, rFind, rStarts, rIntT, rStrA, rRepS, tCallX, tRaise, tRaiseI, tTry, tAs, offE, tXF, sXset, tMethX, tMakeX, rIsX, tFld, sFld, tMeth, rSortD, rDPop, tDNewK, tDIn, tDNotIn, tDGet, sDPut, rIndexS, tStop, tAugS, ipI, iZip, gSub, 
  List.map_cons, List.map_nil, List.cons_append, List.nil_append, List.length_cons, List.length_nil, List.getElem?_cons_zero, List.getElem?_cons_succ, Option.some.injEq, exists_eq_left', exists_eq_left, List.set_cons_zero, List.set_cons_succ, List.cons.injEq, and_true, true_and, V.int.injEq, V.str.injEq, V.bl.injEq, V.ref.injEq, V.ty.injEq, exists_and_left, exists_and_right, List.append_nil, reduceCtorEq, false_and, and_false, exists_false, or_false, false_or, decide_true, decide_false, Bool.not_true, Bool.not_false, if_true, if_false, Bool.false_eq_true, ite_true, ite_false, and_assoc, Nat.reduceAdd, Nat.reduceSub, List.replicate_succ, List.replicate_zero, Nat.zero_add, Nat.add_zero, Nat.sub_self])
    have no : ∀ G, Same H G → ¬ NetOk m as → (1 ≤ sizeLine ∧ E (Value.ref (f 6)) none G) := fun G s hn => ⟨small_line (by decide), k2 hn G s⟩
    have hl := hA.1
    by_cases c1 : ¬ 1 ≤ m
    · rw [if_neg (by simpa using c1)]
      exact no H (Same.refl _) fun z => c1 z.1
    replace c1 := Decidable.not_not.mp c1
    rw [if_pos (decide_eq_true c1)]
    by_cases c2 : ¬ m ≤ 120
    · rw [if_pos (by simpa using c2)]
      exact no H (Same.refl _) fun z => c2 z.2.1
    rw [if_neg (by simpa using c2)]
    refine ⟨_, .inl (.of hla), ?_⟩
    by_cases c3 : 300 < as.length
    · rw [if_pos (by rw [hl]; exact decide_eq_true (by omega))]
      exact no H (Same.refl _) fun z => by have := z.2.2.1; omega
    rw [if_neg (by rw [hl]; simp; omega)]
    refine ⟨⟨_, .of hla⟩, ?_⟩
    refine comp_walk (walk_list (xs := xs)) (small_line (by omega)) (fun i ys H' => Same H H' ∧ ys = (List.replicate i true).map V.bl ∧ ∀ j, j < i → ∀ A, as[j]? = some A → AOk m A) ⟨Same.refl _, rfl, fun _ hm => absurd hm (by omega)⟩ (fun _ _ H' _ q => q.1.seq (.of hla)) (fun i ys H' q => by rw [q.2.1, List.length_map, List.length_replicate]; exact Nat.le_refl _) (fun i x ys H3 hx q => ?_) (fun ys H3 q D hD => ?_)
    · obtain ⟨t1, rfl, t3⟩ := q
      obtain ⟨A', hAi, p, rfl, hp⟩ := All2.at hA hx
      ((try dsimp only [cxOf, L2.Cx.inTry, L2.Cx.inHand]); simp only [L2.start, tSeq, tNext, tIfS, tRet, tRetN, tAsg, tDrop, gName, tVar, tC, tOp, tUn, tCall, tCB, tCons, tNil, tTest, tB, tNot, tAnd, tOr, tAndV, tOrV, tNotV, tIf, tChain, tLst, tTup, tBM, tBM0, rI, rI0, rU, rEq, rNe, scal_ii, scal_bb, tComp, iStr, iList, iTup, iRng1, iRng2, tYes, rIsP, rAll, rLenS, rLenV, rListOf, rTupleOf, tDisp, tPairs, tSl, tPart, tNoPart, rSlS, rSlL, rFind, rStarts, rIntT, rStrA, rRepS, tCallX, tRaise, tRaiseI, tTry, tAs, offE, tXF, sXset, tMethX, tMakeX, rIsX, tFld, sFld, tMeth, rSortD, rDPop, tDNewK, tDIn, tDNotIn, tDGet, sDPut, rIndexS, tStop, tAugS, ipI, iZip, gSub, 
  List.map_cons, List.map_nil, List.cons_append, List.nil_append, List.length_cons, List.length_nil, List.getElem?_cons_zero, List.getElem?_cons_succ, Option.some.injEq, exists_eq_left', exists_eq_left, List.set_cons_zero, List.set_cons_succ, List.cons.injEq, and_true, true_and, V.int.injEq, V.str.injEq, V.bl.injEq, V.ref.injEq, V.ty.injEq, exists_and_left, exists_and_right, List.append_nil, reduceCtorEq, false_and, and_false, exists_false, or_false, false_or, decide_true, decide_false, Bool.not_true, Bool.not_false, if_true, if_false, Bool.false_eq_true, ite_true, ite_false, and_assoc, Nat.reduceAdd, Nat.reduceSub, List.replicate_succ, List.replicate_zero, Nat.zero_add, Nat.add_zero, Nat.sub_self])
      refine ⟨A', t1 _ _ hp, fun ok => ⟨⟨_, rfl⟩, t1, by rw [List.map_replicate, ← List.replicate_succ', List.replicate_succ], fun j hj B hB => ?_⟩, fun bad => k2 (fun z => bad (z.2.2.2 A' (List.mem_of_getElem? hAi))) _ t1⟩
      rcases Nat.lt_succ_iff_lt_or_eq.mp hj with hj | rfl
      · exact t3 j hj B hB
      · rw [hAi] at hB
        cases hB
        exact ok
    · obtain ⟨t1, rfl, t3⟩ := q
      refine ⟨_, .of upd_same, ?_⟩
      have e : (List.replicate xs.length true).all id = true := by rw [List.all_eq_true]; intro x hx; rw [List.eq_of_mem_replicate hx]; rfl
      rw [e]
      refine k1 ⟨c1, by omega, by omega, fun B hB => ?_⟩ _ (t1.new hD _)
      obtain ⟨j, hj⟩ := List.mem_iff_getElem?.mp hB
      have := (List.getElem?_eq_some_iff.mp hj).1
      exact t3 j (by omega) B hj
noncomputable def sp_flow_of (K : PySem.W.Frag) (f : Nat → Addr) : Sp := fun vs H Q E => ∃ m l xs as, vs = [.int m, .ref l] ∧ H l = some (.lst xs) ∧ ArcsV H xs as ∧ as.length ≤ 1000 ∧ ¬ NetOk m as ∧ ∀ H', Same H H' → E (.ref (f 6)) none H'
theorem ok_flow_of (T : Txt K mg f fd) : FnOk P w K mg base (CXE P w) 3 (f 25) (fd 25) ["many", "arcs"] (sp_flow_of K f) := by
  refine T.d_flow_of.F.okX sc_flow_of (fun vs H Q E h => ?_) (fun cdv A outer s H vs Q E hr h => ?_)
  · obtain ⟨m, l, xs, as, rfl, _⟩ := h
    rfl
  · obtain ⟨m, l, xs, as, rfl, hl, hA, h1000, hn, k⟩ := h
    refine ⟨_, (pss_cons (ps_expr (pe_defX told_cx T.d_asked_net (ok_asked_net T) (hr.mono (by decide)) rfl (by decide) rfl (pal rfl (pvl 0) (pal rfl (pvl 1) pa_nil))))
     pss_stop), ?_⟩
    ((try dsimp only [cxOf, L2.Cx.inTry, L2.Cx.inHand]); simp only [L2.start, tSeq, tNext, tIfS, tRet, tRetN, tAsg, tDrop, gName, tVar, tC, tOp, tUn, tCall, tCB, tCons, tNil, tTest, tB, tNot, tAnd, tOr, tAndV, tOrV, tNotV, tIf, tChain, tLst, tTup, tBM, tBM0, rI, rI0, rU, rEq, rNe, scal_ii, scal_bb, tComp, iStr, iList, iTup, iRng1, iRng2, tYes, rIsP, rAll, rLenS, rLenV, rListOf, rTupleOf, tDisp, tPairs, tSl, tPart, tNoPart, rSlS, rSlL, rFind, rStarts, rIntT, rStrA, rRepS, tCallX, tRaise, tRaiseI, tTry, tAs, offE, tXF, sXset, tMethX, tMakeX, rIsX, tFld, sFld, tMeth, rSortD, rDPop, tDNewK, tDIn, tDNotIn, tDGet, sDPut, rIndexS, tStop, tAugS, ipI, iZip, gSub, 
  List.map_cons, List.map_nil, List.cons_append, List.nil_append, List.length_cons, List.length_nil, List.getElem?_cons_zero, List.getElem?_cons_succ, Option.some.injEq, exists_eq_left', exists_eq_left, List.set_cons_zero, List.set_cons_succ, List.cons.injEq, and_true, true_and, V.int.injEq, V.str.injEq, V.bl.injEq, V.ref.injEq, V.ty.injEq, exists_and_left, exists_and_right, List.append_nil, reduceCtorEq, false_and, and_false, exists_false, or_false, false_or, decide_true, decide_false, Bool.not_true, Bool.not_false, if_true, if_false, Bool.false_eq_true, ite_true, ite_false, and_assoc, Nat.reduceAdd, Nat.reduceSub, List.replicate_succ, List.replicate_zero, Nat.zero_add, Nat.add_zero, Nat.sub_self])
    exact ⟨m, l, xs, as, rfl, hl, hA, h1000, fun z => absurd z hn, fun _ => k⟩
noncomputable def sp_gains (K : PySem.W.Frag) : Sp := fun vs H Q _ => ∃ (m : Nat) (la lf : Addr) (xs : List V) (as : List Arc) (fl : List Int), vs = [.int m, .ref la, .ref lf] ∧ m ≤ 120 ∧ H la = some (.lst xs) ∧ ArcsV H xs as ∧ H lf = some (.lst (fl.map V.int)) ∧ fl.length = as.length ∧ as.length ≤ 1000 ∧ (∀ A ∈ as, InN m A) ∧
  ∀ H' p, Same H H' → H' p = some (.lst ((gainsF m as fl as.length).map V.int)) → Q (.ref p) H'
theorem ok_gains (T : Txt K mg f fd) : FnOk P w K mg base CX0 1 (f 20) (fd 20) ["many", "arcs", "flow"] (sp_gains K) := by
  refine T.d_gains.F.ok sc_gains (fun vs H Q E h => ?_) (fun cdv A outer s H vs Q E hr h => ?_)
  · obtain ⟨m, la, lf, xs, as, fl, rfl, _⟩ := h
    rfl
  · obtain ⟨m, la, lf, xs, as, fl, rfl, hm, hla, hA, hlf, hlen, h1000, hin, k⟩ := h
    refine ⟨_, (pss_cons (psl 3 sc_gains.nd (pe_op op_rep (pe_lst (pal rfl pe_int pa_nil)) (pvl 0)))
     (pss_cons (ps_for PassesOwn.never rfl (k_zip rfl rfl T.n_zip (pal rfl (pvl 1) (pal rfl (pvl 2) pa_nil)) rfl rfl) (k_pgT rfl rfl (pgs_cons (pgl 4 sc_gains.nd) (pgs_cons (pgl 5 sc_gains.nd) pgs_nil)))
     (pss_cons (ps_augS (pvl 3) (pe_ix (k_ixT rfl) (pvl 4) pe_int (fun _ _ => rfl)) (k_getL rfl) (pvl 5) ip_sub set_list)
     (pss_one (ps_augS (pvl 3) (pe_ix (k_ixT rfl) (pvl 4) pe_int (fun _ _ => rfl)) (k_getL rfl) (pvl 5) ip_add set_list))))
     (pss_one (ps_ret (pvl 3))))), ?_⟩
    walk_at "dl"
    refine ⟨small_line (by decide), fun p0 hp0 => ?_⟩
    have u0 := Same.upd_new hp0 (HO.lst [V.int 0])
    have g0 : upd H p0 (HO.lst [V.int 0]) p0 = some (.lst [V.int 0]) := upd_same
    generalize upd H p0 (HO.lst [V.int 0]) = H0 at *
    refine ⟨p0, (m : Int), [V.int 0], rfl, rfl, g0, by omega, by omega, by rw [Int.toNat_natCast]; exact small_line (by simp; omega), fun p hp => ?_⟩
    rw [Int.toNat_natCast, rep_zero]
    have hpH : H p = none := by
      cases e : H p with
      | none => rfl
      | some o => rw [u0 _ _ e] at hp; cases hp
    have s1 := u0.new hp (HO.lst ((List.replicate m (0 : Int)).map V.int))
    have g1 : upd H0 p (HO.lst ((List.replicate m (0 : Int)).map V.int)) p = some (.lst ((List.replicate m (0 : Int)).map V.int)) := upd_same
    generalize upd H0 p (HO.lst ((List.replicate m (0 : Int)).map V.int)) = H1 at *
    refine for_in ?_
    walk_at "dl"
    refine ⟨⟨_, .of (s1 _ _ hla)⟩, ⟨_, .of (s1 _ _ hlf)⟩, ?_⟩
    have hxl := hA.1
    refine ForW.zip (xs := xs) (ys := fl.map V.int) (fun i σ H' => (∃ v4 v5, σ = [some (V.int (m : Int)), some (V.ref la), some (V.ref lf), some (V.ref p), v4, v5]) ∧ Same H H' ∧ H' p = some (.lst ((gainsF m as fl i).map V.int))) ⟨⟨none, none, rfl⟩, s1, g1⟩ (fun _ _ H' q => ⟨.of (q.2.1 _ _ hla), .of (q.2.1 _ _ hlf)⟩) ?_ ?_
    · rintro i x y σ H2 q hx hy ⟨⟨v4, v5, rfl⟩, s2, g2⟩ hq
      obtain ⟨A, hAi, pa, rfl, hpa⟩ := All2.at hA hx
      rw [List.getElem?_map] at hy
      obtain ⟨n, hn, rfl⟩ := Option.map_eq_some_iff.mp hy
      have u3 := Same.upd_new hq (HO.tup [V.ref pa, V.int n])
      refine ⟨q, _, rfl, .of upd_same, rfl, ?_⟩
      have g3 := u3 _ _ g2
      have s3 := s2.trans u3
      have hpa3 := s3 _ _ hpa
      generalize upd H2 q (HO.tup [V.ref pa, V.int n]) = H3 at *
      unfold Arc.vs at hpa3
      simp only [gCons, gNil, gName]
      walk_at "dl"
      obtain ⟨i1, i2, i3, i4⟩ := hin A (List.mem_of_getElem? hAi)
      have eG : gainsF m as fl (i + 1) = stepG (gainsF m as fl i) A n := by
        show stepG (gainsF m as fl i) (as.getD i default) (fl.getD i 0) = _
        rw [getD_of hAi, getD_of hn]
      have lG := gainsF_len m as fl i
      rw [eG]
      generalize gainsF m as fl i = G at *
      obtain ⟨aa, ab, al, au⟩ := A
      simp only at i1 i2 i3 i4 hpa3
      obtain ⟨na, rfl⟩ : ∃ na : Nat, aa = (na : Int) := ⟨aa.toNat, by omega⟩
      obtain ⟨nb, rfl⟩ : ∃ nb : Nat, ab = (nb : Int) := ⟨ab.toNat, by omega⟩
      have ha : na < G.length := by omega
      have ea : G.getD na 0 = G[na] := getD_of (List.getElem?_eq_getElem ha)
      have hb : nb < (G.set na (G[na] - n)).length := by rw [List.length_set]; omega
      have eb : (G.set na (G[na] - n)).getD nb 0 = (G.set na (G[na] - n))[nb] := getD_of (List.getElem?_eq_getElem hb)
      have npa : pa ≠ p := fun e => by rw [e, g3] at hpa3; cases hpa3
      refine ⟨pa, _, _, _, rfl, rfl, .of hpa3, atI_nat (j := 0) rfl, p, _, na, _, rfl, rfl, .of g3, by rw [List.getElem?_map, List.getElem?_eq_getElem ha]; rfl, _, rfl, p, _, _, na, rfl, rfl, g3, ixN_nat (by rw [List.length_map]; exact ha), ?_⟩
      rw [map_set_int]
      refine ⟨pa, _, _, _, rfl, rfl, .of (by rw [upd_ne npa]; exact hpa3), atI_nat (j := 1) rfl, p, _, nb, _, rfl, rfl, .of upd_same, by rw [List.getElem?_map, List.getElem?_eq_getElem hb]; rfl, _, rfl, p, _, _, nb, rfl, rfl, upd_same, ixN_nat (by rw [List.length_map]; exact hb), ⟨_, rfl⟩, ?_, ?_⟩
      · rw [upd_upd]
        exact s3.set hpH _
      · rw [upd_same, map_set_int]
        unfold stepG
        simp only [Int.toNat_natCast, ea, eb]
    · rintro σ H2 ⟨⟨v4, v5, rfl⟩, s2, g2⟩
      rw [List.length_map, hxl, hlen, Nat.min_self] at g2
      walk_at "dl"
      exact k _ p s2 g2
noncomputable def sp_holds_flow (K : PySem.W.Frag) : Sp := fun vs H Q _ => ∃ (m : Nat) (la lf : Addr) (xs : List V) (as : List Arc) (fl : List Int), vs = [.int m, .ref la, .ref lf] ∧ m ≤ 120 ∧ H la = some (.lst xs) ∧ ArcsV H xs as ∧ H lf = some (.lst (fl.map V.int)) ∧ as.length ≤ 1000 ∧ fl.length ≤ 1001 ∧ (∀ A ∈ as, InN m A) ∧
  ∀ H', Same H H' → Q (.bl (holdsF m as fl)) H'
theorem ok_holds_flow (T : Txt K mg f fd) : FnOk P w K mg base CX0 2 (f 21) (fd 21) ["many", "arcs", "flow"] (sp_holds_flow K) := by
  refine T.d_holds_flow.F.ok sc_holds_flow (fun vs H Q E h => ?_) (fun cdv A outer s H vs Q E hr h => ?_)
  · obtain ⟨m, la, lf, xs, as, fl, rfl, _⟩ := h
    rfl
  · obtain ⟨m, la, lf, xs, as, fl, rfl, hm, hla, hA, hlf, h1000, h1001, hin, k⟩ := h
    refine ⟨_, (pss_cons (ps_if (pt_cmpR op_ne (pe_cB (k_len rfl) T.n_len bt_len rfl (by decide) (by decide) rfl (pal rfl (pvl 2) pa_nil)) (pe_cB (k_len rfl) T.n_len bt_len rfl (by decide) (by decide) rfl (pal rfl (pvl 1) pa_nil)) (nomark _))
     (pss_one (ps_ret pe_bl))
     pss_nil)
     (pss_cons (ps_if (pt_not (pt_val (pe_cB (k_all rfl rfl) T.n_all bt_all rfl (by decide) (by decide) rfl (pal rfl (pe_comp ["arc", "number"] ["many", "arcs", "flow"] rfl (show CompSc _ (defScope s_holds_flow) ["many", "arcs", "flow"] ["many", "arcs", "flow"] from compOk_is (by decide +kernel)) (k_zip rfl rfl T.n_zip (pal rfl (pvl 1) (pal rfl (pvl 2) pa_nil)) rfl rfl) (fun _ _ _ _ _ => (pgl2 K 0 1 (show (["arc", "number", "many", "arcs", "flow"] : List Str).Nodup by decide +kernel))) (fun _ _ _ _ _ => pts_nil) (fun _ _ _ _ _ => (pe_chain op_le op_le (pe_ix (k_ixT rfl) (pvl 0) pe_int (fun _ _ => rfl)) (pvl 1) (pe_ix (k_ixT rfl) (pvl 0) pe_int (fun _ _ => rfl))))) pa_nil))))
     (pss_one (ps_ret pe_bl))
     pss_nil)
     (pss_one (ps_ret (pe_cmpR (k_eqD rfl hr.units) (pe_defL T.d_gains (ok_gains T) (hr.mono (by decide)) rfl (by decide) rfl (pal rfl (pvl 0) (pal rfl (pvl 1) (pal rfl (pvl 2) pa_nil)))) (pe_op op_rep (pe_lst (pal rfl pe_int pa_nil)) (pvl 0)) (nomark _)))))), ?_⟩
    walk_at "dl"
    have hxl := hA.1
    refine ⟨_, .inl (.of hlf), _, .inl (.of hla), ?_⟩
    rw [List.length_map]
    by_cases cl : ¬ fl.length = as.length
    · rw [if_pos (by simp; omega)]
      have := k H (Same.refl _)
      unfold holdsF at this
      rw [decide_eq_false cl] at this
      exact this
    replace cl := Decidable.not_not.mp cl
    rw [if_neg (by simp; omega)]
    refine ⟨⟨_, .of hla⟩, ⟨_, .of hlf⟩, ?_⟩
    refine comp_zip (xs := xs) (ys := fl.map V.int) (small_line (by omega)) (fun i zs σ H' => (∃ v0 v1, σ = [v0, v1, some (V.int (m : Int)), some (V.ref la), some (V.ref lf)]) ∧ Same H H' ∧ zs = ((List.range i).map fun j => inB (as.getD j default) (fl.getD j 0)).map V.bl) ⟨⟨none, none, rfl⟩, Same.refl _, rfl⟩ (fun i zs σ H' q => ⟨⟨.of (q.2.1 _ _ hla), .of (q.2.1 _ _ hlf)⟩, by rw [q.2.2]; simp⟩) ?_ ?_
    · rintro i x y zs σ H2 q hx hy ⟨⟨v0, v1, rfl⟩, s2, rfl⟩ hq
      obtain ⟨A, hAi, pa, rfl, hpa⟩ := All2.at hA hx
      rw [List.getElem?_map] at hy
      obtain ⟨n, hn, rfl⟩ := Option.map_eq_some_iff.mp hy
      have u3 := Same.upd_new hq (HO.tup [V.ref pa, V.int n])
      refine ⟨q, _, rfl, .of upd_same, rfl, ?_⟩
      have s3 := s2.trans u3
      have hpa3 := s3 _ _ hpa
      generalize upd H2 q (HO.tup [V.ref pa, V.int n]) = H3 at *
      have eB : ((List.range (i + 1)).map fun j => inB (as.getD j default) (fl.getD j 0)).map V.bl = ((List.range i).map fun j => inB (as.getD j default) (fl.getD j 0)).map V.bl ++ [V.bl (inB A n)] := by
        rw [List.range_succ, List.map_append, List.map_append, List.map_cons, List.map_nil, List.map_cons, List.map_nil, getD_of hAi, getD_of hn]
      unfold Arc.vs at hpa3
      simp only [gCons, gNil, gName]
      walk_at "dl"
      rw [eB]
      refine ⟨pa, _, _, _, rfl, rfl, .of hpa3, atI_nat (j := 2) rfl, _, rfl, ?_⟩
      by_cases c1 : A.l ≤ n
      · rw [if_pos c1]
        refine ⟨pa, _, _, _, rfl, rfl, .of hpa3, atI_nat (j := 3) rfl, _, rfl, ⟨_, rfl⟩, s3, ?_⟩
        rw [show inB A n = decide (n ≤ A.u) by unfold inB; rw [decide_eq_true c1, Bool.true_and]]
      · rw [if_neg c1]
        refine ⟨⟨_, rfl⟩, s3, ?_⟩
        rw [show inB A n = false by unfold inB; rw [decide_eq_false c1, Bool.false_and]]
    · rintro zs σ H2 ⟨⟨v0, v1, rfl⟩, s2, rfl⟩ D hD
      have eN : min xs.length (fl.map V.int).length = as.length := by rw [List.length_map]; omega
      rw [eN]
      refine ⟨_, .of upd_same, ?_⟩
      rw [bounds_all]
      have s3 := s2.new hD (HO.lst (((List.range as.length).map fun j => inB (as.getD j default) (fl.getD j 0)).map V.bl))
      generalize upd H2 D (HO.lst (((List.range as.length).map fun j => inB (as.getD j default) (fl.getD j 0)).map V.bl)) = H3 at *
      cases cb : boundsF as fl as.length with
      | false =>
        rw [if_pos (by decide)]
        have := k H3 s3
        unfold holdsF at this
        rw [cb, Bool.false_and, Bool.and_false] at this
        exact this
      | true =>
        rw [if_neg (by decide)]
        refine ⟨m, la, lf, xs, as, fl, rfl, hm, s3 _ _ hla, hA.mono s3, s3 _ _ hlf, cl, h1000, hin, fun H4 p s4 hp => ⟨small_line (by decide), fun p0 hp0 => ?_⟩⟩
        have u5 := Same.upd_new hp0 (HO.lst [V.int 0])
        have g5 : upd H4 p0 (HO.lst [V.int 0]) p0 = some (.lst [V.int 0]) := upd_same
        generalize upd H4 p0 (HO.lst [V.int 0]) = H5 at *
        refine ⟨p0, (m : Int), [V.int 0], rfl, rfl, g5, by omega, by omega, by rw [Int.toNat_natCast]; exact small_line (by simp; omega), fun p6 hp6 => ?_⟩
        rw [Int.toNat_natCast, rep_zero]
        have u6 := Same.upd_new hp6 (HO.lst ((List.replicate m (0 : Int)).map V.int))
        refine eqI_of (u6 _ _ (u5 _ _ hp)) upd_same ?_
        have := k _ (((s3.trans s4).trans u5).trans u6)
        unfold holdsF at this
        rw [cb, Bool.true_and, decide_eq_true cl, Bool.true_and] at this
        exact this
theorem holds_bad {m : Nat} {as : List Arc} {fl : List Int} {k : Nat} {A : Arc} {y : Int} (hA : as[k]? = some A) (hy : fl[k]? = some y) (hb : inB A y = false) : holdsF m as fl = false := by
  unfold holdsF
  rw [bounds_false hb hA hy (List.getElem?_eq_some_iff.mp hA).1, Bool.false_and, Bool.and_false]
noncomputable def sp_asked_flow (K : PySem.W.Frag) (f : Nat → Addr) : Sp := fun vs H Q E => ∃ (m : Nat) (la lf : Addr) (xs : List V) (as : List Arc) (fl : List Int), vs = [.int m, .ref la, .ref lf] ∧ H la = some (.lst xs) ∧ ArcsV H xs as ∧ H lf = some (.lst (fl.map V.int)) ∧ fl.length ≤ 300 ∧ NetOk m as ∧ holdsF m as fl = false ∧ ∀ H', Same H H' → E (.ref (f 6)) none H'
theorem ok_asked_flow (T : Txt K mg f fd) : FnOk P w K mg base (CXE P w) 3 (f 26) (fd 26) ["many", "arcs", "flow"] (sp_asked_flow K f) := by
  refine T.d_asked_flow.F.okX sc_asked_flow (fun vs H Q E h => ?_) (fun cdv A outer s H vs Q E hr h => ?_)
  · obtain ⟨m, la, lf, xs, as, fl, rfl, _⟩ := h
    rfl
  · obtain ⟨m, la, lf, xs, as, fl, rfl, hla, hA, hlf, l1, hN, hb, k⟩ := h
    refine ⟨_, (pss_cons (ps_expr (pe_defX told_cx T.d_asked_net (ok_asked_net T) (hr.mono (by decide)) rfl (by decide) rfl (pal rfl (pvl 0) (pal rfl (pvl 1) pa_nil))))
     (pss_cons (ps_if (pt_not (pt_val (pe_defL T.d_holds_flow (ok_holds_flow T) (hr.mono (by decide)) rfl (by decide) rfl (pal rfl (pvl 0) (pal rfl (pvl 1) (pal rfl (pvl 2) pa_nil))))))
     (pss_one (ps_raise told_cx rfl T.x_NoNet.x rfl T.x_NoNet.m (by decide) rfl (pal rfl pe_str pa_nil)))
     pss_nil)
     (pss_one (ps_ret pe_bl)))), ?_⟩
    walk_at "dl"
    have l2 := hN.2.2.1
    have m2 := hN.2.1
    refine ⟨m, la, xs, as, rfl, hla, hA, by omega, fun _ H1 s1 => ?_, fun z => absurd hN z⟩
    refine ⟨m, la, lf, xs, as, fl, rfl, by omega, s1 _ _ hla, hA.mono s1, s1 _ _ hlf, by omega, by omega, fun A hA => let ⟨a0, a1, b0, b1, _⟩ := hN.2.2.2 A hA; ⟨a0, a1, b0, b1⟩, fun H2 s2 => ⟨_, rfl, ?_⟩⟩
    rw [hb, if_pos (by decide)]
    exact ⟨small_line (by decide), k _ (s1.trans s2)⟩
noncomputable def onSp (f : Nat → Addr) : Sp := fun vs H Q E => ∃ (m : Nat) (la lf : Addr) (xs : List V) (as : List Arc) (fl : List Int) (v : V), vs = [.int m, .ref la, .ref lf, v] ∧ H la = some (.lst xs) ∧ ArcsV H xs as ∧ H lf = some (.lst (fl.map V.int)) ∧ fl.length ≤ 300 ∧ NetOk m as ∧ holdsF m as fl = false ∧ ∀ H', Same H H' → E (.ref (f 6)) none H'
noncomputable def sp_greatest_on (K : PySem.W.Frag) (f : Nat → Addr) : Sp := onSp f
theorem ok_greatest_on (T : Txt K mg f fd) : FnOk P w K mg base (CXE P w) 4 (f 29) (fd 29) ["many", "arcs", "flow", "at"] (sp_greatest_on K f) := by
  refine T.d_greatest_on.F.okX sc_greatest_on (fun vs H Q E h => ?_) (fun cdv A outer s H vs Q E hr h => ?_)
  · obtain ⟨m, la, lf, xs, as, fl, v, rfl, _⟩ := h
    rfl
  · obtain ⟨m, la, lf, xs, as, fl, v, rfl, hla, hA, hlf, l1, hN, hb, k⟩ := h
    refine ⟨_, (pss_cons (ps_expr (pe_defX told_cx T.d_asked_flow (ok_asked_flow T) (hr.mono (by decide)) rfl (by decide) rfl (pal rfl (pvl 0) (pal rfl (pvl 1) (pal rfl (pvl 2) pa_nil)))))
     pss_stop), ?_⟩
    walk_at "dl"
    exact ⟨m, la, lf, xs, as, fl, rfl, hla, hA, hlf, l1, hN, hb, k⟩
noncomputable def sp_least_on (K : PySem.W.Frag) (f : Nat → Addr) : Sp := onSp f
theorem ok_least_on (T : Txt K mg f fd) : FnOk P w K mg base (CXE P w) 4 (f 30) (fd 30) ["many", "arcs", "flow", "at"] (sp_least_on K f) := by
  refine T.d_least_on.F.okX sc_least_on (fun vs H Q E h => ?_) (fun cdv A outer s H vs Q E hr h => ?_)
  · obtain ⟨m, la, lf, xs, as, fl, v, rfl, _⟩ := h
    rfl
  · obtain ⟨m, la, lf, xs, as, fl, v, rfl, hla, hA, hlf, l1, hN, hb, k⟩ := h
    refine ⟨_, (pss_cons (ps_expr (pe_defX told_cx T.d_asked_flow (ok_asked_flow T) (hr.mono (by decide)) rfl (by decide) rfl (pal rfl (pvl 0) (pal rfl (pvl 1) (pal rfl (pvl 2) pa_nil)))))
     pss_stop), ?_⟩
    walk_at "dl"
    exact ⟨m, la, lf, xs, as, fl, rfl, hla, hA, hlf, l1, hN, hb, k⟩
theorem sum_rep : ∀ n, (List.replicate n (0 : Int)).foldl (· + ·) 0 = 0
  | 0 => rfl
  | n + 1 => by
    show (List.replicate n (0 : Int)).foldl (· + ·) (0 + 0) = 0
    exact sum_rep n
noncomputable def sp_dealt (K : PySem.W.Frag) (f : Nat → Addr) : Sp := fun vs H Q E => ∃ (l : Addr) (n : Nat) (v : V), vs = [.ref l, v] ∧ H l = some (.lst ((List.replicate n (0 : Int)).map V.int)) ∧ E (.ref (f 7)) none H
theorem ok_dealt (T : Txt K mg f fd) : FnOk P w K mg base (CXE P w) 1 (f 51) (fd 51) ["weights", "many"] (sp_dealt K f) := by
  refine T.d_dealt.F.okX sc_dealt (fun vs H Q E h => ?_) (fun cdv A outer s H vs Q E hr h => ?_)
  · obtain ⟨l, n, v, rfl, _⟩ := h
    rfl
  · obtain ⟨l, n, v, rfl, hl, k⟩ := h
    refine ⟨_, (pss_cons (psc 2 sc_dealt.nd (pe_cB (k_sumI rfl rfl) T.n_sum bt_sum rfl (by decide) (by decide) rfl (pal rfl (pvc 0) pa_nil)))
     (pss_cons (ps_if (pt_cmpR op_eq (pvc 2) pe_int (nomark _))
     (pss_one (ps_raise told_cx rfl T.x_NoWhole.x rfl T.x_NoWhole.m (by decide) rfl (pal rfl pe_str pa_nil)))
     pss_nil)
     pss_stop)), ?_⟩
    walk_at "dl"
    refine ⟨l, List.replicate n 0, rfl, .of hl, rfl, ?_⟩
    rw [sum_rep, if_pos rfl]
    exact ⟨small_line (by decide), k⟩
noncomputable abbrev natsI (zs : List Nat) : List Int := zs.map fun z : Nat => (z : Int)
theorem natV_ints (zs : List Nat) : zs.map natV = (natsI zs).map V.int := by rw [List.map_map]; rfl
theorem rise_eq : ∀ {a b : List Int}, a.Pairwise (· < ·) → b.Pairwise (· < ·) → (∀ k, k ∈ a ↔ k ∈ b) → a = b
  | [], [], _, _, _ => rfl
  | [], y :: b, _, _, h => absurd ((h y).mpr List.mem_cons_self) (by simp)
  | x :: a, [], _, _, h => absurd ((h x).mp List.mem_cons_self) (by simp)
  | x :: a, y :: b, ha, hb, h => by
    obtain ⟨a1, a2⟩ := List.pairwise_cons.mp ha
    obtain ⟨b1, b2⟩ := List.pairwise_cons.mp hb
    have e : x = y := by
      rcases List.mem_cons.mp ((h x).mp List.mem_cons_self) with z | z
      · exact z
      · rcases List.mem_cons.mp ((h y).mpr List.mem_cons_self) with w | w
        · exact w.symm
        · have := b1 x z
          have := a1 y w
          omega
    subst e
    rw [rise_eq a2 b2 fun k => ⟨fun hk => ?_, fun hk => ?_⟩]
    · rcases List.mem_cons.mp ((h k).mp (List.mem_cons_of_mem _ hk)) with z | z
      · have := a1 k hk; omega
      · exact z
    · rcases List.mem_cons.mp ((h k).mpr (List.mem_cons_of_mem _ hk)) with z | z
      · have := b1 k hk; omega
      · exact z
theorem natIn_of {H : Hp} {a : Addr} {i : Int} {zs : List Nat} {neg : Bool} {Q : VK} (ha : H a = some (.lst (zs.map natV))) (q : Q (.bl (if neg then !decide (i ∈ natsI zs) else decide (i ∈ natsI zs))) H) : rInD K neg (.int i) (.ref a) H Q := by
  obtain ⟨r1, r2, r3⟩ := ints_reps (K := K) (H := H) (natsI zs)
  refine ⟨.int i, (natsI zs).map .int, by simp [Rep], by rw [Rep]; exact ⟨a, _, rfl, .of (by rw [← natV_ints]; exact ha), r1⟩, by simp [SeqAt.shaped, PyData.canLay0, PyData.depth], ?_, ?_⟩
  · unfold SeqAt.shaped
    simp only [PyData.canLay0, PyData.depth, r2, Bool.true_and]
    exact decide_eq_true (by omega)
  · have e : ((natsI zs).map PyData.int).any (fun e => PyData.eqv e (.int i)) = decide (i ∈ natsI zs) := by
      rw [List.any_map, Bool.eq_iff_iff, List.any_eq_true, decide_eq_true_iff]
      constructor
      · rintro ⟨z, hz, e⟩
        have e' : z = i := by simpa [PyData.eqv] using e
        exact e' ▸ hz
      · intro h
        exact ⟨i, h, by simp [PyData.eqv]⟩
    rw [e]
    exact q
noncomputable def sp_asked_group (K : PySem.W.Frag) (f : Nat → Addr) : Sp := fun vs H Q E => ∃ (l : Addr) (ns : List Nat) (m : Nat), vs = [.ref l, .int m] ∧ H l = some (.lst (ns.map natV)) ∧ ns ≠ [] ∧ ns.Pairwise (· < ·) ∧ (∀ x ∈ ns, x < m) ∧ ns.length ≤ 60 ∧ ∀ H', Same H H' → Q (.bl true) H'
theorem ok_asked_group (T : Txt K mg f fd) : FnOk P w K mg base (CXE P w) 1 (f 54) (fd 54) ["group", "many"] (sp_asked_group K f) := by
  refine T.d_asked_group.F.okX sc_asked_group (fun vs H Q E h => ?_) (fun cdv A outer s H vs Q E hr h => ?_)
  · obtain ⟨l, ns, m, rfl, _⟩ := h
    rfl
  · obtain ⟨l, ns, m, rfl, hl, hne, hso, hlt, hz, k⟩ := h
    refine ⟨_, (pss_cons (ps_if (pt_not (pt_truth (pvl 0) (fun _ => rfl)))
     (pss_one (ps_raise told_cx rfl T.x_NoGroups.x rfl T.x_NoGroups.m (by decide) rfl (pal rfl pe_str pa_nil)))
     pss_nil)
     (pss_cons (ps_if (pt_cmpR (k_neD rfl hr.units) (pvl 0) (pe_sortSet rfl rfl T.n_sorted T.n_set rfl rfl rfl (pvl 0)) (nomark _))
     (pss_one (ps_raise told_cx rfl T.x_NoGroups.x rfl T.x_NoGroups.m (by decide) rfl (pal rfl pe_str pa_nil)))
     pss_nil)
     (pss_cons (ps_if (PW.pt (pw_or (pt_cmpR op_lt (pe_ix (k_ixL rfl) (pvl 0) pe_int (fun _ _ => rfl)) pe_int (nomark _)) (pw_or1 (pt_cmpR op_ge (pe_ix (k_ixL rfl) (pvl 0) (pe_un un_neg pe_int) (fun _ _ => rfl)) (pvl 1) (nomark _)))))
     (pss_one (ps_raise told_cx rfl T.x_NoGroups.x rfl T.x_NoGroups.m (by decide) rfl (pal rfl pe_str pa_nil)))
     pss_nil)
     (pss_one (ps_ret pe_bl))))), ?_⟩
    walk_at "dl"
    obtain ⟨w, r, rfl⟩ : ∃ w r, ns = w :: r := by cases ns with | nil => exact absurd rfl hne | cons w r => exact ⟨w, r, rfl⟩
    refine ⟨true, TruL hl rfl, ?_⟩
    rw [if_neg (by simp)]
    refine ⟨natsI (w :: r), .of (by rw [← natV_ints]; exact hl), by rw [List.length_map]; omega, fun D ms hD hms hmem _ => ?_⟩
    have em : ms = natsI (w :: r) := rise_eq hms (List.pairwise_map.mpr (hso.imp fun h => by omega)) hmem
    rw [em]
    have u6 := Same.upd_new hD (HO.lst ((natsI (w :: r)).map V.int))
    have hl6 := u6 _ _ hl
    refine eqI_of (x := natsI (w :: r)) (y := natsI (w :: r)) (by have h3 := hl6; rw [natV_ints] at h3; exact h3) upd_same ⟨_, rfl, ?_⟩
    rw [if_neg (by simp)]
    generalize upd H D (HO.lst ((natsI (w :: r)).map V.int)) = H6 at *
    obtain ⟨z, hzm, hz2⟩ : ∃ z, z ∈ w :: r ∧ atI ((w :: r).map natV) (-1) = some (natV z) := by
      rcases List.eq_nil_or_concat (w :: r) with e | ⟨ys, z, e⟩
      · cases e
      · exact ⟨z, by rw [e]; simp, by rw [e, List.concat_eq_append, List.map_append]; exact atI_last _ _⟩
    refine ⟨l, _, _, natV w, rfl, rfl, .of hl6, atI_nat (j := 0) rfl, _, rfl, ?_⟩
    rw [if_neg (by omega)]
    refine ⟨l, _, _, natV z, rfl, rfl, .of hl6, hz2, _, rfl, ?_⟩
    have hzl := hlt z hzm
    rw [if_neg (by omega)]
    exact k _ u6
noncomputable def sp_asked_pair (K : PySem.W.Frag) (f : Nat → Addr) : Sp := fun vs H Q E => ∃ (l1 l2 : Addr), vs = [.ref l1, .ref l2] ∧ H l1 = some (.lst (([1, 2] : List Nat).map natV)) ∧ H l2 = some (.lst (([0, 1] : List Nat).map natV)) ∧ ∀ H', Same H H' → E (.ref (f 8)) none H'
theorem ok_asked_pair (T : Txt K mg f fd) : FnOk P w K mg base (CXE P w) 1 (f 55) (fd 55) ["one", "other"] (sp_asked_pair K f) := by
  refine T.d_asked_pair.F.okX sc_asked_pair (fun vs H Q E h => ?_) (fun cdv A outer s H vs Q E hr h => ?_)
  · obtain ⟨l1, l2, rfl, _⟩ := h
    rfl
  · obtain ⟨l1, l2, rfl, h1, h2, k⟩ := h
    refine ⟨_, (pss_cons (ps_comp ["place"] ["one", "other", "shared"] rfl (show CompSc _ (defScope s_asked_pair) ["one", "other", "shared"] ["one", "other", "shared"] from compOk_is (by decide +kernel)) sc_asked_pair.nd (i := 2) rfl rfl (k_piL rfl (pvl 0)) (fun _ _ _ _ _ => (pgl 0 (show (["place", "one", "other", "shared"] : List Str).Nodup by decide +kernel))) (fun _ _ _ _ _ => (pts_one (pt_cmpR (k_inD rfl hr.units) (pvl 0) (pvc 2) rfl))) (fun _ _ _ _ _ => (pvl 0)))
     (pss_cons (ps_if (PW.pt (pw_and (pt_truth (pvl 2) (fun _ => rfl)) (pw_and1 (pt_cmpR op_lt (pe_cB (k_len rfl) T.n_len bt_len rfl (by decide) (by decide) rfl (pal rfl (pvl 2) pa_nil)) (pe_cB (call_min2 rfl) T.n_min bt_min rfl (by decide) (by decide) rfl (pal rfl (pe_cB (k_len rfl) T.n_len bt_len rfl (by decide) (by decide) rfl (pal rfl (pvl 0) pa_nil)) (pal rfl (pe_cB (k_len rfl) T.n_len bt_len rfl (by decide) (by decide) rfl (pal rfl (pvc 1) pa_nil)) pa_nil))) (nomark _)))))
     (pss_one (ps_raise told_cx rfl T.x_NoGroups.x rfl T.x_NoGroups.m (by decide) rfl (pal rfl pe_str pa_nil)))
     pss_nil)
     (pss_one (ps_ret pe_bl)))), ?_⟩
    walk_at "dl"
    refine ⟨⟨_, .of h1⟩, ?_⟩
    refine comp_walk (xs := ([1, 2] : List Nat).map natV) walk_list (small_line (by decide)) (fun i ys H' => H' = H ∧ ys = if i = 0 then [] else [V.int 1]) ⟨rfl, rfl⟩ (fun _ _ _ _ q => by rw [q.1]; exact .of h1) (fun i ys H' q => by rw [q.2]; split <;> simp; omega) ?_ ?_
    · rintro i x ys H2 hx ⟨rfl, rfl⟩
      have hi : i < 2 := (List.getElem?_eq_some_iff.mp hx).1
      rcases (by omega : i = 0 ∨ i = 1) with rfl | rfl
      · obtain rfl : V.int 1 = x := Option.some.inj hx
        walk_at "dl"
        refine natIn_of h2 ⟨_, rfl, ?_⟩
        rw [if_pos (by decide)]
        exact ⟨⟨_, rfl⟩, rfl⟩
      · obtain rfl : V.int 2 = x := Option.some.inj hx
        walk_at "dl"
        refine natIn_of h2 ⟨_, rfl, ?_⟩
        rw [if_neg (by decide)]
        exact ⟨⟨_, rfl⟩, rfl⟩
    · rintro ys H2 ⟨rfl, rfl⟩ D hD
      have u := Same.upd_new hD (HO.lst [V.int 1])
      refine ⟨true, TruL upd_same rfl, ?_⟩
      rw [if_pos rfl]
      refine ⟨_, .inl (.of upd_same), _, .inl (.of (u _ _ h1)), _, .inl (.of (u _ _ h2)), ?_⟩
      rw [if_pos (by decide)]
      exact ⟨small_line (by decide), k _ u⟩
theorem cut_to {xs : List V} {k : Nat} (h : k ≤ xs.length) : cutV xs none (some (k : Int)) = xs.take k := by
  unfold cutV HT.sIx
  dsimp only
  rw [if_neg (by omega), Int.toNat_natCast, Nat.min_eq_left h]
  simp
noncomputable def GrpsV (H : Hp) (xs : List V) (gs : List (List Nat)) : Prop := All2 (fun x ns => ∃ p, x = .ref p ∧ H p = some (.lst (ns.map natV))) xs gs
theorem GrpsV.mono {H H' : Hp} {xs : List V} {gs : List (List Nat)} (s : Same H H') (h : GrpsV H xs gs) : GrpsV H' xs gs := All2.mono h fun _ _ ⟨p, e, hp⟩ => ⟨p, e, s _ _ hp⟩
noncomputable def sp_asked_groups (K : PySem.W.Frag) (f : Nat → Addr) : Sp := fun vs H Q E => ∃ (l : Addr) (xs : List V) (gs : List (List Nat)) (m : Nat), vs = [.ref l, .int m] ∧ H l = some (.lst xs) ∧ GrpsV H xs gs ∧ ((gs = [[0]] ∧ m = 1 ∧ ∀ H', Same H H' → Q (.bl true) H') ∨ (gs = [[0, 1], [1, 2]] ∧ m = 3 ∧ ∀ H', Same H H' → E (.ref (f 8)) none H'))
theorem ok_asked_groups (T : Txt K mg f fd) : FnOk P w K mg base (CXE P w) 2 (f 56) (fd 56) ["groups", "many"] (sp_asked_groups K f) := by
  refine T.d_asked_groups.F.okX sc_asked_groups (fun vs H Q E h => ?_) (fun cdv A outer s H vs Q E hr h => ?_)
  · obtain ⟨l, xs, gs, m, rfl, _⟩ := h
    rfl
  · obtain ⟨l, xs, gs, m, rfl, hl, hg, hk⟩ := h
    refine ⟨_, (pss_cons (ps_if (pt_cmpR op_gt (pe_cB (k_len rfl) T.n_len bt_len rfl (by decide) (by decide) rfl (pal rfl (pvl 0) pa_nil)) (pgi T.g_MOST_GROUPS) (nomark _))
     (pss_one (ps_raise told_cx rfl T.x_NoGroups.x rfl T.x_NoGroups.m (by decide) rfl (pal rfl pe_str pa_nil)))
     pss_nil)
     (pss_cons (ps_for PassesOwn.leaving rfl (pi_enum rfl T.n_enumerate (pal rfl (pvl 0) pa_nil) rfl) (k_pgT rfl rfl (pgs_cons (pgl 2 sc_asked_groups.nd) (pgs_cons (pgl 3 sc_asked_groups.nd) pgs_nil)))
     (pss_cons (ps_expr (pe_defX told_cx T.d_asked_group (ok_asked_group T) (hr.mono (by decide)) rfl (by decide) rfl (pal rfl (pvl 3) (pal rfl (pvl 1) pa_nil))))
     (pss_one (ps_for PassesOwn.leaving rfl (k_piL rfl (pe_slice (k_slL rfl) (pvl 0) po_none (po_some (pvl 2)))) (pgl 4 sc_asked_groups.nd)
     (pss_one (ps_expr (pe_defX told_cx T.d_asked_pair (ok_asked_pair T) (hr.mono (by decide)) rfl (by decide) rfl (pal rfl (pvl 3) (pal rfl (pvl 4) pa_nil)))))))))
     (pss_one (ps_ret pe_bl)))), ?_⟩
    walk_at "dl"
    have hxl := hg.1
    have hgl : gs.length ≤ 2 ∧ (∀ (i : Nat) ns, gs[i]? = some ns → ns ≠ [] ∧ ns.Pairwise (· < ·) ∧ (∀ x ∈ ns, x < m) ∧ ns.length ≤ 60) := by
      rcases hk with ⟨rfl, rfl, _⟩ | ⟨rfl, rfl, _⟩
      · refine ⟨by simp, fun i ns h => ?_⟩
        have hi := (List.getElem?_eq_some_iff.mp h).1
        obtain rfl : i = 0 := by simpa using hi
        obtain rfl : [0] = ns := Option.some.inj h
        exact ⟨by decide, by decide, by decide, by decide⟩
      · refine ⟨by simp, fun i ns h => ?_⟩
        have hi := (List.getElem?_eq_some_iff.mp h).1
        rcases (by simp at hi; omega : i = 0 ∨ i = 1) with rfl | rfl
        · obtain rfl : [0, 1] = ns := Option.some.inj h
          exact ⟨by decide, by decide, by decide, by decide⟩
        · obtain rfl : [1, 2] = ns := Option.some.inj h
          exact ⟨by decide, by decide, by decide, by decide⟩
    refine ⟨_, .inl (.of hl), ?_⟩
    rw [if_neg (by omega)]
    refine for_in ?_
    walk_at "dl"
    refine ⟨⟨_, .of hl⟩, ?_⟩
    refine ForW.enum (xs := xs) (fun i σ H' => (∃ v2 v3 v4, σ = [some (V.ref l), some (V.int (m : Int)), v2, v3, v4]) ∧ Same H H' ∧ i ≤ 1) ⟨⟨none, none, none, rfl⟩, Same.refl _, by omega⟩ (fun _ _ _ q => .of (q.2.1 _ _ hl)) ?_ ?_
    · rintro i x σ H2 q hx ⟨⟨v2, v3, v4, rfl⟩, s2, hi⟩ hq
      obtain ⟨ns, hni, p, rfl, hp⟩ := All2.at hg hx
      obtain ⟨g1, g2, g3, g4⟩ := hgl.2 i ns hni
      refine ⟨q, _, rfl, .of upd_same, rfl, ?_⟩
      have s3 := s2.new hq (HO.tup [V.int (i : Int), V.ref p])
      generalize upd H2 q (HO.tup [V.int (i : Int), V.ref p]) = H3 at *
      simp only [gCons, gNil, gName]
      walk_at "dl"
      refine ⟨p, ns, m, rfl, s3 _ _ hp, g1, g2, g3, g4, fun H4 s4 => ?_⟩
      have s04 := s3.trans s4
      refine for_in ?_
      walk_at "dl"
      refine ⟨xs, .of (s04 _ _ hl), fun D hD => ?_⟩
      have hix := (List.getElem?_eq_some_iff.mp hx).1
      rw [cut_to (by omega)]
      have s5 := s04.new hD (HO.lst (xs.take i))
      have g5 : upd H4 D (HO.lst (xs.take i)) D = some (.lst (xs.take i)) := upd_same
      generalize upd H4 D (HO.lst (xs.take i)) = H5 at *
      refine ⟨⟨_, .of g5⟩, ?_⟩
      rcases (by omega : i = 0 ∨ i = 1) with rfl | rfl
      · refine ForW.of walk_list (fun j σ H' => σ = [some (V.ref l), some (V.int (m : Int)), some (V.int ((0 : Nat) : Int)), some (V.ref p), v4] ∧ H' = H5) ⟨rfl, rfl⟩ (fun _ _ _ _ q => by rw [q.2]; exact .of g5) (fun j x σ H6 hx => by simp at hx) ?_
        rintro σ H6 ⟨rfl, rfl⟩
        exact ⟨⟨_, _, _, rfl⟩, s5, by omega⟩
      · rcases hk with ⟨rfl, _, _⟩ | ⟨rfl, rfl, k⟩
        · simp at hni
        · obtain ⟨x0, hx0⟩ : ∃ x0, xs[0]? = some x0 := ⟨_, List.getElem?_eq_getElem (by omega)⟩
          obtain ⟨ns0, hn0, p0, rfl, hp0⟩ := All2.at hg hx0
          obtain rfl : [0, 1] = ns0 := Option.some.inj hn0
          obtain rfl : [1, 2] = ns := Option.some.inj hni
          refine ForW.of walk_list (fun j σ H' => σ = [some (V.ref l), some (V.int ((3 : Nat) : Int)), some (V.int ((1 : Nat) : Int)), some (V.ref p), v4] ∧ H' = H5 ∧ j = 0) ⟨rfl, rfl, rfl⟩ (fun _ _ _ _ q => by rw [q.2.1]; exact .of g5) ?_ ?_
          · rintro j x σ H6 hx6 ⟨rfl, rfl, rfl⟩
            rw [List.getElem?_take_of_lt (by omega), hx0] at hx6
            cases hx6
            walk_at "dl"
            exact ⟨p, p0, rfl, s5 _ _ hp, s5 _ _ hp0, fun H7 s7 => k _ (s5.trans s7)⟩
          · rintro σ H6 ⟨_, _, z⟩
            rw [List.length_take] at z
            omega
    · rintro σ H2 ⟨⟨v2, v3, v4, rfl⟩, s2, h1⟩
      walk_at "dl"
      rcases hk with ⟨rfl, _, k⟩ | ⟨rfl, rfl, k⟩
      · exact k _ s2
      · simp at hxl
        omega
noncomputable def sp_parts (K : PySem.W.Frag) (f : Nat → Addr) : Sp := fun vs H Q E => ∃ (l r lr lc : Addr) (v : V) (zs : List Int), vs = [.ref l, v, .ref lr, .ref lc] ∧ H l = some (.lst [.ref r]) ∧ H r = some (.lst (zs.map V.int)) ∧
  ((zs.foldl (· + ·) 0 = 0 ∧ ∀ H', Same H H' → E (.ref (f 7)) none H') ∨
   (zs.foldl (· + ·) 0 ≠ 0 ∧ zs.length = 3 ∧ (∃ xs, H lr = some (.lst xs) ∧ GrpsV H xs [[0]]) ∧ (∃ ys, H lc = some (.lst ys) ∧ GrpsV H ys [[0, 1], [1, 2]]) ∧ ∀ H', Same H H' → E (.ref (f 8)) none H'))
theorem ok_parts (T : Txt K mg f fd) : FnOk P w K mg base (CXE P w) 3 (f 66) (fd 66) ["grid", "many", "row_groups", "column_groups"] (sp_parts K f) := by
  refine T.d_parts.F.okX sc_parts (fun vs H Q E h => ?_) (fun cdv A outer s H vs Q E hr h => ?_)
  · obtain ⟨l, r, lr, lc, v, zs, rfl, _⟩ := h
    rfl
  · obtain ⟨l, r, lr, lc, v, zs, rfl, hl, hr0, hk⟩ := h
    refine ⟨_, (pss_cons (psl 4 sc_parts.nd (pe_cB (k_sumI rfl rfl) T.n_sum bt_sum rfl (by decide) (by decide) rfl (pal rfl (pe_comp ["row"] ["grid", "many", "row_groups", "column_groups", "whole", "width", "links", "flow"] rfl (show CompSc _ (defScope s_parts) ["grid", "many", "row_groups", "column_groups", "whole", "width", "links", "flow"] ["grid", "many", "row_groups", "column_groups", "whole", "width", "links", "flow"] from compOk_is (by decide +kernel)) (k_piL rfl (pvl 0)) (fun _ _ _ _ _ => (pgl 0 (show (["row", "grid", "many", "row_groups", "column_groups", "whole", "width", "links", "flow"] : List Str).Nodup by decide +kernel))) (fun _ _ _ _ _ => pts_nil) (fun _ _ _ _ _ => (pe_cB (k_sumI rfl rfl) T.n_sum bt_sum rfl (by decide) (by decide) rfl (pal rfl (pvl 0) pa_nil)))) pa_nil)))
     (pss_cons (ps_if (pt_cmpR op_eq (pvl 4) pe_int (nomark _))
     (pss_one (ps_raise told_cx rfl T.x_NoWhole.x rfl T.x_NoWhole.m (by decide) rfl (pal rfl pe_str pa_nil)))
     pss_nil)
     (pss_cons (psc 5 sc_parts.nd (pe_cB (k_len rfl) T.n_len bt_len rfl (by decide) (by decide) rfl (pal rfl (pe_ix (k_ixL rfl) (pvl 0) pe_int (fun _ _ => rfl)) pa_nil)))
     (pss_cons (ps_expr (pe_defX told_cx T.d_asked_groups (ok_asked_groups T) (hr.mono (by decide)) rfl (by decide) rfl (pal rfl (pvl 2) (pal rfl (pe_cB (k_len rfl) T.n_len bt_len rfl (by decide) (by decide) rfl (pal rfl (pvl 0) pa_nil)) pa_nil))))
     (pss_cons (ps_expr (pe_defX told_cx T.d_asked_groups (ok_asked_groups T) (hr.mono (by decide)) rfl (by decide) rfl (pal rfl (pvl 3) (pal rfl (pvc 5) pa_nil))))
     pss_stop))))), ?_⟩
    walk_at "dl"
    refine ⟨⟨_, .of hl⟩, ?_⟩
    refine comp_walk (xs := [V.ref r]) walk_list (small_line (show 1 ≤ 1000000 by decide)) (fun i ys H' => H' = H ∧ ys = if i = 0 then [] else [V.int (zs.foldl (· + ·) 0)]) ⟨rfl, rfl⟩ (fun _ _ _ _ q => by rw [q.1]; exact .of hl) (fun i ys H' q => by rw [q.2]; split <;> simp; omega) ?_ ?_
    · rintro i x ys H2 hx ⟨rfl, rfl⟩
      have hi : i < 1 := (List.getElem?_eq_some_iff.mp hx).1
      obtain rfl : i = 0 := by omega
      obtain rfl : V.ref r = x := Option.some.inj hx
      walk_at "dl"
      exact ⟨r, zs, rfl, .of hr0, ⟨_, rfl⟩, rfl, rfl⟩
    · rintro ys H2 ⟨rfl, rfl⟩ D hD
      have s1 := Same.upd_new hD (HO.lst [V.int (zs.foldl (· + ·) 0)])
      have g1 : upd H2 D (HO.lst [V.int (zs.foldl (· + ·) 0)]) D = some (.lst [V.int (zs.foldl (· + ·) 0)]) := upd_same
      rw [show (if [V.ref r].length = 0 then [] else [V.int (zs.foldl (· + ·) 0)]) = [V.int (zs.foldl (· + ·) 0)] from rfl]
      generalize upd H2 D (HO.lst [V.int (zs.foldl (· + ·) 0)]) = H1 at *
      generalize zs.foldl (· + ·) 0 = su at *
      refine ⟨D, [su], rfl, .of g1, rfl, ?_⟩
      rw [show ([su] : List Int).foldl (· + ·) 0 = su by show 0 + su = su; omega]
      rcases hk with ⟨rfl, k⟩ | ⟨h0, h3, ⟨xs, hlr, hgr⟩, ⟨ys, hlc, hgc⟩, k⟩
      · rw [if_pos rfl]
        exact ⟨small_line (by decide), k _ s1⟩
      · rw [if_neg (fun z => h0 (by injection z))]
        refine ⟨l, _, _, _, rfl, rfl, .of (s1 _ _ hl), atI_nat (j := 0) rfl, r, rfl, _, .inl (.of (s1 _ _ hr0)), _, .inl (.of (s1 _ _ hl)), ?_⟩
        refine ⟨lr, xs, [[0]], 1, rfl, s1 _ _ hlr, hgr.mono s1, .inl ⟨rfl, rfl, fun H3 s3 => ?_⟩⟩
        have s13 := s1.trans s3
        refine ⟨lc, ys, [[0, 1], [1, 2]], 3, by rw [List.length_map, h3], s13 _ _ hlc, hgc.mono s13, .inr ⟨rfl, rfl, fun H4 s4 => k _ (s13.trans s4)⟩⟩
noncomputable def sp_asked_cell (K : PySem.W.Frag) (f : Nat → Addr) : Sp := fun vs H Q E => ∃ (la lh : Addr) (ys : List V) (v : V) (bs : List Box) (c : Box), vs = [.ref la, .ref lh, v] ∧ H lh = some (.lst ys) ∧ BoxesV H ys bs ∧ BoxAt H v c ∧ c ∉ bs ∧ ∀ H' dx, Same H H' → H' dx = some (.xd [("cell", v)]) → E (.ref (f 14)) (some dx) H'
theorem ok_asked_cell (T : Txt K mg f fd) : FnOk P w K mg base (CXE P w) 3 (f 32) (fd 32) ["grid", "hidden", "cell"] (sp_asked_cell K f) := by
  refine T.d_asked_cell.F.okX sc_asked_cell (fun vs H Q E h => ?_) (fun cdv A outer s H vs Q E hr h => ?_)
  · obtain ⟨la, lh, ys, v, bs, c, rfl, _⟩ := h
    rfl
  · obtain ⟨la, lh, ys, v, bs, c, rfl, hlh, hb, hc, hn, k⟩ := h
    refine ⟨_, (pss_cons (ps_if (PW.pt (pw_or (pt_cmpR (k_notInD rfl hr.units) (pvl 2) (pvl 1) rfl) (pw_or (pt_not (pt_chain op_le op_lt pe_int (pe_ix (k_ixT rfl) (pvl 2) pe_int (fun _ _ => rfl)) (pe_cB (k_len rfl) T.n_len bt_len rfl (by decide) (by decide) rfl (pal rfl (pvl 0) pa_nil)))) (pw_or1 (pt_not (pt_chain op_le op_lt pe_int (pe_ix (k_ixT rfl) (pvl 2) pe_int (fun _ _ => rfl)) (pe_cB (k_len rfl) T.n_len bt_len rfl (by decide) (by decide) rfl (pal rfl (pe_ix (k_ixL rfl) (pvl 0) pe_int (fun _ _ => rfl)) pa_nil))))))))
     (pss_one (ps_raiseI told_cx rfl T.x_NoVeil.x T.d_NoVeil___init__.fn (ok_NoVeil___init__ T) (hr.mono (by decide)) T.d_NoVeil___init__.b T.x_NoVeil.kp rfl T.x_NoVeil.m (by decide) rfl (pal rfl (pvl 2) pa_nil)))
     pss_nil)
     (pss_one (ps_ret pe_bl))), ?_⟩
    walk_at "dl"
    refine boxIn_of hc (.of hlh) hb ⟨_, rfl, ?_⟩
    rw [if_pos (by simp [hn])]
    exact ⟨small_line (by decide), fun a ha => ⟨a, f 14, v, some (.ref (f 15000)), rfl, upd_same, T.x_NoVeil.x, T.x_NoVeil.xc.hd, T.x_NoVeil.sa, T.na_NoVeil_cell, fun dx hdx hne => ⟨rfl, some dx, upd_same, k _ dx (raised ha hdx hne).1 (raised ha hdx hne).2⟩⟩⟩
noncomputable def sp_could_be (K : PySem.W.Frag) (f : Nat → Addr) : Sp := sp_asked_cell K f
theorem ok_could_be (T : Txt K mg f fd) : FnOk P w K mg base (CXE P w) 4 (f 42) (fd 42) ["grid", "hidden", "cell"] (sp_could_be K f) := by
  refine T.d_could_be.F.okX sc_could_be (fun vs H Q E h => ?_) (fun cdv A outer s H vs Q E hr h => ?_)
  · obtain ⟨la, lh, ys, v, bs, c, rfl, _⟩ := h
    rfl
  · obtain ⟨la, lh, ys, v, bs, c, rfl, hlh, hb, hc, hn, k⟩ := h
    refine ⟨_, (pss_cons (ps_expr (pe_defX told_cx T.d_asked_cell (ok_asked_cell T) (hr.mono (by decide)) rfl (by decide) rfl (pal rfl (pvl 0) (pal rfl (pvl 1) (pal rfl (pvl 2) pa_nil)))))
     pss_stop), ?_⟩
    walk_at "dl"
    exact ⟨la, lh, ys, v, bs, c, rfl, hlh, hb, hc, hn, k⟩
noncomputable def sp_veil (K : PySem.W.Frag) (f : Nat → Addr) : Sp := fun vs H Q E => ∃ (la : Addr) (xs : List V) (g : List (List Int)) (R C : Nat) (few : Int), vs = [.ref la, .int few] ∧ H la = some (.lst xs) ∧ GridV H xs g ∧ GOk g R C ∧ 1 ≤ R ∧ R ≤ 10 ∧ C ≤ 10 ∧
  (∃ b, (smalls g few (allB C R)).find? (outr g R (allB C R)) = some b) ∧ ∀ H' dx v, Same H H' → H' dx = some (.xd [("cell", v)]) → E (.ref (f 14)) (some dx) H'
theorem ok_veil (T : Txt K mg f fd) : FnOk P w K mg base (CXE P w) 6 (f 48) (fd 48) ["grid", "few"] (sp_veil K f) := by
  refine T.d_veil.F.okX sc_veil (fun vs H Q E h => ?_) (fun cdv A outer s H vs Q E hr h => ?_)
  · obtain ⟨la, xs, g, R, C, few, rfl, _⟩ := h
    rfl
  · obtain ⟨la, xs, g, R, C, few, rfl, hla, hg, ok, hR, hR2, hC2, ⟨b, hf⟩, ke⟩ := h
    refine ⟨_, (pss_cons (psl 2 sc_veil.nd (pe_defL T.d_boxes_of (ok_boxes_of T) (hr.mono (by decide)) rfl (by decide) rfl (pal rfl (pvc 0) pa_nil)))
     (pss_cons (ps_comp ["box"] ["grid", "few", "boxes", "small", "told", "hidden", "#6", "fewer"] rfl (show CompSc _ (defScope s_veil) ["grid", "few", "boxes", "small", "told", "hidden", "box", "fewer"] ["grid", "few", "boxes", "small", "told", "hidden", "#6", "fewer"] from compOk_is (by decide +kernel)) sc_veil.nd (i := 3) rfl rfl (k_piL rfl (pvl 2)) (fun _ _ _ _ _ => (pgl 0 (show (["box", "grid", "few", "boxes", "small", "told", "hidden", "#6", "fewer"] : List Str).Nodup by decide +kernel))) (fun _ _ _ _ _ => (pts_one (pt_val (pe_defL T.d_is_small (ok_is_small T) (hr.mono (by decide)) rfl (by decide) rfl (pal rfl (pvc 1) (pal rfl (pvl 0) (pal rfl (pvc 2) pa_nil))))))) (fun _ _ _ _ _ => (pvl 0)))
     (pss_cons (psl 4 sc_veil.nd (pe_defL T.d_first_outright (ok_first_outright T) (hr.mono (by decide)) rfl (by decide) rfl (pal rfl (pvc 0) (pal rfl (pvl 2) (pal rfl (pvl 3) pa_nil)))))
     (pss_cons (ps_if (pt_cmpR op_notN (pvl 4) pe_non (nomark _))
     (pss_one (ps_raiseI told_cx rfl T.x_NoVeil.x T.d_NoVeil___init__.fn (ok_NoVeil___init__ T) (hr.mono (by decide)) T.d_NoVeil___init__.b T.x_NoVeil.kp rfl T.x_NoVeil.m (by decide) rfl (pal rfl (pvl 4) pa_nil)))
     pss_nil)
     pss_stop)))), ?_⟩
    walk_at "dl"
    have l100 : R * C ≤ 10 * 10 := Nat.mul_le_mul hR2 hC2
    have hal := allB_len C R
    refine ⟨la, xs, g, R, C, rfl, hla, hg, ok, hR2, hC2, fun H1 lb ys s1 hlbn hlb hb => ⟨lb, rfl, ⟨_, .of hlb⟩, ?_⟩⟩
    refine comp_boxes (pr := isSm g few) hlb hb (by omega) ?_ ?_
    · intro i x b H2 Q' hx hbi s2 q
      have s12 := s1.trans s2
      obtain ⟨b', hb', hbx⟩ := All2.at hb hx
      rw [hbi] at hb'
      cases hb'
      walk_at "dl"
      exact ⟨xs, s12 _ _ hla, g, hg.mono s12, b, R, C, ok, hbx.mono s2, allB_mem.mp (List.mem_of_getElem? hbi), q H2 (Same.refl _)⟩
    · intro zs H2 s2 hz D hD
      change BoxesV H2 zs (smalls g few (allB C R)) at hz
      have u3 := Same.upd_new hD (HO.lst zs)
      have g3 : upd H2 D (HO.lst zs) D = some (.lst zs) := upd_same
      have s3 := (s1.trans s2).trans u3
      have s13 := s2.trans u3
      have hz3 := hz.mono u3
      generalize upd H2 D (HO.lst zs) = H3 at *
      have hsi : ∀ b ∈ smalls g few (allB C R), InG R C b := fun b hb => allB_mem.mp (List.mem_filter.mp hb).1
      have hai : ∀ b ∈ allB C R, InG R C b := fun b hb => allB_mem.mp hb
      refine ⟨la, lb, D, xs, ys, zs, g, allB C R, smalls g few (allB C R), R, C, rfl, s3 _ _ hla, hg.mono s3, ok, hR, hR2, hC2, s13 _ _ hlb, hb.mono s13, hai, by omega, g3, hz3, hsi, fun H4 v s4 hv => ?_⟩
      have s34 := s3.trans s4
      rw [hf] at hv
      obtain ⟨pv, rfl, hpv⟩ := hv
      dsimp only
      rw [if_pos (by simp)]
      exact ⟨small_line (by decide), fun a ha => ⟨a, f 14, .ref pv, some (.ref (f 15000)), rfl, upd_same, T.x_NoVeil.x, T.x_NoVeil.xc.hd, T.x_NoVeil.sa, T.na_NoVeil_cell, fun dx hdx hne => ⟨rfl, some dx, upd_same, ke _ dx _ (s34.trans (raised ha hdx hne).1) (raised ha hdx hne).2⟩⟩⟩
noncomputable def kinds (x : Nat → Bool) : List Bool := [x 6, x 7, x 8, x 14, x 12, x 2, x 5, x 13, x 9, x 10, x 3, x 11, x 4, true]
noncomputable def sp_l_kinds (K : PySem.W.Frag) (f : Nat → Addr) : Sp := fun vs H Q _ => ∃ (a C : Addr) (ed : Option Addr) (x : Nat → Bool), vs = [.ref a] ∧ H a = some (ExO a (.ref C) ed) ∧ XdOk H ed ∧ XCls K C ∧ (∀ j, 2 ≤ j → j ≤ 14 → PySem.W.kitOne K (.ref C) (.ref (f j)) = some (x j)) ∧ PySem.W.kitOne K (.ref C) (.type "ValueError") = some true ∧ ∀ H' p, Same H H' → H p = none → H' p = some (.lst ((kinds x).map V.bl)) → Q (.ref p) H'
theorem XdOk.mono {H H' : Hp} {ed : Option Addr} (s : Same H H') (h : XdOk H ed) : XdOk H' ed := by
  rcases h with h | ⟨dx, fs, e, h⟩
  · exact .inl h
  · exact .inr ⟨dx, fs, e, s _ _ h⟩
theorem ok_l_kinds (T : Txt K mg f fd) : FnOkH P w K mg base 1 (f 69) (fd 69) ["_law_e"] (sp_l_kinds K f) := by
  refine T.d_l_kinds.F.okH sc_l_kinds (fun vs H Q E h => ?_) (fun cdv A outer s H vs Q E hr h => ?_)
  · obtain ⟨a, C, ed, x, rfl, _⟩ := h
    rfl
  · obtain ⟨a, C, ed, x, rfl, ha, hd, xc, hx, hv, k⟩ := h
    refine ⟨_, (pss_cons (psl 1 sc_l_kinds.nd (pe_lst (pal rfl (pe_cB (k_isX rfl) T.n_isinstance bt_isinstance rfl (by decide) (by decide) rfl (pal rfl (pvl 0) (pal rfl (pgcl T.x_NoNet.m rfl (by decide)) pa_nil))) (pal rfl (pe_cB (k_isX rfl) T.n_isinstance bt_isinstance rfl (by decide) (by decide) rfl (pal rfl (pvl 0) (pal rfl (pgcl T.x_NoWhole.m rfl (by decide)) pa_nil))) (pal rfl (pe_cB (k_isX rfl) T.n_isinstance bt_isinstance rfl (by decide) (by decide) rfl (pal rfl (pvl 0) (pal rfl (pgcl T.x_NoGroups.m rfl (by decide)) pa_nil))) (pal rfl (pe_cB (k_isX rfl) T.n_isinstance bt_isinstance rfl (by decide) (by decide) rfl (pal rfl (pvl 0) (pal rfl (pgcl T.x_NoVeil.m rfl (by decide)) pa_nil))) pa_nil))))))
     (pss_cons (psl 1 sc_l_kinds.nd (pe_op op_cat (pvl 1) (pe_lst (pal rfl (pe_cB (k_isX rfl) T.n_isinstance bt_isinstance rfl (by decide) (by decide) rfl (pal rfl (pvl 0) (pal rfl (pgcl T.x_NoField.m rfl (by decide)) pa_nil))) (pal rfl (pe_cB (k_isX rfl) T.n_isinstance bt_isinstance rfl (by decide) (by decide) rfl (pal rfl (pvl 0) (pal rfl (pgcl T.x_NoFields.m rfl (by decide)) pa_nil))) (pal rfl (pe_cB (k_isX rfl) T.n_isinstance bt_isinstance rfl (by decide) (by decide) rfl (pal rfl (pvl 0) (pal rfl (pgcl T.x_NoHead.m rfl (by decide)) pa_nil))) (pal rfl (pe_cB (k_isX rfl) T.n_isinstance bt_isinstance rfl (by decide) (by decide) rfl (pal rfl (pvl 0) (pal rfl (pgcl T.x_NoKind.m rfl (by decide)) pa_nil))) pa_nil)))))))
     (pss_cons (psl 1 sc_l_kinds.nd (pe_op op_cat (pvl 1) (pe_lst (pal rfl (pe_cB (k_isX rfl) T.n_isinstance bt_isinstance rfl (by decide) (by decide) rfl (pal rfl (pvl 0) (pal rfl (pgcl T.x_NoLine.m rfl (by decide)) pa_nil))) (pal rfl (pe_cB (k_isX rfl) T.n_isinstance bt_isinstance rfl (by decide) (by decide) rfl (pal rfl (pvl 0) (pal rfl (pgcl T.x_NoRow.m rfl (by decide)) pa_nil))) (pal rfl (pe_cB (k_isX rfl) T.n_isinstance bt_isinstance rfl (by decide) (by decide) rfl (pal rfl (pvl 0) (pal rfl (pgcl T.x_NoSieve.m rfl (by decide)) pa_nil))) (pal rfl (pe_cB (k_isX rfl) T.n_isinstance bt_isinstance rfl (by decide) (by decide) rfl (pal rfl (pvl 0) (pal rfl (pgcl T.x_NoSuch.m rfl (by decide)) pa_nil))) pa_nil)))))))
     (pss_one (ps_ret (pe_op op_cat (pvl 1) (pe_lst (pal rfl (pe_cB (k_isX rfl) T.n_isinstance bt_isinstance rfl (by decide) (by decide) rfl (pal rfl (pvl 0) (pal rfl (pgcl T.x_NoView.m rfl (by decide)) pa_nil))) (pal rfl (pe_cB (k_isX rfl) T.n_isinstance bt_isinstance rfl (by decide) (by decide) rfl (pal rfl (pvl 0) (pal rfl (pty T.n_ValueError bt_ValueError) pa_nil))) pa_nil))))))))), ?_⟩
    generalize hB : tSeq (tAsg _ (gName 1)) (tSeq (tAsg _ (gName 1)) (tRet _)) = B
    walk_at "dl"
    refine ⟨a, C, ed, ha, hd, xc, rfl, _, hx 6 (by decide) (by decide), a, C, ed, ha, hd, xc, rfl, _, hx 7 (by decide) (by decide), a, C, ed, ha, hd, xc, rfl, _, hx 8 (by decide) (by decide), a, C, ed, ha, hd, xc, rfl, _, hx 14 (by decide) (by decide), small_line (by decide), fun p hp => ?_⟩
    have s1 := Same.upd_new hp (HO.lst [V.bl (x 6), V.bl (x 7), V.bl (x 8), V.bl (x 14)])
    have g1 : upd H p (HO.lst [V.bl (x 6), V.bl (x 7), V.bl (x 8), V.bl (x 14)]) p = some (.lst [V.bl (x 6), V.bl (x 7), V.bl (x 8), V.bl (x 14)]) := upd_same
    generalize upd H p (HO.lst [V.bl (x 6), V.bl (x 7), V.bl (x 8), V.bl (x 14)]) = H1 at *
    have ha1 := s1 _ _ ha
    have hd1 := XdOk.mono s1 hd
    subst hB
    generalize hB : tSeq (tAsg _ (gName 1)) (tRet _) = B
    walk_at "dl"
    refine ⟨a, C, ed, ha1, hd1, xc, rfl, _, hx 12 (by decide) (by decide), a, C, ed, ha1, hd1, xc, rfl, _, hx 2 (by decide) (by decide), a, C, ed, ha1, hd1, xc, rfl, _, hx 5 (by decide) (by decide), a, C, ed, ha1, hd1, xc, rfl, _, hx 13 (by decide) (by decide), small_line (by decide), fun q hq => ⟨p, q, _, _, rfl, rfl, Same.upd_new hq _ _ _ g1, upd_same, small_line (show 8 ≤ 1000000 by decide), fun r hr => ?_⟩⟩
    have s2 := (s1.new hq (HO.lst [V.bl (x 12), V.bl (x 2), V.bl (x 5), V.bl (x 13)])).new hr (HO.lst ([V.bl (x 6), V.bl (x 7), V.bl (x 8), V.bl (x 14)] ++ [V.bl (x 12), V.bl (x 2), V.bl (x 5), V.bl (x 13)]))
    have g2 : upd (upd H1 q (HO.lst [V.bl (x 12), V.bl (x 2), V.bl (x 5), V.bl (x 13)])) r (HO.lst ([V.bl (x 6), V.bl (x 7), V.bl (x 8), V.bl (x 14)] ++ [V.bl (x 12), V.bl (x 2), V.bl (x 5), V.bl (x 13)])) r = some (.lst ([V.bl (x 6), V.bl (x 7), V.bl (x 8), V.bl (x 14)] ++ [V.bl (x 12), V.bl (x 2), V.bl (x 5), V.bl (x 13)])) := upd_same
    generalize upd (upd H1 q (HO.lst [V.bl (x 12), V.bl (x 2), V.bl (x 5), V.bl (x 13)])) r (HO.lst ([V.bl (x 6), V.bl (x 7), V.bl (x 8), V.bl (x 14)] ++ [V.bl (x 12), V.bl (x 2), V.bl (x 5), V.bl (x 13)])) = H2 at *
    have ha2 := s2 _ _ ha
    have hd2 := XdOk.mono s2 hd
    clear g1 ha1 hd1 s1
    subst hB
    generalize hB : tRet _ = B
    walk_at "dl"
    refine ⟨a, C, ed, ha2, hd2, xc, rfl, _, hx 9 (by decide) (by decide), a, C, ed, ha2, hd2, xc, rfl, _, hx 10 (by decide) (by decide), a, C, ed, ha2, hd2, xc, rfl, _, hx 3 (by decide) (by decide), a, C, ed, ha2, hd2, xc, rfl, _, hx 11 (by decide) (by decide), small_line (by decide), fun q2 hq2 => ⟨r, q2, _, _, rfl, rfl, Same.upd_new hq2 _ _ _ g2, upd_same, small_line (show 12 ≤ 1000000 by decide), fun r2 hr2 => ?_⟩⟩
    dsimp only
    have s3 := (s2.new hq2 (HO.lst [V.bl (x 9), V.bl (x 10), V.bl (x 3), V.bl (x 11)])).new hr2 (HO.lst ([V.bl (x 6), V.bl (x 7), V.bl (x 8), V.bl (x 14)] ++ [V.bl (x 12), V.bl (x 2), V.bl (x 5), V.bl (x 13)] ++ [V.bl (x 9), V.bl (x 10), V.bl (x 3), V.bl (x 11)]))
    have g3 : upd (upd H2 q2 (HO.lst [V.bl (x 9), V.bl (x 10), V.bl (x 3), V.bl (x 11)])) r2 (HO.lst ([V.bl (x 6), V.bl (x 7), V.bl (x 8), V.bl (x 14)] ++ [V.bl (x 12), V.bl (x 2), V.bl (x 5), V.bl (x 13)] ++ [V.bl (x 9), V.bl (x 10), V.bl (x 3), V.bl (x 11)])) r2 = some (.lst ([V.bl (x 6), V.bl (x 7), V.bl (x 8), V.bl (x 14)] ++ [V.bl (x 12), V.bl (x 2), V.bl (x 5), V.bl (x 13)] ++ [V.bl (x 9), V.bl (x 10), V.bl (x 3), V.bl (x 11)])) := upd_same
    generalize upd (upd H2 q2 (HO.lst [V.bl (x 9), V.bl (x 10), V.bl (x 3), V.bl (x 11)])) r2 (HO.lst ([V.bl (x 6), V.bl (x 7), V.bl (x 8), V.bl (x 14)] ++ [V.bl (x 12), V.bl (x 2), V.bl (x 5), V.bl (x 13)] ++ [V.bl (x 9), V.bl (x 10), V.bl (x 3), V.bl (x 11)])) = H3 at *
    have ha3 := s3 _ _ ha
    have hd3 := XdOk.mono s3 hd
    clear g2 ha2 hd2 s2
    subst hB
    walk_at "dl"
    refine ⟨a, C, ed, ha3, hd3, xc, rfl, _, hx 4 (by decide) (by decide), a, C, ed, ha3, hd3, xc, rfl, _, hv, small_line (by decide), fun q4 hq4 => ⟨r2, q4, _, _, rfl, rfl, Same.upd_new hq4 _ _ _ g3, upd_same, small_line (show 14 ≤ 1000000 by decide), fun r4 hr4 => ?_⟩⟩
    exact k _ r4 ((s3.new hq4 _).new hr4 _) ((s3.new hq4 _).free hr4) upd_same
noncomputable def cl (i : Nat) : Nat := [6, 6, 6, 7, 7, 8, 14, 14].getD i 0
noncomputable def rnd (sz : Nat) (n : Int) (k : Nat) : Arc := ⟨(k : Int), ((k : Int) + 1) % (sz : Int), 0, n⟩
theorem rep_of {H : Hp} {p : Addr} {z : Int} {k : Nat} {Q : VK} (hp : H p = none) (hk : k ≤ 1000) (q : ∀ H' r, Same H H' → H' r = some (.lst ((List.replicate k z).map V.int)) → Q (.ref r) H') : rRep (.ref p) (.int k) (upd H p (.lst [.int z])) Q :=
  ⟨p, k, [V.int z], rfl, rfl, upd_same, by omega, by omega, by rw [Int.toNat_natCast]; exact small_line (by simp; omega), fun r hr => q _ r ((Same.upd_new hp _).new hr _) (by rw [upd_same, Int.toNat_natCast, List.flatten_replicate_singleton, List.map_replicate])⟩
theorem rnd_ok {sz : Nat} {n : Int} (hn : 0 ≤ n) (z1 : 2 ≤ sz) (z2 : sz ≤ 5) : NetOk sz ((List.range sz).map (rnd sz n)) := by
  refine ⟨by omega, by omega, by rw [List.length_map, List.length_range]; omega, fun A hA => ?_⟩
  obtain ⟨j, hj, rfl⟩ := List.mem_map.mp hA
  have hj' := List.mem_range.mp hj
  have b0 := Int.emod_nonneg ((j : Int) + 1) (show (sz : Int) ≠ 0 by omega)
  have b1 := Int.emod_lt_of_pos ((j : Int) + 1) (show (0 : Int) < sz by omega)
  refine ⟨by show (0 : Int) ≤ j; omega, by show (j : Int) < sz; omega, b0, b1, ?_, Int.le_refl _, hn⟩
  show (j : Int) ≠ ((j : Int) + 1) % (sz : Int)
  by_cases c : j + 1 < sz
  · rw [Int.emod_eq_of_lt (by omega) (by omega)]; omega
  · have e : (j : Int) + 1 = sz := by omega
    rw [e, Int.emod_self]; omega
theorem rnd_bad {sz : Nat} {n c d : Int} (z1 : 2 ≤ sz) (hd : n < d) : holdsF sz ((List.range sz).map (rnd sz n)) (List.replicate (sz - 1) c ++ [d]) = false := by
  refine holds_bad (k := sz - 1) (A := rnd sz n (sz - 1)) (y := d) (by rw [List.getElem?_map, List.getElem?_range (by omega)]; rfl) (by rw [List.getElem?_append_right (by simp), List.length_replicate, Nat.sub_self]; rfl) ?_
  unfold inB rnd
  rw [decide_eq_false (show ¬ d ≤ n by omega), Bool.and_false]
theorem one_row {sz : Nat} {n : Int} (hn : 0 ≤ n) (z1 : 2 ≤ sz) : ∃ b, (smalls [List.replicate sz (1 + n)] (1 + n) (allB sz 1)).find? (outr [List.replicate sz (1 + n)] 1 (allB sz 1)) = some b := by
  cases e : (smalls [List.replicate sz (1 + n)] (1 + n) (allB sz 1)).find? (outr [List.replicate sz (1 + n)] 1 (allB sz 1)) with
  | some b => exact ⟨b, rfl⟩
  | none =>
    have g0 : gAt [List.replicate sz (1 + n)] (0, 0) = 1 + n := by
      show (List.replicate sz (1 + n)).getD 0 0 = 1 + n
      exact getD_of (by rw [List.getElem?_replicate, if_pos (by omega)])
    have m0 : ((0, 0) : Box) ∈ smalls [List.replicate sz (1 + n)] (1 + n) (allB sz 1) := by
      refine List.mem_filter.mpr ⟨allB_mem.mpr ⟨by decide, by show 0 < sz; omega⟩, ?_⟩
      unfold isSm
      rw [g0, decide_eq_true (show 1 ≤ 1 + n by omega), decide_eq_true (Int.le_refl _)]
      rfl
    have inn : ∀ b ∈ others (allB sz 1) ((0, 0) : Box), b.1 = 0 ∧ b.2 ≠ 0 := fun b hb => by
      obtain ⟨h1, h2⟩ := List.mem_filter.mp hb
      have h3 := allB_mem.mp h1
      have h4 : b.1 = 0 := by have := h3.1; omega
      refine ⟨h4, fun z => ?_⟩
      have h5 : b ≠ ((0, 0) : Box) := of_decide_eq_true h2
      exact h5 (Prod.ext h4 z)
    have into : ∀ u, ¬ Lk [List.replicate sz (1 + n)] 1 (others (allB sz 1) ((0, 0) : Box)) u 1 := fun u ⟨b, hb, h⟩ => by
      obtain ⟨i1, i2⟩ := inn b hb
      rcases h with ⟨_, h⟩ | ⟨_, h, _⟩ <;> omega
    have out : ∀ v, ¬ Lk [List.replicate sz (1 + n)] 1 (others (allB sz 1) ((0, 0) : Box)) 1 v := fun v ⟨b, hb, h⟩ => by
      obtain ⟨i1, i2⟩ := inn b hb
      rcases h with ⟨h, _⟩ | ⟨h, _, _⟩ <;> omega
    have stay : ∀ v, Reach (Lk [List.replicate sz (1 + n)] 1 (others (allB sz 1) ((0, 0) : Box))) 1 v → v = 1 := fun v r => by
      induction r with
      | here => rfl
      | step _ l ih => subst ih; exact absurd l (out _)
    have o : outr [List.replicate sz (1 + n)] 1 (allB sz 1) ((0, 0) : Box) = true := outr_t ⟨fun ⟨_, r⟩ => by
        have r' : Reach (Lk [List.replicate sz (1 + n)] 1 (others (allB sz 1) ((0, 0) : Box))) 0 1 := r
        cases r' with
        | step _ l => exact into _ l, fun r => by
        have := stay 0 r
        omega⟩
    exact absurd o (List.find?_eq_none.mp e _ m0)
theorem if_no {A R : TS} {D : Ends} {H : Hp} {σ : St} {i c : Int} (hne : decide (i = c) = false) (h : R D (some (V.int i) :: σ) H) : tSeq (tIfS (tTest (tOp rEq (tVar 0) (tC (V.int c)))) A tNext) R D (some (V.int i) :: σ) H :=
  ⟨rfl, _, rfl, by dsimp only; rw [if_neg (by simpa using hne)]; exact h⟩
theorem if_yes {A R : TS} {D : Ends} {H : Hp} {σ : St} {i : Int} (h : ∀ nx, A { D with nx := nx } (some (V.int i) :: σ) H) : tSeq (tIfS (tTest (tOp rEq (tVar 0) (tC (V.int i)))) A tNext) R D (some (V.int i) :: σ) H :=
  ⟨rfl, _, rfl, by dsimp only; rw [if_pos (by simp)]; exact h _⟩
theorem if_last {A : TS} {D : Ends} {H : Hp} {σ : St} {i : Int} (h : ∀ nx, A { D with nx := nx } (some (V.int i) :: σ) H) : tIfS (tTest (tOp rEq (tVar 0) (tC (V.int i)))) A tNext D (some (V.int i) :: σ) H :=
  ⟨rfl, _, rfl, by dsimp only; rw [if_pos (by simp)]; exact h D.nx⟩
noncomputable def sp_l_deed (K : PySem.W.Frag) (f : Nat → Addr) : Sp := fun vs H Q E => ∃ (i : Nat) (n : Int) (sz : Nat), vs = [.int i, .int n, .int sz] ∧ i < 8 ∧ 0 ≤ n ∧ 2 ≤ sz ∧ sz ≤ 5 ∧ ∀ H' ed, Same H H' → XdOk H' ed → E (.ref (f (cl i))) ed H'
theorem ok_l_deed (T : Txt K mg f fd) : FnOk P w K mg base (CXE P w) 7 (f 70) (fd 70) ["_law_sort", "_law_number", "_law_size"] (sp_l_deed K f) := by
  refine T.d_l_deed.F.okX sc_l_deed (fun vs H Q E h => ?_) (fun cdv A outer s H vs Q E hr h => ?_)
  · obtain ⟨i, n, sz, rfl, _⟩ := h
    rfl
  · obtain ⟨i, n, sz, rfl, hi, hn, z1, z2, k⟩ := h
    refine ⟨_, (pss_cons (ps_comp ["_law_k"] ["_law_sort", "_law_number", "_law_size", "_law_arcs"] rfl (show CompSc _ (defScope s_l_deed) ["_law_sort", "_law_number", "_law_size", "_law_arcs"] ["_law_sort", "_law_number", "_law_size", "_law_arcs"] from compOk_is (by decide +kernel)) sc_l_deed.nd (i := 3) rfl rfl (pi_range1 rfl T.n_range (pal rfl (pvc 2) pa_nil)) (fun _ _ _ _ _ => (pgl 0 (show (["_law_k", "_law_sort", "_law_number", "_law_size", "_law_arcs"] : List Str).Nodup by decide +kernel))) (fun _ _ _ _ _ => pts_nil) (fun _ _ _ _ _ => (pe_tup (pal rfl (pvl 0) (pal rfl (pe_op op_mod (pe_op op_add (pvl 0) pe_int) (pvc 3)) (pal rfl pe_int (pal rfl (pvc 2) pa_nil)))))))
     (pss_cons (ps_if (pt_cmpR op_eq (pvl 0) pe_int (nomark _))
     (pss_one (ps_expr (pe_defX told_cx T.d_flow_of (ok_flow_of T) (hr.mono (by decide)) rfl (by decide) rfl (pal rfl (pvc 2) (pal rfl (pe_op op_cat (pvl 3) (pe_lst (pal rfl (pe_ix (k_ixL rfl) (pe_lst (pal rfl (pe_tup (pal rfl pe_int (pal rfl pe_int (pal rfl pe_int (pal rfl (pvc 1) pa_nil))))) (pal rfl (pe_tup (pal rfl pe_int (pal rfl pe_int (pal rfl (pe_op op_add (pvc 1) pe_int) (pal rfl (pvc 1) pa_nil))))) pa_nil))) (pe_op op_mod (pvc 1) pe_int) (fun _ _ => rfl)) pa_nil))) pa_nil)))))
     pss_nil)
     (pss_cons (ps_if (pt_cmpR op_eq (pvl 0) pe_int (nomark _))
     (pss_one (ps_expr (pe_defX told_cx T.d_greatest_on (ok_greatest_on T) (hr.mono (by decide)) rfl (by decide) rfl (pal rfl (pvc 2) (pal rfl (pvl 3) (pal rfl (pe_op op_cat (pe_op op_rep (pe_lst (pal rfl pe_int pa_nil)) (pe_op op_sub (pvc 2) pe_int)) (pe_lst (pal rfl (pe_op op_add pe_int (pvc 1)) pa_nil))) (pal rfl (pe_op op_sub (pvc 2) pe_int) pa_nil)))))))
     pss_nil)
     (pss_cons (ps_if (pt_cmpR op_eq (pvl 0) pe_int (nomark _))
     (pss_one (ps_expr (pe_defX told_cx T.d_least_on (ok_least_on T) (hr.mono (by decide)) rfl (by decide) rfl (pal rfl (pvc 2) (pal rfl (pvl 3) (pal rfl (pe_op op_cat (pe_op op_rep (pe_lst (pal rfl (pvc 1) pa_nil)) (pe_op op_sub (pvc 2) pe_int)) (pe_lst (pal rfl (pe_op op_add (pvc 1) pe_int) pa_nil))) (pal rfl pe_int pa_nil)))))))
     pss_nil)
     (pss_cons (ps_if (pt_cmpR op_eq (pvl 0) pe_int (nomark _))
     (pss_one (ps_expr (pe_defX told_cx T.d_dealt (ok_dealt T) (hr.mono (by decide)) rfl (by decide) rfl (pal rfl (pe_op op_rep (pe_lst (pal rfl pe_int pa_nil)) (pvc 2)) (pal rfl (pvc 1) pa_nil)))))
     pss_nil)
     (pss_cons (ps_if (pt_cmpR op_eq (pvl 0) pe_int (nomark _))
     (pss_one (ps_expr (pe_defX told_cx T.d_parts (ok_parts T) (hr.mono (by decide)) rfl (by decide) rfl (pal rfl (pe_lst (pal rfl (pe_op op_rep (pe_lst (pal rfl pe_int pa_nil)) (pvc 2)) pa_nil)) (pal rfl (pvc 1) (pal rfl (pe_lst pa_nil) (pal rfl (pe_lst pa_nil) pa_nil)))))))
     pss_nil)
     (pss_cons (ps_if (pt_cmpR op_eq (pvl 0) pe_int (nomark _))
     (pss_one (ps_expr (pe_defX told_cx T.d_parts (ok_parts T) (hr.mono (by decide)) rfl (by decide) rfl (pal rfl (pe_lst (pal rfl (pe_op op_rep (pe_lst (pal rfl (pe_op op_add pe_int (pvc 1)) pa_nil)) pe_int) pa_nil)) (pal rfl (pvc 2) (pal rfl (pe_lst (pal rfl (pe_lst (pal rfl pe_int pa_nil)) pa_nil)) (pal rfl (pe_lst (pal rfl (pe_lst (pal rfl pe_int (pal rfl pe_int pa_nil))) (pal rfl (pe_lst (pal rfl pe_int (pal rfl pe_int pa_nil))) pa_nil))) pa_nil)))))))
     pss_nil)
     (pss_cons (ps_if (pt_cmpR op_eq (pvl 0) pe_int (nomark _))
     (pss_one (ps_expr (pe_defX told_cx T.d_could_be (ok_could_be T) (hr.mono (by decide)) rfl (by decide) rfl (pal rfl (pe_lst (pal rfl (pe_op op_rep (pe_lst (pal rfl (pvc 1) pa_nil)) (pvc 2)) pa_nil)) (pal rfl (pe_lst (pal rfl (pe_tup (pal rfl pe_int (pal rfl pe_int pa_nil))) pa_nil)) (pal rfl (pe_tup (pal rfl pe_int (pal rfl pe_int pa_nil))) pa_nil))))))
     pss_nil)
     (pss_one (ps_if (pt_cmpR op_eq (pvl 0) pe_int (nomark _))
     (pss_one (ps_expr (pe_defX told_cx T.d_veil (ok_veil T) (hr.mono (by decide)) rfl (by decide) rfl (pal rfl (pe_lst (pal rfl (pe_op op_rep (pe_lst (pal rfl (pe_op op_add pe_int (pvc 1)) pa_nil)) (pvc 2)) pa_nil)) (pal rfl (pe_op op_add pe_int (pvc 1)) pa_nil)))))
     pss_nil)))))))))), ?_⟩
    generalize hB : tSeq (tIfS _ _ _) _ = B
    walk_at "dl"
    refine ⟨by omega, by omega, ?_⟩
    rw [Int.toNat_natCast]
    refine comp_walk walk_range (by rw [rangeV_len]; exact small_line (by omega)) (fun j ys H' => Same H H' ∧ ArcsV H' ys ((List.range j).map (rnd sz n))) ⟨Same.refl _, All2.nil⟩ (fun _ _ _ _ _ => trivial) (fun j ys H' q => by rw [q.2.1, List.length_map, List.length_range]; exact Nat.le_refl _) ?_ ?_
    · rintro j x ys H2 hx ⟨s2, A2⟩
      obtain ⟨hj, rfl⟩ := range_item hx
      walk_at "dl"
      refine ⟨by omega, small_line (by decide), fun q hq => ⟨⟨_, rfl⟩, s2.new hq _, ?_⟩⟩
      rw [List.range_succ, List.map_append]
      refine All2.snoc (A2.mono (Same.upd_new hq _)) ⟨q, rfl, ?_⟩
      rw [upd_same]
      unfold rnd Arc.vs
      simp only [Int.zero_add]
    rintro ys H2 ⟨s2, A2⟩ la hla
    rw [rangeV_len] at A2
    have s3 := s2.new hla (HO.lst ys)
    have g3 : upd H2 la (HO.lst ys) la = some (.lst ys) := upd_same
    have A3 := A2.mono (Same.upd_new hla (HO.lst ys))
    generalize upd H2 la (HO.lst ys) = H3 at *
    replace k : ∀ H' ed, Same H3 H' → XdOk H' ed → E (.ref (f (cl i))) ed H' := fun H' ed s hx => k H' ed (s3.trans s) hx
    clear s3 A2 hla s2
    have hyl := A3.1
    rw [List.length_map, List.length_range] at hyl
    subst hB
    rcases (by omega : i = 0 ∨ i = 1 ∨ i = 2 ∨ i = 3 ∨ i = 4 ∨ i = 5 ∨ i = 6 ∨ i = 7) with rfl | rfl | rfl | rfl | rfl | rfl | rfl | rfl
    · rw [show V.int ((0 : Nat) : Int) = V.int 0 from rfl]
      refine if_yes fun nx => ?_
      walk_at "dl"
      refine ⟨small_line (by decide), fun p hp => ⟨small_line (by decide), fun p1 hp1 => ⟨small_line (by decide), fun p2 hp2 => ?_⟩⟩⟩
      have u := (Same.upd_new hp (HO.tup [V.int 0, V.int 0, V.int 0, V.int n])).new hp1 (HO.tup [V.int 0, V.int 1, V.int (n + 1), V.int n])
      have u2 := u.new hp2 (HO.lst [V.ref p, V.ref p1])
      have ne1 : p ≠ p1 := ne_of_none (show upd H3 p (HO.tup [V.int 0, V.int 0, V.int 0, V.int n]) p = some (.tup [V.int 0, V.int 0, V.int 0, V.int n]) from upd_same) hp1
      have e0 : upd (upd (upd H3 p (HO.tup [V.int 0, V.int 0, V.int 0, V.int n])) p1 (HO.tup [V.int 0, V.int 1, V.int (n + 1), V.int n])) p2 (HO.lst [V.ref p, V.ref p1]) p = some (.tup (Arc.vs ⟨0, 0, 0, n⟩)) := Same.upd_new hp2 _ _ _ ((upd_ne ne1).trans upd_same)
      have e1 : upd (upd (upd H3 p (HO.tup [V.int 0, V.int 0, V.int 0, V.int n])) p1 (HO.tup [V.int 0, V.int 1, V.int (n + 1), V.int n])) p2 (HO.lst [V.ref p, V.ref p1]) p1 = some (.tup (Arc.vs ⟨0, 1, n + 1, n⟩)) := Same.upd_new hp2 _ _ _ upd_same
      have g4 : upd (upd (upd H3 p (HO.tup [V.int 0, V.int 0, V.int 0, V.int n])) p1 (HO.tup [V.int 0, V.int 1, V.int (n + 1), V.int n])) p2 (HO.lst [V.ref p, V.ref p1]) p2 = some (.lst [V.ref p, V.ref p1]) := upd_same
      generalize upd (upd (upd H3 p (HO.tup [V.int 0, V.int 0, V.int 0, V.int n])) p1 (HO.tup [V.int 0, V.int 1, V.int (n + 1), V.int n])) p2 (HO.lst [V.ref p, V.ref p1]) = H4 at *
      have fin : ∀ (q : Addr) (A : Arc), H4 q = some (.tup A.vs) → ¬ AOk sz A → 1 ≤ sizeLine ∧ ∀ (p : Addr), H4 p = none → rCat (V.ref la) (V.ref p) (upd H4 p (HO.lst [V.ref q])) fun x H1 => sp_flow_of K f [V.int (sz : Int), x] H1 (fun x H1 => nx [some (V.int 0), some (V.int n), some (V.int (sz : Int)), some (V.ref la)] H1) E := by
        intro q A hq hbad
        refine ⟨small_line (by decide), fun p5 hp5 => ⟨la, p5, _, _, rfl, rfl, Same.upd_new hp5 _ _ _ (u2 _ _ g3), upd_same, (by rw [List.length_singleton]; exact small_line (by omega)), fun p6 hp6 => ?_⟩⟩
        have s6 := (u2.new hp5 (HO.lst [V.ref q])).new hp6 (HO.lst (ys ++ [V.ref q]))
        have s46 := (Same.upd_new hp5 (HO.lst [V.ref q])).new hp6 (HO.lst (ys ++ [V.ref q]))
        refine ⟨sz, p6, ys ++ [V.ref q], (List.range sz).map (rnd sz n) ++ [A], rfl, upd_same, All2.snoc (A3.mono s6) ⟨q, rfl, s46 _ _ hq⟩, by simp; omega, fun z => hbad (z.2.2.2 A (by simp)), fun H7 s7 => k _ none (s6.trans s7) (.inl rfl)⟩
      have m0 := Int.emod_nonneg n (show (2 : Int) ≠ 0 by decide)
      have m1 := Int.emod_lt_of_pos n (show (0 : Int) < 2 by decide)
      rcases (by omega : n % 2 = 0 ∨ n % 2 = 1) with e | e <;> rw [e]
      · exact ⟨p2, _, _, _, rfl, rfl, .of g4, atI_nat (j := 0) rfl, fin p _ e0 fun z => z.2.2.2.2.1 rfl⟩
      · exact ⟨p2, _, _, _, rfl, rfl, .of g4, atI_nat (j := 1) rfl, fin p1 _ e1 fun z => by have := z.2.2.2.2.2.2; simp at this; omega⟩
    · rw [show V.int ((1 : Nat) : Int) = V.int 1 from rfl]
      refine if_no rfl ?_
      refine if_yes fun nx => ?_
      walk_at "dl"
      refine ⟨small_line (by decide), fun p hp => ?_⟩
      rw [show ((sz : Int) - 1) = ((sz - 1 : Nat) : Int) by omega]
      refine rep_of hp (by omega) fun H4 r s4 hr => ⟨small_line (by decide), fun p5 hp5 => ⟨r, p5, _, _, rfl, rfl, Same.upd_new hp5 _ _ _ hr, upd_same, (by rw [List.length_map, List.length_replicate, List.length_singleton]; exact small_line (by omega)), fun p6 hp6 => ?_⟩⟩
      have s6 := (s4.new hp5 (HO.lst [V.int (1 + n)])).new hp6 (HO.lst ((List.replicate (sz - 1) (0 : Int)).map V.int ++ [V.int (1 + n)]))
      exact ⟨sz, la, p6, ys, _, List.replicate (sz - 1) 0 ++ [(1 + n)], _, rfl, s6 _ _ g3, A3.mono s6, (by rw [upd_same, List.map_append]; rfl), by simp; omega, rnd_ok hn z1 z2, rnd_bad z1 (by omega), fun H7 s7 => k _ none (s6.trans s7) (.inl rfl)⟩
    · rw [show V.int ((2 : Nat) : Int) = V.int 2 from rfl]
      refine if_no rfl ?_
      refine if_no rfl ?_
      refine if_yes fun nx => ?_
      walk_at "dl"
      refine ⟨small_line (by decide), fun p hp => ?_⟩
      rw [show ((sz : Int) - 1) = ((sz - 1 : Nat) : Int) by omega]
      refine rep_of hp (by omega) fun H4 r s4 hr => ⟨small_line (by decide), fun p5 hp5 => ⟨r, p5, _, _, rfl, rfl, Same.upd_new hp5 _ _ _ hr, upd_same, (by rw [List.length_map, List.length_replicate, List.length_singleton]; exact small_line (by omega)), fun p6 hp6 => ?_⟩⟩
      have s6 := (s4.new hp5 (HO.lst [V.int (n + 1)])).new hp6 (HO.lst ((List.replicate (sz - 1) (n : Int)).map V.int ++ [V.int (n + 1)]))
      exact ⟨sz, la, p6, ys, _, List.replicate (sz - 1) n ++ [(n + 1)], _, rfl, s6 _ _ g3, A3.mono s6, (by rw [upd_same, List.map_append]; rfl), by simp; omega, rnd_ok hn z1 z2, rnd_bad z1 (by omega), fun H7 s7 => k _ none (s6.trans s7) (.inl rfl)⟩
    · rw [show V.int ((3 : Nat) : Int) = V.int 3 from rfl]
      refine if_no rfl ?_
      refine if_no rfl ?_
      refine if_no rfl ?_
      refine if_yes fun nx => ?_
      walk_at "dl"
      exact ⟨small_line (by decide), fun p hp => rep_of hp (by omega) fun H4 r s4 hr => ⟨r, sz, _, rfl, hr, k _ none s4 (.inl rfl)⟩⟩
    · rw [show V.int ((4 : Nat) : Int) = V.int 4 from rfl]
      refine if_no rfl ?_
      refine if_no rfl ?_
      refine if_no rfl ?_
      refine if_no rfl ?_
      refine if_yes fun nx => ?_
      walk_at "dl"
      refine ⟨small_line (by decide), fun p hp => rep_of hp (by omega) fun H4 r s4 hr => ⟨small_line (by decide), fun p1 hp1 => ⟨Nat.zero_le _, fun p2 hp2 => ⟨Nat.zero_le _, fun p3 hp3 => ?_⟩⟩⟩⟩
      have s5 := ((s4.new hp1 (HO.lst [V.ref r])).new hp2 (HO.lst [])).new hp3 (HO.lst [])
      have s45 := ((Same.upd_new hp1 (HO.lst [V.ref r])).new hp2 (HO.lst [])).new hp3 (HO.lst [])
      have e1 := Same.upd_new hp3 (HO.lst []) _ _ (Same.upd_new hp2 (HO.lst []) _ _ (show upd H4 p1 (HO.lst [V.ref r]) p1 = some (.lst [V.ref r]) from upd_same))
      exact ⟨p1, r, p2, p3, _, List.replicate sz 0, rfl, e1, s45 _ _ hr, .inl ⟨sum_rep sz, fun H7 s7 => k _ none (s5.trans s7) (.inl rfl)⟩⟩
    · rw [show V.int ((5 : Nat) : Int) = V.int 5 from rfl]
      refine if_no rfl ?_
      refine if_no rfl ?_
      refine if_no rfl ?_
      refine if_no rfl ?_
      refine if_no rfl ?_
      refine if_yes fun nx => ?_
      walk_at "dl"
      refine ⟨small_line (by decide), fun p hp => rep_of (k := 3) hp (by omega) fun H4 r s4 hr => ⟨small_line (by decide), fun p1 hp1 => ⟨small_line (by decide), fun q0 hq0 => ⟨small_line (by decide), fun p2 hp2 => ⟨small_line (by decide), fun q1 hq1 => ⟨small_line (by decide), fun q2 hq2 => ⟨small_line (by decide), fun p3 hp3 => ?_⟩⟩⟩⟩⟩⟩⟩
      have w1 := Same.upd_new hp1 (HO.lst [V.ref r])
      have w2 := Same.upd_new hq0 (HO.lst [V.int 0])
      have w3 := Same.upd_new hp2 (HO.lst [V.ref q0])
      have w4 := Same.upd_new hq1 (HO.lst [V.int 0, V.int 1])
      have w5 := Same.upd_new hq2 (HO.lst [V.int 1, V.int 2])
      have w6 := Same.upd_new hp3 (HO.lst [V.ref q1, V.ref q2])
      have t1 := w2.trans (w3.trans (w4.trans (w5.trans w6)))
      refine ⟨p1, r, p2, p3, _, List.replicate 3 (1 + n), rfl, t1 _ _ upd_same, (w1.trans t1) _ _ hr, .inr ⟨?_, by simp, ⟨[V.ref q0], (w4.trans (w5.trans w6)) _ _ upd_same, ?_⟩, ⟨[V.ref q1, V.ref q2], upd_same, ?_⟩, fun H7 s7 => k _ none ((s4.trans (w1.trans t1)).trans s7) (.inl rfl)⟩⟩
      · show 0 + (1 + n) + (1 + n) + (1 + n) ≠ 0
        omega
      · exact All2.snoc (xs := []) (ys := []) All2.nil ⟨q0, rfl, (w3.trans (w4.trans (w5.trans w6))) _ _ upd_same⟩
      · exact All2.snoc (xs := [V.ref q1]) (ys := [[0, 1]]) (All2.snoc (xs := []) (ys := []) All2.nil ⟨q1, rfl, (w5.trans w6) _ _ upd_same⟩) ⟨q2, rfl, w6 _ _ upd_same⟩
    · rw [show V.int ((6 : Nat) : Int) = V.int 6 from rfl]
      refine if_no rfl ?_
      refine if_no rfl ?_
      refine if_no rfl ?_
      refine if_no rfl ?_
      refine if_no rfl ?_
      refine if_no rfl ?_
      refine if_yes fun nx => ?_
      walk_at "dl"
      refine ⟨small_line (by decide), fun p hp => rep_of hp (by omega) fun H4 r s4 hr => ⟨small_line (by decide), fun p0 hp0 => ⟨small_line (by decide), fun p1 hp1 => ⟨small_line (by decide), fun p2 hp2 => ⟨small_line (by decide), fun p3 hp3 => ?_⟩⟩⟩⟩⟩
      have w0 := Same.upd_new hp0 (HO.lst [V.ref r])
      have w1 := Same.upd_new hp1 (HO.tup [V.int 0, V.int 0])
      have w2 := Same.upd_new hp2 (HO.lst [V.ref p1])
      have w3 := Same.upd_new hp3 (HO.tup [V.int 0, V.int 1])
      exact ⟨p0, p2, [V.ref p1], V.ref p3, [(0, 0)], (0, 1), rfl, w3 _ _ upd_same, All2.snoc (xs := []) (ys := []) All2.nil ⟨p1, rfl, (w2.trans w3) _ _ upd_same⟩, ⟨p3, rfl, upd_same⟩, by decide, fun H' dx s hx => k _ (some dx) ((s4.trans (w0.trans (w1.trans (w2.trans w3)))).trans s) (.inr ⟨dx, _, rfl, hx⟩)⟩
    · rw [show V.int ((7 : Nat) : Int) = V.int 7 from rfl]
      refine if_no rfl ?_
      refine if_no rfl ?_
      refine if_no rfl ?_
      refine if_no rfl ?_
      refine if_no rfl ?_
      refine if_no rfl ?_
      refine if_no rfl ?_
      refine if_last fun nx => ?_
      walk_at "dl"
      refine ⟨small_line (by decide), fun p hp => rep_of hp (by omega) fun H4 r s4 hr => ⟨small_line (by decide), fun p0 hp0 => ?_⟩⟩
      have w0 := Same.upd_new hp0 (HO.lst [V.ref r])
      refine ⟨p0, [V.ref r], [List.replicate sz (1 + n)], 1, sz, 1 + n, rfl, upd_same, All2.snoc (xs := []) (ys := []) All2.nil ⟨r, rfl, w0 _ _ hr⟩, ?_, by omega, by omega, by omega, one_row hn z1, fun H' dx v s hx => k _ (some dx) ((s4.trans w0).trans s) (.inr ⟨dx, _, rfl, hx⟩)⟩
      exact ⟨rfl, fun r hr => by rw [List.mem_singleton.mp hr, List.length_replicate], fun r hr x hx => by rw [List.mem_singleton.mp hr] at hx; rw [List.eq_of_mem_replicate hx]; omega⟩
noncomputable def ClsOk (K : PySem.W.Frag) (f : Nat → Addr) (c : Nat) : Prop := (∃ x, exB K (f c) x = true) ∧ subB K (f c) (f 1) = true ∧ XCls K (f c) ∧ (∀ j, 2 ≤ j → j ≤ 14 → PySem.W.kitOne K (.ref (f c)) (.ref (f j)) = some (decide (j = c))) ∧ PySem.W.kitOne K (.ref (f c)) (.type "ValueError") = some true
theorem cls_ok (T : Txt K mg f fd) {i : Nat} (hi : i < 8) : ClsOk K f (cl i) := by
  have c6 : ClsOk K f 6 := ⟨⟨_, T.x_NoNet.x⟩, T.su_NoNet_CrossError, T.x_NoNet.xc, fun j a b => by
        rcases (by omega : j = 2 ∨ j = 3 ∨ j = 4 ∨ j = 5 ∨ j = 6 ∨ j = 7 ∨ j = 8 ∨ j = 9 ∨ j = 10 ∨ j = 11 ∨ j = 12 ∨ j = 13 ∨ j = 14) with rfl | rfl | rfl | rfl | rfl | rfl | rfl | rfl | rfl | rfl | rfl | rfl | rfl
        · exact T.ki_NoNet_NoFields
        · exact T.ki_NoNet_NoSieve
        · exact T.ki_NoNet_NoView
        · exact T.ki_NoNet_NoHead
        · exact T.ki_NoNet_NoNet
        · exact T.ki_NoNet_NoWhole
        · exact T.ki_NoNet_NoGroups
        · exact T.ki_NoNet_NoLine
        · exact T.ki_NoNet_NoRow
        · exact T.ki_NoNet_NoSuch
        · exact T.ki_NoNet_NoField
        · exact T.ki_NoNet_NoKind
        · exact T.ki_NoNet_NoVeil, T.kv_NoNet⟩
  have c7 : ClsOk K f 7 := ⟨⟨_, T.x_NoWhole.x⟩, T.su_NoWhole_CrossError, T.x_NoWhole.xc, fun j a b => by
        rcases (by omega : j = 2 ∨ j = 3 ∨ j = 4 ∨ j = 5 ∨ j = 6 ∨ j = 7 ∨ j = 8 ∨ j = 9 ∨ j = 10 ∨ j = 11 ∨ j = 12 ∨ j = 13 ∨ j = 14) with rfl | rfl | rfl | rfl | rfl | rfl | rfl | rfl | rfl | rfl | rfl | rfl | rfl
        · exact T.ki_NoWhole_NoFields
        · exact T.ki_NoWhole_NoSieve
        · exact T.ki_NoWhole_NoView
        · exact T.ki_NoWhole_NoHead
        · exact T.ki_NoWhole_NoNet
        · exact T.ki_NoWhole_NoWhole
        · exact T.ki_NoWhole_NoGroups
        · exact T.ki_NoWhole_NoLine
        · exact T.ki_NoWhole_NoRow
        · exact T.ki_NoWhole_NoSuch
        · exact T.ki_NoWhole_NoField
        · exact T.ki_NoWhole_NoKind
        · exact T.ki_NoWhole_NoVeil, T.kv_NoWhole⟩
  have c8 : ClsOk K f 8 := ⟨⟨_, T.x_NoGroups.x⟩, T.su_NoGroups_CrossError, T.x_NoGroups.xc, fun j a b => by
        rcases (by omega : j = 2 ∨ j = 3 ∨ j = 4 ∨ j = 5 ∨ j = 6 ∨ j = 7 ∨ j = 8 ∨ j = 9 ∨ j = 10 ∨ j = 11 ∨ j = 12 ∨ j = 13 ∨ j = 14) with rfl | rfl | rfl | rfl | rfl | rfl | rfl | rfl | rfl | rfl | rfl | rfl | rfl
        · exact T.ki_NoGroups_NoFields
        · exact T.ki_NoGroups_NoSieve
        · exact T.ki_NoGroups_NoView
        · exact T.ki_NoGroups_NoHead
        · exact T.ki_NoGroups_NoNet
        · exact T.ki_NoGroups_NoWhole
        · exact T.ki_NoGroups_NoGroups
        · exact T.ki_NoGroups_NoLine
        · exact T.ki_NoGroups_NoRow
        · exact T.ki_NoGroups_NoSuch
        · exact T.ki_NoGroups_NoField
        · exact T.ki_NoGroups_NoKind
        · exact T.ki_NoGroups_NoVeil, T.kv_NoGroups⟩
  have c14 : ClsOk K f 14 := ⟨⟨_, T.x_NoVeil.x⟩, T.su_NoVeil_CrossError, T.x_NoVeil.xc, fun j a b => by
        rcases (by omega : j = 2 ∨ j = 3 ∨ j = 4 ∨ j = 5 ∨ j = 6 ∨ j = 7 ∨ j = 8 ∨ j = 9 ∨ j = 10 ∨ j = 11 ∨ j = 12 ∨ j = 13 ∨ j = 14) with rfl | rfl | rfl | rfl | rfl | rfl | rfl | rfl | rfl | rfl | rfl | rfl | rfl
        · exact T.ki_NoVeil_NoFields
        · exact T.ki_NoVeil_NoSieve
        · exact T.ki_NoVeil_NoView
        · exact T.ki_NoVeil_NoHead
        · exact T.ki_NoVeil_NoNet
        · exact T.ki_NoVeil_NoWhole
        · exact T.ki_NoVeil_NoGroups
        · exact T.ki_NoVeil_NoLine
        · exact T.ki_NoVeil_NoRow
        · exact T.ki_NoVeil_NoSuch
        · exact T.ki_NoVeil_NoField
        · exact T.ki_NoVeil_NoKind
        · exact T.ki_NoVeil_NoVeil, T.kv_NoVeil⟩
  rcases (by omega : i = 0 ∨ i = 1 ∨ i = 2 ∨ i = 3 ∨ i = 4 ∨ i = 5 ∨ i = 6 ∨ i = 7) with rfl | rfl | rfl | rfl | rfl | rfl | rfl | rfl
  · exact c6
  · exact c6
  · exact c6
  · exact c7
  · exact c7
  · exact c8
  · exact c14
  · exact c14
noncomputable def sp_l_told (K : PySem.W.Frag) (f : Nat → Addr) : Sp := fun vs H Q _ => ∃ (i : Nat) (n : Int) (sz : Nat), vs = [.int i, .int n, .int sz] ∧ i < 8 ∧ 0 ≤ n ∧ 2 ≤ sz ∧ sz ≤ 5 ∧ ∀ H' p x, Same H H' → H' p = some (.lst ((kinds x).map V.bl)) → (∀ j, 2 ≤ j → j ≤ 14 → x j = decide (j = cl i)) → Q (.ref p) H'
theorem ok_l_told (T : Txt K mg f fd) : FnOk P w K mg base CX0 8 (f 71) (fd 71) ["_law_sort", "_law_number", "_law_size"] (sp_l_told K f) := by
  refine T.d_l_told.F.ok sc_l_told (fun vs H Q E h => ?_) (fun cdv A outer s H vs Q E hr h => ?_)
  · obtain ⟨i, n, sz, rfl, _⟩ := h
    rfl
  · obtain ⟨i, n, sz, rfl, hi, hn, z1, z2, k⟩ := h
    refine ⟨_, (pss_cons (psl 3 sc_l_told.nd (pe_lst pa_nil))
     (pss_cons (ps_try rfl rfl (fun _ _ _ => (pss_one (ps_expr (pe_defX (told_try rfl) T.d_l_deed (ok_l_deed T) (hr.mono (by decide)) rfl (by decide) rfl (pal rfl (pvl 0) (pal rfl (pvl 1) (pal rfl (pvl 2) pa_nil)))))))
     (ph_as rfl T.x_CrossError.m T.x_CrossError.x (by decide) sc_l_told.nd (i := 4) rfl rfl (fun _ => (pss_one (psl 3 sc_l_told.nd (pe_defH T.d_l_kinds (ok_l_kinds T) ((hr.mono (by decide)).toH.mark _) rfl (by decide) rfl (pal rfl (pvl 4) pa_nil)))))
     ph_nil))
     (pss_one (ps_ret (pvl 3))))), ?_⟩
    walk_at "dl"
    refine ⟨Nat.zero_le _, fun p0 hp0 => ?_⟩
    have s1 := Same.upd_new hp0 (HO.lst [])
    generalize upd H p0 (HO.lst []) = H1 at *
    obtain ⟨q1, q2, q3, q4, q5⟩ := cls_ok T hi
    refine ⟨i, rfl, sz, rfl, hi, hn, z1, z2, fun H2 ed s2 hx => ⟨_, rfl, q1, ?_⟩⟩
    rw [if_pos q2]
    intro a ha
    have s3 := Same.upd_new ha (ExO a (Value.ref (f (cl i))) ed)
    exact ⟨a, f (cl i), ed, fun j => decide (j = cl i), rfl, upd_same, XdOk.mono s3 hx, q3, q4, q5, fun H4 p s4 _ hp => k _ p _ (((s1.trans s2).trans s3).trans s4) hp fun _ _ _ => rfl⟩
theorem bools_reps {K : PySem.W.Frag} {H : Hp} : ∀ zs : List Bool, Reps K H (zs.map .bool) (zs.map V.bl) ∧ PyData.canLayAll0 (zs.map .bool) = true ∧ PyData.depthAll (zs.map .bool) = 0 ∧ PyData.eqvAll (zs.map .bool) (zs.map .bool) = true
  | [] => by simp [Reps, PyData.canLayAll0, PyData.depthAll, PyData.eqvAll]
  | z :: zs => by
    obtain ⟨h1, h2, h3, h4⟩ := bools_reps (K := K) (H := H) zs
    refine ⟨?_, ?_, ?_, ?_⟩
    · simp only [List.map_cons, Reps]
      exact ⟨_, _, rfl, by simp [Rep], h1⟩
    · simp [PyData.canLayAll0, PyData.canLay0, h2]
    · simp [PyData.depthAll, PyData.depth, h3]
    · simp [PyData.eqvAll, PyData.eqv, h4]
theorem boolsEq_of {K : PySem.W.Frag} {H : Hp} {a b : Addr} {zs : List Bool} {neg : Bool} {Q : VK} (h1 : H a = some (.lst (zs.map V.bl))) (h2 : H b = some (.lst (zs.map V.bl))) (q : Q (.bl (!neg)) H) : rEqD K neg (.ref a) (.ref b) H Q := by
  obtain ⟨r1, r2, r3, r4⟩ := bools_reps (K := K) (H := H) zs
  have sh : SeqAt.shaped (.list (zs.map .bool)) = true := by
    unfold SeqAt.shaped
    simp only [PyData.canLay0, PyData.depth, r2, Bool.true_and]
    exact decide_eq_true (by omega)
  refine ⟨.list (zs.map .bool), .list (zs.map .bool), by simp only [Rep]; exact ⟨a, _, rfl, .of h1, r1⟩, by simp only [Rep]; exact ⟨b, _, rfl, .of h2, r1⟩, sh, sh, ?_⟩
  have e : PyData.eqv (.list (zs.map .bool)) (.list (zs.map .bool)) = true := by simp only [PyData.eqv, r4]
  rw [e]
  cases neg <;> exact q
noncomputable def sp_l_draw (K : PySem.W.Frag) : Sp := fun vs H Q _ => ∃ (a : Addr) (ns : List Int) (k m : Int), vs = [.ref a, .int k, .int m] ∧ SqL K H a (ns.map V.int) ∧ 0 ≤ k ∧ k < 1000000 ∧ 0 < m ∧ ∀ v, 0 ≤ v → v < m → Q (.int v) H
theorem ok_l_draw (T : Txt K mg f fd) : FnOk P w K mg base CX0 1 (f 68) (fd 68) ["_law_script", "_law_k", "_law_many"] (sp_l_draw K) := by
  refine T.d_l_draw.F.ok sc_l_draw (fun vs H Q E h => ?_) (fun cdv A outer s H vs Q E hr h => ?_)
  · obtain ⟨a, ns, k, m, rfl, _⟩ := h
    rfl
  · obtain ⟨a, ns, i, m, rfl, hs, h0, h1, hm, k⟩ := h
    refine ⟨_, (pss_cons (ps_if (pt_cmpR op_lt (pvl 1) (pe_cB (k_len rfl) T.n_len bt_len rfl (by decide) (by decide) rfl (pal rfl (pvl 0) pa_nil)) (nomark _))
     (pss_one (ps_ret (pe_op op_mod (pe_ix (k_ixL rfl) (pvl 0) (pvl 1) (fun _ _ => rfl)) (pvl 2))))
     pss_nil)
     (pss_cons (psl 3 sc_l_draw.nd (pe_op op_add (pe_op op_mul (pvl 1) (pvl 1)) pe_int))
     (pss_cons (ps_if (pt_cmpR op_gt (pe_cB (k_len rfl) T.n_len bt_len rfl (by decide) (by decide) rfl (pal rfl (pvl 0) pa_nil)) pe_int (nomark _))
     (pss_one (psl 3 sc_l_draw.nd (pe_op op_add (pvl 3) (pe_op op_mod (pe_ix (k_ixL rfl) (pvl 0) (pe_op op_mod (pvl 1) (pe_cB (k_len rfl) T.n_len bt_len rfl (by decide) (by decide) rfl (pal rfl (pvl 0) pa_nil))) (fun _ _ => rfl)) pe_int))))
     pss_nil)
     (pss_one (ps_ret (pe_op op_mod (pe_op op_mod (pe_op op_mul (pe_op op_add (pe_op op_mod (pe_op op_mul (pvl 3) pe_int) pe_int) pe_int) pe_int) pe_int) (pvl 2))))))), ?_⟩
    ((try dsimp only [cxOf, L2.Cx.inTry, L2.Cx.inHand]); simp only [L2.start, tSeq, tNext, tIfS, tRet, tRetN, tAsg, tDrop, gName, tVar, tC, tOp, tUn, tCall, tCB, tCons, tNil, tTest, tB, tNot, tAnd, tOr, tAndV, tOrV, tNotV, tIf, tChain, tLst, tTup, tBM, tBM0, rI, rI0, rU, rEq, rNe, scal_ii, scal_bb, tComp, iStr, iList, iTup, iRng1, iRng2, tYes, rIsP, rAll, rLenS, rLenV, rListOf, rTupleOf, tDisp, tPairs, tSl, tPart, tNoPart, rSlS, rSlL, rFind, rStarts, rIntT, rStrA, rRepS, tCallX, tRaise, tRaiseI, tTry, tAs, offE, tXF, sXset, tMethX, tMakeX, rIsX, tFld, sFld, tMeth, rSortD, rDPop, tDNewK, tDIn, tDNotIn, tDGet, sDPut, rIndexS, tStop, tAugS, ipI, iZip, gSub, 
  List.map_cons, List.map_nil, List.cons_append, List.nil_append, List.length_cons, List.length_nil, List.getElem?_cons_zero, List.getElem?_cons_succ, Option.some.injEq, exists_eq_left', exists_eq_left, List.set_cons_zero, List.set_cons_succ, List.cons.injEq, and_true, true_and, V.int.injEq, V.str.injEq, V.bl.injEq, V.ref.injEq, V.ty.injEq, exists_and_left, exists_and_right, List.append_nil, reduceCtorEq, false_and, and_false, exists_false, or_false, false_or, decide_true, decide_false, Bool.not_true, Bool.not_false, if_true, if_false, Bool.false_eq_true, ite_true, ite_false, and_assoc, Nat.reduceAdd, Nat.reduceSub, List.replicate_succ, List.replicate_zero, Nat.zero_add, Nat.add_zero, Nat.sub_self])
    have cm : ∀ x : Int, 0 ≤ x % m ∧ x % m < m := fun x => ⟨Int.emod_nonneg _ (by omega), Int.emod_lt_of_pos _ hm⟩
    have fin : ∀ x : Int, Q (V.int (x % m)) H := fun x => k _ (cm x).1 (cm x).2
    refine ⟨_, .inl hs, ?_⟩
    rw [List.length_map]
    by_cases c : i < (ns.length : Int)
    · rw [if_pos (decide_eq_true c)]
      obtain ⟨j, rfl⟩ : ∃ j : Nat, i = (j : Int) := ⟨i.toNat, by omega⟩
      have hj : j < ns.length := by omega
      exact ⟨a, _, _, .int ns[j], rfl, rfl, hs, atI_nat (by rw [List.getElem?_map, List.getElem?_eq_getElem hj]; rfl), _, rfl, hm, fin _⟩
    · rw [if_neg (by simpa using c)]
      refine ⟨.inl ⟨by omega, by omega⟩, _, .inl hs, ?_⟩
      rw [List.length_map]
      have c48 : ∀ x : Int, CMul x 48271 := fun x => .inr ⟨by decide, by decide⟩
      have c40 : ∀ x : Int, CMul x 40692 := fun x => .inr ⟨by decide, by decide⟩
      by_cases c0 : (0 : Int) < (ns.length : Int)
      · rw [if_pos (decide_eq_true c0)]
        refine ⟨_, .inl hs, ?_⟩
        rw [List.length_map]
        refine ⟨c0, ?_⟩
        have b1 := Int.emod_nonneg i (show (ns.length : Int) ≠ 0 by omega)
        have b2 := Int.emod_lt_of_pos i c0
        obtain ⟨j, hj'⟩ : ∃ j : Nat, i % (ns.length : Int) = (j : Int) := ⟨(i % (ns.length : Int)).toNat, by omega⟩
        rw [hj'] at b2 ⊢
        have hj : j < ns.length := by omega
        exact ⟨a, _, _, .int ns[j], rfl, rfl, hs, atI_nat (by rw [List.getElem?_map, List.getElem?_eq_getElem hj]; rfl), _, rfl, by decide, c48 _, by decide, c40 _, by decide, hm, fin _⟩
      · rw [if_neg (by simpa using c0)]
        exact ⟨c48 _, by decide, c40 _, by decide, hm, fin _⟩
noncomputable def ix4 (i : Nat) : Nat := [0, 0, 0, 1, 1, 2, 3, 3].getD i 0
theorem kinds_at {x : Nat → Bool} {i : Nat} (hi : i < 8) (hx : ∀ j, 2 ≤ j → j ≤ 14 → x j = decide (j = cl i)) : kinds x = (List.replicate 13 false ++ [true]).set (ix4 i) true := by
  unfold kinds
  rw [hx 6 (by decide) (by decide), hx 7 (by decide) (by decide), hx 8 (by decide) (by decide), hx 14 (by decide) (by decide), hx 12 (by decide) (by decide), hx 2 (by decide) (by decide), hx 5 (by decide) (by decide), hx 13 (by decide) (by decide), hx 9 (by decide) (by decide), hx 10 (by decide) (by decide), hx 3 (by decide) (by decide), hx 11 (by decide) (by decide), hx 4 (by decide) (by decide)]
  rcases (by omega : i = 0 ∨ i = 1 ∨ i = 2 ∨ i = 3 ∨ i = 4 ∨ i = 5 ∨ i = 6 ∨ i = 7) with rfl | rfl | rfl | rfl | rfl | rfl | rfl | rfl <;> decide
theorem ix_at {i : Nat} (hi : i < 8) : atI [V.int 0, V.int 0, V.int 0, V.int 1, V.int 1, V.int 2, V.int 3, V.int 3] (i : Int) = some (V.int (ix4 i : Nat)) ∧ ix4 i < 14 := by
  rcases (by omega : i = 0 ∨ i = 1 ∨ i = 2 ∨ i = 3 ∨ i = 4 ∨ i = 5 ∨ i = 6 ∨ i = 7) with rfl | rfl | rfl | rfl | rfl | rfl | rfl | rfl <;> exact ⟨atI_nat rfl, by decide⟩
noncomputable def sp_law (K : PySem.W.Frag) : Sp := fun vs H Q _ => ∃ (a : Addr) (ns : List Int), vs = [.ref a] ∧ SqL K H a (ns.map V.int) ∧ ns.length ≤ 63 ∧ ∀ H', Q (.bl true) H'
theorem ok_law (T : Txt K mg f fd) : FnOk P w K mg base CX0 9 (f 72) (fd 72) ["_law_script"] (sp_law K) := by
  refine T.d_law.F.ok sc_law (fun vs H Q E h => ?_) (fun cdv A outer s H vs Q E hr h => ?_)
  · obtain ⟨a, ns, rfl, _⟩ := h
    rfl
  · obtain ⟨a, ns, rfl, hs, hns, k⟩ := h
    refine ⟨_, (pss_cons (psl 1 sc_law.nd (pe_defL T.d_l_draw (ok_l_draw T) (hr.mono (by decide)) rfl (by decide) rfl (pal rfl (pvl 0) (pal rfl pe_int (pal rfl pe_int pa_nil)))))
     (pss_cons (ps_for PassesOwn.never rfl (pi_range1 rfl T.n_range (pal rfl pe_int pa_nil)) (pgl 2 sc_law.nd)
     (pss_cons (psl 3 sc_law.nd (pe_op op_mod (pe_op op_add (pvl 1) (pvl 2)) pe_int))
     (pss_cons (psl 4 sc_law.nd (pe_op op_cat (pe_op op_rep (pe_lst (pal rfl pe_bl pa_nil)) pe_int) (pe_lst (pal rfl pe_bl pa_nil))))
     (pss_cons (ps_asg pe_bl (pg_sub (pvl 4) (pe_ix (k_ixL rfl) (pe_lst (pal rfl pe_int (pal rfl pe_int (pal rfl pe_int (pal rfl pe_int (pal rfl pe_int (pal rfl pe_int (pal rfl pe_int (pal rfl pe_int pa_nil))))))))) (pvl 3) (fun _ _ => rfl)) set_list))
     (pss_one (ps_if (pt_cmpR (k_neD rfl hr.units) (pe_defL T.d_l_told (ok_l_told T) (hr.mono (by decide)) rfl (by decide) rfl (pal rfl (pvl 3) (pal rfl (pe_defL T.d_l_draw (ok_l_draw T) (hr.mono (by decide)) rfl (by decide) rfl (pal rfl (pvl 0) (pal rfl (pe_op op_add pe_int (pvl 2)) (pal rfl (pe_op op_pow pe_int pe_int) pa_nil)))) (pal rfl (pe_op op_add pe_int (pe_defL T.d_l_draw (ok_l_draw T) (hr.mono (by decide)) rfl (by decide) rfl (pal rfl (pvl 0) (pal rfl (pe_op op_add pe_int (pvl 2)) (pal rfl pe_int pa_nil))))) pa_nil)))) (pvl 4) (nomark _))
     (pss_one (ps_ret pe_bl))
     pss_nil))))))
     (pss_one (ps_ret pe_bl)))), ?_⟩
    walk_at "dl"
    refine ⟨a, ns, _, _, rfl, hs, by decide, by decide, by decide, fun d d0 d1 => ?_⟩
    refine for_in ?_
    walk_at "dl"
    refine ⟨by decide, by decide, ?_⟩
    rw [show Int.toNat 8 = 8 from rfl]
    refine ForW.of walk_range (fun j σ H' => (∃ v2 v3 v4, σ = [some (V.ref a), some (V.int d), v2, v3, v4]) ∧ Same H H') ⟨⟨none, none, none, rfl⟩, Same.refl _⟩ (fun _ _ _ _ _ => trivial) ?_ ?_
    · rintro j x σ H2 hx ⟨⟨v2, v3, v4, rfl⟩, s2⟩
      obtain ⟨hj, rfl⟩ := range_item hx
      have m0 := Int.emod_nonneg (d + (0 + (j : Int))) (show (8 : Int) ≠ 0 by decide)
      have m1 := Int.emod_lt_of_pos (d + (0 + (j : Int))) (show (0 : Int) < 8 by decide)
      obtain ⟨i, ei⟩ : ∃ i : Nat, (d + (0 + (j : Int))) % 8 = (i : Int) := ⟨((d + (0 + (j : Int))) % 8).toNat, by omega⟩
      rw [ei] at m1
      generalize hB : tSeq (tAsg _ (gSub _ _ _)) _ = B
      walk_at "dl"
      rw [ei]
      refine ⟨small_line (by decide), fun p hp => ⟨p, 13, [V.bl false], rfl, rfl, upd_same, by decide, by decide, small_line (by decide), fun r hr => ⟨small_line (by decide), fun p1 hp1 => ⟨r, p1, _, _, rfl, rfl, Same.upd_new hp1 _ _ _ upd_same, upd_same, small_line (by decide), fun p2 hp2 => ?_⟩⟩⟩⟩
      dsimp only
      have s3 := ((((s2.new hp (HO.lst [V.bl false])).new hr (HO.lst (List.replicate (Int.toNat 13) [V.bl false]).flatten)).new hp1 (HO.lst [V.bl true])).new hp2 (HO.lst ((List.replicate (Int.toNat 13) [V.bl false]).flatten ++ [V.bl true])))
      have f2 : H p2 = none := (((s2.new hp (HO.lst [V.bl false])).new hr (HO.lst (List.replicate (Int.toNat 13) [V.bl false]).flatten)).new hp1 (HO.lst [V.bl true])).free hp2
      have g3 : upd (upd (upd (upd H2 p (HO.lst [V.bl false])) r (HO.lst (List.replicate (Int.toNat 13) [V.bl false]).flatten)) p1 (HO.lst [V.bl true])) p2 (HO.lst ((List.replicate (Int.toNat 13) [V.bl false]).flatten ++ [V.bl true])) p2 = some (.lst ((List.replicate 13 false ++ [true]).map V.bl)) := upd_same
      generalize upd (upd (upd (upd H2 p (HO.lst [V.bl false])) r (HO.lst (List.replicate (Int.toNat 13) [V.bl false]).flatten)) p1 (HO.lst [V.bl true])) p2 (HO.lst ((List.replicate (Int.toNat 13) [V.bl false]).flatten ++ [V.bl true])) = H3 at *
      subst hB
      walk_at "dl"
      refine ⟨small_line (by decide), fun p5 hp5 => ?_⟩
      have w5 := Same.upd_new hp5 (HO.lst [V.int 0, V.int 0, V.int 0, V.int 1, V.int 1, V.int 2, V.int 3, V.int 3])
      have s5 := s3.trans w5
      have g5 : upd H3 p5 (HO.lst [V.int 0, V.int 0, V.int 0, V.int 1, V.int 1, V.int 2, V.int 3, V.int 3]) p5 = some (.lst [V.int 0, V.int 0, V.int 0, V.int 1, V.int 1, V.int 2, V.int 3, V.int 3]) := upd_same
      have g35 := w5 _ _ g3
      generalize upd H3 p5 (HO.lst [V.int 0, V.int 0, V.int 0, V.int 1, V.int 1, V.int 2, V.int 3, V.int 3]) = H5 at *
      have hi : i < 8 := by omega
      obtain ⟨ia, il⟩ := ix_at hi
      refine ⟨p5, _, _, _, rfl, rfl, .of g5, ia, p2, _, _, ix4 i, rfl, rfl, g35, ixN_nat (by simpa using il), ?_⟩
      rw [← List.map_set]
      have s6 := s5.set f2 (HO.lst (((List.replicate 13 false ++ [true]).set (ix4 i) true).map V.bl))
      have g6 : upd H5 p2 (HO.lst (((List.replicate 13 false ++ [true]).set (ix4 i) true).map V.bl)) p2 = some (.lst (((List.replicate 13 false ++ [true]).set (ix4 i) true).map V.bl)) := upd_same
      generalize upd H5 p2 (HO.lst (((List.replicate 13 false ++ [true]).set (ix4 i) true).map V.bl)) = H6 at *
      refine ⟨⟨by decide, by decide, by decide⟩, a, ns, _, _, rfl, s6.seq hs, by omega, by omega, by decide, fun n n0 n1 => ⟨a, ns, _, _, rfl, s6.seq hs, by omega, by omega, by decide, fun e e0 e1 => ⟨e, rfl, ?_⟩⟩⟩
      obtain ⟨sz, ez⟩ : ∃ sz : Nat, 2 + e = (sz : Int) := ⟨(2 + e).toNat, by omega⟩
      rw [ez]
      refine ⟨i, n, sz, rfl, hi, n0, by omega, by omega, fun H7 p7 x s7 h7 hx => ?_⟩
      rw [kinds_at hi hx] at h7
      refine boolsEq_of h7 (s7 _ _ g6) ⟨_, rfl, ?_⟩
      rw [if_neg (by decide)]
      exact ⟨⟨_, rfl⟩, s6.trans s7⟩
    · rintro σ H2 ⟨⟨v2, v3, v4, rfl⟩, s2⟩
      walk_at "dl"
      exact k _
end
theorem walk {l : PySem.W.OpenLaw} {q : Program} {loose : List Str} {XP : (Str → Option Value) → Heap → Prop} {YP : World → Heap → Prop} {d : DefRec} {K : Params → PySem.W.Frag} (hn : l.most = some 63) (hdf : d.params.defaults = [])
    (hY : ∀ (w : World) (h : Heap), YP w h → (K w.params).In h)
    (F : ∀ (w : World) (mg : Str → Option Value) (fa : Addr) (h : Heap), (K w.params).In h → h.Ns mainGlobals mg → mg d.name = some (.ref fa) →
      ∃ fd : FuncData, (∀ (s : Shared) (u : Value), BindsTo s fd ⟨[u], []⟩ [("_law_script", u)]) ∧ ∀ base : Heap, (K w.params).In base → base.Ns mainGlobals mg → FnOk l.prog w (K w.params) mg base CX0 9 fa fd ["_law_script"] (sp_law (K w.params))) :
    PySem.W.WalkO q loose XP YP l.row.toRowW d [] (fun f vs => PySem.call f vs) :=
  L2.walk_of (n := 63) (k := 9) (x := "_law_script") (CX := fun _ => CX0) (sp := fun w => sp_law (K w.params)) hn (by decide) hdf ⟨rfl, by decide, by decide⟩ hY F (fun _ _ a ns hl _ hS => ⟨a, ns, rfl, hS, hl, fun _ => rfl⟩) fun _ _ _ _ _ z => z
theorem all_mk {l : PySem.W.OpenLaw} {w : World} {K : PySem.W.Frag} {h : Heap} {mg : Str → Option Value} {fa : Addr} (X : K.In h) (G : h.Ns mainGlobals mg) (hfa : mg "law" = some (.ref fa)) (T : ∃ f fd, Txt K mg f fd ∧ f 72 = f 72 ∧ ∃ kV dc pm an cd ct, fd 72 = PySem.W.fnOf "law" "law" (defArgs s_law) (defBody s_law) (defScope s_law) .none kV dc pm an cd ct) :
    ∃ fd : FuncData, (∀ (s : Shared) (v : Value), BindsTo s fd ⟨[v], []⟩ [("_law_script", v)]) ∧ ∀ base : Heap, K.In base → base.Ns mainGlobals mg → FnOk l.prog w K mg base CX0 9 fa fd ["_law_script"] (sp_law K) := by
  obtain ⟨f, fd, T, _, kV, dc, pm, an, cd, ct, e⟩ := T
  have e2 := hfa.symm.trans T.d_law.m
  cases e2
  exact ⟨fd 72, fun s v => by rw [e]; exact .of_eq rfl, fun base _ _ => ok_law T⟩
end NS
namespace PySem.W.Fast
noncomputable def tw1081008694116497536 : Nat := 0
noncomputable def tw15655781278884445312 : Nat := 0
noncomputable def tw1910178405829239072 : Nat := 0
noncomputable def tw8384086579686677984 : Nat := 0
noncomputable def tw6981341692488367616 : Nat := 0
noncomputable def tw14918798754533871232 : Nat := 0
noncomputable def tw562697458463948608 : Nat := 0
noncomputable def tw14513417235458497440 : Nat := 0
noncomputable def tw2486593976035599361 : Nat := 0
noncomputable def tw4148522186864788609 : Nat := 0
noncomputable def tw14525468687568829633 : Nat := 0
noncomputable def tw14368629702427244801 : Nat := 0
noncomputable def tw16577543702880899393 : Nat := 0
noncomputable def tw9541065203539275105 : Nat := 0
noncomputable def tw7103096544762372481 : Nat := 0
noncomputable def tw170229140759651873 : Nat := 0
noncomputable def tw15622108204380502785 : Nat := 0
noncomputable def tw565648315471846145 : Nat := 0
noncomputable def tw17884693462869283617 : Nat := 0
noncomputable def tw5459019923029345089 : Nat := 0
noncomputable def tw3206507757139323777 : Nat := 0
noncomputable def tw4537561321892778082 : Nat := 0
noncomputable def tw1507674809828824162 : Nat := 0
noncomputable def tw12737485714521761986 : Nat := 0
noncomputable def tw12372876303745982690 : Nat := 0
noncomputable def tw17109641199885446402 : Nat := 0
noncomputable def tw1237715881049056674 : Nat := 0
noncomputable def tw7164000927875585506 : Nat := 0
noncomputable def tw1239917263607266946 : Nat := 0
noncomputable def tw17000864612552725186 : Nat := 0
noncomputable def tw17709602718982519554 : Nat := 0
noncomputable def tw9816810790304230178 : Nat := 0
noncomputable def tw11977807479868261218 : Nat := 0
noncomputable def tw1309504165656067010 : Nat := 0
noncomputable def tw13186142704264364067 : Nat := 0
noncomputable def tw16632458228530279651 : Nat := 0
noncomputable def tw13847971610156721571 : Nat := 0
noncomputable def tw5720900282645510627 : Nat := 0
noncomputable def tw3211575584401972739 : Nat := 0
noncomputable def tw18226328186456205891 : Nat := 0
noncomputable def tw4740181589258609828 : Nat := 0
noncomputable def tw11205095042366053668 : Nat := 0
noncomputable def tw11065923328379676036 : Nat := 0
noncomputable def tw7049410325424089508 : Nat := 0
noncomputable def tw2929761612946155940 : Nat := 0
noncomputable def tw3989316951868554660 : Nat := 0
noncomputable def tw14516172734567430596 : Nat := 0
noncomputable def tw7737698668203288068 : Nat := 0
noncomputable def tw925409145047723556 : Nat := 0
noncomputable def tw14134708025877181988 : Nat := 0
noncomputable def tw14852642011473885732 : Nat := 0
noncomputable def tw13150002387979020868 : Nat := 0
noncomputable def tw6890567785737971268 : Nat := 0
noncomputable def tw3773699717913856804 : Nat := 0
noncomputable def tw10923517155556984676 : Nat := 0
noncomputable def tw13143305820050344836 : Nat := 0
noncomputable def tw11830591556765736868 : Nat := 0
noncomputable def tw2185365588708101092 : Nat := 0
noncomputable def tw1626042680610234340 : Nat := 0
noncomputable def tw13059459735456394212 : Nat := 0
noncomputable def tw11859827404340141253 : Nat := 0
noncomputable def tw419704124159605957 : Nat := 0
noncomputable def tw16404480410241862885 : Nat := 0
noncomputable def tw7826120206797236453 : Nat := 0
noncomputable def tw15068742886893655365 : Nat := 0
noncomputable def tw8627753609401766245 : Nat := 0
noncomputable def tw6474913149755393413 : Nat := 0
noncomputable def tw14877215961695830469 : Nat := 0
noncomputable def tw11853953458793968069 : Nat := 0
noncomputable def tw17340897081989574117 : Nat := 0
noncomputable def tw6863463600149297701 : Nat := 0
noncomputable def tw5231643050813478469 : Nat := 0
noncomputable def tw6915476323348518533 : Nat := 0
noncomputable def tw11963445668304548549 : Nat := 0
noncomputable def tw9183350613499597669 : Nat := 0
noncomputable def tw8512535526931181445 : Nat := 0
noncomputable def tw10399103494897930149 : Nat := 0
noncomputable def tw4356839006180593670 : Nat := 0
noncomputable def tw13454236211475521766 : Nat := 0
noncomputable def tw14047672670177642758 : Nat := 0
noncomputable def tw7491173984212565254 : Nat := 0
noncomputable def tw18043383624414970182 : Nat := 0
noncomputable def tw14859064656661803366 : Nat := 0
noncomputable def tw2352622074997622150 : Nat := 0
noncomputable def tw1431740915906295238 : Nat := 0
noncomputable def tw12728787462861063654 : Nat := 0
noncomputable def tw3662329330983078534 : Nat := 0
noncomputable def tw9021955924087112358 : Nat := 0
noncomputable def tw9617249466649028294 : Nat := 0
noncomputable def tw9459002854740851398 : Nat := 0
noncomputable def tw10475643620449062919 : Nat := 0
noncomputable def tw7688164633114770471 : Nat := 0
noncomputable def tw4346997228663871591 : Nat := 0
noncomputable def tw4775814726469039303 : Nat := 0
noncomputable def tw11401880776820248903 : Nat := 0
noncomputable def tw1728819543542503879 : Nat := 0
noncomputable def tw730509834985204199 : Nat := 0
noncomputable def tw9636638798034674247 : Nat := 0
noncomputable def tw8138208775441231431 : Nat := 0
noncomputable def tw10901548418016905831 : Nat := 0
noncomputable def tw15956671341369731719 : Nat := 0
noncomputable def tw8412818046517567111 : Nat := 0
noncomputable def tw7013490635552496295 : Nat := 0
noncomputable def tw9874192423122089735 : Nat := 0
noncomputable def tw9404045784213803112 : Nat := 0
noncomputable def tw17145799124681283688 : Nat := 0
noncomputable def tw13414973989124690120 : Nat := 0
noncomputable def tw3363028078226563336 : Nat := 0
noncomputable def tw13986388472488547624 : Nat := 0
noncomputable def tw2300861402574136616 : Nat := 0
noncomputable def tw9754612042832190120 : Nat := 0
noncomputable def tw13945247884654033576 : Nat := 0
noncomputable def tw14094404729135084264 : Nat := 0
noncomputable def tw5691211424197834889 : Nat := 0
noncomputable def tw1428705043133933705 : Nat := 0
noncomputable def tw15679574244791102729 : Nat := 0
noncomputable def tw11833458840219763017 : Nat := 0
noncomputable def tw1136869167937802633 : Nat := 0
noncomputable def tw6050469079699370633 : Nat := 0
noncomputable def tw2763678538227922601 : Nat := 0
noncomputable def tw13629121161961048777 : Nat := 0
noncomputable def tw13759497092922709737 : Nat := 0
noncomputable def tw14504685158221151977 : Nat := 0
noncomputable def tw4134614899689295721 : Nat := 0
noncomputable def tw14768058959607766953 : Nat := 0
noncomputable def tw6716443980928618506 : Nat := 0
noncomputable def tw2833180834518221930 : Nat := 0
noncomputable def tw983528921983778986 : Nat := 0
noncomputable def tw10318608384151456938 : Nat := 0
noncomputable def tw3227719407631914154 : Nat := 0
noncomputable def tw3918120877586520362 : Nat := 0
noncomputable def tw2567655267373169002 : Nat := 0
noncomputable def tw8239937137568611690 : Nat := 0
noncomputable def tw6084926403820715402 : Nat := 0
noncomputable def tw7500125787502433834 : Nat := 0
noncomputable def tw13587086492668620394 : Nat := 0
noncomputable def tw10795790340053624458 : Nat := 0
noncomputable def tw1599622241003584170 : Nat := 0
noncomputable def tw143023174112795338 : Nat := 0
noncomputable def tw1822936863377305354 : Nat := 0
noncomputable def tw16781114085148300202 : Nat := 0
noncomputable def tw1703498920286301547 : Nat := 0
noncomputable def tw9927204366331651467 : Nat := 0
noncomputable def tw15048963751493236203 : Nat := 0
noncomputable def tw9923861962580778475 : Nat := 0
noncomputable def tw15829357209894090347 : Nat := 0
noncomputable def tw11716851939526824555 : Nat := 0
noncomputable def tw16135213617754792747 : Nat := 0
noncomputable def tw17148653748289726315 : Nat := 0
noncomputable def tw2679046873490028459 : Nat := 0
noncomputable def tw978946713110054859 : Nat := 0
noncomputable def tw17921896597567706059 : Nat := 0
noncomputable def tw4501283436047181803 : Nat := 0
noncomputable def tw13816473540003818604 : Nat := 0
noncomputable def tw18178440854589408396 : Nat := 0
noncomputable def tw12742667891204750508 : Nat := 0
noncomputable def tw15355913448311591180 : Nat := 0
noncomputable def tw584716601152491820 : Nat := 0
noncomputable def tw11014117119750231468 : Nat := 0
noncomputable def tw8516557727261566412 : Nat := 0
noncomputable def tw845026790704271852 : Nat := 0
noncomputable def tw5980262338010307116 : Nat := 0
noncomputable def tw2130390566454344332 : Nat := 0
noncomputable def tw15249489354758967052 : Nat := 0
noncomputable def tw1553924980031574860 : Nat := 0
noncomputable def tw11233715120787924844 : Nat := 0
noncomputable def tw15508861261842788268 : Nat := 0
noncomputable def tw16751300723286466540 : Nat := 0
noncomputable def tw9487507521006404653 : Nat := 0
noncomputable def tw2566706742037303437 : Nat := 0
noncomputable def tw16827902046205718701 : Nat := 0
noncomputable def tw11317944298843104493 : Nat := 0
noncomputable def tw6469847642173263149 : Nat := 0
noncomputable def tw2698344165664024909 : Nat := 0
noncomputable def tw16125376923049313709 : Nat := 0
noncomputable def tw16735278180848614925 : Nat := 0
noncomputable def tw596792611779220045 : Nat := 0
noncomputable def tw8662520685800646413 : Nat := 0
noncomputable def tw15560908168135489325 : Nat := 0
noncomputable def tw7122165344101873678 : Nat := 0
noncomputable def tw1964460155031071790 : Nat := 0
noncomputable def tw4823429350805692494 : Nat := 0
noncomputable def tw6215628034221142158 : Nat := 0
noncomputable def tw11891865050799093998 : Nat := 0
noncomputable def tw4808636934672936302 : Nat := 0
noncomputable def tw579384289819295342 : Nat := 0
noncomputable def tw698267319042279214 : Nat := 0
noncomputable def tw7397460233434924878 : Nat := 0
noncomputable def tw17840977543274211214 : Nat := 0
noncomputable def tw17682534896974945262 : Nat := 0
noncomputable def tw551389526827705359 : Nat := 0
noncomputable def tw5083270932360577135 : Nat := 0
noncomputable def tw247367076987875471 : Nat := 0
noncomputable def tw4728855666697829615 : Nat := 0
noncomputable def tw10410553111129684239 : Nat := 0
noncomputable def tw1035370155614194031 : Nat := 0
noncomputable def tw11530269980145135055 : Nat := 0
noncomputable def tw1794750012634199695 : Nat := 0
noncomputable def tw6637708377075268335 : Nat := 0
noncomputable def tw8086685891307466575 : Nat := 0
noncomputable def tw2465530138643527503 : Nat := 0
noncomputable def tw17085945845721952111 : Nat := 0
noncomputable def tw14460660502301885391 : Nat := 0
noncomputable def tw3259030736497656815 : Nat := 0
noncomputable def tw7600551094228106223 : Nat := 0
noncomputable def tw8588234712494829584 : Nat := 0
noncomputable def tw8956851494816550928 : Nat := 0
noncomputable def tw1671833849713061936 : Nat := 0
noncomputable def tw17480865527089064304 : Nat := 0
noncomputable def tw10709206419885760944 : Nat := 0
noncomputable def tw1610450134828453392 : Nat := 0
noncomputable def tw9491976557316276752 : Nat := 0
noncomputable def tw327898337146272272 : Nat := 0
noncomputable def tw10831815142692004400 : Nat := 0
noncomputable def tw1171080013050259152 : Nat := 0
noncomputable def tw9820832816111202000 : Nat := 0
noncomputable def tw4068442224556988176 : Nat := 0
noncomputable def tw16786338238173604624 : Nat := 0
noncomputable def tw12938187850084643664 : Nat := 0
noncomputable def tw9640592333304749904 : Nat := 0
noncomputable def tw18420882960830111600 : Nat := 0
noncomputable def tw5417325963700770704 : Nat := 0
noncomputable def tw4628610956924316560 : Nat := 0
noncomputable def tw18261049890644969392 : Nat := 0
noncomputable def tw14990300293681498064 : Nat := 0
noncomputable def tw15022686085106405457 : Nat := 0
noncomputable def tw1368655184060626001 : Nat := 0
noncomputable def tw4640530050926794897 : Nat := 0
noncomputable def tw6390536809868799153 : Nat := 0
noncomputable def tw17247399381188675793 : Nat := 0
noncomputable def tw12955990394890697969 : Nat := 0
noncomputable def tw2938787294755380625 : Nat := 0
noncomputable def tw1261047146043716049 : Nat := 0
noncomputable def tw17505840837978329585 : Nat := 0
noncomputable def tw9295026349772021297 : Nat := 0
noncomputable def tw13193893276527128209 : Nat := 0
noncomputable def tw17587781088715801297 : Nat := 0
noncomputable def tw8362310894373631793 : Nat := 0
noncomputable def tw9041704458351952785 : Nat := 0
noncomputable def tw6728520283331991505 : Nat := 0
noncomputable def tw13431670534148546610 : Nat := 0
noncomputable def tw11500508507848333394 : Nat := 0
noncomputable def tw7632188850140735570 : Nat := 0
noncomputable def tw5533286863164338418 : Nat := 0
noncomputable def tw1678562981952162162 : Nat := 0
noncomputable def tw15488879558660110738 : Nat := 0
noncomputable def tw16740018886987441554 : Nat := 0
noncomputable def tw16938918439877669330 : Nat := 0
noncomputable def tw11449354340717050386 : Nat := 0
noncomputable def tw7120546027524855698 : Nat := 0
noncomputable def tw5698616774253902770 : Nat := 0
noncomputable def tw7638117920578809810 : Nat := 0
noncomputable def tw9665846538124686322 : Nat := 0
noncomputable def tw150223643602068563 : Nat := 0
noncomputable def tw9292485037105087731 : Nat := 0
noncomputable def tw10598324683767459059 : Nat := 0
noncomputable def tw6259707337930893715 : Nat := 0
noncomputable def tw6620001856052766195 : Nat := 0
noncomputable def tw14436550133383037459 : Nat := 0
noncomputable def tw11140729999357949459 : Nat := 0
noncomputable def tw4590548853193144947 : Nat := 0
noncomputable def tw1402707513270146739 : Nat := 0
noncomputable def tw6816268034182342323 : Nat := 0
noncomputable def tw18094401895912005331 : Nat := 0
noncomputable def tw13304927634466071251 : Nat := 0
noncomputable def tw1355385910129817427 : Nat := 0
noncomputable def tw1478530748487814035 : Nat := 0
noncomputable def tw6923193922609686483 : Nat := 0
noncomputable def tw5894207639326754900 : Nat := 0
noncomputable def tw5999844969086583924 : Nat := 0
noncomputable def tw10637956129235001460 : Nat := 0
noncomputable def tw9028592884953927988 : Nat := 0
noncomputable def tw16885328305372672404 : Nat := 0
noncomputable def tw1336375389964703348 : Nat := 0
noncomputable def tw6524796791343323860 : Nat := 0
noncomputable def tw13300187928814647156 : Nat := 0
noncomputable def tw762312811129366388 : Nat := 0
noncomputable def tw17664078425332142996 : Nat := 0
noncomputable def tw11425180511587443733 : Nat := 0
noncomputable def tw8350137684814298133 : Nat := 0
noncomputable def tw2975776434295919669 : Nat := 0
noncomputable def tw785395874900216917 : Nat := 0
noncomputable def tw13618637851074394325 : Nat := 0
noncomputable def tw1655307728613322005 : Nat := 0
noncomputable def tw17875557073917374837 : Nat := 0
noncomputable def tw10536229419157041557 : Nat := 0
noncomputable def tw6686360534687606165 : Nat := 0
noncomputable def tw7775544280575450613 : Nat := 0
noncomputable def tw7136210318215687733 : Nat := 0
noncomputable def tw14142789093505460821 : Nat := 0
noncomputable def tw4006856143787740821 : Nat := 0
noncomputable def tw16628764559346116437 : Nat := 0
noncomputable def tw7231014317796109173 : Nat := 0
noncomputable def tw10951659199373683926 : Nat := 0
noncomputable def tw18404499735071636726 : Nat := 0
noncomputable def tw17399505867368798454 : Nat := 0
noncomputable def tw16611540438825679222 : Nat := 0
noncomputable def tw9979246273489824342 : Nat := 0
noncomputable def tw7365192167100716662 : Nat := 0
noncomputable def tw6426577140004572950 : Nat := 0
noncomputable def tw9631731018497684310 : Nat := 0
noncomputable def tw15678891100239001430 : Nat := 0
noncomputable def tw4072652051693337462 : Nat := 0
noncomputable def tw15061093320061260790 : Nat := 0
noncomputable def tw5270923349417562167 : Nat := 0
noncomputable def tw13205845141182988471 : Nat := 0
noncomputable def tw9001045724094589143 : Nat := 0
noncomputable def tw1223464386675191063 : Nat := 0
noncomputable def tw10361615837930127735 : Nat := 0
noncomputable def tw5883609712250399127 : Nat := 0
noncomputable def tw12355519762957854231 : Nat := 0
noncomputable def tw17635055216906271543 : Nat := 0
noncomputable def tw1394002402654963543 : Nat := 0
noncomputable def tw8026334627532956503 : Nat := 0
noncomputable def tw10862375283496661112 : Nat := 0
noncomputable def tw14774776020620505208 : Nat := 0
noncomputable def tw11597980808560196760 : Nat := 0
noncomputable def tw15132701710450409656 : Nat := 0
noncomputable def tw68789260585310456 : Nat := 0
noncomputable def tw4337067090596452696 : Nat := 0
noncomputable def tw17841325602140243320 : Nat := 0
noncomputable def tw12896933413636672152 : Nat := 0
noncomputable def tw6219490667684479672 : Nat := 0
noncomputable def tw4144775338743759576 : Nat := 0
noncomputable def tw5714577136868761368 : Nat := 0
noncomputable def tw14272488637207605048 : Nat := 0
noncomputable def tw7160911862706130808 : Nat := 0
noncomputable def tw10839397356690574361 : Nat := 0
noncomputable def tw9209071236307133497 : Nat := 0
noncomputable def tw9483901651314200697 : Nat := 0
noncomputable def tw10449716221406617849 : Nat := 0
noncomputable def tw7663185806710108473 : Nat := 0
noncomputable def tw11557308945886783865 : Nat := 0
noncomputable def tw933964215412298137 : Nat := 0
noncomputable def tw2555529808319948185 : Nat := 0
noncomputable def tw5514611775667928473 : Nat := 0
noncomputable def tw14427246761215956409 : Nat := 0
noncomputable def tw8562304014882354617 : Nat := 0
noncomputable def tw4360781177558443481 : Nat := 0
noncomputable def tw12477217653340624345 : Nat := 0
noncomputable def tw2007980156001842649 : Nat := 0
noncomputable def tw7253649939796467193 : Nat := 0
noncomputable def tw342298423565607449 : Nat := 0
noncomputable def tw10438168288224536121 : Nat := 0
noncomputable def tw1478922121648043609 : Nat := 0
noncomputable def tw6161388555131707161 : Nat := 0
noncomputable def tw1670845324622861113 : Nat := 0
noncomputable def tw17711264851095912249 : Nat := 0
noncomputable def tw6508345684080405337 : Nat := 0
noncomputable def tw14918967215194863513 : Nat := 0
noncomputable def tw3083232344677155769 : Nat := 0
noncomputable def tw18333339383226358874 : Nat := 0
noncomputable def tw2507037420780753274 : Nat := 0
noncomputable def tw9370423204498937210 : Nat := 0
noncomputable def tw380786525398171034 : Nat := 0
noncomputable def tw3747764359037773242 : Nat := 0
noncomputable def tw16396178985371630010 : Nat := 0
noncomputable def tw18246505843455890938 : Nat := 0
noncomputable def tw4889628361141044762 : Nat := 0
noncomputable def tw1872286358870109786 : Nat := 0
noncomputable def tw2248486484822825594 : Nat := 0
noncomputable def tw3367819540341374618 : Nat := 0
noncomputable def tw15076238947114861210 : Nat := 0
noncomputable def tw4777948082447117018 : Nat := 0
noncomputable def tw3581222109635866426 : Nat := 0
noncomputable def tw15377960547420659578 : Nat := 0
noncomputable def tw15247587771608815578 : Nat := 0
noncomputable def tw6931762508533900379 : Nat := 0
noncomputable def tw3753447659383152859 : Nat := 0
noncomputable def tw2665607010188535131 : Nat := 0
noncomputable def tw15215759156178240923 : Nat := 0
noncomputable def tw11452859004645502427 : Nat := 0
noncomputable def tw9025320808908202459 : Nat := 0
noncomputable def tw11757353535921510011 : Nat := 0
noncomputable def tw17683827346447379067 : Nat := 0
noncomputable def tw14504946694871054171 : Nat := 0
noncomputable def tw14013248942802045819 : Nat := 0
noncomputable def tw10172186997342001051 : Nat := 0
noncomputable def tw16417117932589288411 : Nat := 0
noncomputable def tw10568036072384798683 : Nat := 0
noncomputable def tw15061809784475346012 : Nat := 0
noncomputable def tw7185690092848954524 : Nat := 0
noncomputable def tw504953745599446204 : Nat := 0
noncomputable def tw5410144697673516284 : Nat := 0
noncomputable def tw18281626784623346940 : Nat := 0
noncomputable def tw3837502116115652060 : Nat := 0
noncomputable def tw292769881312576988 : Nat := 0
noncomputable def tw974546720530334300 : Nat := 0
noncomputable def tw18243817694811246204 : Nat := 0
noncomputable def tw819390997496842908 : Nat := 0
noncomputable def tw16452722214101387964 : Nat := 0
noncomputable def tw15102441215475943164 : Nat := 0
noncomputable def tw9381958662825335676 : Nat := 0
noncomputable def tw11954110028872422364 : Nat := 0
noncomputable def tw5471985239138248700 : Nat := 0
noncomputable def tw11129134462038307933 : Nat := 0
noncomputable def tw5201937689933148381 : Nat := 0
noncomputable def tw3133765421337292093 : Nat := 0
noncomputable def tw7874180237530348861 : Nat := 0
noncomputable def tw11129823213313241565 : Nat := 0
noncomputable def tw5138570071097041469 : Nat := 0
noncomputable def tw15888171578537237213 : Nat := 0
noncomputable def tw4620569973057151709 : Nat := 0
noncomputable def tw13128234858297219837 : Nat := 0
noncomputable def tw12543331252506756989 : Nat := 0
noncomputable def tw17207526258955832478 : Nat := 0
noncomputable def tw11469130194027211230 : Nat := 0
noncomputable def tw10490611654462072350 : Nat := 0
noncomputable def tw12709588288312455742 : Nat := 0
noncomputable def tw17818314765447165598 : Nat := 0
noncomputable def tw2250023007370808158 : Nat := 0
noncomputable def tw17208881067137905598 : Nat := 0
noncomputable def tw14416136961572268127 : Nat := 0
noncomputable def tw3255474615777878143 : Nat := 0
noncomputable def tw4740485102993382559 : Nat := 0
noncomputable def tw11145020098684234943 : Nat := 0
noncomputable def tw1428202644150849791 : Nat := 0
noncomputable def tw6715275492463141247 : Nat := 0
noncomputable def tw17267896606441795967 : Nat := 0
noncomputable def tw1663185150846955935 : Nat := 0
noncomputable def tw1964185089582607775 : Nat := 0
noncomputable def tw15475802867339764127 : Nat := 0
noncomputable def tw2662388724112239039 : Nat := 0
noncomputable def tw10715126329899818463 : Nat := 0
noncomputable def tw1703009158338538079 : Nat := 0
noncomputable def tw1053330997890926207 : Nat := 0
noncomputable def tw6903588730266033023 : Nat := 0
noncomputable def tw13776072265799704479 : Nat := 0
noncomputable def tw2173349679622772671 : Nat := 0
end PySem.W.Fast
open PySem PySem.W PyProof.Rows
set_option maxRecDepth 100000 in
set_option maxHeartbeats 0 in
theorem PySem.Challenge.cw_crosshall_k43_refusals_apart_holds : PySem.Challenge.rw_crosshall_k43_refusals_apart.Holds := by
  w_on; o_law; k_head; (case hw => w_witness2)
  k_fill
  refine NS.walk (l := PySem.Challenge.rw_crosshall_k43_refusals_apart) rfl rfl (fun w h Y => by first | exact PySem.W.kIn_of Y | exact PySem.W.km_in_of Y) ?F
  case F =>
    intro w mg fa h KX G hmg
    refine NS.all_mk KX G hmg ?_
    suffices TT : ∃ f fd, NS.Txt (L2.KOf KX) mg f fd ∧ f 72 = f 72 ∧ ∃ kV dc pm an cd ct, fd 72 = PySem.W.fnOf "law" "law" (L2.defArgs NS.s_law) (L2.defBody NS.s_law) (L2.defScope NS.s_law) .none kV dc pm an cd ct from TT
    dsimp only [L2.KOf]
    obtain ⟨f, fd, T, _, z⟩ : ∃ f fd, NS.Txt _ mg f fd ∧ f 72 = _ ∧ ∃ kV dc pm an cd ct, fd 72 = PySem.W.fnOf "law" "law" (L2.defArgs NS.s_law) (L2.defBody NS.s_law) (L2.defScope NS.s_law) .none kV dc pm an cd ct := by
      refine' NS.txt_mk KX G ?a1 ?a2 ?a3 ?a4 ?a5 ?a6 ?a7 ?a8 ?a9 ?a10 ?a11 ?a12 ?a13 ?a14 ?a23 ?a18 ?l18 ?c18 ?k18 ?a19 ?l19 ?c19 ?k19 ?a20 ?l20 ?c20 ?k20 ?a21 ?l21 ?c21 ?k21 ?a25 ?l25 ?c25 ?k25 ?a26 ?l26 ?c26 ?k26 ?a29 ?l29 ?c29 ?k29 ?a30 ?l30 ?c30 ?k30 ?a32 ?l32 ?c32 ?k32 ?a33 ?l33 ?c33 ?k33 ?a34 ?l34 ?c34 ?k34 ?a35 ?l35 ?c35 ?k35 ?a36 ?l36 ?c36 ?k36 ?a37 ?l37 ?c37 ?k37 ?a42 ?l42 ?c42 ?k42 ?a43 ?l43 ?c43 ?k43 ?a45 ?l45 ?c45 ?k45 ?a46 ?l46 ?c46 ?k46 ?a47 ?l47 ?c47 ?k47 ?a48 ?l48 ?c48 ?k48 ?a51 ?l51 ?c51 ?k51 ?a54 ?l54 ?c54 ?k54 ?a55 ?l55 ?c55 ?k55 ?a56 ?l56 ?c56 ?k56 ?a66 ?l66 ?c66 ?k66 ?a68 ?l68 ?c68 ?k68 ?a69 ?l69 ?c69 ?k69 ?a70 ?l70 ?c70 ?k70 ?a71 ?l71 ?c71 ?k71 ?a72 ?l72 ?c72 ?k72 ?a11000 ?l11000 ?c11000 ?k11000 ?b11000 ?a12000 ?l12000 ?c12000 ?k12000 ?b12000 ?a13000 ?l13000 ?c13000 ?k13000 ?b13000 ?a14000 ?l14000 ?c14000 ?k14000 ?b14000 ?a15000 ?l15000 ?c15000 ?k15000 ?b15000 ?a24000 ?l24000 ?c24000 ?k24000 ?b24000 ?a24001 ?l24001 ?c24001 ?k24001 ?b24001 ?a24002 ?l24002 ?c24002 ?k24002 ?b24002 ?x_CrossError_e ?x_CrossError_kp ?x_CrossError_ga ?x_CrossError_gh ?x_CrossError_ba ?x_CrossError_ob ?x_CrossError_hd ?x_CrossError_cl ?x_CrossError_cg ?x_CrossError_ct ?x_CrossError_sa ?x_NoNet_e ?x_NoNet_kp ?x_NoNet_ga ?x_NoNet_gh ?x_NoNet_ba ?x_NoNet_ob ?x_NoNet_hd ?x_NoNet_cl ?x_NoNet_cg ?x_NoNet_ct ?x_NoNet_sa ?x_NoWhole_e ?x_NoWhole_kp ?x_NoWhole_ga ?x_NoWhole_gh ?x_NoWhole_ba ?x_NoWhole_ob ?x_NoWhole_hd ?x_NoWhole_cl ?x_NoWhole_cg ?x_NoWhole_ct ?x_NoWhole_sa ?x_NoGroups_e ?x_NoGroups_kp ?x_NoGroups_ga ?x_NoGroups_gh ?x_NoGroups_ba ?x_NoGroups_ob ?x_NoGroups_hd ?x_NoGroups_cl ?x_NoGroups_cg ?x_NoGroups_ct ?x_NoGroups_sa ?x_NoVeil_e ?x_NoVeil_kp ?x_NoVeil_ga ?x_NoVeil_gh ?x_NoVeil_ba ?x_NoVeil_ob ?x_NoVeil_hd ?x_NoVeil_cl ?x_NoVeil_cg ?x_NoVeil_ct ?x_NoVeil_sa ?o_Stream_pg ?o_Stream_hd ?o_Stream_po ?o_Stream_sa ?o_Stream_ma ?o_Stream_kp ?v_na_NoRow_place ?v_na_NoSuch_number ?v_na_NoField_name ?v_na_NoKind_name ?v_na_NoVeil_cell ?v_na_Stream_arcs ?v_na_Stream_borne ?v_na_Stream_steps ?v_su_NoGroups_CrossError ?v_ki_NoGroups_CrossError ?v_ki_NoGroups_NoFields ?v_ki_NoGroups_NoSieve ?v_ki_NoGroups_NoView ?v_ki_NoGroups_NoHead ?v_ki_NoGroups_NoNet ?v_ki_NoGroups_NoWhole ?v_ki_NoGroups_NoGroups ?v_ki_NoGroups_NoLine ?v_ki_NoGroups_NoRow ?v_ki_NoGroups_NoSuch ?v_ki_NoGroups_NoField ?v_ki_NoGroups_NoKind ?v_ki_NoGroups_NoVeil ?v_kv_NoGroups ?v_su_NoNet_CrossError ?v_ki_NoNet_CrossError ?v_ki_NoNet_NoFields ?v_ki_NoNet_NoSieve ?v_ki_NoNet_NoView ?v_ki_NoNet_NoHead ?v_ki_NoNet_NoNet ?v_ki_NoNet_NoWhole ?v_ki_NoNet_NoGroups ?v_ki_NoNet_NoLine ?v_ki_NoNet_NoRow ?v_ki_NoNet_NoSuch ?v_ki_NoNet_NoField ?v_ki_NoNet_NoKind ?v_ki_NoNet_NoVeil ?v_kv_NoNet ?v_su_NoVeil_CrossError ?v_ki_NoVeil_CrossError ?v_ki_NoVeil_NoFields ?v_ki_NoVeil_NoSieve ?v_ki_NoVeil_NoView ?v_ki_NoVeil_NoHead ?v_ki_NoVeil_NoNet ?v_ki_NoVeil_NoWhole ?v_ki_NoVeil_NoGroups ?v_ki_NoVeil_NoLine ?v_ki_NoVeil_NoRow ?v_ki_NoVeil_NoSuch ?v_ki_NoVeil_NoField ?v_ki_NoVeil_NoKind ?v_ki_NoVeil_NoVeil ?v_kv_NoVeil ?v_su_NoWhole_CrossError ?v_ki_NoWhole_CrossError ?v_ki_NoWhole_NoFields ?v_ki_NoWhole_NoSieve ?v_ki_NoWhole_NoView ?v_ki_NoWhole_NoHead ?v_ki_NoWhole_NoNet ?v_ki_NoWhole_NoWhole ?v_ki_NoWhole_NoGroups ?v_ki_NoWhole_NoLine ?v_ki_NoWhole_NoRow ?v_ki_NoWhole_NoSuch ?v_ki_NoWhole_NoField ?v_ki_NoWhole_NoKind ?v_ki_NoWhole_NoVeil ?v_kv_NoWhole ?z_ValueError ?z_all ?z_enumerate ?z_isinstance ?z_len ?z_list ?z_min ?z_range ?z_set ?z_sorted ?z_sum ?z_zip ?y_MOST_NODES ?y_MOST_ARCS ?y_MOST_GROUPS
      (case a1 => k_is)
      (case a2 => k_is)
      (case a3 => k_is)
      (case a4 => k_is)
      (case a5 => k_is)
      (case a6 => k_is)
      (case a7 => k_is)
      (case a8 => k_is)
      (case a9 => k_is)
      (case a10 => k_is)
      (case a11 => k_is)
      (case a12 => k_is)
      (case a13 => k_is)
      (case a14 => k_is)
      (case a23 => k_is)
      (case a18 => k_is)
      (case l18 => k_is)
      (case c18 => k_is)
      (case k18 => k_is)
      (case a19 => k_is)
      (case l19 => k_is)
      (case c19 => k_is)
      (case k19 => k_is)
      (case a20 => k_is)
      (case l20 => k_is)
      (case c20 => k_is)
      (case k20 => k_is)
      (case a21 => k_is)
      (case l21 => k_is)
      (case c21 => k_is)
      (case k21 => k_is)
      (case a25 => k_is)
      (case l25 => k_is)
      (case c25 => k_is)
      (case k25 => k_is)
      (case a26 => k_is)
      (case l26 => k_is)
      (case c26 => k_is)
      (case k26 => k_is)
      (case a29 => k_is)
      (case l29 => k_is)
      (case c29 => k_is)
      (case k29 => k_is)
      (case a30 => k_is)
      (case l30 => k_is)
      (case c30 => k_is)
      (case k30 => k_is)
      (case a32 => k_is)
      (case l32 => k_is)
      (case c32 => k_is)
      (case k32 => k_is)
      (case a33 => k_is)
      (case l33 => k_is)
      (case c33 => k_is)
      (case k33 => k_is)
      (case a34 => k_is)
      (case l34 => k_is)
      (case c34 => k_is)
      (case k34 => k_is)
      (case a35 => k_is)
      (case l35 => k_is)
      (case c35 => k_is)
      (case k35 => k_is)
      (case a36 => k_is)
      (case l36 => k_is)
      (case c36 => k_is)
      (case k36 => k_is)
      (case a37 => k_is)
      (case l37 => k_is)
      (case c37 => k_is)
      (case k37 => k_is)
      (case a42 => k_is)
      (case l42 => k_is)
      (case c42 => k_is)
      (case k42 => k_is)
      (case a43 => k_is)
      (case l43 => k_is)
      (case c43 => k_is)
      (case k43 => k_is)
      (case a45 => k_is)
      (case l45 => k_is)
      (case c45 => k_is)
      (case k45 => k_is)
      (case a46 => k_is)
      (case l46 => k_is)
      (case c46 => k_is)
      (case k46 => k_is)
      (case a47 => k_is)
      (case l47 => k_is)
      (case c47 => k_is)
      (case k47 => k_is)
      (case a48 => k_is)
      (case l48 => k_is)
      (case c48 => k_is)
      (case k48 => k_is)
      (case a51 => k_is)
      (case l51 => k_is)
      (case c51 => k_is)
      (case k51 => k_is)
      (case a54 => k_is)
      (case l54 => k_is)
      (case c54 => k_is)
      (case k54 => k_is)
      (case a55 => k_is)
      (case l55 => k_is)
      (case c55 => k_is)
      (case k55 => k_is)
      (case a56 => k_is)
      (case l56 => k_is)
      (case c56 => k_is)
      (case k56 => k_is)
      (case a66 => k_is)
      (case l66 => k_is)
      (case c66 => k_is)
      (case k66 => k_is)
      (case a68 => k_is)
      (case l68 => k_is)
      (case c68 => k_is)
      (case k68 => k_is)
      (case a69 => k_is)
      (case l69 => k_is)
      (case c69 => k_is)
      (case k69 => k_is)
      (case a70 => k_is)
      (case l70 => k_is)
      (case c70 => k_is)
      (case k70 => k_is)
      (case a71 => k_is)
      (case l71 => k_is)
      (case c71 => k_is)
      (case k71 => k_is)
      (case a72 => k_is)
      (case l72 => k_is)
      (case c72 => k_is)
      (case k72 => k_is)
      (case a11000 => k_is)
      (case l11000 => k_is)
      (case c11000 => k_is)
      (case k11000 => k_is)
      (case b11000 => k_is)
      (case a12000 => k_is)
      (case l12000 => k_is)
      (case c12000 => k_is)
      (case k12000 => k_is)
      (case b12000 => k_is)
      (case a13000 => k_is)
      (case l13000 => k_is)
      (case c13000 => k_is)
      (case k13000 => k_is)
      (case b13000 => k_is)
      (case a14000 => k_is)
      (case l14000 => k_is)
      (case c14000 => k_is)
      (case k14000 => k_is)
      (case b14000 => k_is)
      (case a15000 => k_is)
      (case l15000 => k_is)
      (case c15000 => k_is)
      (case k15000 => k_is)
      (case b15000 => k_is)
      (case a24000 => k_is)
      (case l24000 => k_is)
      (case c24000 => k_is)
      (case k24000 => k_is)
      (case b24000 => k_is)
      (case a24001 => k_is)
      (case l24001 => k_is)
      (case c24001 => k_is)
      (case k24001 => k_is)
      (case b24001 => k_is)
      (case a24002 => k_is)
      (case l24002 => k_is)
      (case c24002 => k_is)
      (case k24002 => k_is)
      (case b24002 => k_is)
      (case x_CrossError_e => kernel_rfl)
      (case x_CrossError_kp => k_is)
      (case x_CrossError_ga => k_is)
      (case x_CrossError_gh => k_is)
      (case x_CrossError_ba => k_is)
      (case x_CrossError_ob => k_is)
      (case x_CrossError_hd => k_is)
      (case x_CrossError_cl => k_is)
      (case x_CrossError_cg => k_is)
      (case x_CrossError_ct => k_is)
      (case x_CrossError_sa => k_is)
      (case x_NoNet_e => kernel_rfl)
      (case x_NoNet_kp => k_is)
      (case x_NoNet_ga => k_is)
      (case x_NoNet_gh => k_is)
      (case x_NoNet_ba => k_is)
      (case x_NoNet_ob => k_is)
      (case x_NoNet_hd => k_is)
      (case x_NoNet_cl => k_is)
      (case x_NoNet_cg => k_is)
      (case x_NoNet_ct => k_is)
      (case x_NoNet_sa => k_is)
      (case x_NoWhole_e => kernel_rfl)
      (case x_NoWhole_kp => k_is)
      (case x_NoWhole_ga => k_is)
      (case x_NoWhole_gh => k_is)
      (case x_NoWhole_ba => k_is)
      (case x_NoWhole_ob => k_is)
      (case x_NoWhole_hd => k_is)
      (case x_NoWhole_cl => k_is)
      (case x_NoWhole_cg => k_is)
      (case x_NoWhole_ct => k_is)
      (case x_NoWhole_sa => k_is)
      (case x_NoGroups_e => kernel_rfl)
      (case x_NoGroups_kp => k_is)
      (case x_NoGroups_ga => k_is)
      (case x_NoGroups_gh => k_is)
      (case x_NoGroups_ba => k_is)
      (case x_NoGroups_ob => k_is)
      (case x_NoGroups_hd => k_is)
      (case x_NoGroups_cl => k_is)
      (case x_NoGroups_cg => k_is)
      (case x_NoGroups_ct => k_is)
      (case x_NoGroups_sa => k_is)
      (case x_NoVeil_e => kernel_rfl)
      (case x_NoVeil_kp => k_is)
      (case x_NoVeil_ga => k_is)
      (case x_NoVeil_gh => k_is)
      (case x_NoVeil_ba => k_is)
      (case x_NoVeil_ob => k_is)
      (case x_NoVeil_hd => k_is)
      (case x_NoVeil_cl => k_is)
      (case x_NoVeil_cg => k_is)
      (case x_NoVeil_ct => k_is)
      (case x_NoVeil_sa => k_is)
      (case o_Stream_pg => k_is)
      (case o_Stream_hd => k_is)
      (case o_Stream_po => k_is)
      (case o_Stream_sa => k_is)
      (case o_Stream_ma => k_is)
      (case o_Stream_kp => k_is)
      (case v_na_NoRow_place => k_is)
      (case v_na_NoSuch_number => k_is)
      (case v_na_NoField_name => k_is)
      (case v_na_NoKind_name => k_is)
      (case v_na_NoVeil_cell => k_is)
      (case v_na_Stream_arcs => k_is)
      (case v_na_Stream_borne => k_is)
      (case v_na_Stream_steps => k_is)
      (case v_su_NoGroups_CrossError => rfl)
      (case v_ki_NoGroups_CrossError => rfl)
      (case v_ki_NoGroups_NoFields => rfl)
      (case v_ki_NoGroups_NoSieve => rfl)
      (case v_ki_NoGroups_NoView => rfl)
      (case v_ki_NoGroups_NoHead => rfl)
      (case v_ki_NoGroups_NoNet => rfl)
      (case v_ki_NoGroups_NoWhole => rfl)
      (case v_ki_NoGroups_NoGroups => rfl)
      (case v_ki_NoGroups_NoLine => rfl)
      (case v_ki_NoGroups_NoRow => rfl)
      (case v_ki_NoGroups_NoSuch => rfl)
      (case v_ki_NoGroups_NoField => rfl)
      (case v_ki_NoGroups_NoKind => rfl)
      (case v_ki_NoGroups_NoVeil => rfl)
      (case v_kv_NoGroups => rfl)
      (case v_su_NoNet_CrossError => rfl)
      (case v_ki_NoNet_CrossError => rfl)
      (case v_ki_NoNet_NoFields => rfl)
      (case v_ki_NoNet_NoSieve => rfl)
      (case v_ki_NoNet_NoView => rfl)
      (case v_ki_NoNet_NoHead => rfl)
      (case v_ki_NoNet_NoNet => rfl)
      (case v_ki_NoNet_NoWhole => rfl)
      (case v_ki_NoNet_NoGroups => rfl)
      (case v_ki_NoNet_NoLine => rfl)
      (case v_ki_NoNet_NoRow => rfl)
      (case v_ki_NoNet_NoSuch => rfl)
      (case v_ki_NoNet_NoField => rfl)
      (case v_ki_NoNet_NoKind => rfl)
      (case v_ki_NoNet_NoVeil => rfl)
      (case v_kv_NoNet => rfl)
      (case v_su_NoVeil_CrossError => rfl)
      (case v_ki_NoVeil_CrossError => rfl)
      (case v_ki_NoVeil_NoFields => rfl)
      (case v_ki_NoVeil_NoSieve => rfl)
      (case v_ki_NoVeil_NoView => rfl)
      (case v_ki_NoVeil_NoHead => rfl)
      (case v_ki_NoVeil_NoNet => rfl)
      (case v_ki_NoVeil_NoWhole => rfl)
      (case v_ki_NoVeil_NoGroups => rfl)
      (case v_ki_NoVeil_NoLine => rfl)
      (case v_ki_NoVeil_NoRow => rfl)
      (case v_ki_NoVeil_NoSuch => rfl)
      (case v_ki_NoVeil_NoField => rfl)
      (case v_ki_NoVeil_NoKind => rfl)
      (case v_ki_NoVeil_NoVeil => rfl)
      (case v_kv_NoVeil => rfl)
      (case v_su_NoWhole_CrossError => rfl)
      (case v_ki_NoWhole_CrossError => rfl)
      (case v_ki_NoWhole_NoFields => rfl)
      (case v_ki_NoWhole_NoSieve => rfl)
      (case v_ki_NoWhole_NoView => rfl)
      (case v_ki_NoWhole_NoHead => rfl)
      (case v_ki_NoWhole_NoNet => rfl)
      (case v_ki_NoWhole_NoWhole => rfl)
      (case v_ki_NoWhole_NoGroups => rfl)
      (case v_ki_NoWhole_NoLine => rfl)
      (case v_ki_NoWhole_NoRow => rfl)
      (case v_ki_NoWhole_NoSuch => rfl)
      (case v_ki_NoWhole_NoField => rfl)
      (case v_ki_NoWhole_NoKind => rfl)
      (case v_ki_NoWhole_NoVeil => rfl)
      (case v_kv_NoWhole => rfl)
      (case z_ValueError => k_is)
      (case z_all => k_is)
      (case z_enumerate => k_is)
      (case z_isinstance => k_is)
      (case z_len => k_is)
      (case z_list => k_is)
      (case z_min => k_is)
      (case z_range => k_is)
      (case z_set => k_is)
      (case z_sorted => k_is)
      (case z_sum => k_is)
      (case z_zip => k_is)
      (case y_MOST_NODES => k_is)
      (case y_MOST_ARCS => k_is)
      (case y_MOST_GROUPS => k_is)
    exact ⟨f, fd, T, rfl, z⟩
