import PyProof.Rows.All
import Wide.All
import OpenK.AllK
import Wide.FinOn
import Lean
import PyProof.EqAt
import PyProof.EqKinds
import PyProof.TupleCall
import OpenK.KOwn
import PyProof.InstStoreFacts
import PyProof.EnumFor
import PyProof.EnumMake
import PyProof.EnumStmt
import KE.KDictList
import PyProof.ListRange
import PyProof.Rows.SetFrom
import PyProof.WalksMore
import PyProof.ZipIter
import PyProof.AttrMissSeq
import KE.KDictOf
import PyProof.MinMaxWalk
import PyProof.Rows.CallKwBuiltin
import KE.KMinKey
import KE.KRevSl
import PyProof.SumAny
import PyProof.P3In
import PyProof.SeqI3
import KE.KSortTup
import KE.KSortKey
import PyProof.Rows.SortRunsK
import PyProof.Rows.SortShellK
import PyProof.P3Eq
import PySem.Challenge.RW_crosshall_k13_heads_in_order
-- CHANGE: your row's module here, as the last of these rows
set_option compiler.extract_closed false
set_option Elab.async false
set_option linter.all false
set_option maxRecDepth 100000
namespace L2
open PySem PySem.Spec PyProof.Rows
noncomputable abbrev Key := Sum Int Str
noncomputable def keyIs : Key → Value → Bool
  | .inl k, v => Value.isInt k v
  | .inr x, v => Value.isStrOf x v
noncomputable def keyH (w : World) : Key → Int
  | .inl k => hashInt k
  | .inr x => hashStr w x
theorem keyIs_shape : ∀ {k : Key} {v : Value}, keyIs k v = true → (∃ i t, k = Sum.inl i ∧ v = Value.int i t) ∨ (∃ x t, k = Sum.inr x ∧ v = Value.str x t)
  | .inl i, v, h => by
    obtain ⟨t, e⟩ := Value.isInt_shape (k := i) (v := v) h
    exact .inl ⟨i, t, rfl, e⟩
  | .inr x, v, h => by
    obtain ⟨t, e⟩ := Value.isStrOf_shape (x := x) (v := v) h
    exact .inr ⟨x, t, rfl, e⟩
theorem keyIs_int (i : Int) (t : Tok) : keyIs (.inl i) (.int i t) = true := by simp [keyIs, Value.isInt]
theorem keyIs_str (x : Str) (t : Tok) : keyIs (.inr x) (.str x t) = true := by simp [keyIs, Value.isStrOf]
theorem key_ll (a b : Int) : decide ((Sum.inl a : Key) = Sum.inl b) = (a == b) := by
  by_cases e : a = b
  · subst e; simp
  · have h : ¬ (Sum.inl a : Key) = Sum.inl b := fun q => e (Sum.inl.inj q)
    rw [decide_eq_false h]
    exact (beq_eq_false_iff_ne.mpr e).symm
theorem key_rr (a b : Str) : decide ((Sum.inr a : Key) = Sum.inr b) = decide (a = b) := by
  by_cases e : a = b
  · subst e; simp
  · have h : ¬ (Sum.inr a : Key) = Sum.inr b := fun q => e (Sum.inr.inj q)
    rw [decide_eq_false h, decide_eq_false e]
theorem key_lr (a : Int) (b : Str) : decide ((Sum.inl a : Key) = Sum.inr b) = false := decide_eq_false (fun q => nomatch q)
theorem key_rl (a : Str) (b : Int) : decide ((Sum.inr a : Key) = Sum.inl b) = false := decide_eq_false (fun q => nomatch q)
noncomputable def mixKind (prog : Program) (w : World) : PySem.KeyKind prog w Key where
  is := keyIs
  hash := keyH w
  inj := fun v a b ha hb => by
    rcases keyIs_shape ha with ⟨i, t, rfl, rfl⟩ | ⟨x, t, rfl, rfl⟩
    · rcases keyIs_shape hb with ⟨j, u, rfl, e⟩ | ⟨y, u, rfl, e⟩
      · injection e with e1 _; rw [e1]
      · exact nomatch e
    · rcases keyIs_shape hb with ⟨j, u, rfl, e⟩ | ⟨y, u, rfl, e⟩
      · exact nomatch e
      · injection e with e1 _; rw [e1]
  byValue := fun k v h => by
    rcases keyIs_shape h with ⟨i, t, rfl, rfl⟩ | ⟨x, t, rfl, rfl⟩ <;> rfl
  pyHash := fun hv h => by
    rcases keyIs_shape hv with ⟨i, t, rfl, rfl⟩ | ⟨x, t, rfl, rfl⟩
    · exact wpAny_pyHash_int h
    · exact wpAny_pyHash_str h
  eqBool := fun hu hv h => by
    rcases keyIs_shape hu with ⟨i, t, rfl, rfl⟩ | ⟨x, t, rfl, rfl⟩
    · rcases keyIs_shape hv with ⟨j, u, rfl, rfl⟩ | ⟨y, u, rfl, rfl⟩
      · rw [key_ll] at h; exact wpAny_eqBool_int h
      · rw [key_lr] at h; exact SeqAt.EqAt.int_str i t y u _ _ _ _ h
    · rcases keyIs_shape hv with ⟨j, u, rfl, rfl⟩ | ⟨y, u, rfl, rfl⟩
      · rw [key_rl] at h; exact SeqAt.EqAt.str_int x t j u _ _ _ _ h
      · rw [key_rr] at h; exact wpAny_eqBool_str h
  «strs» := fun k x t v h => by
    rcases keyIs_shape h with ⟨i, u, rfl, e⟩ | ⟨y, u, rfl, e⟩
    · exact nomatch e
    · injection e with e1 _
      subst e1
      cases v <;> rfl
theorem mixKind_int (prog : Program) (w : World) (i : Int) (t : Tok) : (mixKind prog w).is (.inl i) (.int i t) = true := keyIs_int i t
theorem mixKind_str (prog : Program) (w : World) (x : Str) (t : Tok) : (mixKind prog w).is (.inr x) (.str x t) = true := keyIs_str x t
noncomputable abbrev NKey := Option Key
noncomputable def nIs : NKey → Value → Bool
  | none, .none => true
  | none, _ => false
  | some k, v => keyIs k v
noncomputable def nH (w : World) : NKey → Int
  | none => reduceHash 0xFCA86420
  | some k => keyH w k
theorem nIs_shape : ∀ {k : NKey} {v : Value}, nIs k v = true → (k = none ∧ v = Value.none) ∨ ∃ q, k = some q ∧ keyIs q v = true
  | none, v, h => by cases v <;> first | exact .inl ⟨rfl, rfl⟩ | exact nomatch h
  | some k, v, h => .inr ⟨k, rfl, h⟩
theorem key_not_none {q : Key} (h : keyIs q Value.none = true) : False := by
  rcases keyIs_shape h with ⟨_, _, _, e⟩ | ⟨_, _, _, e⟩ <;> exact nomatch e
theorem pyHash_none {prog : Program} {w : World} {A : Around} {E : Value → Shared → Prop} {s : Shared} {Q : Int → Shared → Prop} (h : Q (reduceHash 0xFCA86420) { s with toks := s.toks + 1 }) : wpAny (model prog w) A (pyHash .none) Q E s :=
  PySem.W.pyHash_slot (T := "NoneType") rfl F.slot_NoneType_hash F.entry_NoneType_hash (F.args_NoneType_hash_1 _) (beq_builtin_none _) (.inl rfl) (wpAny_bind (wpAny_pure (wpAny_bind (wpAny_mkInt (wpAny_pure ⟨_, _, rfl, h⟩)))))
theorem eqBool_none {prog : Program} {w : World} {A : Around} {E : Value → Shared → Prop} {s : Shared} {Q : Bool → Shared → Prop} (h : Q true s) : wpAny (model prog w) A (eqBool .none .none) Q E s := by
  unfold eqBool
  try with_reducible refine wpAny_holding ?_
  show wpAny _ _ (if (Value.none == Value.none) = true then _ else _) Q E s
  rw [if_pos (by decide)]
  exact wpAny_bind (wpAny_rule (wpAny_pure h))
noncomputable def optKind (prog : Program) (w : World) : PySem.KeyKind prog w NKey where
  is := nIs
  hash := nH w
  inj := fun v a b ha hb => by
    rcases nIs_shape ha with ⟨rfl, rfl⟩ | ⟨q, rfl, hq⟩
    · rcases nIs_shape hb with ⟨rfl, _⟩ | ⟨q', rfl, hq'⟩
      · rfl
      · exact (key_not_none hq').elim
    · rcases nIs_shape hb with ⟨rfl, rfl⟩ | ⟨q', rfl, hq'⟩
      · exact (key_not_none hq).elim
      · rw [(mixKind prog w).inj v q q' hq hq']
  byValue := fun k v h => by
    rcases nIs_shape h with ⟨rfl, rfl⟩ | ⟨q, rfl, hq⟩
    · rfl
    · exact (mixKind prog w).byValue q v hq
  pyHash := fun hv h => by
    rcases nIs_shape hv with ⟨rfl, rfl⟩ | ⟨q, rfl, hq⟩
    · exact pyHash_none h
    · exact (mixKind prog w).pyHash hq h
  eqBool := fun {A E s a b u v Q} hu hv h => by
    rcases nIs_shape hu with ⟨rfl, rfl⟩ | ⟨q, rfl, hq⟩
    · rcases nIs_shape hv with ⟨rfl, rfl⟩ | ⟨q', rfl, hq'⟩
      · exact eqBool_none (by simpa using h)
      · have h' : Q false s := by simpa using h
        rcases keyIs_shape hq' with ⟨i, t, rfl, rfl⟩ | ⟨x, t, rfl, rfl⟩
        · exact SeqAt.EqAt.none_int i t _ _ _ _ h'
        · exact SeqAt.EqAt.none_str x t _ _ _ _ h'
    · rcases nIs_shape hv with ⟨rfl, rfl⟩ | ⟨q', rfl, hq'⟩
      · have h' : Q false s := by simpa using h
        rcases keyIs_shape hq with ⟨i, t, rfl, rfl⟩ | ⟨x, t, rfl, rfl⟩
        · exact SeqAt.EqAt.int_none i t _ _ _ _ h'
        · exact SeqAt.EqAt.str_none x t _ _ _ _ h'
      · refine (mixKind prog w).eqBool hq hq' ?_
        have e : decide ((some q : NKey) = some q') = decide (q = q') := by simp
        rw [← e]; exact h
  «strs» := fun k x t v h => by
    rcases nIs_shape h with ⟨rfl, e⟩ | ⟨q, rfl, hq⟩
    · exact nomatch e
    · exact (mixKind prog w).strs q x t v hq
end L2
namespace L2
open PySem PySem.Spec PyProof.Rows
inductive V where
  | non | bl (b : Bool) | int (i : Int) | str (x : Str) | byt (b : Array UInt8) | flt (b : UInt64) | ref (a : Addr) | ty (n : String)
  deriving DecidableEq
noncomputable def RelV : V → Value → Prop
  | .non, u => u = Value.none
  | .bl b, u => u = Value.bool b
  | .int i, u => ∃ t, u = Value.int i t
  | .str x, u => ∃ t, u = Value.str x t
  | .byt b, u => ∃ t, u = Value.bytes b t
  | .flt b, u => ∃ t, u = Value.float b t
  | .ref a, u => u = Value.ref a
  | .ty n, u => u = Value.type n
noncomputable abbrev Vals : List V → List Value → Prop := Paired RelV
theorem Vals.length {xs : List V} {us : List Value} (r : Vals xs us) : xs.length = us.length := Paired.length r
theorem Vals.get : ∀ {xs : List V} {us : List Value} {i : Nat} {x : V}, Vals xs us → xs[i]? = some x → ∃ u, us[i]? = some u ∧ RelV x u
  | _, _, _, _, .nil, e => by simp at e
  | _, _, 0, _, .cons r _, e => by simp at e; subst e; exact ⟨_, rfl, r⟩
  | _, _, i + 1, x, .cons _ t, e => by
    obtain ⟨u, h1, h2⟩ := Vals.get (i := i) (x := x) t (by simpa using e)
    exact ⟨u, by simpa using h1, h2⟩
theorem Vals.append : ∀ {xs ys : List V} {us ws : List Value}, Vals xs us → Vals ys ws → Vals (xs ++ ys) (us ++ ws)
  | _, _, _, _, .nil, s => s
  | _, _, _, _, .cons r t, s => .cons r (Vals.append t s)
theorem Vals.take : ∀ {xs : List V} {us : List Value} (n : Nat), Vals xs us → Vals (xs.take n) (us.take n)
  | _, _, 0, _ => .nil
  | _, _, _ + 1, .nil => .nil
  | _, _, n + 1, .cons r t => .cons r (Vals.take n t)
theorem Vals.drop : ∀ {xs : List V} {us : List Value} (n : Nat), Vals xs us → Vals (xs.drop n) (us.drop n)
  | _, _, 0, r => r
  | _, _, _ + 1, .nil => .nil
  | _, _, n + 1, .cons _ t => Vals.drop n t
noncomputable def RelO : Option V → Option Value → Prop
  | some v, some u => RelV v u
  | none, none => True
  | _, _ => False
noncomputable def KV {κ : Type} : List (κ × V) → List (κ × Value) → Prop := Paired fun (p : κ × V) (q : κ × Value) => p.1 = q.1 ∧ RelV p.2 q.2
noncomputable def kV : Key → V
  | .inl i => .int i
  | .inr x => .str x
noncomputable def nV : NKey → V
  | none => .non
  | some k => kV k
inductive HO where
  | lst (xs : List V)
  | tup (xs : List V)
  | dK (kvs : List (Key × V)) | dT (kvs : List (List NKey × V))
  | set (S : Int → Bool) (n : Nat)
  | ins (C dx : Addr) (fs : List (Str × V))
  | own (x : Addr)
  | xd (fs : List (Str × V))
  | met (f x : Addr)
  | rng (lo hi : Int)
  | frz (o : Obj) (u : HO)
  | tbl (ps : Array Value)
  | ext (φ : Heap → Prop)
noncomputable abbrev Hp := Addr → Option HO
noncomputable def upd (H : Hp) (a : Addr) (o : HO) : Hp := fun b => if b = a then some o else H b
theorem upd_same {H : Hp} {a : Addr} {o : HO} : upd H a o a = some o := by unfold upd; rw [if_pos rfl]
theorem upd_ne {H : Hp} {a b : Addr} {o : HO} (h : b ≠ a) : upd H a o b = H b := by unfold upd; rw [if_neg h]
theorem upd_upd {H : Hp} {a : Addr} {o u : HO} : upd (upd H a o) a u = upd H a u := by
  funext b; unfold upd; split <;> rfl
theorem ne_of {H : Hp} {a b : Addr} {o u : HO} (h : H a = some o) (h' : H b = some u) (d : o ≠ u) : a ≠ b := by
  intro e; subst e; rw [h] at h'; exact d (Option.some.inj h')
theorem ne_of_none {H : Hp} {a b : Addr} {o : HO} (h : H a = some o) (h' : H b = none) : a ≠ b := by
  intro e; subst e; rw [h] at h'; cases h'
section
variable (P : Program) (w : World)
noncomputable def ObjOk (H : Hp) (h : Heap) (a : Addr) : HO → Prop
  | .lst xs => xs.length ≤ sizeLine ∧ ∃ (its : List Value) (n : Nat), Vals xs its ∧ h.get? a = some { cls := .type "list", data := .seq its.toArray n }
  | .tup xs => xs.length ≤ sizeLine ∧ ∃ its : List Value, Vals xs its ∧ IsTup h a its.toArray
  | .dK kvs => kvs.length ≤ sizeLine ∧ (a == sysModules) = false ∧ ∃ vs, KV kvs vs ∧ h.DictOf (mixKind P w) a vs
  | .dT kvs => kvs.length ≤ sizeLine ∧ (a == sysModules) = false ∧ ∃ xs : List (List NKey × Addr × Value),
      Paired (fun (p : List NKey × V) (q : List NKey × Addr × Value) => p.1 = q.1 ∧ H q.2.1 = some (.tup (p.1.map nV)) ∧ RelV p.2 q.2.2) kvs xs ∧
      ∃ o es ep, h.get? a = some o ∧ o.ExactDict ∧ o.data = .dict es ep ∧ es.toList = xs.map (entryOfKey (tupleKind (optKind P w))) ∧ (xs.map (·.1)).Nodup
  | .set S n => h.SetOf (intKind P w) a S n
  | .ins C dx fs => H dx = some (.own a) ∧ fs.length ≤ 1000 ∧ dx ≠ a ∧ h.get? a = some (PySem.W.instObj C dx) ∧
      ∃ mA, h.Ns1 dx mA ∧ (∀ f, RelO (fs.lookup f) (mA f)) ∧ PySem.Within mA (fs.map (·.1))
  | .own _ => ∃ o, h.get? a = some o
  | .xd fs => ∃ mA, h.Ns1 a mA ∧ ∀ f, RelO (fs.lookup f) (mA f)
  | .rng lo hi => ∃ t u v, h.get? a = some { cls := .type "range", data := .fields #[.int lo t, .int hi u, .int 1 v] }
  | .frz o u => h.get? a = some o ∧ ObjOk H h a u
  | .tbl ps => h.get? a = some { cls := .none, data := .fields ps }
  | .met f x => h.get? a = some (PySem.W.methodObj (.ref f) (.ref x))
  | .ext φ => φ h ∧ (∃ o, h.get? a = some o) ∧ ∀ h1 h2 : Heap, φ h1 → (∀ o, h1.get? a = some o → h2.get? a = some o) → φ h2
noncomputable def HOk (H : Hp) (h : Heap) : Prop := ∀ a o, H a = some o → ObjOk P w H h a o
end
section
variable {P : Program} {w : World} {H H' : Hp} {h h' : Heap} {a : Addr} {o : HO}
theorem ObjOk.lt (x : ObjOk P w H h a o) : a < h.objs.size := by
  cases o with
  | lst xs => obtain ⟨_, _, _, _, e⟩ := x; exact Heap.lt_size e
  | tup xs => obtain ⟨_, _, _, p⟩ := x; exact p.lt
  | dK kvs => obtain ⟨_, _, _, _, o, _, _, e, _⟩ := x; exact Heap.lt_size e
  | dT kvs => obtain ⟨_, _, _, _, o, _, _, e, _⟩ := x; exact Heap.lt_size e
  | set S n => obtain ⟨o, _, _, _, e, _⟩ := x; exact Heap.lt_size e
  | ins C dx fs => obtain ⟨_, _, _, e, _⟩ := x; exact Heap.lt_size e
  | own y => obtain ⟨_, e⟩ := x; exact Heap.lt_size e
  | xd fs => obtain ⟨_, ⟨_, _, _, e, _⟩, _⟩ := x; exact Heap.lt_size e
  | rng lo hi => obtain ⟨_, _, _, e⟩ := x; exact Heap.lt_size e
  | frz ob u => obtain ⟨e, _⟩ := x; exact Heap.lt_size e
  | tbl ps => exact Heap.lt_size (show h.get? a = some _ from x)
  | met f y => exact Heap.lt_size (show h.get? a = some _ from x)
  | ext φ => obtain ⟨_, ⟨_, e⟩, _⟩ := x; exact Heap.lt_size e
theorem Paired.mapP {α β : Type} {F G : α → β → Prop} : ∀ {l₁ : List α} {l₂ : List β}, Paired F l₁ l₂ → (∀ a b, F a b → G a b) → Paired G l₁ l₂
  | _, _, .nil, _ => .nil
  | _, _, .cons r t, f => .cons (f _ _ r) (Paired.mapP t f)
theorem ObjOk.stay (x : ObjOk P w H h a o) (k : ∀ b u, (b = a ∨ H b = some (.own a)) → h.get? b = some u → h'.get? b = some u)
    (ho : ∀ b, H b = some (.own a) → H' b = some (.own a)) (ht : ∀ b xs, H b = some (.tup xs) → H' b = some (.tup xs)) : ObjOk P w H' h' a o := by
  induction o with
  | lst xs => obtain ⟨z, its, n, r, e⟩ := x; exact ⟨z, its, n, r, k _ _ (.inl rfl) e⟩
  | tup xs => obtain ⟨z, its, r, ob, e, c⟩ := x; exact ⟨z, its, r, ob, k _ _ (.inl rfl) e, c⟩
  | dK kvs => obtain ⟨z, y, vs, r, ob, es, ep, e, c⟩ := x; exact ⟨z, y, vs, r, ob, es, ep, k _ _ (.inl rfl) e, c⟩
  | dT kvs =>
    obtain ⟨z, y, xs, r, ob, es, ep, e, c⟩ := x
    exact ⟨z, y, xs, Paired.mapP r fun p q z => ⟨z.1, ht _ _ z.2.1, z.2.2⟩, ob, es, ep, k _ _ (.inl rfl) e, c⟩
  | set S n => obtain ⟨ob, es, ep, t, e, c⟩ := x; exact ⟨ob, es, ep, t, k _ _ (.inl rfl) e, c⟩
  | ins C dx fs =>
    obtain ⟨d, z, ne, e, mA, ⟨od, es, ep, e2, c⟩, r⟩ := x
    exact ⟨ho _ d, z, ne, k _ _ (.inl rfl) e, mA, ⟨od, es, ep, k _ _ (.inr d) e2, c⟩, r⟩
  | own y => obtain ⟨ob, e⟩ := x; exact ⟨ob, k _ _ (.inl rfl) e⟩
  | xd fs => obtain ⟨mA, ⟨od, es, ep, e, c⟩, r⟩ := x; exact ⟨mA, ⟨od, es, ep, k _ _ (.inl rfl) e, c⟩, r⟩
  | rng lo hi => obtain ⟨t, u, v, e⟩ := x; exact ⟨t, u, v, k _ _ (.inl rfl) e⟩
  | frz ob u ih => obtain ⟨e, q⟩ := x; exact ⟨k _ _ (.inl rfl) e, ih q⟩
  | tbl ps =>
    have e : h.get? a = some { cls := .none, data := .fields ps } := x
    show h'.get? a = some { cls := .none, data := .fields ps }
    exact k a _ (.inl rfl) e
  | met f y =>
    have e : h.get? a = some (PySem.W.methodObj (.ref f) (.ref y)) := x
    show h'.get? a = some (PySem.W.methodObj (.ref f) (.ref y))
    exact k a _ (.inl rfl) e
  | ext φ => obtain ⟨p, ⟨o, e⟩, st⟩ := x; exact ⟨st _ _ p fun o q => k _ _ (.inl rfl) q, ⟨o, k _ _ (.inl rfl) e⟩, st⟩
theorem HOk.lt (x : HOk P w H h) (e : H a = some o) : a < h.objs.size := (x a o e).lt
theorem HOk.fresh (x : HOk P w H h) (e : h.objs.size ≤ a) : H a = none := by
  cases q : H a with
  | none => rfl
  | some u => exact absurd (Nat.lt_of_lt_of_le (x.lt q) e) (Nat.lt_irrefl _)
theorem HOk.kept (x : HOk P w H h) (k : ∀ b u, h.get? b = some u → h'.get? b = some u) : HOk P w H h' := fun a o e =>
  (x a o e).stay (fun b u _ q => k b u q) (fun _ q => q) fun _ _ q => q
theorem HOk.laid (x : HOk P w H h) (k : ∀ b u, h.get? b = some u → h'.get? b = some u) (hp : h.objs.size ≤ a) (new : ObjOk P w (upd H a o) h' a o) : HOk P w (upd H a o) h' := fun b u e => by
  have hn := x.fresh hp
  by_cases hb : b = a
  · subst hb; rw [upd_same] at e; cases e; exact new
  · rw [upd_ne hb] at e
    exact (x b u e).stay (fun c v _ q => k c v q) (fun c q => by rw [upd_ne (ne_of_none q hn)]; exact q) fun c xs q => by rw [upd_ne (ne_of_none q hn)]; exact q
end
noncomputable def Rd (H : Hp) (a : Addr) (u : HO) : Prop := H a = some u ∨ ∃ o, H a = some (.frz o u)
theorem Rd.ok {P : Program} {w : World} {H : Hp} {h : Heap} {a : Addr} {u : HO} (r : Rd H a u) (x : HOk P w H h) : ObjOk P w H h a u := by
  rcases r with r | ⟨o, r⟩
  · exact x a u r
  · obtain ⟨_, q⟩ := x a _ r
    exact q
noncomputable def Mut : Option HO → Prop
  | some (.lst _) => True
  | some (.dK _) => True
  | some (.dT _) => True
  | some (.set _ _) => True
  | some (.ins _ _ _) => True
  | some (.ext _) => True
  | _ => False
section
variable {P : Program} {w : World} {H : Hp} {h h' : Heap} {x e : Addr} {o' : HO}
theorem HOk.write (ok : HOk P w H h) (mu : Mut (H x)) (he : e = x ∨ H e = some (.own x)) (k : ∀ b u, b ≠ e → h.get? b = some u → h'.get? b = some u) (heo : ∃ u, h'.get? e = some u)
    (new : ObjOk P w (upd H x o') h' x o') : HOk P w (upd H x o') h' := fun b u q => by
  have nown : ∀ c y, H c = some (.own y) → c ≠ x := fun c y r z => by subst z; rw [r] at mu; exact mu
  have ntup : ∀ c xs, H c = some (.tup xs) → c ≠ x := fun c xs r z => by subst z; rw [r] at mu; exact mu
  by_cases hb : b = x
  · subst hb; rw [upd_same] at q; cases q; exact new
  · rw [upd_ne hb] at q
    by_cases hbe : b = e
    · have q' : H b = some (.own x) := by
        rcases he with z | z
        · exact absurd (hbe.trans z) hb
        · rw [hbe]; exact z
      rw [q] at q'; cases q'
      obtain ⟨v, hv⟩ := heo
      exact ⟨v, by rw [hbe]; exact hv⟩
    · refine (ok b u q).stay (fun c v hc r => k c v ?_ r) (fun c r => by rw [upd_ne (nown c b r)]; exact r) fun c xs r => by rw [upd_ne (ntup c xs r)]; exact r
      rcases hc with rfl | hc
      · exact hbe
      · rintro rfl
        rcases he with z | z
        · exact nown c b hc z
        · rw [hc] at z; cases z; exact hb rfl
end
structure Un (fs ex : List Addr) (H H' : Hp) (h h' : Heap) : Prop where
  keep : ∀ b o, h.get? b = some o → H b = none → b ∉ fs → b ∉ ex → h'.get? b = some o
  slot : ∀ b o, h.get? b = some o → H b = none → b ∈ fs → b ∉ ex → ∃ sl, h'.get? b = some { o with slots := sl }
  free : ∀ b o, h.get? b = some o → H b = none → b ∉ ex → H' b = none
  there : ∀ b o, h.get? b = some o → b ∉ ex → ∃ o', h'.get? b = some o'
  tups : ∀ b xs, H b = some (.tup xs) → H' b = some (.tup xs)
  frzs : ∀ b o u, H b = some (.frz o u) → H' b = some (.frz o u)
  tbls : ∀ b ps, H b = some (.tbl ps) → ∃ more, H' b = some (.tbl (ps ++ more))
section
variable {fs fs' ex ex' : List Addr} {H H1 H2 : Hp} {h h1 h2 h' : Heap} {a x e : Addr} {o : HO}
theorem Un.any (u : Un fs ex H H1 h h1) {b : Addr} {ob : Obj} (q : h.get? b = some ob) (n : H b = none) (hx : b ∉ ex) : ∃ sl, h1.get? b = some { ob with slots := sl } := by
  by_cases hb : b ∈ fs
  · exact u.slot b ob q n hb hx
  · exact ⟨ob.slots, u.keep b ob q n hb hx⟩
theorem Un.kept (k : ∀ b u, h.get? b = some u → h'.get? b = some u) : Un fs ex H H h h' :=
  ⟨fun b ob q _ _ _ => k b ob q, fun b ob q _ _ _ => ⟨ob.slots, k b ob q⟩, fun _ _ _ n _ => n, fun b ob q _ => ⟨ob, k b ob q⟩, fun _ _ q => q, fun _ _ _ q => q, fun _ ps q => ⟨#[], by rw [q]; simp⟩⟩
theorem Un.refl : Un fs ex H H h h := Un.kept fun _ _ q => q
theorem Un.laid (k : ∀ b u, h.get? b = some u → h'.get? b = some u) (hp : h.objs.size ≤ a) (hn : H a = none) : Un fs ex H (upd H a o) h h' where
  keep := fun b u q _ _ _ => k b u q
  slot := fun b u q _ _ _ => ⟨u.slots, k b u q⟩
  free := fun b u q n _ => by rw [upd_ne (Nat.ne_of_lt (Nat.lt_of_lt_of_le (Heap.lt_size q) hp))]; exact n
  there := fun b u q _ => ⟨u, k b u q⟩
  tups := fun b xs q => by rw [upd_ne (ne_of_none q hn)]; exact q
  frzs := fun b u xs q => by rw [upd_ne (ne_of_none q hn)]; exact q
  tbls := fun b ps q => ⟨#[], by rw [upd_ne (ne_of_none q hn), q]; simp⟩
theorem Un.write (mu : Mut (H x)) (he : e = x ∨ H e = some (.own x)) (k : ∀ b u, b ≠ e → h.get? b = some u → h'.get? b = some u) (heo : ∃ u, h'.get? e = some u) : Un fs ex H (upd H x o) h h' := by
  have hx : ∀ b, H b = none → b ≠ x := fun b n z => by subst z; rw [n] at mu; exact mu
  have hb : ∀ b, H b = none → b ≠ e := fun b n z => by
    subst z
    rcases he with r | r
    · exact hx b n r
    · rw [n] at r; cases r
  have hm : ∀ b u, H b = some u → ¬ Mut (some u) → b ≠ x := fun b u q nm z => by subst z; rw [q] at mu; exact nm mu
  refine ⟨fun b u q n _ _ => k b u (hb b n) q, fun b u q n _ _ => ⟨u.slots, k b u (hb b n) q⟩, fun b u q n _ => by rw [upd_ne (hx b n)]; exact n, fun b u q _ => ?_,
    fun b xs q => by rw [upd_ne (hm b _ q fun z => z)]; exact q, fun b u xs q => by rw [upd_ne (hm b _ q fun z => z)]; exact q, fun b ps q => ⟨#[], by rw [upd_ne (hm b _ q fun z => z), q]; simp⟩⟩
  by_cases hbe : b = e
  · subst hbe; exact heo
  · exact ⟨u, k b u hbe q⟩
end
noncomputable def trk (h : Heap) (H : Hp) : List Addr := (List.range h.objs.size).filter fun a => (H a).isSome
noncomputable def hidT (h : Heap) (H : Hp) : Heap := PySem.W.hideAll h (trk h H)
theorem hidT_size (h : Heap) (H : Hp) : (hidT h H).objs.size = h.objs.size := PySem.W.hideAll_size _ _
theorem hidT_get {h : Heap} {H : Hp} {b : Addr} {o : Obj} (e : h.get? b = some o) (n : H b = none) : (hidT h H).get? b = some o :=
  PySem.W.hideAll_get _ e fun hm => by
    have q : (H b).isSome = true := (List.mem_filter.mp hm).2
    rw [n] at q; simp at q
theorem of_hidT {h : Heap} {H : Hp} {b : Addr} {o : Obj} (e : (hidT h H).get? b = some o) : h.get? b = some o ∧ H b = none := by
  have e' : h.get? b = some o := PySem.W.of_hideAll (trk h H) e
  refine ⟨e', ?_⟩
  cases q : H b with
  | none => rfl
  | some x =>
    have hm : b ∈ trk h H := List.mem_filter.mpr ⟨List.mem_range.mpr (Heap.lt_size e'), by simp [q]⟩
    have z : (hidT h H).get? b = none := PySem.W.hideAll_none (trk h H) hm
    rw [z] at e; cases e
end L2
namespace L2
open PySem PySem.Spec PyProof.Rows
structure Mod (K : PySem.W.Frag) (mg : Str → Option Value) (base : Heap) : Prop where
  kin : K.In base
  glob : base.Ns mainGlobals mg
  blt : ∃ mb, base.Ns builtinsNs mb ∧ ∀ x : Str, x ≠ "__name__" → mb x = bootBuiltins x
  nolimit : base.NoLimit
structure Cx where
  prog : Program
  w : World
  K : PySem.W.Frag
  mg : Str → Option Value
  base : Heap
  A : Around
  N : List Str
  s₀ : Shared
  H₀ : Hp
  env : Env
  outer : List Env
  stack : List Env
  ex : List Addr
  fn : Str → Bool
  calm : Bool
  pn : List (Addr × Obj)
  xe : Value → Shared → Prop
noncomputable def frs (l : List Env) : List Addr := l.filterMap (·.frame)
noncomputable abbrev Cx.fs (X : Cx) : List Addr := frs X.outer
noncomputable def Vis (sc : Scope) (x : Str) : Prop := sc.names.lookup x = some .local ∨ sc.names.lookup x = some .cell ∨ sc.names.lookup x = some .free
noncomputable def Loc (sc : Scope) (x : Str) : Prop := sc.names.lookup x = some .local ∨ sc.names.lookup x = some .cell
noncomputable def Look (env : Env) (h : Heap) (m : Str → Option Value) (x : Str) (u : Value) : Prop :=
  (env.kindOf x = some .local ∧ m x = some u) ∨ ((env.kindOf x = some .cell ∨ env.kindOf x = some .free) ∧ ∃ c, env.cells.lookup x = some c ∧ h.IsCell c (some u))
structure Cx.Ok (X : Cx) : Prop where
  mod : Mod X.K X.mg X.base
  kind : X.env.scope.kind = .function
  glob : X.env.globals = mainGlobals
  blt : X.env.builtins = builtinsNs
  above : X.s₀.heap.objs.size ≤ X.env.locals
  inj : ∀ x y c, X.env.cells.lookup x = some c → X.env.cells.lookup y = some c → x = y
  has : ∀ x, (X.env.kindOf x = some .cell ∨ X.env.kindOf x = some .free) → ∃ c, X.env.cells.lookup x = some c
  cab : ∀ x c, X.fn x = true → X.env.cells.lookup x = some c → X.s₀.heap.objs.size ≤ c
  hd : X.calm = true → X.A.handled = none
  frames : X.A.frames = some X.stack
  stk : X.stack = X.outer ∨ (X.stack = X.env :: X.outer ∧ X.env.frame = some X.env.locals)
  exf : ∀ b ∈ X.ex, b ≠ X.env.locals ∧ ∀ x c, X.env.cells.lookup x = some c → c ≠ b
  bs : ∀ b o, X.base.get? b = some o → X.s₀.heap.get? b = some o ∧ X.H₀ b = none
  bsz : X.base.objs.size ≤ X.s₀.heap.objs.size
  noex : ∀ b o, X.base.get? b = some o → b ∉ X.ex
  exfs : ∀ b ∈ X.ex, b ∉ X.fs
  funs : X.s₀.heap.FunFrames X.base X.outer
  frf : ∀ b ∈ X.fs, X.H₀ b = none
structure Inv (X : Cx) (pins : List (Addr × Obj)) (σ : List (Option V)) (H : Hp) (s : Shared) : Prop where
  ok : X.Ok
  os : s.os = X.s₀.os
  bare : AllBare s.gens
  base : Un X.fs X.ex X.H₀ H X.s₀.heap s.heap
  loc : ∃ m, s.heap.Ns X.env.locals m ∧ ∀ (i : Nat) (x : Str) (v : V), X.N[i]? = some x → σ[i]? = some (some v) → Vis X.env.scope x → ∃ u, RelV v u ∧ Look X.env s.heap m x u
  cell : ∀ x c, X.env.cells.lookup x = some c → ∃ v, s.heap.IsCell c v
  free : H X.env.locals = none
  freeC : ∀ x c, X.env.cells.lookup x = some c → H c = none
  pin : ∀ p ∈ X.pn ++ pins, s.heap.get? p.1 = some p.2 ∧ H p.1 = none ∧ p.1 ≠ X.env.locals ∧ p.1 ∉ X.fs ∧ ∀ v, p.2.data ≠ .cell v
  hok : HOk X.prog X.w H s.heap
  len : σ.length = X.N.length
section
variable {X : Cx} {pins : List (Addr × Obj)} {σ : List (Option V)} {H H' : Hp} {s : Shared} {h' : Heap}
theorem Cx.Ok.nofr (ok : X.Ok) {b : Addr} {o : Obj} (e : X.base.get? b = some o) : b ∉ X.fs := fun hb => by
  have := (ok.funs.mem hb).1
  rw [e] at this; cases this
theorem Inv.bs (I : Inv X pins σ H s) : ∀ b o, X.base.get? b = some o → s.heap.get? b = some o ∧ H b = none := fun b o e =>
  ⟨I.base.keep b o (I.ok.bs b o e).1 (I.ok.bs b o e).2 (I.ok.nofr e) (I.ok.noex b o e), I.base.free b o (I.ok.bs b o e).1 (I.ok.bs b o e).2 (I.ok.noex b o e)⟩
theorem Inv.bk (I : Inv X pins σ H s) : ∀ b o, X.base.get? b = some o → s.heap.get? b = some o := fun b o e => (I.bs b o e).1
theorem Inv.mod (I : Inv X pins σ H s) : Mod X.K X.mg X.base := I.ok.mod
theorem Inv.kIn (I : Inv X pins σ H s) : X.K.In s.heap := I.ok.mod.kin.keeps I.bk
theorem Inv.lt (I : Inv X pins σ H s) : X.env.locals < s.heap.objs.size := let ⟨_, hn, _⟩ := I.loc; hn.lt
theorem Inv.sz (I : Inv X pins σ H s) : X.s₀.heap.objs.size ≤ s.heap.objs.size := Nat.le_trans I.ok.above (Nat.le_of_lt I.lt)
theorem Inv.nofs (I : Inv X pins σ H s) {a : Addr} (h : s.heap.objs.size ≤ a) : a ∉ X.fs := fun hb => by
  obtain ⟨_, o, ho, _⟩ := I.ok.funs.mem hb
  exact absurd (Nat.lt_of_lt_of_le (Heap.lt_size ho) (Nat.le_trans I.sz h)) (Nat.lt_irrefl _)
theorem Inv.cne (I : Inv X pins σ H s) : ∀ x c, X.env.cells.lookup x = some c → c ≠ X.env.locals := fun x c e z => by
  obtain ⟨v, o, ho, hd⟩ := I.cell x c e
  obtain ⟨m, ⟨o', es, ep, ho', hd', _⟩, _⟩ := I.loc
  rw [z, ho'] at ho; cases ho; rw [hd'] at hd; cases hd
theorem Inv.funs (I : Inv X pins σ H s) : s.heap.FunFrames X.base X.outer := by
  have all : ∀ (l : List Env), (∀ b ∈ frs l, b ∈ X.fs) → X.s₀.heap.FunFrames X.base l → s.heap.FunFrames X.base l := by
    intro l
    induction l with
    | nil => intro _ _; trivial
    | cons env r ih =>
      intro hs hl
      obtain ⟨hk, ⟨L, o, hf, hn, ho, hd⟩, hr⟩ := hl
      have hL : L ∈ X.fs := hs L (by unfold frs; rw [List.filterMap_cons, hf]; exact List.mem_cons_self)
      obtain ⟨sl, e⟩ := I.base.slot L o ho (I.ok.frf L hL) hL fun z => I.ok.exfs L z hL
      exact ⟨hk, ⟨L, _, hf, hn, e, hd⟩, ih (fun b hb => hs b (by unfold frs; rw [List.filterMap_cons, hf]; exact List.mem_cons_of_mem _ hb)) hr⟩
  exact all X.outer (fun _ hb => hb) I.ok.funs
theorem Inv.stack (I : Inv X pins σ H s) : s.heap.FunFrames X.base X.stack := by
  rcases I.ok.stk with e | ⟨e, hf⟩
  · rw [e]; exact I.funs
  · rw [e]
    obtain ⟨m, hn, _⟩ := I.loc
    refine .cons (by rw [I.ok.kind]; decide) hf hn ?_ I.funs
    exact Heap.get?_none_of_le (Nat.le_trans I.ok.bsz I.ok.above)
theorem Inv.stkSub (I : Inv X pins σ H s) : ∀ b ∈ frs X.stack, b ∈ X.env.locals :: X.fs := fun b hb => by
  rcases I.ok.stk with e | ⟨e, hf⟩
  · rw [e] at hb; exact List.mem_cons_of_mem _ hb
  · rw [e] at hb
    unfold frs at hb
    rw [List.filterMap_cons, hf] at hb
    exact hb
theorem Inv.stkFree (I : Inv X pins σ H s) : ∀ b ∈ frs X.stack, H b = none := fun b hb => by
  rcases List.mem_cons.mp (I.stkSub b hb) with e | hb
  · rw [e]; exact I.free
  · obtain ⟨_, o, ho, _⟩ := I.ok.funs.mem hb
    exact I.base.free b o ho (I.ok.frf b hb) fun z => I.ok.exfs b z hb
theorem Inv.step {g' : Array GenState} {t' : Nat} {d' : Drawn} {ch : List Addr} (I : Inv X pins σ H s)
    (hch : ∀ b ∈ ch, (b ∈ X.ex ∨ X.s₀.heap.objs.size ≤ b) ∧ b ≠ X.env.locals ∧ (∀ x c, X.env.cells.lookup x = some c → c ≠ b) ∧ ∀ p ∈ X.pn ++ pins, p.1 ≠ b)
    (keep : ∀ b o, b ≠ X.env.locals → b ∉ X.fs → b ∉ ch → s.heap.get? b = some o → H b = none → h'.get? b = some o)
    (slot : ∀ b o, b ≠ X.env.locals → b ∈ X.fs → b ∉ ch → s.heap.get? b = some o → H b = none → ∃ sl, h'.get? b = some { o with slots := sl }) (free : ∀ b o, b ∉ ch → s.heap.get? b = some o → H b = none → H' b = none)
    (there : ∀ b o, b ∉ ch → s.heap.get? b = some o → ∃ o', h'.get? b = some o')
    (tups : ∀ b xs, H b = some (.tup xs) → H' b = some (.tup xs)) (frzs : ∀ b o u, H b = some (.frz o u) → H' b = some (.frz o u)) (tbls : ∀ b ps, H b = some (.tbl ps) → ∃ more, H' b = some (.tbl (ps ++ more)))
    (ns : ∀ m, s.heap.Ns X.env.locals m → h'.Ns X.env.locals m) (hok : HOk X.prog X.w H' h') (hg : AllBare g') :
    Inv X pins σ H' { s with heap := h', gens := g', drawn := d', toks := t' } := by
  have neL : ∀ b o, X.s₀.heap.get? b = some o → b ≠ X.env.locals := fun b o e => Nat.ne_of_lt (Nat.lt_of_lt_of_le (Heap.lt_size e) I.ok.above)
  have neC : ∀ b o, X.s₀.heap.get? b = some o → b ∉ X.ex → b ∉ ch := fun b o e hx hb => by
    rcases (hch b hb).1 with z | z
    · exact hx z
    · exact absurd (Nat.lt_of_lt_of_le (Heap.lt_size e) z) (Nat.lt_irrefl _)
  have cellK : ∀ x c, X.env.cells.lookup x = some c → ∀ v, s.heap.IsCell c v → h'.IsCell c v := fun x c e v ⟨o, ho, hd⟩ => by
    have nch : c ∉ ch := fun z => (hch c z).2.2.1 x c e rfl
    by_cases hc : c ∈ X.fs
    · obtain ⟨sl, q⟩ := slot c o (I.cne x c e) hc nch ho (I.freeC x c e)
      exact ⟨_, q, hd⟩
    · exact ⟨o, keep c o (I.cne x c e) hc nch ho (I.freeC x c e), hd⟩
  refine ⟨I.ok, I.os, hg, ⟨fun b o e n hb hx => ?_, fun b o e n hb hx => ?_, fun b o e n hx => ?_, fun b o e hx => ?_, fun b xs e => tups b xs (I.base.tups b xs e), fun b o xs e => frzs b o xs (I.base.frzs b o xs e), fun b ps e => ?_⟩, ?_, fun x c e => ?_, ?_, fun x c e => ?_, fun p hp => ?_, hok, I.len⟩
  · exact keep b o (neL b o e) hb (neC b o e hx) (I.base.keep b o e n hb hx) (I.base.free b o e n hx)
  · obtain ⟨sl, e1⟩ := I.base.slot b o e n hb hx
    obtain ⟨sl', e2⟩ := slot b _ (neL b o e) hb (neC b o e hx) e1 (I.base.free b o e n hx)
    exact ⟨sl', e2⟩
  · obtain ⟨o', e1⟩ := I.base.there b o e hx
    exact free b o' (neC b o e hx) e1 (I.base.free b o e n hx)
  · obtain ⟨o', e1⟩ := I.base.there b o e hx
    exact there b o' (neC b o e hx) e1
  · obtain ⟨m1, e1⟩ := I.base.tbls b ps e
    obtain ⟨m2, e2⟩ := tbls b _ e1
    exact ⟨m1 ++ m2, by rw [e2, Array.append_assoc]⟩
  · obtain ⟨m, hn, hl⟩ := I.loc
    refine ⟨m, ns m hn, fun i x v e1 e2 e3 => ?_⟩
    obtain ⟨u, r, l⟩ := hl i x v e1 e2 e3
    refine ⟨u, r, ?_⟩
    rcases l with l | ⟨k, c, e, z⟩
    · exact .inl l
    · exact .inr ⟨k, c, e, cellK x c e _ z⟩
  · obtain ⟨v, z⟩ := I.cell x c e
    exact ⟨v, cellK x c e v z⟩
  · obtain ⟨m, ⟨o, _, _, ho, _⟩, _⟩ := I.loc
    exact free _ o (fun z => (hch _ z).2.1 rfl) ho I.free
  · obtain ⟨v, o, ho, hd⟩ := I.cell x c e
    exact free c o (fun z => (hch c z).2.2.1 x c e rfl) ho (I.freeC x c e)
  · obtain ⟨e, n, ne, nf, d⟩ := I.pin p hp
    have nch : p.1 ∉ ch := fun z => (hch p.1 z).2.2.2 p hp rfl
    exact ⟨keep p.1 p.2 ne nf nch e n, free p.1 p.2 nch e n, ne, nf, d⟩
theorem Inv.un {t' : Nat} (I : Inv X pins σ H s) (u : Un X.fs [] H H' s.heap h') (hok : HOk X.prog X.w H' h') : Inv X pins σ H' { s with heap := h', toks := t' } := by
  obtain ⟨m, ⟨o, es, ep, ho, r⟩, _⟩ := id I.loc
  obtain ⟨sl, hL⟩ := u.any ho I.free (by simp)
  exact I.step (g' := s.gens) (d' := s.drawn) (ch := []) (fun _ z => nomatch z) (fun b o _ hb _ e n => u.keep b o e n hb (by simp)) (fun b o _ hb _ e n => u.slot b o e n hb (by simp)) (fun b o _ e n => u.free b o e n (by simp)) (fun b o _ e => u.there b o e (by simp)) u.tups u.frzs u.tbls (fun m' hm => by
    obtain ⟨o', es', ep', ho', r'⟩ := hm
    rw [ho] at ho'; cases ho'
    exact ⟨_, es', ep', hL, r'⟩) hok I.bare
theorem Inv.call {g' : Array GenState} {t' : Nat} {d' : Drawn} {ch : List Addr} (I : Inv X pins σ H s) (u : Un (frs X.stack) ch H H' s.heap h') (hok : HOk X.prog X.w H' h') (hg : AllBare g')
    (hch : ∀ b ∈ ch, (b ∈ X.ex ∨ X.s₀.heap.objs.size ≤ b) ∧ b ≠ X.env.locals ∧ (∀ x c, X.env.cells.lookup x = some c → c ≠ b) ∧ ∀ p ∈ X.pn ++ pins, p.1 ≠ b) :
    Inv X pins σ H' { s with heap := h', gens := g', drawn := d', toks := t' } := by
  obtain ⟨m, ⟨o, es, ep, ho, r⟩, _⟩ := id I.loc
  obtain ⟨sl, hL⟩ := u.any ho I.free fun z => (hch _ z).2.1 rfl
  exact I.step (ch := ch) hch (fun b o hL hb hc e n => u.keep b o e n (fun z => (List.mem_cons.mp (I.stkSub b z)).elim hL hb) hc) (fun b o _ _ hc e n => u.any e n hc) (fun b o hc e n => u.free b o e n hc) (fun b o hc e => u.there b o e hc) u.tups u.frzs u.tbls (fun m' hm => by
    obtain ⟨o', es', ep', ho', r'⟩ := hm
    rw [ho] at ho'; cases ho'
    exact ⟨_, es', ep', hL, r'⟩) hok hg
theorem Inv.turned {t' : Nat} {it : Addr} (I : Inv X pins σ H s) (k : ∀ b o, b ≠ it → s.heap.get? b = some o → h'.get? b = some o) (hn : H it = none) (hL : it ≠ X.env.locals)
    (h1 : it ∈ X.ex ∨ X.s₀.heap.objs.size ≤ it) (h2 : ∀ x c, X.env.cells.lookup x = some c → c ≠ it) (h3 : ∀ p ∈ X.pn ++ pins, p.1 ≠ it) : Inv X pins σ H { s with heap := h', toks := t' } := by
  have nit : ∀ b u, H b = some u → b ≠ it := fun b u e z => by rw [z, hn] at e; cases e
  refine I.step (g' := s.gens) (d' := s.drawn) (ch := [it]) (fun b hb => ?_) (fun b o _ _ hc e _ => k b o (fun z => hc (by simp [z])) e) (fun b o _ _ hc e _ => ⟨o.slots, k b o (fun z => hc (by simp [z])) e⟩) (fun _ _ _ _ n => n)
    (fun b o hc e => ⟨o, k b o (fun z => hc (by simp [z])) e⟩) (fun _ _ e => e) (fun _ _ _ e => e) (fun b ps e => ⟨#[], by rw [e]; simp⟩) (fun m hm => ?_) (fun b u e => ?_) I.bare
  · have e : b = it := by simpa using hb
    subst e
    exact ⟨h1, hL, h2, h3⟩
  · obtain ⟨o, es, ep, ho, r⟩ := hm
    exact ⟨o, es, ep, k _ o (Ne.symm hL) ho, r⟩
  · refine (I.hok b u e).stay (fun c v hc q => k c v ?_ q) (fun _ q => q) fun _ _ q => q
    rcases hc with z | z
    · rw [z]; exact nit b u e
    · exact nit c _ z
theorem Inv.tok (I : Inv X pins σ H s) (t : Nat) : Inv X pins σ H { s with toks := t } := I.un (h' := s.heap) (t' := t) Un.refl I.hok
theorem Inv.kept {t' : Nat} (I : Inv X pins σ H s) (k : ∀ b u, s.heap.get? b = some u → h'.get? b = some u) : Inv X pins σ H { s with heap := h', toks := t' } := I.un (Un.kept k) (I.hok.kept k)
theorem Inv.laid {a : Addr} {o : HO} {t' : Nat} (I : Inv X pins σ H s) (k : ∀ b u, s.heap.get? b = some u → h'.get? b = some u) (hp : s.heap.objs.size ≤ a) (new : ObjOk X.prog X.w (upd H a o) h' a o) :
    Inv X pins σ (upd H a o) { s with heap := h', toks := t' } := I.un (Un.laid k hp (I.hok.fresh hp)) (I.hok.laid k hp new)
theorem Inv.write {x e : Addr} {o : HO} {t' : Nat} (I : Inv X pins σ H s) (mu : Mut (H x)) (he : e = x ∨ H e = some (.own x)) (k : ∀ b u, b ≠ e → s.heap.get? b = some u → h'.get? b = some u) (heo : ∃ u, h'.get? e = some u)
    (new : ObjOk X.prog X.w (upd H x o) h' x o) : Inv X pins σ (upd H x o) { s with heap := h', toks := t' } := I.un (Un.write mu he k heo) (I.hok.write mu he k heo new)
theorem Inv.pins_of {pins' : List (Addr × Obj)} (I : Inv X pins σ H s) (h : ∀ p ∈ pins', s.heap.get? p.1 = some p.2 ∧ H p.1 = none ∧ p.1 ≠ X.env.locals ∧ p.1 ∉ X.fs ∧ ∀ v, p.2.data ≠ .cell v) : Inv X pins' σ H s :=
  ⟨I.ok, I.os, I.bare, I.base, I.loc, I.cell, I.free, I.freeC, fun p hp => (List.mem_append.mp hp).elim (fun z => I.pin p (List.mem_append_left _ z)) (h p), I.hok, I.len⟩
theorem nodup_ix {N : List Str} (hN : N.Nodup) {i j : Nat} {x : Str} (a : N[i]? = some x) (b : N[j]? = some x) : i = j := by
  obtain ⟨h1, e1⟩ := List.getElem?_eq_some_iff.mp a
  obtain ⟨h2, e2⟩ := List.getElem?_eq_some_iff.mp b
  exact (List.getElem_inj hN).mp (e1.trans e2.symm)
theorem store_ok2 {M : Model} {A : Around} {E : Value → Shared → Prop} {i : Nat} {x : Str} {v : V} {u : Value} {Q : Unit → Shared → Prop} (I : Inv X pins σ H s) (hN : X.N.Nodup) (hi : X.N[i]? = some x) (hx : Loc X.env.scope x) (r : RelV v u)
    (h : ∀ s', Inv X pins (σ.set i (some v)) H s' → (∃ a, Heap.SameBut a s.heap s'.heap ∧ (a = X.env.locals ∨ X.env.cells.lookup x = some a)) → Q () s') (hf : X.fn x = true ∨ X.env.scope.names.lookup x = some .local := by first | exact .inl rfl | exact .inr rfl | assumption) : wpAny M A (storeName X.env x u) Q E s := by
  obtain ⟨m, hn, hl⟩ := id I.loc
  have hcls : (X.env.scope.kind == .class || (X.env.scope.kind == .module && X.env.locals != X.env.globals)) = false := by rw [I.ok.kind]; rfl
  have hiσ : i < σ.length := by rw [I.len]; exact (List.getElem?_eq_some_iff.mp hi).1
  have cne := I.cne
  have tracked : ∀ {a : Addr} {h' : Heap}, (∃ o, s.heap.get? a = some o ∧ H a = none) → Heap.SameBut a s.heap h' → HOk X.prog X.w H h' := fun {a h'} ha hs b ob e => by
    obtain ⟨_, _, hfree⟩ := ha
    refine (I.hok b ob e).stay (fun c w' hc q => (hs.2 c ?_).trans q) (fun _ q => q) fun _ _ q => q
    rintro rfl
    rcases hc with rfl | hc
    · rw [hfree] at e; cases e
    · rw [hfree] at hc; cases hc
  rcases hx with hk | hk
  · refine wpAny_storeName_local hk hn (fun h' hn' hs => ?_) hcls
    obtain ⟨oL, _, _, hoL, _⟩ := id hn
    refine h _ ⟨I.ok, I.os, I.bare, ⟨fun b o e n hb hx => ?_, fun b o e n hb hx => ?_, I.base.free, fun b o e hx => ?_, I.base.tups, I.base.frzs, I.base.tbls⟩, ⟨_, hn', fun j y v' e1 e2 e3 => ?_⟩, fun y c e => ?_, I.free, I.freeC, fun p hp => ?_, tracked ⟨oL, hoL, I.free⟩ hs, by simpa using I.len⟩ ⟨_, hs, .inl rfl⟩
    · exact (hs.2 b (Nat.ne_of_lt (Nat.lt_of_lt_of_le (Heap.lt_size e) I.ok.above))).trans (I.base.keep b o e n hb hx)
    · obtain ⟨sl, e1⟩ := I.base.slot b o e n hb hx
      exact ⟨sl, (hs.2 b (Nat.ne_of_lt (Nat.lt_of_lt_of_le (Heap.lt_size e) I.ok.above))).trans e1⟩
    · obtain ⟨o', e1⟩ := I.base.there b o e hx
      exact ⟨o', (hs.2 b (Nat.ne_of_lt (Nat.lt_of_lt_of_le (Heap.lt_size e) I.ok.above))).trans e1⟩
    · by_cases hj : j = i
      · subst hj
        rw [hi] at e1; cases e1
        rw [List.getElem?_set_self hiσ] at e2
        cases e2
        exact ⟨u, r, .inl ⟨hk, by simp⟩⟩
      · rw [List.getElem?_set_ne (Ne.symm hj)] at e2
        obtain ⟨u', r', q⟩ := hl j y v' e1 e2 e3
        refine ⟨u', r', ?_⟩
        rcases q with ⟨k, e⟩ | ⟨k, c, e, z⟩
        · refine .inl ⟨k, ?_⟩
          have : y ≠ x := fun e => hj (nodup_ix hN e1 (e ▸ hi))
          simp [this, e]
        · exact .inr ⟨k, c, e, z.sameBut hs (cne y c e)⟩
    · obtain ⟨w', z⟩ := I.cell y c e
      exact ⟨w', z.sameBut hs (cne y c e)⟩
    · obtain ⟨e, n, ne, nf, d⟩ := I.pin p hp
      exact ⟨(hs.2 p.1 ne).trans e, n, ne, nf, d⟩
  · have hfn : X.fn x = true := by
      rcases hf with z | z
      · exact z
      · rw [z] at hk; cases hk
    obtain ⟨c, hc⟩ := I.ok.has x (.inl hk)
    obtain ⟨w', z⟩ := I.cell x c hc
    refine wpAny_storeName_cell I.ok.kind hk hc z (fun h' hc' hs => ?_)
    obtain ⟨oc, hoc, hocd⟩ := id z
    refine h { s with heap := h' } ⟨I.ok, I.os, I.bare, ⟨fun b o e n hb hx => ?_, fun b o e n hb hx => ?_, I.base.free, fun b o e hx => ?_, I.base.tups, I.base.frzs, I.base.tbls⟩, ⟨m, hn.sameBut hs (Ne.symm (cne x c hc)), fun j y v' e1 e2 e3 => ?_⟩, fun y c' e => ?_, I.free, I.freeC, fun p hp => ?_, tracked ⟨oc, hoc, I.freeC x c hc⟩ hs, by simpa using I.len⟩ ⟨c, hs, .inr hc⟩
    · exact (hs.2 b (Nat.ne_of_lt (Nat.lt_of_lt_of_le (Heap.lt_size e) (I.ok.cab x c hfn hc)))).trans (I.base.keep b o e n hb hx)
    · obtain ⟨sl, e1⟩ := I.base.slot b o e n hb hx
      exact ⟨sl, (hs.2 b (Nat.ne_of_lt (Nat.lt_of_lt_of_le (Heap.lt_size e) (I.ok.cab x c hfn hc)))).trans e1⟩
    · obtain ⟨o', e1⟩ := I.base.there b o e hx
      exact ⟨o', (hs.2 b (Nat.ne_of_lt (Nat.lt_of_lt_of_le (Heap.lt_size e) (I.ok.cab x c hfn hc)))).trans e1⟩
    · by_cases hj : j = i
      · subst hj
        rw [hi] at e1; cases e1
        rw [List.getElem?_set_self hiσ] at e2
        cases e2
        exact ⟨u, r, .inr ⟨.inl hk, c, hc, hc'⟩⟩
      · rw [List.getElem?_set_ne (Ne.symm hj)] at e2
        obtain ⟨u', r', q⟩ := hl j y v' e1 e2 e3
        refine ⟨u', r', ?_⟩
        rcases q with q | ⟨k, c', e, z'⟩
        · exact .inl q
        · refine .inr ⟨k, c', e, z'.sameBut hs ?_⟩
          rintro rfl
          exact hj (nodup_ix hN e1 (I.ok.inj _ _ _ e hc ▸ hi))
    · by_cases hcc : c' = c
      · subst hcc; exact ⟨_, hc'⟩
      · obtain ⟨w2, z2⟩ := I.cell y c' e
        exact ⟨w2, z2.sameBut hs hcc⟩
    · obtain ⟨e, n, ne, nf, d⟩ := I.pin p hp
      refine ⟨(hs.2 p.1 ?_).trans e, n, ne, nf, d⟩
      intro q
      rw [q, hoc] at e
      have q' : oc = p.2 := Option.some.inj e
      exact d w' (by rw [← q']; exact hocd)
theorem store_ok {M : Model} {A : Around} {E : Value → Shared → Prop} {i : Nat} {x : Str} {v : V} {u : Value} {Q : Unit → Shared → Prop} (I : Inv X pins σ H s) (hN : X.N.Nodup) (hi : X.N[i]? = some x) (hx : Loc X.env.scope x) (r : RelV v u)
    (h : ∀ s', Inv X pins (σ.set i (some v)) H s' → Q () s') (hf : X.fn x = true ∨ X.env.scope.names.lookup x = some .local := by first | exact .inl rfl | exact .inr rfl | assumption) : wpAny M A (storeName X.env x u) Q E s :=
  store_ok2 I hN hi hx r (fun s' I' _ => h s' I') hf
theorem Inv.call' {s' : Shared} {ch : List Addr} (I : Inv X pins σ H s) (ho : s'.os = s.os) (u : Un (frs X.stack) ch H H' s.heap s'.heap) (hok : HOk X.prog X.w H' s'.heap) (hg : AllBare s'.gens)
    (hch : ∀ b ∈ ch, (b ∈ X.ex ∨ X.s₀.heap.objs.size ≤ b) ∧ b ≠ X.env.locals ∧ (∀ x c, X.env.cells.lookup x = some c → c ≠ b) ∧ ∀ p ∈ X.pn ++ pins, p.1 ≠ b) : Inv X pins σ H' s' := by
  obtain ⟨h', g', d', t', o'⟩ := s'
  have e : o' = s.os := ho
  subst e
  exact I.call (g' := g') (t' := t') (d' := d') u hok hg hch
end
noncomputable abbrev XK := Value → Option Addr → Hp → Prop
noncomputable abbrev St := List (Option V)
noncomputable abbrev VK := V → Hp → Prop
noncomputable abbrev TE := St → Hp → VK → Prop
noncomputable abbrev TT := St → Hp → (Bool → Hp → Prop) → Prop
noncomputable abbrev TA := St → Hp → (List V → Hp → Prop) → Prop
structure Ends where
  nx : St → Hp → Prop
  rt : VK
  bk : St → Hp → Prop := fun _ _ => False
  ct : St → Hp → Prop := fun _ _ => False
noncomputable abbrev TS := Ends → St → Hp → Prop
noncomputable def EP (X : Cx) (pins : List (Addr × Obj)) (σ : St) (Q : VK) (u : Value) (s' : Shared) : Prop := ∃ v H', Inv X pins σ H' s' ∧ RelV v u ∧ Q v H'
noncomputable def TP (X : Cx) (pins : List (Addr × Obj)) (σ : St) (Q : Bool → Hp → Prop) (b : Bool) (s' : Shared) : Prop := ∃ H', Inv X pins σ H' s' ∧ Q b H'
noncomputable def AP (X : Cx) (pins : List (Addr × Obj)) (σ : St) (Q : List V → Hp → Prop) (us : List Value) (s' : Shared) : Prop := ∃ vs H', Inv X pins σ H' s' ∧ Vals vs us ∧ Q vs H'
noncomputable def SP (X : Cx) (pins : List (Addr × Obj)) (D : Ends) (f : Flow) (s' : Shared) : Prop :=
  match f with
  | .next => ∃ σ' H', Inv X pins σ' H' s' ∧ D.nx σ' H'
  | .brk => ∃ σ' H', Inv X pins σ' H' s' ∧ D.bk σ' H'
  | .cont => ∃ σ' H', Inv X pins σ' H' s' ∧ D.ct σ' H'
  | .ret u => ∃ v σ' H', Inv X pins σ' H' s' ∧ RelV v u ∧ D.rt v H'
noncomputable def PE (X : Cx) (e : Expr) (t : TE) : Prop :=
  ∀ (pins : List (Addr × Obj)) (s : Shared) (σ : St) (H : Hp) (Q : VK), Inv X pins σ H s → t σ H Q → wpAny (model X.prog X.w) X.A (eval e X.env) (EP X pins σ Q) X.xe s
noncomputable def PT (X : Cx) (e : Expr) (t : TT) : Prop :=
  ∀ (pins : List (Addr × Obj)) (s : Shared) (σ : St) (H : Hp) (Q : Bool → Hp → Prop), Inv X pins σ H s → t σ H Q → wpAny (model X.prog X.w) X.A (isTrue e X.env (eval e X.env)) (TP X pins σ Q) X.xe s
noncomputable def PW (X : Cx) (e : Expr) (t : TT) : Prop :=
  ∀ (whole : Sem Value) (pins : List (Addr × Obj)) (s : Shared) (σ : St) (H : Hp) (Q : Bool → Hp → Prop), Inv X pins σ H s → t σ H Q → wpAny (model X.prog X.w) X.A (isTrue e X.env whole) (TP X pins σ Q) X.xe s
theorem PW.pt {X : Cx} {e : Expr} {t : TT} (h : PW X e t) : PT X e t := h _
noncomputable def PA (X : Cx) (es : List Expr) (t : TA) : Prop :=
  ∀ (pos : Pos) (pins : List (Addr × Obj)) (s : Shared) (σ : St) (H : Hp) (Q : List V → Hp → Prop), Inv X pins σ H s → t σ H Q → wpAny (model X.prog X.w) X.A (spliced (backTo pos (starEach es X.env))) (AP X pins σ Q) X.xe s
noncomputable def PS (X : Cx) (st : Stmt) (t : TS) : Prop :=
  ∀ (pins : List (Addr × Obj)) (s : Shared) (σ : St) (H : Hp) (D : Ends), Inv X pins σ H s → t D σ H → wpAny (model X.prog X.w) X.A (exec st X.env) (SP X pins D) X.xe s
noncomputable def PSs (X : Cx) (st : List Stmt) (t : TS) : Prop :=
  ∀ (pins : List (Addr × Obj)) (s : Shared) (σ : St) (H : Hp) (D : Ends), Inv X pins σ H s → t D σ H → wpAny (model X.prog X.w) X.A (execs st X.env) (SP X pins D) X.xe s
theorem thn {α : Type} {t : Sem α} {Q Q' : α → Shared → Prop} {M : Model} {A : Around} {E : Value → Shared → Prop} {s : Shared} (h : wpAny M A t Q E s) (hQ : ∀ a s, Q a s → Q' a s) : wpAny M A t Q' E s := wpAny_mono h hQ fun _ _ x => x
end L2
namespace L2
open PySem PySem.Spec PyProof.Rows
section
variable {X : Cx}
noncomputable def tVar (i : Nat) : TE := fun σ H Q => match σ[i]? with | some (some v) => Q v H | _ => False
theorem tVar_ex {i : Nat} {σ : St} {H : Hp} {Q : VK} (h : tVar i σ H Q) : ∃ v, σ[i]? = some (some v) ∧ Q v H := by
  unfold tVar at h
  split at h
  · rename_i v e; exact ⟨v, e, h⟩
  · exact h.elim
noncomputable def tC (v : V) : TE := fun _ H Q => Q v H
theorem pe_var {i : Nat} {x : Str} {pos : Pos} (hN : X.N[i]? = some x) (hv : Vis X.env.scope x) (hd : (x == ("__debug__" : Str)) = false := by decide) (hcd : (x == ("__classdict__" : Str)) = false := by decide) : PE X (.Name x pos) (tVar i) := by
  intro pins s σ H Q I h
  obtain ⟨v, e, h⟩ := tVar_ex h
  obtain ⟨m, hn, hl⟩ := I.loc
  obtain ⟨u, r, l⟩ := hl i x v hN e hv
  have fin : EP X pins σ Q u s := ⟨v, H, I, r, h⟩
  rcases l with ⟨hk, hm⟩ | ⟨hk, c, hc, hcell⟩
  · exact wpAny_Name (wpAny_loadName_local I.ok.kind hk hn hm fin) hd
  · rcases hk with hk | hk
    · exact wpAny_Name (wpAny_loadName_cell I.ok.kind hk hc hcell fin) hd
    · exact wpAny_Name (wpAny_loadName_free I.ok.kind hk hc hcell fin hcd) hd
theorem pe_int {i j pos} : PE X (.Constant (.int i) j pos) (tC (.int i)) := fun _ _ _ H _ I h => wpAny_Constant_int ⟨.int i, H, I.tok _, ⟨_, rfl⟩, h⟩
theorem pe_bl {b j pos} : PE X (.Constant (.bool b) j pos) (tC (.bl b)) := fun _ _ _ H _ I h => Constant_bool ⟨.bl b, H, I, rfl, h⟩
theorem pe_non {j pos} : PE X (.Constant .none j pos) (tC .non) := fun _ _ _ H _ I h => Constant_none ⟨.non, H, I, rfl, h⟩
theorem pe_str {x j pos} : PE X (.Constant (.str x) j pos) (tC (.str x)) := fun _ _ _ H _ I h => Calls.Constant_str ⟨.str x, H, I.tok _, ⟨_, rfl⟩, h⟩
noncomputable def Gl (X : Cx) (x : Str) : Prop := X.env.kindOf x = some .globalImplicit
theorem ld_glob {E : Value → Shared → Prop} {pins : List (Addr × Obj)} {s : Shared} {σ : St} {H : Hp} {x : Str} {u : Value} {pos : Pos} {Q : Value → Shared → Prop} (I : Inv X pins σ H s) (hg : Gl X x) (hm : X.mg x = some u) (h : Q u s)
    (hd : (x == ("__debug__" : Str)) = false := by decide) : wpAny (model X.prog X.w) X.A (eval (.Name x pos) X.env) Q E s :=
  Calls.Name_function_global I.ok.kind hg (Calls.loadGlobal_global (by rw [I.ok.glob]; exact I.mod.glob.keeps I.bk) hm h) hd
theorem ld_blt {E : Value → Shared → Prop} {pins : List (Addr × Obj)} {s : Shared} {σ : St} {H : Hp} {x : Str} {u : Value} {pos : Pos} {Q : Value → Shared → Prop} (I : Inv X pins σ H s) (hg : Gl X x) (hm : X.mg x = none) (hv : bootBuiltins x = some u) (h : Q u s)
    (hn : x ≠ "__name__" := by decide) (hd : (x == ("__debug__" : Str)) = false := by decide) : wpAny (model X.prog X.w) X.A (eval (.Name x pos) X.env) Q E s := by
  obtain ⟨mb, h1, h2⟩ := I.mod.blt
  exact Calls.Name_function_global I.ok.kind hg (Calls.loadGlobal_builtin (by rw [I.ok.glob]; exact I.mod.glob.keeps I.bk) hm (by rw [I.ok.blt]; exact h1.keeps I.bk) ((h2 x hn).trans hv) h) hd
theorem pe_glob {x : Str} {v : V} {u : Value} {pos : Pos} (hg : Gl X x) (hm : X.mg x = some u) (r : RelV v u) (hd : (x == ("__debug__" : Str)) = false := by decide) : PE X (.Name x pos) (tC v) :=
  fun _ _ _ H _ I h => ld_glob I hg hm ⟨v, H, I, r, h⟩ hd
theorem pe_bltn {x : Str} {v : V} {u : Value} {pos : Pos} (hg : Gl X x) (hm : X.mg x = none) (hv : bootBuiltins x = some u) (r : RelV v u) (hn : x ≠ "__name__" := by decide) (hd : (x == ("__debug__" : Str)) = false := by decide) : PE X (.Name x pos) (tC v) :=
  fun _ _ _ H _ I h => ld_blt I hg hm hv ⟨v, H, I, r, h⟩ hn hd
variable {a b : Expr} {ta tb : TE} {pos : Pos}
noncomputable def tB (t : TE) : TT := fun σ H Q => t σ H fun x H1 => ∃ c, x = .bl c ∧ Q c H1
theorem pt_val {e : Expr} {t : TE} (h : PE X e t) (he : ∀ whole, isTrue e X.env whole = (do let v ← whole; standAt e.pos; holding [v] (truthy v)) := by intro _; rfl) : PT X e (tB t) := by
  intro pins s σ H Q I hw
  refine isTrue_plain (thn (h pins s σ H _ I hw) fun v s1 ⟨x, H1, I1, r1, q1⟩ => ?_) (he _)
  obtain ⟨d, rfl, q⟩ := q1
  cases r1
  exact wpAny_truthy_bool ⟨H1, I1, q⟩
variable {tA tB' : TT} {rest : List Expr}
noncomputable def tAnd (t u : TT) : TT := fun σ H Q => t σ H fun c H1 => if c = true then u σ H1 Q else Q false H1
noncomputable def tOr (t u : TT) : TT := fun σ H Q => t σ H fun c H1 => if c = true then Q true H1 else u σ H1 Q
noncomputable def tNot (t : TT) : TT := fun σ H Q => t σ H fun c H1 => Q (!c) H1
theorem pw_and1 (ha : PT X a tA) : PW X (.BoolOp .And [a] pos) tA := by
  intro wh pins s σ H Q I h
  refine isTrue_and (thn (ha pins s σ H Q I h) fun c s1 e => ?_)
  cases c with
  | true => exact isTrue_and_nil e
  | false => exact e
theorem pw_or1 (ha : PT X a tA) : PW X (.BoolOp .Or [a] pos) tA := by
  intro wh pins s σ H Q I h
  refine isTrue_or (thn (ha pins s σ H Q I h) fun c s1 e => ?_)
  cases c with
  | false => exact isTrue_or_nil e
  | true => exact e
theorem pw_and (ha : PT X a tA) (hb : PW X (.BoolOp .And (b :: rest) pos) tB') : PW X (.BoolOp .And (a :: b :: rest) pos) (tAnd tA tB') := by
  intro wh pins s σ H Q I h
  refine isTrue_and (thn (ha pins s σ H _ I h) fun c s1 ⟨H1, I1, q1⟩ => ?_)
  cases c with
  | true => exact hb wh pins s1 σ H1 Q I1 q1
  | false => exact ⟨H1, I1, q1⟩
theorem pw_or (ha : PT X a tA) (hb : PW X (.BoolOp .Or (b :: rest) pos) tB') : PW X (.BoolOp .Or (a :: b :: rest) pos) (tOr tA tB') := by
  intro wh pins s σ H Q I h
  refine isTrue_or (thn (ha pins s σ H _ I h) fun c s1 ⟨H1, I1, q1⟩ => ?_)
  cases c with
  | true => exact ⟨H1, I1, q1⟩
  | false => exact hb wh pins s1 σ H1 Q I1 q1
theorem pt_not (ha : PT X a tA) : PT X (.UnaryOp .Not a pos) (tNot tA) := by
  intro pins s σ H Q I h
  exact isTrue_not (ha pins s σ H (fun c H1 => Q (!c) H1) I h)
noncomputable def tAndV (ta tb : TE) : TE := fun σ H Q => ta σ H fun x H1 => ∃ c, x = .bl c ∧ if c = true then tb σ H1 Q else Q (.bl false) H1
noncomputable def tOrV (ta tb : TE) : TE := fun σ H Q => ta σ H fun x H1 => ∃ c, x = .bl c ∧ if c = true then Q (.bl true) H1 else tb σ H1 Q
noncomputable def tNotV (ta : TE) : TE := fun σ H Q => ta σ H fun x H1 => ∃ c, x = .bl c ∧ Q (.bl (!c)) H1
theorem pe_one {op} {t : TE} (h : PE X a t) : PE X (.BoolOp op [a] pos) t := fun pins s σ H Q I hw => BoolOp_one (h pins s σ H Q I hw)
theorem pe_and (ha : PE X a ta) (hb : PE X (.BoolOp .And (b :: rest) pos) tb) : PE X (.BoolOp .And (a :: b :: rest) pos) (tAndV ta tb) := by
  intro pins s σ H Q I h
  refine BoolOp_and (thn (ha pins s σ H _ I h) fun v s1 ⟨x, H1, I1, r1, q1⟩ => ?_)
  obtain ⟨c, rfl, q1⟩ := q1
  cases r1
  refine wpAny_truthy_bool ?_
  cases c with
  | true => exact hb pins s1 σ H1 Q I1 q1
  | false => exact ⟨.bl false, H1, I1, rfl, q1⟩
noncomputable def tIf (t : TT) (ta tb : TE) : TE := fun σ H Q => t σ H fun c H1 => if c = true then ta σ H1 Q else tb σ H1 Q
theorem pe_ifExp {c : Expr} (hc : PT X c tA) (ha : PE X a ta) (hb : PE X b tb) : PE X (.IfExp c a b pos) (tIf tA ta tb) := by
  intro pins s σ H Q I h
  refine wpAny_IfExp (thn (hc pins s σ H _ I h) fun d s1 ⟨H1, I1, q1⟩ => ?_)
  cases d with
  | true => exact ha pins s1 σ H1 Q I1 q1
  | false => exact hb pins s1 σ H1 Q I1 q1
end
end L2
namespace L2
open PySem PySem.Spec PyProof.Rows
noncomputable def SqL (K : PySem.W.Frag) (H : Hp) (a : Addr) (xs : List V) : Prop :=
  Rd H a (.lst xs) ∨
    ∃ (o : Obj) (its : Array Value) (n : Nat), K.lookup a = some o ∧ o.cls = .type "list" ∧ o.dict = none ∧ o.data = .seq its n ∧ its.size ≤ sizeLine ∧ Vals xs its.toList
noncomputable def SqT (K : PySem.W.Frag) (H : Hp) (a : Addr) (xs : List V) : Prop :=
  Rd H a (.tup xs) ∨
    ∃ (o : Obj) (its : Array Value) (n : Nat), K.lookup a = some o ∧ o.cls = .type "tuple" ∧ o.data = .seq its n ∧ its.size ≤ sizeLine ∧ Vals xs its.toList
noncomputable def absV : Value → Option V
  | .none => some .non
  | .bool b => some (.bl b)
  | .int i _ => some (.int i)
  | .str x _ => some (.str x)
  | .bytes b _ => some (.byt b)
  | .float b _ => some (.flt b)
  | .ref a => some (.ref a)
  | .type n => some (.ty n)
  | _ => none
theorem RelV.abs {x : V} {u : Value} (r : RelV x u) : absV u = some x := by
  cases x with
  | non => cases r; rfl
  | bl _ => cases r; rfl
  | int _ => obtain ⟨t, rfl⟩ := r; rfl
  | str _ => obtain ⟨t, rfl⟩ := r; rfl
  | byt _ => obtain ⟨t, rfl⟩ := r; rfl
  | flt _ => obtain ⟨t, rfl⟩ := r; rfl
  | ref _ => cases r; rfl
  | ty _ => cases r; rfl
theorem RelV.inj {x y : V} {u : Value} (r : RelV x u) (q : RelV y u) : x = y := Option.some.inj (r.abs.symm.trans q.abs)
theorem Vals.inj : ∀ {xs ys : List V} {us : List Value}, Vals xs us → Vals ys us → xs = ys
  | _, _, _, .nil, .nil => rfl
  | _, _, _, .cons r t, .cons r' t' => by rw [r.inj r', Vals.inj t t']
section
variable {X : Cx} {pins : List (Addr × Obj)} {σ : St} {H : Hp} {s : Shared} {a : Addr} {xs ys : List V}
theorem SqL.of {K : PySem.W.Frag} (h : H a = some (.lst xs)) : SqL K H a xs := .inl (.inl h)
theorem SqT.of {K : PySem.W.Frag} (h : H a = some (.tup xs)) : SqT K H a xs := .inl (.inl h)
theorem Inv.list (I : Inv X pins σ H s) (h : SqL X.K H a xs) : ∃ its : List Value, Vals xs its ∧ PlainL s.heap a its.toArray ∧ xs.length ≤ sizeLine := by
  rcases h with h | ⟨o, its, n, hk, hc, hd, hs, hz, r⟩
  · obtain ⟨z, its, n, r, e⟩ := h.ok I.hok
    exact ⟨its, r, ⟨_, n, e, rfl, rfl, rfl⟩, z⟩
  · refine ⟨its.toList, r, ⟨o, n, I.kIn a o hk, hc, hd, by simpa using hs⟩, ?_⟩
    have e := r.length
    simp only [Array.length_toList] at e
    omega
theorem Inv.tuple (I : Inv X pins σ H s) (h : SqT X.K H a xs) : ∃ its : List Value, Vals xs its ∧ IsTup s.heap a its.toArray ∧ xs.length ≤ sizeLine := by
  rcases h with h | ⟨o, its, n, hk, hc, hs, hz, r⟩
  · obtain ⟨z, its, r, p⟩ := h.ok I.hok
    exact ⟨its, r, p, z⟩
  · refine ⟨its.toList, r, ⟨o, I.kIn a o hk, hc, n, by simpa using hs⟩, ?_⟩
    have e := r.length
    simp only [Array.length_toList] at e
    omega
theorem Inv.list_inj (I : Inv X pins σ H s) (h : SqL X.K H a xs) (h' : SqL X.K H a ys) : xs = ys := by
  obtain ⟨its, r, ⟨o, n, e, _, _, d⟩, _⟩ := I.list h
  obtain ⟨its', r', ⟨o', n', e', _, _, d'⟩, _⟩ := I.list h'
  rw [e] at e'; cases e'
  rw [d] at d'
  injection d' with d1 _
  have : its = its' := by simpa using congrArg Array.toList d1
  subst this
  exact r.inj r'
theorem Inv.tuple_inj (I : Inv X pins σ H s) (h : SqT X.K H a xs) (h' : SqT X.K H a ys) : xs = ys := by
  obtain ⟨its, r, ⟨o, e, _, n, d⟩, _⟩ := I.tuple h
  obtain ⟨its', r', ⟨o', e', _, n', d'⟩, _⟩ := I.tuple h'
  rw [e] at e'; cases e'
  rw [d] at d'
  injection d' with d1 _
  have : its = its' := by simpa using congrArg Array.toList d1
  subst this
  exact r.inj r'
end
noncomputable abbrev Cx.wish (X : Cx) (E : Value → Shared → Prop) : Cx := { X with xe := E }
noncomputable abbrev Cx.nox (X : Cx) : Cx := X.wish fun _ _ => False
theorem Cx.Ok.wish {X : Cx} (ok : X.Ok) (E : Value → Shared → Prop) : (X.wish E).Ok :=
  ⟨ok.mod, ok.kind, ok.glob, ok.blt, ok.above, ok.inj, ok.has, ok.cab, ok.hd, ok.frames, ok.stk, ok.exf, ok.bs, ok.bsz, ok.noex, ok.exfs, ok.funs, ok.frf⟩
theorem Cx.Ok.unwish {X : Cx} {E : Value → Shared → Prop} (ok : (X.wish E).Ok) : X.Ok :=
  ⟨ok.mod, ok.kind, ok.glob, ok.blt, ok.above, ok.inj, ok.has, ok.cab, ok.hd, ok.frames, ok.stk, ok.exf, ok.bs, ok.bsz, ok.noex, ok.exfs, ok.funs, ok.frf⟩
section
variable {X : Cx} {pins : List (Addr × Obj)} {σ : St} {H : Hp} {s : Shared} {E : Value → Shared → Prop}
theorem Inv.wish (I : Inv X pins σ H s) (E : Value → Shared → Prop) : Inv (X.wish E) pins σ H s := ⟨I.ok.wish E, I.os, I.bare, I.base, I.loc, I.cell, I.free, I.freeC, I.pin, I.hok, I.len⟩
theorem Inv.unwish (I : Inv (X.wish E) pins σ H s) : Inv X pins σ H s := ⟨I.ok.unwish, I.os, I.bare, I.base, I.loc, I.cell, I.free, I.freeC, I.pin, I.hok, I.len⟩
theorem SP.unwish {D : Ends} {f : Flow} {s' : Shared} (h : SP (X.wish E) pins D f s') : SP X pins D f s' := by
  cases f with
  | next => obtain ⟨σ', H', I, q⟩ := h; exact ⟨σ', H', I.unwish, q⟩
  | brk => obtain ⟨σ', H', I, q⟩ := h; exact ⟨σ', H', I.unwish, q⟩
  | cont => obtain ⟨σ', H', I, q⟩ := h; exact ⟨σ', H', I.unwish, q⟩
  | ret u => obtain ⟨v, σ', H', I, r, q⟩ := h; exact ⟨v, σ', H', I.unwish, r, q⟩
theorem PSs.nox {st : List Stmt} {t : TS} (h : PSs X.nox st t) : PSs X st t := fun pins s σ H D I hw =>
  wpAny_mono (h pins s σ H D (I.wish _) hw) (fun _ _ q => q.unwish) fun _ _ z => False.elim z
end
section
variable {X : Cx} {st : Stmt} {rest : List Stmt} {t u : TS} {e : Expr} {te : TE} {pos : Pos}
noncomputable def tNext : TS := fun D σ H => D.nx σ H
noncomputable def tSeq (t u : TS) : TS := fun D σ H => t { D with nx := u D } σ H
theorem pss_nil : PSs X [] tNext := fun _ _ σ H _ I h => wpAny_execs_nil ⟨σ, H, I, h⟩
theorem pss_cons (h1 : PS X st t) (h2 : PSs X rest u) : PSs X (st :: rest) (tSeq t u) := by
  intro pins s σ H D I h
  refine wpAny_execs_cons (thn (h1 pins s σ H { D with nx := u D } I h) fun f s1 q => ?_)
  cases f with
  | next =>
    obtain ⟨σ', H', I', q⟩ := q
    exact h2 pins s1 σ' H' D I' q
  | ret v => exact q
  | brk => exact q
  | cont => exact q
theorem pss_one (h1 : PS X st t) : PSs X [st] t := by
  intro pins s σ H D I h
  refine wpAny_execs_cons (thn (h1 pins s σ H D I h) fun f s1 q => ?_)
  cases f with
  | next => exact wpAny_execs_nil q
  | ret v => exact q
  | brk => exact q
  | cont => exact q
theorem Inv.quiet {pins : List (Addr × Obj)} {σ : St} {H : Hp} {s : Shared} (I : Inv X pins σ H s) : interactive X.env = false := by simp [interactive, I.ok.kind]
noncomputable def tDrop (te : TE) : TS := fun D σ H => te σ H fun _ H1 => D.nx σ H1
theorem ps_expr (he : PE X e te) (hs : swapsWith e none pos.line X.env = pure false := by rfl) : PS X (.Expr e pos) (tDrop te) := by
  intro pins s σ H D I h
  exact wpAny_Expr_any (thn (he pins s σ H _ I h) fun v s1 ⟨x, H1, I1, r1, q1⟩ => ⟨σ, H1, I1, q1⟩) I.quiet hs
noncomputable def tRet (te : TE) : TS := fun D σ H => te σ H D.rt
theorem ps_ret (he : PE X e te) : PS X (.Return (some e) pos) (tRet te) := by
  intro pins s σ H D I h
  exact wpAny_Return_some (thn (he pins s σ H _ I h) fun v s1 ⟨x, H1, I1, r1, q1⟩ => ⟨x, σ, H1, I1, r1, q1⟩)
noncomputable def tRetN : TS := fun D _ H => D.rt .non H
noncomputable def tIfS (c : TT) (t u : TS) : TS := fun D σ H => c σ H fun b H1 => if b = true then t D σ H1 else u D σ H1
theorem ps_if {c : Expr} {a b : List Stmt} {tc : TT} (hc : PT X c tc) (ha : PSs X a t) (hb : PSs X b u) : PS X (.If c a b pos) (tIfS tc t u) := by
  intro pins s σ H D I h
  refine wpAny_If (thn (hc pins s σ H _ I h) fun d s1 ⟨H1, I1, q1⟩ => ?_)
  cases d with
  | true => exact ha pins s1 σ H1 D I1 q1
  | false => exact hb pins s1 σ H1 D I1 q1
noncomputable def tNever : TS := fun _ _ _ => False
theorem ps_never : PS X st tNever := fun _ _ _ _ _ _ h => h.elim
end
noncomputable abbrev TG := V → St → Hp → (St → Hp → Prop) → Prop
noncomputable abbrev TGs := List V → St → Hp → (St → Hp → Prop) → Prop
noncomputable def PG (X : Cx) (target : Expr) (t : TG) : Prop :=
  ∀ (pins : List (Addr × Obj)) (s : Shared) (σ : St) (H : Hp) (v : V) (u : Value) (Q : St → Hp → Prop), Inv X pins σ H s → RelV v u → t v σ H Q →
    wpAny (model X.prog X.w) X.A (assign target X.env u) (fun _ s' => ∃ σ' H', Inv X pins σ' H' s' ∧ Q σ' H') X.xe s
noncomputable def PGs (X : Cx) (ts : List Expr) (t : TGs) : Prop :=
  ∀ (pins : List (Addr × Obj)) (s : Shared) (σ : St) (H : Hp) (vs : List V) (us : List Value) (Q : St → Hp → Prop), Inv X pins σ H s → Vals vs us → t vs σ H Q →
    wpAny (model X.prog X.w) X.A (assignInOrder ((assignEach ts X.env).map (·.2)) us) (fun _ s' => ∃ σ' H', Inv X pins σ' H' s' ∧ Q σ' H') X.xe s
noncomputable abbrev TSet := V → V → V → Hp → (Hp → Prop) → Prop
noncomputable def PSet (X : Cx) (t : TSet) : Prop :=
  ∀ (pins : List (Addr × Obj)) (s : Shared) (σ : St) (H : Hp) (o i v : V) (ov iv u : Value) (Q : Hp → Prop), Inv X pins σ H s → RelV o ov → RelV i iv → RelV v u → t o i v H Q →
    wpAny (model X.prog X.w) X.A (setItem ov iv u) (fun _ s' => ∃ H', Inv X pins σ H' s' ∧ Q H') X.xe s
section
variable {X : Cx} {pos : Pos}
noncomputable def gName (i : Nat) : TG := fun v σ H Q => Q (σ.set i (some v)) H
theorem pg_name {i : Nat} {x : Str} (hN : X.N.Nodup) (hi : X.N[i]? = some x) (hx : Loc X.env.scope x) (hf : X.fn x = true ∨ X.env.scope.names.lookup x = some .local := by first | exact .inl rfl | exact .inr rfl | assumption) : PG X (.Name x pos) (gName i) := by
  intro pins s σ H v u Q I r h
  exact wpAny_assign_Name (store_ok I hN hi hx r (fun s' I' => ⟨_, H, I', h⟩) hf)
noncomputable def gNil : TGs := fun vs σ H Q => vs = [] ∧ Q σ H
noncomputable def gCons (t : TG) (u : TGs) : TGs := fun vs σ H Q => ∃ v r, vs = v :: r ∧ t v σ H fun σ' H' => u r σ' H' Q
theorem pgs_nil : PGs X [] gNil := by
  intro pins s σ H vs us Q I r h
  obtain ⟨e, h⟩ := h
  subst e
  cases r
  exact assignInOrder_nil ⟨σ, H, I, h⟩
theorem pgs_cons {e : Expr} {es : List Expr} {t : TG} {u : TGs} (h1 : PG X e t) (h2 : PGs X es u)
    (hs : (assignEach (e :: es) X.env).map (·.2) = assign e X.env :: (assignEach es X.env).map (·.2) := by rfl) : PGs X (e :: es) (gCons t u) := by
  intro pins s σ H vs us Q I r h
  obtain ⟨v, vr, e1, h⟩ := h
  subst e1
  cases r with
  | cons r rr =>
    rw [hs]
    refine assignInOrder_cons (thn (h1 pins s σ H _ _ _ I r h) fun _ s1 ⟨σ1, H1, I1, q1⟩ => ?_)
    exact h2 pins s1 σ1 H1 _ _ Q I1 rr q1
noncomputable def gTup (K : PySem.W.Frag) (n : Nat) (t : TGs) : TG := fun v σ H Q => ∃ a xs, v = .ref a ∧ SqT K H a xs ∧ xs.length = n ∧ t xs σ H Q
theorem pg_tup {es : List Expr} {k : Nat} {t : TGs} {n : Nat} (hc : X.calm = true) (h : PGs X es t)
    (hn : (assignEach es X.env).length = n := by rfl) (hst : (assignEach es X.env).findIdx? (·.1) = none := by rfl) : PG X (.Tuple es k pos) (gTup X.K n t) := by
  intro pins s σ H v u Q I r hw
  obtain ⟨a, xs, e1, hq, hl, hw⟩ := hw
  subst e1
  cases r
  obtain ⟨its, rv, ht, hz⟩ := I.tuple hq
  refine assign_Tuple_tuple (I.ok.hd hc) ht (by simp [hn, ← hl, rv.length]) hst fun h' hx => ?_
  have I1 : Inv X pins σ H { s with heap := h' } := I.kept (t' := s.toks) fun b o e => hx b o (Nat.ne_of_lt (Heap.lt_size e)) e
  exact h pins _ σ H xs _ Q I1 (by simpa using rv) hw
noncomputable def gSub (to ti : TE) (t : TSet) : TG := fun v σ H Q => to σ H fun o H1 => ti σ H1 fun i H2 => t o i v H2 fun H3 => Q σ H3
noncomputable def tAsg (te : TE) (g : TG) : TS := fun D σ H => te σ H fun x H1 => g x σ H1 D.nx
theorem ps_set {i : Nat} {x : Str} {e : Expr} {te : TE} {pos' : Pos} (hN : X.N.Nodup) (hi : X.N[i]? = some x) (hx : Loc X.env.scope x) (he : PE X e te) (hs : swapsWith e (some (.Name x pos')) pos.line X.env = pure false := by rfl) (hf : X.fn x = true ∨ X.env.scope.names.lookup x = some .local := by first | exact .inl rfl | exact .inr rfl | assumption) :
    PS X (.Assign [.Name x pos'] e pos) (tAsg te (gName i)) := by
  intro pins s σ H D I h
  refine wpAny_Assign_Name (thn (he pins s σ H _ I h) fun v s1 ⟨y, H1, I1, r1, q1⟩ => ?_) hs
  exact store_ok I1 hN hi hx r1 (fun s2 I2 => ⟨_, H1, I2, q1⟩) hf
end
section
variable {X : Cx} {pos : Pos}
end
structure It where
  go : Nat → Hp → Prop
  yld : Nat → Hp → V → Hp → Prop
  stop : Nat → Hp → Prop
noncomputable def FpOk (X : Cx) (pins : List (Addr × Obj)) (H : Hp) (b : Addr) : Prop :=
  H b = none ∧ b ≠ X.env.locals ∧ b ∉ X.fs ∧ (b ∈ X.ex ∨ X.s₀.heap.objs.size ≤ b) ∧ (∀ x c, X.env.cells.lookup x = some c → c ≠ b) ∧ ∀ p ∈ X.pn ++ pins, p.1 ≠ b
theorem Inv.fpOk {X : Cx} {pins : List (Addr × Obj)} {σ : St} {H H' : Hp} {s : Shared} {b : Addr} (I : Inv X pins σ H s) (hb : s.heap.objs.size ≤ b) (hn : H' b = none) : FpOk X pins H' b := by
  refine ⟨hn, Nat.ne_of_gt (Nat.lt_of_lt_of_le I.lt hb), I.nofs hb, .inr (Nat.le_trans I.sz hb), fun x c e z => ?_, fun p hp z => ?_⟩
  · obtain ⟨v, q⟩ := I.cell x c e
    exact absurd (Nat.lt_of_lt_of_le q.lt (by rw [z]; exact hb)) (Nat.lt_irrefl _)
  · exact absurd (Nat.lt_of_lt_of_le (Heap.lt_size (I.pin p hp).1) (by rw [z]; exact hb)) (Nat.lt_irrefl _)
structure Turn (P : Program) (w : World) (K : PySem.W.Frag) (tg : Expr) (J : It) (fp : List Addr) (it : Addr) (tn : Nat → Heap → Prop) : Prop where
  mem : it ∈ fp
  obj : ∀ i h, tn i h → ∀ b ∈ fp, ∃ o, h.get? b = some o ∧ ∀ v, o.data ≠ .cell v
  keep : ∀ i h h', tn i h → (∀ b ∈ fp, ∀ o, h.get? b = some o → h'.get? b = some o) → tn i h'
  item : ∀ (X : Cx), X.prog = P → X.w = w → X.K = K → X.calm = true → ∀ (i : Nat) (pins : List (Addr × Obj)) (s : Shared) (σ : St) (H : Hp) (E : Value → Shared → Prop), Inv X pins σ H s → (∀ b ∈ fp, FpOk X pins H b) → tn i s.heap → J.go i H →
    wpAny (model P w) X.A (pyNext (.ref it)) (fun r s1 => ∃ u, r = some u ∧
      wpAny (model P w) X.A (letOwnedTupleGo tg (.ref it) u) (fun _ s2 => ∃ x H', Inv X pins σ H' s2 ∧ RelV x u ∧ J.yld i H x H' ∧ tn (i + 1) s2.heap ∧ ∀ b ∈ fp, H' b = none) E s1) E s
  done : ∀ (X : Cx), X.prog = P → X.w = w → X.K = K → X.calm = true → ∀ (i : Nat) (pins : List (Addr × Obj)) (s : Shared) (σ : St) (H : Hp) (E : Value → Shared → Prop), Inv X pins σ H s → (∀ b ∈ fp, FpOk X pins H b) → tn i s.heap → J.stop i H →
    wpAny (model P w) X.A (pyNext (.ref it)) (fun r s1 => r = none ∧ Inv X pins σ H s1) E s
  self : ∀ (A : Around) (i : Nat) (s : Shared) (Q : Value → Shared → Prop) (E : Value → Shared → Prop), tn i s.heap → Q (.ref it) s → wpAny (model P w) A (pyIter (.ref it)) Q E s
noncomputable abbrev TI := St → Hp → (It → Hp → Prop) → Prop
noncomputable def PIE (X : Cx) (pins : List (Addr × Obj)) (σ : St) (tg : Expr) (R : It → Hp → Prop) (itv : Value) (s2 : Shared) : Prop :=
  ∃ (it : Addr) (fp : List Addr) (tn : Nat → Heap → Prop) (J : It) (H' : Hp), itv = .ref it ∧ Inv X pins σ H' s2 ∧ Turn X.prog X.w X.K tg J fp it tn ∧ tn 0 s2.heap ∧ (∀ b ∈ fp, FpOk X pins H' b) ∧ R J H'
noncomputable def PI (X : Cx) (tg iter : Expr) (wi : TI) : Prop :=
  ∀ (pins : List (Addr × Obj)) (s : Shared) (σ : St) (H : Hp) (R : It → Hp → Prop), Inv X pins σ H s → wi σ H R →
    wpAny (model X.prog X.w) X.A (eval iter X.env) (fun v s1 => wpAny (model X.prog X.w) X.A (pyIter v) (PIE X pins σ tg R) X.xe s1) X.xe s
theorem go_of {M : Model} {A : Around} {E : Value → Shared → Prop} {s : Shared} {tg : Expr} {it : Addr} {u : Value} {o : Obj} {n : String} {vs : Array Value} {Q : Unit → Shared → Prop} (ho : s.heap.get? it = some o) (hc : o.cls = .type n) (hd : o.data = .fields vs)
    (hn : ["enumerate", "zip", "dict_itemiterator", "dict_reverseitemiterator", "odict_iterator", "itertools.zip_longest", "itertools.pairwise"].contains n = false) (hQ : Q () s) : wpAny M A (letOwnedTupleGo tg (.ref it) u) Q E s := by
  unfold letOwnedTupleGo
  cases tg <;> first
    | exact wpAny_pure hQ
    | (cases u <;> first
        | exact wpAny_pure hQ
        | (refine wpAny_bind (wpAny_load ho ?_)
           rw [hc, hd]
           show wpAny M A (if (["enumerate", "zip", "dict_itemiterator", "dict_reverseitemiterator", "odict_iterator", "itertools.zip_longest", "itertools.pairwise"].contains n && vs[0]? == some (rawInt _)) = true then _ else _) Q E s
           rw [if_neg (by intro h; rw [hn, Bool.false_and] at h; cases h)]
           exact wpAny_pure hQ))
noncomputable def Itl (K : PySem.W.Frag) (a : Addr) : It :=
  ⟨fun i H => ∃ xs x, SqL K H a xs ∧ xs[i]? = some x, fun i H x H' => H' = H ∧ ∀ xs, SqL K H a xs → xs[i]? = some x, fun i H => ∃ xs, SqL K H a xs ∧ xs.length ≤ i⟩
noncomputable def Itt (K : PySem.W.Frag) (a : Addr) : It :=
  ⟨fun i H => ∃ xs x, SqT K H a xs ∧ xs[i]? = some x, fun i H x H' => H' = H ∧ ∀ xs, SqT K H a xs → xs[i]? = some x, fun i H => ∃ xs, SqT K H a xs ∧ xs.length ≤ i⟩
noncomputable def Itr (lo : Int) (n : Nat) : It := ⟨fun i _ => i < n, fun i H x H' => H' = H ∧ x = .int (lo + i), fun i _ => n ≤ i⟩
theorem turn_list {P : Program} {w : World} {K : PySem.W.Frag} {tg : Expr} (a it : Addr) : Turn P w K tg (Itl K a) [it] it (fun i h => h.IsListIter it a i) where
  mem := by simp
  obj := fun i h st b hb => by
    have e : b = it := by simpa using hb
    subst e
    obtain ⟨o, e, c, d⟩ := st
    exact ⟨o, e, fun v z => by rw [d] at z; cases z⟩
  keep := fun i h h' st k => st.at fun o e => k it (by simp) o e
  item := by
    intro X hP hw hK hc i pins s σ H E I hf st hg
    subst hP hw hK
    obtain ⟨xs, x, hq, hx⟩ := hg
    obtain ⟨its, rv, p, hz⟩ := I.list hq
    obtain ⟨u, hu, ru⟩ := rv.get hx
    obtain ⟨f0, f1, f2, f3, f4, f5⟩ := hf it (by simp)
    refine wpAny_pyNext_list_item st p.isList (x := u) (by simpa using hu) fun h' st' sb => ?_
    have I1 : Inv X pins σ H { s with heap := h' } := I.turned (t' := s.toks) (fun b o hb e => (sb.2 b hb).trans e) f0 f1 f3 f4 f5
    obtain ⟨o, e, c, d⟩ := id st'
    exact ⟨u, rfl, go_of (s := { s with heap := h' }) e c d (by decide) ⟨x, H, I1, ru, ⟨rfl, fun ys hy => by rw [I.list_inj hy hq]; exact hx⟩, st', fun b hb => (hf b hb).1⟩⟩
  done := by
    intro X hP hw hK hc i pins s σ H E I hf st hg
    subst hP hw hK
    obtain ⟨xs, hq, hx⟩ := hg
    obtain ⟨its, rv, p, hz⟩ := I.list hq
    obtain ⟨f0, f1, f2, f3, f4, f5⟩ := hf it (by simp)
    have hl := rv.length
    exact wpAny_pyNext_list_end (I.ok.hd hc) st p.isList (by simp; omega) fun h' eb => ⟨rfl, I.turned (t' := s.toks) (fun b o hb e => eb b o hb e) f0 f1 f3 f4 f5⟩
  self := fun _ _ _ _ _ st h => wpAny_pyIter_listiter st h
theorem turn_tuple {P : Program} {w : World} {K : PySem.W.Frag} {tg : Expr} (a it : Addr) : Turn P w K tg (Itt K a) [it] it (fun i h => h.IsTupleIter it a i) where
  mem := by simp
  obj := fun i h st b hb => by
    have e : b = it := by simpa using hb
    subst e
    obtain ⟨o, e, c, d⟩ := st
    exact ⟨o, e, fun v z => by rw [d] at z; cases z⟩
  keep := fun i h h' st k => st.at fun o e => k it (by simp) o e
  item := by
    intro X hP hw hK hc i pins s σ H E I hf st hg
    subst hP hw hK
    obtain ⟨xs, x, hq, hx⟩ := hg
    obtain ⟨its, rv, p, hz⟩ := I.tuple hq
    obtain ⟨u, hu, ru⟩ := rv.get hx
    obtain ⟨f0, f1, f2, f3, f4, f5⟩ := hf it (by simp)
    refine wpAny_pyNext_tuple_item st (show s.heap.IsTuple a its.toArray from p) (x := u) (by simpa using hu) fun h' st' sb => ?_
    have I1 : Inv X pins σ H { s with heap := h' } := I.turned (t' := s.toks) (fun b o hb e => (sb.2 b hb).trans e) f0 f1 f3 f4 f5
    obtain ⟨o, e, c, d⟩ := id st'
    exact ⟨u, rfl, go_of (s := { s with heap := h' }) e c d (by decide) ⟨x, H, I1, ru, ⟨rfl, fun ys hy => by rw [I.tuple_inj hy hq]; exact hx⟩, st', fun b hb => (hf b hb).1⟩⟩
  done := by
    intro X hP hw hK hc i pins s σ H E I hf st hg
    subst hP hw hK
    obtain ⟨xs, hq, hx⟩ := hg
    obtain ⟨its, rv, p, hz⟩ := I.tuple hq
    obtain ⟨f0, f1, f2, f3, f4, f5⟩ := hf it (by simp)
    have hl := rv.length
    exact wpAny_pyNext_tuple_end (I.ok.hd hc) st (show s.heap.IsTuple a its.toArray from p) (by simp; omega) fun h' eb => ⟨rfl, I.turned (t' := s.toks) (fun b o hb e => eb b o hb e) f0 f1 f3 f4 f5⟩
  self := fun _ _ _ _ _ st h => wpAny_pyIter_tupleiter st h
theorem turn_range {P : Program} {w : World} {K : PySem.W.Frag} {tg : Expr} (it : Addr) (lo : Int) (n : Nat) : Turn P w K tg (Itr lo n) [it] it (fun i h => IsRangeIter h it (lo + (i : Nat) * 1) ((n : Int) - (i : Nat)) 1) where
  mem := by simp
  obj := fun i h st b hb => by
    have e : b = it := by simpa using hb
    subst e
    exact ⟨_, st, fun v z => by
      have z' : Data.fields _ = Data.cell v := z
      cases z'⟩
  keep := fun i h h' st k => k it (by simp) _ st
  item := by
    intro X hP hw hK hc i pins s σ H E I hf st hg
    subst hP hw hK
    obtain ⟨f0, f1, f2, f3, f4, f5⟩ := hf it (by simp)
    have W := Walks.range (prog := X.prog) (w := X.w) (I.ok.hd hc) it lo 1 n
    refine W.item i s _ _ hg st fun v h' tk hv st' kk => ?_
    obtain ⟨t, rfl⟩ := hv
    have I1 : Inv X pins σ H { s with heap := h', toks := tk } := I.turned (fun b o hb e => kk b o (by simpa using hb) e) f0 f1 f3 f4 f5
    refine ⟨_, rfl, go_of (s := { s with heap := h', toks := tk }) (n := "range_iterator") st' rfl rfl (by decide) ⟨.int (lo + i), H, I1, ⟨t, ?_⟩, ⟨rfl, rfl⟩, st', fun b hb => (hf b hb).1⟩⟩
    rw [Int.mul_one]
  done := by
    intro X hP hw hK hc i pins s σ H E I hf st hg
    subst hP hw hK
    obtain ⟨f0, f1, f2, f3, f4, f5⟩ := hf it (by simp)
    exact wpAny_pyNext_range_end (I.ok.hd hc) st (by have : n ≤ i := hg; omega) fun h' eb => ⟨rfl, I.turned (t' := s.toks) (fun b o hb e => eb b o hb e) f0 f1 f3 f4 f5⟩
  self := fun _ _ _ _ _ st h => wpAny_pyIter_rangeiter st h
end L2
namespace L2
open PySem PySem.Spec PyProof.Rows
section
variable {X : Cx} {tg : Expr}
noncomputable def iList (K : PySem.W.Frag) (tl : TE) : TI := fun σ H R => tl σ H fun x H1 => ∃ a, x = .ref a ∧ (∃ xs, SqL K H1 a xs) ∧ R (Itl K a) H1
noncomputable def iTup (K : PySem.W.Frag) (tl : TE) : TI := fun σ H R => tl σ H fun x H1 => ∃ a, x = .ref a ∧ (∃ xs, SqT K H1 a xs) ∧ R (Itt K a) H1
theorem pi_list {l : Expr} {tl : TE} (hl : PE X l tl) : PI X tg l (iList X.K tl) := by
  intro pins s σ H R I h
  refine thn (hl pins s σ H _ I h) fun v s1 ⟨x, H1, I1, r1, q1⟩ => ?_
  obtain ⟨a, e, ⟨xs, hq⟩, q⟩ := q1
  subst e
  cases r1
  obtain ⟨its, rv, p, hz⟩ := I1.list hq
  refine wpAny_pyIter_list p.isList ?_
  refine ⟨s1.heap.objs.size, [s1.heap.objs.size], _, _, H1, rfl, I1.kept (t' := s1.toks) fun b o e => Heap.get?_push_of_some _ e, turn_list a _, ⟨_, Heap.get?_push_size _ rfl, rfl, rfl⟩, fun b hb => ?_, q⟩
  have e : b = s1.heap.objs.size := by simpa using hb
  subst e
  exact I1.fpOk (Nat.le_refl _) (I1.hok.fresh (Nat.le_refl _))
theorem pi_tup {l : Expr} {tl : TE} (hl : PE X l tl) : PI X tg l (iTup X.K tl) := by
  intro pins s σ H R I h
  refine thn (hl pins s σ H _ I h) fun v s1 ⟨x, H1, I1, r1, q1⟩ => ?_
  obtain ⟨a, e, ⟨xs, hq⟩, q⟩ := q1
  subst e
  cases r1
  obtain ⟨its, rv, p, hz⟩ := I1.tuple hq
  refine wpAny_pyIter_tuple (show s1.heap.IsTuple a its.toArray from p) ?_
  refine ⟨s1.heap.objs.size, [s1.heap.objs.size], _, _, H1, rfl, I1.kept (t' := s1.toks) fun b o e => Heap.get?_push_of_some _ e, turn_tuple a _, ⟨_, Heap.get?_push_size _ rfl, rfl, rfl⟩, fun b hb => ?_, q⟩
  have e : b = s1.heap.objs.size := by simpa using hb
  subst e
  exact I1.fpOk (Nat.le_refl _) (I1.hok.fresh (Nat.le_refl _))
theorem range_it {pins : List (Addr × Obj)} {σ : St} {H : Hp} {s : Shared} {R : It → Hp → Prop} {E : Value → Shared → Prop} {lo hi : Int} {t u v : Tok} {tk : Nat} (I : Inv X pins σ H s) (h1 : -(2 ^ 62) ≤ lo) (h2 : lo < 2 ^ 62) (h3 : -(2 ^ 62) ≤ hi) (h4 : hi < 2 ^ 62)
    (q : R (Itr lo (hi - lo).toNat) H) : wpAny (model X.prog X.w) X.A (pyIter (.ref s.heap.objs.size)) (PIE X pins σ tg R) E { s with heap := s.heap.push { cls := .type "range", data := .fields #[.int lo t, .int hi u, .int 1 v] }, toks := tk } := by
  refine wpAny_pyIter_range (IsRange.new ..) (small_one h1 h2 h3 h4) ?_
  have I1 : Inv X pins σ H { s with heap := s.heap.push { cls := .type "range", data := .fields #[.int lo t, .int hi u, .int 1 v] }, toks := tk } := I.kept fun b o e => Heap.get?_push_of_some _ e
  refine ⟨(s.heap.push { cls := .type "range", data := .fields #[.int lo t, .int hi u, .int 1 v] }).objs.size, [(s.heap.push { cls := .type "range", data := .fields #[.int lo t, .int hi u, .int 1 v] }).objs.size], _, _, H, rfl,
    I1.kept (t' := tk) fun b o e => Heap.get?_push_of_some _ e, turn_range _ lo (hi - lo).toNat, ?_, fun b hb => ?_, q⟩
  · have e1 : lo + ((0 : Nat) : Int) * 1 = lo := by simp
    have e2 : (((hi - lo).toNat : Nat) : Int) - ((0 : Nat) : Int) = Builtin.Range.rangeSize lo hi 1 := by rw [rangeSize_one]; split <;> omega
    show IsRangeIter _ _ (lo + ((0 : Nat) : Int) * 1) ((((hi - lo).toNat : Nat) : Int) - ((0 : Nat) : Int)) 1
    rw [e1, e2]
    exact Heap.get?_push_size _ rfl
  · have e : b = (s.heap.push { cls := .type "range", data := .fields #[.int lo t, .int hi u, .int 1 v] }).objs.size := by simpa using hb
    subst e
    exact I1.fpOk (Nat.le_refl _) (I1.hok.fresh (Nat.le_refl _))
noncomputable def iRng1 (ta : TA) : TI := fun σ H R => ta σ H fun vs H1 => ∃ j : Int, vs = [.int j] ∧ -(2 ^ 62) ≤ j ∧ j < 2 ^ 62 ∧ R (Itr 0 j.toNat) H1
noncomputable def iRng2 (ta : TA) : TI := fun σ H R => ta σ H fun vs H1 => ∃ i j : Int, vs = [.int i, .int j] ∧ (-(2 ^ 62) ≤ i ∧ i < 2 ^ 62 ∧ -(2 ^ 62) ≤ j ∧ j < 2 ^ 62) ∧ R (Itr i (j - i).toNat) H1
theorem pi_range1 {a : Expr} {ta : TA} {p pos : Pos} (hg : Gl X "range") (hm : X.mg "range" = none) (ha : PA X [a] ta) (hs : starEach [a] X.env = [(false, eval a X.env)] := by rfl) : PI X tg (.Call (.Name "range" p) [a] [] pos) (iRng1 ta) := by
  intro pins s σ H R I h
  refine Call_ (ld_blt I hg hm boot_range (PyProof.Rows.callWith_type1 (thn (ha pos pins s σ H _ I h) fun us s1 ⟨vs, H1, I1, r1, q1⟩ => ?_) hs rfl))
  obtain ⟨j, e, q1, q2, q⟩ := q1
  subst e
  cases r1 with
  | cons r rr =>
    cases rr
    obtain ⟨t, rfl⟩ := r
    exact call_range_1 (range_it I1 (by omega) (by omega) q1 q2 (by simpa using q))
theorem pi_range2 {a b : Expr} {ta : TA} {p pos : Pos} (hg : Gl X "range") (hm : X.mg "range" = none) (ha : PA X [a, b] ta) (hs : starEach [a, b] X.env = [(false, eval a X.env), (false, eval b X.env)] := by rfl) (hs2 : starEach [b] X.env = [(false, eval b X.env)] := by rfl) :
    PI X tg (.Call (.Name "range" p) [a, b] [] pos) (iRng2 ta) := by
  intro pins s σ H R I h
  refine Call_ (ld_blt I hg hm boot_range (PyProof.Rows.callWith_type1 (thn (ha pos pins s σ H _ I h) fun us s1 ⟨vs, H1, I1, r1, q1⟩ => ?_) (by rw [hs, hs2]) (by rw [hs2]; rfl)))
  obtain ⟨i, j, e, ⟨q1, q2, q3, q4⟩, q⟩ := q1
  subst e
  cases r1 with
  | cons r rr =>
    cases rr with
    | cons r' rr =>
      cases rr
      obtain ⟨t, rfl⟩ := r
      obtain ⟨t', rfl⟩ := r'
      exact call_range_2 (range_it I1 q1 q2 q3 q4 q)
noncomputable def tFor (wi : TI) (g : TG) (tb : TS) : TS := fun D σ H => wi σ H fun J H1 => ∃ W : Nat → Nat → St → Hp → Prop, (∃ m, W 0 m σ H1) ∧ ∀ i m σ H, W i m σ H →
  (J.stop i H ∧ D.nx σ H) ∨ (J.go i H ∧ ∃ N : St → Hp → Prop, (∀ σ' H', N σ' H' → ∃ m', m' < m ∧ W (i + 1) m' σ' H') ∧ ∀ x H', J.yld i H x H' → g x σ H' fun σ2 H2 => tb { D with nx := N, ct := N, bk := D.nx } σ2 H2)
noncomputable def pinsAt (fp : List Addr) (h : Heap) : List (Addr × Obj) := fp.filterMap fun b => (h.get? b).map fun o => (b, o)
theorem mem_pinsAt {fp : List Addr} {h : Heap} {b : Addr} {o : Obj} (hb : b ∈ fp) (e : h.get? b = some o) : (b, o) ∈ pinsAt fp h := List.mem_filterMap.mpr ⟨b, hb, by rw [e]; rfl⟩
theorem of_pinsAt {fp : List Addr} {h : Heap} {p : Addr × Obj} (hp : p ∈ pinsAt fp h) : p.1 ∈ fp ∧ h.get? p.1 = some p.2 := by
  obtain ⟨b, hb, e⟩ := List.mem_filterMap.mp hp
  cases q : h.get? b with
  | none => rw [q] at e; cases e
  | some o =>
    rw [q] at e
    have e' : (b, o) = p := Option.some.inj e
    subst e'
    exact ⟨hb, q⟩
theorem Inv.pinned {pins : List (Addr × Obj)} {σ : St} {H : Hp} {s : Shared} {fp : List Addr} (I : Inv X pins σ H s) (hf : ∀ b ∈ fp, FpOk X pins H b) (ho : ∀ b ∈ fp, ∃ o, s.heap.get? b = some o ∧ ∀ v, o.data ≠ .cell v) : Inv X (pins ++ pinsAt fp s.heap) σ H s :=
  I.pins_of fun p hp => (List.mem_append.mp hp).elim (fun z => I.pin p (List.mem_append_right _ z)) fun z => by
    obtain ⟨hb, e⟩ := of_pinsAt z
    obtain ⟨f0, f1, f2, _⟩ := hf p.1 hb
    obtain ⟨o, e', d⟩ := ho p.1 hb
    rw [e] at e'; cases e'
    exact ⟨e, f0, f1, f2, d⟩
theorem Inv.unpinned {pins pl : List (Addr × Obj)} {σ : St} {H : Hp} {s : Shared} (I : Inv X (pins ++ pl) σ H s) : Inv X pins σ H s := I.pins_of fun p hp => I.pin p (List.mem_append_right _ (List.mem_append_left _ hp))
theorem ps_for {iter : Expr} {body : List Stmt} {wi : TI} {g : TG} {tb : TS} {pos : Pos} (hp : PassesOwn (model X.prog X.w) X.A X.env X.xe) (hc : X.calm = true) (hi : PI X tg iter wi) (hg : PG X tg g) (hb : PSs X body tb)
    (hs : ∀ x, foldedSetIterable iter X.env x = pure x := by intro _; rfl) : PS X (.For tg iter body [] pos) (tFor wi g tb) := by
  intro pins s σ H D I h
  refine wpAny_For (thn (hi pins s σ H _ I h) fun v s1 h1 => thn h1 fun itv s2 h2 => ?_) hs
  obtain ⟨it, fp, tn, J, H2, e, I2, T, st2, f2, W, ⟨m0, w0⟩, turn⟩ := h2
  subst e
  -- what stays true of the iterator's objects through the loop
  have stat : ∀ {H' : Hp}, (∀ b ∈ fp, H' b = none) → ∀ b ∈ fp, FpOk X pins H' b := fun hn b hb => ⟨hn b hb, (f2 b hb).2⟩
  refine codeAny_forLoop_any (fun n s' => ∃ i σ' H', Inv X pins σ' H' s' ∧ tn i s'.heap ∧ (∀ b ∈ fp, H' b = none) ∧ W i n σ' H') ?_ m0 ⟨0, σ, H2, I2, st2, fun b hb => (f2 b hb).1, w0⟩
  rintro n s3 ⟨i, σ3, H3, I3, st3, fr3, w3⟩
  rcases turn i n σ3 H3 w3 with ⟨stop, qn⟩ | ⟨go, N, hN, step⟩
  · refine wpAny_passesOwn hp (thn (T.done X rfl rfl rfl hc i pins s3 σ3 H3 X.xe I3 (stat fr3) st3 stop) fun r s4 ⟨hr, I4⟩ => ?_)
    subst hr
    exact wpAny_execs_nil ⟨σ3, H3, I4, qn⟩
  · refine wpAny_passesOwn hp (thn (T.item X rfl rfl rfl hc i pins s3 σ3 H3 X.xe I3 (stat fr3) st3 go) fun r s4 ⟨u, hr, h4⟩ => ?_)
    subst hr
    refine wpAny_passesOwn hp (thn h4 fun _ s5 ⟨x, H5, I5, r5, y5, st5, fr5⟩ => ?_)
    have I5' := I5.pinned (stat fr5) (T.obj _ _ st5)
    refine wpAny_passesOwn hp (thn (hg _ s5 σ3 H5 x u _ I5' r5 (step x H5 y5)) fun _ s6 ⟨σ6, H6, I6, q6⟩ => ?_)
    refine wpAny_passesOwn hp (thn (hb _ s6 σ6 H6 _ I6 q6) fun f s7 q7 => ?_)
    have again : ∀ {σ7 : St} {H7 : Hp}, Inv X (pins ++ pinsAt fp s5.heap) σ7 H7 s7 → N σ7 H7 → ∃ m, m < n ∧ ∃ i σ' H', Inv X pins σ' H' s7 ∧ tn i s7.heap ∧ (∀ b ∈ fp, H' b = none) ∧ W i m σ' H' := fun {σ7 H7} I7 n7 => by
      obtain ⟨m', hm, w7⟩ := hN σ7 H7 n7
      refine ⟨m', hm, i + 1, σ7, H7, I7.unpinned, T.keep _ _ _ st5 fun b hb o e => (I7.pin (b, o) (List.mem_append_right _ (List.mem_append_right _ (mem_pinsAt hb e)))).1, fun b hb => ?_, w7⟩
      obtain ⟨o, e, d⟩ := T.obj _ _ st5 b hb
      exact (I7.pin (b, o) (List.mem_append_right _ (List.mem_append_right _ (mem_pinsAt hb e)))).2.1
    cases f with
    | next => obtain ⟨σ7, H7, I7, n7⟩ := q7; exact again I7 n7
    | cont => obtain ⟨σ7, H7, I7, n7⟩ := q7; exact again I7 n7
    | brk => obtain ⟨σ7, H7, I7, q7⟩ := q7; exact ⟨σ7, H7, I7.unpinned, q7⟩
    | ret v => obtain ⟨x7, σ7, H7, I7, r7, q7⟩ := q7; exact ⟨x7, σ7, H7, I7.unpinned, r7, q7⟩
end
end L2
namespace L2
open PySem PySem.Spec PyProof.Rows
noncomputable abbrev R2 := V → V → Hp → VK → Prop
noncomputable def OpR (X : Cx) (f : Value → Value → Sem Value) (r : R2) : Prop :=
  ∀ (pins : List (Addr × Obj)) (s : Shared) (σ : St) (H : Hp) (x y : V) (v u : Value) (Q : VK), Inv X pins σ H s → RelV x v → RelV y u → r x y H Q →
    wpAny (model X.prog X.w) X.A (f v u) (EP X pins σ Q) X.xe s
noncomputable def UnR (X : Cx) (f : Value → Sem Value) (r : V → Hp → VK → Prop) : Prop :=
  ∀ (pins : List (Addr × Obj)) (s : Shared) (σ : St) (H : Hp) (x : V) (v : Value) (Q : VK), Inv X pins σ H s → RelV x v → r x H Q →
    wpAny (model X.prog X.w) X.A (f v) (EP X pins σ Q) X.xe s
noncomputable def CallR (X : Cx) (f : Value) (r : List V → Hp → VK → Prop) : Prop :=
  ∀ (pins : List (Addr × Obj)) (s : Shared) (σ : St) (H : Hp) (xs : List V) (us : List Value) (Q : VK), Inv X pins σ H s → Vals xs us → r xs H Q →
    wpAny (model X.prog X.w) X.A (call f us) (EP X pins σ Q) X.xe s
noncomputable def tOp (r : R2) (ta tb : TE) : TE := fun σ H Q => ta σ H fun x H1 => tb σ H1 fun y H2 => r x y H2 Q
noncomputable def tUn (r : V → Hp → VK → Prop) (ta : TE) : TE := fun σ H Q => ta σ H fun x H1 => r x H1 Q
noncomputable def rI (C : Int → Int → Prop) (g : Int → Int → V) : R2 := fun x y H Q => ∃ i j, x = .int i ∧ y = .int j ∧ C i j ∧ Q (g i j) H
noncomputable def rI0 (g : Int → Int → V) : R2 := fun x y H Q => ∃ i j, x = .int i ∧ y = .int j ∧ Q (g i j) H
noncomputable def rU (g : Int → V) : V → Hp → VK → Prop := fun x H Q => ∃ i, x = .int i ∧ Q (g i) H
section
variable {X : Cx} {a b c : Expr} {ta tb tc : TE} {pos : Pos}
theorem binT (ha : PE X a ta) (hb : PE X b tb) {pins : List (Addr × Obj)} {s : Shared} {σ : St} {H : Hp} {R : V → V → Hp → Prop} (I : Inv X pins σ H s)
    (h : ta σ H fun x H1 => tb σ H1 fun y H2 => R x y H2) {Q : Value → Shared → Prop} {f : Value → Value → Sem Value}
    (hf : ∀ v u s2 x y H2, Inv X pins σ H2 s2 → RelV x v → RelV y u → R x y H2 → wpAny (model X.prog X.w) X.A (f v u) Q X.xe s2) :
    wpAny (model X.prog X.w) X.A (eval a X.env) (fun v s₁ => wpAny (model X.prog X.w) X.A (eval b X.env) (fun u s₂ => wpAny (model X.prog X.w) X.A (f v u) Q X.xe s₂) X.xe s₁) X.xe s := by
  refine thn (ha pins s σ H _ I h) fun v s1 ⟨x, H1, I1, r1, q1⟩ => ?_
  refine thn (hb pins s1 σ H1 _ I1 q1) fun u s2 ⟨y, H2, I2, r2, q2⟩ => ?_
  exact hf v u s2 x y H2 I2 r1 r2 q2
theorem pe_op {op : Operator} {r : R2} (ho : OpR X (binaryOp op) r) (ha : PE X a ta) (hb : PE X b tb) : PE X (.BinOp a op b pos) (tOp r ta tb) := by
  intro pins s σ H Q I h
  exact wpAny_BinOp (binT ha hb I h fun v u s2 x y H2 I2 rx ry q => ho pins s2 σ H2 x y v u Q I2 rx ry q)
theorem pe_un {op : UnaryOp} {r : V → Hp → VK → Prop} (ho : UnR X (unaryOp op) r) (ha : PE X a ta) : PE X (.UnaryOp op a pos) (tUn r ta) := by
  intro pins s σ H Q I h
  exact UnaryOp_ (thn (ha pins s σ H _ I h) fun v s1 ⟨x, H1, I1, r1, q1⟩ => ho pins s1 σ H1 x v Q I1 r1 q1)
theorem opI {f : Value → Value → Sem Value} {C : Int → Int → Prop} {g : Int → Int → Int}
    (rule : ∀ (i j : Int) (t u : Tok) (s : Shared) (Q : Value → Shared → Prop) (E : Value → Shared → Prop), C i j → Q (.int (g i j) s.toks) { s with toks := s.toks + 1 } → wpAny (model X.prog X.w) X.A (f (.int i t) (.int j u)) Q E s) :
    OpR X f (rI C fun i j => .int (g i j)) := by
  intro pins s σ H x y v u Q I rx ry h
  obtain ⟨i, j, rfl, rfl, hc, q⟩ := h
  obtain ⟨t, rfl⟩ := rx
  obtain ⟨t', rfl⟩ := ry
  exact rule i j t t' s _ _ hc ⟨.int (g i j), H, I.tok _, ⟨_, rfl⟩, q⟩
theorem opI0 {f : Value → Value → Sem Value} {g : Int → Int → Int}
    (rule : ∀ (i j : Int) (t u : Tok) (s : Shared) (Q : Value → Shared → Prop) (E : Value → Shared → Prop), Q (.int (g i j) s.toks) { s with toks := s.toks + 1 } → wpAny (model X.prog X.w) X.A (f (.int i t) (.int j u)) Q E s) :
    OpR X f (rI0 fun i j => .int (g i j)) := by
  intro pins s σ H x y v u Q I rx ry h
  obtain ⟨i, j, rfl, rfl, q⟩ := h
  obtain ⟨t, rfl⟩ := rx
  obtain ⟨t', rfl⟩ := ry
  exact rule i j t t' s _ _ ⟨.int (g i j), H, I.tok _, ⟨_, rfl⟩, q⟩
theorem opB0 {f : Value → Value → Sem Value} {g : Int → Int → Bool}
    (rule : ∀ (i j : Int) (t u : Tok) (s : Shared) (Q : Value → Shared → Prop) (E : Value → Shared → Prop), Q (.bool (g i j)) s → wpAny (model X.prog X.w) X.A (f (.int i t) (.int j u)) Q E s) :
    OpR X f (rI0 fun i j => .bl (g i j)) := by
  intro pins s σ H x y v u Q I rx ry h
  obtain ⟨i, j, rfl, rfl, q⟩ := h
  obtain ⟨t, rfl⟩ := rx
  obtain ⟨t', rfl⟩ := ry
  exact rule i j t t' s _ _ ⟨.bl (g i j), H, I, rfl, q⟩
noncomputable def CDiv (i j : Int) : Prop := 0 < j ∧ j < 1073741824
noncomputable def CPow (i j : Int) : Prop := 0 ≤ j ∧ j ≤ 1000000 ∧ i.natAbs < 2 ^ 64
noncomputable def CMul (i j : Int) : Prop := (-(2 ^ 64) < i ∧ i < 2 ^ 64) ∨ (-(2 ^ 64) < j ∧ j < 2 ^ 64)
theorem CMul.ok {i j : Int} (h : CMul i j) : IntMulOk i j := by
  rcases h with ⟨h1, h2⟩ | ⟨h1, h2⟩
  · exact .of_left (intBits_le_64 h1 h2)
  · exact .of_right (intBits_le_64 h1 h2)
theorem op_add : OpR X (binaryOp .Add) (rI0 fun i j => .int (i + j)) := opI0 fun _ _ _ _ _ _ _ q => add_int q
theorem op_sub : OpR X (binaryOp .Sub) (rI0 fun i j => .int (i - j)) := opI0 fun _ _ _ _ _ _ _ q => sub_int q
theorem op_mul : OpR X (binaryOp .Mult) (rI CMul fun i j => .int (i * j)) := opI fun _ _ _ _ _ _ _ hc q => mul_int q hc.ok
theorem op_fdiv : OpR X (binaryOp .FloorDiv) (rI CDiv fun i j => .int (i / j)) := opI fun i j _ _ _ _ _ hc q => by
  have h1 : (0 : Int) < j := hc.1
  have h2 : j < 1073741824 := hc.2
  exact floordiv_int (by omega) (by rw [Int.fdiv_eq_ediv_of_nonneg i (by omega)]; exact q) (.inl (PyProof.noPylong_small (by omega)))
theorem op_mod : OpR X (binaryOp .Mod) (rI (fun _ j => 0 < j) fun i j => .int (i % j)) := opI fun i j _ _ _ _ _ hc q => by
  have h1 : (0 : Int) < j := hc
  exact mod_int' (by omega) (by rw [Int.fmod_eq_emod_of_nonneg i (by omega)]; exact q)
theorem op_pow : OpR X (binaryOp .Pow) (rI CPow fun i j => .int (i ^ j.toNat)) := opI fun _ _ _ _ _ _ _ hc q => pow_int_small hc.1 hc.2.1 hc.2.2 q
theorem unI {f : Value → Sem Value} {g : Int → Int}
    (rule : ∀ (i : Int) (t : Tok) (s : Shared) (Q : Value → Shared → Prop) (E : Value → Shared → Prop), Q (.int (g i) s.toks) { s with toks := s.toks + 1 } → wpAny (model X.prog X.w) X.A (f (.int i t)) Q E s) :
    UnR X f (rU fun i => .int (g i)) := by
  intro pins s σ H x v Q I rx h
  obtain ⟨i, rfl, q⟩ := h
  obtain ⟨t, rfl⟩ := rx
  exact rule i t s _ _ ⟨.int (g i), H, I.tok _, ⟨_, rfl⟩, q⟩
theorem un_neg : UnR X (unaryOp .USub) (rU fun i => .int (-i)) := unI fun _ _ _ _ _ q => neg_int q
end
noncomputable def scal : V → V → Bool
  | .non, .non => true | .non, .int _ => true | .int _, .non => true | .non, .bl _ => true | .bl _, .non => true | .non, .str _ => true | .str _, .non => true
  | .int _, .int _ => true | .bl _, .bl _ => true | .str _, .str _ => true | .byt _, .byt _ => true
  | .int _, .str _ => true | .str _, .int _ => true | .bl _, .str _ => true | .str _, .bl _ => true
  | _, _ => false
noncomputable def rEq : R2 := fun x y H Q => scal x y = true ∧ Q (.bl (decide (x = y))) H
noncomputable def rNe : R2 := fun x y H Q => scal x y = true ∧ Q (.bl (!decide (x = y))) H
theorem dec_int {i j : Int} : decide (V.int i = V.int j) = (i == j) := by
  rw [Bool.eq_iff_iff]
  simp
theorem dec_bl {i j : Bool} : decide (V.bl i = V.bl j) = (i == j) := by
  rw [Bool.eq_iff_iff]
  simp
theorem dec_str {i j : Str} : decide (V.str i = V.str j) = (i == j) := by
  rw [Bool.eq_iff_iff]
  simp
theorem dec_byt {i j : Array UInt8} : decide (V.byt i = V.byt j) = (i.toList == j.toList) := by
  rw [Bool.eq_iff_iff]
  cases i
  cases j
  simp
section
variable {X : Cx} {a b c : Expr} {ta tb tc : TE} {pos : Pos}
theorem fin_bl {pins : List (Addr × Obj)} {σ : St} {H : Hp} {s : Shared} {Q : VK} {k k' : Bool} (I : Inv X pins σ H s) (q : Q (.bl k) H) (e : k = k') : EP X pins σ Q (.bool k') s := by
  subst e
  exact ⟨.bl k, H, I, rfl, q⟩
theorem op_eq : OpR X (compareOp .Eq) rEq := by
  intro pins s σ H x y v u Q I rx ry h
  obtain ⟨hs, q⟩ := h
  cases x with
  | non =>
    cases rx
    cases y with
    | non => cases ry; exact PySem.EqNone.eq_none_none (fin_bl I q (by simp))
    | bl j => cases ry; exact PySem.EqNone.eq_none_bool (fin_bl I q (by simp))
    | int j => obtain ⟨t', rfl⟩ := ry; exact PySem.EqNone.eq_none_int (fin_bl I q (by simp))
    | str j => obtain ⟨t', rfl⟩ := ry; exact PySem.EqNone.eq_none_str (fin_bl I q (by simp))
    | _ => exact absurd (show false = true from hs) Bool.false_ne_true
  | bl i =>
    cases rx
    cases y with
    | non => cases ry; exact PySem.EqNone.eq_bool_none (fin_bl I q (by simp))
    | bl j => cases ry; exact eq_bool (fin_bl I q dec_bl)
    | str j => obtain ⟨t', rfl⟩ := ry; exact PySem.EqMixed.eq_bool_str (fin_bl I q (by simp))
    | _ => exact absurd (show false = true from hs) Bool.false_ne_true
  | int i =>
    obtain ⟨t, rfl⟩ := rx
    cases y with
    | non => cases ry; exact PySem.EqNone.eq_int_none (fin_bl I q (by simp))
    | int j => obtain ⟨t', rfl⟩ := ry; exact eq_int (fin_bl I q dec_int)
    | str j => obtain ⟨t', rfl⟩ := ry; exact PySem.EqMixed.eq_int_str (fin_bl I q (by simp))
    | _ => exact absurd (show false = true from hs) Bool.false_ne_true
  | str i =>
    obtain ⟨t, rfl⟩ := rx
    cases y with
    | non => cases ry; exact PySem.EqNone.eq_str_none (fin_bl I q (by simp))
    | bl j => cases ry; exact PySem.EqMixed.eq_str_bool (fin_bl I q (by simp))
    | int j => obtain ⟨t', rfl⟩ := ry; exact PySem.EqMixed.eq_str_int (fin_bl I q (by simp))
    | str j => obtain ⟨t', rfl⟩ := ry; exact eq_str (fin_bl I q dec_str)
    | _ => exact absurd (show false = true from hs) Bool.false_ne_true
  | byt i =>
    obtain ⟨t, rfl⟩ := rx
    cases y with
    | byt j => obtain ⟨t', rfl⟩ := ry; exact PySem.W.eq_bytes (fin_bl I q dec_byt)
    | _ => exact absurd (show false = true from hs) Bool.false_ne_true
  | _ => cases y <;> exact absurd (show false = true from hs) Bool.false_ne_true
theorem op_ne : OpR X (compareOp .NotEq) rNe := by
  intro pins s σ H x y v u Q I rx ry h
  obtain ⟨hs, q⟩ := h
  cases x with
  | non =>
    cases rx
    cases y with
    | non => cases ry; exact PySem.EqNone.ne_none_none (fin_bl I q (by simp))
    | bl j => cases ry; exact PySem.EqNone.ne_none_bool (fin_bl I q (by simp))
    | int j => obtain ⟨t', rfl⟩ := ry; exact PySem.EqNone.ne_none_int (fin_bl I q (by simp))
    | str j => obtain ⟨t', rfl⟩ := ry; exact PySem.EqNone.ne_none_str (fin_bl I q (by simp))
    | _ => exact absurd (show false = true from hs) Bool.false_ne_true
  | bl i =>
    cases rx
    cases y with
    | non => cases ry; exact PySem.EqNone.ne_bool_none (fin_bl I q (by simp))
    | bl j => cases ry; exact ne_bool (fin_bl I q (congrArg not dec_bl))
    | str j => obtain ⟨t', rfl⟩ := ry; exact PySem.EqMixed.ne_bool_str (fin_bl I q (by simp))
    | _ => exact absurd (show false = true from hs) Bool.false_ne_true
  | int i =>
    obtain ⟨t, rfl⟩ := rx
    cases y with
    | non => cases ry; exact PySem.EqNone.ne_int_none (fin_bl I q (by simp))
    | int j => obtain ⟨t', rfl⟩ := ry; exact ne_int (fin_bl I q (congrArg not dec_int))
    | str j => obtain ⟨t', rfl⟩ := ry; exact PySem.EqMixed.ne_int_str (fin_bl I q (by simp))
    | _ => exact absurd (show false = true from hs) Bool.false_ne_true
  | str i =>
    obtain ⟨t, rfl⟩ := rx
    cases y with
    | non => cases ry; exact PySem.EqNone.ne_str_none (fin_bl I q (by simp))
    | bl j => cases ry; exact PySem.EqMixed.ne_str_bool (fin_bl I q (by simp))
    | int j => obtain ⟨t', rfl⟩ := ry; exact PySem.EqMixed.ne_str_int (fin_bl I q (by simp))
    | str j => obtain ⟨t', rfl⟩ := ry; exact ne_str (fin_bl I q (congrArg not dec_str))
    | _ => exact absurd (show false = true from hs) Bool.false_ne_true
  | byt i =>
    obtain ⟨t, rfl⟩ := rx
    cases y with
    | byt j => obtain ⟨t', rfl⟩ := ry; exact PySem.W.ne_bytes (fin_bl I q (congrArg not dec_byt))
    | _ => exact absurd (show false = true from hs) Bool.false_ne_true
  | _ => cases y <;> exact absurd (show false = true from hs) Bool.false_ne_true
theorem op_lt : OpR X (compareOp .Lt) (rI0 fun i j => .bl (decide (i < j))) := opB0 fun _ _ _ _ _ _ _ q => lt_int q
theorem op_le : OpR X (compareOp .LtE) (rI0 fun i j => .bl (decide (i ≤ j))) := opB0 fun _ _ _ _ _ _ _ q => le_int q
theorem op_lt_str : OpR X (compareOp .Lt) (fun x y H Q => ∃ i j, x = .str i ∧ y = .str j ∧ Q (.bl (decide (i.cps.toList < j.cps.toList))) H) := by
  intro pins s σ H x y v u Q I rx ry h
  obtain ⟨i, j, rfl, rfl, q⟩ := h
  obtain ⟨t, rfl⟩ := rx
  obtain ⟨t', rfl⟩ := ry
  exact lt_str (fin_bl I q rfl)
theorem op_isN : OpR X (compareOp .Is) (fun x y H Q => y = .non ∧ Q (.bl (decide (x = .non))) H) := by
  intro pins s σ H x y v u Q I rx ry h
  obtain ⟨rfl, q⟩ := h
  cases ry
  refine is_none_gen (fin_bl I q ?_)
  cases x <;> first
    | (cases rx; rfl)
    | (obtain ⟨t, rfl⟩ := rx; rfl)
theorem nomark (b : Expr) {op : CmpOp} (h : op ≠ .In := by decide) (h2 : op ≠ .NotIn := by decide) : behindInMarks op b = false := by
  have e1 : (op == CmpOp.In) = false := by cases op <;> first | rfl | exact absurd rfl h
  have e2 : (op == CmpOp.NotIn) = false := by cases op <;> first | rfl | exact absurd rfl h2
  cases b <;> simp [behindInMarks, e1, e2]
theorem pe_cmpR {op : CmpOp} {r : R2} (ho : OpR X (compareOp op) r) (ha : PE X a ta) (hb : PE X b tb) (hm : behindInMarks op b = false) : PE X (.Compare a [op] [b] pos) (tOp r ta tb) := by
  intro pins s σ H Q I h
  exact wpAny_Compare1 (binT ha hb I h fun v u s2 x y H2 I2 rx ry q => ho pins s2 σ H2 x y v u Q I2 rx ry q) hm
noncomputable def tTest (t : TE) : TT := fun σ H Q => t σ H fun x H' => ∃ k, x = .bl k ∧ Q k H'
theorem pt_cmpR {op : CmpOp} {r : R2} (ho : OpR X (compareOp op) r) (ha : PE X a ta) (hb : PE X b tb) (hm : behindInMarks op b = false) : PT X (.Compare a [op] [b] pos) (tTest (tOp r ta tb)) := by
  intro pins s σ H Q I h
  refine wpAny_isTrue_Compare1 (thn (ha pins s σ H _ I h) fun v s1 ⟨x, H1, I1, r1, q1⟩ => thn (hb pins s1 σ H1 _ I1 q1) fun u s2 ⟨y, H2, I2, r2, q2⟩ =>
    thn (ho pins s2 σ H2 x y v u _ I2 r1 r2 q2) fun c s3 ⟨z, H3, I3, r3, k, e, q3⟩ => ?_) hm
  subst e
  cases r3
  exact wpAny_truthy_bool ⟨H3, I3, q3⟩
noncomputable def tChain (r r' : R2) (ta tb tc : TE) : TE := fun σ H Q => ta σ H fun x H1 => tb σ H1 fun y H2 => r x y H2 fun z H3 => ∃ k, z = .bl k ∧
  (if k = true then tc σ H3 fun w' H4 => r' y w' H4 Q else Q (.bl false) H3)
theorem line63 : (sizeLine : Nat) < 2 ^ 63 := by rw [sizeLine_eq]; decide
theorem op_add_str : OpR X (binaryOp .Add) (fun x y H Q => ∃ i j, x = .str i ∧ y = .str j ∧ i.length + j.length ≤ sizeLine ∧ Q (.str (i ++ j)) H) := by
  intro pins s σ H x y v u Q I rx ry h
  obtain ⟨i, j, rfl, rfl, hz, q⟩ := h
  obtain ⟨t, rfl⟩ := rx
  obtain ⟨t', rfl⟩ := ry
  exact add_str (fun t' tk => ⟨.str (i ++ j), H, I.tok _, ⟨_, rfl⟩, q⟩) hz
theorem vals1 {x : V} {us : List Value} (r : Vals [x] us) : ∃ u, us = [u] ∧ RelV x u := by
  cases r with
  | cons r1 r2 => cases r2; exact ⟨_, rfl, r1⟩
theorem vals2 {x y : V} {us : List Value} (r : Vals [x, y] us) : ∃ u w', us = [u, w'] ∧ RelV x u ∧ RelV y w' := by
  cases r with
  | cons r1 r2 =>
    cases r2 with
    | cons r3 r4 => cases r4; exact ⟨_, _, rfl, r1, r3⟩
theorem call_min2 (hc : X.calm = true) : CallR X (.builtin "min") (fun xs H Q => ∃ i j, xs = [.int i, .int j] ∧ Q (.int (if j < i then j else i)) H) := by
  intro pins s σ H xs us Q I r h
  obtain ⟨i, j, rfl, q⟩ := h
  obtain ⟨u, w', rfl, ⟨t, rfl⟩, ⟨t', rfl⟩⟩ := vals2 r
  refine min_two_ints (I.ok.hd hc) fun h' tk k => ⟨_, H, I.kept k, ?_, q⟩
  by_cases hj : j < i
  · rw [if_pos hj, if_pos hj]; exact ⟨_, rfl⟩
  · rw [if_neg hj, if_neg hj]; exact ⟨_, rfl⟩
noncomputable def LenV (K : PySem.W.Frag) (x : V) (H : Hp) (n : Nat) : Prop :=
  match x with
  | .str y => y.length ≤ sizeLine ∧ n = y.length
  | .byt y => y.size ≤ sizeLine ∧ n = y.size
  | .ref p => (∃ xs, SqL K H p xs ∧ n = xs.length) ∨ ∃ xs, SqT K H p xs ∧ n = xs.length
  | _ => False
end
end L2
namespace L2
open PySem PySem.Spec PyProof.Rows
structure ObjM (h : Heap) (x dx C : Addr) (mA : Str → Option Value) : Prop where
  obj : h.get? x = some (PySem.W.instObj C dx)
  ns : h.Ns1 dx mA
  ne : dx ≠ x
theorem lookIn_ns {h : Heap} {dx : Addr} {mA : Str → Option Value} (n : h.Ns1 dx mA) : ∃ od, h.get? dx = some od ∧ ∀ name, PySem.W.lookIn name od = some (mA name) := by
  obtain ⟨o, es, ep, ho, hd, hk, _, hm⟩ := n
  refine ⟨o, ho, fun name => ?_⟩
  have e := hm name
  unfold nsFind findBy at e
  rw [← Array.find?_toList] at e
  unfold PySem.W.lookIn
  rw [hd]
  dsimp only
  split
  · rename_i y q
    rw [q] at e
    exact congrArg some e
  · rename_i q
    rw [q] at e
    have a : es.toList.any (·.refKey) = false := by
      rw [List.any_eq_false]
      intro y hy
      obtain ⟨z, t, hkey⟩ := hk y (Array.mem_toList_iff.mp hy)
      simp [DictEntry.refKey, hkey]
    have a' : ¬ es.toList.any (·.refKey) = true := by rw [a]; exact Bool.false_ne_true
    rw [if_neg a']
    exact congrArg some e
theorem ObjM.look {h : Heap} {x dx C : Addr} {mA : Str → Option Value} (I : ObjM h x dx C mA) : ∃ od, PySem.W.InstAt h x (PySem.W.instObj C dx) C (some od) ∧ ∀ name, PySem.W.lookIn name od = some (mA name) :=
  let ⟨od, ho, hl⟩ := lookIn_ns I.ns
  ⟨od, ⟨I.obj, rfl, rfl, ho⟩, hl⟩
section
variable {prog : Program} {w : World} {A : Around} {E : Value → Shared → Prop} {s : Shared} {K : PySem.W.Frag} {x dx C f : Addr} {mA : Str → Option Value} {name : Str} {v : Value}
theorem get_meth {pl : Sem Bool} {Q : Value × List Value → Shared → Prop} (X : K.In s.heap) (I : ObjM s.heap x dx C mA) (hg : PySem.W.plainGet K C name = true)
    (hf : PySem.W.findIn K (.ref C) name = some (some (.ref f))) (ht : PySem.W.isFn K (.ref f) = true) (hv : mA name = none) (h : Q (.ref f, [.ref x]) s) :
    wpAny (model prog w) A (getMethod (.ref x) name pl) Q E s := by
  obtain ⟨od, J, hl⟩ := I.look
  exact PySem.W.method_fn X J (PySem.W.plainGet_of hg).1 (PySem.W.plainGet_of hg).2 hf (beq_iff_eq.mp ht) (by show (PySem.W.lookIn name od).map (·.isSome) = some false; rw [hl, hv]; rfl) h
end
noncomputable def putF (f : Str) (v : V) : List (Str × V) → List (Str × V)
  | [] => [(f, v)]
  | (g, x) :: r => if g = f then (g, v) :: r else (g, x) :: putF f v r
theorem RelO.some_of {v : V} {o : Option Value} (r : RelO (some v) o) : ∃ u, o = some u ∧ RelV v u := by
  cases o with
  | none => exact (show False from r).elim
  | some u => exact ⟨u, rfl, r⟩
theorem RelO.none_of {o : Option Value} (r : RelO none o) : o = none := by
  cases o with
  | none => rfl
  | some u => exact (show False from r).elim
section
variable {P : Program} {w : World} {H H' : Hp} {h h' : Heap} {a C dx : Addr} {fs fs' : List (Str × V)}
theorem ins_get (hok : HOk P w H h) (e : H a = some (.ins C dx fs)) : ∃ mA, ObjM h a dx C mA ∧ (∀ f, RelO (fs.lookup f) (mA f)) ∧ PySem.Within mA (fs.map (·.1)) ∧ fs.length ≤ 1000 ∧ H dx = some (.own a) := by
  obtain ⟨d, z, ne, ob, mA, n, r, q⟩ := (show ObjOk P w H h a (.ins C dx fs) from hok a _ e)
  exact ⟨mA, ⟨ob, n, ne⟩, r, q, z, d⟩
end
structure Cls (K : PySem.W.Frag) (C : Addr) : Prop where
  pg : PySem.W.plainGet K C Str.empty = true
  hd : PySem.W.hasDictIn K C = true
  po : PySem.W.plainOver K C = true
  sa : PySem.W.findIn K (.ref C) "__setattr__" = some (some (.builtin "object.__setattr__"))
theorem Cls.get {K : PySem.W.Frag} {C : Addr} (c : Cls K C) (f : Str) : PySem.W.plainGet K C f = true := c.pg
noncomputable def NoAttr (K : PySem.W.Frag) (C : Addr) (f : Str) : Prop := PySem.W.findIn K (.ref C) f = some none
structure Meth (K : PySem.W.Frag) (C : Addr) (m : Str) (f : Addr) : Prop where
  at_ : PySem.W.findIn K (.ref C) m = some (some (.ref f))
  fn : PySem.W.isFn K (.ref f) = true
  kp : PySem.W.keepIn K (.ref f) = true
section
variable {X : Cx} {pins : List (Addr × Obj)} {σ : St} {H : Hp} {s : Shared} {a C dx : Addr} {fs : List (Str × V)} {f : Str} {v : V} {A : Around} {E : Value → Shared → Prop}
theorem getmeth_ok {m : Str} {g : Addr} {pl : Sem Bool} {Q : Value × List Value → Shared → Prop} (I : Inv X pins σ H s) (e : H a = some (.ins C dx fs)) (c : Cls X.K C) (k : Meth X.K C m g) (l : fs.lookup m = none)
    (h : Q (.ref g, [.ref a]) s) : wpAny (model X.prog X.w) A (getMethod (.ref a) m pl) Q E s := by
  obtain ⟨mA, O, r, _, _, _⟩ := ins_get I.hok e
  have hn : mA m = none := RelO.none_of (by rw [← l]; exact r m)
  exact get_meth I.kIn O (c.get m) k.at_ k.fn hn h
end
noncomputable def tFld (K : PySem.W.Frag) (ta : TE) (f : Str) : TE := fun σ H Q => ta σ H fun x H1 => ∃ a C dx fs v, x = .ref a ∧ H1 a = some (.ins C dx fs) ∧ Cls K C ∧ NoAttr K C f ∧ fs.lookup f = some v ∧ Q v H1
noncomputable def sFld (K : PySem.W.Frag) (ta tv : TE) (f : Str) : TS := fun D σ H => tv σ H fun y H1 => ta σ H1 fun x H2 => ∃ a C dx fs, x = .ref a ∧ H2 a = some (.ins C dx fs) ∧ Cls K C ∧ NoAttr K C f ∧ fs.length < 1000 ∧
  D.nx σ (upd H2 a (.ins C dx (putF f y fs)))
section
variable {X : Cx} {o e value : Expr} {f : Str} {pos pos' tpos : Pos} {ta tv : TE}
end
section
variable {X : Cx} {pins : List (Addr × Obj)} {σ : St} {H : Hp} {s : Shared} {A : Around} {E : Value → Shared → Prop} {Q : Value → Shared → Prop} {c : Value} {b : Bool}
inductive TyOf (K : PySem.W.Frag) (H : Hp) : V → Value → Prop where
  | non : TyOf K H .non (.type "NoneType")
  | bl (x : Bool) : TyOf K H (.bl x) (.type "bool")
  | int (i : Int) : TyOf K H (.int i) (.type "int")
  | str (x : Str) : TyOf K H (.str x) (.type "str")
  | flt (x : UInt64) : TyOf K H (.flt x) (.type "float")
  | lst {a : Addr} {xs : List V} (e : H a = some (.lst xs)) : TyOf K H (.ref a) (.type "list")
  | frz {a : Addr} {o : Obj} {xs : List V} (e : H a = some (.frz o (.lst xs))) : TyOf K H (.ref a) (.type "list")
  | tup {a : Addr} {xs : List V} (e : H a = some (.tup xs)) : TyOf K H (.ref a) (.type "tuple")
  | dK {a : Addr} {kvs : List (Key × V)} (e : H a = some (.dK kvs)) : TyOf K H (.ref a) (.type "dict")
  | dT {a : Addr} {kvs : List (List NKey × V)} (e : H a = some (.dT kvs)) : TyOf K H (.ref a) (.type "dict")
  | ins {a C dx : Addr} {fs : List (Str × V)} (e : H a = some (.ins C dx fs)) (cl : Cls K C) (ha : PySem.W.findIn K (.ref C) "__class__" = some (some (.builtin "object.__class__")))
      (hn : PySem.W.specialIn K (.builtin "object.__class__") "__get__" = some (some (.builtin "getset_descriptor.__get__"))) (htk : PySem.W.takesIn K (.builtin "object.__class__") = some true)
      (hm : PySem.W.mroIn K C (.type "object") = some true) : TyOf K H (.ref a) (.ref C)
theorem isinst_ok {x : V} {u t : Value} (I : Inv X pins σ H s) (rx : RelV x u) (ty : TyOf X.K H x t) (e : PySem.W.kitOne X.K t c = some b) (h : ∀ tk, Q (.bool b) { s with toks := tk }) :
    wpAny (model X.prog X.w) A (call (.builtin "isinstance") [u, c]) Q E s := by
  cases ty with
  | non => cases (show u = Value.none from rx); exact PySem.W.kia_one PySem.W.kitx_none I.kIn True.intro e (fun z => nomatch z) h
  | bl y => cases (show u = Value.bool y from rx); exact PySem.W.kia_one PySem.W.kitx_bool I.kIn True.intro e (fun z => nomatch z) h
  | int i => obtain ⟨t, q⟩ := (show ∃ t, u = Value.int i t from rx); cases q; exact PySem.W.kia_one PySem.W.kitx_int I.kIn True.intro e (fun z => nomatch z) h
  | str y => obtain ⟨t, q⟩ := (show ∃ t, u = Value.str y t from rx); cases q; exact PySem.W.kia_one PySem.W.kitx_str I.kIn True.intro e (fun z => nomatch z) h
  | flt y => obtain ⟨t, q⟩ := (show ∃ t, u = Value.float y t from rx); cases q; exact PySem.W.kia_one PySem.W.kitx_float I.kIn True.intro e (fun z => nomatch z) h
  | @lst a xs ea =>
    cases (show u = Value.ref a from rx)
    obtain ⟨_, _, n, _, h1⟩ := (show ObjOk X.prog X.w H s.heap a (.lst xs) from I.hok a _ ea)
    exact PySem.W.kia_one PySem.W.kitx_list I.kIn ⟨_, h1, rfl⟩ e (fun z => nomatch z) h
  | @frz a ob xs ea =>
    cases (show u = Value.ref a from rx)
    obtain ⟨_, _, _, n, _, h1⟩ := (show ObjOk X.prog X.w H s.heap a (.frz ob (.lst xs)) from I.hok a _ ea)
    exact PySem.W.kia_one PySem.W.kitx_list I.kIn ⟨_, h1, rfl⟩ e (fun z => nomatch z) h
  | @tup a xs ea =>
    cases (show u = Value.ref a from rx)
    obtain ⟨_, _, _, p⟩ := (show ObjOk X.prog X.w H s.heap a (.tup xs) from I.hok a _ ea)
    obtain ⟨o, h1, h2, _⟩ := p
    exact PySem.W.kia_one PySem.W.kitx_tuple I.kIn ⟨o, h1, h2⟩ e (fun z => nomatch z) h
  | @dK a kvs ea =>
    cases (show u = Value.ref a from rx)
    obtain ⟨_, _, vs, _, p⟩ := (show ObjOk X.prog X.w H s.heap a (.dK kvs) from I.hok a _ ea)
    obtain ⟨o, es, ep, h1, h2, _⟩ := p
    exact PySem.W.kia_one PySem.W.kitx_dict I.kIn ⟨o, h1, h2.1⟩ e (fun z => nomatch z) h
  | @dT a kvs ea =>
    cases (show u = Value.ref a from rx)
    obtain ⟨_, _, xs, _, o, es, ep, h1, h2, _⟩ := (show ObjOk X.prog X.w H s.heap a (.dT kvs) from I.hok a _ ea)
    exact PySem.W.kia_one PySem.W.kitx_dict I.kIn ⟨o, h1, h2.1⟩ e (fun z => nomatch z) h
  | @ins a C dx fs ea cl ha hn htk hm =>
    cases (show u = Value.ref a from rx)
    obtain ⟨mA, O, _⟩ := ins_get I.hok ea
    obtain ⟨od, J, _⟩ := O.look
    exact PySem.W.kia_one (PySem.W.kitx_own (cl.get _) cl.hd ha hn htk hm) I.kIn J e (fun z => nomatch z) h
end
end L2
namespace L2
open PySem PySem.Spec PyProof.Rows
structure Room (k : Nat) (A : Around) : Prop where
  hd : A.handled = none
  dp : A.depth + 3 * k + 5 < recursionLimit
  un : A.units + 16 * k + 200 < cLine
theorem Room.mono {j k : Nat} {A : Around} (r : Room k A) (h : j ≤ k) : Room j A := ⟨r.hd, by have := r.dp; omega, by have := r.un; omega⟩
theorem Room.deeper {k : Nat} {A : Around} (r : Room (k + 1) A) (env : Env) : Room k (A.deeper env) :=
  ⟨r.hd, by have := r.dp; show A.depth + 1 + 3 * k + 5 < _; omega, by have := r.un; show A.units + 3 + 16 * k + 200 < _; omega⟩
theorem Room.in1 {k : Nat} {A : Around} (r : Room (k + 1) A) : Room k A.in1 :=
  ⟨r.hd, by have := r.dp; show A.depth + 3 * k + 5 < _; omega, by have := r.un; show A.units + 1 + 16 * k + 200 < _; omega⟩
theorem Room.depth {k : Nat} {A : Around} (r : Room k A) : A.depth < recursionLimit := by have := r.dp; omega
theorem Room.units {k : Nat} {A : Around} (r : Room k A) : A.units + 64 < cLine := by have := r.un; omega
noncomputable def tNil : TA := fun _ H Q => Q [] H
noncomputable def tCons (ta : TE) (tr : TA) : TA := fun σ H Q => ta σ H fun x H1 => tr σ H1 fun xs H2 => Q (x :: xs) H2
section
variable {X : Cx} {e : Expr} {es : List Expr} {te : TE} {t : TA} {pos : Pos}
theorem pa_nil : PA X [] tNil := fun _ _ _ _ H Q I h => Calls.spliced_nil ⟨[], H, I, .nil, h⟩
theorem pa_cons (ha : PE X e te) (hr : PA X es t) (hs : starEach (e :: es) X.env = (false, eval e X.env) :: starEach es X.env := by rfl) : PA X (e :: es) (tCons te t) := by
  intro pos pins s σ H Q I h
  rw [hs]
  show wpAny _ _ (spliced ((false, eval e X.env) :: backTo pos (starEach es X.env))) _ _ s
  refine Calls.spliced_cons (thn (ha pins s σ H _ I h) fun u s1 ⟨x, H1, I1, r1, q1⟩ => ?_)
  exact thn (hr pos pins s1 σ H1 _ I1 q1) fun us s2 ⟨xs, H2, I2, r2, q2⟩ => ⟨x :: xs, H2, I2, .cons r1 r2, q2⟩
noncomputable def tTup (t : TA) : TE := fun σ H Q => t σ H fun xs H1 => xs.length ≤ sizeLine ∧ ∀ p, H1 p = none → Q (.ref p) (upd H1 p (.tup xs))
noncomputable def tLst (t : TA) : TE := fun σ H Q => t σ H fun xs H1 => xs.length ≤ sizeLine ∧ ∀ p, H1 p = none → Q (.ref p) (upd H1 p (.lst xs))
theorem pe_tup {x1} (h : PA X es t) : PE X (.Tuple es x1 pos) (tTup t) := by
  intro pins s σ H Q I hq
  refine wpAny_Tuple_spliced (thn (h pos pins s σ H _ I hq) fun us s1 ⟨xs, H1, I1, r, z, q⟩ => ⟨by rw [← r.length]; exact z, ?_⟩)
  have hf : H1 s1.heap.objs.size = none := I1.hok.fresh (Nat.le_refl _)
  refine ⟨.ref s1.heap.objs.size, upd H1 s1.heap.objs.size (.tup xs), I1.laid (t' := s1.toks) (fun b u e => Heap.get?_push_of_some _ e) (Nat.le_refl _) ?_, rfl, q _ hf⟩
  exact ⟨z, us, r, ⟨_, Heap.get?_push_size _ rfl, rfl, _, rfl⟩⟩
theorem pe_lst (h : PA X es t) : PE X (.List es pos) (tLst t) := by
  intro pins s σ H Q I hq
  refine wpAny_List_spliced (thn (h pos pins s σ H _ I hq) fun us s1 ⟨xs, H1, I1, r, z, q⟩ => ⟨by rw [← r.length]; exact z, ?_⟩)
  have hf : H1 s1.heap.objs.size = none := I1.hok.fresh (Nat.le_refl _)
  refine ⟨.ref s1.heap.objs.size, upd H1 s1.heap.objs.size (.lst xs), I1.laid (t' := s1.toks) (fun b u e => Heap.get?_push_of_some _ e) (Nat.le_refl _) ?_, rfl, q _ hf⟩
  exact ⟨z, us, 0, r, Heap.get?_push_size _ rfl⟩
end
noncomputable abbrev Sp := List V → Hp → VK → XK → Prop
noncomputable abbrev CXT := List Env → Hp → Shared → XK → Value → Shared → Prop
structure Env0 (P : Program) (w : World) (K : PySem.W.Frag) (mg : Str → Option Value) (base : Heap) (A : Around) (outer : List Env) (s : Shared) (H : Hp) : Prop where
  frames : A.frames = some outer
  mod : Mod K mg base
  bs : ∀ b o, base.get? b = some o → s.heap.get? b = some o ∧ H b = none
  bsz : base.objs.size ≤ s.heap.objs.size
  funs : s.heap.FunFrames base outer
  frf : ∀ b ∈ frs outer, H b = none
  hok : HOk P w H s.heap
  bare : AllBare s.gens
noncomputable def CE (outer : List Env) (P : Program) (w : World) (H : Hp) (s : Shared) (Q : VK) (u : Value) (s' : Shared) : Prop :=
  ∃ v H', s'.os = s.os ∧ AllBare s'.gens ∧ Un (frs outer) [] H H' s.heap s'.heap ∧ HOk P w H' s'.heap ∧ RelV v u ∧ Q v H'
noncomputable def CR (CX : CXT) (outer : List Env) (P : Program) (w : World) (H : Hp) (s : Shared) (Q : VK) (E : XK) (r : Result) (s' : Shared) : Prop :=
  match r with
  | .ok (.ret u) => CE outer P w H s Q u s'
  | .ok _ => False
  | .error e => CX outer H s E e s'
structure FnOk (P : Program) (w : World) (K : PySem.W.Frag) (mg : Str → Option Value) (base : Heap) (CX : CXT) (k : Nat) (f : Addr) (fd : FuncData) (ps : List Str) (sp : Sp) : Prop where
  len : ∀ vs H Q E, sp vs H Q E → vs.length = ps.length
  run : ∀ (A : Around) (outer : List Env) (s : Shared) (H : Hp) (args : Args) (us : List Value) (vs : List V) (Q : VK) (E : XK), Room k A → Env0 P w K mg base A outer s H → BindsTo s fd args (ps.zip us) → Vals vs us → sp vs H Q E →
    codeAny (model P w) A (.call (.ref f) args) (CR CX outer P w H s Q E) s
theorem Env0.in1 {P : Program} {w : World} {K : PySem.W.Frag} {mg : Str → Option Value} {base : Heap} {A : Around} {outer : List Env} {s : Shared} {H : Hp} (e : Env0 P w K mg base A outer s H) :
    Env0 P w K mg base A.in1 outer s H := ⟨e.frames, e.mod, e.bs, e.bsz, e.funs, e.frf, e.hok, e.bare⟩
section
variable {X : Cx} {pins : List (Addr × Obj)} {σ : St} {H : Hp} {s s' : Shared}
theorem Inv.env0 (I : Inv X pins σ H s) : Env0 X.prog X.w X.K X.mg X.base X.A X.stack s H :=
  ⟨I.ok.frames, I.ok.mod, I.bs, Nat.le_trans I.ok.bsz I.sz, I.stack, I.stkFree, I.hok, I.bare⟩
theorem Inv.after {Q : VK} {u : Value} (I : Inv X pins σ H s) (h : CE X.stack X.prog X.w H s Q u s') : EP X pins σ Q u s' := by
  obtain ⟨v, H', os, bare, un, hok, r, q⟩ := h
  obtain ⟨hh, g, d, t, os'⟩ := s'
  obtain rfl : os' = s.os := os
  exact ⟨v, H', I.call (h' := hh) (g' := g) (d' := d) (t' := t) (ch := []) un hok bare (fun b z => absurd z (by simp)), r, q⟩
end
noncomputable def tCall (sp : Sp) (dvs : List V) (E : XK) (t : TA) : TE := fun σ H Q => t σ H fun vs H1 => sp (vs ++ dvs) H1 Q E
noncomputable def tMeth (C : Addr) (m : Str) (sp : Sp) (dvs : List V) (E : XK) (ta : TE) (t : TA) : TE := fun σ H Q => ta σ H fun x H1 => ∃ a dx fs, x = .ref a ∧ H1 a = some (.ins C dx fs) ∧ fs.lookup m = none ∧
  t σ H1 fun vs H2 => sp (x :: (vs ++ dvs)) H2 Q E
noncomputable def Binds (K : PySem.W.Frag) (fd : FuncData) (ps : List Str) (ds : List Value) : Prop :=
  ∀ (s : Shared) (us : List Value), K.In s.heap → (us ++ ds).length = ps.length → BindsTo s fd ⟨us, []⟩ (ps.zip (us ++ ds))
theorem Binds.all {K : PySem.W.Frag} {fd : FuncData} {ps : List Str} (h : ∀ us : List Value, us.length = ps.length → bindArgs fd ⟨us, []⟩ = pure (ps.zip us)) : Binds K fd ps [] := fun s us _ hl => by
  rw [List.append_nil] at hl ⊢
  exact .of_eq (h us hl)
noncomputable def Passes (CX : CXT) (X : Cx) (E : XK) : Prop := ∀ (pins : List (Addr × Obj)) (σ : St) (H : Hp) (s : Shared) (e : Value) (s' : Shared), Inv X pins σ H s → CX X.stack H s E e s' → X.xe e s'
section
variable {X : Cx} {CX : CXT} {k : Nat} {f C : Addr} {fd : FuncData} {ps : List Str} {sp : Sp} {dvs : List V} {ds : List Value} {E : XK} {x m : Str} {p pos apos : Pos} {e o : Expr} {es : List Expr} {ta : TE} {t : TA}
theorem run_fn {pins : List (Addr × Obj)} {σ : St} {H : Hp} {s : Shared} {Q : VK} {us : List Value} {vs : List V} (F : FnOk X.prog X.w X.K X.mg X.base CX k f fd ps sp) (hr : Room k X.A) (hb : Binds X.K fd ps ds) (hd : Vals dvs ds) (hx : Passes CX X E)
    (I : Inv X pins σ H s) (r : Vals vs us) (h : sp (vs ++ dvs) H Q E) : wpAny (model X.prog X.w) X.A (call (.ref f) us) (EP X pins σ Q) X.xe s := by
  have r2 : Vals (vs ++ dvs) (us ++ ds) := r.append hd
  have hl : (us ++ ds).length = ps.length := by rw [← r2.length]; exact F.len _ _ _ _ h
  refine wpAny_call (codeAny_mono (F.run X.A X.stack s H ⟨us, []⟩ (us ++ ds) (vs ++ dvs) Q E hr I.env0 (hb s us I.kIn hl) r2 h) fun r s' hq => ?_)
  cases r with
  | error e => exact hx pins σ H s e s' I hq
  | ok fl =>
    cases fl with
    | ret u => exact I.after hq
    | next => exact False.elim hq
    | brk => exact False.elim hq
    | cont => exact False.elim hq
theorem pe_call (F : FnOk X.prog X.w X.K X.mg X.base CX k f fd ps sp) (hr : Room k X.A) (hg : Gl X x) (hm : X.mg x = some (.ref f)) (hk : PySem.W.keepIn X.K (.ref f) = true) (hb : Binds X.K fd ps ds) (hd : Vals dvs ds) (hx : Passes CX X E)
    (ha : PA X (e :: es) t) (hdb : (x == ("__debug__" : Str)) = false := by decide) (he : starEach (e :: es) X.env = (false, eval e X.env) :: starEach es X.env := by rfl) (hpl : (backTo pos (starEach es X.env)).any (·.1) = false := by rfl) :
    PE X (.Call (.Name x p) (e :: es) [] pos) (tCall sp dvs E t) := by
  intro pins s σ H Q I h
  refine wpAny_Call_Name_kw (ld_glob I hg hm ?_ hdb)
  refine PySem.W.callWith_K (h₀ := X.base) I.ok.mod.kin hk (thn (ha pos pins s σ H _ I h) fun us s1 ⟨vs, H1, I1, r, q⟩ => ⟨I1.kIn, ?_⟩) he hpl
  exact run_fn F hr hb hd hx I1 r q
end
noncomputable def PK (X : Cx) (kws : List Keyword) (t : TA) : Prop :=
  ∀ (pos : Pos) (pins : List (Addr × Obj)) (s : Shared) (σ : St) (H : Hp) (Q : List V → Hp → Prop), Inv X pins σ H s → t σ H Q → wpAny (model X.prog X.w) X.A (evalAll ((backToKw pos (keywordEach kws X.env)).map (·.2))) (AP X pins σ Q) X.xe s
section
variable {X : Cx} {CX : CXT} {k : Nat} {f C : Addr} {fd : FuncData} {ps ks : List Str} {sp : Sp} {E : XK} {x m : Str} {p pos apos kpos : Pos} {e o : Expr} {es : List Expr} {kws : List Keyword} {te ta : TE} {t tk : TA} {nm : Option Str}
theorem pk_nil : PK X [] tNil := fun _ _ _ _ H Q I h => wpAny_evalAll_nil ⟨[], H, I, .nil, h⟩
theorem pk_cons (ha : PE X e te) (hr : PK X kws t) : PK X (⟨nm, e, kpos⟩ :: kws) (tCons te t) := by
  intro pos pins s σ H Q I h
  show wpAny _ _ (evalAll ((do let v ← eval e X.env; standAt pos; pure v) :: (backToKw pos (keywordEach kws X.env)).map (·.2))) _ _ s
  refine wpAny_evalAll_cons (wpAny_bind (thn (ha pins s σ H _ I h) fun u s1 ⟨x, H1, I1, r1, q1⟩ => wpAny_bind (wpAny_standAt (wpAny_pure ?_))))
  exact thn (hr pos pins s1 σ H1 _ I1 q1) fun us s2 ⟨xs, H2, I2, r2, q2⟩ => ⟨x :: xs, H2, I2, .cons r1 r2, q2⟩
variable {g : List Value → List Value → List Value} {gV : List V → List V → List V}
end
structure FnScope (N P : List Str) (sc : Scope) : Prop where
  kind : sc.kind = .function
  co : sc.isCoroutine = false
  gen : sc.isGenerator = false
  nd : N.Nodup
  pre : N.take P.length = P
  par : ∀ x ∈ P, sc.names.lookup x = some .local ∨ sc.names.lookup x = some .cell
  nofree : ∀ y ∈ sc.names, y.2 ≠ .free
theorem bindL_out {kindOf : Str → Option NameKind} {x : Str} : ∀ {binds : List (Str × Value)} {m : Str → Option Value}, (∀ v, (x, v) ∉ binds) → bindL kindOf binds m x = m x
  | [], _, _ => rfl
  | (n, v) :: r, m, h => by
    unfold bindL
    rw [bindL_out fun w hw => h w (List.mem_cons_of_mem _ hw)]
    split
    · have : x ≠ n := by rintro rfl; exact h v List.mem_cons_self
      simp [this]
    · rfl
theorem bindC_out {kindOf : Str → Option NameKind} {x : Str} : ∀ {binds : List (Str × Value)} {m : Str → Option Value}, (∀ v, (x, v) ∉ binds) → bindC kindOf binds m x = m x
  | [], _, _ => rfl
  | (n, v) :: r, m, h => by
    unfold bindC
    rw [bindC_out fun w hw => h w (List.mem_cons_of_mem _ hw)]
    split
    · rfl
    · have : x ≠ n := by rintro rfl; exact h v List.mem_cons_self
      simp [this]
theorem bindL_get {kindOf : Str → Option NameKind} {x : Str} {v : Value} : ∀ {P : List Str} {vs : List Value} {i : Nat} {m : Str → Option Value}, P.Nodup → P[i]? = some x → vs[i]? = some v → kindOf x = some .local →
    bindL kindOf (P.zip vs) m x = some v
  | [], _, _, _, _, h, _, _ => by simp at h
  | _ :: _, [], _, _, _, _, h, _ => by simp at h
  | p :: P, w :: vs, 0, m, nd, h1, h2, hk => by
    simp at h1 h2; subst h1; subst h2
    show bindL kindOf ((p, w) :: P.zip vs) m p = _
    unfold bindL
    rw [bindL_out fun v hv => (List.nodup_cons.mp nd).1 (List.of_mem_zip hv).1, if_pos hk]
    simp
  | p :: P, w :: vs, i + 1, m, nd, h1, h2, hk => by
    show bindL kindOf ((p, w) :: P.zip vs) m x = _
    unfold bindL
    exact bindL_get (i := i) (List.nodup_cons.mp nd).2 (by simpa using h1) (by simpa using h2) hk
theorem bindC_get {kindOf : Str → Option NameKind} {x : Str} {v : Value} : ∀ {P : List Str} {vs : List Value} {i : Nat} {m : Str → Option Value}, P.Nodup → P[i]? = some x → vs[i]? = some v → kindOf x ≠ some .local →
    bindC kindOf (P.zip vs) m x = some v
  | [], _, _, _, _, h, _, _ => by simp at h
  | _ :: _, [], _, _, _, _, h, _ => by simp at h
  | p :: P, w :: vs, 0, m, nd, h1, h2, hk => by
    simp at h1 h2; subst h1; subst h2
    show bindC kindOf ((p, w) :: P.zip vs) m p = _
    unfold bindC
    rw [bindC_out fun v hv => (List.nodup_cons.mp nd).1 (List.of_mem_zip hv).1, if_neg hk]
    simp
  | p :: P, w :: vs, i + 1, m, nd, h1, h2, hk => by
    show bindC kindOf ((p, w) :: P.zip vs) m x = _
    unfold bindC
    exact bindC_get (i := i) (List.nodup_cons.mp nd).2 (by simpa using h1) (by simpa using h2) hk
noncomputable def start (N : List Str) (vs : List V) : St := vs.map some ++ List.replicate (N.length - vs.length) none
noncomputable def cxOf (CX : CXT) (P : Program) (w : World) (K : PySem.W.Frag) (mg : Str → Option Value) (base : Heap) (N : List Str) (qual : Str) (scope : Scope) (f : Addr) (cd : Value) (A : Around) (outer : List Env) (s : Shared) (H : Hp) (E : XK) : Cx where
  prog := P
  w := w
  K := K
  mg := mg
  base := base
  A := A.deeper (envOfC qual scope s.heap.objs.size f cd)
  N := N
  s₀ := s
  H₀ := H
  env := envOfC qual scope s.heap.objs.size f cd
  outer := outer
  stack := envOfC qual scope s.heap.objs.size f cd :: outer
  ex := []
  calm := true
  fn := fun _ => true
  pn := []
  xe := fun e s' => wpAny (model P w) (A.deeper (envOfC qual scope s.heap.objs.size f cd)) (leaving (envOfC qual scope s.heap.objs.size f cd) e) (fun _ s'' => CX outer H s E e s'') (fun e' s'' => CX outer H s E e' s'') s'
theorem cell_has {sc : Scope} {n : Nat} {x : Str} (h : sc.names.lookup x = some .cell) : ∃ c, (cellsFrom n sc.names []).lookup x = some c := by
  have q := PySem.W.cellsFrom_some sc.names n [] (.inl h)
  exact Option.isSome_iff_exists.mp q
theorem inv_start {CX : CXT} {P : Program} {w : World} {K : PySem.W.Frag} {mg : Str → Option Value} {base : Heap} {N ps : List Str} {qual : Str} {scope : Scope} {f : Addr} {cd : Value} {A : Around} {outer : List Env} {s s1 : Shared} {H : Hp} {E : XK} {us : List Value} {vs : List V}
    (S : FnScope N ps scope) (hd : A.handled = none) (e0 : Env0 P w K mg base A outer s H) (hl : vs.length = ps.length) (r : Vals vs us)
    (x : InCallC s s.heap.objs.size (bindL (envOfC qual scope s.heap.objs.size f cd).kindOf (ps.zip us) fun _ => none) (cellsFrom (s.heap.objs.size + 1) scope.names []) (bindC (envOfC qual scope s.heap.objs.size f cd).kindOf (ps.zip us) fun _ => none) s1) :
    Inv (cxOf CX P w K mg base N qual scope f cd A outer s H E) [] (start N vs) H s1 := by
  have hpl : ps.length ≤ N.length := by have := congrArg List.length S.pre; rw [List.length_take] at this; omega
  obtain ⟨h1, tk, rfl, hk⟩ := x.done
  have noA : ∀ b : Addr, b ∉ (cxOf CX P w K mg base N qual scope f cd A outer s H E).ex := fun b z => absurd (show b ∈ ([] : List Addr) from z) (by simp)
  refine ⟨⟨e0.mod, S.kind, rfl, rfl, Nat.le_refl _, fun y z c h1 h2 => ?_, fun y hy => ?_, fun y c _ h => ?_, fun _ => hd, Around.frames_deeper e0.frames, .inr ⟨rfl, rfl⟩, fun b z => absurd z (noA b), e0.bs, e0.bsz, fun b _ _ => noA b, fun b z => absurd z (noA b), e0.funs, e0.frf⟩,
    rfl, e0.bare, Un.kept hk, ⟨_, x.toInCall.ns, fun i y v h1 h2 h3 => ?_⟩, fun y c h => ⟨_, x.cell y c h⟩, e0.hok.fresh (Nat.le_refl _), fun y c h => ?_, fun p hp => absurd (show p ∈ ([] : List (Addr × Obj)) from hp) (by simp), e0.hok.kept hk, ?_⟩
  · exact name_of_addr x.apart (PySem.mem_of_lookup h1) (PySem.mem_of_lookup h2)
  · have hy : scope.names.lookup y = some .cell ∨ scope.names.lookup y = some .free := hy
    rcases hy with hy | hy
    · exact cell_has hy
    · exact absurd rfl (S.nofree _ (PySem.mem_of_lookup hy))
  · exact Nat.le_of_lt (x.above y c (PySem.mem_of_lookup h))
  · have hi : i < vs.length := by
      unfold start at h2
      by_cases hi : i < vs.length
      · exact hi
      · rw [List.getElem?_append_right (by simpa using hi)] at h2
        rw [List.getElem?_replicate] at h2
        split at h2 <;> cases h2
    have ha : vs[i]? = some v := by
      unfold start at h2
      rw [List.getElem?_append_left (by simpa using hi), List.getElem?_map] at h2
      cases e : vs[i]? with
      | none => rw [e] at h2; cases h2
      | some a => rw [e] at h2; cases h2; rfl
    obtain ⟨u, hu, rv⟩ := r.get ha
    have hp : ps[i]? = some y := by
      rw [← S.pre, List.getElem?_take_of_lt (by omega)]; exact h1
    have ndP : ps.Nodup := by rw [← S.pre]; exact S.nd.sublist (List.take_sublist _ _)
    refine ⟨u, rv, ?_⟩
    rcases S.par y (List.mem_of_getElem? hp) with k | k
    · exact .inl ⟨k, bindL_get ndP hp hu k⟩
    · obtain ⟨c, e⟩ := cell_has (n := s.heap.objs.size + 1) k
      refine .inr ⟨.inl k, c, e, ?_⟩
      have q := x.cell y c e
      rw [bindC_get ndP hp hu (by show scope.names.lookup y ≠ _; rw [k]; decide)] at q
      exact q
  · exact e0.hok.fresh (Nat.le_of_lt (x.above y c (PySem.mem_of_lookup h)))
  · unfold start
    show _ = N.length
    rw [List.length_append, List.length_map, List.length_replicate]
    omega
theorem fn_of {CX : CXT} {P : Program} {w : World} {K : PySem.W.Frag} {mg : Str → Option Value} {base : Heap} {k : Nat} {f : Addr} {name qual : Str} {params : Arguments} {body : List Stmt} {scope : Scope} {dV kV doc pm cdv ct oc : Value} {an od : Option Addr}
    {osl : Array (Option Value)} {N ps : List Str} {sp : Sp} (lk : K.lookup f = some ⟨oc, od, .func (PySem.W.fnOf name qual params body scope dV kV doc pm an cdv ct), osl⟩) (hcd : PySem.W.codeIn K cdv qual = true) (S : FnScope N ps scope)
    (len : ∀ vs H Q E, sp vs H Q E → vs.length = ps.length)
    (hbody : ∀ (A : Around) (outer : List Env) (s : Shared) (H : Hp) (vs : List V) (Q : VK) (E : XK), Room k (A.deeper (envOfC qual scope s.heap.objs.size f cdv)) → sp vs H Q E →
      ∃ t, PSs (cxOf CX P w K mg base N qual scope f cdv A outer s H E) body t ∧ t { nx := fun _ H' => Q .non H', rt := Q } (start N vs) H) :
    FnOk P w K mg base CX (k + 1) f (PySem.W.fnOf name qual params body scope dV kV doc pm an cdv ct) ps sp := by
  refine ⟨len, fun A outer s H args us vs Q E hr e0 hb r hsp => ?_⟩
  have hl := len _ _ _ _ hsp
  have KX : K.In s.heap := e0.mod.kin.keeps fun b o e => (e0.bs b o e).1
  have lim : s.heap.NoLimit := e0.mod.nolimit.keeps fun b o e => (e0.bs b o e).1
  have hkind : ∀ y ∈ ps.zip us, scope.names.lookup y.1 = some .local ∨ (scope.names.lookup y.1 = some .cell ∧ ((cellsFrom (s.heap.objs.size + 1) scope.names []).lookup y.1).isSome = true) := fun ⟨n, v⟩ hy => by
    rcases S.par n (List.of_mem_zip hy).1 with q | q
    · exact .inl q
    · exact .inr ⟨q, PySem.W.cellsFrom_some _ _ _ (.inl q)⟩
  refine codeAny_call_function hr.depth (KX _ _ lk) rfl S.co S.gen rfl (PySem.W.codeRec_of KX hcd) (hb _ _ _ _ ?_)
  refine wpAny_newFunctionEnv_cells S.kind hkind fun env he s1 x => ?_
  subst he
  refine ⟨lim.keeps x.toInCall.keep, codeAny_func ?_⟩
  obtain ⟨t, ht, hq⟩ := hbody A outer s H vs Q E (hr.deeper _) hsp
  have I : Inv (cxOf CX P w K mg base N qual scope f cdv A outer s H E) [] (start N vs) H s1 := inv_start S hr.hd e0 hl r x
  refine wpAny_mono (ht [] s1 (start N vs) H _ I hq) (fun fl s' hs => ?_) fun e s' hs => hs
  have fin : ∀ {σ' : St} {H' : Hp} {v : V} {u : Value}, Inv (cxOf CX P w K mg base N qual scope f cdv A outer s H E) [] σ' H' s' → RelV v u → Q v H' → CE outer P w H s Q u s' :=
    fun {σ' H' v u} J rv q => ⟨v, H', J.os, J.bare, J.base, J.hok, rv, q⟩
  cases fl with
  | ret u =>
    obtain ⟨v, σ', H', J, rv, q⟩ := hs
    exact fin J rv q
  | next =>
    obtain ⟨σ', H', J, q⟩ := hs
    exact fin (v := V.non) (u := Value.none) J rfl q
  | brk =>
    obtain ⟨_, _, _, q⟩ := hs
    exact False.elim q
  | cont =>
    obtain ⟨_, _, _, q⟩ := hs
    exact False.elim q
end L2
namespace L2
open PySem PySem.Spec PyProof.Rows
section
variable {X : Cx} {x : Str} {p pos : Pos} {e : Expr} {es : List Expr} {t : TA} {id T : String} {r : List V → Hp → VK → Prop}
noncomputable def tCB (r : List V → Hp → VK → Prop) (t : TA) : TE := fun σ H Q => t σ H fun vs H1 => r vs H1 Q
theorem pe_callB (hc : CallR X (.builtin id) r) (hg : Gl X x) (hm : X.mg x = none) (hv : bootBuiltins x = some (.builtin id)) (ha : PA X (e :: es) t) (hn : x ≠ "__name__" := by decide) (hdb : (x == ("__debug__" : Str)) = false := by decide)
    (he : starEach (e :: es) X.env = (false, eval e X.env) :: starEach es X.env := by rfl) (hpl : (backTo pos (starEach es X.env)).any (·.1) = false := by rfl) : PE X (.Call (.Name x p) (e :: es) [] pos) (tCB r t) := by
  intro pins s σ H Q I h
  refine wpAny_Call_Name_kw (ld_blt I hg hm hv ?_ hn hdb)
  exact PyProof.Rows.callWith_builtin1 (thn (ha pos pins s σ H _ I h) fun us s1 ⟨vs, H1, I1, r1, q1⟩ => hc pins s1 σ H1 vs us Q I1 r1 q1) he hpl
theorem pe_callTy (hc : CallR X (.type T) r) (hg : Gl X x) (hm : X.mg x = none) (hv : bootBuiltins x = some (.type T)) (ha : PA X (e :: es) t) (hn : x ≠ "__name__" := by decide) (hdb : (x == ("__debug__" : Str)) = false := by decide)
    (he : starEach (e :: es) X.env = (false, eval e X.env) :: starEach es X.env := by rfl) (hpl : (backTo pos (starEach es X.env)).any (·.1) = false := by rfl) : PE X (.Call (.Name x p) (e :: es) [] pos) (tCB r t) := by
  intro pins s σ H Q I h
  refine wpAny_Call_Name_kw (ld_blt I hg hm hv ?_ hn hdb)
  exact PyProof.Rows.callWith_type1 (thn (ha pos pins s σ H _ I h) fun us s1 ⟨vs, H1, I1, r1, q1⟩ => hc pins s1 σ H1 vs us Q I1 r1 q1) he hpl
end
end L2
namespace HT
open PySem PyProof.Rows
theorem rcLt_int (A : Around) (s : Shared) (a : Int) (t : Tok) (c : Int) (u : Tok) (prog : Program) (w : World) (E : Value → Shared → Prop) (Q : Value → Shared → Prop) (h : Q (.bool (decide (a < c))) s) :
    wpAny (model prog w) A (richCompare .Lt (.int a t) (.int c u)) Q E s :=
  (PyProof.Rows.lt_int h : wpAny (model prog w) A (compareOp .Lt (.int a t) (.int c u)) Q E s)
section
open PySem.SeqAt
open PySem.AutoSeq1 (wpAny_loadPart')
open PySem.MeetsSeq PySem.MeetsSeq2 PySem.MeetsSeq3
end
section
variable {prog : Program} {w : World} {A : Around} {E : Value → Shared → Prop} {s : Shared}
noncomputable def sIx (n d : Nat) : Option Int → Nat
  | none => d
  | some v => if v < 0 then (v + (n : Int)).toNat else min v.toNat n
theorem sIx_none (n d : Nat) : sIx n d none = d := rfl
theorem sIx_nat (n d k : Nat) : sIx n d (some (k : Int)) = min k n := by
  show (if (k : Int) < 0 then ((k : Int) + (n : Int)).toNat else min (k : Int).toNat n) = min k n
  rw [if_neg (by omega), Int.toNat_natCast]
theorem sIx_le (n d : Nat) (hd : d ≤ n) (o : Option Int) : sIx n d o ≤ n := by
  cases o with
  | none => exact hd
  | some v =>
    show (if v < 0 then (v + (n : Int)).toNat else min v.toNat n) ≤ n
    by_cases hv : v < 0
    · rw [if_pos hv]; omega
    · rw [if_neg hv]; exact Nat.min_le_right _ _
end
end HT
namespace L2
open PySem PySem.Spec PyProof.Rows
noncomputable abbrev TO := St → Hp → (Option Int → Hp → Prop) → Prop
noncomputable def PO (X : Cx) (e : Option Expr) (t : TO) : Prop :=
  ∀ (pins : List (Addr × Obj)) (s : Shared) (σ : St) (H : Hp) (Q : Option Int → Hp → Prop), Inv X pins σ H s → t σ H Q →
    wpAny (model X.prog X.w) X.A (evalPart e X.env) (fun u s' => ∃ o H', Inv X pins σ H' s' ∧ IsPart u o ∧ Q o H') X.xe s
noncomputable def tNoPart : TO := fun _ H Q => Q none H
noncomputable def tPart (t : TE) : TO := fun σ H Q => t σ H fun x H1 => ∃ i, x = .int i ∧ Q (some i) H1
section
variable {X : Cx} {e : Expr} {te : TE} {lo hi : Option Expr} {tl th : TO} {pos p2 : Pos}
theorem po_none : PO X none tNoPart := by
  intro pins s σ H Q I h
  rw [evalPart_none]
  exact wpAny_pure ⟨none, H, I, .none, h⟩
theorem po_some (h : PE X e te) : PO X (some e) (tPart te) := by
  intro pins s σ H Q I hw
  rw [evalPart_some]
  refine thn (h pins s σ H _ I hw) fun u s1 ⟨x, H1, I1, r1, q1⟩ => ?_
  obtain ⟨i, rfl, q⟩ := q1
  obtain ⟨t, rfl⟩ := r1
  exact ⟨some i, H1, I1, .int i t, q⟩
noncomputable def SlR (X : Cx) (r : V → Option Int → Option Int → Hp → VK → Prop) : Prop :=
  ∀ (pins : List (Addr × Obj)) (s : Shared) (σ : St) (H : Hp) (x : V) (v vl vu : Value) (lo hi : Option Int) (sl : Addr) (Q : VK), Inv X pins σ H s → RelV x v → s.heap.IsSliceOf sl vl vu .none → IsPart vl lo → IsPart vu hi → r x lo hi H Q →
    ∃ T id, typeLookup (.type T) "__getitem__" = pure (some (.builtin id)) ∧ s.TypeIs v T ∧ wpAny (model X.prog X.w) X.A (getItem v (.ref sl)) (EP X pins σ Q) X.xe s
noncomputable def tSl (r : V → Option Int → Option Int → Hp → VK → Prop) (te : TE) (tl th : TO) : TE := fun σ H Q => te σ H fun x H1 => tl σ H1 fun l H2 => th σ H2 fun u H3 => r x l u H3 Q
theorem pe_slice {r : V → Option Int → Option Int → Hp → VK → Prop} (hr : SlR X r) (he : PE X e te) (hl : PO X lo tl) (hu : PO X hi th) : PE X (.Subscript e (.Slice lo hi none p2) pos) (tSl r te tl th) := by
  intro pins s σ H Q I h
  refine Subscript_ (thn (he pins s σ H _ I h) fun v s1 ⟨x, H1, I1, r1, q1⟩ => ?_)
  refine wpAny_Slice (thn (hl pins s1 σ H1 _ I1 q1) fun vl s2 ⟨l, H2, I2, pl, q2⟩ => thn (hu pins s2 σ H2 _ I2 q2) fun vu s3 ⟨u, H3, I3, pu, q3⟩ => ?_)
  rw [evalPart_none]
  refine wpAny_pure ?_
  have I4 : Inv X pins σ H3 { s3 with heap := s3.heap.push { cls := .type "slice", data := .fields #[vl, vu, .none] } } := I3.kept (t' := s3.toks) fun b ob q => Heap.get?_push_of_some _ q
  obtain ⟨T, id, hT, ht, hg⟩ := hr pins { s3 with heap := s3.heap.push { cls := .type "slice", data := .fields #[vl, vu, .none] } } σ H3 x v vl vu l u s3.heap.objs.size Q I4 r1 (Heap.IsSliceOf.new ..) pl pu q3
  show wpAny (model X.prog X.w) X.A (subscriptTail e (.Slice lo hi none p2) v (.ref s3.heap.objs.size)) (EP X pins σ Q) X.xe { s3 with heap := s3.heap.push { cls := .type "slice", data := .fields #[vl, vu, .none] } }
  exact tail_any (ops := [.ref s3.heap.objs.size, v]) ht hT hg (by with_unfolding_all rfl)
noncomputable def cutV (xs : List V) (lo hi : Option Int) : List V := (xs.drop (HT.sIx xs.length 0 lo)).take (HT.sIx xs.length xs.length hi - HT.sIx xs.length 0 lo)
theorem cutV_length (xs : List V) (lo hi : Option Int) : (cutV xs lo hi).length ≤ xs.length := by
  unfold cutV
  rw [List.length_take, List.length_drop]
  omega
end
end L2
namespace L2
open PySem PySem.Spec PyProof.Rows
noncomputable def ixN (n : Nat) (i : Int) : Option Nat := if 0 ≤ i then (if i < n then some i.toNat else none) else if -(n : Int) ≤ i then some (i + n).toNat else none
noncomputable def atI {α : Type} (xs : List α) (i : Int) : Option α := (ixN xs.length i).bind fun j => xs[j]?
theorem ixN_seq {n : Nat} {i : Int} {j : Nat} (h : ixN n i = some j) : seqIndex? i n = some j ∧ j < n ∧ -(n : Int) ≤ i ∧ i < n := by
  unfold ixN at h
  by_cases h0 : 0 ≤ i
  · rw [if_pos h0] at h
    by_cases h1 : i < n
    · rw [if_pos h1] at h
      have e : i.toNat = j := Option.some.inj h
      exact ⟨by rw [seqIndex_of h0 h1, e], by omega, by omega, h1⟩
    · rw [if_neg h1] at h; cases h
  · rw [if_neg h0] at h
    by_cases h1 : -(n : Int) ≤ i
    · rw [if_pos h1] at h
      have e : (i + n).toNat = j := Option.some.inj h
      exact ⟨by rw [seqIndex_neg (by omega) h1, e], by omega, h1, by omega⟩
    · rw [if_neg h1] at h; cases h
theorem atI_get {α : Type} {xs : List α} {i : Int} {v : α} (h : atI xs i = some v) : ∃ j, seqIndex? i xs.length = some j ∧ xs[j]? = some v ∧ j < xs.length ∧ -(xs.length : Int) ≤ i ∧ i < xs.length := by
  unfold atI at h
  cases e : ixN xs.length i with
  | none => rw [e] at h; cases h
  | some j =>
    rw [e] at h
    obtain ⟨h1, h2, h3, h4⟩ := ixN_seq e
    exact ⟨j, h1, h, h2, h3, h4⟩
theorem atI_nat {α : Type} {xs : List α} {j : Nat} {v : α} (h : xs[j]? = some v) : atI xs (j : Int) = some v := by
  have hj : j < xs.length := (List.getElem?_eq_some_iff.mp h).1
  have e : ixN xs.length (j : Int) = some j := by
    unfold ixN
    rw [if_pos (by omega), if_pos (by omega)]; simp
  unfold atI; rw [e]; exact h
noncomputable def PlainIx (b : Expr) : Prop := ∀ o i, subscripted b false o i = operate [o, i] (getItem o i)
noncomputable def IxR (X : Cx) (r : R2) : Prop :=
  ∀ (value slice : Expr) (pins : List (Addr × Obj)) (s : Shared) (σ : St) (H : Hp) (x y : V) (v u : Value) (Q : VK), Inv X pins σ H s → RelV x v → RelV y u → r x y H Q →
    subscripted slice false v u = operate [v, u] (getItem v u) → wpAny (model X.prog X.w) X.A (subscriptTail value slice v u) (EP X pins σ Q) X.xe s
noncomputable def MtR (X : Cx) (id : String) (r : V → List V → Hp → VK → Prop) : Prop :=
  ∀ (pins : List (Addr × Obj)) (s : Shared) (σ : St) (H : Hp) (x : V) (xs : List V) (v : Value) (us : List Value) (Q : VK), Inv X pins σ H s → RelV x v → Vals xs us → r x xs H Q →
    wpAny (model X.prog X.w) X.A (call (.builtin id) (v :: us)) (EP X pins σ Q) X.xe s
section
variable {X : Cx} {a b : Expr} {ta tb : TE} {pos : Pos}
theorem pe_ix {r : R2} (hr : IxR X r) (ha : PE X a ta) (hb : PE X b tb) (hs : PlainIx b) : PE X (.Subscript a b pos) (tOp r ta tb) := by
  intro pins s σ H Q I h
  exact Subscript_ (binT ha hb I h fun v u s2 x y H2 I2 rx ry q => hr a b pins s2 σ H2 x y v u Q I2 rx ry q (hs _ _))
noncomputable def rIxL (K : PySem.W.Frag) : R2 := fun x y H Q => ∃ p xs i v, x = .ref p ∧ y = .int i ∧ SqL K H p xs ∧ atI xs i = some v ∧ Q v H
noncomputable def rIxT (K : PySem.W.Frag) : R2 := fun x y H Q => ∃ p xs i v, x = .ref p ∧ y = .int i ∧ SqT K H p xs ∧ atI xs i = some v ∧ Q v H
noncomputable def rIxS : R2 := fun x y H Q => ∃ z i c, x = .str z ∧ y = .int i ∧ z.length ≤ sizeLine ∧ atI z.cps.toList i = some c ∧ Q (.str ⟨#[c]⟩) H
theorem ix_list : IxR X (rIxL X.K) := by
  intro value slice pins s σ H x y v u Q I rx ry h hs
  obtain ⟨p, xs, i, z, rfl, rfl, hq, he, q⟩ := h
  cases rx
  obtain ⟨t, rfl⟩ := ry
  obtain ⟨its, r, pl, hz⟩ := I.list hq
  obtain ⟨j, h1, h2, h3, h4, h5⟩ := atI_get he
  obtain ⟨w, ew, rw'⟩ := r.get h2
  have hl := r.length
  have hn := line63
  have fin : EP X pins σ Q w s := ⟨z, H, I, rw', q⟩
  by_cases h0 : 0 ≤ i
  · have hj : i.toNat = j := by
      rw [seqIndex_of h0 h5] at h1
      exact Option.some.inj h1
    exact item_listR pl.isList h0 (by omega) (by rw [hj]; simpa using ew) fin hs
  · have hj : (i + (its.toArray.size : Int)).toNat = j := by
      rw [seqIndex_neg (by omega) h4] at h1
      rw [List.size_toArray, ← hl]
      exact Option.some.inj h1
    exact subscriptTail_builtinR (x := w) pl.isList.typeIs slot_list_getitem.lookup
      (wpAny_getItem_list_neg (Q := fun r s' => r = w ∧ EP X pins σ Q r s') pl.isList (by omega) (by rw [List.size_toArray] <;> omega) (by omega) (by rw [hj]; simpa using ew) ⟨rfl, fin⟩) hs
theorem ix_tup : IxR X (rIxT X.K) := by
  intro value slice pins s σ H x y v u Q I rx ry h hs
  obtain ⟨p, xs, i, z, rfl, rfl, hq, he, q⟩ := h
  cases rx
  obtain ⟨t, rfl⟩ := ry
  obtain ⟨its, r, pl, hz⟩ := I.tuple hq
  obtain ⟨j, h1, h2, h3, h4, h5⟩ := atI_get he
  obtain ⟨w, ew, rw'⟩ := r.get h2
  have hl := r.length
  have hn := line63
  have fin : EP X pins σ Q w s := ⟨z, H, I, rw', q⟩
  exact subscriptTail_builtinR (x := w) pl.typeIs slot_tuple_getitem.lookup
    (getItem_tuple (j := j) (Q := fun r s' => r = w ∧ EP X pins σ Q r s') pl (by omega) (by omega) (by rw [List.size_toArray, ← hl]; exact h1) (by simpa using ew) ⟨rfl, fin⟩) hs
theorem ix_str : IxR X rIxS := by
  intro value slice pins s σ H x y v u Q I rx ry h hs
  obtain ⟨z, i, c, rfl, rfl, hz, he, q⟩ := h
  obtain ⟨t, rfl⟩ := rx
  obtain ⟨t', rfl⟩ := ry
  obtain ⟨j, h1, h2, h3, h4, h5⟩ := atI_get he
  have hl : z.cps.toList.length = z.length := by simp [Str.length]
  rw [hl] at h1 h4 h5
  have hn := line63
  exact tail_any (typeIs_str s z t) slot_str_getitem.lookup (getItem_str (c := c) (by
    have e1 : decide (i < -(2 ^ 63 : Int)) = false := decide_eq_false (by omega)
    have e2 : decide (i ≥ 2 ^ 63) = false := decide_eq_false (by omega)
    rw [e1, e2, Bool.or_false]) (by rw [h1]; simpa using h2) ⟨.str ⟨#[c]⟩, H, I.tok _, ⟨_, rfl⟩, q⟩) hs
theorem slice_bounds (lo hi : Option Int) (n : Nat) : (sliceBounds lo hi none n).1 = ((HT.sIx n 0 lo : Nat) : Int) ∧ (sliceBounds lo hi none n).2.1 = ((HT.sIx n n hi : Nat) : Int) ∧ (sliceBounds lo hi none n).2.2 = 1 := by
  refine ⟨?_, ?_, rfl⟩
  · cases lo with
    | none => simp [sliceBounds, HT.sIx]
    | some i =>
      simp only [sliceBounds, HT.sIx, Option.getD_none, show (1 : Int) > 0 by decide, if_true]
      by_cases h : i < 0
      · simp only [h, if_true] <;> omega
      · simp only [h, if_false] <;> omega
  · cases hi with
    | none => simp [sliceBounds, HT.sIx]
    | some i =>
      simp only [sliceBounds, HT.sIx, Option.getD_none, show (1 : Int) > 0 by decide, if_true]
      by_cases h : i < 0
      · simp only [h, if_true] <;> omega
      · simp only [h, if_false] <;> omega
theorem slicePick_cut (its : List Value) (lo hi : Option Int) : slicePick its.toArray lo hi none = ((its.drop (HT.sIx its.length 0 lo)).take (HT.sIx its.length its.length hi - HT.sIx its.length 0 lo)).toArray := by
  obtain ⟨h1, h2, h3⟩ := slice_bounds lo hi its.toArray.size
  unfold slicePick
  rw [h1, h2, h3]
  simp only [sliceRange_one, pick_run, List.size_toArray] <;> rfl
noncomputable def rSlL (K : PySem.W.Frag) : V → Option Int → Option Int → Hp → VK → Prop := fun x lo hi H Q => ∃ a xs, x = .ref a ∧ SqL K H a xs ∧ ∀ p, H p = none → Q (.ref p) (upd H p (.lst (cutV xs lo hi)))
theorem sl_list : SlR X (rSlL X.K) := by
  intro pins s σ H x v vl vu lo hi sl Q I rx hs pl pu h
  obtain ⟨a, xs, rfl, hx, q⟩ := h
  cases rx
  obtain ⟨its, r, ht, hz⟩ := I.list hx
  have hlen := r.length
  refine ⟨"list", _, slot_list_getitem.lookup, ht.isList.typeIs, ?_⟩
  refine wpAny_getItem_list_slice ht.isList hs pl pu .none (by simp) ?_ (by rw [List.size_toArray] <;> omega)
  rw [slicePick_cut, ← hlen]
  refine ⟨.ref s.heap.objs.size, _, I.laid (t' := s.toks) (o := .lst (cutV xs lo hi)) (fun b ob q => Heap.get?_push_of_some _ q) (Nat.le_refl _) ?_, rfl, q _ (I.hok.fresh (Nat.le_refl _))⟩
  exact ⟨Nat.le_trans (cutV_length xs lo hi) hz, _, 0, (r.drop (HT.sIx xs.length 0 lo)).take (HT.sIx xs.length xs.length hi - HT.sIx xs.length 0 lo), Heap.get?_push_size _ rfl⟩
theorem call_len_seq : CallR X (.builtin "len") (fun xs H Q => ∃ p ys, xs = [.ref p] ∧ (SqL X.K H p ys ∨ SqT X.K H p ys) ∧ Q (.int ys.length) H) := by
  intro pins s σ H xs us Q I r h
  obtain ⟨p, ys, rfl, hq, q⟩ := h
  obtain ⟨u, rfl, rx⟩ := vals1 r
  cases rx
  have hn := line63
  rcases hq with hq | hq
  · obtain ⟨its, r', pl, hz⟩ := I.list hq
    have hlen := r'.length
    exact Calls.call_len_list pl.isList (by simp only [List.size_toArray] <;> omega) ⟨.int ys.length, H, I.tok _, ⟨s.toks + 1, by rw [List.size_toArray, hlen]⟩, q⟩
  · obtain ⟨its, r', pl, hz⟩ := I.tuple hq
    have hlen := r'.length
    exact len_tuple pl (by simp only [List.size_toArray] <;> omega) ⟨.int ys.length, H, I.tok _, ⟨s.toks + 1, by rw [List.size_toArray, hlen]⟩, q⟩
theorem call_len_str : CallR X (.builtin "len") (fun xs H Q => ∃ z, xs = [.str z] ∧ z.length ≤ sizeLine ∧ Q (.int z.length) H) := by
  intro pins s σ H xs us Q I r h
  obtain ⟨z, rfl, hz, q⟩ := h
  obtain ⟨u, rfl, t, rfl⟩ := vals1 r
  have hn := line63
  exact len_str (by omega) ⟨.int z.length, H, I.tok _, ⟨_, rfl⟩, q⟩
theorem call_list_of : CallR X (.type "list") (fun xs H Q => ∃ p ys, xs = [.ref p] ∧ (SqL X.K H p ys ∨ SqT X.K H p ys) ∧ ∀ l, H l = none → Q (.ref l) (upd H l (.lst ys))) := by
  intro pins s σ H xs us Q I r h
  obtain ⟨p, ys, rfl, hq, q⟩ := h
  obtain ⟨u, rfl, rx⟩ := vals1 r
  cases rx
  have fin : ∀ (its : List Value), Vals ys its → ys.length ≤ sizeLine → ∀ (h' : Heap) (c' : Nat), (∀ b o', s.heap.get? b = some o' → h'.get? b = some o') →
      h'.get? s.heap.objs.size = some { cls := .type "list", dict := none, data := .seq its.toArray c', slots := #[] } → EP X pins σ Q (.ref s.heap.objs.size) { s with heap := h' } := fun its r' hz h' c' kp e =>
    ⟨.ref s.heap.objs.size, _, I.laid (t' := s.toks) kp (Nat.le_refl _) (show ObjOk X.prog X.w _ h' _ (.lst ys) from ⟨hz, its, c', r', e⟩), rfl, q _ (I.hok.fresh (Nat.le_refl _))⟩
  rcases hq with hq | hq
  · obtain ⟨its, r', pl, hz⟩ := I.list hq
    have hlen := r'.length
    obtain ⟨o, ho, hc, n, hd⟩ := pl.isList
    exact call_list_seq p (.inl rfl) ho hc hd (fun h' c' kp e => fin its r' hz h' c' kp e) (by simp only [List.size_toArray] <;> omega)
  · obtain ⟨its, r', pl, hz⟩ := I.tuple hq
    have hlen := r'.length
    obtain ⟨o, ho, hc, n, hd⟩ := pl
    exact call_list_seq p (.inr rfl) ho hc hd (fun h' c' kp e => fin its r' hz h' c' kp e) (by simp only [List.size_toArray] <;> omega)
theorem call_tuple_of : CallR X (.type "tuple") (fun xs H Q => ∃ p ys, xs = [.ref p] ∧ ((SqL X.K H p ys ∧ ∀ l, H l = none → Q (.ref l) (upd H l (.tup ys))) ∨ (SqT X.K H p ys ∧ Q (.ref p) H))) := by
  intro pins s σ H xs us Q I r h
  obtain ⟨p, ys, rfl, h⟩ := h
  obtain ⟨u, rfl, rx⟩ := vals1 r
  cases rx
  rcases h with ⟨hq, q⟩ | ⟨hq, q⟩
  · obtain ⟨its, r', pl, hz⟩ := I.list hq
    have hlen := r'.length
    refine call_tuple_list pl.isList (fun h' kp => ?_) (by simp only [List.size_toArray] <;> omega)
    have I1 : Inv X pins σ H { s with heap := h' } := I.kept (t' := s.toks) kp
    have I2 : Inv X pins σ (upd H h'.objs.size (.tup ys)) { s with heap := h'.push { cls := .type "tuple", data := .seq its.toArray } } :=
      I1.laid (t' := s.toks) (fun b o e => Heap.get?_push_of_some _ e) (Nat.le_refl _) (show ObjOk X.prog X.w _ _ _ (.tup ys) from ⟨hz, its, r', IsTup.new _ _⟩)
    exact ⟨.ref h'.objs.size, _, I2, rfl, q _ (I1.hok.fresh (Nat.le_refl _))⟩
  · obtain ⟨its, r', pl, hz⟩ := I.tuple hq
    exact call_tuple_same pl ⟨.ref p, H, I, rfl, q⟩
noncomputable def tyV (K : PySem.W.Frag) (T : String) (x : V) (H : Hp) : Prop := match x with
  | .str _ => T = "str"
  | .int _ => T = "int"
  | .ref p => (T = "list" ∧ ∃ xs, SqL K H p xs) ∨ (T = "tuple" ∧ ∃ o, K.lookup p = some o ∧ o.cls = .type "tuple" ∧ o.dict = none) ∨
      (T = "dict" ∧ ((∃ kvs, H p = some (.dK kvs)) ∨ ∃ kvs, H p = some (.dT kvs))) ∨ (T = "set" ∧ ∃ S n, H p = some (.set S n))
  | _ => False
theorem tyV_is {pins : List (Addr × Obj)} {σ : St} {H : Hp} {s : Shared} {T : String} {x : V} {v : Value} (I : Inv X pins σ H s) (r : RelV x v) (ty : tyV X.K T x H) :
    s.TypeIs v T ∧ ∀ a, v = .ref a → ∃ ob, s.heap.get? a = some ob ∧ ob.dict = none := by
  cases x with
  | str z =>
    obtain ⟨t, rfl⟩ := r
    cases (show T = "str" from ty)
    exact ⟨typeIs_str s z t, fun _ e => nomatch e⟩
  | int i =>
    obtain ⟨t, rfl⟩ := r
    cases (show T = "int" from ty)
    exact ⟨typeIs_int s i t, fun _ e => nomatch e⟩
  | ref p =>
    cases r
    rcases ty with ⟨rfl, xs, hq⟩ | ⟨rfl, o, hk, hc, hd⟩ | ⟨rfl, hk⟩ | ⟨rfl, S, n, hk⟩
    · obtain ⟨its, _, pl, _⟩ := I.list hq
      refine ⟨pl.isList.typeIs, fun a e => ?_⟩
      cases e
      obtain ⟨o, n, e, c, hd, _⟩ := pl
      exact ⟨o, e, hd⟩
    · refine ⟨⟨o, I.kIn p o hk, hc⟩, fun a e => ?_⟩
      cases e
      exact ⟨o, I.kIn _ o hk, hd⟩
    · have z : ∃ o, s.heap.get? p = some o ∧ o.ExactDict := by
        rcases hk with ⟨kvs, hk⟩ | ⟨kvs, hk⟩
        · obtain ⟨_, _, _, _, o, _, _, e, ex, _⟩ := I.hok p _ hk
          exact ⟨o, e, ex⟩
        · obtain ⟨_, _, _, _, o, _, _, e, ex, _⟩ := I.hok p _ hk
          exact ⟨o, e, ex⟩
      obtain ⟨o, e, ex⟩ := z
      refine ⟨⟨o, e, ex.1⟩, fun a e2 => ?_⟩
      cases e2
      exact ⟨o, e, ex.2.1⟩
    · obtain ⟨o, _, _, _, e, ex, _⟩ := I.hok p _ hk
      refine ⟨⟨o, e, ex.1⟩, fun a e2 => ?_⟩
      cases e2
      exact ⟨o, e, ex.2.1⟩
  | _ => exact False.elim ty
noncomputable def tBM0 (K : PySem.W.Frag) (T : String) (r : V → List V → Hp → VK → Prop) (to : TE) : TE := fun σ H Q => to σ H fun x H1 => tyV K T x H1 ∧ r x [] H1 Q
noncomputable def tBM (K : PySem.W.Frag) (T : String) (r : V → List V → Hp → VK → Prop) (to : TE) (t : TA) : TE := fun σ H Q => to σ H fun x H1 => tyV K T x H1 ∧ t σ H1 fun xs H2 => r x xs H2 Q
variable {o e : Expr} {es : List Expr} {to : TE} {t : TA} {name : Str} {apos cpos : Pos} {T id : String} {r : V → List V → Hp → VK → Prop}
theorem pe_bm (pa : PlainAttrs T) (slot : Slot T name id) (hty : typeOf (.builtin id) = pure (.type "method_descriptor")) (hm : MtR X id r) (ho : PE X o to) (ha : PA X (e :: es) t)
    (hbase : attributeBase o name X.env (eval o X.env) = eval o X.env := by rfl)
    (hfew : ((backTo cpos (starEach (e :: es) X.env)).all (fun x => !x.1) && (backToKw cpos (keywordEach [] X.env)).all (fun x => x.1.isSome)
      && decide ((e :: es).length + ([] : List Keyword).length + (if ([] : List Keyword).isEmpty then 0 else 1) < 30)) = true := by rfl)
    (hline : (apos.endLine == cpos.line) = true := by rfl) (hs : starEach (e :: es) X.env = (false, eval e X.env) :: starEach es X.env := by rfl) (hplain : (backTo cpos (starEach es X.env)).any (·.1) = false := by rfl) :
    PE X (.Call (.Attribute o name apos) (e :: es) [] cpos) (tBM X.K T r to t) := by
  intro pins s σ H Q I h
  refine wpAny_Call_method_late hbase hfew hline rfl (thn (ho pins s σ H _ I h) fun v s1 ⟨x, H1, I1, r1, ty, q1⟩ => ?_)
  obtain ⟨h1, h2⟩ := tyV_is I1 r1 ty
  refine ⟨T, id, pa, slot, hty, h1, h2, ?_⟩
  have hA := ha cpos pins s1 σ H1 _ I1 q1
  rw [hs] at hA ⊢
  refine Calls.callWith_builtin (by show (false || (backTo cpos (starEach es X.env)).any (·.1)) = false; rw [hplain] <;> rfl) (Calls.evalArgs_plain ?_)
  exact thn hA fun us s2 ⟨vs, H2, I2, r2, q2⟩ => hm pins s2 σ H2 x vs v us Q I2 r1 r2 q2
end
end L2
namespace L2
open PySem PySem.Spec PyProof.Rows
noncomputable def MtM (X : Cx) (id : String) (r : V → List V → Hp → VK → Prop) : Prop :=
  ∀ (pins : List (Addr × Obj)) (s : Shared) (σ : St) (H : Hp) (x : V) (xs : List V) (v : Value) (us : List Value) (Q : VK), Inv X pins σ H s → RelV x v → Vals xs us → r x xs H Q →
    wpAny (model X.prog X.w) X.A (call (.builtin id) (v :: us)) (EP X pins σ Q) X.xe s
theorem Vals.one : ∀ {x : V} {us : List Value}, Vals [x] us → ∃ u, us = [u] ∧ RelV x u
  | _, _, .cons r .nil => ⟨_, rfl, r⟩
theorem Vals.reverse {xs : List V} {us : List Value} (h : Vals xs us) : Vals xs.reverse us.reverse := by
  induction h with
  | nil => exact .nil
  | cons r t ih => rw [List.reverse_cons, List.reverse_cons]; exact Vals.append ih (.cons r .nil)
section
variable {X : Cx} {pins : List (Addr × Obj)} {σ : St} {H : Hp} {s : Shared} {l b : Addr} {xs ys zs : List V}
theorem Inv.lset {its its' : List Value} {n : Nat} {f : Array Value → Array Value} {t' : Nat} (I : Inv X pins σ H s) (hH : H l = some (.lst xs))
    (e : s.heap.get? l = some { cls := .type "list", data := .seq its.toArray n }) (hf : f its.toArray = its'.toArray) (hv : Vals ys its') (hz : ys.length ≤ sizeLine) :
    Inv X pins σ (upd H l (.lst ys)) { s with heap := s.heap.update l (Obj.mapSeq f), toks := t' } := by
  have q := PySem.IsL.update e f
  rw [hf] at q
  refine I.write (x := l) (e := l) (by rw [hH]; exact trivial) (.inl rfl) (fun b' u hb hu => (Heap.get?_update_other s.heap (Obj.mapSeq f) (Ne.symm hb)).trans hu) ⟨_, q⟩ ?_
  exact ⟨hz, its', _, hv, q⟩
theorem Inv.lnew {its : List Value} {t' : Nat} (I : Inv X pins σ H s) (hv : Vals ys its) (hz : ys.length ≤ sizeLine) :
    Inv X pins σ (upd H s.heap.objs.size (.lst ys)) { s with heap := s.heap.push { cls := .type "list", data := .seq its.toArray }, toks := t' } :=
  I.laid (fun _ _ q => Heap.get?_push_of_some _ q) (Nat.le_refl _) ⟨hz, its, 0, hv, Heap.get?_push_size _ rfl⟩
theorem Inv.fresh (I : Inv X pins σ H s) : H s.heap.objs.size = none := I.hok.fresh (Nat.le_refl _)
theorem Inv.lstM (I : Inv X pins σ H s) (hH : H l = some (.lst xs)) : xs.length ≤ sizeLine ∧ ∃ (its : List Value) (n : Nat), Vals xs its ∧ xs.length = its.length ∧ s.heap.get? l = some { cls := .type "list", data := .seq its.toArray n } := by
  obtain ⟨z, its, n, r, e⟩ := I.hok l _ hH
  exact ⟨z, its, n, r, r.length, e⟩
end
section
variable {X : Cx}
noncomputable def rAppend : V → List V → Hp → VK → Prop := fun x vs H Q => ∃ l xs y, x = .ref l ∧ vs = [y] ∧ H l = some (.lst xs) ∧ xs.length < sizeLine ∧ Q .non (upd H l (.lst (xs ++ [y])))
theorem mt_append : MtM X "list.append" rAppend := by
  intro pins s σ H x vs v us Q I rx rv h
  obtain ⟨l, xs, y, rfl, rfl, hH, hz, q⟩ := h
  cases rx
  obtain ⟨u, rfl, ru⟩ := rv.one
  obtain ⟨z, its, n, r, hl, e⟩ := I.lstM hH
  refine call_meets F.slot_list_append ⟨_, e, rfl⟩ F.entry_list_append (F.args_list_append_2 _ _) (PySem.list_append l its.toArray n u (by rw [List.size_toArray]; omega)) ⟨e, ?_⟩
  refine ⟨.non, _, I.lset (its' := its ++ [u]) hH e (by simp) (r.append (.cons ru .nil)) ?_, rfl, q⟩
  rw [List.length_append, List.length_singleton]
  omega
noncomputable def rCat : R2 := fun x y H Q => ∃ l b xs zs, x = .ref l ∧ y = .ref b ∧ H l = some (.lst xs) ∧ H b = some (.lst zs) ∧ xs.length + zs.length ≤ sizeLine ∧ ∀ p, H p = none → Q (.ref p) (upd H p (.lst (xs ++ zs)))
theorem op_cat : OpR X (binaryOp .Add) rCat := by
  intro pins s σ H x y v u Q I rx ry h
  obtain ⟨l, b, xs, zs, rfl, rfl, hH, hB, hz, q⟩ := h
  cases rx
  cases ry
  obtain ⟨z, its, n, r, hl, e⟩ := I.lstM hH
  obtain ⟨z2, its2, n2, r2, hl2, e2⟩ := I.lstM hB
  refine PySem.P.add_list e e2 ?_ (by rw [List.size_toArray, List.size_toArray]; omega)
  have ea : its.toArray ++ its2.toArray = (its ++ its2).toArray := by simp
  rw [ea]
  exact ⟨.ref _, _, I.lnew (t' := s.toks) (r.append r2) (by rw [List.length_append]; omega), rfl, q _ I.fresh⟩
end
section
variable {prog : Program} {w : World} {A : Around} {E : Value → Shared → Prop} {s : Shared}
set_option maxRecDepth 100000 in
end
section
variable {X : Cx}
end
end L2
namespace L2
open PySem PySem.Spec PyProof.Rows
section
variable {κ : Type} [DecidableEq κ]
noncomputable def valV (kvs : List (κ × V)) (k : κ) : Option V := (kvs.find? fun kv => decide (kv.1 = k)).map (·.2)
noncomputable def putK (kvs : List (κ × V)) (k : κ) (v : V) : List (κ × V) :=
  if (kvs.any fun kv => decide (kv.1 = k)) = true then kvs.map (fun kv => if kv.1 = k then (kv.1, v) else kv) else kvs ++ [(k, v)]
noncomputable def dropK (kvs : List (κ × V)) (k : κ) : List (κ × V) := kvs.filter fun kv => decide (kv.1 ≠ k)
theorem valV_pos {p : κ × V} {r : List (κ × V)} {k : κ} (e : p.1 = k) : valV (p :: r) k = some p.2 := by simp [valV, List.find?_cons, e]
theorem valV_neg {p : κ × V} {r : List (κ × V)} {k : κ} (e : ¬ p.1 = k) : valV (p :: r) k = valV r k := by simp [valV, List.find?_cons, e]
theorem valV_any (k : κ) : ∀ kvs : List (κ × V), (kvs.any fun kv => decide (kv.1 = k)) = (valV kvs k).isSome
  | [] => rfl
  | p :: r => by
    rw [List.any_cons]
    by_cases e : p.1 = k
    · simp only [valV_pos e, decide_eq_true e, Bool.true_or, Option.isSome_some]
    · rw [valV_neg e, decide_eq_false e, Bool.false_or]; exact valV_any k r
theorem length_putK (kvs : List (κ × V)) (k : κ) (v : V) : (putK kvs k v).length ≤ kvs.length + 1 := by
  unfold putK
  split
  · rw [List.length_map]; omega
  · rw [List.length_append, List.length_cons, List.length_nil]; omega
theorem putK_new {kvs : List (κ × V)} {k : κ} (v : V) (h : valV kvs k = none) : putK kvs k v = kvs ++ [(k, v)] := by
  unfold putK
  rw [valV_any, h]
  exact if_neg (by decide)
theorem RelO.isSome_eq {o : Option V} {u : Option Value} (r : RelO o u) : o.isSome = u.isSome := by
  cases o with
  | none => cases u with
    | none => rfl
    | some _ => exact (show False from r).elim
  | some _ => cases u with
    | none => exact (show False from r).elim
    | some _ => rfl
theorem KV.val {kvs : List (κ × V)} {vs : List (κ × Value)} (r : KV kvs vs) (k : κ) : RelO (valV kvs k) (valueAt vs k) := by
  unfold KV at r
  induction r with
  | nil => exact True.intro
  | @cons p q ps qs h t ih =>
    obtain ⟨h1, h2⟩ := h
    by_cases e : p.1 = k
    · have e' : q.1 = k := h1.symm.trans e
      have b : valueAt (q :: qs) k = some q.2 := by simp [valueAt, List.find?_cons, e']
      rw [valV_pos e, b]; exact h2
    · have e' : ¬ q.1 = k := fun z => e (h1.trans z)
      have b : valueAt (q :: qs) k = valueAt qs k := by simp [valueAt, List.find?_cons, e']
      rw [valV_neg e, b]; exact ih
theorem KV.any {kvs : List (κ × V)} {vs : List (κ × Value)} (r : KV kvs vs) (k : κ) : (kvs.any fun kv => decide (kv.1 = k)) = vs.any fun kv => decide (kv.1 = k) := by
  unfold KV at r
  induction r with
  | nil => rfl
  | cons h t ih => rw [List.any_cons, List.any_cons, ih, h.1]
theorem KV.repl {kvs : List (κ × V)} {vs : List (κ × Value)} (r : KV kvs vs) (k : κ) {y : V} {u : Value} (ry : RelV y u) :
    KV (kvs.map fun kv => if kv.1 = k then (kv.1, y) else kv) (vs.map fun kv => if kv.1 = k then (kv.1, u) else kv) := by
  unfold KV at r ⊢
  induction r with
  | nil => exact .nil
  | @cons p q ps qs h t ih =>
    rw [List.map_cons, List.map_cons]
    refine .cons ?_ ih
    obtain ⟨h1, h2⟩ := h
    by_cases e : p.1 = k
    · rw [if_pos e, if_pos (h1.symm.trans e)]; exact ⟨h1, ry⟩
    · rw [if_neg e, if_neg (fun z => e (h1.trans z))]; exact ⟨h1, h2⟩
theorem KV.put {kvs : List (κ × V)} {vs : List (κ × Value)} (r : KV kvs vs) (k : κ) {y : V} {u : Value} (ry : RelV y u) : KV (putK kvs k y) (stored vs k u) := by
  unfold putK stored
  rw [r.any k]
  by_cases e : (vs.any fun kv => decide (kv.1 = k)) = true
  · rw [if_pos e, if_pos e]; exact r.repl k ry
  · rw [if_neg e, if_neg e]; exact Paired.snoc r ⟨rfl, ry⟩
theorem KV.length {kvs : List (κ × V)} {vs : List (κ × Value)} (r : KV kvs vs) : kvs.length = vs.length := Paired.length r
end
theorem kV_is {P : Program} {w : World} {k : Key} {u : Value} (r : RelV (kV k) u) : (mixKind P w).is k u = true := by
  cases k with
  | inl i => obtain ⟨t, e⟩ := (show ∃ t, u = Value.int i t from r); subst e; exact mixKind_int P w i t
  | inr x => obtain ⟨t, e⟩ := (show ∃ t, u = Value.str x t from r); subst e; exact mixKind_str P w x t
theorem nV_is {P : Program} {w : World} {k : NKey} {u : Value} (r : RelV (nV k) u) : (optKind P w).is k u = true := by
  cases k with
  | none => cases (show u = Value.none from r); rfl
  | some k => exact kV_is (P := P) (w := w) (k := k) r
theorem items_are {P : Program} {w : World} : ∀ {ks : List NKey} {us : List Value}, Vals (ks.map nV) us → ItemsAre (optKind P w) ks us
  | [], _, r => by rw [List.map_nil] at r; cases r; exact .nil
  | k :: ks, _, r => by
    rw [List.map_cons] at r
    cases r with
    | cons h t => exact .cons (nV_is h) (items_are t)
noncomputable abbrev KT (H : Hp) : List (List NKey × V) → List (List NKey × Addr × Value) → Prop := Paired fun p q => p.1 = q.1 ∧ H q.2.1 = some (.tup (p.1.map nV)) ∧ RelV p.2 q.2.2
theorem KT.val {H : Hp} {kvs : List (List NKey × V)} {xs : List (List NKey × Addr × Value)} (r : KT H kvs xs) (k : List NKey) : RelO (valV kvs k) ((atKey xs k).map (·.2)) := by
  induction r with
  | nil => exact True.intro
  | @cons p q ps qs h t ih =>
    obtain ⟨h1, _, h2⟩ := h
    by_cases e : p.1 = k
    · have e' : q.1 = k := h1.symm.trans e
      have b : atKey (q :: qs) k = some q.2 := by simp [atKey, List.find?_cons, e']
      rw [valV_pos e, b]; exact h2
    · have e' : ¬ q.1 = k := fun z => e (h1.trans z)
      have b : atKey (q :: qs) k = atKey qs k := by simp [atKey, List.find?_cons, e']
      rw [valV_neg e, b]; exact ih
theorem KT.repl {H : Hp} {kvs : List (List NKey × V)} {xs : List (List NKey × Addr × Value)} (r : KT H kvs xs) (k : List NKey) {y : V} {u : Value} (ry : RelV y u) :
    KT H (kvs.map fun kv => if kv.1 = k then (kv.1, y) else kv) (xs.map (putAt k u)) := by
  induction r with
  | nil => exact .nil
  | @cons p q ps qs h t ih =>
    rw [List.map_cons, List.map_cons]
    refine .cons ?_ ih
    obtain ⟨h1, h2, h3⟩ := h
    unfold putAt
    by_cases e : p.1 = k
    · rw [if_pos e, if_pos (h1.symm.trans e)]; exact ⟨h1, h2, ry⟩
    · rw [if_neg e, if_neg (fun z => e (h1.trans z))]; exact ⟨h1, h2, h3⟩
theorem KT.put {H : Hp} {kvs : List (List NKey × V)} {xs : List (List NKey × Addr × Value)} (r : KT H kvs xs) (k : List NKey) {b : Addr} {y : V} {u : Value} (hb : H b = some (.tup (k.map nV))) (ry : RelV y u) :
    KT H (putK kvs k y) (storedH xs k b u) := by
  have e : (kvs.any fun kv => decide (kv.1 = k)) = (atKey xs k).isSome := by
    rw [valV_any, (r.val k).isSome_eq, Option.isSome_map]
  unfold putK storedH
  rw [e]
  by_cases q : (atKey xs k).isSome = true
  · rw [if_pos q, if_pos q]; exact r.repl k ry
  · rw [if_neg q, if_neg q]; exact Paired.snoc r ⟨rfl, hb, ry⟩
theorem KT.keeps {H H' : Hp} {kvs : List (List NKey × V)} {xs : List (List NKey × Addr × Value)} (r : KT H kvs xs) (ht : ∀ b ys, H b = some (.tup ys) → H' b = some (.tup ys)) : KT H' kvs xs :=
  Paired.mapP r fun _ _ z => ⟨z.1, ht _ _ z.2.1, z.2.2⟩
section
variable {P : Program} {w : World} {H : Hp} {h : Heap} {a : Addr}
theorem rd_of {u : HO} (ok : HOk P w H h) (e : Rd H a u) : ObjOk P w H h a u := e.ok ok
theorem dk_rd {kvs : List (Key × V)} (ok : HOk P w H h) (e : Rd H a (.dK kvs)) : kvs.length ≤ sizeLine ∧ (a == sysModules) = false ∧ ∃ vs, KV kvs vs ∧ h.DictOf (mixKind P w) a vs :=
  show ObjOk P w H h a (.dK kvs) from rd_of ok e
theorem dk_of {kvs : List (Key × V)} (ok : HOk P w H h) (e : H a = some (.dK kvs)) : kvs.length ≤ sizeLine ∧ (a == sysModules) = false ∧ ∃ vs, KV kvs vs ∧ h.DictOf (mixKind P w) a vs := dk_rd ok (.inl e)
theorem key_of {ks : List NKey} (ok : HOk P w H h) (e : H a = some (.tup (ks.map nV))) : (tupleKind (optKind P w)).is h ks a := by
  obtain ⟨_, its, r, o, h1, h2, n, h3⟩ := (show ObjOk P w H h a (.tup (ks.map nV)) from ok a _ e)
  exact ⟨o, its.toArray, n, h1, h2, h3, by simpa using items_are r⟩
theorem dt_rd {kvs : List (List NKey × V)} (ok : HOk P w H h) (e : Rd H a (.dT kvs)) : kvs.length ≤ sizeLine ∧ (a == sysModules) = false ∧
    ∃ xs, KT H kvs xs ∧ h.DictOfH (tupleKind (optKind P w)) a xs := by
  obtain ⟨z, y, xs, r, o, es, ep, h1, h2, h3, h4, h5⟩ := (show ObjOk P w H h a (.dT kvs) from rd_of ok e)
  refine ⟨z, y, xs, r, o, es, ep, h1, h2, h3, h4, fun x hx => ?_, h5⟩
  have all : ∀ {l : List (List NKey × V)} {m : List (List NKey × Addr × Value)}, KT H l m → ∀ x ∈ m, (tupleKind (optKind P w)).is h x.1 x.2.1 := by
    intro l m q
    induction q with
    | nil => intro x hx; exact nomatch hx
    | @cons p q ps qs hq t ih =>
      intro x hx
      rcases List.mem_cons.mp hx with e | hx
      · subst e
        exact key_of ok (by rw [← hq.1]; exact hq.2.1)
      · exact ih x hx
  exact all r x hx
theorem dt_of {kvs : List (List NKey × V)} (ok : HOk P w H h) (e : H a = some (.dT kvs)) : kvs.length ≤ sizeLine ∧ (a == sysModules) = false ∧
    ∃ xs, KT H kvs xs ∧ h.DictOfH (tupleKind (optKind P w)) a xs := dt_rd ok (.inl e)
end
noncomputable def DGet (H : Hp) (a : Addr) (y : V) (r : Option V) : Prop :=
  (∃ kvs k, Rd H a (.dK kvs) ∧ y = kV k ∧ r = valV kvs k) ∨ ∃ kvs k b, Rd H a (.dT kvs) ∧ y = .ref b ∧ H b = some (.tup (k.map nV)) ∧ r = valV kvs k
noncomputable def DPut (H : Hp) (a : Addr) (y v : V) (H' : Hp) : Prop :=
  (∃ kvs k, H a = some (.dK kvs) ∧ y = kV k ∧ kvs.length < sizeLine ∧ H' = upd H a (.dK (putK kvs k v))) ∨
  ∃ kvs k b, H a = some (.dT kvs) ∧ y = .ref b ∧ H b = some (.tup (k.map nV)) ∧ kvs.length < sizeLine ∧ H' = upd H a (.dT (putK kvs k v))
theorem DGet.k {H : Hp} {a : Addr} {kvs : List (Key × V)} {k : Key} (e : H a = some (.dK kvs)) : DGet H a (kV k) (valV kvs k) := .inl ⟨kvs, k, .inl e, rfl, rfl⟩
theorem DPut.t {H : Hp} {a b : Addr} {kvs : List (List NKey × V)} {k : List NKey} {v : V} (e : H a = some (.dT kvs)) (eb : H b = some (.tup (k.map nV))) (hl : kvs.length < sizeLine) :
    DPut H a (.ref b) v (upd H a (.dT (putK kvs k v))) := .inr ⟨kvs, k, b, e, rfl, eb, hl, rfl⟩
section
variable {X : Cx} {pins : List (Addr × Obj)} {σ : St} {H : Hp} {s : Shared} {a : Addr} {y v : V} {u r : Value} {o : Option V} {A : Around} {E : Value → Shared → Prop}
theorem Inv.big (I : Inv X pins σ H s) : sysModules < s.heap.objs.size := by
  have h : mainGlobals < s.heap.objs.size := (I.mod.glob.keeps I.bk).lt
  exact Nat.lt_trans (by decide) h
theorem d_getItem {Q : Value → Shared → Prop} (hu : A.units + 1 < cLine) (I : Inv X pins σ H s) (g : DGet H a y (some v)) (ry : RelV y u) (h : ∀ w' s', Inv X pins σ H s' → RelV v w' → Q w' s') :
    wpAny (model X.prog X.w) A (getItem (.ref a) u) Q E s := by
  rcases g with ⟨kvs, k, e, ey, l⟩ | ⟨kvs, k, b, e, ey, eb, l⟩
  · subst ey
    obtain ⟨z, hd, vs, rel, dd⟩ := dk_rd I.hok e
    obtain ⟨w', hw, rw'⟩ := RelO.some_of (v := v) (o := valueAt vs k) (by rw [l]; exact rel.val k)
    exact wpAny_getItem_of (kV_is ry) dd.mapOf hw (h w' _ (I.tok _) rw')
  · subst ey
    cases (show u = Value.ref b from ry)
    obtain ⟨z, hd, xs, rel, dd⟩ := dt_rd I.hok e
    obtain ⟨w', hw, rw'⟩ := RelO.some_of (v := v) (o := (atKey xs k).map (·.2)) (by rw [l]; exact rel.val k)
    obtain ⟨p, hp, hp2⟩ := Option.map_eq_some_iff.mp hw
    refine wpAny_getItem_heap (tupleKind_room_in1 hu) (key_of I.hok eb) dd hp ?_
    rw [hp2]
    exact h w' _ (I.tok _) rw'
theorem d_write {h' : Heap} {t' : Nat} {ob : HO} (I : Inv X pins σ H s) (mu : Mut (H a)) (hs : Heap.SameBut a s.heap h') (he : ∃ q, h'.get? a = some q) (new : ObjOk X.prog X.w (upd H a ob) h' a ob) :
    Inv X pins σ (upd H a ob) { s with heap := h', toks := t' } :=
  I.write (x := a) (e := a) mu (.inl rfl) (fun b q hb z => (hs.2 b hb).trans z) he new
theorem dk_new {P : Program} {w : World} {H' : Hp} {h' : Heap} {kvs : List (Key × V)} {vs : List (Key × Value)} (z : kvs.length ≤ sizeLine) (hd : (a == sysModules) = false) (rel : KV kvs vs) (dd : h'.DictOf (mixKind P w) a vs) :
    ObjOk P w H' h' a (.dK kvs) := ⟨z, hd, vs, rel, dd⟩
theorem d_setItem {H' : Hp} {Q : Unit → Shared → Prop} (hu : A.units + 1 < cLine) (I : Inv X pins σ H s) (g : DPut H a y v H') (ry : RelV y u) (rv : RelV v r) (h : ∀ s', Inv X pins σ H' s' → Q () s') :
    wpAny (model X.prog X.w) A (setItem (.ref a) u r) Q E s := by
  rcases g with ⟨kvs, k, e, ey, l, eH⟩ | ⟨kvs, k, b, e, ey, eb, l, eH⟩
  · subst ey eH
    obtain ⟨z, hd, vs, rel, dd⟩ := dk_of I.hok e
    have hz : vs.length ≤ sizeLine := by rw [← rel.length]; exact z
    have hl : (putK kvs k v).length ≤ sizeLine := by have := length_putK kvs k v; omega
    refine wpAny_setItem_pairs (hsz := hz) (kV_is ry) dd fun h' dd' hs => h _ ?_
    have he : ∃ q, h'.get? a = some q := let ⟨q, _, _, hq, _⟩ := dd'; ⟨q, hq⟩
    exact d_write I (by rw [e]; exact True.intro) hs he (dk_new hl hd (rel.put k rv) dd')
  · subst ey eH
    cases (show u = Value.ref b from ry)
    obtain ⟨z, hd, xs, rel, dd⟩ := dt_of I.hok e
    have hz : xs.length ≤ sizeLine := by rw [← Paired.length rel]; exact z
    have hl : (putK kvs k v).length ≤ sizeLine := by have := length_putK kvs k v; omega
    refine wpAny_setItem_heap (hsz := hz) (tupleKind_room_in1 hu) (key_of I.hok eb) dd fun h' dd' hs => h _ ?_
    obtain ⟨q, es, ep, hq, h2, h3, h4, _, h5⟩ := dd'
    refine d_write I (by rw [e]; exact True.intro) hs ⟨q, hq⟩ ⟨hl, hd, _, (rel.put k eb rv).keeps fun c ys ec => ?_, q, es, ep, hq, h2, h3, h4, h5⟩
    rw [upd_ne (ne_of ec e (fun z => nomatch z))]
    exact ec
end
section
variable {X : Cx} {pins : List (Addr × Obj)} {σ : St} {H : Hp} {s : Shared} {a : Addr} {kvs : List (Key × V)} {k : Key} {u : Value} {A : Around} {E : Value → Shared → Prop}
end
noncomputable def NoSl (i : Expr) : Prop := ∀ ov iv, subscripted i false ov iv = operate [ov, iv] (getItem ov iv)
theorem subD_of {prog : Program} {w : World} {A : Around} {E : Value → Shared → Prop} {s : Shared} {env : Env} {value slice : Expr} {pos : Pos} {T id : String} {Q : Value → Shared → Prop}
    (hl : typeLookup (.type T) "__getitem__" = pure (some (.builtin id))) (hs : NoSl slice)
    (h : wpAny (model prog w) A (eval value env) (fun o s₁ => wpAny (model prog w) A (eval slice env) (fun i s₂ => s₂.TypeIs o T ∧ wpAny (model prog w) A (getItem o i) Q E s₂) E s₁) E s) :
    wpAny (model prog w) A (eval (.Subscript value slice pos) env) Q E s := by
  refine Subscript_ (wpAny_mono h (fun o s₁ h₁ => wpAny_mono h₁ (fun i s₂ h₂ => ?_) fun _ _ x => x) fun _ _ x => x)
  obtain ⟨hT, h₂⟩ := h₂
  unfold subscriptTail
  refine wpAny_bind ?_
  rw [getitemInPython_of_ne hT.not_modules]
  refine wpAny_bind (wpAny_specialOf hT hl ?_)
  have fin : wpAny (model prog w) A (subscripted slice false o i) (fun r s₃ => wpAny (model prog w) A (letTemporaryGo value o r >>= fun _ => pure r) Q E s₃) E s₂ := by
    rw [hs o i]
    exact wpAny_operating (wpAny_mono h₂ (fun r s₃ h₃ => wpAny_bind (wpAny_letTemporaryGo (wpAny_pure h₃))) fun _ _ x => x)
  first
    | exact wpAny_pure (wpAny_bind fin)
    | exact wpAny_bind (wpAny_pure (wpAny_bind fin))
    | exact wpAny_bind fin
theorem dict_typeIs {X : Cx} {pins : List (Addr × Obj)} {σ : St} {H : Hp} {s : Shared} {a : Addr} {y : V} {o : Option V} (I : Inv X pins σ H s) (g : DGet H a y o) : s.TypeIs (.ref a) "dict" := by
  rcases g with ⟨kvs, k, e, _, _⟩ | ⟨kvs, k, b, e, _, _, _⟩
  · obtain ⟨_, _, vs, _, dd⟩ := dk_rd I.hok e
    exact dd.typeIs
  · obtain ⟨_, _, xs, _, dd⟩ := dt_rd I.hok e
    exact dd.typeIs
noncomputable def tDGet (td ty : TE) : TE := fun σ H Q => td σ H fun x H1 => ty σ H1 fun y H2 => ∃ a v, x = .ref a ∧ DGet H2 a y (some v) ∧ Q v H2
noncomputable def tDIn (ty td : TE) : TE := fun σ H Q => ty σ H fun y H1 => td σ H1 fun x H2 => ∃ a o, x = .ref a ∧ DGet H2 a y o ∧ Q (.bl o.isSome) H2
noncomputable def tDNotIn (ty td : TE) : TE := fun σ H Q => ty σ H fun y H1 => td σ H1 fun x H2 => ∃ a o, x = .ref a ∧ DGet H2 a y o ∧ Q (.bl (!o.isSome)) H2
noncomputable def sDPut (td ty tv : TE) : TS := fun D σ H => tv σ H fun v H1 => td σ H1 fun x H2 => ty σ H2 fun y H3 => ∃ a H4, x = .ref a ∧ DPut H3 a y v H4 ∧ D.nx σ H4
section
variable {X : Cx} {o i e value : Expr} {pos pos' tpos : Pos} {td ty tv : TE}
theorem pe_dget (hu : X.A.units + 1 < cLine) (ho : PE X o td) (hi : PE X i ty) (hs : NoSl i) : PE X (.Subscript o i pos) (tDGet td ty) := by
  intro pins s σ H Q I h
  refine subD_of PySem.F.slot_dict_getitem.lookup hs (thn (ho pins s σ H _ I h) fun u s1 ⟨x, H1, I1, rx, q1⟩ => thn (hi pins s1 σ H1 _ I1 q1) fun iv s2 ⟨y, H2, I2, ry, a, v, ex, g, q2⟩ => ?_)
  subst ex
  obtain rfl : u = Value.ref a := rx
  exact ⟨dict_typeIs I2 g, d_getItem hu I2 g ry fun w' s3 I3 rw' => ⟨v, H2, I3, rw', q2⟩⟩
theorem ps_dput (hu : X.A.units + 1 < cLine) (ho : PE X o td) (hi : PE X i ty) (hv : PE X value tv) (hs : swapsWith value (some (.Subscript o i pos')) pos.line X.env = pure false) :
    PS X (.Assign [.Subscript o i pos'] value pos) (sDPut td ty tv) := by
  intro pins s σ H D I h
  refine wpAny_Assign_Subscript (thn (hv pins s σ H _ I h) fun r s1 ⟨v, H1, I1, rv, q1⟩ => thn (ho pins s1 σ H1 _ I1 q1) fun u s2 ⟨x, H2, I2, rx, q2⟩ => thn (hi pins s2 σ H2 _ I2 q2) fun iv s3 ⟨y, H3, I3, ry, a, H4, ex, g, q3⟩ => ?_) hs
  subst ex
  obtain rfl : u = Value.ref a := rx
  exact d_setItem hu I3 g ry rv fun s4 I4 => ⟨σ, H4, I4, q3⟩
end
theorem dk_empty {P : Program} {w : World} {H : Hp} (h : Heap) (hb : sysModules < h.objs.size) : ObjOk P w H (h.push { cls := .type "dict", data := .dict #[] }) h.objs.size (.dK []) :=
  ⟨Nat.zero_le _, beq_eq_false_iff_ne.mpr (Ne.symm (Nat.ne_of_lt hb)), [], .nil, Heap.DictOf.new h⟩
theorem dt_empty {P : Program} {w : World} {H : Hp} (h : Heap) (hb : sysModules < h.objs.size) : ObjOk P w H (h.push { cls := .type "dict", data := .dict #[] }) h.objs.size (.dT []) :=
  ⟨Nat.zero_le _, beq_eq_false_iff_ne.mpr (Ne.symm (Nat.ne_of_lt hb)), [], .nil, _, #[], 0, Heap.get?_push_size _ rfl, ⟨rfl, rfl, rfl⟩, rfl, rfl, List.nodup_nil⟩
noncomputable def tDNewK : TE := fun _ H Q => ∀ p, H p = none → Q (.ref p) (upd H p (.dK []))
section
variable {X : Cx} {pos : Pos}
end
noncomputable def tPairs : List (TE × TE) → St → Hp → (List (V × V) → Hp → Prop) → Prop
  | [], _, H, Q => Q [] H
  | (tk, tv) :: r, σ, H, Q => tk σ H fun x H1 => tv σ H1 fun y H2 => tPairs r σ H2 fun ps H3 => Q ((x, y) :: ps) H3
noncomputable abbrev VV : List (V × V) → List (Value × Value) → Prop := Paired fun p q => RelV p.1 q.1 ∧ RelV p.2 q.2
noncomputable def PPs (X : Cx) (pos : Pos) (keys : List (Option Expr)) (values : List Expr) (trs : List (TE × TE)) : Prop :=
  ∀ (pins : List (Addr × Obj)) (s : Shared) (σ : St) (H : Hp) (Q : List (V × V) → Hp → Prop), Inv X pins σ H s → tPairs trs σ H Q →
    wpAny (model X.prog X.w) X.A (evalPairs (pairTrees keys values X.env pos)) (fun vs s' => ∃ ps H', Inv X pins σ H' s' ∧ VV ps vs ∧ Q ps H') X.xe s
theorem pps_nil {X : Cx} {pos : Pos} : PPs X pos [] [] [] := fun pins s σ H Q I h => pairTrees_nil_walk ⟨[], H, I, .nil, h⟩
theorem pps_cons {X : Cx} {pos : Pos} {k v : Expr} {ks : List (Option Expr)} {vs : List Expr} {tk tv : TE} {trs : List (TE × TE)} (hk : PE X k tk) (hv : PE X v tv) (hr : PPs X pos ks vs trs) :
    PPs X pos (some k :: ks) (v :: vs) ((tk, tv) :: trs) := fun pins s σ H Q I h =>
  pairTrees_cons_walk (thn (hk pins s σ H _ I h) fun u s1 ⟨x, H1, I1, rx, q1⟩ => thn (hv pins s1 σ H1 _ I1 q1) fun w2 s2 ⟨y, H2, I2, ry, q2⟩ =>
    thn (hr pins s2 σ H2 _ I2 q2) fun ws s3 ⟨ps, H3, I3, rel, q3⟩ => ⟨(x, y) :: ps, H3, I3, .cons ⟨rx, ry⟩ rel, q3⟩)
noncomputable def mergeK (kvs more : List (Key × V)) : List (Key × V) := more.foldl (fun acc kv => putK acc kv.1 kv.2) kvs
theorem KV.merge : ∀ {more : List (Key × V)} {rs : List (Key × Value)} {kvs : List (Key × V)} {vs : List (Key × Value)}, KV more rs → KV kvs vs → KV (mergeK kvs more) (merged vs rs) := by
  intro more rs kvs vs r
  unfold KV at r
  induction r generalizing kvs vs with
  | nil => intro q; exact q
  | @cons p q ps qs h t ih =>
    intro r0
    have e : KV (putK kvs p.1 p.2) (stored vs q.1 q.2) := by
      have := r0.put p.1 h.2
      rw [← h.1]; exact this
    exact ih e
theorem length_mergeK : ∀ (more kvs : List (Key × V)), (mergeK kvs more).length ≤ kvs.length + more.length
  | [], kvs => by show kvs.length ≤ kvs.length + 0; omega
  | p :: r, kvs => by
    have h1 := length_mergeK r (putK kvs p.1 p.2)
    have h2 := length_putK kvs p.1 p.2
    show (mergeK (putK kvs p.1 p.2) r).length ≤ _
    rw [List.length_cons]; omega
theorem carries_of {P : Program} {w : World} : ∀ {kvs : List (Key × V)} {ws : List (Value × Value)}, VV (kvs.map fun kv => (kV kv.1, kv.2)) ws → ∃ rs, Carries (mixKind P w) ws rs ∧ KV kvs rs
  | [], _, r => by rw [List.map_nil] at r; cases r; exact ⟨[], True.intro, .nil⟩
  | p :: kvs, _, r => by
    rw [List.map_cons] at r
    cases r with
    | @cons a b as bs h t =>
      obtain ⟨rs, c, q⟩ := carries_of (P := P) (w := w) t
      obtain ⟨b1, b2⟩ := b
      exact ⟨(p.1, b2) :: rs, ⟨kV_is h.1, rfl, c⟩, .cons ⟨rfl, h.2⟩ q⟩
noncomputable def tDisp (trs : List (TE × TE)) : TE := fun σ H Q => ∀ p, H p = none → tPairs trs σ (upd H p (.dK [])) fun ps H2 => H2 p = some (.dK []) ∧ ∃ kvs : List (Key × V), ps = kvs.map (fun kv => (kV kv.1, kv.2)) ∧ kvs.length ≤ 15 ∧ Q (.ref p) (upd H2 p (.dK (mergeK [] kvs)))
theorem pe_disp {X : Cx} {pos : Pos} {keys : List (Option Expr)} {values : List Expr} {trs : List (TE × TE)} (h : PPs X pos keys values trs) (hall : keys.all (·.isSome) = true) (hl : keys.length = values.length) (h0 : keys ≠ [])
    (h15 : keys.length ≤ 15) : PE X (.Dict keys values pos) (tDisp trs) := by
  intro pins s σ H Q I q
  have hn := I.hok.fresh (Nat.le_refl s.heap.objs.size)
  have I1 := I.laid (a := s.heap.objs.size) (o := .dK []) (h' := s.heap.push { cls := .type "dict", data := .dict #[] }) (t' := s.toks) (fun _ _ q => Heap.get?_push_of_some _ q) (Nat.le_refl _) (dk_empty s.heap I.big)
  refine wpAny_Dict_walk (knd := mixKind X.prog X.w) hall hl h0 h15 (thn (h pins _ σ _ _ I1 (q _ hn)) fun ws s2 ⟨ps, H2, I2, rel, e, kvs, ep, lk, q2⟩ => ?_)
  subst ep
  obtain ⟨rs, c, rk⟩ := carries_of (P := X.prog) (w := X.w) rel
  obtain ⟨z, hd, vs0, r0, dd⟩ := dk_of I2.hok e
  cases r0
  refine ⟨rs, c, dd, fun h' dd' hs => ⟨.ref s.heap.objs.size, _, ?_, rfl, q2⟩⟩
  have hz : (mergeK [] kvs).length ≤ sizeLine := by
    have h1 := length_mergeK kvs []
    rw [List.length_nil] at h1
    rw [sizeLine_eq]; omega
  have he : ∃ q, h'.get? s.heap.objs.size = some q := let ⟨q, _, _, hq, _⟩ := dd'; ⟨q, hq⟩
  exact d_write I2 (by rw [e]; exact True.intro) hs he (dk_new hz hd (rk.merge .nil) dd')
section
variable {X : Cx} {pins : List (Addr × Obj)} {σ : St} {H : Hp} {s : Shared} {a : Addr} {y d : V} {u r : Value} {o : Option V} {A : Around} {E : Value → Shared → Prop}
end
section
variable {X : Cx} {o e f : Expr} {apos cpos : Pos} {td ty tx : TE}
end
section
variable {X : Cx} {pins : List (Addr × Obj)} {σ : St} {H : Hp} {s : Shared} {a : Addr} {kvs : List (Key × V)} {A : Around} {E : Value → Shared → Prop}
end
section
variable {X : Cx} {pins : List (Addr × Obj)} {σ : St} {H : Hp} {s : Shared} {a : Addr} {y : V} {u : Value} {A : Around} {E : Value → Shared → Prop}
end
end L2
namespace Att
open PySem PySem.W PySem.Calls PyProof.Rows
theorem ints_of_wellAll {P : Params} {h : Heap} : ∀ (ns : List Int) (vs : List Value), WellAll P h vs (ns.map WData.int) → IntsAre vs ns := by
  intro ns
  induction ns with
  | nil =>
    intro vs w
    rw [List.map_nil] at w
    cases w
    exact .nil
  | cons n ns ih =>
    intro vs w
    rw [List.map_cons] at w
    cases w with
    | cons a b =>
      cases a
      exact .cons _ _ (ih _ b)
theorem script_of {l : OpenLaw} {n : Nat} (hn : l.most = some n) {P : Params} {h : Heap} {args : List WData} {vals : List Value}
    (hpre : l.row.toRowW.claim.pre args = true) (hwl : WellAll P h vals args) :
    ∃ a vs ns, vals = [Value.ref a] ∧ args = [WData.list (ns.map WData.int)] ∧ h.get? a = some { cls := .type "list", data := .seq vs.toArray } ∧ IntsAre vs ns ∧ ns.length ≤ n := by
  have hsh : WShape.hasAll [] args [.list .int] = true := (pre_splitW hpre).1
  have hc : l.pre.holds [] { args := args } = true := (pre_splitW hpre).2
  obtain ⟨d, r, rfl, h1, h2⟩ := hasAllW_cons hsh
  obtain rfl := hasAllW_nil h2
  obtain ⟨xs, rfl, h3⟩ := hasW_list h1
  obtain ⟨ns, rfl⟩ := items_int h3
  have hlen : ns.length ≤ n := by
    unfold OpenLaw.pre at hc
    have h4 : (WTm.not (.lt (.lit (.int (n : Int))) (.len (.arg 0)))).holds [] { args := [.list (ns.map .int)] } = true := by
      have h4 := (holds_andW hc).1
      rw [hn] at h4
      exact h4
    have h5 := condW_of h4 (w_not (w_lt w_lit (w_len_list (w_arg rfl))))
    rw [List.length_map] at h5
    refine Nat.le_of_not_lt fun q => ?_
    have q' : (n : Int) < ((ns.length : Nat) : Int) := by omega
    first
      | (rw [decide_eq_true q'] at h5; exact absurd h5 (by decide))
      | (simp at h5; omega)
  cases hwl with
  | cons w1 w2 =>
    cases w2
    cases w1 with
    | list ho hall => exact ⟨_, _, ns, rfl, rfl, ho, ints_of_wellAll ns _ hall, hlen⟩
theorem post_true (l : OpenLaw) (args : List WData) : l.row.toRowW.claim.post args (.bool true) args = true :=
  postW_of (r := l.row.toRowW) (X := (true == true))
    (show WShape.has [] (.bool true) .bool = true by first | rfl | decide | simp [WShape.has, WShape.arms, WShape.armsAll])
    (show (WTm.eq .res (.lit (.bool true))).value [] { args := args, res := some (.bool true), after := args } = some (.bool (true == true)) from w_eq_bool (w_res rfl) w_lit) rfl
theorem attach_call {l : OpenLaw} {n : Nat} {q : Program} {loose : List Str} {XP : (Str → Option Value) → Heap → Prop} {YP : World → Heap → Prop} {d : DefRec}
    (hn : l.most = some n) (hdf : d.params.defaults = [])
    (call : ∀ (w : World) (s₀ s₁ : Shared) (mg mb : Str → Option Value) (fa : Addr) (o : Obj) (pm cd doc : Value) (a : Addr) (vs : List Value) (ns : List Int),
      Ground q loose [] XP w s₀ mg mb s₁.heap → YP w s₁.heap →
      s₁.heap.get? fa = some o → o.data = .func (docDef d.name d.params d.body d.scope pm cd doc) → s₁.heap.CodeRec cd d.name → mg d.name = some (.ref fa) →
      s₁.heap.get? a = some { cls := .type "list", data := .seq vs.toArray } → IntsAre vs ns → ns.length ≤ n → s₁.gens = #[] →
      codeAny (model l.prog w) callerA (.call (.ref fa) ⟨[.ref a], []⟩) (fun r s' => r = .ok (.ret (.bool true)) ∧ OldK s₁.heap s'.heap ∧ s'.os = s₁.os ∧ AllBare s'.gens) s₁) :
    WalkO q loose XP YP l.row.toRowW d [] (fun f vs => PySem.call f vs) := by
  intro w s₀ s₁ mg mb G Y fa o pm cd doc dV kV ho hd hcd hD hmg hg args vals as hpre hlay hrd hwl hlo
  obtain rfl : dV = .none := Dflts.none hD hdf
  obtain rfl : kV = .none := Dflts.noKw hD
  obtain ⟨a, vs, ns, rfl, rfl, hobj, hints, hlen⟩ := script_of hn hpre hwl
  refine enter_call (codeAny_mono (call w s₀ s₁ mg mb fa o pm cd doc a vs ns G Y ho (fd_plain hd) hcd hmg hobj hints hlen hg) fun r s' hq => ?_)
  obtain ⟨rfl, h2, h3, h4⟩ := hq
  exact ⟨.inl ⟨.bool true, .bool true, [], rfl, fun _ => rfl, .bool true, post_true l _, fun _ => ⟨List.Pairwise.nil, fun _ hm => (nomatch hm)⟩⟩, h2, h3, h4⟩
section
variable {prog : Program} {w : World} {A : Around} {E : Value → Shared → Prop} {s : Shared} {K : Frag}
end
end Att
namespace L2
open PySem PySem.Spec PyProof.Rows
theorem vals_ints : ∀ {vs : List Value} {ns : List Int}, IntsAre vs ns → Vals (ns.map V.int) vs
  | _, _, .nil => .nil
  | _, _, .cons n t h => .cons ⟨t, rfl⟩ (vals_ints h)
noncomputable def Only (H : Hp) : Prop := ∀ b, H b = none ∨ ∃ o xs, H b = some (.frz o (.lst xs))
theorem law_call {P : Program} {w : World} {K : PySem.W.Frag} {mg mb : Str → Option Value} {CX : CXT} {k : Nat} {fa a : Addr} {fd : FuncData} {x : Str} {sp : Sp} {s₁ : Shared} {vs : List Value} {ns : List Int}
    (KX : K.In s₁.heap) (hns : s₁.heap.Ns mainGlobals mg) (hb : s₁.heap.Ns builtinsNs mb) (hbb : ∀ x : Str, x ≠ "__name__" → mb x = bootBuiltins x) (hlim : s₁.heap.NoLimit) (hg : s₁.gens = #[])
    (ha : s₁.heap.get? a = some { cls := .type "list", data := .seq vs.toArray }) (hi : IntsAre vs ns) (hl : ns.length ≤ sizeLine) (hr : Room k callerA)
    (F : ∀ base : Heap, K.In base → base.Ns mainGlobals mg → FnOk P w K mg base CX k fa fd [x] sp) (hbind : ∀ (s : Shared) (u : Value), BindsTo s fd ⟨[u], []⟩ [(x, u)])
    (hsp : ∀ H : Hp, Only H → SqL K H a (ns.map V.int) → sp [.ref a] H (fun v _ => v = .bl true) fun _ _ _ => False)
    (hCX : ∀ H e s', CX [] H s₁ (fun _ _ _ => False) e s' → False) :
    codeAny (model P w) callerA (.call (.ref fa) ⟨[.ref a], []⟩) (fun r s' => r = .ok (.ret (.bool true)) ∧ OldK s₁.heap s'.heap ∧ s'.os = s₁.os ∧ AllBare s'.gens) s₁ := by
  have rv := vals_ints hi
  have lenV := hi.length
  -- from an abstract heap in which nothing but the script may be tracked
  have core : ∀ H : Hp, Only H → SqL K H a (ns.map V.int) → HOk P w H s₁.heap → (∀ b, H b ≠ none → b = a) → (H a ≠ none → K.lookup a = none) →
      codeAny (model P w) callerA (.call (.ref fa) ⟨[.ref a], []⟩) (fun r s' => r = .ok (.ret (.bool true)) ∧ OldK s₁.heap s'.heap ∧ s'.os = s₁.os ∧ AllBare s'.gens) s₁ := by
    intro H hO hS hok hA hK
    have base_of : ∀ {b : Addr} {o : Obj}, s₁.heap.get? b = some o → H b = none → (hidT s₁.heap H).get? b = some o := fun e n => hidT_get e n
    have noA : ∀ {b : Addr} {o : Obj} {es : Array DictEntry} {ep : Nat}, s₁.heap.get? b = some o → o.data = .dict es ep → H b = none := fun {b o es ep} e d => by
      cases q : H b with
      | none => rfl
      | some u =>
        have e' : b = a := hA b (by rw [q]; simp)
        subst e'
        rw [ha] at e; cases e
        have d' : Data.seq vs.toArray _ = Data.dict es ep := d
        cases d'
    have nsK : ∀ {b : Addr} {m : Str → Option Value}, s₁.heap.Ns b m → (hidT s₁.heap H).Ns b m := fun {b m} ⟨o, es, ep, e, d, r⟩ => ⟨o, es, ep, base_of e (noA e d), d, r⟩
    have hKb : K.In (hidT s₁.heap H) := fun b o e => base_of (KX b o e) (by
      cases q : H b with
      | none => rfl
      | some u =>
        have e' : b = a := hA b (by rw [q]; simp)
        subst e'
        rw [hK (by rw [q]; simp)] at e; cases e)
    have hM : Mod K mg (hidT s₁.heap H) := ⟨hKb, nsK hns, ⟨mb, nsK hb, hbb⟩, let ⟨mc, h1, h2⟩ := hlim; ⟨mc, nsK h1, h2⟩⟩
    have e0 : Env0 P w K mg (hidT s₁.heap H) callerA [] s₁ H := ⟨rfl, hM, fun b o e => of_hidT e, Nat.le_of_eq (hidT_size _ _), trivial, fun b hb => absurd (show b ∈ ([] : List Addr) from hb) (by simp), hok, .of_eq hg⟩
    refine codeAny_mono ((F _ hKb (nsK hns)).run callerA [] s₁ H ⟨[.ref a], []⟩ [.ref a] [.ref a] _ _ hr e0 (hbind s₁ (.ref a)) (.cons rfl .nil) (hsp H hO hS)) fun r s' h => ?_
    cases r with
    | error e => exact (hCX H e s' h).elim
    | ok fl =>
      cases fl with
      | next => exact False.elim h
      | brk => exact False.elim h
      | cont => exact False.elim h
      | ret u =>
        obtain ⟨v, H', os, bare, un, hok', r', q⟩ := h
        have q' : v = .bl true := q
        subst q'
        obtain rfl : u = Value.bool true := r'
        refine ⟨rfl, OldK.of_keep fun b o e => ?_, os, bare⟩
        cases q : H b with
        | none => exact un.keep b o e q (by intro z; exact absurd (show b ∈ ([] : List Addr) from z) (by simp)) (by simp)
        | some u =>
          rcases hO b with z | ⟨ob, xs, z⟩
          · rw [q] at z; cases z
          · have z2 := un.frzs b ob _ z
            obtain ⟨e1, _⟩ := hok b _ z
            obtain ⟨e2, _⟩ := hok' b _ z2
            rw [e] at e1; cases e1
            exact e2
  cases hk : K.lookup a with
  | some o =>
    -- the script is one of the module's own objects
    have e := KX a o hk
    rw [ha] at e
    cases e
    refine core (fun _ => none) (fun _ => .inl rfl) (.inr ⟨_, vs.toArray, _, hk, rfl, rfl, rfl, by rw [List.size_toArray, lenV]; exact hl, by simpa using rv⟩) (fun b u z => by have z' : (none : Option HO) = some u := z; cases z') (fun b z => absurd rfl z) fun z => absurd rfl z
  | none =>
    refine core (fun b => if b = a then some (.frz { cls := .type "list", data := .seq vs.toArray } (.lst (ns.map V.int))) else none) (fun b => ?_) (.inl (.inr ⟨{ cls := .type "list", data := .seq vs.toArray }, if_pos rfl⟩)) (fun b u z => ?_) (fun b z => ?_) fun _ => hk
    · by_cases hb : b = a
      · exact .inr ⟨_, _, if_pos hb⟩
      · exact .inl (if_neg hb)
    · by_cases hb : b = a
      · have z' := (if_pos hb).symm.trans z
        cases z'
        subst hb
        exact ⟨ha, by rw [List.length_map]; exact hl, vs, _, rv, ha⟩
      · have z' := (if_neg hb).symm.trans z
        cases z'
    · by_cases hb : b = a
      · exact hb
      · exact absurd (if_neg hb) z
end L2
namespace L2
open PySem PySem.Spec PyProof.Rows
noncomputable abbrev KOf {K : PySem.W.Frag} {h : Heap} (_ : K.In h) : PySem.W.Frag := K
theorem walk_of {l : PySem.W.OpenLaw} {n k : Nat} {q : Program} {loose : List Str} {XP : (Str → Option Value) → Heap → Prop} {YP : World → Heap → Prop} {d : DefRec} {K : Params → PySem.W.Frag} {CX : World → CXT} {sp : World → Sp} {x : Str}
    (hn : l.most = some n) (hn2 : n ≤ sizeLine) (hdf : d.params.defaults = []) (hr : Room k callerA)
    (hY : ∀ (w : World) (h : Heap), YP w h → (K w.params).In h)
    (F : ∀ (w : World) (mg : Str → Option Value) (fa : Addr) (h : Heap), (K w.params).In h → h.Ns mainGlobals mg → mg d.name = some (.ref fa) →
      ∃ fd : FuncData, (∀ (s : Shared) (u : Value), BindsTo s fd ⟨[u], []⟩ [(x, u)]) ∧
        ∀ base : Heap, (K w.params).In base → base.Ns mainGlobals mg → FnOk l.prog w (K w.params) mg base (CX w) k fa fd [x] (sp w))
    (hsp : ∀ (w : World) (H : Hp) (a : Addr) (ns : List Int), ns.length ≤ n → Only H → SqL (K w.params) H a (ns.map V.int) → sp w [.ref a] H (fun v _ => v = .bl true) fun _ _ _ => False)
    (hCX : ∀ (w : World) (H : Hp) (s : Shared) (e : Value) (s' : Shared), CX w [] H s (fun _ _ _ => False) e s' → False) :
    PySem.W.WalkO q loose XP YP l.row.toRowW d [] (fun f vs => PySem.call f vs) := by
  refine Att.attach_call hn hdf fun w s₀ s₁ mg mb fa o pm cd doc a vs ns G Y ho hd hcd hmg hobj hints hlen hg => ?_
  have KX := hY w _ Y
  obtain ⟨fd, hb, hF⟩ := F w mg fa _ KX G.T.g hmg
  exact law_call KX G.T.g G.T.b G.T.builtins G.T.nolimit hg hobj hints (Nat.le_trans hlen hn2) hr hF hb (fun H hO hS => hsp w H a ns hlen hO hS) fun H e s' => hCX w H s₁ e s'
end L2
namespace L2
open PySem PySem.Spec PyProof.Rows
noncomputable def defArgs (s : Stmt) : Arguments := match s with
  | .FunctionDef _ a _ _ _ _ _ _ _ _ => a
  | _ => { posonlyargs := [], args := [], vararg := none, kwonlyargs := [], kw_defaults := [], kwarg := none, defaults := [] }
noncomputable def defBody (s : Stmt) : List Stmt := match s with
  | .FunctionDef _ _ b _ _ _ _ _ _ _ => b
  | _ => []
noncomputable def defScope (s : Stmt) : Scope := match s with
  | .FunctionDef _ _ _ _ _ _ sc _ _ _ => sc
  | _ => { kind := .function, names := [], isGenerator := false, isCoroutine := false }
noncomputable abbrev CX0 : CXT := fun _ _ _ _ _ _ => False
noncomputable abbrev E0 : XK := fun _ _ _ => False
theorem pass0 {X : Cx} : Passes CX0 X E0 := fun _ _ _ _ _ _ _ h => h.elim
structure Fun (K : PySem.W.Frag) (x qual : Str) (st : Stmt) (f : Addr) (fd : FuncData) : Prop where
  ex : ∃ (oc : Value) (od : Option Addr) (kV doc pm : Value) (an : Option Addr) (cdv ct : Value) (osl : Array (Option Value)),
    fd = PySem.W.fnOf x qual (defArgs st) (defBody st) (defScope st) .none kV doc pm an cdv ct ∧ K.lookup f = some ⟨oc, od, .func fd, osl⟩ ∧ PySem.W.codeIn K cdv qual = true
  kp : PySem.W.keepIn K (.ref f) = true
section
variable {P : Program} {w : World} {K : PySem.W.Frag} {mg : Str → Option Value} {base : Heap}
theorem Fun.ok {x qual : Str} {st : Stmt} {f : Addr} {fd : FuncData} {N ps : List Str} {k : Nat} {sp : Sp} (F : Fun K x qual st f fd) (S : FnScope N ps (defScope st)) (len : ∀ vs H Q E, sp vs H Q E → vs.length = ps.length)
    (hbody : ∀ (cdv : Value) (A : Around) (outer : List Env) (s : Shared) (H : Hp) (vs : List V) (Q : VK) (E : XK), Room k (A.deeper (envOfC qual (defScope st) s.heap.objs.size f cdv)) → sp vs H Q E →
      ∃ t, PSs (cxOf CX0 P w K mg base N qual (defScope st) f cdv A outer s H E).nox (defBody st) t ∧ t { nx := fun _ H' => Q .non H', rt := Q } (start N vs) H) : FnOk P w K mg base CX0 (k + 1) f fd ps sp := by
  obtain ⟨oc, od, kV, doc, pm, an, cdv, ct, osl, rfl, lk, hcd⟩ := F.ex
  refine fn_of lk hcd S len fun A outer s H vs Q E hr hsp => ?_
  obtain ⟨t, h, q⟩ := hbody cdv A outer s H vs Q E hr hsp
  exact ⟨t, h.nox, q⟩
theorem Fun.binds {x qual : Str} {st : Stmt} {f : Addr} {fd : FuncData} {ps : List Str} (F : Fun K x qual st f fd)
    (h : ∀ (kV doc pm : Value) (an : Option Addr) (cdv ct : Value) (us : List Value), us.length = ps.length → bindArgs (PySem.W.fnOf x qual (defArgs st) (defBody st) (defScope st) .none kV doc pm an cdv ct) ⟨us, []⟩ = pure (ps.zip us)) : Binds K fd ps [] := by
  obtain ⟨oc, od, kV, doc, pm, an, cdv, ct, osl, rfl, lk, hcd⟩ := F.ex
  exact .all (h kV doc pm an cdv ct)
theorem fun_mk {x qual : Str} {st : Stmt} {f : Addr} {oc : Value} {od an : Option Addr} {osl : Array (Option Value)} {kV doc pm cdv ct : Value} (l : K.lookup f = some ⟨oc, od, .func (PySem.W.fnOf x qual (defArgs st) (defBody st) (defScope st) .none kV doc pm an cdv ct), osl⟩)
    (c : PySem.W.codeIn K cdv qual = true) (k : PySem.W.keepIn K (.ref f) = true) : Fun K x qual st f (PySem.W.fnOf x qual (defArgs st) (defBody st) (defScope st) .none kV doc pm an cdv ct) := ⟨⟨oc, od, kV, doc, pm, an, cdv, ct, osl, rfl, l, c⟩, k⟩
end
theorem hu_of {A : Around} {k : Nat} (hr : Room k A) : A.units + 1 < cLine := Nat.lt_of_le_of_lt (Nat.add_le_add_left (by decide : 1 ≤ 64) _) hr.units
section
variable {X : Cx}
end
theorem ite2 {c A B : Prop} [Decidable c] (h1 : c → A) (h2 : ¬ c → B) : if c then A else B := by
  by_cases h : c
  · rw [if_pos h]
    exact h1 h
  · rw [if_neg h]
    exact h2 h
noncomputable def Same (H H' : Hp) : Prop := ∀ b o, H b = some o → H' b = some o
theorem Same.refl (H : Hp) : Same H H := fun _ _ h => h
theorem Same.trans {H H1 H2 : Hp} (a : Same H H1) (b : Same H1 H2) : Same H H2 := fun c o h => b c o (a c o h)
theorem Same.seq {K : PySem.W.Frag} {H H' : Hp} {a : Addr} {xs : List V} (e : Same H H') (h : SqL K H a xs) : SqL K H' a xs := by
  rcases h with (h | ⟨o, h⟩) | h
  · exact .inl (.inl (e _ _ h))
  · exact .inl (.inr ⟨o, e _ _ h⟩)
  · exact .inr h
end L2
namespace L2
open PySem PySem.Spec PyProof.Rows
section
variable {X : Cx}
end
section
variable {κ : Type} [DecidableEq κ]
end
end L2
set_option maxHeartbeats 4000000
namespace L2
open PySem PySem.Spec PyProof.Rows
noncomputable abbrev runIfs (ifs : List Expr) (env : Env) : Sem Bool :=
  forIn ifs true fun c r => if r = true then do let ok ← isTrue c env (eval c env); pure (ForInStep.yield ok) else pure (ForInStep.yield r)
theorem comp_loop {prog : Program} {w : World} {A : Around} {R : Result → Shared → Prop} {s : Shared} {elt tg iter : Expr} {ifs : List Expr} {scope : Scope} {pos : Pos} {it acc : Value} {env : Env} (I : Nat → Shared → Prop)
    (turn : ∀ n s, I n s → wpAny (model prog w) A (pyNext it) (fun r s1 => match r with
      | none => R (.ok .next) s1
      | some v => wpAny (model prog w) A (letOwnedTupleGo tg it v) (fun _ s2 => wpAny (model prog w) A (assign tg env v) (fun _ s3 => wpAny (model prog w) A (runIfs ifs env) (fun ok s4 =>
          if ok = true then wpAny (model prog w) A (eval elt env) (fun x s5 => wpAny (model prog w) A (call (.builtin "list.append") [acc, x]) (fun _ s6 => ∃ m, m < n ∧ I m s6) (fun _ _ => False) s5) (fun _ _ => False) s4
          else ∃ m, m < n ∧ I m s4) (fun _ _ => False) s3) (fun _ _ => False) s2) (fun _ _ => False) s1) (fun _ _ => False) s)
    (n : Nat) (h : I n s) : codeAny (model prog w) A (.compLoop (.ListComp elt [⟨tg, iter, ifs, 0⟩] scope pos) 0 it acc env) R s := by
  refine codeAny_loop rfl I (fun n s hI => ?_) n h
  show wpAny _ A ((compTurn (.ListComp elt [⟨tg, iter, ifs, 0⟩] scope pos) 0 it acc env).onRaise (fun x => do noteFrame x env; theTreesLotGoes x)) _ _ s
  refine wpAny_noted (wpAny_noRaise ?_)
  rw [compTurn_list]
  refine wpAny_bind (wpAny_standAt (wpAny_bind (thn (turn n s hI) fun r s1 h1 => ?_)))
  cases r with
  | none => exact wpAny_pure h1
  | some v =>
    refine wpAny_bind (thn h1 fun _ s2 h2 => wpAny_bind (thn h2 fun _ s3 h3 => wpAny_bind (thn h3 fun ok s4 h4 => ?_)))
    cases ok with
    | false => exact wpAny_pure ⟨rfl, h4⟩
    | true => exact wpAny_bind (wpAny_bind (thn h4 fun x s5 h5 => wpAny_bind (thn h5 fun _ s6 h6 => wpAny_pure (wpAny_pure ⟨rfl, h6⟩))))
theorem closure_go (env : Env) : ∀ (names : List (Str × NameKind)) (cs : List (Str × Addr)), (∀ n, (n, NameKind.free) ∈ names → ∃ c, env.cells.lookup n = some c) → (∀ n c, cs.lookup n = some c → env.cells.lookup n = some c) →
    ∃ cl, (forIn names cs fun (p : Str × NameKind) (r : List (Str × Addr)) => (if p.2 == NameKind.free then do let c ← cellOf env p.1; pure (ForInStep.yield ((p.1, c) :: r)) else pure (ForInStep.yield r) : Sem (ForInStep (List (Str × Addr))))) = pure cl ∧
      (∀ n c, cl.lookup n = some c → env.cells.lookup n = some c) ∧ (∀ n, ((n, NameKind.free) ∈ names ∨ ∃ c, cs.lookup n = some c) → ∃ c, cl.lookup n = some c)
  | [], cs, _, hcs => ⟨cs, rfl, hcs, fun n h => h.elim (fun z => nomatch z) id⟩
  | (m, k) :: r, cs, hn, hcs => by
    cases hk : k == NameKind.free with
    | false =>
      obtain ⟨cl, e, h1, h2⟩ := closure_go env r cs (fun n z => hn n (List.mem_cons_of_mem _ z)) hcs
      refine ⟨cl, ?_, h1, fun n z => h2 n ?_⟩
      · rw [List.forIn_cons]; simp only [hk]; exact e
      · rcases z with z | z
        · rcases List.mem_cons.mp z with q | q
          · cases q; simp at hk
          · exact .inl q
        · exact .inr z
    | true =>
      have ek : k = NameKind.free := by simpa using hk
      subst ek
      obtain ⟨c, hc⟩ := hn m List.mem_cons_self
      obtain ⟨cl, e, h1, h2⟩ := closure_go env r ((m, c) :: cs) (fun n z => hn n (List.mem_cons_of_mem _ z)) (fun n c' z => by
        by_cases q : n = m
        · subst q; simp [List.lookup_cons] at z; subst z; exact hc
        · rw [List.lookup_cons, beq_eq_false_iff_ne.mpr q] at z; exact hcs n c' z)
      refine ⟨cl, ?_, h1, fun n z => h2 n ?_⟩
      · rw [List.forIn_cons]; simp only [cellOf, hc]; exact e
      · rcases z with z | ⟨c', z⟩
        · rcases List.mem_cons.mp z with q | q
          · cases q; exact .inr ⟨c, by simp [List.lookup_cons]⟩
          · exact .inl q
        · by_cases q : n = m
          · subst q; exact .inr ⟨c, by simp [List.lookup_cons]⟩
          · exact .inr ⟨c', by rw [List.lookup_cons, beq_eq_false_iff_ne.mpr q]; exact z⟩
theorem closure_of {scope : Scope} {env : Env} (hn : ∀ n, (n, NameKind.free) ∈ scope.names → ∃ c, env.cells.lookup n = some c) :
    ∃ cl, closureFor scope env = pure cl ∧ (∀ n c, cl.lookup n = some c → env.cells.lookup n = some c) ∧ (∀ n, (n, NameKind.free) ∈ scope.names → ∃ c, cl.lookup n = some c) := by
  obtain ⟨cl, e, h1, h2⟩ := closure_go env scope.names [] hn (fun _ _ z => nomatch z)
  refine ⟨cl, ?_, h1, fun n z => h2 n (.inl z)⟩
  unfold closureFor
  simp only [bind_pure]
  exact e
end L2
set_option maxHeartbeats 4000000
namespace L2
open PySem PySem.Spec PyProof.Rows
noncomputable def relNames (names onames : List (Str × NameKind)) : List (Str × NameKind) :=
  names.map fun (n, k) => if (k == .free && onames.lookup n == some .cell) then (n, .cell) else (n, k)
noncomputable def compOk (sc osc : Scope) (N rest : List Str) : Bool :=
  (sc.kind == .function && osc.kind == .function && sc.names.all fun y => y.2 != .cell && (y.2 != .local || sc.names.lookup y.1 == some .local) && (y.2 != .free || osc.names.lookup y.1 == some .cell || osc.names.lookup y.1 == some .free))
  && N.length == rest.length && (N.zip rest).all fun p => match (relNames sc.names osc.names).lookup p.2 with
    | some .local => false
    | some .cell => p.1 == p.2 && (p.2, NameKind.free) ∈ sc.names && (osc.names.lookup p.2 == some .cell || osc.names.lookup p.2 == some .free)
    | some .free => p.1 == p.2 && (p.2, NameKind.free) ∈ sc.names && (osc.names.lookup p.2 == some .cell || osc.names.lookup p.2 == some .free)
    | _ => true
structure CompSc (sc osc : Scope) (N rest : List Str) : Prop where
  kind : sc.kind = .function
  okind : osc.kind = .function
  cell : ∀ y ∈ sc.names, y.2 ≠ .cell
  loc : ∀ y ∈ sc.names, y.2 = .local → sc.names.lookup y.1 = some .local
  free : ∀ n, (n, NameKind.free) ∈ sc.names → osc.names.lookup n = some .cell ∨ osc.names.lookup n = some .free
  len : N.length = rest.length
  look : ∀ (i : Nat) x, rest[i]? = some x → ((relNames sc.names osc.names).lookup x = some .local ∨ (relNames sc.names osc.names).lookup x = some .cell ∨ (relNames sc.names osc.names).lookup x = some .free) →
    N[i]? = some x ∧ (x, NameKind.free) ∈ sc.names ∧ (osc.names.lookup x = some .cell ∨ osc.names.lookup x = some .free) ∧ ((relNames sc.names osc.names).lookup x = some .cell ∨ (relNames sc.names osc.names).lookup x = some .free)
theorem compOk_is {sc osc : Scope} {N rest : List Str} (h : compOk sc osc N rest = true) : CompSc sc osc N rest := by
  unfold compOk at h
  simp only [Bool.and_eq_true, beq_iff_eq, List.all_eq_true] at h
  obtain ⟨⟨⟨⟨hk, hok⟩, hy⟩, hl⟩, hz⟩ := h
  refine ⟨hk, hok, fun y z e => ?_, fun y z e => ?_, fun n z => ?_, hl, fun i x e v => ?_⟩
  · have := (hy y z).1.1; rw [e] at this; simp at this
  · have := (hy y z).1.2; rw [e] at this; simpa using this
  · have := (hy _ z).2; simpa using this
  · have hi : i < rest.length := (List.getElem?_eq_some_iff.mp e).1
    have hi' : i < N.length := by omega
    have hN : N[i]? = some N[i] := List.getElem?_eq_getElem hi'
    have hm : (N[i], x) ∈ N.zip rest := by
      refine List.mem_of_getElem? (i := i) ?_
      rw [List.getElem?_zip_eq_some]; exact ⟨hN, e⟩
    have q := hz _ hm
    dsimp only at q
    rcases v with v | v | v
    · rw [v] at q; simp at q
    · rw [v] at q; simp only [Bool.and_eq_true, beq_iff_eq, Bool.or_eq_true, decide_eq_true_eq] at q
      obtain ⟨⟨q1, q2⟩, q3⟩ := q
      exact ⟨by rw [hN, q1], q2, q3, .inl v⟩
    · rw [v] at q; simp only [Bool.and_eq_true, beq_iff_eq, Bool.or_eq_true, decide_eq_true_eq] at q
      obtain ⟨⟨q1, q2⟩, q3⟩ := q
      exact ⟨by rw [hN, q1], q2, q3, .inr v⟩
theorem relabel_names {sc : Scope} {env : Env} (hk : env.scope.kind = .function) : (relabel sc env).names = relNames sc.names env.scope.names := by
  unfold relabel relNames Env.kindOf
  simp [hk]
theorem rel_free {names onames : List (Str × NameKind)} (hc : ∀ y ∈ names, y.2 ≠ .cell) {x : Str} (h : (relNames names onames).lookup x = some .cell ∨ (relNames names onames).lookup x = some .free) : (x, NameKind.free) ∈ names := by
  have hm : (x, NameKind.cell) ∈ relNames names onames ∨ (x, NameKind.free) ∈ relNames names onames := h.imp PySem.mem_of_lookup PySem.mem_of_lookup
  rcases hm with hm | hm
  · obtain ⟨⟨n, k⟩, hn, e⟩ := List.mem_map.mp hm
    dsimp only at e
    split at e
    · rename_i hh; cases e; simp at hh; obtain ⟨rfl, _⟩ := hh; exact hn
    · cases e; exact absurd rfl (hc _ hn)
  · obtain ⟨⟨n, k⟩, hn, e⟩ := List.mem_map.mp hm
    dsimp only at e
    split at e
    · cases e
    · cases e; exact hn
noncomputable def compCx (X : Cx) (scope : Scope) (N' : List Str) (cl : List (Str × Addr)) (s2 : Shared) (H2 : Hp) (C : Addr) (fp : List Addr) : Cx :=
  { X with N := N', s₀ := s2, H₀ := H2, env := compEnvC scope cl C X.env, outer := X.stack, stack := X.stack, ex := fp, fn := fun _ => false, pn := [], xe := fun _ _ => False }
section
variable {X : Cx} {pins : List (Addr × Obj)} {σ : St} {H2 : Hp} {s2 : Shared} {scope : Scope} {own rest : List Str} {cl : List (Str × Addr)} {fp : List Addr} {C : Addr}
theorem compCx_ok (I : Inv X pins σ H2 s2) (S : CompSc scope X.env.scope X.N rest) (h1 : ∀ n c, cl.lookup n = some c → X.env.cells.lookup n = some c) (h2 : ∀ n, (n, NameKind.free) ∈ scope.names → ∃ c, cl.lookup n = some c)
    (hC : s2.heap.objs.size ≤ C) (hf : ∀ b ∈ fp, FpOk X pins H2 b) (ho : ∀ b ∈ fp, ∃ o, s2.heap.get? b = some o) : (compCx X scope (own ++ rest) cl s2 H2 C fp).Ok where
  mod := I.ok.mod
  kind := S.kind
  glob := I.ok.glob
  blt := I.ok.blt
  above := hC
  inj := fun x y c e1 e2 => I.ok.inj x y c (h1 x c e1) (h1 y c e2)
  has := fun x hx => h2 x (rel_free S.cell (by
    have e : (compCx X scope (own ++ rest) cl s2 H2 C fp).env.kindOf x = (relNames scope.names X.env.scope.names).lookup x := congrArg (List.lookup x) (relabel_names (sc := scope) I.ok.kind)
    rw [e] at hx; exact hx))
  cab := fun _ _ z => nomatch z
  hd := I.ok.hd
  frames := I.ok.frames
  stk := .inl rfl
  exf := fun b hb => by
    obtain ⟨o, e⟩ := ho b hb
    exact ⟨Nat.ne_of_lt (Nat.lt_of_lt_of_le (Heap.lt_size e) hC), fun x c e => (hf b hb).2.2.2.2.1 x c (h1 x c e)⟩
  bs := I.bs
  bsz := Nat.le_trans I.ok.bsz I.sz
  noex := fun b o e hb => by
    rcases (hf b hb).2.2.2.1 with z | z
    · exact I.ok.noex b o e z
    · exact absurd (Nat.lt_of_lt_of_le (Heap.lt_size e) (Nat.le_trans I.ok.bsz z)) (Nat.lt_irrefl _)
  exfs := fun b hb z => by
    rcases List.mem_cons.mp (I.stkSub b z) with q | q
    · exact (hf b hb).2.1 q
    · exact (hf b hb).2.2.1 q
  funs := I.stack
  frf := I.stkFree
theorem comp_start {h1 : Heap} {t1 : Nat} (I : Inv X pins σ H2 s2) (S : CompSc scope X.env.scope X.N rest) (hc1 : ∀ n c, cl.lookup n = some c → X.env.cells.lookup n = some c) (hc2 : ∀ n, (n, NameKind.free) ∈ scope.names → ∃ c, cl.lookup n = some c)
    (hC : s2.heap.objs.size ≤ C) (hf : ∀ b ∈ fp, FpOk X pins H2 b) (ho : ∀ b ∈ fp, ∃ o, s2.heap.get? b = some o)
    (old : ∀ b o, s2.heap.get? b = some o → h1.get? b = some o) (ns : h1.Ns C fun _ => none) :
    Inv (compCx X scope (own ++ rest) cl s2 H2 C fp) [] (List.replicate own.length none ++ σ) H2 { s2 with heap := h1, toks := t1 } := by
  obtain ⟨m, hn, hl⟩ := id I.loc
  have hv : ∀ x, Vis (compCx X scope (own ++ rest) cl s2 H2 C fp).env.scope x → ((relNames scope.names X.env.scope.names).lookup x = some .local ∨ (relNames scope.names X.env.scope.names).lookup x = some .cell ∨ (relNames scope.names X.env.scope.names).lookup x = some .free) := fun x z => by
    have e : (compCx X scope (own ++ rest) cl s2 H2 C fp).env.scope.names = relNames scope.names X.env.scope.names := relabel_names (sc := scope) I.ok.kind
    unfold Vis at z; rw [e] at z; exact z
  refine ⟨compCx_ok I S hc1 hc2 hC hf ho, rfl, I.bare, Un.kept old, ⟨_, ns, fun i x v e1 e2 e3 => ?_⟩, fun x c e => ?_, I.hok.fresh hC, fun x c e => I.freeC x c (hc1 x c e), fun p hp => absurd (show p ∈ ([] : List (Addr × Obj)) from hp) (by simp), I.hok.kept old, ?_⟩
  · have e1' : (own ++ rest)[i]? = some x := e1
    by_cases hi : i < own.length
    · rw [List.getElem?_append_left (by simpa using hi), List.getElem?_replicate] at e2
      split at e2 <;> cases e2
    · have hi' : own.length ≤ i := Nat.le_of_not_lt hi
      rw [List.getElem?_append_right (by simpa using hi'), List.length_replicate] at e2
      rw [List.getElem?_append_right hi'] at e1'
      obtain ⟨q1, q2, q3, q4⟩ := S.look _ x e1' (hv x e3)
      obtain ⟨u, r, l⟩ := hl (i - own.length) x v q1 e2 (q3.elim (fun z => .inr (.inl z)) fun z => .inr (.inr z))
      refine ⟨u, r, .inr ⟨?_, ?_⟩⟩
      · have e : (compCx X scope (own ++ rest) cl s2 H2 C fp).env.kindOf x = (relNames scope.names X.env.scope.names).lookup x := congrArg (List.lookup x) (relabel_names (sc := scope) I.ok.kind)
        rw [e]; exact q4
      · rcases l with ⟨k, _⟩ | ⟨_, c, e, z⟩
        · have k' : X.env.scope.names.lookup x = some .local := k
          rcases q3 with q3 | q3 <;> (rw [q3] at k'; cases k')
        · obtain ⟨c', e'⟩ := hc2 x q2
          have e2 := hc1 x c' e'
          rw [e] at e2; cases e2
          obtain ⟨o, q, d⟩ := z
          exact ⟨c, e', o, old c o q, d⟩
  · obtain ⟨v, o, q, d⟩ := I.cell x c (hc1 x c e)
    exact ⟨v, o, old c o q, d⟩
  · show _ = (own ++ rest).length
    have := I.len; have := S.len
    simp only [List.length_append, List.length_replicate]; omega
theorem comp_end {H' : Hp} {s' : Shared} {σ' : St} {D : Addr} {ys : List V} {its : List Value} {n : Nat} {pins' : List (Addr × Obj)} (I : Inv X pins σ H2 s2) (J : Inv (compCx X scope (own ++ rest) cl s2 H2 C fp) pins' σ' H' s') (hf : ∀ b ∈ fp, FpOk X pins H2 b)
    (hD : s2.heap.objs.size ≤ D) (hDn : H' D = none) (hDo : s'.heap.get? D = some { cls := .type "list", data := .seq its.toArray n }) (r : Vals ys its) (hz : ys.length ≤ sizeLine) :
    Inv X pins σ (upd H' D (.lst ys)) s' := by
  have u : Un (frs X.stack) fp H2 H' s2.heap s'.heap := J.base
  have nD : ∀ b o, s2.heap.get? b = some o → b ≠ D := fun b o e => Nat.ne_of_lt (Nat.lt_of_lt_of_le (Heap.lt_size e) hD)
  refine I.call' (ch := fp) J.os ⟨u.keep, u.slot, fun b o e n hx => ?_, u.there, fun b xs e => ?_, fun b o v e => ?_, fun b ps e => ?_⟩ (fun b o e => ?_) J.bare fun b hb => ?_
  · rw [upd_ne (nD b o e)]; exact u.free b o e n hx
  · rw [upd_ne (ne_of_none (u.tups b xs e) hDn)]; exact u.tups b xs e
  · rw [upd_ne (ne_of_none (u.frzs b o v e) hDn)]; exact u.frzs b o v e
  · obtain ⟨more, q⟩ := u.tbls b ps e
    exact ⟨more, by rw [upd_ne (ne_of_none q hDn)]; exact q⟩
  · by_cases hb : b = D
    · subst hb; rw [upd_same] at e; cases e; exact ⟨hz, its, n, r, hDo⟩
    · rw [upd_ne hb] at e
      exact (J.hok b o e).stay (fun c v _ q => q) (fun c q => by rw [upd_ne (ne_of_none q hDn)]; exact q) fun c xs q => by rw [upd_ne (ne_of_none q hDn)]; exact q
  · obtain ⟨_, f1, _, f3, f4, f5⟩ := hf b hb
    exact ⟨f3, f1, f4, f5⟩
end
end L2
set_option maxHeartbeats 4000000
namespace L2
open PySem PySem.Spec PyProof.Rows
noncomputable def PTs (X : Cx) (ifs : List Expr) (t : TT) : Prop :=
  ∀ (pins : List (Addr × Obj)) (s : Shared) (σ : St) (H : Hp) (Q : Bool → Hp → Prop), Inv X pins σ H s → t σ H Q → wpAny (model X.prog X.w) X.A (runIfs ifs X.env) (TP X pins σ Q) X.xe s
noncomputable def tYes : TT := fun _ H Q => Q true H
theorem pts_nil {X : Cx} : PTs X [] tYes := fun _ _ _ H _ I h => wpAny_tests_nil ⟨H, I, h⟩
noncomputable def CompW (J : It) (g : TG) (tt : TT) (te : TE) (fin : List V → Hp → Prop) (σ0 : St) (H1 : Hp) : Prop :=
  ∃ W : Nat → Nat → List V → St → Hp → Prop, (∃ m, W 0 m [] σ0 H1) ∧ ∀ i m ys σ H, W i m ys σ H →
    (J.stop i H ∧ fin ys H) ∨ (J.go i H ∧ ys.length < sizeLine ∧ ∃ N : List V → St → Hp → Prop, (∀ ys' σ' H', N ys' σ' H' → ∃ m', m' < m ∧ W (i + 1) m' ys' σ' H') ∧
      ∀ x H', J.yld i H x H' → g x σ H' fun σ2 H2 => tt σ2 H2 fun b H3 => if b = true then te σ2 H3 fun y H4 => N (ys ++ [y]) σ2 H4 else N ys σ2 H3)
section
variable {X : Cx} {pins : List (Addr × Obj)} {σ : St} {H2 : Hp} {s2 : Shared} {scope : Scope} {own rest : List Str} {cl : List (Str × Addr)} {fp : List Addr} {E : Value → Shared → Prop}
theorem comp_run {elt tg iter : Expr} {ifs : List Expr} {pos : Pos} {J : It} {it : Addr} {tn : Nat → Heap → Prop} {g : TG} {tt : TT} {te : TE} {fin : List V → Hp → Prop} {RR : Value → Addr → Result → Shared → Prop} {D : Nat} (hD : s2.heap.objs.size = D) (hcalm : X.calm = true)
    (I : Inv X pins σ H2 s2) (S : CompSc scope X.env.scope X.N rest) (hc1 : ∀ n c, cl.lookup n = some c → X.env.cells.lookup n = some c) (hc2 : ∀ n, (n, NameKind.free) ∈ scope.names → ∃ c, cl.lookup n = some c)
    (T : Turn X.prog X.w X.K tg J fp it tn) (st : tn 0 s2.heap) (hf : ∀ b ∈ fp, FpOk X pins H2 b)
    (hg : PG (compCx X scope (own ++ rest) cl s2 H2 (D + 1 : Nat) fp) tg g) (ht : PTs (compCx X scope (own ++ rest) cl s2 H2 (D + 1 : Nat) fp) ifs tt)
    (he : PE (compCx X scope (own ++ rest) cl s2 H2 (D + 1 : Nat) fp) elt te)
    (hw : CompW J g tt te fin (List.replicate own.length none ++ σ) H2)
    (hR : ∀ (s' : Shared) (H' : Hp) (ys : List V), Inv X pins σ (upd H' D (.lst ys)) s' → (∃ m, s'.heap.Ns (D + 1 : Nat) m) → H' D = none → H' (D + 1 : Nat) = none → fin ys H' → RR (.ref D) (D + 1 : Nat) (.ok .next) s') :
    wpAny (model X.prog X.w) X.A (newList []) (fun acc s3 => wpAny (model X.prog X.w) X.A (newFunctionEnv scope X.env.globals cl [] X.env.qual none .none (some X.env)) (fun cenv s4 =>
      codeAny (model X.prog X.w) X.A (.compStart (.ListComp elt [⟨tg, iter, ifs, 0⟩] scope pos) 0 (.ref it) acc { cenv with scope := relabel scope X.env }) (RR acc cenv.locals) s4) E s3) E s2 := by
  refine wpAny_newObj_type (wpAny_newFunctionEnv S.cell (by intro y hy; simp at hy) (fun h1 hns hsb => ?_) S.kind)
  dsimp only at hns hsb ⊢
  generalize hHp : s2.heap.push { cls := .type "list", dict := none, data := .seq ([] : List Value).toArray } = Hp2 at hns hsb ⊢
  have hC : Hp2.objs.size = s2.heap.objs.size + 1 := by rw [← hHp, Heap.size_push]
  rw [hD] at hC
  rw [hC] at hns hsb ⊢
  rw [hD]
  have nDC : D ≠ D + 1 := Nat.ne_of_lt (Nat.lt_succ_self _)
  have below : ∀ b o, s2.heap.get? b = some o → b < D := fun b o e => by rw [← hD]; exact Heap.lt_size e
  have old : ∀ b o, s2.heap.get? b = some o → h1.get? b = some o := fun b o e => by
    exact hsb.extBut b o (Nat.ne_of_lt (Nat.lt_succ_of_lt (below b o e))) (Heap.get?_push_of_some _ (hHp ▸ Heap.get?_push_of_some _ e))
  have hDo : h1.get? D = some { cls := .type "list", data := .seq ([] : List Value).toArray 0 } :=
    hsb.extBut _ _ nDC (Heap.get?_push_of_some _ (by rw [← hHp, ← hD]; exact Heap.get?_push_size _ rfl))
  have hfo : ∀ b ∈ fp, ∃ o, s2.heap.get? b = some o := fun b hb => let ⟨o, e, _⟩ := T.obj 0 _ st b hb; ⟨o, e⟩
  have st1 : tn 0 h1 := T.keep _ _ _ st fun b hb o e => old b o e
  have J0 : Inv (compCx X scope (own ++ rest) cl s2 H2 (D + 1 : Nat) fp) [] (List.replicate own.length none ++ σ) H2 { s2 with heap := h1, toks := s2.toks } :=
    comp_start I S hc1 hc2 (by omega) hf hfo old hns
  have nfs : D ∉ (compCx X scope (own ++ rest) cl s2 H2 (D + 1 : Nat) fp).fs := fun z => by
    have z' : D ∈ frs X.stack := z
    rcases List.mem_cons.mp (I.stkSub D z') with q | q
    · exact Nat.lt_irrefl D (by have h := I.lt; rw [← q, hD] at h; exact h)
    · exact I.nofs (Nat.le_of_eq hD) q
  have ncl : ∀ x c, (compCx X scope (own ++ rest) cl s2 H2 (D + 1 : Nat) fp).env.cells.lookup x = some c → c ≠ D := fun x c e z => by
    obtain ⟨v, o, q, d⟩ := I.cell x c (hc1 x c e)
    exact Nat.ne_of_lt (below c o q) z
  have loop : ∀ s3 : Shared, s3 = { s2 with heap := h1, toks := s2.toks } →
      codeAny (model X.prog X.w) X.A (.compLoop (.ListComp elt [⟨tg, iter, ifs, 0⟩] scope pos) 0 (.ref it) (.ref D) (compEnvC scope cl (D + 1) X.env)) (RR (.ref D) (D + 1)) s3 := by
    rintro s3 rfl
    obtain ⟨W, ⟨m0, w0⟩, turn⟩ := hw
    refine comp_loop (fun m s' => ∃ (i : Nat) (ys : List V) (its : List Value) (n : Nat) (σ' : St) (H' : Hp), Inv (compCx X scope (own ++ rest) cl s2 H2 (D + 1 : Nat) fp) [] σ' H' s' ∧ tn i s'.heap ∧ (∀ b ∈ fp, H' b = none) ∧
      s'.heap.get? D = some { cls := .type "list", data := .seq its.toArray n } ∧ H' D = none ∧ Vals ys its ∧ ys.length ≤ sizeLine ∧ W i m ys σ' H') ?_ m0
      ⟨0, [], [], 0, _, H2, J0, st1, fun b hb => (hf b hb).1, hDo, by rw [← hD]; exact I.fresh, .nil, by simp, w0⟩
    rintro m s3 ⟨i, ys, its, n, σ3, H3, J3, st3, fr3, ho3, hn3, r3, z3, w3⟩
    have pin : ∀ {σ' : St} {H' : Hp} {s' : Shared}, Inv (compCx X scope (own ++ rest) cl s2 H2 (D + 1 : Nat) fp) [] σ' H' s' → s'.heap.get? D = some { cls := .type "list", data := .seq its.toArray n } → H' D = none →
        Inv (compCx X scope (own ++ rest) cl s2 H2 (D + 1 : Nat) fp) [(D, { cls := .type "list", data := .seq its.toArray n })] σ' H' s' := fun {σ' H' s'} K1 K2 K3 =>
      K1.pins_of fun p hp => by
        have e : p = (D, { cls := .type "list", data := .seq its.toArray n }) := by simpa using hp
        subst e
        exact ⟨K2, K3, nDC, nfs, fun v z => nomatch z⟩
    have fpk : ∀ {H' : Hp}, (∀ b ∈ fp, H' b = none) → ∀ b ∈ fp, FpOk (compCx X scope (own ++ rest) cl s2 H2 (D + 1 : Nat) fp) [(D, { cls := .type "list", data := .seq its.toArray n })] H' b := fun {H'} fr b hb => by
      obtain ⟨o, e⟩ := hfo b hb
      have lt := below b o e
      refine ⟨fr b hb, Nat.ne_of_lt (Nat.lt_succ_of_lt lt), ?_, .inl hb, fun x c q => (hf b hb).2.2.2.2.1 x c (hc1 x c q), fun p hp => ?_⟩
      · intro z
        have z' : b ∈ frs X.stack := z
        rcases List.mem_cons.mp (I.stkSub b z') with q | q
        · exact (hf b hb).2.1 q
        · exact (hf b hb).2.2.1 q
      · have e : p = (D, { cls := .type "list", data := .seq its.toArray n }) := by
          have hp' : p ∈ [(D, ({ cls := .type "list", data := .seq its.toArray n } : Obj))] := hp
          simpa using hp'
        subst e
        exact Nat.ne_of_gt lt
    have J3p := pin J3 ho3 hn3
    rcases turn i m ys σ3 H3 w3 with ⟨stop, q⟩ | ⟨go, hlt, N, hN, step⟩
    · refine thn (T.done (compCx X scope (own ++ rest) cl s2 H2 (D + 1 : Nat) fp) rfl rfl rfl hcalm i _ s3 σ3 H3 _ J3p (fpk fr3) st3 stop) fun r s4 ⟨hr, J4⟩ => ?_
      subst hr
      have ho4 := J4.pin _ (List.mem_append_right _ List.mem_cons_self)
      refine hR s4 H3 ys (comp_end I J4 hf (by omega) hn3 ho4.1 r3 z3) ?_ hn3 J4.free q
      obtain ⟨mm, hmm, _⟩ := J4.loc
      exact ⟨mm, hmm⟩
    · refine thn (T.item (compCx X scope (own ++ rest) cl s2 H2 (D + 1 : Nat) fp) rfl rfl rfl hcalm i _ s3 σ3 H3 _ J3p (fpk fr3) st3 go) fun r s4 ⟨u, hr, h4⟩ => ?_
      subst hr
      refine thn h4 fun _ s5 ⟨x, H5, J5, r5, y5, st5, fr5⟩ => ?_
      have J5' := J5.pinned (fpk fr5) (T.obj _ _ st5)
      refine thn (hg _ s5 σ3 H5 x u _ J5' r5 (step x H5 y5)) fun _ s6 ⟨σ6, H6, J6, q6⟩ => ?_
      refine thn (ht _ s6 σ6 H6 _ J6 q6) fun b s7 ⟨H7, J7, q7⟩ => ?_
      have stay : ∀ {σ' : St} {H' : Hp} {s' : Shared}, Inv (compCx X scope (own ++ rest) cl s2 H2 (D + 1 : Nat) fp) ([(D, { cls := .type "list", data := .seq its.toArray n })] ++ pinsAt fp s5.heap) σ' H' s' →
          Inv (compCx X scope (own ++ rest) cl s2 H2 (D + 1 : Nat) fp) [] σ' H' s' ∧ tn (i + 1) s'.heap ∧ (∀ b ∈ fp, H' b = none) ∧ s'.heap.get? D = some { cls := .type "list", data := .seq its.toArray n } ∧ H' D = none := fun {σ' H' s'} K1 => by
        refine ⟨K1.pins_of fun p hp => absurd hp (by simp), T.keep _ _ _ st5 fun b hb o e => (K1.pin (b, o) (List.mem_append_right _ (List.mem_append_right _ (mem_pinsAt hb e)))).1, fun b hb => ?_, ?_, ?_⟩
        · obtain ⟨o, e, d⟩ := T.obj _ _ st5 b hb
          exact (K1.pin (b, o) (List.mem_append_right _ (List.mem_append_right _ (mem_pinsAt hb e)))).2.1
        · exact (K1.pin (D, _) (List.mem_append_right _ (List.mem_append_left _ List.mem_cons_self))).1
        · exact (K1.pin (D, _) (List.mem_append_right _ (List.mem_append_left _ List.mem_cons_self))).2.1
      cases b with
      | false =>
        rw [if_neg Bool.false_ne_true] at q7 ⊢
        obtain ⟨k1, k2, k3, k4, k5⟩ := stay J7
        obtain ⟨m', hm, w'⟩ := hN _ _ _ q7
        exact ⟨m', hm, i + 1, ys, its, n, σ6, H7, k1, k2, k3, k4, k5, r3, z3, w'⟩
      | true =>
        rw [if_pos rfl] at q7 ⊢
        refine thn (he _ s7 σ6 H7 _ J7 q7) fun xv s8 ⟨y, H8, J8, r8, q8⟩ => ?_
        obtain ⟨k1, k2, k3, k4, k5⟩ := stay J8
        refine call_meets F.slot_list_append ⟨_, k4, rfl⟩ F.entry_list_append (F.args_list_append_2 _ _) (PySem.list_append D its.toArray n xv (by rw [List.size_toArray, ← r3.length]; omega)) ⟨k4, ?_⟩
        obtain ⟨m', hm, w'⟩ := hN _ _ _ q8
        have ho9 := PySem.IsL.update k4 (fun a => a.push xv)
        have ek : ∀ b o, b ≠ D → s8.heap.get? b = some o → (s8.heap.update D (Obj.mapSeq (fun a => a.push xv))).get? b = some o := fun b o hb e => (Heap.get?_update_other s8.heap (Obj.mapSeq _) (Ne.symm hb)).trans e
        refine ⟨m', hm, i + 1, ys ++ [y], its ++ [xv], (if ((its.toArray.push xv).size == its.toArray.size) = true then n else n + 1), σ6, H8, k1.turned (it := D) (t' := s8.toks) ek k5 nDC (.inr (show s2.heap.objs.size ≤ D by omega)) ncl (fun p hp => absurd (show p ∈ ([] : List (Addr × Obj)) from hp) (by simp)), ?_, k3, ?_, k5, r3.append (.cons r8 .nil), ?_, w'⟩
        · refine T.keep _ _ _ k2 fun b hb o e => ek b o ?_ e
          obtain ⟨o', e'⟩ := hfo b hb
          exact Nat.ne_of_lt (below b o' e')
        · have e2 : its.toArray.push xv = (its ++ [xv]).toArray := by simp
          rw [← e2]; exact ho9
        · simp only [List.length_append, List.length_cons, List.length_nil]; omega
  exact codeAny_compStart_list (loop _ rfl) (T.self X.A 0 _ _ _ st1 (loop _ rfl))
end
end L2
set_option maxHeartbeats 4000000
namespace L2
open PySem PySem.Spec PyProof.Rows
noncomputable def tComp (k : Nat) (wi : TI) (g : TG) (tt : TT) (te : TE) : TE := fun σ H Q => wi σ H fun J H1 => CompW J g tt te (fun ys H' => ∀ D, H' D = none → Q (.ref D) (upd H' D (.lst ys))) (List.replicate k none ++ σ) H1
section
variable {X : Cx} {elt tg iter : Expr} {ifs : List Expr} {scope : Scope} {pos : Pos} {wi : TI} {g : TG} {tt : TT} {te : TE}
theorem Inv.closed {pins : List (Addr × Obj)} {σ : St} {H : Hp} {s : Shared} {N rest : List Str} (I : Inv X pins σ H s) (S : CompSc scope X.env.scope N rest) :
    ∃ cl, closureFor scope X.env = pure cl ∧ (∀ n c, cl.lookup n = some c → X.env.cells.lookup n = some c) ∧ (∀ n, (n, NameKind.free) ∈ scope.names → ∃ c, cl.lookup n = some c) :=
  closure_of fun n z => I.ok.has n (S.free n z)
theorem Inv.letgo {pins pins' : List (Addr × Obj)} {σ σ' : St} {H H' : Hp} {s s' : Shared} {b : Addr} {h' : Heap} (I : Inv X pins σ H s) (J : Inv X pins σ' H' s') (hb : s.heap.objs.size ≤ b) (hn : H' b = none) (sb : Heap.SameBut b s'.heap h') : Inv X pins σ' H' { s' with heap := h' } := by
  obtain ⟨f0, f1, f2, f3, f4, f5⟩ := I.fpOk hb hn
  exact J.turned (t' := s'.toks) (fun c o hc e => (sb.2 c hc).trans e) f0 f1 f3 f4 f5
theorem pe_comp (own rest : List Str) (hcalm : X.calm = true) (S : CompSc scope X.env.scope X.N rest) (hi : PI X tg iter wi)
    (hg : ∀ cl s2 H2 C fp, PG (compCx X scope (own ++ rest) cl s2 H2 C fp) tg g) (ht : ∀ cl s2 H2 C fp, PTs (compCx X scope (own ++ rest) cl s2 H2 C fp) ifs tt) (he : ∀ cl s2 H2 C fp, PE (compCx X scope (own ++ rest) cl s2 H2 C fp) elt te)
    (hs : ∀ x, foldedSetIterable iter X.env x = pure x := by intro _; rfl) : PE X (.ListComp elt [⟨tg, iter, ifs, 0⟩] scope pos) (tComp own.length wi g tt te) := by
  intro pins s σ H Q I h
  obtain ⟨cl, hcl, hc1, hc2⟩ := I.closed S
  rw [eval_ListComp]
  refine wpAny_comprehension_free (use := none) rfl hs hcl S.kind S.loc (thn (hi pins s σ H _ I h) fun v s1 h1 => thn h1 fun itv s2 h2 => ?_)
  obtain ⟨it, fp, tn, J, H2, e, I2, T, st, hf, hw⟩ := h2
  subst e
  refine comp_run (RR := fun acc C => compPost (model X.prog X.w) X.A X.xe none (EP X pins σ Q) acc C) (D := s2.heap.objs.size) rfl hcalm I2 S hc1 hc2 T st hf (hg _ _ _ _ _) (ht _ _ _ _ _) (he _ _ _ _ _) hw ?_
  intro s' H' ys J' ⟨m, hm⟩ hD hC q
  refine ⟨m, hm, fun h' sb => ⟨.ref s2.heap.objs.size, _, I2.letgo (pins' := pins) (b := (s2.heap.objs.size + 1 : Nat)) J' (Nat.le_succ _) ?_ sb, rfl, q _ hD⟩⟩
  rw [upd_ne (Nat.ne_of_gt (Nat.lt_succ_self _))]; exact hC
theorem ps_comp {i : Nat} {y : Str} {py spos : Pos} (own rest : List Str) (hcalm : X.calm = true) (S : CompSc scope X.env.scope X.N rest) (hN : X.N.Nodup) (hy : X.N[i]? = some y) (hl : X.env.scope.names.lookup y = some .local) (hi : PI X tg iter wi)
    (hg : ∀ cl s2 H2 C fp, PG (compCx X scope (own ++ rest) cl s2 H2 C fp) tg g) (ht : ∀ cl s2 H2 C fp, PTs (compCx X scope (own ++ rest) cl s2 H2 C fp) ifs tt) (he : ∀ cl s2 H2 C fp, PE (compCx X scope (own ++ rest) cl s2 H2 C fp) elt te)
    (hsw : swapsWith (.ListComp elt [⟨tg, iter, ifs, 0⟩] scope pos) (some (.Name y py)) spos.line X.env = pure true := by rfl)
    (hs : ∀ x, foldedSetIterable iter X.env x = pure x := by intro _; rfl) : PS X (.Assign [.Name y py] (.ListComp elt [⟨tg, iter, ifs, 0⟩] scope pos) spos) (tAsg (tComp own.length wi g tt te) (gName i)) := by
  intro pins s σ H D I h
  obtain ⟨cl, hcl, hc1, hc2⟩ := I.closed S
  rw [exec_Assign_Name_used _ _ _ _ hsw]
  refine wpAny_bind (wpAny_standAt (wpAny_bind ?_))
  show wpAny _ X.A (do let _ ← comprehension (.ListComp elt [⟨tg, iter, ifs, 0⟩] scope pos) scope X.env _ (newList []) false (eval iter X.env) (some (assign (.Name y py) X.env))) _ _ s
  refine wpAny_bind (wpAny_mono (wpAny_comprehension_free (use := some (assign (.Name y py) X.env)) (Q := fun _ s' => SP X pins D .next s') rfl hs hcl S.kind S.loc (thn (hi pins s σ H _ I h) fun v s1 h1 => thn h1 fun itv s2 h2 => ?_)) (fun _ s' hq => wpAny_pure (wpAny_pure hq)) fun _ _ e => e)
  obtain ⟨it, fp, tn, J, H2, e, I2, T, st, hf, hw⟩ := h2
  subst e
  refine comp_run (RR := fun acc C => compPost (model X.prog X.w) X.A X.xe (some (assign (.Name y py) X.env)) (fun _ s' => SP X pins D .next s') acc C) (D := s2.heap.objs.size) rfl hcalm I2 S hc1 hc2 T st hf (hg _ _ _ _ _) (ht _ _ _ _ _) (he _ _ _ _ _) hw ?_
  intro s' H' ys J' ⟨m, hm⟩ hD hC q
  show wpAny _ X.A (assign (.Name y py) X.env (.ref s2.heap.objs.size)) _ _ s'
  refine wpAny_assign_Name (store_ok2 (v := .ref s2.heap.objs.size) J' hN hy (.inl hl) rfl (fun s3 J3 ⟨a, sb, ha⟩ => ?_) (.inr hl))
  have hne : s2.heap.objs.size + 1 ≠ a := by
    rcases ha with ha | ha
    · rw [ha]; exact Nat.ne_of_gt (Nat.lt_succ_of_lt I2.lt)
    · obtain ⟨v, o, e, d⟩ := I2.cell y a ha
      exact Nat.ne_of_gt (Nat.lt_succ_of_lt (Heap.lt_size e))
  refine ⟨m, hm.sameBut sb hne, fun h' sb' => ⟨_, _, I2.letgo (pins' := pins) (b := (s2.heap.objs.size + 1 : Nat)) J3 (Nat.le_succ _) ?_ sb', q _ hD⟩⟩
  rw [upd_ne (Nat.ne_of_gt (Nat.lt_succ_self _))]; exact hC
end
structure Walk (J : It) (xs : List V) (ok : Hp → Prop) : Prop where
  go : ∀ i H, ok H → i < xs.length → J.go i H
  yld : ∀ i H x H', ok H → i < xs.length → J.yld i H x H' → H' = H ∧ xs[i]? = some x
  stop : ∀ H, ok H → J.stop xs.length H
theorem walk_list {K : PySem.W.Frag} {a : Addr} {xs : List V} : Walk (Itl K a) xs (fun H => SqL K H a xs) where
  go := fun i H q hi => ⟨xs, xs[i], q, by simp [hi]⟩
  yld := fun i H x H' q _ y => ⟨y.1, y.2 xs q⟩
  stop := fun H q => ⟨xs, q, Nat.le_refl _⟩
theorem walk_tup {K : PySem.W.Frag} {a : Addr} {xs : List V} : Walk (Itt K a) xs (fun H => SqT K H a xs) where
  go := fun i H q hi => ⟨xs, xs[i], q, by simp [hi]⟩
  yld := fun i H x H' q _ y => ⟨y.1, y.2 xs q⟩
  stop := fun H q => ⟨xs, q, Nat.le_refl _⟩
noncomputable def rangeV (lo : Int) (n : Nat) : List V := (List.range n).map fun (i : Nat) => V.int (lo + i)
theorem rangeV_len (lo : Int) (n : Nat) : (rangeV lo n).length = n := by simp [rangeV]
theorem rangeV_get {lo : Int} {n i : Nat} (h : i < n) : (rangeV lo n)[i]? = some (.int (lo + i)) := by simp [rangeV, h]
theorem walk_range {lo : Int} {n : Nat} : Walk (Itr lo n) (rangeV lo n) (fun _ => True) where
  go := fun i H _ hi => by rw [rangeV_len] at hi; exact hi
  yld := fun i H x H' _ hi y => ⟨y.1, by rw [rangeV_len] at hi; rw [rangeV_get hi, y.2]⟩
  stop := fun H _ => Nat.le_of_eq (rangeV_len lo n).symm
theorem for_walk {J : It} {xs : List V} {ok : Hp → Prop} (w : Walk J xs ok) {g : TG} {tb : TS} {D : Ends} {σ : St} {H : Hp} (Pv : Nat → St → Hp → Prop) (h0 : Pv 0 σ H) (hl : ∀ i σ H, i ≤ xs.length → Pv i σ H → ok H)
    (hs : ∀ i x σ H, xs[i]? = some x → Pv i σ H → g x σ H fun σ2 H2 => tb { D with nx := Pv (i + 1), ct := Pv (i + 1), bk := D.nx } σ2 H2) (hd : ∀ σ H, Pv xs.length σ H → D.nx σ H) :
    ∃ W : Nat → Nat → St → Hp → Prop, (∃ m, W 0 m σ H) ∧ ∀ i m σ H, W i m σ H →
      (J.stop i H ∧ D.nx σ H) ∨ (J.go i H ∧ ∃ N : St → Hp → Prop, (∀ σ' H', N σ' H' → ∃ m', m' < m ∧ W (i + 1) m' σ' H') ∧ ∀ x H', J.yld i H x H' → g x σ H' fun σ2 H2 => tb { D with nx := N, ct := N, bk := D.nx } σ2 H2) := by
  refine ⟨fun i m σ H => m = xs.length - i ∧ i ≤ xs.length ∧ Pv i σ H, ⟨xs.length, by simp, Nat.zero_le _, h0⟩, ?_⟩
  rintro i m σ H ⟨rfl, hi, p⟩
  have q := hl i σ H hi p
  by_cases hlt : i < xs.length
  · refine .inr ⟨w.go i H q hlt, Pv (i + 1), fun σ' H' p' => ⟨xs.length - (i + 1), by omega, rfl, hlt, p'⟩, fun x H' y => ?_⟩
    obtain ⟨e, y'⟩ := w.yld i H x H' q hlt y
    subst e
    exact hs i x σ _ y' p
  · have e : i = xs.length := by omega
    subst e
    exact .inl ⟨w.stop H q, hd σ H p⟩
theorem comp_walk {J : It} {xs : List V} {ok : Hp → Prop} (w : Walk J xs ok) {tt : TT} {te : TE} {fin : List V → Hp → Prop} {σ : St} {H : Hp} (hz : xs.length ≤ sizeLine) (Pv : Nat → List V → Hp → Prop) (h0 : Pv 0 [] H) (hl : ∀ i ys H, i ≤ xs.length → Pv i ys H → ok H)
    (hlen : ∀ i ys H, Pv i ys H → ys.length ≤ i)
    (hs : ∀ i x ys H, xs[i]? = some x → Pv i ys H → tt (some x :: σ) H fun b H3 => if b = true then te (some x :: σ) H3 fun y H4 => (∃ o, some x :: σ = o :: σ) ∧ Pv (i + 1) (ys ++ [y]) H4 else (∃ o, some x :: σ = o :: σ) ∧ Pv (i + 1) ys H3) (hd : ∀ ys H, Pv xs.length ys H → fin ys H) :
    CompW J (gName 0) tt te fin (List.replicate 1 none ++ σ) H := by
  refine ⟨fun i m ys σ' H => m = xs.length - i ∧ i ≤ xs.length ∧ (∃ o, σ' = o :: σ) ∧ Pv i ys H, ⟨xs.length, by simp, Nat.zero_le _, ⟨none, rfl⟩, h0⟩, ?_⟩
  rintro i m ys σ' H ⟨rfl, hi, ⟨o, rfl⟩, p⟩
  have hy := hlen i ys H p
  have q := hl i ys H hi p
  by_cases hlt : i < xs.length
  · refine .inr ⟨w.go i H q hlt, by omega, fun ys' σ' H' => (∃ o, σ' = o :: σ) ∧ Pv (i + 1) ys' H', fun ys' σ' H' p' => ⟨xs.length - (i + 1), by omega, rfl, hlt, p'⟩, fun x H' y => ?_⟩
    obtain ⟨e, y'⟩ := w.yld i H x H' q hlt y
    subst e
    exact hs i x ys _ y' p
  · have e : i = xs.length := by omega
    subst e
    exact .inl ⟨w.stop H q, hd ys H p⟩
end L2
set_option maxHeartbeats 4000000
namespace L2
open PySem PySem.Spec PyProof.Rows
noncomputable def sgn (c : Nat) : V := .str ⟨#[c]⟩
noncomputable def Its (z : Str) : It := ⟨fun i _ => i < z.cps.size, fun i H x H' => H' = H ∧ ∃ c, z.cps[i]? = some c ∧ x = sgn c, fun i _ => i = z.cps.size⟩
section
variable {X : Cx} {tg : Expr}
noncomputable def iStr (tl : TE) : TI := fun σ H R => tl σ H fun x H1 => ∃ z, x = .str z ∧ R (Its z) H1
end
mutual
noncomputable def Rep (K : PySem.W.Frag) (H : Hp) : PyData → V → Prop
  | .none, v => v = .non
  | .bool b, v => v = .bl b
  | .int i, v => v = .int i
  | .str x, v => v = .str x
  | .list ds, v => ∃ a xs, v = .ref a ∧ SqL K H a xs ∧ Reps K H ds xs
  | .tuple ds, v => ∃ a xs, v = .ref a ∧ SqT K H a xs ∧ Reps K H ds xs
  | .dict _, _ => False
noncomputable def Reps (K : PySem.W.Frag) (H : Hp) : List PyData → List V → Prop
  | [], vs => vs = []
  | d :: ds, vs => ∃ v r, vs = v :: r ∧ Rep K H d v ∧ Reps K H ds r
end
section
variable {X : Cx} {pins : List (Addr × Obj)} {σ : St} {H : Hp} {s : Shared}
mutual
theorem Rep.reads (I : Inv X pins σ H s) : ∀ (d : PyData) (v : V) (u : Value), Rep X.K H d v → RelV v u → ∃ as, Reads s.heap u d as
  | .none, v, u, h, r => by
    have e : v = .non := by simpa [Rep] using h
    subst e; cases r; exact ⟨_, .none⟩
  | .bool b, v, u, h, r => by
    have e : v = .bl b := by simpa [Rep] using h
    subst e; cases r; exact ⟨_, .bool b⟩
  | .int i, v, u, h, r => by
    have e : v = .int i := by simpa [Rep] using h
    subst e; obtain ⟨t, rfl⟩ := r; exact ⟨_, .int i t⟩
  | .str x, v, u, h, r => by
    have e : v = .str x := by simpa [Rep] using h
    subst e; obtain ⟨t, rfl⟩ := r; exact ⟨_, .str x t⟩
  | .list ds, v, u, h, r => by
    obtain ⟨a, xs, rfl, hs, hr⟩ : ∃ a xs, v = .ref a ∧ SqL X.K H a xs ∧ Reps X.K H ds xs := by simpa only [Rep] using h
    cases r
    obtain ⟨its, rv, p, hz⟩ := I.list hs
    obtain ⟨o, ho, hc, n, hd⟩ := p.isList
    obtain ⟨as, q⟩ := Reps.reads I ds xs its hr rv
    exact ⟨_, .list ho hc hd (by simpa using q)⟩
  | .tuple ds, v, u, h, r => by
    obtain ⟨a, xs, rfl, hs, hr⟩ : ∃ a xs, v = .ref a ∧ SqT X.K H a xs ∧ Reps X.K H ds xs := by simpa only [Rep] using h
    cases r
    obtain ⟨its, rv, p, hz⟩ := I.tuple hs
    obtain ⟨o, ho, hc, n, hd⟩ := p
    obtain ⟨as, q⟩ := Reps.reads I ds xs its hr rv
    exact ⟨_, .tuple ho hc hd (by simpa using q)⟩
  | .dict _, v, u, h, r => by simp [Rep] at h
theorem Reps.reads (I : Inv X pins σ H s) : ∀ (ds : List PyData) (vs : List V) (us : List Value), Reps X.K H ds vs → Vals vs us → ∃ as, ReadsAll s.heap us ds as
  | [], vs, us, h, r => by
    have e : vs = [] := by simpa [Reps] using h
    subst e; cases r; exact ⟨_, .nil⟩
  | d :: ds, vs, us, h, r => by
    obtain ⟨v, q, rfl, h1, h2⟩ : ∃ v r, vs = v :: r ∧ Rep X.K H d v ∧ Reps X.K H ds r := by simpa only [Reps] using h
    cases r with
    | cons r1 r2 =>
      obtain ⟨as, q1⟩ := Rep.reads I d v _ h1 r1
      obtain ⟨bs, q2⟩ := Reps.reads I ds q _ h2 r2
      exact ⟨_, .cons q1 q2⟩
end
end
section
variable {X : Cx}
noncomputable def rEqD (K : PySem.W.Frag) (neg : Bool) : R2 := fun x y H Q => ∃ d e, Rep K H d x ∧ Rep K H e y ∧ SeqAt.shaped d = true ∧ SeqAt.shaped e = true ∧ Q (.bl (if neg then !PyData.eqv d e else PyData.eqv d e)) H
theorem op_neD (hu : X.A.units + 64 < cLine) : OpR X (compareOp .NotEq) (rEqD X.K true) := by
  intro pins s σ H x y v u Q I rx ry h
  obtain ⟨d, e, h1, h2, h3, h4, q⟩ := h
  obtain ⟨as, q1⟩ := Rep.reads I d x v h1 rx
  obtain ⟨bs, q2⟩ := Rep.reads I e y u h2 ry
  exact ne_dataH q1 q2 h3 h4 hu (fin_bl I q rfl)
noncomputable def rIsi (K : PySem.W.Frag) : List V → Hp → VK → Prop := fun xs H Q => ∃ x T t b, xs = [x, .ty T] ∧ TyOf K H x t ∧ PySem.W.kitOne K t (.type T) = some b ∧ Q (.bl b) H
theorem call_isi : CallR X (.builtin "isinstance") (rIsi X.K) := by
  intro pins s σ H xs us Q I r h
  obtain ⟨x, T, t, b, rfl, ty, e, q⟩ := h
  obtain ⟨u, c, rfl, ru, rc⟩ := vals2 r
  cases rc
  exact isinst_ok I ru ty e fun tk => ⟨.bl b, H, I.tok _, rfl, q⟩
noncomputable def rAll (K : PySem.W.Frag) (g : List Bool → Bool) : List V → Hp → VK → Prop := fun xs H Q => ∃ a bs, xs = [.ref a] ∧ SqL K H a (bs.map V.bl) ∧ Q (.bl (g bs)) H
theorem strs_of : ∀ {ys : List Str} {us : List Value}, Vals (ys.map V.str) us → StrsAre us ys
  | [], _, .nil => .nil
  | _ :: _, _, .cons r t => by obtain ⟨k, rfl⟩ := r; exact .cons _ _ (strs_of t)
noncomputable def rJoin (K : PySem.W.Frag) : V → List V → Hp → VK → Prop := fun x vs H Q => ∃ z a ys, x = .str z ∧ vs = [.ref a] ∧ SqL K H a (ys.map V.str) ∧ (ys.map (·.length)).sum + ys.length * z.length ≤ 16777216 ∧ Q (.str (Txt.join z ys)) H
theorem mt_join : MtR X "str.join" (rJoin X.K) := by
  intro pins s σ H x vs v us Q I rx rv h
  obtain ⟨z, a, ys, rfl, rfl, hs, hz, q⟩ := h
  obtain ⟨t, rfl⟩ := rx
  obtain ⟨u, rfl, ru⟩ := rv.one
  cases ru
  obtain ⟨its, r2, p, _⟩ := I.list hs
  exact join_list p.isList (by simpa using strs_of r2) hz fun t' k => ⟨.str _, H, I.tok _, ⟨_, rfl⟩, q⟩
end
end L2
set_option maxHeartbeats 4000000
namespace L2
open PySem PySem.Spec PyProof.Rows
section
variable {X : Cx}
structure DefOk (K : PySem.W.Frag) (mg : Str → Option Value) (x : Str) (st : Stmt) (ps : List Str) (f : Addr) (fd : FuncData) : Prop where
  F : Fun K x x st f fd
  b : Binds K fd ps []
  m : mg x = some (.ref f)
theorem pvl (i : Nat) {x : Str} {pos : Pos} (hN : X.N[i]? = some x := by rfl) (hv : X.env.scope.names.lookup x = some .local := by rfl) (hd : (x == ("__debug__" : Str)) = false := by decide) (hcd : (x == ("__classdict__" : Str)) = false := by decide) : PE X (.Name x pos) (tVar i) := pe_var hN (.inl hv) hd hcd
theorem pvc (i : Nat) {x : Str} {pos : Pos} (hN : X.N[i]? = some x := by rfl) (hv : X.env.scope.names.lookup x = some .cell := by rfl) (hd : (x == ("__debug__" : Str)) = false := by decide) (hcd : (x == ("__classdict__" : Str)) = false := by decide) : PE X (.Name x pos) (tVar i) := pe_var hN (.inr (.inl hv)) hd hcd
theorem pgl (i : Nat) {x : Str} {pos : Pos} (hN : X.N.Nodup) (hi : X.N[i]? = some x := by rfl) (hv : X.env.scope.names.lookup x = some .local := by rfl) : PG X (.Name x pos) (gName i) := pg_name hN hi (.inl hv) (.inr hv)
theorem pgc (i : Nat) {x : Str} {pos : Pos} (hN : X.N.Nodup) (hi : X.N[i]? = some x := by rfl) (hv : X.env.scope.names.lookup x = some .cell := by rfl) (hf : X.fn x = true := by rfl) : PG X (.Name x pos) (gName i) := pg_name hN hi (.inr hv) (.inl hf)
theorem psl (i : Nat) {x : Str} {pos pos' : Pos} {e : Expr} {te : TE} (hN : X.N.Nodup) (he : PE X e te) (hi : X.N[i]? = some x := by rfl) (hv : X.env.scope.names.lookup x = some .local := by rfl) (hs : swapsWith e (some (.Name x pos')) pos.line X.env = pure false := by rfl) :
    PS X (.Assign [.Name x pos'] e pos) (tAsg te (gName i)) := ps_set hN hi (.inl hv) he hs (.inr hv)
theorem psc (i : Nat) {x : Str} {pos pos' : Pos} {e : Expr} {te : TE} (hN : X.N.Nodup) (he : PE X e te) (hi : X.N[i]? = some x := by rfl) (hv : X.env.scope.names.lookup x = some .cell := by rfl) (hs : swapsWith e (some (.Name x pos')) pos.line X.env = pure false := by rfl) (hf : X.fn x = true := by rfl) :
    PS X (.Assign [.Name x pos'] e pos) (tAsg te (gName i)) := ps_set hN hi (.inr hv) he hs (.inl hf)
theorem pty {x : Str} {T : String} {pos : Pos} (hm : X.mg x = none) (hv : bootBuiltins x = some (.type T)) (hg : Gl X x := by rfl) (hn : x ≠ "__name__" := by decide) (hd : (x == ("__debug__" : Str)) = false := by decide) : PE X (.Name x pos) (tC (.ty T)) := pe_bltn hg hm hv rfl hn hd
end
theorem Same.new {H H' : Hp} (e : Same H H') {p : Addr} (h : H' p = none) (o : HO) : Same H (upd H' p o) := fun b q z => by
  rw [upd_ne (ne_of_none (e b q z) h)]; exact e b q z
theorem Same.upd_new {H : Hp} {p : Addr} (h : H p = none) (o : HO) : Same H (upd H p o) := (Same.refl H).new h o
theorem Same.set {H H' : Hp} (e : Same H H') {p : Addr} (h : H p = none) (o : HO) : Same H (upd H' p o) := fun b q z => by
  rw [upd_ne (ne_of_none z h)]; exact e b q z
theorem Same.seqT {K : PySem.W.Frag} {H H' : Hp} {a : Addr} {xs : List V} (e : Same H H') (h : SqT K H a xs) : SqT K H' a xs := by
  rcases h with (h | ⟨o, h⟩) | h
  · exact .inl (.inl (e _ _ h))
  · exact .inl (.inr ⟨o, e _ _ h⟩)
  · exact .inr h
end L2
set_option maxHeartbeats 4000000
namespace L2
open PySem PySem.Spec PyProof.Rows
theorem bt_len : bootBuiltins "len" = some (.builtin "len") := by decide +kernel
theorem bt_min : bootBuiltins "min" = some (.builtin "min") := by decide +kernel
theorem bt_isinstance : bootBuiltins "isinstance" = some (.builtin "isinstance") := by decide +kernel
theorem bt_list : bootBuiltins "list" = some (.type "list") := by decide +kernel
theorem bt_tuple : bootBuiltins "tuple" = some (.type "tuple") := by decide +kernel
theorem small_line {n : Nat} (h : n ≤ 1000000) : n ≤ sizeLine := by rw [sizeLine_eq]; omega
theorem take_snoc {α : Type} {xs : List α} {i : Nat} {x : α} (h : xs[i]? = some x) : xs.take (i + 1) = xs.take i ++ [x] := by rw [List.take_add_one, h]; rfl
theorem comp_of {α : Type} {J : It} {as : List α} {g : α → V} {ok : Hp → Prop} (w : Walk J (as.map g) ok) {tt : TT} {te : TE} {fin : List V → Hp → Prop} {σ : St} {H : Hp} (hz : as.length ≤ sizeLine) (h0 : ∀ H', Same H H' → ok H') (p : α → Bool) (f : α → V)
    (ht : ∀ a H1 Q, a ∈ as → Same H H1 → (∀ H2, Same H1 H2 → Q (p a) H2) → tt (some (g a) :: σ) H1 Q)
    (he : ∀ a H1 Q, a ∈ as → p a = true → Same H H1 → (∀ H2, Same H1 H2 → Q (f a) H2) → te (some (g a) :: σ) H1 Q)
    (hd : ∀ H', Same H H' → fin ((as.filter p).map f) H') : CompW J (gName 0) tt te fin (none :: σ) H := by
  refine comp_walk w (by rw [List.length_map]; exact hz) (fun i ys H' => Same H H' ∧ ys = ((as.take i).filter p).map f) ⟨Same.refl H, rfl⟩ (fun i ys H' _ q => h0 H' q.1) (fun i ys H' q => ?_) (fun i x ys H' hx q => ?_) (fun ys H' q => ?_)
  · rw [q.2, List.length_map]
    exact Nat.le_trans (List.length_filter_le _ _) (by rw [List.length_take]; omega)
  · obtain ⟨s1, e⟩ := q
    rw [List.getElem?_map] at hx
    cases ha : as[i]? with
    | none => rw [ha] at hx; cases hx
    | some a =>
      rw [ha] at hx
      have hx' : g a = x := Option.some.inj hx
      subst hx'
      have hm : a ∈ as := List.mem_of_getElem? ha
      refine ht a H' _ hm s1 fun H2 s2 => ?_
      cases hp : p a with
      | false =>
        rw [if_neg Bool.false_ne_true]
        exact ⟨⟨_, rfl⟩, s1.trans s2, by rw [e, take_snoc ha, List.filter_append, List.map_append]; simp [hp]⟩
      | true =>
        rw [if_pos rfl]
        exact he a H2 _ hm hp (s1.trans s2) fun H3 s3 => ⟨⟨_, rfl⟩, (s1.trans s2).trans s3, by rw [e, take_snoc ha, List.filter_append, List.map_append]; simp [hp]⟩
  · obtain ⟨s1, e⟩ := q
    rw [e, List.length_map, List.take_length]
    exact hd H' s1
theorem filter_yes {α : Type} (as : List α) : as.filter (fun _ => true) = as := List.filter_eq_self.mpr fun _ _ => rfl
noncomputable def plainTs : List String := ["NoneType", "bool", "int", "str", "list", "tuple", "dict"]
structure Pl (K : PySem.W.Frag) (H : Hp) (x : V) (T : String) : Prop where
  ty : TyOf K H x (.type T)
  mem : T ∈ plainTs
  sz : ∀ z, x = .str z → z.length ≤ sizeLine
noncomputable def isiN (T S : String) : Bool := T == S || (T == "bool" && S == "int")
theorem isi_plain {K : PySem.W.Frag} {T S : String} (hT : T ∈ plainTs) (hS : S ∈ plainTs) : PySem.W.kitOne K (.type T) (.type S) = some (isiN T S) := by
  simp only [plainTs, List.mem_cons, List.not_mem_nil, or_false] at hT hS
  rcases hT with rfl | rfl | rfl | rfl | rfl | rfl | rfl <;> rcases hS with rfl | rfl | rfl | rfl | rfl | rfl | rfl <;> rfl
theorem Pl.of_lst {K : PySem.W.Frag} {H : Hp} {a : Addr} {xs : List V} (h : H a = some (.lst xs)) : Pl K H (.ref a) "list" := ⟨.lst h, by decide, fun _ e => by cases e⟩
theorem Pl.of_tup {K : PySem.W.Frag} {H : Hp} {a : Addr} {xs : List V} (h : H a = some (.tup xs)) : Pl K H (.ref a) "tuple" := ⟨.tup h, by decide, fun _ e => by cases e⟩
noncomputable def rIsP (K : PySem.W.Frag) : List V → Hp → VK → Prop := fun xs H Q => ∃ x S T, xs = [x, .ty S] ∧ Pl K H x T ∧ S ∈ plainTs ∧ Q (.bl (isiN T S)) H
theorem call_isP {X : Cx} : CallR X (.builtin "isinstance") (rIsP X.K) := by
  intro pins s σ H xs us Q I r h
  obtain ⟨x, S, T, rfl, p, hS, q⟩ := h
  exact call_isi pins s σ H _ us Q I r ⟨x, S, .type T, _, rfl, p.ty, isi_plain p.mem hS, q⟩
end L2
set_option maxHeartbeats 4000000
namespace L2
open PySem PySem.Spec PyProof.Rows
section
variable {X : Cx}
end
theorem ixL_of {K : PySem.W.Frag} {H : Hp} {p : Addr} {xs : List V} {i : Int} {Q : VK} (h : SqL K H p xs) (h0 : 0 ≤ i) (h1 : i < xs.length) (q : ∀ v, xs[i.toNat]? = some v → Q v H) : rIxL K (.ref p) (.int i) H Q := by
  have hj : i.toNat < xs.length := by omega
  refine ⟨p, xs, i, xs[i.toNat], rfl, rfl, h, ?_, q _ (List.getElem?_eq_getElem hj)⟩
  have e := atI_nat (List.getElem?_eq_getElem hj)
  rwa [Int.toNat_of_nonneg h0] at e
theorem ixT_of {K : PySem.W.Frag} {H : Hp} {p : Addr} {xs : List V} {i : Int} {Q : VK} (h : SqT K H p xs) (h0 : 0 ≤ i) (h1 : i < xs.length) (q : ∀ v, xs[i.toNat]? = some v → Q v H) : rIxT K (.ref p) (.int i) H Q := by
  have hj : i.toNat < xs.length := by omega
  refine ⟨p, xs, i, xs[i.toNat], rfl, rfl, h, ?_, q _ (List.getElem?_eq_getElem hj)⟩
  have e := atI_nat (List.getElem?_eq_getElem hj)
  rwa [Int.toNat_of_nonneg h0] at e
theorem ixS_of {H : Hp} {z : Str} {i : Int} {Q : VK} (hz : z.length ≤ sizeLine) (h0 : 0 ≤ i) (h1 : i < z.length) (q : ∀ c, z.cps.toList[i.toNat]? = some c → Q (sgn c) H) : rIxS (.str z) (.int i) H Q := by
  have hl : z.cps.toList.length = z.length := by simp [Str.length]
  have hj : i.toNat < z.cps.toList.length := by omega
  refine ⟨z, i, z.cps.toList[i.toNat], rfl, rfl, hz, ?_, q _ (List.getElem?_eq_getElem hj)⟩
  have e := atI_nat (List.getElem?_eq_getElem hj)
  rwa [Int.toNat_of_nonneg h0] at e
theorem glue_go (parts : List Str) (acc : Array Nat) : (parts.foldl (fun acc p => acc ++ (#[] : Array Nat) ++ p.cps) acc).toList = acc.toList ++ (parts.map fun p => p.cps.toList).flatten := by
  induction parts generalizing acc with
  | nil => simp
  | cons a r ih => rw [List.foldl_cons, ih]; simp
theorem join_cps (parts : List Str) : (Txt.join (Str.ofString "") parts).cps.toList = (parts.map fun p => p.cps.toList).flatten := by
  show (Builtin.Str.glued (Str.ofString "") parts).cps.toList = _
  have e : (Str.ofString "").cps = #[] := by decide
  unfold Builtin.Str.glued
  rw [e]
  cases parts with
  | nil => rfl
  | cons a r =>
    show (r.foldl _ a.cps).toList = _
    rw [glue_go]; simp
theorem flat_signs : ∀ cs : List Nat, ((cs.map fun c => (⟨#[c]⟩ : Str)).map fun p => p.cps.toList).flatten = cs
  | [] => rfl
  | a :: r => by
    have ih := flat_signs r
    simp only [List.map_cons, List.flatten_cons, ih]
    rfl
theorem str_of_cps {z : Str} {cs : List Nat} (h : z.cps.toList = cs) : z = ⟨cs.toArray⟩ := by
  subst h
  cases z with
  | mk a => rfl
theorem join_signs (cs : List Nat) : Txt.join (Str.ofString "") (cs.map fun c => ⟨#[c]⟩) = ⟨cs.toArray⟩ :=
  str_of_cps ((join_cps (cs.map fun c => (⟨#[c]⟩ : Str))).trans (flat_signs cs))
theorem strs_of_signs (cs : List Nat) : cs.map sgn = (cs.map fun c => (⟨#[c]⟩ : Str)).map V.str := by rw [List.map_map]; rfl
theorem sum_ones (cs : List Nat) : ((cs.map fun c => (⟨#[c]⟩ : Str)).map (·.length)).sum = cs.length := by
  induction cs with
  | nil => rfl
  | cons a r ih => simp only [List.map_cons, List.sum_cons, ih, List.length_cons]; show 1 + _ = _; omega
theorem joinS_of {K : PySem.W.Frag} {H : Hp} {p : Addr} {cs : List Nat} {Q : VK} (h : SqL K H p (cs.map sgn)) (hl : cs.length ≤ 1000000) (q : Q (.str ⟨cs.toArray⟩) H) : rJoin K (.str (Str.ofString "")) [.ref p] H Q := by
  refine ⟨Str.ofString "", p, cs.map fun c => ⟨#[c]⟩, rfl, rfl, by rw [← strs_of_signs]; exact h, ?_, ?_⟩
  · rw [sum_ones, List.length_map]
    have e : (Str.ofString "").length = 0 := by decide
    rw [e]; omega
  · rw [join_signs]; exact q
end L2
set_option maxHeartbeats 4000000
namespace L2
open PySem PySem.Spec PyProof.Rows
section
variable {X : Cx} {K : PySem.W.Frag} (e : X.K = K)
include e
theorem k_isP : CallR X (.builtin "isinstance") (rIsP K) := by subst e; exact call_isP
noncomputable def rLenS (K : PySem.W.Frag) : List V → Hp → VK → Prop := fun xs H Q => ∃ p ys, xs = [.ref p] ∧ (SqL K H p ys ∨ SqT K H p ys) ∧ Q (.int ys.length) H
theorem k_len : CallR X (.builtin "len") (rLenS K) := by subst e; exact call_len_seq
noncomputable def rLenV (K : PySem.W.Frag) : List V → Hp → VK → Prop := fun xs H Q => ∃ x n, xs = [x] ∧ LenV K x H n ∧ Q (.int n) H
noncomputable def rListOf (K : PySem.W.Frag) : List V → Hp → VK → Prop := fun xs H Q => ∃ p ys, xs = [.ref p] ∧ (SqL K H p ys ∨ SqT K H p ys) ∧ ∀ l, H l = none → Q (.ref l) (upd H l (.lst ys))
theorem k_list : CallR X (.type "list") (rListOf K) := by subst e; exact call_list_of
noncomputable def rTupleOf (K : PySem.W.Frag) : List V → Hp → VK → Prop := fun xs H Q => ∃ p ys, xs = [.ref p] ∧ ((SqL K H p ys ∧ ∀ l, H l = none → Q (.ref l) (upd H l (.tup ys))) ∨ (SqT K H p ys ∧ Q (.ref p) H))
theorem k_tuple : CallR X (.type "tuple") (rTupleOf K) := by subst e; exact call_tuple_of
theorem k_ixL : IxR X (rIxL K) := by subst e; exact ix_list
theorem k_ixT : IxR X (rIxT K) := by subst e; exact ix_tup
theorem k_slL : SlR X (rSlL K) := by subst e; exact sl_list
theorem k_neD (hu : X.A.units + 64 < cLine) : OpR X (compareOp .NotEq) (rEqD K true) := by subst e; exact op_neD hu
theorem k_join : MtR X "str.join" (rJoin K) := by subst e; exact mt_join
theorem k_piL {tg l : Expr} {tl : TE} (hl : PE X l tl) : PI X tg l (iList K tl) := by subst e; exact pi_list hl
theorem k_piT {tg l : Expr} {tl : TE} (hl : PE X l tl) : PI X tg l (iTup K tl) := by subst e; exact pi_tup hl
theorem k_pgT {es : List Expr} {k : Nat} {t : TGs} {n : Nat} {pos : Pos} (hc : X.calm = true) (h : PGs X es t) (hn : (assignEach es X.env).length = n := by rfl) (hst : (assignEach es X.env).findIdx? (·.1) = none := by rfl) : PG X (.Tuple es k pos) (gTup K n t) := by subst e; exact pg_tup hc h hn hst
theorem k_bm {o a : Expr} {es : List Expr} {to : TE} {t : TA} {name : Str} {apos cpos : Pos} {T id : String} {r : V → List V → Hp → VK → Prop} (pa : PlainAttrs T) (slot : Slot T name id) (hty : typeOf (.builtin id) = pure (.type "method_descriptor")) (hm : MtR X id r) (ho : PE X o to) (ha : PA X (a :: es) t)
    (hbase : attributeBase o name X.env (eval o X.env) = eval o X.env := by rfl)
    (hfew : ((backTo cpos (starEach (a :: es) X.env)).all (fun x => !x.1) && (backToKw cpos (keywordEach [] X.env)).all (fun x => x.1.isSome)
      && decide ((a :: es).length + ([] : List Keyword).length + (if ([] : List Keyword).isEmpty then 0 else 1) < 30)) = true := by rfl)
    (hline : (apos.endLine == cpos.line) = true := by rfl) (hs : starEach (a :: es) X.env = (false, eval a X.env) :: starEach es X.env := by rfl) (hplain : (backTo cpos (starEach es X.env)).any (·.1) = false := by rfl) :
    PE X (.Call (.Attribute o name apos) (a :: es) [] cpos) (tBM K T r to t) := by subst e; exact pe_bm pa slot hty hm ho ha hbase hfew hline hs hplain
end
end L2
namespace L2
open PySem PySem.Spec PyProof.Rows
noncomputable def notStar : Expr → Bool
  | .Starred _ _ => false
  | _ => true
theorem star_cons {e : Expr} {es : List Expr} {env : Env} (h : notStar e = true) : starEach (e :: es) env = (false, eval e env) :: starEach es env := by
  cases e <;> first | rfl | cases h
theorem star_none {env : Env} : ∀ {es : List Expr}, es.all notStar = true → (starEach es env).any (·.1) = false
  | [], _ => rfl
  | e :: es, h => by
    rw [List.all_cons, Bool.and_eq_true] at h
    rw [star_cons h.1, List.any_cons, star_none h.2]; rfl
theorem back_none {env : Env} {pos : Pos} {es : List Expr} (h : es.all notStar = true) : (backTo pos (starEach es env)).any (·.1) = false := by
  have := star_none (env := env) h
  unfold backTo
  rw [List.any_map]
  exact this
section
variable {X : Cx} {e : Expr} {es : List Expr} {te : TE} {t : TA}
theorem pal (hn : notStar e = true) (ha : PE X e te) (hr : PA X es t) : PA X (e :: es) (tCons te t) := pa_cons ha hr (star_cons hn)
theorem pe_defL {x : Str} {st : Stmt} {ps : List Str} {f : Addr} {fd : FuncData} {k : Nat} {sp : Sp} {p pos : Pos} (D : DefOk X.K X.mg x st ps f fd) (G : FnOk X.prog X.w X.K X.mg X.base CX0 k f fd ps sp) (hr : Room k X.A)
    (hg : Gl X x) (hdb : (x == ("__debug__" : Str)) = false) (hn : (e :: es).all notStar = true) (ha : PA X (e :: es) t) :
    PE X (.Call (.Name x p) (e :: es) [] pos) (tCall sp [] E0 t) :=
  have h : notStar e = true ∧ es.all notStar = true := by rw [List.all_cons, Bool.and_eq_true] at hn; exact hn
  pe_call G hr hg D.m D.F.kp D.b .nil pass0 ha hdb (star_cons h.1) (back_none h.2)
theorem pe_cB {x : Str} {p pos : Pos} {id : String} {r : List V → Hp → VK → Prop} (hc : CallR X (.builtin id) r) (hm : X.mg x = none) (hv : bootBuiltins x = some (.builtin id)) (hg : Gl X x) (hn : x ≠ "__name__") (hdb : (x == ("__debug__" : Str)) = false)
    (hs : (e :: es).all notStar = true) (ha : PA X (e :: es) t) : PE X (.Call (.Name x p) (e :: es) [] pos) (tCB r t) :=
  have h : notStar e = true ∧ es.all notStar = true := by rw [List.all_cons, Bool.and_eq_true] at hs; exact hs
  pe_callB hc hg hm hv ha hn hdb (star_cons h.1) (back_none h.2)
theorem pe_cTy {x : Str} {p pos : Pos} {T : String} {r : List V → Hp → VK → Prop} (hc : CallR X (.type T) r) (hm : X.mg x = none) (hv : bootBuiltins x = some (.type T)) (hg : Gl X x) (hn : x ≠ "__name__") (hdb : (x == ("__debug__" : Str)) = false)
    (hs : (e :: es).all notStar = true) (ha : PA X (e :: es) t) : PE X (.Call (.Name x p) (e :: es) [] pos) (tCB r t) :=
  have h : notStar e = true ∧ es.all notStar = true := by rw [List.all_cons, Bool.and_eq_true] at hs; exact hs
  pe_callTy hc hg hm hv ha hn hdb (star_cons h.1) (back_none h.2)
theorem back_all {env : Env} {pos : Pos} {es : List Expr} (h : es.all notStar = true) : (backTo pos (starEach es env)).all (fun x => !x.1) = true := by
  have := back_none (env := env) (pos := pos) h
  rw [List.any_eq_false] at this
  rw [List.all_eq_true]
  intro x hx
  have := this x hx
  simpa using this
theorem k_bmL {K : PySem.W.Frag} {o a : Expr} {to : TE} {name : Str} {apos cpos : Pos} {T id : String} {r : V → List V → Hp → VK → Prop} (ek : X.K = K) (pa : PlainAttrs T) (slot : Slot T name id) (hty : typeOf (.builtin id) = pure (.type "method_descriptor")) (hm : MtR X id r)
    (hbase : attributeBase o name X.env (eval o X.env) = eval o X.env) (hs : (a :: es).all notStar = true) (hsz : decide ((a :: es).length + 0 + 0 < 30) = true) (hline : (apos.endLine == cpos.line) = true) (ho : PE X o to) (ha : PA X (a :: es) t) :
    PE X (.Call (.Attribute o name apos) (a :: es) [] cpos) (tBM K T r to t) :=
  have h : notStar a = true ∧ es.all notStar = true := by rw [List.all_cons, Bool.and_eq_true] at hs; exact hs
  k_bm ek pa slot hty hm ho ha hbase (by rw [back_all hs]; exact hsz) hline (star_cons h.1) (back_none h.2)
end
end L2
namespace L2
open PySem PySem.Spec PyProof.Rows
noncomputable def ForW (J : It) (g : TG) (tb : TS) (D : Ends) (σ : St) (H1 : Hp) : Prop := ∃ W : Nat → Nat → St → Hp → Prop, (∃ m, W 0 m σ H1) ∧ ∀ i m σ H, W i m σ H →
  (J.stop i H ∧ D.nx σ H) ∨ (J.go i H ∧ ∃ N : St → Hp → Prop, (∀ σ' H', N σ' H' → ∃ m', m' < m ∧ W (i + 1) m' σ' H') ∧ ∀ x H', J.yld i H x H' → g x σ H' fun σ2 H2 => tb { D with nx := N, ct := N, bk := D.nx } σ2 H2)
theorem for_in {wi : TI} {g : TG} {tb : TS} {D : Ends} {σ : St} {H : Hp} (h : wi σ H fun J H1 => ForW J g tb D σ H1) : tFor wi g tb D σ H := h
theorem ForW.of {g : TG} {tb : TS} {D : Ends} {σ : St} {H : Hp} {J : It} {xs : List V} {ok : Hp → Prop} (w : Walk J xs ok) (Pv : Nat → St → Hp → Prop) (h0 : Pv 0 σ H) (hl : ∀ i σ H, i ≤ xs.length → Pv i σ H → ok H)
    (hs : ∀ i x σ H, xs[i]? = some x → Pv i σ H → g x σ H fun σ2 H2 => tb { D with nx := Pv (i + 1), ct := Pv (i + 1), bk := D.nx } σ2 H2) (hd : ∀ σ H, Pv xs.length σ H → D.nx σ H) : ForW J g tb D σ H := for_walk w Pv h0 hl hs hd
end L2
set_option maxHeartbeats 4000000
namespace L2
open PySem PySem.Spec PyProof.Rows
noncomputable def cutL {α : Type} (xs : List α) (lo hi : Option Int) : List α := (xs.drop (HT.sIx xs.length 0 lo)).take (HT.sIx xs.length xs.length hi - HT.sIx xs.length 0 lo)
theorem pick_cut {α : Type} (xs : List α) (a : Nat) : ∀ k : Nat, ((List.range k).map (a + ·)).filterMap (fun i => xs[i]?) = (xs.drop a).take k
  | 0 => by simp
  | k + 1 => by
    rw [List.range_succ, List.map_append, List.filterMap_append, pick_cut xs a k, List.take_add_one, List.getElem?_drop]
    cases h : xs[a + k]? <;> simp [h]
theorem clip_is (v : Option Int) (n d : Nat) (hd : d ≤ n) : (match v with | none => (d : Int) | some i => max 0 (min (if i < 0 then i + (n : Int) else i) (n : Int))) = ((HT.sIx n d v : Nat) : Int) := by
  cases v with
  | none => rfl
  | some i =>
    unfold HT.sIx
    dsimp only
    by_cases h : i < 0
    · simp only [h, if_true] <;> omega
    · simp only [h, if_false] <;> omega
theorem indices_is (lo hi : Option Int) (n : Nat) : Builtin.Str.strSliceIndices lo hi 1 n = (List.range (HT.sIx n n hi - HT.sIx n 0 lo)).map (HT.sIx n 0 lo + ·) := by
  have e1 := clip_is lo n 0 (Nat.zero_le _)
  have e2 := clip_is hi n n (Nat.le_refl _)
  rw [← sliceRange_one, ← e1, ← e2]
  unfold Builtin.Str.strSliceIndices
  simp only [show (1 : Int) > 0 by decide, if_true]
  cases lo <;> cases hi <;> rfl
theorem slice_cps (x : Str) (lo hi : Option Int) : (Txt.slice x lo hi).cps.toList = cutL x.cps.toList lo hi := by
  have hl : x.cps.toList.length = x.length := by simp [Str.length]
  unfold Txt.slice cutL
  rw [indices_is, hl]
  split
  · rename_i h
    have h : (HT.sIx x.length x.length hi - HT.sIx x.length 0 lo) = x.length := by simpa using h
    have h2 := HT.sIx_le x.length x.length (Nat.le_refl _) hi
    by_cases h0 : x.length = 0
    · have : x.cps.toList = [] := List.eq_nil_of_length_eq_zero (by omega)
      rw [this]; simp
    · have h3 : HT.sIx x.length 0 lo = 0 := by omega
      rw [h3, h3] at *
      rw [List.drop_zero, show HT.sIx x.length x.length hi - 0 = x.cps.toList.length by omega, List.take_length]
  · show ((List.map _ _).filterMap fun (i : Nat) => x.cps[i]?) = _
    have e : (fun (i : Nat) => x.cps[i]?) = fun (i : Nat) => x.cps.toList[i]? := by funext i; simp
    rw [e, pick_cut]
section
variable {X : Cx}
noncomputable def rSlS : V → Option Int → Option Int → Hp → VK → Prop := fun x lo hi H Q => ∃ z, x = .str z ∧ z.length ≤ sizeLine ∧ Q (.str ⟨(cutL z.cps.toList lo hi).toArray⟩) H
theorem sl_str : SlR X rSlS := by
  intro pins s σ H x v vl vu lo hi sl Q I rx hs pl pu h
  obtain ⟨z, rfl, hz, q⟩ := h
  obtain ⟨t, rfl⟩ := rx
  have e : Txt.slice z lo hi = ⟨(cutL z.cps.toList lo hi).toArray⟩ := str_of_cps (slice_cps z lo hi)
  have fin : ∀ t' k, EP X pins σ Q (.str (Txt.slice z lo hi) t') { s with toks := k } := fun t' k => by
    rw [e]; exact ⟨.str _, H, I.tok _, ⟨_, rfl⟩, q⟩
  have hle := Nat.le_trans (Txt.slice_le z lo hi) hz
  refine ⟨"str", _, F.slot_str_getitem.lookup, typeIs_str _ _ _, ?_⟩
  obtain ⟨o, ho, hc, hd⟩ := hs
  cases pl with
  | none =>
    cases pu with
    | none => exact wpAny_getItem_str_slice (l := none) (u := none) (st := none) ⟨o, ho, hc, hd⟩ rfl (post_val_or_str ⟨hle, fin⟩)
    | int j uj => exact wpAny_getItem_str_slice (l := none) (u := some (j, uj)) (st := none) ⟨o, ho, hc, hd⟩ rfl (post_val_or_str ⟨hle, fin⟩)
  | int i ui =>
    cases pu with
    | none => exact wpAny_getItem_str_slice (l := some (i, ui)) (u := none) (st := none) ⟨o, ho, hc, hd⟩ rfl (post_val_or_str ⟨hle, fin⟩)
    | int j uj => exact wpAny_getItem_str_slice (l := some (i, ui)) (u := some (j, uj)) (st := none) ⟨o, ho, hc, hd⟩ rfl (post_val_or_str ⟨hle, fin⟩)
noncomputable def rFind : V → List V → Hp → VK → Prop := fun x vs H Q => ∃ z y, x = .str z ∧ vs = [.str y] ∧ Q (.int (Txt.find z y)) H
noncomputable def rStarts : V → List V → Hp → VK → Prop := fun x vs H Q => ∃ z y, x = .str z ∧ vs = [.str y] ∧ Q (.bl (Txt.startswith z y)) H
noncomputable def rLtA : R2 := fun x y H Q => match x, y with
  | .int i, .int j => Q (.bl (decide (i < j))) H
  | .str a, .str b => Q (.bl (decide (a.cps.toList < b.cps.toList))) H
  | _, _ => False
theorem op_ltA : OpR X (compareOp .Lt) rLtA := by
  intro pins s σ H x y v u Q I rx ry h
  cases x with
  | int i =>
    cases y with
    | int j => exact op_lt pins s σ H _ _ v u Q I rx ry ⟨i, j, rfl, rfl, h⟩
    | _ => exact False.elim h
  | str a =>
    cases y with
    | str b => exact op_lt_str pins s σ H _ _ v u Q I rx ry ⟨a, b, rfl, rfl, h⟩
    | _ => exact False.elim h
  | _ => exact False.elim (by cases y <;> exact h)
end
end L2
namespace L2
open PySem
theorem range_item {lo : Int} {n i : Nat} {x : V} (h : (rangeV lo n)[i]? = some x) : i < n ∧ x = .int (lo + i) := by
  have hi : i < n := by have := (List.getElem?_eq_some_iff.mp h).1; rwa [rangeV_len] at this
  rw [rangeV_get hi] at h
  cases h
  exact ⟨hi, rfl⟩
end L2
set_option maxHeartbeats 4000000
namespace L2
open PySem PySem.Spec PyProof.Rows PySem.NumText
noncomputable def dgs (m : Nat) : List Nat := (Nat.toDigits 10 m).map Char.toNat
noncomputable def numS (n : Int) : List Nat := if n < 0 then 45 :: dgs n.natAbs else dgs n.natAbs
theorem cut_from {α : Type} (xs : List α) (k : Nat) : cutL xs (some (k : Int)) none = xs.drop k := by
  unfold cutL
  rw [HT.sIx_nat, HT.sIx_none]
  by_cases h : k ≤ xs.length
  · rw [Nat.min_eq_left h, List.take_of_length_le (by rw [List.length_drop]; omega)]
  · rw [Nat.min_eq_right (by omega), List.drop_length, List.drop_of_length_le (by omega)]; simp
theorem cut_to {α : Type} (xs : List α) (k : Nat) : cutL xs none (some (k : Int)) = xs.take k := by
  unfold cutL
  rw [HT.sIx_nat, HT.sIx_none, List.drop_zero, Nat.sub_zero]
  by_cases h : k ≤ xs.length
  · rw [Nat.min_eq_left h]
  · rw [Nat.min_eq_right (by omega), List.take_length, List.take_of_length_le (by omega)]
theorem str_eq_iff {z w : Str} : z = w ↔ z.cps.toList = w.cps.toList := ⟨fun e => by rw [e], fun e => by
  cases z with
  | mk a => cases w with
    | mk b => exact congrArg Str.mk (Array.toList_inj.mp e)⟩
section
variable {X : Cx}
noncomputable def rIntT : List V → Hp → VK → Prop := fun xs H Q => ∃ z n, xs = [.str z] ∧ intText? z = some n ∧ z.length ≤ 640 ∧ Q (.int n) H
noncomputable def rStrA : List V → Hp → VK → Prop := fun xs H Q => (∃ i, xs = [.int i] ∧ i.natAbs < 10 ^ 100 ∧ Q (.str ⟨(numS i).toArray⟩) H) ∨ ∃ z, xs = [.str z] ∧ Q (.str z) H
end
end L2
namespace L2
open PySem PySem.Spec PyProof.Rows
section
variable {X : Cx}
noncomputable def rRepS : R2 := fun x y H Q => ∃ z n, x = .str z ∧ y = .int n ∧ MulOk z n ∧ Q (.str (Txt.mul z n)) H
theorem op_rep_str : OpR X (binaryOp .Mult) rRepS := by
  intro pins s σ H x y v u Q I rx ry h
  obtain ⟨z, n, rfl, rfl, hm, q⟩ := h
  obtain ⟨t, rfl⟩ := rx
  obtain ⟨t', rfl⟩ := ry
  exact SB.mul hm fun t' k => ⟨.str _, H, I.tok _, ⟨_, rfl⟩, q⟩
end
end L2
namespace L2
open PySem
end L2
set_option maxHeartbeats 1000000
namespace L2
open PySem PySem.Spec PyProof.Rows
noncomputable def Trc (H : Hp) (h G : Heap) (e : Addr) (C : Value) (ed : Option Addr) (fl : Value) : Prop :=
  G.get? e = none ∧ H e = none ∧ ∃ oe vs, h.get? e = some oe ∧ oe.cls = C ∧ oe.dict = ed ∧ oe.data = .fields vs ∧ 1 < vs.size ∧
    ((vs[1]? = some .none ∧ fl = .none) ∨ ∃ T oT ts, vs[1]? = some (.ref T) ∧ G.get? T = none ∧ T ≠ e ∧ H T = none ∧ h.get? T = some oT ∧ oT.data = .fields ts ∧ ts[3]? = some fl)
section
variable {M : Model} {A : Around} {E : Value → Shared → Prop} {s : Shared} {Q : Unit → Shared → Prop} {base : Heap} {env : Env} {outer : List Env} {L e : Addr} {C : Value} {ed : Option Addr} {G : Heap} {H : Hp}
end
end L2
set_option maxHeartbeats 1000000
namespace L2
open PySem PySem.Spec PyProof.Rows
noncomputable def CXE (P : Program) (w : World) : CXT := fun outer H s E e s' => ∃ a C ed H', e = .ref a ∧ s'.os = s.os ∧ AllBare s'.gens ∧ Un (frs outer) [] H H' s.heap s'.heap ∧ HOk P w H' s'.heap ∧ Trc H' s'.heap s.heap a C ed .none ∧ E C ed H'
theorem Inv.back {X : Cx} {pins : List (Addr × Obj)} {σ : St} {H : Hp} {s : Shared} (I : Inv X pins σ H s) (hex : X.ex = []) (b : Addr) (e : s.heap.get? b = none) : X.s₀.heap.get? b = none := by
  cases q : X.s₀.heap.get? b with
  | none => rfl
  | some o =>
    obtain ⟨o', e'⟩ := I.base.there b o q (by rw [hex]; simp)
    rw [e] at e'; cases e'
structure Cov (X : Cx) (pins : List (Addr × Obj)) (G : Heap) : Prop where
  loc : G.get? X.env.locals ≠ none
  cell : ∀ x c, X.env.cells.lookup x = some c → G.get? c ≠ none
  pin : ∀ p ∈ X.pn ++ pins, G.get? p.1 ≠ none
  old : ∀ b, G.get? b = none → X.s₀.heap.get? b = none
theorem Inv.cov {X : Cx} {pins : List (Addr × Obj)} {σ : St} {H : Hp} {s : Shared} (I : Inv X pins σ H s) (hex : X.ex = []) : Cov X pins s.heap :=
  ⟨by obtain ⟨m, ⟨o, _, _, ho, _⟩, _⟩ := I.loc; rw [ho]; simp, fun x c e => by obtain ⟨v, o, ho, _⟩ := I.cell x c e; rw [ho]; simp, fun p hp => by rw [(I.pin p hp).1]; simp, I.back hex⟩
section
variable {X : Cx} {k : Nat} {f C : Addr} {fd : FuncData} {ps : List Str} {sp : Sp} {x m : Str} {p pos apos : Pos} {e o : Expr} {es : List Expr} {ta : TE} {t : TA} {S : St → Prop} {E : XK}
noncomputable def tCallX (S : St → Prop) (sp : Sp) (E : XK) (t : TA) : TE := fun σ H Q => t σ H fun vs H1 => S σ ∧ sp vs H1 Q E
end
end L2
set_option maxHeartbeats 1000000
namespace L2
open PySem PySem.Spec PyProof.Rows
noncomputable abbrev vbm : List Value := [.type "ValueError", .type "Exception", .type "BaseException", .type "object"]
noncomputable def exB (K : PySem.W.Frag) (C : Addr) (ini : Option Value) : Bool := match K.lookup C with
  | some ⟨.type "type", _, .cls cd, sl⟩ => (match cd.mro, sl.toList with
    | .ref C' :: bm, [_, _, _, _, some (.builtin n), _] => C' == C && (n == "ValueError.__new__" && (PySem.W.tailIn K vbm bm && (!cd.hasDel && (PySem.W.nsOkIn K cd.ns && PySem.W.nsIn K cd.ns "__init__" == some ini))))
    | _, _ => false)
  | _ => false
section
variable {X : Cx} {e : Expr} {es : List Expr} {t : TA} {S : St → Prop} {E : XK}
noncomputable def tRaise (S : St → Prop) (E : XK) (C : Addr) (t : TA) : TS := fun _ σ H => t σ H fun vs H1 => S σ ∧ vs.length ≤ sizeLine ∧ E (.ref C) none H1
end
end L2
set_option maxHeartbeats 1000000
namespace L2
open PySem PySem.Spec PyProof.Rows
section
variable {X : Cx} {pins : List (Addr × Obj)} {σ : St} {H : Hp} {s : Shared} {G : Heap}
theorem Inv.hold {a : Addr} {o : HO} (I : Inv X pins σ H s) (c : Cov X pins G) (ha : G.get? a = none) (hH : H a = none) (ok : ObjOk X.prog X.w (upd H a o) s.heap a o) : Inv X pins σ (upd H a o) s := by
  have ne : ∀ b, G.get? b ≠ none → b ≠ a := fun b h z => by subst z; exact h ha
  have ne2 : ∀ b u, H b = some u → b ≠ a := fun b u h z => by subst z; rw [hH] at h; cases h
  have neo : ∀ b o', X.s₀.heap.get? b = some o' → b ≠ a := fun b o' e z => by
    subst z
    have := c.old b ha
    rw [e] at this; cases this
  refine ⟨I.ok, I.os, I.bare, ⟨I.base.keep, I.base.slot, fun b o' e hn hx => by rw [upd_ne (neo b o' e)]; exact I.base.free b o' e hn hx, I.base.there, fun b xs e => ?_, fun b o' u e => ?_, fun b ps e => ?_⟩, I.loc, I.cell, by rw [upd_ne (ne _ c.loc)]; exact I.free, fun x cc e => by rw [upd_ne (ne _ (c.cell x cc e))]; exact I.freeC x cc e, fun p hp => ?_, fun b u e => ?_, I.len⟩
  · have := I.base.tups b xs e
    rw [upd_ne (ne2 b _ this)]; exact this
  · have := I.base.frzs b o' u e
    rw [upd_ne (ne2 b _ this)]; exact this
  · obtain ⟨m, this⟩ := I.base.tbls b ps e
    exact ⟨m, by rw [upd_ne (ne2 b _ this)]; exact this⟩
  · obtain ⟨e, n, r⟩ := I.pin p hp
    exact ⟨e, by rw [upd_ne (ne _ (c.pin p hp))]; exact n, r⟩
  · by_cases z : b = a
    · subst z
      rw [upd_same] at e
      cases e
      exact ok
    · rw [upd_ne z] at e
      exact (I.hok b u e).stay (fun _ _ _ q => q) (fun d q => by rw [upd_ne (ne2 d _ q)]; exact q) fun d xs q => by rw [upd_ne (ne2 d _ q)]; exact q
end
end L2
set_option maxHeartbeats 1000000
namespace L2
open PySem PySem.Spec PyProof.Rows
noncomputable def ExO (a : Addr) (C : Value) (ed : Option Addr) : HO := .ext fun h => ∃ oe vs, h.get? a = some oe ∧ oe.cls = C ∧ oe.dict = ed ∧ oe.data = .fields vs
section
variable {X : Cx} {pins : List (Addr × Obj)} {σ : St} {H : Hp} {s : Shared} {G : Heap} {W : Value → Shared → Prop}
end
noncomputable def subB (K : PySem.W.Frag) (C B : Addr) : Bool := match K.lookup C with
  | some ⟨_, _, .cls cd, _⟩ => cd.mro.contains (.ref B)
  | _ => false
end L2
set_option maxHeartbeats 1000000
namespace L2
open PySem PySem.Spec PyProof.Rows
noncomputable def offE (i : Nat) (D : Ends) : Ends := { nx := fun σ H => D.nx (σ.set i none) H, rt := D.rt, bk := fun σ H => D.bk (σ.set i none) H, ct := fun σ H => D.ct (σ.set i none) H }
noncomputable def tAs (K : PySem.W.Frag) (B : Addr) (i : Nat) (ts : TS) (thr : Value → Option Addr → TS) : Value → Option Addr → TS := fun C ed D σ H => ∃ Cc ini b, C = .ref Cc ∧ exB K Cc ini = true ∧ subB K Cc B = b ∧
  if b = true then (∀ a, H a = none → ts (offE i D) (σ.set i (some (.ref a))) (upd H a (ExO a C ed))) else thr C ed D σ H
section
variable {X : Cx}
noncomputable def tTry (tb : St → XK → TS) (th : Value → Option Addr → TS) : TS := fun D σ H => tb σ (fun C ed H' => th C ed D σ H') D σ H
end
end L2
set_option maxHeartbeats 1000000
namespace L2
open PySem PySem.Spec PyProof.Rows
section
variable {prog : Program} {w : World} {A : Around} {E : Value → Shared → Prop} {s : Shared} {K : PySem.W.Frag} {a C : Addr} {ox : Obj} {od : Option Obj} {name : Str}
structure XCls (K : PySem.W.Frag) (C : Addr) : Prop where
  ga : PySem.W.findIn K (.ref C) "__getattribute__" = some (some (.builtin "BaseException.__getattribute__"))
  gh : PySem.W.findIn K (.ref C) "__getattr__" = some none
  base : PySem.W.mroIn K C (.type "BaseException") = some true
  obj : PySem.W.mroIn K C (.type "object") = some true
  hd : PySem.W.hasDictIn K C = true
  cl : PySem.W.findIn K (.ref C) "__class__" = some (some (.builtin "object.__class__"))
  cg : PySem.W.specialIn K (.builtin "object.__class__") "__get__" = some (some (.builtin "getset_descriptor.__get__"))
  ct : PySem.W.takesIn K (.builtin "object.__class__") = some true
end
end L2
set_option maxHeartbeats 1000000
namespace L2
open PySem PySem.Spec PyProof.Rows
section
variable {K : PySem.W.Frag} {a C : Addr}
end
noncomputable def XdOk (H : Hp) (ed : Option Addr) : Prop := ed = none ∨ ∃ dx fs, ed = some dx ∧ H dx = some (.xd fs)
section
variable {P : Program} {w : World} {H : Hp} {h : Heap} {a C : Addr} {ed : Option Addr}
end
section
variable {X : Cx}
noncomputable def rIsX (K : PySem.W.Frag) : List V → Hp → VK → Prop := fun xs H Q => ∃ a C ed b, H a = some (ExO a (.ref C) ed) ∧ XdOk H ed ∧ XCls K C ∧ ((∃ B, xs = [.ref a, .ref B] ∧ PySem.W.kitOne K (.ref C) (.ref B) = some b) ∨ ∃ S, xs = [.ref a, .ty S] ∧ PySem.W.kitOne K (.ref C) (.type S) = some b) ∧ Q (.bl b) H
noncomputable def tXF (K : PySem.W.Frag) (te : TE) (f : Str) : TE := fun σ H Q => te σ H fun x H1 => ∃ a C dx fs v, x = .ref a ∧ H1 a = some (ExO a (.ref C) (some dx)) ∧ H1 dx = some (.xd fs) ∧ XCls K C ∧ NoAttr K C f ∧ fs.lookup f = some v ∧ Q v H1
end
end L2
set_option maxHeartbeats 1000000
namespace L2
open PySem PySem.Spec PyProof.Rows
section
variable {prog : Program} {w : World} {A : Around} {E : Value → Shared → Prop} {h : Heap} {g : Array GenState} {d : Drawn} {t : Nat} {os : OsState} {K : PySem.W.Frag}
variable {nm q : Str} {C N a : Addr} {bs bm : List Value} {sn : List Str} {sub : List Value} {ab : Bool} {col : Option Bool} {dd : Option Addr} {k0 k1 k2 k3 k5 : Option Value} {newId : String} {name : Str} {v : Value} {o : Obj} {vs : Array Value}
end
end L2
set_option maxHeartbeats 1000000
namespace L2
open PySem PySem.Spec PyProof.Rows
noncomputable def ExN (a : Addr) (C : Value) (ed : Option Addr) : HO := .ext fun h => ∃ oe vs, h.get? a = some oe ∧ oe.cls = C ∧ oe.dict = ed ∧ oe.data = .fields vs ∧ 1 < vs.size ∧ vs[1]? = some .none
noncomputable def dropH (H : Hp) (a : Addr) : Hp := fun b => if b = a then none else H b
section
variable {X : Cx} {pins : List (Addr × Obj)} {σ : St} {H : Hp} {s : Shared} {a : Addr}
noncomputable def sXset (K : PySem.W.Frag) (ta tv : TE) (f : Str) : TS := fun D σ H => tv σ H fun y H1 => ta σ H1 fun x H2 => ∃ a C ini, x = .ref a ∧ H2 a = some (ExN a (.ref C) none) ∧ exB K C ini = true ∧ PySem.W.hasDictIn K C = true ∧
  PySem.W.findIn K (.ref C) "__setattr__" = some (some (.builtin "object.__setattr__")) ∧ NoAttr K C f ∧ ∀ dx, H2 dx = none → dx ≠ a → D.nx σ (upd (upd H2 dx (.xd [(f, y)])) a (ExN a (.ref C) (some dx)))
end
end L2
set_option maxHeartbeats 1000000
namespace L2
open PySem PySem.Spec PyProof.Rows
section
variable {prog : Program} {w : World} {A : Around} {E : Value → Shared → Prop} {h : Heap} {g : Array GenState} {d : Drawn} {t : Nat} {os : OsState}
variable {nm qn : Str} {C N : Addr} {bs bm : List Value} {hd : Bool} {sn : List Str} {sub : List Value} {ab : Bool} {col : Option Bool} {dd : Option Addr} {k0 k1 k2 k3 k5 : Option Value}
end
section
variable {X : Cx} {e : Expr} {es : List Expr} {t : TA} {S : St → Prop} {E : XK} {k : Nat} {f C : Addr} {fd : FuncData} {ps : List Str} {sp : Sp}
noncomputable def tRaiseI (S : St → Prop) (E : XK) (C : Addr) (sp : Sp) (t : TA) : TS := fun _ σ H => t σ H fun vs H1 => S σ ∧ vs.length ≤ sizeLine ∧ ∀ a, H1 a = none → sp (.ref a :: vs) (upd H1 a (ExN a (.ref C) none)) (fun v H2 => v = .non ∧ ∃ ed, H2 a = some (ExN a (.ref C) ed) ∧ E (.ref C) ed (dropH H2 a)) E0
end
end L2
set_option maxHeartbeats 1000000
namespace L2
open PySem PySem.Spec PyProof.Rows
section
variable {X : Cx} {k : Nat} {f C : Addr} {fd : FuncData} {ps : List Str} {sp : Sp} {x m : Str} {p pos apos : Pos} {e o : Expr} {es : List Expr} {ta : TE} {t : TA} {S : St → Prop} {E : XK}
noncomputable def tMethX (S : St → Prop) (C : Addr) (m : Str) (sp : Sp) (E : XK) (ta : TE) (t : TA) : TE := fun σ H Q => ta σ H fun x H1 => ∃ a dx fs, x = .ref a ∧ H1 a = some (.ins C dx fs) ∧ fs.lookup m = none ∧ t σ H1 fun vs H2 => S σ ∧ sp (x :: vs) H2 Q E
noncomputable def tMakeX (S : St → Prop) (C : Addr) (sp : Sp) (E : XK) (t : TA) : TE := fun σ H Q => t σ H fun vs H1 => S σ ∧ ∀ x dx, H1 x = none → H1 dx = none → dx ≠ x → sp (.ref x :: vs) (upd (upd H1 dx (.own x)) x (.ins C dx [])) (fun v H2 => v = .non ∧ Q (.ref x) H2) E
end
end L2
set_option maxHeartbeats 1000000
namespace L2
open PySem PySem.Spec PyProof.Rows
section
variable {X : Cx}
theorem pgcl {x : Str} {c : Addr} {pos : Pos} (hm : X.mg x = some (.ref c)) (hg : Gl X x) (hd : (x == ("__debug__" : Str)) = false) : PE X (.Name x pos) (tC (.ref c)) := pe_glob hg hm rfl hd
end
end L2
set_option maxHeartbeats 1000000
namespace L2
open PySem PySem.Spec PyProof.Rows
noncomputable def Ite (K : PySem.W.Frag) (a : Addr) : It where
  go := fun i H => ∃ xs x, SqL K H a xs ∧ xs[i]? = some x
  yld := fun i H y H' => ∃ p x, H p = none ∧ y = .ref p ∧ (∀ ys, SqL K H a ys → ys[i]? = some x) ∧ H' = upd H p (.tup [.int i, x])
  stop := fun i H => ∃ xs, SqL K H a xs ∧ xs.length ≤ i
theorem turn_enum {P : Program} {w : World} {K : PySem.W.Frag} {elts : List Expr} {x1 : Nat} {tpos : Pos} (a e it : Addr) (hne : e ≠ it) : Turn P w K (.Tuple elts x1 tpos) (Ite K a) [e, it] e (fun i h => ∃ old, IsEnum h e it i old ∧ h.IsListIter it a i) where
  mem := by simp
  obj := fun i h st b hb => by
    obtain ⟨old, h1, o, h2, c, d⟩ := st
    rcases List.mem_cons.mp hb with rfl | hb
    · exact ⟨_, h1, fun v z => nomatch z⟩
    · cases List.mem_singleton.mp hb
      exact ⟨o, h2, fun v z => by rw [d] at z; cases z⟩
  keep := fun i h h' st k => by
    obtain ⟨old, h1, h2⟩ := st
    exact ⟨old, k e (by simp) _ h1, h2.at fun o z => k it (by simp) o z⟩
  item := by
    intro X hP hw hK hc i pins s σ H E I hf st hg
    subst hP hw hK
    obtain ⟨xs, x, hq, hx⟩ := hg
    obtain ⟨its, rv, p, hz⟩ := I.list hq
    obtain ⟨u, hu, ru⟩ := rv.get hx
    obtain ⟨old, h1, h2⟩ := st
    obtain ⟨f0, f1, f2, f3, f4, f5⟩ := hf e (by simp)
    obtain ⟨g0, g1, g2, g3, g4, g5⟩ := hf it (by simp)
    have fr : H s.heap.objs.size = none := I.hok.fresh (Nat.le_refl _)
    have pe : s.heap.objs.size ≠ e := Nat.ne_of_gt (Heap.lt_size h1)
    refine wpAny_pyNext_enum_item h1 h2 p.isList (x := u) (by simpa using hu) hne fun h' out st' tup sz k => ⟨.ref s.heap.objs.size, rfl, ?_⟩
    refine wpAny_letOwnedTupleGo_enum (s := { s with heap := h', toks := s.toks + 1 }) out fun h'' he' sb => ?_
    have kk : ∀ b o, b ∉ [e, it] → s.heap.get? b = some o → h''.get? b = some o := fun b o hb z =>
      (sb.2 b (fun q => hb (by simp [q]))).trans (k b o (fun q => hb (by simp [q])) (fun q => hb (by simp [q])) z)
    have kt : h''.get? s.heap.objs.size = some { cls := .type "tuple", data := .seq #[.int i s.toks, u] } := (sb.2 _ pe).trans tup
    have nt : ∀ b v, H b = some v → b ∉ [e, it] := fun b v z hb => by
      rcases List.mem_cons.mp hb with rfl | hb
      · rw [f0] at z; cases z
      · cases List.mem_singleton.mp hb
        rw [g0] at z; cases z
    have np : ∀ b v, H b = some v → b ≠ s.heap.objs.size := fun b v z q => by subst q; rw [fr] at z; cases z
    have up : ∀ b v, H b = some v → upd H s.heap.objs.size (.tup [.int i, x]) b = some v := fun b v z => by rw [upd_ne (np b v z)]; exact z
    refine ⟨.ref s.heap.objs.size, upd H s.heap.objs.size (.tup [.int i, x]), ?_, rfl, ⟨_, x, fr, rfl, fun ys hy => by rw [I.list_inj hy hq]; exact hx, rfl⟩, ⟨u, he', st'.at fun o z => (sb.2 it (Ne.symm hne)).trans z⟩, fun b hb => ?_⟩
    · show Inv X pins σ _ { s with heap := h'', gens := s.gens, drawn := s.drawn, toks := s.toks + 1 }
      refine Inv.step (s := s) (h' := h'') (t' := s.toks + 1) (g' := s.gens) (d' := s.drawn) (ch := [e, it]) I (fun b hb => ?_) (fun b o _ _ hb z _ => kk b o hb z) (fun b o _ _ hb z _ => ⟨o.slots, kk b o hb z⟩) (fun b o _ z n => by rw [upd_ne (Nat.ne_of_lt (Heap.lt_size z))]; exact n) (fun b o hb z => ⟨o, kk b o hb z⟩)
        (fun b ys z => up b _ z) (fun b o v z => up b _ z) (fun b ps z => ⟨#[], by rw [Array.append_empty]; exact up b _ z⟩) (fun m hm => ?_) (fun b v z => ?_) I.bare
      · rcases List.mem_cons.mp hb with rfl | hb
        · exact ⟨f3, f1, f4, f5⟩
        · cases List.mem_singleton.mp hb
          exact ⟨g3, g1, g4, g5⟩
      · obtain ⟨o, es, ep, ho, r⟩ := hm
        refine ⟨o, es, ep, kk _ o (fun hb => ?_) ho, r⟩
        rcases List.mem_cons.mp hb with q | hb
        · exact f1 q.symm
        · exact g1 (List.mem_singleton.mp hb).symm
      · by_cases q : b = s.heap.objs.size
        · subst q
          rw [upd_same] at z
          cases z
          exact ⟨small_line (Nat.le_of_ble_eq_true rfl), [.int i s.toks, u], .cons ⟨_, rfl⟩ (.cons ru .nil), _, kt, rfl, _, rfl⟩
        · rw [upd_ne q] at z
          refine (I.hok b v z).stay (fun c o hc y => kk c o ?_ y) (fun c y => up c _ y) fun c ys y => up c _ y
          rcases hc with rfl | hc
          · exact nt _ _ z
          · exact nt _ _ hc
    · rcases List.mem_cons.mp hb with rfl | hb
      · rw [upd_ne (Ne.symm pe)]; exact f0
      · cases List.mem_singleton.mp hb
        obtain ⟨o, h2', _⟩ := h2
        rw [upd_ne (Nat.ne_of_lt (Heap.lt_size h2'))]; exact g0
  done := by
    intro X hP hw hK hc i pins s σ H E I hf st hg
    subst hP hw hK
    obtain ⟨xs, hq, hx⟩ := hg
    obtain ⟨its, rv, p, hz⟩ := I.list hq
    obtain ⟨old, h1, h2⟩ := st
    obtain ⟨g0, g1, g2, g3, g4, g5⟩ := hf it (by simp)
    have hl := rv.length
    exact wpAny_pyNext_enum_end (I.ok.hd hc) h1 h2 p.isList (by simp; omega) fun h' eb => ⟨rfl, I.turned (t' := s.toks) (fun b o hb z => eb b o hb z) g0 g1 g3 g4 g5⟩
  self := fun _ _ _ _ _ st h => by
    obtain ⟨old, h1, h2⟩ := st
    exact wpAny_pyIter_enum h1 h
section
variable {X : Cx}
noncomputable def iEnum (K : PySem.W.Frag) (ta : TA) : TI := fun σ H R => ta σ H fun vs H1 => ∃ a, vs = [.ref a] ∧ (∃ xs, SqL K H1 a xs) ∧ R (Ite K a) H1
theorem pi_enum {a : Expr} {ta : TA} {p pos tpos : Pos} {elts : List Expr} {x1 : Nat} (hg : Gl X "enumerate") (hm : X.mg "enumerate" = none) (ha : PA X [a] ta) (hn : notStar a = true) : PI X (.Tuple elts x1 tpos) (.Call (.Name "enumerate" p) [a] [] pos) (iEnum X.K ta) := by
  intro pins s σ H R I h
  refine Call_ (ld_blt I hg hm boot_enumerate (PyProof.Rows.callWith_type1 (thn (ha pos pins s σ H _ I h) fun us s1 ⟨vs, H1, I1, r1, q1⟩ => ?_) (star_cons hn) rfl))
  obtain ⟨l, e, ⟨xs, hq⟩, q⟩ := q1
  subst e
  cases r1 with
  | cons r rr =>
    cases rr
    cases (show _ = Value.ref l from r)
    obtain ⟨its, rv, pl, hz⟩ := I1.list hq
    refine call_enumerate_list pl.isList fun h' he st sz k => ?_
    refine wpAny_pyIter_enum (s := { s1 with heap := h' }) he ?_
    refine ⟨s1.heap.objs.size + 1, [s1.heap.objs.size + 1, s1.heap.objs.size], _, _, H1, rfl, I1.kept (t' := s1.toks) k, turn_enum l _ _ (Nat.succ_ne_self _), ⟨_, he, st⟩, fun b hb => ?_, q⟩
    rcases List.mem_cons.mp hb with rfl | hb
    · exact I1.fpOk (Nat.le_succ _) (I1.hok.fresh (Nat.le_succ _))
    · cases List.mem_singleton.mp hb
      exact I1.fpOk (Nat.le_refl _) (I1.hok.fresh (Nat.le_refl _))
end
theorem ForW.enum {K : PySem.W.Frag} {a : Addr} {xs : List V} {g : TG} {tb : TS} {D : Ends} {σ : St} {H : Hp} (Pv : Nat → St → Hp → Prop) (h0 : Pv 0 σ H) (hl : ∀ i σ H, Pv i σ H → SqL K H a xs)
    (hs : ∀ (i : Nat) x σ H p, xs[i]? = some x → Pv i σ H → H p = none → g (.ref p) σ (upd H p (.tup [.int i, x])) fun σ2 H2 => tb { D with nx := Pv (i + 1), ct := Pv (i + 1), bk := D.nx } σ2 H2)
    (hd : ∀ σ H, Pv xs.length σ H → D.nx σ H) : ForW (Ite K a) g tb D σ H := by
  refine ⟨fun i m σ H => Pv i σ H ∧ i ≤ xs.length ∧ m = xs.length - i, ⟨_, h0, Nat.zero_le _, rfl⟩, fun i m σ H ⟨h1, h2, h3⟩ => ?_⟩
  have sq := hl i σ H h1
  by_cases e : i = xs.length
  · subst e
    exact .inl ⟨⟨xs, sq, Nat.le_refl _⟩, hd σ H h1⟩
  · have lt : i < xs.length := Nat.lt_of_le_of_ne h2 e
    refine .inr ⟨⟨xs, xs[i], sq, List.getElem?_eq_getElem lt⟩, Pv (i + 1), fun σ' H' z => ⟨xs.length - (i + 1), by omega, z, lt, rfl⟩, fun x H' hy => ?_⟩
    obtain ⟨p, x', hp, rfl, hx, rfl⟩ := hy
    exact hs i x' σ H p (hx xs sq) h1 hp
end L2
set_option maxHeartbeats 4000000
namespace L2
open PySem PySem.Spec PyProof.Rows
section
variable {prog : Program} {w : World} {A : Around} {E : Value → Shared → Prop} {s : Shared} {T : String} {r d : Addr} {n : Nat} {P : Nat → Value → Prop} {OK : Heap → Prop}
theorem proto_src {R : Result → Shared → Prop} (K : PySem.W.KdlSrc prog w T r d n P OK) (hh : A.handled = none) (hok : OK s.heap) (hn : n ≤ sizeLine)
    (hR : ∀ h' tk acc' c', (∀ b o, s.heap.get? b = some o → h'.get? b = some o) → h'.get? s.heap.objs.size = some { cls := .type "list", dict := none, data := .seq acc' c', slots := #[] } → ItemsOf P acc' n → R (.ok (.ret (.ref s.heap.objs.size))) { s with heap := h', toks := tk }) :
    codeAny (model prog w) A (.builtin "proto.collect" ⟨[.ref r], []⟩) R s := by
  refine codeAny_builtin PySem.F.entry_proto_collect ?_
  rw [Around.under_plainId PySem.F.plain_proto_collect _]
  show wpAny _ A.in1 (newList [] >>= fun l => again (.builtin "list.__iadd__" ⟨[l, .ref r], []⟩)) _ _ s
  refine wpAny_bind (wpAny_newObj_type ?_)
  refine wpAny_pure ⟨plainId_quiet PySem.F.plain_list_iadd _, codeAny_builtin PySem.F.entry_list_iadd ?_⟩
  rw [Around.under_plainId PySem.F.plain_list_iadd _]
  have hlt := K.there _ hok
  have hS : (s.heap.push { cls := .type "list", data := .seq ([] : List Value).toArray }).get? s.heap.objs.size = some { cls := .type "list", data := .seq #[] 0 } := Heap.get?_push_size _ rfl
  show wpAny _ A.in1 (Builtin.List.listExtendWith (.ref s.heap.objs.size) (.ref r) (.ref s.heap.objs.size)) _ _ _
  exact PySem.W.kdl_extend (s := { s with heap := s.heap.push { cls := .type "list", data := .seq ([] : List Value).toArray } }) (A := A) K hh (K.keep _ _ hok fun b _ o e => Heap.get?_push_of_some _ e) s.heap.objs.size (Nat.ne_of_gt hlt.1) (Nat.ne_of_gt hlt.2) (.ref s.heap.objs.size) 0 hS
    (fun h' tk acc' c' hk hS' hacc => hR h' tk acc' c' (fun b o e => hk b o (Nat.ne_of_lt (Heap.lt_size e)) (Heap.get?_push_of_some _ e)) hS' hacc) hn
theorem collect_src {Q : List Value → Shared → Prop} (K : PySem.W.KdlSrc prog w T r d n P OK) (hh : A.handled = none) (hok : OK s.heap) (hn : n ≤ sizeLine)
    (hQ : ∀ h' tk acc', (∀ b o, s.heap.get? b = some o → h'.get? b = some o) → s.heap.objs.size < h'.objs.size → ItemsOf P acc' n → Q acc'.toList { s with heap := h', toks := tk }) : wpAny (model prog w) A (collect (.ref r)) Q E s := by
  unfold collect
  refine wpAny_bind (wpAny_runValue (proto_src K hh hok hn fun h' tk acc' c' hk hS' hacc => ?_))
  show wpAny _ A (load s.heap.objs.size >>= _) _ _ _
  refine wpAny_bind (wpAny_load hS' ?_)
  exact wpAny_pure (hQ h' tk acc' hk (Heap.lt_size hS') hacc)
end
end L2
namespace L2
open PySem PySem.Spec PyProof.Rows
theorem ints_of_ix : ∀ {us : List Value} {ks : List Int}, us.length = ks.length → (∀ (i : Nat) v k, us[i]? = some v → ks[i]? = some k → ∃ t, v = Value.int k t) → IntsAre us ks
  | [], [], _, _ => .nil
  | [], _ :: _, h, _ => by cases h
  | _ :: _, [], h, _ => by cases h
  | u :: us, k :: ks, h, f => by
    obtain ⟨t, rfl⟩ := f 0 u k rfl rfl
    exact .cons k t (ints_of_ix (by simpa using h) fun i v k' a b => f (i + 1) v k' (by simpa using a) (by simpa using b))
theorem vals_of_ints : ∀ {us : List Value} {ks : List Int}, IntsAre us ks → Vals (ks.map V.int) us
  | _, _, .nil => .nil
  | _, _, .cons _ _ t => .cons ⟨_, rfl⟩ (vals_of_ints t)
section
variable {X : Cx}
noncomputable def rSortD : List V → Hp → VK → Prop := fun xs H Q => ∃ d kvs, ∃ ks : List Int, xs = [.ref d] ∧ H d = some (.dK kvs) ∧ kvs.map (·.1) = ks.map Sum.inl ∧ kvs.length < 64 ∧
  ∀ p, ∀ ms : List Int, H p = none → ms.Perm ks → ms.Pairwise (· ≤ ·) → Q (.ref p) (upd H p (.lst (ms.map V.int)))
end
end L2
set_option maxHeartbeats 4000000
namespace L2
open PySem PySem.Spec PyProof.Rows
open AutoSeq1 (wpAny_loadPart')
section
variable {prog : Program} {w : World} {A : Around} {E : Value → Shared → Prop} {s : Shared}
end
end L2
namespace L2
open PySem PySem.Spec PyProof.Rows
section
variable {X : Cx}
noncomputable def rDPop : V → List V → Hp → VK → Prop := fun x vs H Q => ∃ d kvs k v, x = .ref d ∧ vs = [kV k] ∧ H d = some (.dK kvs) ∧ valV kvs k = some v ∧ Q v (upd H d (.dK (dropK kvs k)))
end
end L2
set_option maxHeartbeats 4000000
namespace L2
open PySem PySem.Spec PyProof.Rows
section
variable {X : Cx}
noncomputable def rRng : List V → Hp → VK → Prop := fun xs H Q => ∃ n : Int, xs = [.int n] ∧ -(2 ^ 62) ≤ n ∧ n < 2 ^ 62 ∧ ∀ p, H p = none → Q (.ref p) (upd H p (.rng 0 n))
theorem call_rng : CallR X (.type "range") rRng := by
  intro pins s σ H xs us Q I r h
  obtain ⟨n, rfl, q1, q2, q⟩ := h
  obtain ⟨u, rfl, ru⟩ := vals1 r
  obtain ⟨t, rfl⟩ := ru
  refine call_range_1 ?_
  exact ⟨.ref s.heap.objs.size, upd H s.heap.objs.size (.rng 0 n), I.laid (fun b o e => Heap.get?_push_of_some _ e) (Nat.le_refl _) (show ObjOk X.prog X.w _ _ _ (.rng 0 n) from ⟨_, _, _, Heap.get?_push_size _ rfl⟩), rfl, q _ (I.hok.fresh (Nat.le_refl _))⟩
noncomputable def rListRng : List V → Hp → VK → Prop := fun xs H Q => ∃ p, ∃ n : Nat, xs = [.ref p] ∧ H p = some (.rng 0 n) ∧ n ≤ 1000 ∧ ∀ l, H l = none → Q (.ref l) (upd H l (.lst ((List.range n).map fun (i : Nat) => V.int i)))
theorem call_listRng (hc : X.calm = true) : CallR X (.type "list") rListRng := by
  intro pins s σ H xs us Q I r h
  obtain ⟨p, n, rfl, hp, hn, q⟩ := h
  obtain ⟨u, rfl, ru⟩ := vals1 r
  cases ru
  obtain ⟨t, t', t'', e⟩ := I.hok p _ hp
  refine call_list_range (n := n) (I.ok.hd hc) e (small_one (by decide) (by decide) (by omega) (by omega)) (by rw [rangeSize_one]; split <;> omega) (by omega) fun h' tk acc c' hk hl hacc => ?_
  refine ⟨.ref s.heap.objs.size, upd H s.heap.objs.size (.lst ((List.range n).map fun (i : Nat) => V.int i)), I.laid (t' := tk) hk (Nat.le_refl _) (show ObjOk X.prog X.w _ h' _ (.lst _) from ⟨by rw [List.length_map, List.length_range, sizeLine_eq]; omega, acc.toList, c', ?_, by rw [Array.toArray_toList]; exact hl⟩), rfl, q _ (I.hok.fresh (Nat.le_refl _))⟩
  have e1 : (List.range n).map (fun (i : Nat) => V.int i) = ((List.range n).map fun (i : Nat) => (i : Int)).map V.int := by rw [List.map_map]; rfl
  rw [e1]
  refine vals_of_ints (ints_of_ix (by rw [Array.length_toList, hacc.1, List.length_map, List.length_range]) fun i v k hv hki => ?_)
  obtain ⟨tt, ev⟩ := hacc.2 i v (by rw [← Array.getElem?_toList]; exact hv)
  have hil := (List.getElem?_eq_some_iff.mp hki).1
  rw [List.length_map, List.length_range] at hil
  rw [List.getElem?_map, List.getElem?_range hil] at hki
  have : (i : Int) = k := by simpa using hki
  refine ⟨tt, ?_⟩
  rw [ev, ← this]
  simp
end
end L2
namespace L2
open PySem PySem.Spec PyProof.Rows
theorem bt_range : bootBuiltins "range" = some (.type "range") := by decide +kernel
section
variable {X : Cx} {k : Nat} {f C : Addr} {fd : FuncData} {ps : List Str} {sp : Sp} {x m : Str} {p pos apos : Pos} {e o : Expr} {es : List Expr} {ta : TE} {t : TA}
end
end L2
set_option maxHeartbeats 4000000
namespace L2
open PySem PySem.Spec PyProof.Rows
section
variable {X : Cx}
noncomputable def rIndexS (K : PySem.W.Frag) : V → List V → Hp → VK → Prop := fun x vs H Q => ∃ l, ∃ ns : List Str, ∃ z, ∃ j : Nat, x = .ref l ∧ vs = [.str z] ∧ SqL K H l (ns.map V.str) ∧ ns[j]? = some z ∧ (∀ m, m < j → ns[m]? ≠ some z) ∧ Q (.int j) H
end
end L2
set_option maxHeartbeats 4000000
namespace L2
open PySem PySem.Spec PyProof.Rows
section
variable {M : Model} {A : Around} {E : Value → Shared → Prop} {s : Shared} {Q : Unit → Shared → Prop} {base : Heap} {env : Env} {outer : List Env} {L e : Addr} {C : Value} {ed : Option Addr} {G : Heap} {H : Hp}
end
section
variable {X : Cx} {k : Nat} {f C : Addr} {fd : FuncData} {ps : List Str} {sp : Sp} {x m : Str} {p pos apos : Pos} {e o : Expr} {es : List Expr} {ta : TE} {t : TA} {E : XK}
end
section
variable {X : Cx} {pins : List (Addr × Obj)} {σ : St} {H : Hp} {s : Shared} {W : Value → Shared → Prop}
end
section
variable {X : Cx} {pins : List (Addr × Obj)} {σ : St} {H2 : Hp} {s2 : Shared} {scope : Scope} {own rest : List Str} {cl : List (Str × Addr)} {fp : List Addr} {E : Value → Shared → Prop}
end
section
variable {X : Cx} {pins : List (Addr × Obj)} {σ : St} {H2 : Hp} {s2 : Shared} {scope : Scope} {N' : List Str} {cl : List (Str × Addr)} {fp : List Addr} {C : Addr} {EX : XK} {use : Option (Value → Sem Unit)} {QQ : Value → Shared → Prop} {acc : Value}
end
section
variable {X : Cx} {elt tg iter : Expr} {ifs : List Expr} {scope : Scope} {pos : Pos} {wi : TI} {g : TG} {tt : TT} {te : TE} {EX : XK}
end
end L2
set_option maxHeartbeats 4000000
namespace L2
open PySem PySem.Spec PyProof.Rows
section
variable {prog : Program} {w : World} {A : Around} {R : Result → Shared → Prop} {I : Addr} {fp wr : List Addr} {G : Array GenState → Array GenState → Prop} {n : Nat} {P : Nat → Value → Prop} {St : Nat → Shared → Prop}
variable {α : Type} [DecidableEq α] [BEq α] [LawfulBEq α] {knd : PySem.KeyKind prog w α}
end
section
variable {prog : Program} {w : World} {A : Around} {E : Value → Shared → Prop} {s : Shared}
set_option maxHeartbeats 3200000 in
variable {α : Type} [DecidableEq α] [BEq α] [LawfulBEq α] {knd : PySem.KeyKind prog w α}
end
end L2
set_option maxHeartbeats 4000000
namespace L2
open PySem PySem.Spec PyProof.Rows
section
variable {X : Cx}
end
end L2
set_option maxHeartbeats 4000000
namespace L2
open PySem PySem.Spec PyProof.Rows
section
variable {X : Cx}
end
end L2
set_option maxHeartbeats 4000000
namespace L2
open PySem PySem.Spec PyProof.Rows
section
variable {X : Cx}
noncomputable def tStop : TS := fun _ _ _ => False
end
end L2
set_option maxHeartbeats 4000000
namespace L2
open PySem PySem.Spec PyProof.Rows
section
variable {X : Cx}
end
section
variable {X : Cx}
end
end L2
set_option maxHeartbeats 4000000
namespace L2
open PySem PySem.Spec PyProof.Rows
section
variable {prog : Program} {w : World} {A : Around} {E : Value → Shared → Prop} {s : Shared}
end
section
variable {prog : Program} {w : World} {A : Around} {R : Result → Shared → Prop} {I : Addr} {fp wr : List Addr} {G : Array GenState → Array GenState → Prop} {n : Nat} {P : Nat → Value → Prop} {St : Nat → Shared → Prop}
variable {α : Type} [DecidableEq α] {knd : PySem.KeyKind prog w α}
end
section
variable {prog : Program} {w : World} {A : Around} {E : Value → Shared → Prop} {s : Shared} {α : Type} [DecidableEq α] {knd : PySem.KeyKind prog w α}
end
section
variable {X : Cx}
end
end L2
set_option maxHeartbeats 4000000
namespace HT
open PySem PySem.Spec PyProof.Rows L2
end HT
namespace L2
open PySem PySem.Spec PyProof.Rows HT
section
variable {prog : Program} {w : World} {A : Around} {E : Value → Shared → Prop} {s : Shared}
end
section
variable {X : Cx}
end
end L2
set_option maxHeartbeats 4000000
namespace L2
open PySem PySem.Spec PyProof.Rows
section
variable {prog : Program} {w : World} {A : Around} {R : Result → Shared → Prop} {I : Addr} {fp wr : List Addr} {n : Nat} {P : Nat → Value → Prop} {St : Nat → Heap → Prop}
end
section
variable {prog : Program} {w : World} {A : Around} {E : Value → Shared → Prop} {s : Shared}
end
section
variable {prog : Program} {w : World} {A : Around} {R : Result → Shared → Prop} {I : Addr} {fp wr : List Addr} {n : Nat} {P : Nat → Value → Prop} {St : Nat → Heap → Prop}
end
section
variable {prog : Program} {w : World} {A : Around} {E : Value → Shared → Prop} {s : Shared}
end
end L2
set_option maxHeartbeats 4000000
namespace L2
open PySem PySem.Spec PyProof.Rows
noncomputable def gtV : V → V → Bool
  | .int i, .int j => decide (j < i)
  | .str a, .str b => decide (b.cps.toList < a.cps.toList)
  | _, _ => false
section
variable {X : Cx}
noncomputable def rBest (K : PySem.W.Frag) (better : V → V → Bool) : List V → V → Hp → VK → Prop := fun xs d H Q => ∃ l ys, xs = [.ref l] ∧ SqL K H l ys ∧ ((∃ zs : List Int, ys = zs.map V.int) ∨ ∃ zs : List Str, ys = zs.map V.str) ∧ (ys = [] → Q d H) ∧ ∀ v, v ∈ ys → (∀ u ∈ ys, better u v = false) → Q v H
noncomputable def tBest (K : PySem.W.Frag) (better : V → V → Bool) (ta : TA) (te : TE) : TE := fun σ H Q => ta σ H fun vs H1 => te σ H1 fun d H2 => rBest K better vs d H2 Q
end
end L2
set_option maxHeartbeats 4000000
namespace L2
open PySem PySem.Spec PyProof.Rows
section
variable {X : Cx}
noncomputable def tRev (K : PySem.W.Frag) (te ts : TE) : TE := fun σ H Q => te σ H fun x H1 => ts σ H1 fun y H2 => y = .int (-1) ∧ ∃ a xs, x = .ref a ∧ SqL K H2 a xs ∧ ∀ p, H2 p = none → Q (.ref p) (upd H2 p (.lst xs.reverse))
theorem pe_rev {e st : Expr} {te ts : TE} {p2 pos : Pos} {K : PySem.W.Frag} (hK : X.K = K) (he : PE X e te) (ht : PE X st ts) : PE X (.Subscript e (.Slice none none (some st) p2) pos) (tRev K te ts) := by
  subst hK
  intro pins s σ H Q I h
  refine Subscript_ (thn (he pins s σ H _ I h) fun v s1 ⟨x, H1, I1, r1, q1⟩ => ?_)
  refine wpAny_Slice ?_
  rw [evalPart_none]
  refine wpAny_pure (wpAny_pure ?_)
  rw [evalPart_some]
  refine thn (ht pins s1 σ H1 _ I1 q1) fun u s2 ⟨y, H2, I2, r2, hy, a, xs, hx, hq, q⟩ => ?_
  subst hy hx
  obtain ⟨t, rfl⟩ := r2
  cases (show v = Value.ref a from r1)
  have I4 : Inv X pins σ H2 { s2 with heap := s2.heap.push { cls := .type "slice", data := .fields #[.none, .none, .int (-1) t] } } := I2.kept (t' := s2.toks) fun b ob q => Heap.get?_push_of_some _ q
  obtain ⟨its, r, pl, hz⟩ := I4.list hq
  have hlen := r.length
  show wpAny (model X.prog X.w) X.A (subscriptTail e (.Slice none none (some st) p2) (.ref a) (.ref s2.heap.objs.size)) (EP X pins σ Q) X.xe { s2 with heap := s2.heap.push { cls := .type "slice", data := .fields #[.none, .none, .int (-1) t] } }
  refine tail_any (ops := [.ref a, .ref s2.heap.objs.size]) (T := "list") pl.isList.typeIs slot_list_getitem.lookup ?_ (by with_unfolding_all rfl)
  refine wpAny_getItem_list_slice pl.isList (Heap.IsSliceOf.new ..) .none .none (.int (-1) t) (by decide) ?_ (by rw [List.size_toArray] <;> omega)
  rw [PySem.W.krv_pick]
  refine ⟨.ref _, _, I4.laid (t' := s2.toks) (o := .lst xs.reverse) (fun b ob q => Heap.get?_push_of_some _ q) (Nat.le_refl _) ?_, rfl, q _ (I4.hok.fresh (Nat.le_refl _))⟩
  exact ⟨by rw [List.length_reverse]; exact hz, _, 0, r.reverse, Heap.get?_push_size _ rfl⟩
noncomputable def sameK : V → V → Bool
  | .int _, .int _ => true
  | .str _, .str _ => true
  | _, _ => false
noncomputable def rGtA : R2 := fun x y H Q => sameK x y = true ∧ Q (.bl (gtV x y)) H
end
end L2
set_option maxHeartbeats 4000000
namespace L2
open PySem PySem.Spec PyProof.Rows
section
variable {X : Cx}
noncomputable def rInD (K : PySem.W.Frag) (neg : Bool) : R2 := fun x y H Q => ∃ d es, Rep K H d x ∧ Rep K H (.list es) y ∧ SeqAt.shaped d = true ∧ SeqAt.shaped (.list es) = true ∧ Q (.bl (if neg then !es.any (fun e => PyData.eqv e d) else es.any (fun e => PyData.eqv e d))) H
theorem shaped_lay {d : PyData} (h : SeqAt.shaped d = true) : d.canLay0 = true ∧ d.depth ≤ 64 := by
  unfold SeqAt.shaped at h
  rw [Bool.and_eq_true] at h
  exact ⟨h.1, by have := of_decide_eq_true h.2; omega⟩
theorem op_inD (hu : X.A.units + 64 < cLine) : OpR X (compareOp .In) (rInD X.K false) := by
  intro pins s σ H x y v u Q I rx ry h
  obtain ⟨d, es, h1, h2, h3, h4, q⟩ := h
  obtain ⟨as, q1⟩ := Rep.reads I d x v h1 rx
  obtain ⟨bs, q2⟩ := Rep.reads I _ y u h2 ry
  have l1 := shaped_lay h3
  have l2 := shaped_lay h4
  have l3 : PyData.canLayAll0 es = true := by simpa [PyData.canLay0] using l2.1
  refine SeqAt.in_list_reads q2 q1 l3 l1.1 ?_ (fin_bl I q rfl)
  have := Nat.min_le_left (PyData.depthAll es) d.depth
  have l5 : PyData.depthAll es + 1 ≤ 64 := by simpa [PyData.depth] using l2.2
  omega
theorem op_notInD (hu : X.A.units + 64 < cLine) : OpR X (compareOp .NotIn) (rInD X.K true) := by
  intro pins s σ H x y v u Q I rx ry h
  obtain ⟨d, es, h1, h2, h3, h4, q⟩ := h
  obtain ⟨as, q1⟩ := Rep.reads I d x v h1 rx
  obtain ⟨bs, q2⟩ := Rep.reads I _ y u h2 ry
  have l1 := shaped_lay h3
  have l2 := shaped_lay h4
  have l3 : PyData.canLayAll0 es = true := by simpa [PyData.canLay0] using l2.1
  refine SeqAt.notIn_list_reads q2 q1 l3 l1.1 ?_ (fin_bl I q rfl)
  have := Nat.min_le_left (PyData.depthAll es) d.depth
  have l5 : PyData.depthAll es + 1 ≤ 64 := by simpa [PyData.depth] using l2.2
  omega
theorem k_inD {K : PySem.W.Frag} (e : X.K = K) (hu : X.A.units + 64 < cLine) : OpR X (compareOp .In) (rInD K false) := by subst e; exact op_inD hu
theorem k_notInD {K : PySem.W.Frag} (e : X.K = K) (hu : X.A.units + 64 < cLine) : OpR X (compareOp .NotIn) (rInD K true) := by subst e; exact op_notInD hu
end
end L2
set_option maxHeartbeats 4000000
namespace L2
open PySem PySem.Spec PyProof.Rows
section
variable {α β : Type} {R S : α → β → Prop} {xs : List α} {ys : List β}
end
end L2
set_option maxHeartbeats 4000000
namespace L2
open PySem PySem.Spec PyProof.Rows
section
variable {X : Cx}
end
structure ExcM (mg : Str → Option Value) (n : Str) (a : Addr) : Prop where
  m : mg n = some (.ref a)
end L2
set_option maxHeartbeats 4000000
namespace L2
open PySem PySem.Spec PyProof.Rows PySem.W
section
variable {n : Nat}
end
section
variable {prog : Program} {w : World} {A : Around} {E : Value → Shared → Prop} {s : Shared}
end
section
variable {X : Cx}
end
end L2
set_option maxHeartbeats 4000000
namespace L2
open PySem PySem.Spec PyProof.Rows PySem.W
end L2
set_option maxHeartbeats 4000000
namespace L2
open PySem PySem.Spec PyProof.Rows PySem.W
section
variable {prog : Program} {w : World} {A : Around} {E : Value → Shared → Prop} {s : Shared}
end
section
variable {X : Cx} {pins : List (Addr × Obj)} {σ : St} {H : Hp} {s : Shared} {E : Value → Shared → Prop}
end
end L2
set_option maxHeartbeats 4000000
namespace L2
open PySem PySem.Spec PyProof.Rows PySem.W
section
variable {prog : Program} {w : World} {A : Around} {E : Value → Shared → Prop} {s : Shared}
end
section
variable {X : Cx} {pins : List (Addr × Obj)} {σ : St} {H : Hp} {s : Shared} {E : Value → Shared → Prop}
theorem Inv.turnedL {h' : Heap} {t' : Nat} {ch : List Addr} (I : Inv X pins σ H s) (k : ∀ b o, b ∉ ch → s.heap.get? b = some o → h'.get? b = some o) (f : ∀ b ∈ ch, FpOk X pins H b) : Inv X pins σ H { s with heap := h', toks := t' } := by
  have nit : ∀ b u, H b = some u → b ∉ ch := fun b u e z => by rw [(f b z).1] at e; cases e
  refine I.step (g' := s.gens) (d' := s.drawn) (ch := ch) (fun b hb => ?_) (fun b o _ _ hc e _ => k b o hc e) (fun b o _ _ hc e _ => ⟨o.slots, k b o hc e⟩) (fun _ _ _ _ n => n)
    (fun b o hc e => ⟨o, k b o hc e⟩) (fun _ _ e => e) (fun _ _ _ e => e) (fun b ps e => ⟨#[], by rw [e]; simp⟩) (fun m hm => ?_) (fun b u e => ?_) I.bare
  · obtain ⟨_, h1, _, h3, h4, h5⟩ := f b hb
    exact ⟨h3, h1, h4, h5⟩
  · obtain ⟨o, es, ep, ho, r⟩ := hm
    exact ⟨o, es, ep, k _ o (fun z => (f _ z).2.1 rfl) ho, r⟩
  · refine (I.hok b u e).stay (fun c v hc q => k c v ?_ q) (fun _ q => q) fun _ _ q => q
    rcases hc with z | z
    · rw [z]; exact nit b u e
    · exact nit c _ z
end
end L2
namespace L2
open PySem PySem.Spec PyProof.Rows
open AutoSeq1 (wpAny_loadPart')
open MeetsSeq MeetsSeq2 MeetsSeq3 SeqRoads2
noncomputable def LtAt (A : Around) (s : Shared) (x y : Value) (r : Bool) : Prop := ∀ (prog : Program) (w : World) (E : Value → Shared → Prop) (Q : Value → Shared → Prop), Q (.bool r) s → wpAny (model prog w) A (richCompare .Lt x y) Q E s
inductive LexAt (A : Around) (s : Shared) : List Value → List Value → Bool → Prop
  | nn : LexAt A s [] [] false
  | nc {y ys} : LexAt A s [] (y :: ys) true
  | cn {x xs} : LexAt A s (x :: xs) [] false
  | ne {x y xs ys r} : SeqAt.EqAt A s x y false → LtAt A s x y r → LexAt A s (x :: xs) (y :: ys) r
  | eq {x y xs ys r} : SeqAt.EqAt A s x y true → LexAt A s xs ys r → LexAt A s (x :: xs) (y :: ys) r
theorem tuple_ltAt (l b : Addr) (its its2 : Array Value) (n n2 : Nat) (dd dd2 : Option Addr) (sl sl2 : Array (Option Value)) (r : Bool) :
    Meets (Builtin.«tuple.__lt__» ⟨[.ref l, .ref b], []⟩)
      (fun A R s => s.heap.get? l = some { cls := .type "tuple", dict := dd, data := .seq its n, slots := sl } ∧ s.heap.get? b = some { cls := .type "tuple", dict := dd2, data := .seq its2 n2, slots := sl2 } ∧
        LexAt A.in1 s its.toList its2.toList r ∧ R (.ok (.ret (.bool r))) s) :=
  .of_wp fun prog w A R s h => by
    obtain ⟨hp, g, d, tk, os⟩ := s; obtain ⟨hl, hb, he, h⟩ := h
    have f2 := AutoSeq1.sub_tuple_tuple
    wp_walk using wpAny_loadPart' hl, wpAny_loadPart' hb, wpAny_forIn_list _ (fun rest b s' => b.1 = none ∧ s' = ⟨hp, g, d, tk, os⟩ ∧ ∃ i xs ys, rest = xs.zip ys ∧ its.size = i + xs.length ∧ its2.size = i + ys.length ∧ LexAt A.in1 ⟨hp, g, d, tk, os⟩ xs ys r) _
    case turn =>
      rintro ⟨x, y⟩ rest b s' ⟨hb', rfl, i, xs, ys, hz, z1, z2, hx⟩
      cases hx with
      | nn => cases hz
      | nc => cases hz
      | cn => cases hz
      | ne e1 e2 =>
        rw [List.zip_cons_cons] at hz
        injection hz with h1 h2
        injection h1 with h3 h4
        subst h3 h4
        refine wpAny_bind (e1 prog w _ _ ?_)
        have e3 := e2 prog w
        generalize richCompare CmpOp.Lt x y = rc at e3 ⊢
        wp_walk
        refine e3 _ _ ?_
        wp_walk
        exact ⟨_, rfl, h⟩
      | eq e1 e2 =>
        rw [List.zip_cons_cons] at hz
        injection hz with h1 h2
        injection h1 with h3 h4
        subst h3 h4
        refine wpAny_bind (e1 prog w _ _ ?_)
        wp_walk
        exact ⟨rfl, rfl, i + 1, _, _, h2, by simp at z1; omega, by simp at z2; omega, e2⟩
    case fin =>
      rintro ⟨b1, b2⟩ s' ⟨hb', rfl, i, xs, ys, hz, z1, z2, hx⟩
      simp only at hb'
      subst hb'
      wp_walk
      have e : Builtin.Tuple.tupleCompareSizes .Lt its.size its2.size = .bool r := by
        show Value.bool (decide (its.size < its2.size)) = _
        cases hx with
        | nn => rw [decide_eq_false (by simp at z1 z2; omega)]
        | nc => rw [decide_eq_true (by simp at z1 z2; omega)]
        | cn => rw [decide_eq_false (by simp at z1 z2; omega)]
        | ne => cases hz
        | eq => cases hz
      first
        | exact ⟨_, rfl, by rw [e]; exact h⟩
        | (rw [e]; exact ⟨_, rfl, h⟩)
    case h =>
      exact ⟨rfl, rfl, 0, _, _, rfl, by simp, by simp, he⟩
noncomputable def ltS : V → V → Option Bool
  | .int i, .int j => some (decide (i < j))
  | .str a, .str b => some (decide (a.cps.toList < b.cps.toList))
  | _, _ => none
noncomputable def lexV : List V → List V → Option Bool
  | [], [] => some false
  | [], _ :: _ => some true
  | _ :: _, [] => some false
  | x :: xs, y :: ys => match ltS x y with
    | none => none
    | some r => if x = y then lexV xs ys else some r
theorem ltS_at {A : Around} {s : Shared} {x y : V} {u v : Value} {r : Bool} (h : ltS x y = some r) (rx : RelV x u) (ry : RelV y v) : SeqAt.EqAt A s u v (decide (x = y)) ∧ LtAt A s u v r := by
  cases x <;> cases y <;> first
    | (cases (show none = some r from h); done)
    | skip
  · rename_i i j
    obtain ⟨t, rfl⟩ := rx
    obtain ⟨t', rfl⟩ := ry
    cases h
    refine ⟨?_, fun prog w E Q q => HT.rcLt_int _ _ _ _ _ _ _ _ _ _ q⟩
    rw [dec_int]
    exact SeqAt.EqAt.int_int _ _ _ _
  · rename_i i j
    obtain ⟨t, rfl⟩ := rx
    obtain ⟨t', rfl⟩ := ry
    cases h
    refine ⟨?_, fun prog w E Q q => lt_str q⟩
    rw [dec_str]
    exact SeqAt.EqAt.str_str _ _ _ _
theorem lexV_at {A : Around} {s : Shared} : ∀ {xs ys : List V} {us vs : List Value} {r : Bool}, Vals xs us → Vals ys vs → lexV xs ys = some r → LexAt A s us vs r
  | [], [], _, _, _, .nil, .nil, h => by cases h; exact .nn
  | [], _ :: _, _, _, _, .nil, .cons _ _, h => by cases h; exact .nc
  | _ :: _, [], _, _, _, .cons _ _, .nil, h => by cases h; exact .cn
  | x :: xs, y :: ys, _, _, r, .cons rx t, .cons ry t', h => by
    unfold lexV at h
    split at h
    · cases h
    · rename_i r' e
      obtain ⟨h1, h2⟩ := ltS_at (A := A) (s := s) e rx ry
      split at h
      · rename_i exy
        rw [decide_eq_true exy] at h1
        exact .eq h1 (lexV_at t t' h)
      · rename_i exy
        rw [decide_eq_false exy] at h1
        cases h
        exact .ne h1 h2
section
variable {X : Cx}
end
end L2
set_option maxHeartbeats 4000000
namespace L2
open PySem PyProof.Rows
section
variable {M : Model} {A : Around} {E : Value → Shared → Prop} {s : Shared} {τ α : Type} {c : Prop} [Decidable c] {a b : StateT τ Sem α} {Q : α → τ → Prop} {st : τ}
theorem wpS_yes (h : c) (q : wpS M A E s a Q st) : wpS M A E s (if c then a else b) Q st := by rw [if_pos h]; exact q
theorem wpS_no (h : ¬ c) (q : wpS M A E s b Q st) : wpS M A E s (if c then a else b) Q st := by rw [if_neg h]; exact q
end
structure Held (T : Prop) : Prop where
  out : T
theorem both {T R : Prop} (f : Held T → R) (t : T) : R := f ⟨t⟩
noncomputable abbrev Up (rk : Value → Nat) (l : List Keyed) : Prop := l.Pairwise fun x y => rk x.1 ≤ rk y.1
structure MLo (rk : Value → Nat) (la lb o : List Keyed) (ia ib : Nat) : Prop where
  perm : (o ++ (la.drop ia ++ lb.drop ib)).Perm (la ++ lb)
  up : Up rk o
  low : ∀ x ∈ o, ∀ y ∈ la.drop ia ++ lb.drop ib, rk x.1 ≤ rk y.1
section
variable {rk : Value → Nat} {la lb o : List Keyed} {ia ib k : Nat}
theorem MLo.start : MLo rk la lb [] 0 0 := ⟨by simp, .nil, fun x h => nomatch h⟩
theorem MLo.chA (m : MLo rk la lb o ia ib) (ha : Up rk la) (h : ∀ x ∈ (la.drop ia).take k, ∀ y ∈ lb.drop ib, rk x.1 ≤ rk y.1) : MLo rk la lb (o ++ (la.drop ia).take k) (ia + k) ib := by
  have e : la.drop ia = (la.drop ia).take k ++ la.drop (ia + k) := by rw [← List.drop_drop]; exact (List.take_append_drop k _).symm
  have hd : Up rk ((la.drop ia).take k ++ la.drop (ia + k)) := by rw [← e]; exact List.Pairwise.sublist (List.drop_sublist _ _) ha
  obtain ⟨h1, h2, h3⟩ := List.pairwise_append.mp hd
  have mem : ∀ x, x ∈ (la.drop ia).take k → x ∈ la.drop ia := fun x hx => List.mem_of_mem_take hx
  refine ⟨?_, ?_, ?_⟩
  · have p := m.perm
    rw [e] at p
    simpa [List.append_assoc] using p
  · refine List.pairwise_append.mpr ⟨m.up, h1, fun x hx y hy => m.low x hx y (List.mem_append_left _ (mem y hy))⟩
  · intro x hx y hy
    rcases List.mem_append.mp hx with hx | hx
    · refine m.low x hx y ?_
      rcases List.mem_append.mp hy with hy | hy
      · rw [e]; exact List.mem_append_left _ (List.mem_append_right _ hy)
      · exact List.mem_append_right _ hy
    · rcases List.mem_append.mp hy with hy | hy
      · exact h3 x hx y hy
      · exact h x hx y hy
theorem MLo.chB (m : MLo rk la lb o ia ib) (hb : Up rk lb) (h : ∀ x ∈ (lb.drop ib).take k, ∀ y ∈ la.drop ia, rk x.1 ≤ rk y.1) : MLo rk la lb (o ++ (lb.drop ib).take k) ia (ib + k) := by
  have e : lb.drop ib = (lb.drop ib).take k ++ lb.drop (ib + k) := by rw [← List.drop_drop]; exact (List.take_append_drop k _).symm
  have hd : Up rk ((lb.drop ib).take k ++ lb.drop (ib + k)) := by rw [← e]; exact List.Pairwise.sublist (List.drop_sublist _ _) hb
  obtain ⟨h1, h2, h3⟩ := List.pairwise_append.mp hd
  have mem : ∀ x, x ∈ (lb.drop ib).take k → x ∈ lb.drop ib := fun x hx => List.mem_of_mem_take hx
  refine ⟨?_, ?_, ?_⟩
  · have p := m.perm
    rw [e] at p
    refine List.Perm.trans ?_ p
    rw [List.append_assoc]
    refine List.Perm.append_left _ ?_
    rw [← List.append_assoc, ← List.append_assoc]
    exact List.Perm.append_right _ List.perm_append_comm
  · exact List.pairwise_append.mpr ⟨m.up, h1, fun x hx y hy => m.low x hx y (List.mem_append_right _ (mem y hy))⟩
  · intro x hx y hy
    rcases List.mem_append.mp hx with hx | hx
    · refine m.low x hx y ?_
      rcases List.mem_append.mp hy with hy | hy
      · exact List.mem_append_left _ hy
      · rw [e]; exact List.mem_append_right _ (List.mem_append_right _ hy)
    · rcases List.mem_append.mp hy with hy | hy
      · exact h x hx y hy
      · exact h3 x hx y hy
noncomputable def Merged (rk : Value → Nat) (la lb l : List Keyed) : Prop := l.Perm (la ++ lb) ∧ Up rk l
theorem MLo.doneB (m : MLo rk la lb o ia ib) (ha : Up rk la) (hb : Up rk lb) (h : lb.length ≤ ib ∨ la.length ≤ ia) : Merged rk la lb (o ++ la.drop ia ++ lb.drop ib) := by
  rw [List.append_assoc]
  refine ⟨m.perm, List.pairwise_append.mpr ⟨m.up, ?_, m.low⟩⟩
  rcases h with h | h
  · rw [List.drop_eq_nil_of_le h, List.append_nil]; exact List.Pairwise.sublist (List.drop_sublist _ _) ha
  · rw [List.drop_eq_nil_of_le h, List.nil_append]; exact List.Pairwise.sublist (List.drop_sublist _ _) hb
theorem MLo.doneA (m : MLo rk la lb o ia ib) (ha : Up rk la) (hb : Up rk lb) (h : ∀ x ∈ lb, ∀ y ∈ la.drop ia, rk x.1 ≤ rk y.1) : Merged rk la lb (o ++ lb.drop ib ++ la.drop ia) := by
  rw [List.append_assoc]
  refine ⟨List.Perm.trans (List.Perm.append_left _ List.perm_append_comm) m.perm, List.pairwise_append.mpr ⟨m.up, ?_, fun x hx y hy => m.low x hx y ?_⟩⟩
  · exact List.pairwise_append.mpr ⟨List.Pairwise.sublist (List.drop_sublist _ _) hb, List.Pairwise.sublist (List.drop_sublist _ _) ha, fun x hx y hy => h x (List.mem_of_mem_drop hx) y hy⟩
  · rcases List.mem_append.mp hy with hy | hy
    · exact List.mem_append_right _ hy
    · exact List.mem_append_left _ hy
theorem take1 {l : List Keyed} {i : Nat} {p : Keyed} (h : l[i]? = some p) : (l.drop i).take 1 = [p] := by
  obtain ⟨hi, rfl⟩ := List.getElem?_eq_some_iff.mp h
  rw [List.drop_eq_getElem_cons hi]
  rfl
theorem up_from {l : List Keyed} {i : Nat} {p : Keyed} (u : Up rk l) (h : l[i]? = some p) : ∀ y ∈ l.drop i, rk p.1 ≤ rk y.1 := by
  obtain ⟨hi, rfl⟩ := List.getElem?_eq_some_iff.mp h
  have e := List.drop_eq_getElem_cons hi
  have u' : Up rk (l.drop i) := List.Pairwise.sublist (List.drop_sublist _ _) u
  intro y hy
  rw [e] at hy u'
  rcases List.mem_cons.mp hy with rfl | hy
  · exact Nat.le_refl _
  · exact (List.pairwise_cons.mp u').1 y hy
theorem mem_chunk {l : List Keyed} {i k : Nat} {x : Keyed} (h : x ∈ (l.drop i).take k) : ∃ j, j < k ∧ l[i + j]? = some x := by
  obtain ⟨j, hj⟩ := List.mem_iff_getElem?.mp h
  have hjk : j < k := by
    have := (List.getElem?_eq_some_iff.mp hj).1
    rw [List.length_take] at this
    omega
  rw [List.getElem?_take_of_lt hjk, List.getElem?_drop] at hj
  exact ⟨j, hjk, hj⟩
end
noncomputable def gallop' : Bool → Keyed → Array Keyed → Nat → Nat → Nat → StateT SortSt Sem (Option Nat) := sortPriv% PySem.Builtin.gallop
noncomputable def Cmp (prog : Program) (w : World) (A : Around) (s : Shared) (kd : SortKind) (D : Value → Prop) (rk : Value → Nat) : Prop :=
  ∀ (E : Value → Shared → Prop) (x y : Value) (Q : Bool → Shared → Prop), D x → D y → Q (decide (rk x < rk y)) s → wpAny (model prog w) A (keyLt' kd x y) Q E s
section
variable {prog : Program} {w : World} {A : Around} {E : Value → Shared → Prop} {s : Shared} {kd : SortKind} {D : Value → Prop} {rk : Value → Nat}
theorem tim_lt (C : Cmp prog w A s kd D rk) {st : SortSt} {x y : Keyed} {Q : Option Bool → SortSt → Prop} (hk : kindOf st = kd) (hx : D x.1) (hy : D y.1) (h : Q (some (decide (rk x.1 < rk y.1))) st) : wpS (model prog w) A E s (lt' x y) Q st := by
  rw [lt'_eq]
  refine wpS_bind (wpS_get ?_)
  rw [hk]
  exact wpS_bind (wpS_lift (wpAny_attempt (C _ _ _ _ hx hy ⟨rfl, wpS_pure h⟩)))
theorem tim_elem {arr : Array Keyed} {i : Nat} {p : Keyed} {st : SortSt} {Q : Keyed → SortSt → Prop} {M : Model} (hp : arr[i]? = some p) (h : Q p st) : wpS M A E s (elem' arr i) Q st := by
  rw [elem'_eq, hp]
  exact wpS_pure h
noncomputable def bey (rk : Value → Nat) (left : Bool) (key : Keyed) (arr : Array Keyed) (base i : Nat) : Bool :=
  match arr[base + i]? with
  | some p => if left then decide (rk p.1 < rk key.1) else !decide (rk key.1 < rk p.1)
  | none => false
theorem tim_gallop (C : Cmp prog w A s kd D rk) {st : SortSt} {left : Bool} {key : Keyed} {arr : Array Keyed} {base n hint : Nat} {Q : Option Nat → SortSt → Prop} (hk : kindOf st = kd) (hkey : D key.1) (hin : base + n ≤ arr.size) (hD : ∀ p ∈ arr.toList, D p.1) (hh : hint < n)
    (mono : ∀ i j, i ≤ j → j < n → bey rk left key arr base j = true → bey rk left key arr base i = true)
    (h : ∀ k, k ≤ n → (∀ i, i < k → bey rk left key arr base i = true) → (∀ i, k ≤ i → i < n → bey rk left key arr base i = false) → Q (some k) st) : wpS (model prog w) A E s (gallop' left key arr base n hint) Q st := by
  have ask : ∀ (i : Nat) (R : Option Bool → SortSt → Prop), i < n → R (some (bey rk left key arr base i)) st → wpS (model prog w) A E s (elem' arr (base + i) >>= fun x => if left then lt' x key else lt' key x >>= fun r => pure (r.map (!·))) R st := by
    intro i R hi hR
    have hlt : base + i < arr.size := by omega
    have e : arr[base + i]? = some arr[base + i] := getElem?_pos arr (base + i) hlt
    have d : D arr[base + i].1 := hD _ (by simp)
    refine wpS_bind (tim_elem e ?_)
    unfold bey at hR
    rw [e] at hR
    cases left with
    | true => exact tim_lt C hk d hkey hR
    | false => exact wpS_bind (tim_lt C hk hkey d (wpS_pure hR))
  unfold gallop'
  refine wpS_bind (ask hint _ hh ?_)
  have anti : ∀ i j, i ≤ j → j < n → bey rk left key arr base i = false → bey rk left key arr base j = false := fun i j hij hj hf => by
    cases e : bey rk left key arr base j with
    | false => rfl
    | true => rw [mono i j hij hj e] at hf; exact hf
  have fin : ∀ (lo hi : Nat), lo ≤ hi → hi ≤ n → (∀ i, i < lo → bey rk left key arr base i = true) → (∀ i, hi ≤ i → i < n → bey rk left key arr base i = false) → ∀ m, lo ≤ m → m < hi → (bey rk left key arr base m = true → ∀ i, i < m + 1 → bey rk left key arr base i = true) ∧ (bey rk left key arr base m = false → ∀ i, m ≤ i → i < n → bey rk left key arr base i = false) := fun lo hi _ h2 _ _ m _ h6 =>
    ⟨fun e i hi' => mono i m (by omega) (by omega) e, fun e i h1 h2 => anti m i h1 h2 e⟩
  dsimp only
  cases hr : bey rk left key arr base hint with
  | true =>
    rw [if_pos rfl]
    refine wpS_bind (wpS_mono (wpS_forRange (I := fun x c st' => st' = st ∧ ∃ la o, c = (none, la, o) ∧ la < o ∧ x < o ∧ hint + la < n ∧ bey rk left key arr base (hint + la) = true)
      (Q := fun c st' => st' = st ∧ ∃ la o, c = (none, la, o) ∧ la < o ∧ hint + la < n ∧ bey rk left key arr base (hint + la) = true ∧ (n - hint ≤ o ∨ bey rk left key arr base (hint + o) = false)) ?step ?fin ⟨rfl, 0, 1, rfl, by omega, by omega, by omega, hr⟩) ?post)
    case fin =>
      rintro c st' ⟨rfl, la, o, rfl, h1, h2, h3, h4⟩
      exact ⟨rfl, la, o, rfl, h1, h3, h4, .inl (by omega)⟩
    case step =>
      rintro x c st' _ hx ⟨rfl, la, o, rfl, h1, h2, h3, h4⟩
      dsimp only
      by_cases ho : o ≥ n - hint
      · rw [if_pos ho]
        exact wpS_pure ⟨rfl, la, o, rfl, h1, h3, h4, .inl ho⟩
      · rw [if_neg ho]
        refine wpS_bind (ask (hint + o) _ (by omega) ?_)
        dsimp only
        cases hb : bey rk left key arr base (hint + o) with
        | true => exact wpS_pure ⟨rfl, o, 2 * o + 1, rfl, by omega, by omega, by omega, hb⟩
        | false => exact wpS_pure ⟨rfl, la, o, rfl, h1, h3, h4, .inr hb⟩
    case post =>
      rintro c st1 ⟨e1, la, o, rfl, h1, h3, h4, h5⟩
      rw [e1]
      clear e1 st1
      dsimp only
      have a1 : hint + la + 1 ≤ hint + min o (n - hint) := by omega
      have a2 : hint + min o (n - hint) ≤ n := by omega
      have a3 : ∀ i, i < hint + la + 1 → bey rk left key arr base i = true := fun i hi => mono i (hint + la) (by omega) h3 h4
      have a4 : ∀ i, hint + min o (n - hint) ≤ i → i < n → bey rk left key arr base i = false := fun i hi hn => by
        rcases h5 with h5 | h5
        · omega
        · by_cases q : o ≤ n - hint
          · exact anti (hint + o) i (by omega) hn h5
          · omega
      generalize hint + la + 1 = lo at *
      generalize hint + min o (n - hint) = hi at *
      refine wpS_bind (wpS_mono (wpS_forRange (I := fun x c st' => st' = st ∧ ∃ lo hi, c = (none, lo, hi) ∧ lo ≤ hi ∧ hi ≤ n ∧ hi - lo ≤ n - x ∧ (∀ i, i < lo → bey rk left key arr base i = true) ∧ (∀ i, hi ≤ i → i < n → bey rk left key arr base i = false))
        (Q := fun c st' => st' = st ∧ ∃ lo hi, c = (none, lo, hi) ∧ hi ≤ n ∧ (∀ i, i < hi → bey rk left key arr base i = true) ∧ (∀ i, hi ≤ i → i < n → bey rk left key arr base i = false)) ?stepT ?finT ⟨rfl, lo, hi, rfl, a1, a2, by omega, a3, a4⟩) ?postT)
      case finT =>
        rintro c st' ⟨rfl, lo, hi, rfl, b1, b2, b3, b4, b5⟩
        exact ⟨rfl, lo, hi, rfl, b2, fun i hi' => b4 i (by omega), b5⟩
      case stepT =>
        rintro x c st' _ hx ⟨rfl, lo, hi, rfl, b1, b2, b3, b4, b5⟩
        dsimp only
        by_cases hg : lo ≥ hi
        · rw [if_pos hg]
          exact wpS_pure ⟨rfl, lo, hi, rfl, b2, fun i hi' => b4 i (by omega), b5⟩
        · rw [if_neg hg]
          refine wpS_bind (ask (lo + (hi - lo) / 2) _ (by omega) ?_)
          dsimp only
          obtain ⟨f1, f2⟩ := fin lo hi b1 b2 b4 b5 (lo + (hi - lo) / 2) (by omega) (by omega)
          cases hb : bey rk left key arr base (lo + (hi - lo) / 2) with
          | true => exact wpS_pure ⟨rfl, lo + (hi - lo) / 2 + 1, hi, rfl, by omega, b2, by omega, f1 hb, b5⟩
          | false => exact wpS_pure ⟨rfl, lo, lo + (hi - lo) / 2, rfl, by omega, by omega, by omega, b4, f2 hb⟩
      case postT =>
        rintro c st' ⟨rfl, lo, hi, rfl, b2, b4, b5⟩
        exact wpS_pure (h hi b2 b4 b5)
  | false =>
    rw [if_neg (by simp)]
    refine wpS_bind (wpS_mono (wpS_forRange (I := fun x c st' => st' = st ∧ ∃ la o, c = (none, la, o) ∧ la < o ∧ x < o ∧ la ≤ hint ∧ bey rk left key arr base (hint - la) = false)
      (Q := fun c st' => st' = st ∧ ∃ la o, c = (none, la, o) ∧ la < o ∧ la ≤ hint ∧ bey rk left key arr base (hint - la) = false ∧ (hint + 1 ≤ o ∨ bey rk left key arr base (hint - o) = true)) ?step2 ?fin2 ⟨rfl, 0, 1, rfl, by omega, by omega, by omega, hr⟩) ?post2)
    case fin2 =>
      rintro c st' ⟨rfl, la, o, rfl, h1, h2, h3, h4⟩
      exact ⟨rfl, la, o, rfl, h1, h3, h4, .inl (by omega)⟩
    case step2 =>
      rintro x c st' _ hx ⟨rfl, la, o, rfl, h1, h2, h3, h4⟩
      dsimp only
      by_cases ho : o ≥ hint + 1
      · rw [if_pos ho]
        exact wpS_pure ⟨rfl, la, o, rfl, h1, h3, h4, .inl ho⟩
      · rw [if_neg ho]
        refine wpS_bind (ask (hint - o) _ (by omega) ?_)
        dsimp only
        cases hb : bey rk left key arr base (hint - o) with
        | true => exact wpS_pure ⟨rfl, la, o, rfl, h1, h3, h4, .inr hb⟩
        | false => exact wpS_pure ⟨rfl, o, 2 * o + 1, rfl, by omega, by omega, by omega, hb⟩
    case post2 =>
      rintro c st1 ⟨e1, la, o, rfl, h1, h3, h4, h5⟩
      rw [e1]
      clear e1 st1
      dsimp only
      have a1 : hint + 1 - min o (hint + 1) ≤ hint - la := by omega
      have a2 : hint - la ≤ n := by omega
      have a3 : ∀ i, i < hint + 1 - min o (hint + 1) → bey rk left key arr base i = true := fun i hi => by
        rcases h5 with h5 | h5
        · omega
        · exact mono i (hint - o) (by omega) (by omega) h5
      have a4 : ∀ i, hint - la ≤ i → i < n → bey rk left key arr base i = false := fun i hi hn => anti (hint - la) i hi hn h4
      generalize hint + 1 - min o (hint + 1) = lo at *
      generalize hint - la = hi at *
      refine wpS_bind (wpS_mono (wpS_forRange (I := fun x c st' => st' = st ∧ ∃ lo hi, c = (none, lo, hi) ∧ lo ≤ hi ∧ hi ≤ n ∧ hi - lo ≤ n - x ∧ (∀ i, i < lo → bey rk left key arr base i = true) ∧ (∀ i, hi ≤ i → i < n → bey rk left key arr base i = false))
        (Q := fun c st' => st' = st ∧ ∃ lo hi, c = (none, lo, hi) ∧ hi ≤ n ∧ (∀ i, i < hi → bey rk left key arr base i = true) ∧ (∀ i, hi ≤ i → i < n → bey rk left key arr base i = false)) ?stepU ?finU ⟨rfl, lo, hi, rfl, a1, a2, by omega, a3, a4⟩) ?postU)
      case finU =>
        rintro c st' ⟨rfl, lo, hi, rfl, b1, b2, b3, b4, b5⟩
        exact ⟨rfl, lo, hi, rfl, b2, fun i hi' => b4 i (by omega), b5⟩
      case stepU =>
        rintro x c st' _ hx ⟨rfl, lo, hi, rfl, b1, b2, b3, b4, b5⟩
        dsimp only
        by_cases hg : lo ≥ hi
        · rw [if_pos hg]
          exact wpS_pure ⟨rfl, lo, hi, rfl, b2, fun i hi' => b4 i (by omega), b5⟩
        · rw [if_neg hg]
          refine wpS_bind (ask (lo + (hi - lo) / 2) _ (by omega) ?_)
          dsimp only
          obtain ⟨f1, f2⟩ := fin lo hi b1 b2 b4 b5 (lo + (hi - lo) / 2) (by omega) (by omega)
          cases hb : bey rk left key arr base (lo + (hi - lo) / 2) with
          | true => exact wpS_pure ⟨rfl, lo + (hi - lo) / 2 + 1, hi, rfl, by omega, b2, by omega, f1 hb, b5⟩
          | false => exact wpS_pure ⟨rfl, lo, lo + (hi - lo) / 2, rfl, by omega, by omega, by omega, b4, f2 hb⟩
      case postU =>
        rintro c st' ⟨rfl, lo, hi, rfl, b2, b4, b5⟩
        exact wpS_pure (h hi b2 b4 b5)
end
end L2
set_option maxHeartbeats 4000000
namespace L2
open PySem PyProof.Rows
noncomputable def mergeLo' : Array Keyed → Array Keyed → StateT SortSt Sem (Array Keyed) := sortPriv% PySem.Builtin.mergeLo
noncomputable def SameS (st st' : SortSt) : Prop := kindOf st' = kindOf st ∧ arrOf st' = arrOf st ∧ pendingOf st' = pendingOf st ∧ failedOf st' = failedOf st
theorem tl_some {a : Array Keyed} {i : Nat} {p : Keyed} (h : a[i]? = some p) : a.toList[i]? = some p := by rw [Array.getElem?_toList]; exact h
theorem tl_part (a : Array Keyed) (i k : Nat) : (a.extract i (i + k)).toList = (a.toList.drop i).take k := by
  rw [Array.toList_extract, List.extract_eq_drop_take]
  congr 1
  omega
theorem tl_rest (a : Array Keyed) (i : Nat) : (a.extract i a.size).toList = a.toList.drop i := by
  rw [Array.toList_extract, List.extract_eq_drop_take]
  exact List.take_of_length_le (by simp)
section
variable {rk : Value → Nat} {a b : Array Keyed} {o : List Keyed} {ia ib k : Nat} {pa pb : Keyed}
theorem MLo.stB (m : MLo rk a.toList b.toList o ia ib) (ua : Up rk a.toList) (ub : Up rk b.toList) (hb : b[ib]? = some pb) (ha : a[ia]? = some pa) (h : rk pb.1 ≤ rk pa.1) : MLo rk a.toList b.toList (o ++ [pb]) ia (ib + 1) := by
  have q := m.chB (k := 1) ub (fun x hx y hy => by
    rw [take1 (tl_some hb)] at hx
    cases List.mem_singleton.mp hx
    exact Nat.le_trans h (up_from ua (tl_some ha) y hy))
  rw [take1 (tl_some hb)] at q
  exact q
theorem MLo.stA (m : MLo rk a.toList b.toList o ia ib) (ua : Up rk a.toList) (ub : Up rk b.toList) (hb : b[ib]? = some pb) (ha : a[ia]? = some pa) (h : rk pa.1 ≤ rk pb.1) : MLo rk a.toList b.toList (o ++ [pa]) (ia + 1) ib := by
  have q := m.chA (k := 1) ua (fun x hx y hy => by
    rw [take1 (tl_some ha)] at hx
    cases List.mem_singleton.mp hx
    exact Nat.le_trans h (up_from ub (tl_some hb) y hy))
  rw [take1 (tl_some ha)] at q
  exact q
theorem MLo.gaA (m : MLo rk a.toList b.toList o ia ib) (ua : Up rk a.toList) (ub : Up rk b.toList) (hb : b[ib]? = some pb) (h : ∀ i, i < k → bey rk false pb a ia i = true) : MLo rk a.toList b.toList (o ++ (a.extract ia (ia + k)).toList) (ia + k) ib := by
  rw [tl_part]
  refine m.chA ua fun x hx y hy => Nat.le_trans ?_ (up_from ub (tl_some hb) y hy)
  obtain ⟨j, hj, e⟩ := mem_chunk hx
  rw [Array.getElem?_toList] at e
  have q := h j hj
  unfold bey at q
  rw [e] at q
  simpa using q
theorem MLo.gaB (m : MLo rk a.toList b.toList o ia ib) (ua : Up rk a.toList) (ub : Up rk b.toList) (ha : a[ia]? = some pa) (h : ∀ i, i < k → bey rk true pa b ib i = true) : MLo rk a.toList b.toList (o ++ (b.extract ib (ib + k)).toList) ia (ib + k) := by
  rw [tl_part]
  refine m.chB ub fun x hx y hy => Nat.le_trans ?_ (up_from ua (tl_some ha) y hy)
  obtain ⟨j, hj, e⟩ := mem_chunk hx
  rw [Array.getElem?_toList] at e
  have q := h j hj
  unfold bey at q
  rw [e] at q
  exact Nat.le_of_lt (by simpa using q)
theorem bey_mono {left : Bool} {key : Keyed} {n : Nat} (u : Up rk a.toList) (hn : ia + n ≤ a.size) : ∀ i j, i ≤ j → j < n → bey rk left key a ia j = true → bey rk left key a ia i = true := fun i j hij hj h => by
  have hi' : ia + i < a.size := by omega
  have hj' : ia + j < a.size := by omega
  have ei : a[ia + i]? = some a[ia + i] := getElem?_pos a (ia + i) hi'
  have ej : a[ia + j]? = some a[ia + j] := getElem?_pos a (ia + j) hj'
  have le : rk a[ia + i].1 ≤ rk a[ia + j].1 := by
    refine up_from u (tl_some ei) _ ?_
    refine List.mem_iff_getElem?.mpr ⟨j - i, ?_⟩
    rw [List.getElem?_drop, show ia + i + (j - i) = ia + j by omega]
    exact tl_some ej
  unfold bey at h ⊢
  rw [ej] at h
  rw [ei]
  cases left with
  | true => simp only [if_true, decide_eq_true_eq] at h ⊢; omega
  | false => simp only [Bool.false_eq_true, if_false, Bool.not_eq_true', decide_eq_false_iff_not] at h ⊢; omega
end
section
variable {prog : Program} {w : World} {A : Around} {E : Value → Shared → Prop} {s : Shared} {kd : SortKind} {D : Value → Prop} {rk : Value → Nat}
inductive LoI1 (rk : Value → Nat) (a b : Array Keyed) (x : Nat) (c : Option (Array Keyed) × Array Keyed × Nat × Nat × Nat) : Prop
  | mk (o : Array Keyed) (ia ib mg : Nat) (hc : c = (none, o, ia, ib, mg)) (h0 : MLo rk a.toList b.toList o.toList ia ib) (h1 : ia + 1 < a.size) (h2 : ib < b.size) (h3 : x ≤ ia + ib) : LoI1 rk a b x c
inductive LoI2 (rk : Value → Nat) (a b : Array Keyed) (c : Option (Array Keyed) × Array Keyed × Nat × Nat × Nat) : Prop
  | mk (l o : Array Keyed) (ia ib mg : Nat) (hc : c = (some l, o, ia, ib, mg)) (h0 : Merged rk a.toList b.toList l.toList) : LoI2 rk a b c
inductive LoI3 (rk : Value → Nat) (a b : Array Keyed) (x : Nat) (y : Nat) (c : Option (Array Keyed) × Array Keyed × Nat × Nat × Nat × Nat) : Prop
  | mk (o : Array Keyed) (ia ib ac bc : Nat) (hc : c = (none, o, ia, ib, ac, bc)) (h0 : MLo rk a.toList b.toList o.toList ia ib) (h1 : ia + 1 < a.size) (h2 : ib < b.size) (h3 : x ≤ ia + ib) (h4 : y ≤ ia + ib) : LoI3 rk a b x y c
inductive LoI4 (rk : Value → Nat) (a b : Array Keyed) (c : Option (Array Keyed) × Array Keyed × Nat × Nat × Nat × Nat) : Prop
  | mk (l o : Array Keyed) (ia ib ac bc : Nat) (hc : c = (some l, o, ia, ib, ac, bc)) (h0 : Merged rk a.toList b.toList l.toList) : LoI4 rk a b c
inductive LoI5 (rk : Value → Nat) (a b : Array Keyed) (x : Nat) (c : Option (Array Keyed) × Array Keyed × Nat × Nat × Nat × Nat) : Prop
  | mk (o : Array Keyed) (ia ib ac bc : Nat) (hc : c = (none, o, ia, ib, ac, bc)) (h0 : MLo rk a.toList b.toList o.toList ia ib) (h1 : ia + 1 < a.size) (h2 : ib < b.size) (h3 : x + 1 ≤ ia + ib) : LoI5 rk a b x c
inductive LoI6 (rk : Value → Nat) (a b : Array Keyed) (x : Nat) (y : Nat) (c : Option (Array Keyed) × Array Keyed × Nat × Nat × Nat × Nat × Nat) : Prop
  | mk (o : Array Keyed) (ia ib mg ac bc : Nat) (hc : c = (none, o, ia, ib, mg, ac, bc)) (h0 : MLo rk a.toList b.toList o.toList ia ib) (h1 : ia + 1 < a.size) (h2 : ib < b.size) (h3 : x + 1 ≤ ia + ib) (h4 : y ≤ ia + ib) : LoI6 rk a b x y c
inductive LoI7 (rk : Value → Nat) (a b : Array Keyed) (c : Option (Array Keyed) × Array Keyed × Nat × Nat × Nat × Nat × Nat) : Prop
  | mk (l o : Array Keyed) (ia ib mg ac bc : Nat) (hc : c = (some l, o, ia, ib, mg, ac, bc)) (h0 : Merged rk a.toList b.toList l.toList) : LoI7 rk a b c
inductive LoI8 (rk : Value → Nat) (a b : Array Keyed) (x : Nat) (c : Option (Array Keyed) × Array Keyed × Nat × Nat × Nat × Nat × Nat) : Prop
  | mk (o : Array Keyed) (ia ib mg ac bc : Nat) (hc : c = (none, o, ia, ib, mg, ac, bc)) (h0 : MLo rk a.toList b.toList o.toList ia ib) (h1 : ia + 1 < a.size) (h2 : ib < b.size) (h3 : x + 1 ≤ ia + ib) : LoI8 rk a b x c
theorem tim_mergeLo (C : Cmp prog w A s kd D rk) {st : SortSt} {a b : Array Keyed} {Q : Array Keyed → SortSt → Prop} (hk : kindOf st = kd) (hDa : ∀ p ∈ a.toList, D p.1) (hDb : ∀ p ∈ b.toList, D p.1) (ua : Up rk a.toList) (ub : Up rk b.toList) {b0 a0 : Keyed} {n : Nat} {al : Keyed}
    (hb0 : b[0]? = some b0) (ha0 : a[0]? = some a0) (hlt : rk b0.1 ≤ rk a0.1) (hn : a.size = n + 1) (hal : a[n]? = some al) (hlast : ∀ x ∈ b.toList, rk x.1 ≤ rk al.1)
    (h : ∀ l st', SameS st st' → Merged rk a.toList b.toList l.toList → Q l st') : wpS (model prog w) A E s (mergeLo' a b) Q st := by
  have atA : ∀ {i : Nat}, i < a.size → ∃ p, a[i]? = some p ∧ D p.1 := fun {i} hi => ⟨a[i], getElem?_pos a i hi, hDa _ (by simp)⟩
  have atB : ∀ {i : Nat}, i < b.size → ∃ p, b[i]? = some p ∧ D p.1 := fun {i} hi => ⟨b[i], getElem?_pos b i hi, hDb _ (by simp)⟩
  have hbs : 0 < b.size := by
    cases e : b.size with
    | zero => rw [Array.getElem?_eq_none (by omega)] at hb0; cases hb0
    | succ m => omega
  have m1 : MLo rk a.toList b.toList [b0] 0 1 := by simpa using MLo.start.stB ua ub hb0 ha0 hlt
  have dn : ∀ {o : Array Keyed} {ia ib : Nat}, MLo rk a.toList b.toList o.toList ia ib → (ib = b.size ∨ ia = a.size) → Merged rk a.toList b.toList (o ++ a.extract ia a.size ++ b.extract ib b.size).toList := fun {o ia ib} m hh => by
    rw [Array.toList_append, Array.toList_append, tl_rest, tl_rest]
    exact m.doneB ua ub (by rcases hh with rfl | rfl; exact .inl (by simp); exact .inr (by simp))
  have lA : ∀ {o : Array Keyed} {ia ib : Nat}, MLo rk a.toList b.toList o.toList ia ib → ia + 1 = a.size → Merged rk a.toList b.toList (o ++ b.extract ib b.size ++ a.extract ia a.size).toList := fun {o ia ib} m hh => by
    rw [Array.toList_append, Array.toList_append, tl_rest, tl_rest]
    refine m.doneA ua ub fun x hx y hy => Nat.le_trans (hlast x hx) ?_
    obtain rfl : ia = n := by omega
    exact up_from ua (tl_some hal) y hy
  have nx : ∀ {ia k : Nat} {pb : Keyed}, ia + k < a.size → bey rk false pb a ia k = false → ∃ pa, a[ia + k]? = some pa ∧ D pa.1 ∧ rk pb.1 ≤ rk pa.1 := fun {ia k pb} hlt e => by
    obtain ⟨pa, hpa, dpa⟩ := atA hlt
    unfold bey at e
    rw [hpa] at e
    simp at e
    exact ⟨pa, hpa, dpa, by omega⟩
  have ny : ∀ {ib k : Nat} {pa : Keyed}, ib + k < b.size → bey rk true pa b ib k = false → ∃ pc, b[ib + k]? = some pc ∧ rk pa.1 ≤ rk pc.1 := fun {ib k pa} hlt e => by
    obtain ⟨pc, hpc, _⟩ := atB hlt
    unfold bey at e
    rw [hpc] at e
    simp at e
    exact ⟨pc, hpc, by omega⟩
  unfold mergeLo'
  refine wpS_bind (wpS_lift (wpAny_rule ⟨rfl, ?_⟩))
  refine wpS_bind (tim_elem hb0 ?_)
  have hm1 : MLo rk a.toList b.toList (#[b0] : Array Keyed).toList 0 1 := m1
  by_cases h1 : (1 == b.size) = true
  · first | refine wpS_yes h1 ?_ | rw [if_pos h1]
    exact wpS_pure (h _ _ ⟨rfl, rfl, rfl, rfl⟩ (dn hm1 (.inl (beq_iff_eq.mp h1))))
  first | refine wpS_no h1 ?_ | rw [if_neg h1]
  by_cases h2 : (0 + 1 == a.size) = true
  · first | refine wpS_yes h2 ?_ | rw [if_pos h2]
    exact wpS_pure (h _ _ ⟨rfl, rfl, rfl, rfl⟩ (lA hm1 (beq_iff_eq.mp h2)))
  first | refine wpS_no h2 ?_ | rw [if_neg h2]
  have h1' : 1 < b.size := by have : ¬ 1 = b.size := fun z => h1 (beq_iff_eq.mpr z); omega
  have h2' : 0 + 1 < a.size := by have : ¬ 0 + 1 = a.size := fun z => h2 (beq_iff_eq.mpr z); omega
  refine wpS_bind (wpS_get ?_)
  refine wpS_bind (wpS_mono (wpS_forRange (I := fun x c st' => SameS st st' ∧ LoI1 rk a b x c)
    (Q := fun c st' => SameS st st' ∧ LoI2 rk a b c) ?step ?fin ⟨⟨rfl, rfl, rfl, rfl⟩, _, 0, 1, _, rfl, hm1, h2', h1', by omega⟩) ?post)
  case fin =>
    rintro c st' ⟨_, o, ia, ib, mg, rfl, m, b1, b2, b3⟩
    omega
  case post =>
    rintro c st' ⟨sm, l, o, ia, ib, mg, rfl, m⟩
    exact wpS_pure (h l st' sm m)
  case step =>
    rintro x c st1 _ hx ⟨sm, o, ia, ib, mg, rfl, m, b1, b2, b3⟩
    refine wpS_bind (wpS_mono (wpS_forRange (I := fun y c st' => st' = st1 ∧ LoI3 rk a b x y c)
      (Q := fun c st' => st' = st1 ∧ (LoI4 rk a b c ∨ LoI5 rk a b x c)) ?step1 ?fin1 ⟨rfl, o, ia, ib, 0, 0, rfl, m, b1, b2, b3, by omega⟩) ?post1)
    case fin1 =>
      rintro c st' ⟨_, o, ia, ib, ac, bc, rfl, m, b1, b2, b3, b4⟩
      omega
    case step1 =>
      rintro y c st2 _ hy ⟨e2, o, ia, ib, ac, bc, rfl, m, b1, b2, b3, b4⟩
      rw [e2]
      clear e2
      dsimp only
      obtain ⟨pb, hpb, dpb⟩ := atB b2
      obtain ⟨pa, hpa, dpa⟩ := atA (i := ia) (by omega)
      refine wpS_bind (tim_elem hpb (wpS_bind (tim_elem hpa (wpS_bind (tim_lt C (sm.1.trans hk) dpb dpa ?_)))))
      by_cases hw : rk pb.1 < rk pa.1
      · first | refine wpS_yes (decide_eq_true hw) ?_ | rw [if_pos (decide_eq_true hw)]
        refine wpS_bind (tim_elem hpb ?_)
        have m' : MLo rk a.toList b.toList (o.push pb).toList ia (ib + 1) := by rw [Array.toList_push]; exact m.stB ua ub hpb hpa (Nat.le_of_lt hw)
        by_cases g1 : (ib + 1 == b.size) = true
        · first | refine wpS_yes g1 ?_ | rw [if_pos g1]
          exact wpS_pure ⟨rfl, .inl ⟨_, _, _, _, _, _, rfl, dn m' (.inl (beq_iff_eq.mp g1))⟩⟩
        · first | refine wpS_no g1 ?_ | rw [if_neg g1]
          have g1' : ib + 1 < b.size := by have : ¬ ib + 1 = b.size := fun z => g1 (beq_iff_eq.mpr z); omega
          by_cases g2 : bc + 1 ≥ mg
          · first | refine wpS_yes g2 ?_ | rw [if_pos g2]
            exact wpS_pure ⟨rfl, .inr ⟨_, _, _, _, _, rfl, m', b1, g1', by omega⟩⟩
          · first | refine wpS_no g2 ?_ | rw [if_neg g2]
            exact wpS_pure ⟨rfl, _, _, _, _, _, rfl, m', b1, g1', by omega, by omega⟩
      · first | refine wpS_no (by rw [decide_eq_false hw]; exact Bool.false_ne_true) ?_ | rw [if_neg (by rw [decide_eq_false hw]; exact Bool.false_ne_true)]
        refine wpS_bind (tim_elem hpa ?_)
        have m' : MLo rk a.toList b.toList (o.push pa).toList (ia + 1) ib := by rw [Array.toList_push]; exact m.stA ua ub hpb hpa (by omega)
        by_cases g1 : (ia + 1 + 1 == a.size) = true
        · first | refine wpS_yes g1 ?_ | rw [if_pos g1]
          exact wpS_pure ⟨rfl, .inl ⟨_, _, _, _, _, _, rfl, lA m' (beq_iff_eq.mp g1)⟩⟩
        · first | refine wpS_no g1 ?_ | rw [if_neg g1]
          have g1' : ia + 1 + 1 < a.size := by have : ¬ ia + 1 + 1 = a.size := fun z => g1 (beq_iff_eq.mpr z); omega
          by_cases g2 : ac + 1 ≥ mg
          · first | refine wpS_yes g2 ?_ | rw [if_pos g2]
            exact wpS_pure ⟨rfl, .inr ⟨_, _, _, _, _, rfl, m', g1', b2, by omega⟩⟩
          · first | refine wpS_no g2 ?_ | rw [if_neg g2]
            exact wpS_pure ⟨rfl, _, _, _, _, _, rfl, m', g1', b2, by omega, by omega⟩
    case post1 =>
      clear m b1 b2 b3
      rintro c st2 ⟨e2, ⟨l, o, ia, ib, ac, bc, rfl, m⟩ | ⟨o, ia, ib, ac, bc, rfl, m, b1, b2, b3⟩⟩
      · rw [e2]
        exact wpS_pure ⟨sm, l, _, _, _, _, rfl, m⟩
      rw [e2]
      clear e2
      refine wpS_bind (wpS_lift (wpAny_rule ⟨rfl, ?_⟩))
      refine wpS_bind (wpS_mono (wpS_forRange (I := fun y c st' => SameS st st' ∧ LoI6 rk a b x y c)
        (Q := fun c st' => SameS st st' ∧ (LoI7 rk a b c ∨ LoI8 rk a b x c)) ?step3 ?fin3 ⟨sm, o, ia, ib, _, _, _, rfl, m, b1, b2, b3, by omega⟩) ?post3)
      case fin3 =>
        rintro c st' ⟨_, o, ia, ib, mg, ac, bc, rfl, m, b1, b2, b3, b4⟩
        omega
      case post3 =>
        clear m b1 b2 b3
        rintro c st2 ⟨sm, ⟨l, o, ia, ib, mg, ac, bc, rfl, m⟩ | ⟨o, ia, ib, mg, ac, bc, rfl, m, b1, b2, b3⟩⟩
        · exact wpS_pure ⟨sm, l, _, _, _, _, rfl, m⟩
        · exact wpS_bind (wpS_modify (wpS_pure ⟨sm, _, _, _, _, rfl, m, b1, b2, b3⟩))
      case step3 =>
        clear m b1 b2 b3
        rintro y c st2 _ hy ⟨sm2, o, ia, ib, mg2, ac, bc, rfl, m, b1, b2, b3, b4⟩
        dsimp only
        obtain ⟨pb, hpb, dpb⟩ := atB b2
        apply both
        · intro key
          by_cases hg : mg2 > 1
          · rw [if_pos hg]
            generalize mg2 - 1 = mg3
            revert mg3
            exact key.out
          · rw [if_neg hg]
            exact key.out mg2
        · intro mg3
          refine wpS_bind (wpS_modify (wpS_bind (tim_elem hpb ?_)))
          refine wpS_bind (tim_gallop C (sm2.1.trans hk) dpb (by omega) hDa (by omega) (bey_mono ua (by omega)) fun k k1 k2 k3 => ?_)
          apply both
          ·intro key
           have mk := m.gaA ua ub hpb k2
           rw [← Array.toList_append] at mk
           by_cases hk0 : k > 0
           case' pos =>
            first | refine wpS_yes hk0 ?_ | rw [if_pos hk0]
            by_cases g1 : (ia + k + 1 == a.size) = true
            case pos =>
              first | refine wpS_yes g1 ?_ | rw [if_pos g1]
              exact wpS_pure ⟨sm2, .inl ⟨_, _, _, _, _, _, _, rfl, lA mk (beq_iff_eq.mp g1)⟩⟩
            first | refine wpS_no g1 ?_ | rw [if_neg g1]
            by_cases g2 : (ia + k == a.size) = true
            case pos =>
              first | refine wpS_yes g2 ?_ | rw [if_pos g2]
              exact wpS_pure ⟨sm2, .inl ⟨_, _, _, _, _, _, _, rfl, dn mk (.inr (beq_iff_eq.mp g2))⟩⟩
            first | refine wpS_no g2 ?_ | rw [if_neg g2]
            have c1 : ia + k + 1 < a.size := by
              have : ¬ ia + k + 1 = a.size := fun z => g1 (beq_iff_eq.mpr z)
              have : ¬ ia + k = a.size := fun z => g2 (beq_iff_eq.mpr z)
              omega
            have hp : ∃ pa, a[ia + k]? = some pa ∧ D pa.1 ∧ rk pb.1 ≤ rk pa.1 := nx (by omega) (k3 k (Nat.le_refl _) (by omega))
            have b5 : x + 1 ≤ ia + k + ib := by omega
            have b6 : y ≤ ia + k + ib := by omega
            revert mk c1 hp b5 b6
            generalize o ++ a.extract ia (ia + k) = o2
            generalize ia + k = i2
            revert o2 i2
            exact key.out
           case' neg =>
            first | refine wpS_no hk0 ?_ | rw [if_neg hk0]
            obtain rfl : k = 0 := by omega
            have c1 : ia + 1 < a.size := b1
            have hp : ∃ pa, a[ia]? = some pa ∧ D pa.1 ∧ rk pb.1 ≤ rk pa.1 := nx (by omega) (k3 0 (Nat.le_refl _) (by omega))
            have b5 : x + 1 ≤ ia + ib := b3
            have b6 : y ≤ ia + ib := b4
            exact key.out o ia m c1 hp b5 b6
          · intro o2 i2 mk c1 hp b5 b6
            clear m b1 b3 b4 k1 k2 k3
            obtain ⟨pa, hpa, dpa, hle⟩ := hp
            refine wpS_bind (tim_elem hpb ?_)
            have m' : MLo rk a.toList b.toList (o2.push pb).toList i2 (ib + 1) := by rw [Array.toList_push]; exact mk.stB ua ub hpb hpa hle
            by_cases g3 : (ib + 1 == b.size) = true
            case pos =>
              first | refine wpS_yes g3 ?_ | rw [if_pos g3]
              exact wpS_pure ⟨sm2, .inl ⟨_, _, _, _, _, _, _, rfl, dn m' (.inl (beq_iff_eq.mp g3))⟩⟩
            first | refine wpS_no g3 ?_ | rw [if_neg g3]
            have g3' : ib + 1 < b.size := by have : ¬ ib + 1 = b.size := fun z => g3 (beq_iff_eq.mpr z); omega
            refine wpS_bind (tim_elem hpa ?_)
            refine wpS_bind (tim_gallop C (sm2.1.trans hk) dpa (by omega) hDb (by omega) (bey_mono ub (by omega)) fun j j1 j2 j3 => ?_)
            apply both
            ·intro key
             have mj := m'.gaB ua ub hpa j2
             rw [← Array.toList_append] at mj
             by_cases hj0 : j > 0
             case' pos =>
              first | refine wpS_yes hj0 ?_ | rw [if_pos hj0]
              by_cases g4 : (ib + 1 + j == b.size) = true
              case pos =>
                first | refine wpS_yes g4 ?_ | rw [if_pos g4]
                exact wpS_pure ⟨sm2, .inl ⟨_, _, _, _, _, _, _, rfl, dn mj (.inl (beq_iff_eq.mp g4))⟩⟩
              first | refine wpS_no g4 ?_ | rw [if_neg g4]
              have c2 : ib + 1 + j < b.size := by
                have : ¬ ib + 1 + j = b.size := fun z => g4 (beq_iff_eq.mpr z)
                omega
              have hq : ∃ pc, b[ib + 1 + j]? = some pc ∧ rk pa.1 ≤ rk pc.1 := ny c2 (j3 j (Nat.le_refl _) (by omega))
              have b7 : ib < ib + 1 + j := by omega
              revert mj c2 hq b7
              generalize (o2.push pb) ++ b.extract (ib + 1) (ib + 1 + j) = o3
              generalize ib + 1 + j = i3
              revert o3 i3
              exact key.out
             case' neg =>
              first | refine wpS_no hj0 ?_ | rw [if_neg hj0]
              obtain rfl : j = 0 := by omega
              have c2 : ib + 1 < b.size := g3'
              have hq : ∃ pc, b[ib + 1]? = some pc ∧ rk pa.1 ≤ rk pc.1 := ny c2 (j3 0 (Nat.le_refl _) (by omega))
              have b7 : ib < ib + 1 := by omega
              exact key.out _ _ m' c2 hq b7
            · intro o3 i3 mj c2 hq b7
              clear j1 j2 j3
              obtain ⟨pc, hpc, hle2⟩ := hq
              refine wpS_bind (tim_elem hpa ?_)
              have m4 : MLo rk a.toList b.toList (o3.push pa).toList (i2 + 1) i3 := by rw [Array.toList_push]; exact mj.stA ua ub hpc hpa hle2
              by_cases g5 : (i2 + 1 + 1 == a.size) = true
              case pos =>
                first | refine wpS_yes g5 ?_ | rw [if_pos g5]
                exact wpS_pure ⟨sm2, .inl ⟨_, _, _, _, _, _, _, rfl, lA m4 (beq_iff_eq.mp g5)⟩⟩
              first | refine wpS_no g5 ?_ | rw [if_neg g5]
              have g5' : i2 + 1 + 1 < a.size := by have : ¬ i2 + 1 + 1 = a.size := fun z => g5 (beq_iff_eq.mpr z); omega
              split
              · exact wpS_pure ⟨sm2, .inr ⟨_, _, _, _, _, _, rfl, m4, g5', c2, by omega⟩⟩
              · exact wpS_pure ⟨sm2, _, _, _, _, _, _, rfl, m4, g5', c2, by omega, by omega⟩
end
end L2
set_option maxHeartbeats 4000000
namespace L2
open PySem PyProof.Rows
noncomputable def mergeHi' : Array Keyed → Array Keyed → StateT SortSt Sem (Array Keyed) := sortPriv% PySem.Builtin.mergeHi
structure MHi (rk : Value → Nat) (la lb o : List Keyed) (na nb : Nat) : Prop where
  perm : (la.take na ++ lb.take nb ++ o).Perm (la ++ lb)
  up : Up rk o
  hig : ∀ x ∈ la.take na ++ lb.take nb, ∀ y ∈ o, rk x.1 ≤ rk y.1
section
variable {rk : Value → Nat} {la lb o : List Keyed} {na nb k : Nat}
theorem MHi.start : MHi rk la lb [] la.length lb.length := ⟨by simp, .nil, fun x _ y h => nomatch h⟩
theorem cut_take (l : List Keyed) (n : Nat) (h : k ≤ n) : l.take n = l.take k ++ (l.take n).drop k := by
  have e : (l.take n).take k = l.take k := by rw [List.take_take]; congr 1; omega
  rw [← e]
  exact (List.take_append_drop k _).symm
theorem MHi.chA (m : MHi rk la lb o na nb) (hk : k ≤ na) (ha : Up rk la) (h : ∀ x ∈ lb.take nb, ∀ y ∈ (la.take na).drop k, rk x.1 ≤ rk y.1) : MHi rk la lb ((la.take na).drop k ++ o) k nb := by
  have e := cut_take la na hk
  have hd : Up rk (la.take k ++ (la.take na).drop k) := by rw [← e]; exact List.Pairwise.sublist (List.take_sublist _ _) ha
  obtain ⟨h1, h2, h3⟩ := List.pairwise_append.mp hd
  refine ⟨?_, ?_, ?_⟩
  · have p := m.perm
    rw [e] at p
    refine List.Perm.trans ?_ p
    rw [← List.append_assoc]
    refine List.Perm.append_right _ ?_
    rw [List.append_assoc, List.append_assoc]
    exact List.Perm.append_left _ List.perm_append_comm
  · exact List.pairwise_append.mpr ⟨h2, m.up, fun x hx y hy => m.hig x (List.mem_append_left _ (by rw [e]; exact List.mem_append_right _ hx)) y hy⟩
  · intro x hx y hy
    rcases List.mem_append.mp hy with hy | hy
    · rcases List.mem_append.mp hx with hx | hx
      · exact h3 x hx y hy
      · exact h x hx y hy
    · refine m.hig x ?_ y hy
      rcases List.mem_append.mp hx with hx | hx
      · rw [e]; exact List.mem_append_left _ (List.mem_append_left _ hx)
      · exact List.mem_append_right _ hx
theorem MHi.chB (m : MHi rk la lb o na nb) (hk : k ≤ nb) (hb : Up rk lb) (h : ∀ x ∈ la.take na, ∀ y ∈ (lb.take nb).drop k, rk x.1 ≤ rk y.1) : MHi rk la lb ((lb.take nb).drop k ++ o) na k := by
  have e := cut_take lb nb hk
  have hd : Up rk (lb.take k ++ (lb.take nb).drop k) := by rw [← e]; exact List.Pairwise.sublist (List.take_sublist _ _) hb
  obtain ⟨h1, h2, h3⟩ := List.pairwise_append.mp hd
  refine ⟨?_, ?_, ?_⟩
  · have p := m.perm
    rw [e] at p
    simpa [List.append_assoc] using p
  · exact List.pairwise_append.mpr ⟨h2, m.up, fun x hx y hy => m.hig x (List.mem_append_right _ (by rw [e]; exact List.mem_append_right _ hx)) y hy⟩
  · intro x hx y hy
    rcases List.mem_append.mp hy with hy | hy
    · rcases List.mem_append.mp hx with hx | hx
      · exact h x hx y hy
      · exact h3 x hx y hy
    · refine m.hig x ?_ y hy
      rcases List.mem_append.mp hx with hx | hx
      · exact List.mem_append_left _ hx
      · rw [e]; exact List.mem_append_right _ (List.mem_append_left _ hx)
theorem MHi.doneA (m : MHi rk la lb o na nb) (ha : Up rk la) (hb : Up rk lb) (h : na = 0 ∨ nb = 0) : Merged rk la lb (la.take na ++ lb.take nb ++ o) := by
  refine ⟨m.perm, List.pairwise_append.mpr ⟨?_, m.up, m.hig⟩⟩
  rcases h with rfl | rfl
  · simpa using List.Pairwise.sublist (List.take_sublist _ _) hb
  · simpa using List.Pairwise.sublist (List.take_sublist _ _) ha
theorem MHi.doneB (m : MHi rk la lb o na nb) (ha : Up rk la) (hb : Up rk lb) (h : ∀ x ∈ lb.take nb, ∀ y ∈ la, rk x.1 ≤ rk y.1) : Merged rk la lb (lb.take nb ++ la.take na ++ o) := by
  refine ⟨List.Perm.trans (List.Perm.append_right _ List.perm_append_comm) m.perm, List.pairwise_append.mpr ⟨?_, m.up, fun x hx y hy => m.hig x ?_ y hy⟩⟩
  · exact List.pairwise_append.mpr ⟨List.Pairwise.sublist (List.take_sublist _ _) hb, List.Pairwise.sublist (List.take_sublist _ _) ha, fun x hx y hy => h x hx y (List.mem_of_mem_take hy)⟩
  · rcases List.mem_append.mp hx with hx | hx
    · exact List.mem_append_right _ hx
    · exact List.mem_append_left _ hx
theorem last1 {l : List Keyed} {i : Nat} {p : Keyed} (h : l[i]? = some p) : (l.take (i + 1)).drop i = [p] := by
  obtain ⟨hi, rfl⟩ := List.getElem?_eq_some_iff.mp h
  rw [List.take_succ_eq_append_getElem hi, List.drop_append_of_le_length (by simp; omega), List.drop_eq_nil_of_le (by rw [List.length_take]; omega)]
  rfl
theorem up_to {l : List Keyed} {i : Nat} {p : Keyed} (u : Up rk l) (h : l[i]? = some p) : ∀ y ∈ l.take (i + 1), rk y.1 ≤ rk p.1 := by
  have e := cut_take (k := i) l (i + 1) (by omega)
  rw [last1 h] at e
  have u' : Up rk (l.take i ++ [p]) := by rw [← e]; exact List.Pairwise.sublist (List.take_sublist _ _) u
  intro y hy
  rw [e] at hy
  rcases List.mem_append.mp hy with hy | hy
  · exact (List.pairwise_append.mp u').2.2 y hy p (by simp)
  · cases List.mem_singleton.mp hy
    exact Nat.le_refl _
theorem mem_take {l : List Keyed} {n : Nat} {x : Keyed} (h : x ∈ l.take n) : ∃ j, j < n ∧ l[j]? = some x := by
  have := mem_chunk (l := l) (i := 0) (k := n) (by simpa using h)
  simpa using this
theorem mem_td {l : List Keyed} {n k : Nat} {x : Keyed} (h : x ∈ (l.take n).drop k) : ∃ j, k ≤ j ∧ j < n ∧ l[j]? = some x := by
  obtain ⟨j, hj⟩ := List.mem_iff_getElem?.mp h
  rw [List.getElem?_drop] at hj
  have hlt : k + j < n := by
    have := (List.getElem?_eq_some_iff.mp hj).1
    rw [List.length_take] at this
    omega
  rw [List.getElem?_take_of_lt hlt] at hj
  exact ⟨k + j, by omega, hlt, hj⟩
end
theorem tl_first (a : Array Keyed) (n : Nat) : (a.extract 0 n).toList = a.toList.take n := by
  rw [Array.toList_extract, List.extract_eq_drop_take]
  simp
theorem tl_mid (a : Array Keyed) (k n : Nat) : (a.extract k n).toList = (a.toList.take n).drop k := by
  rw [Array.toList_extract, List.extract_eq_drop_take, List.drop_take]
section
variable {rk : Value → Nat} {a b : Array Keyed} {o : List Keyed} {na nb k : Nat} {pa pb : Keyed}
theorem MHi.stA (m : MHi rk a.toList b.toList o (na + 1) nb) (ua : Up rk a.toList) (ha : a[na]? = some pa) (h : ∀ x ∈ b.toList.take nb, rk x.1 ≤ rk pa.1) : MHi rk a.toList b.toList (pa :: o) na nb := by
  have q := m.chA (k := na) (by omega) ua (fun x hx y hy => by
    rw [last1 (tl_some ha)] at hy
    cases List.mem_singleton.mp hy
    exact h x hx)
  rw [last1 (tl_some ha)] at q
  exact q
theorem MHi.stB (m : MHi rk a.toList b.toList o na (nb + 1)) (ub : Up rk b.toList) (hb : b[nb]? = some pb) (h : ∀ x ∈ a.toList.take na, rk x.1 ≤ rk pb.1) : MHi rk a.toList b.toList (pb :: o) na nb := by
  have q := m.chB (k := nb) (by omega) ub (fun x hx y hy => by
    rw [last1 (tl_some hb)] at hy
    cases List.mem_singleton.mp hy
    exact h x hx)
  rw [last1 (tl_some hb)] at q
  exact q
theorem bey_false_le {left : Bool} {i : Nat} {p key : Keyed} (hp : a[i]? = some p) (h : bey rk left key a 0 i = false) : rk key.1 ≤ rk p.1 := by
  unfold bey at h
  rw [Nat.zero_add, hp] at h
  cases left with
  | true => simpa using h
  | false => exact Nat.le_of_lt (by simpa using h)
theorem bey_true_le {left : Bool} {i : Nat} {p key : Keyed} (hp : a[i]? = some p) (h : bey rk left key a 0 i = true) : rk p.1 ≤ rk key.1 := by
  unfold bey at h
  rw [Nat.zero_add, hp] at h
  cases left with
  | true => exact Nat.le_of_lt (by simpa using h)
  | false => simpa using h
theorem MHi.gaA (m : MHi rk a.toList b.toList o na nb) (hkn : k ≤ na) (ua : Up rk a.toList) (h : ∀ i, k ≤ i → i < na → bey rk false pb a 0 i = false) (hb : ∀ x ∈ b.toList.take nb, rk x.1 ≤ rk pb.1) : MHi rk a.toList b.toList ((a.extract k na).toList ++ o) k nb := by
  rw [tl_mid]
  refine m.chA hkn ua fun x hx y hy => Nat.le_trans (hb x hx) ?_
  obtain ⟨j, h1, h2, e⟩ := mem_td hy
  rw [Array.getElem?_toList] at e
  exact bey_false_le e (h j h1 h2)
theorem MHi.gaB (m : MHi rk a.toList b.toList o na nb) (hkn : k ≤ nb) (ub : Up rk b.toList) (h : ∀ i, k ≤ i → i < nb → bey rk true pa b 0 i = false) (ha : ∀ x ∈ a.toList.take na, rk x.1 ≤ rk pa.1) : MHi rk a.toList b.toList ((b.extract k nb).toList ++ o) na k := by
  rw [tl_mid]
  refine m.chB hkn ub fun x hx y hy => Nat.le_trans (ha x hx) ?_
  obtain ⟨j, h1, h2, e⟩ := mem_td hy
  rw [Array.getElem?_toList] at e
  exact bey_false_le e (h j h1 h2)
theorem bey_take {left : Bool} {key : Keyed} (h : ∀ i, i < k → bey rk left key a 0 i = true) : ∀ x ∈ a.toList.take k, rk x.1 ≤ rk key.1 := fun x hx => by
  obtain ⟨j, h1, e⟩ := mem_take hx
  rw [Array.getElem?_toList] at e
  exact bey_true_le e (h j h1)
end
section
variable {prog : Program} {w : World} {A : Around} {E : Value → Shared → Prop} {s : Shared} {kd : SortKind} {D : Value → Prop} {rk : Value → Nat}
inductive HiI1 (rk : Value → Nat) (a b : Array Keyed) (x : Nat) (c : Option (Array Keyed) × Nat × Nat × Array Keyed × Nat) : Prop
  | mk (na nb : Nat) (o : Array Keyed) (mg : Nat) (hc : c = (none, na, nb, o, mg)) (h0 : MHi rk a.toList b.toList o.toList.reverse na nb) (h1 : 0 < na) (h2 : na < a.size) (h3 : 1 < nb) (h4 : nb ≤ b.size) (h5 : x + na + nb ≤ a.size + b.size) : HiI1 rk a b x c
inductive HiI2 (rk : Value → Nat) (a b : Array Keyed) (c : Option (Array Keyed) × Nat × Nat × Array Keyed × Nat) : Prop
  | mk (l : Array Keyed) (na nb : Nat) (o : Array Keyed) (mg : Nat) (hc : c = (some l, na, nb, o, mg)) (h0 : Merged rk a.toList b.toList l.toList) : HiI2 rk a b c
inductive HiI3 (rk : Value → Nat) (a b : Array Keyed) (x : Nat) (y : Nat) (c : Option (Array Keyed) × Nat × Nat × Array Keyed × Nat × Nat) : Prop
  | mk (na nb : Nat) (o : Array Keyed) (ac bc : Nat) (hc : c = (none, na, nb, o, ac, bc)) (h0 : MHi rk a.toList b.toList o.toList.reverse na nb) (h1 : 0 < na) (h2 : na < a.size) (h3 : 1 < nb) (h4 : nb ≤ b.size) (h5 : x + na + nb ≤ a.size + b.size) (h6 : y + na + nb ≤ a.size + b.size) : HiI3 rk a b x y c
inductive HiI4 (rk : Value → Nat) (a b : Array Keyed) (c : Option (Array Keyed) × Nat × Nat × Array Keyed × Nat × Nat) : Prop
  | mk (l : Array Keyed) (na nb : Nat) (o : Array Keyed) (ac bc : Nat) (hc : c = (some l, na, nb, o, ac, bc)) (h0 : Merged rk a.toList b.toList l.toList) : HiI4 rk a b c
inductive HiI5 (rk : Value → Nat) (a b : Array Keyed) (x : Nat) (c : Option (Array Keyed) × Nat × Nat × Array Keyed × Nat × Nat) : Prop
  | mk (na nb : Nat) (o : Array Keyed) (ac bc : Nat) (hc : c = (none, na, nb, o, ac, bc)) (h0 : MHi rk a.toList b.toList o.toList.reverse na nb) (h1 : 0 < na) (h2 : na < a.size) (h3 : 1 < nb) (h4 : nb ≤ b.size) (h5 : x + 1 + na + nb ≤ a.size + b.size) : HiI5 rk a b x c
inductive HiI6 (rk : Value → Nat) (a b : Array Keyed) (x : Nat) (y : Nat) (c : Option (Array Keyed) × Nat × Nat × Array Keyed × Nat × Nat × Nat) : Prop
  | mk (na nb : Nat) (o : Array Keyed) (mg ac bc : Nat) (hc : c = (none, na, nb, o, mg, ac, bc)) (h0 : MHi rk a.toList b.toList o.toList.reverse na nb) (h1 : 0 < na) (h2 : na < a.size) (h3 : 1 < nb) (h4 : nb ≤ b.size) (h5 : x + 1 + na + nb ≤ a.size + b.size) (h6 : y + na + nb ≤ a.size + b.size) : HiI6 rk a b x y c
inductive HiI7 (rk : Value → Nat) (a b : Array Keyed) (c : Option (Array Keyed) × Nat × Nat × Array Keyed × Nat × Nat × Nat) : Prop
  | mk (l : Array Keyed) (na nb : Nat) (o : Array Keyed) (mg ac bc : Nat) (hc : c = (some l, na, nb, o, mg, ac, bc)) (h0 : Merged rk a.toList b.toList l.toList) : HiI7 rk a b c
inductive HiI8 (rk : Value → Nat) (a b : Array Keyed) (x : Nat) (c : Option (Array Keyed) × Nat × Nat × Array Keyed × Nat × Nat × Nat) : Prop
  | mk (na nb : Nat) (o : Array Keyed) (mg ac bc : Nat) (hc : c = (none, na, nb, o, mg, ac, bc)) (h0 : MHi rk a.toList b.toList o.toList.reverse na nb) (h1 : 0 < na) (h2 : na < a.size) (h3 : 1 < nb) (h4 : nb ≤ b.size) (h5 : x + 1 + na + nb ≤ a.size + b.size) : HiI8 rk a b x c
theorem tim_mergeHi (C : Cmp prog w A s kd D rk) {st : SortSt} {a b : Array Keyed} {Q : Array Keyed → SortSt → Prop} (hk : kindOf st = kd) (hDa : ∀ p ∈ a.toList, D p.1) (hDb : ∀ p ∈ b.toList, D p.1) (ua : Up rk a.toList) (ub : Up rk b.toList) {b0 a0 : Keyed} {n : Nat} {al : Keyed}
    (hb0 : b[0]? = some b0) (ha0 : a[0]? = some a0) (hlt : rk b0.1 ≤ rk a0.1) (hn : a.size = n + 1) (hal : a[n]? = some al) (hlast : ∀ x ∈ b.toList, rk x.1 ≤ rk al.1)
    (h : ∀ l st', SameS st st' → Merged rk a.toList b.toList l.toList → Q l st') : wpS (model prog w) A E s (mergeHi' a b) Q st := by
  have atA : ∀ {i : Nat}, i < a.size → ∃ p, a[i]? = some p ∧ D p.1 := fun {i} hi => ⟨a[i], getElem?_pos a i hi, hDa _ (by simp)⟩
  have atB : ∀ {i : Nat}, i < b.size → ∃ p, b[i]? = some p ∧ D p.1 := fun {i} hi => ⟨b[i], getElem?_pos b i hi, hDb _ (by simp)⟩
  have hbs : 0 < b.size := by
    cases e : b.size with
    | zero => rw [Array.getElem?_eq_none (by omega)] at hb0; cases hb0
    | succ m => omega
  have m0 : MHi rk a.toList b.toList [] (n + 1) b.size := by
    have := MHi.start (rk := rk) (la := a.toList) (lb := b.toList)
    simpa [hn] using this
  have m1 : MHi rk a.toList b.toList (#[al] : Array Keyed).toList.reverse n b.size := by
    simpa using m0.stA ua hal fun x hx => hlast x (List.mem_of_mem_take hx)
  have dn : ∀ {o : Array Keyed} {na nb : Nat}, MHi rk a.toList b.toList o.toList.reverse na nb → (na = 0 ∨ nb = 0) → Merged rk a.toList b.toList (a.extract 0 na ++ b.extract 0 nb ++ o.reverse).toList := fun {o na nb} m hh => by
    rw [Array.toList_append, Array.toList_append, tl_first, tl_first, Array.toList_reverse]
    exact m.doneA ua ub hh
  have fB : ∀ {o : Array Keyed} {na nb : Nat}, MHi rk a.toList b.toList o.toList.reverse na nb → nb = 1 → Merged rk a.toList b.toList (b.extract 0 nb ++ a.extract 0 na ++ o.reverse).toList := fun {o na nb} m hh => by
    rw [Array.toList_append, Array.toList_append, tl_first, tl_first, Array.toList_reverse]
    refine m.doneB ua ub fun x hx y hy => ?_
    subst hh
    refine Nat.le_trans (up_to ub (tl_some hb0) x hx) (Nat.le_trans hlt (up_from ua (tl_some ha0) y (by simpa using hy)))
  have eP : ∀ (o : Array Keyed) (p : Keyed), (o.push p).toList.reverse = p :: o.toList.reverse := fun o p => by simp
  have eC : ∀ (o c : Array Keyed), (o ++ c.reverse).toList.reverse = c.toList ++ o.toList.reverse := fun o c => by simp
  unfold mergeHi'
  refine wpS_bind (wpS_lift (wpAny_rule ⟨rfl, ?_⟩))
  have hal' : a[a.size - 1]? = some al := by rw [hn]; exact hal
  refine wpS_bind (tim_elem hal' ?_)
  have en : a.size - 1 = n := by omega
  rw [en]
  by_cases h1 : (n == 0) = true
  · first | refine wpS_yes h1 ?_ | rw [if_pos h1]
    exact wpS_pure (h _ _ ⟨rfl, rfl, rfl, rfl⟩ (dn m1 (.inl (beq_iff_eq.mp h1))))
  first | refine wpS_no h1 ?_ | rw [if_neg h1]
  by_cases h2 : (b.size == 1) = true
  · first | refine wpS_yes h2 ?_ | rw [if_pos h2]
    exact wpS_pure (h _ _ ⟨rfl, rfl, rfl, rfl⟩ (fB m1 (beq_iff_eq.mp h2)))
  first | refine wpS_no h2 ?_ | rw [if_neg h2]
  have h1' : 0 < n := by have : ¬ n = 0 := fun z => h1 (beq_iff_eq.mpr z); omega
  have h2' : 1 < b.size := by have : ¬ b.size = 1 := fun z => h2 (beq_iff_eq.mpr z); omega
  refine wpS_bind (wpS_get ?_)
  refine wpS_bind (wpS_mono (wpS_forRange (I := fun x c st' => SameS st st' ∧ HiI1 rk a b x c)
    (Q := fun c st' => SameS st st' ∧ HiI2 rk a b c) ?step ?fin ⟨⟨rfl, rfl, rfl, rfl⟩, n, b.size, _, _, rfl, m1, h1', by omega, h2', by omega, by omega⟩) ?post)
  case fin =>
    rintro c st' ⟨_, na, nb, o, mg, rfl, m, b1, b2, b3, b4, b5⟩
    omega
  case post =>
    rintro c st' ⟨sm, l, na, nb, o, mg, rfl, m⟩
    exact wpS_pure (h l st' sm m)
  case step =>
    rintro x c st1 _ hx ⟨sm, na, nb, o, mg, rfl, m, b1, b2, b3, b4, b5⟩
    refine wpS_bind (wpS_mono (wpS_forRange (I := fun y c st' => st' = st1 ∧ HiI3 rk a b x y c)
      (Q := fun c st' => st' = st1 ∧ (HiI4 rk a b c ∨ HiI5 rk a b x c)) ?step1 ?fin1 ⟨rfl, na, nb, o, 0, 0, rfl, m, b1, b2, b3, b4, b5, by omega⟩) ?post1)
    case fin1 =>
      rintro c st' ⟨_, na, nb, o, ac, bc, rfl, m, b1, b2, b3, b4, b5, b6⟩
      omega
    case step1 =>
      rintro y c st2 _ hy ⟨e2, na1, nb1, o, ac, bc, rfl, m, b1, b2, b3, b4, b5, b6⟩
      rw [e2]
      clear e2
      obtain ⟨na, rfl⟩ : ∃ q, na1 = q + 1 := ⟨na1 - 1, by omega⟩
      obtain ⟨nb, rfl⟩ : ∃ q, nb1 = q + 1 := ⟨nb1 - 1, by omega⟩
      dsimp only
      simp only [Nat.add_sub_cancel]
      obtain ⟨pb, hpb, dpb⟩ := atB (i := nb) (by omega)
      obtain ⟨pa, hpa, dpa⟩ := atA (i := na) (by omega)
      refine wpS_bind (tim_elem hpb (wpS_bind (tim_elem hpa (wpS_bind (tim_lt C (sm.1.trans hk) dpb dpa ?_)))))
      by_cases hw : rk pb.1 < rk pa.1
      · first | refine wpS_yes (decide_eq_true hw) ?_ | rw [if_pos (decide_eq_true hw)]
        refine wpS_bind (tim_elem hpa ?_)
        have m' : MHi rk a.toList b.toList (o.push pa).toList.reverse na (nb + 1) := by rw [eP]; exact m.stA ua hpa fun z hz => Nat.le_trans (up_to ub (tl_some hpb) z hz) (Nat.le_of_lt hw)
        by_cases g1 : (na == 0) = true
        · first | refine wpS_yes g1 ?_ | rw [if_pos g1]
          exact wpS_pure ⟨rfl, .inl ⟨_, _, _, _, _, _, rfl, dn m' (.inl (beq_iff_eq.mp g1))⟩⟩
        · first | refine wpS_no g1 ?_ | rw [if_neg g1]
          have g1' : 0 < na := by have : ¬ na = 0 := fun z => g1 (beq_iff_eq.mpr z); omega
          by_cases g2 : ac + 1 ≥ mg
          · first | refine wpS_yes g2 ?_ | rw [if_pos g2]
            exact wpS_pure ⟨rfl, .inr ⟨_, _, _, _, _, rfl, m', g1', by omega, b3, b4, by omega⟩⟩
          · first | refine wpS_no g2 ?_ | rw [if_neg g2]
            exact wpS_pure ⟨rfl, _, _, _, _, _, rfl, m', g1', by omega, b3, b4, by omega, by omega⟩
      · first | refine wpS_no (by rw [decide_eq_false hw]; exact Bool.false_ne_true) ?_ | rw [if_neg (by rw [decide_eq_false hw]; exact Bool.false_ne_true)]
        refine wpS_bind (tim_elem hpb ?_)
        have m' : MHi rk a.toList b.toList (o.push pb).toList.reverse (na + 1) nb := by rw [eP]; exact m.stB ub hpb fun z hz => Nat.le_trans (up_to ua (tl_some hpa) z hz) (by omega)
        by_cases g1 : (nb == 1) = true
        · first | refine wpS_yes g1 ?_ | rw [if_pos g1]
          exact wpS_pure ⟨rfl, .inl ⟨_, _, _, _, _, _, rfl, fB m' (beq_iff_eq.mp g1)⟩⟩
        · first | refine wpS_no g1 ?_ | rw [if_neg g1]
          have g1' : 1 < nb := by have : ¬ nb = 1 := fun z => g1 (beq_iff_eq.mpr z); omega
          by_cases g2 : bc + 1 ≥ mg
          · first | refine wpS_yes g2 ?_ | rw [if_pos g2]
            exact wpS_pure ⟨rfl, .inr ⟨_, _, _, _, _, rfl, m', b1, b2, g1', by omega, by omega⟩⟩
          · first | refine wpS_no g2 ?_ | rw [if_neg g2]
            exact wpS_pure ⟨rfl, _, _, _, _, _, rfl, m', b1, b2, g1', by omega, by omega, by omega⟩
    case post1 =>
      clear m b1 b2 b3 b4 b5
      rintro c st2 ⟨e2, ⟨l, na, nb, o, ac, bc, rfl, m⟩ | ⟨na, nb, o, ac, bc, rfl, m, b1, b2, b3, b4, b5⟩⟩
      · rw [e2]
        exact wpS_pure ⟨sm, l, _, _, _, _, rfl, m⟩
      rw [e2]
      clear e2
      refine wpS_bind (wpS_lift (wpAny_rule ⟨rfl, ?_⟩))
      refine wpS_bind (wpS_mono (wpS_forRange (I := fun y c st' => SameS st st' ∧ HiI6 rk a b x y c)
        (Q := fun c st' => SameS st st' ∧ (HiI7 rk a b c ∨ HiI8 rk a b x c)) ?step3 ?fin3 ⟨sm, na, nb, o, _, _, _, rfl, m, b1, b2, b3, b4, b5, by omega⟩) ?post3)
      case fin3 =>
        rintro c st' ⟨_, na, nb, o, mg, ac, bc, rfl, m, b1, b2, b3, b4, b5, b6⟩
        omega
      case post3 =>
        clear m b1 b2 b3 b4 b5
        rintro c st2 ⟨sm, ⟨l, na, nb, o, mg, ac, bc, rfl, m⟩ | ⟨na, nb, o, mg, ac, bc, rfl, m, b1, b2, b3, b4, b5⟩⟩
        · exact wpS_pure ⟨sm, l, _, _, _, _, rfl, m⟩
        · exact wpS_bind (wpS_modify (wpS_pure ⟨sm, _, _, _, _, rfl, m, b1, b2, b3, b4, by omega⟩))
      case step3 =>
        clear m b1 b2 b3 b4 b5
        rintro y c st2 _ hy ⟨sm2, na, nb1, o, mg2, ac, bc, rfl, m, b1, b2, b3, b4, b5, b6⟩
        obtain ⟨nb, rfl⟩ : ∃ q, nb1 = q + 1 := ⟨nb1 - 1, by omega⟩
        dsimp only
        simp only [Nat.add_sub_cancel]
        obtain ⟨pb, hpb, dpb⟩ := atB (i := nb) (by omega)
        apply both
        · intro key
          by_cases hg : mg2 > 1
          · rw [if_pos hg]
            generalize mg2 - 1 = mg3
            revert mg3
            exact key.out
          · rw [if_neg hg]
            exact key.out mg2
        · intro mg3
          refine wpS_bind (wpS_modify (wpS_bind (tim_elem hpb ?_)))
          refine wpS_bind (tim_gallop C (sm2.1.trans hk) dpb (by omega) hDa (by omega) (bey_mono ua (by omega)) fun k k1 k2 k3 => ?_)
          have kt := bey_take k2
          apply both
          ·intro key
           have mk := m.gaA k1 ua k3 (up_to ub (tl_some hpb))
           rw [← eC] at mk
           by_cases hk0 : na - k > 0
           case' pos =>
            first | refine wpS_yes hk0 ?_ | rw [if_pos hk0]
            by_cases g1 : (k == 0) = true
            case pos =>
              first | refine wpS_yes g1 ?_ | rw [if_pos g1]
              exact wpS_pure ⟨sm2, .inl ⟨_, _, _, _, _, _, _, rfl, dn mk (.inl (beq_iff_eq.mp g1))⟩⟩
            first | refine wpS_no g1 ?_ | rw [if_neg g1]
            have c1 : 0 < k := by have : ¬ k = 0 := fun z => g1 (beq_iff_eq.mpr z); omega
            have c2 : k < a.size := by omega
            have c3 : x + 1 + k + nb + 1 ≤ a.size + b.size := by omega
            have c4 : y + k + nb + 1 ≤ a.size + b.size := by omega
            revert mk c1 c2 c3 c4
            generalize na - k = ka
            generalize o ++ (a.extract k na).reverse = o2
            revert ka o2
            exact key.out
           case' neg =>
            first | refine wpS_no hk0 ?_ | rw [if_neg hk0]
            obtain rfl : k = na := by omega
            exact key.out _ _ m b1 b2 (by omega) (by omega)
          · intro ka o2 mk c1 c2 c3 c4
            clear m b1 b2 b5 b6 k2 k3 k1
            refine wpS_bind (tim_elem hpb ?_)
            have m' : MHi rk a.toList b.toList (o2.push pb).toList.reverse k nb := by rw [eP]; exact mk.stB ub hpb kt
            by_cases g3 : (nb == 1) = true
            case pos =>
              first | refine wpS_yes g3 ?_ | rw [if_pos g3]
              exact wpS_pure ⟨sm2, .inl ⟨_, _, _, _, _, _, _, rfl, fB m' (beq_iff_eq.mp g3)⟩⟩
            first | refine wpS_no g3 ?_ | rw [if_neg g3]
            have g3' : 1 < nb := by have : ¬ nb = 1 := fun z => g3 (beq_iff_eq.mpr z); omega
            obtain ⟨k, rfl⟩ : ∃ q, k = q + 1 := ⟨k - 1, by omega⟩
            simp only [Nat.add_sub_cancel]
            obtain ⟨pa, hpa, dpa⟩ := atA (i := k) (by omega)
            refine wpS_bind (tim_elem hpa ?_)
            refine wpS_bind (tim_gallop C (sm2.1.trans hk) dpa (by omega) hDb (by omega) (bey_mono ub (by omega)) fun j j1 j2 j3 => ?_)
            have jt := bey_take j2
            apply both
            ·intro key
             have mj := m'.gaB j1 ub j3 (up_to ua (tl_some hpa))
             rw [← eC] at mj
             by_cases hj0 : nb - j > 0
             case' pos =>
              first | refine wpS_yes hj0 ?_ | rw [if_pos hj0]
              by_cases g4 : (j == 1) = true
              case pos =>
                first | refine wpS_yes g4 ?_ | rw [if_pos g4]
                exact wpS_pure ⟨sm2, .inl ⟨_, _, _, _, _, _, _, rfl, fB mj (beq_iff_eq.mp g4)⟩⟩
              first | refine wpS_no g4 ?_ | rw [if_neg g4]
              by_cases g6 : (j == 0) = true
              case pos =>
                first | refine wpS_yes g6 ?_ | rw [if_pos g6]
                exact wpS_pure ⟨sm2, .inl ⟨_, _, _, _, _, _, _, rfl, dn mj (.inr (beq_iff_eq.mp g6))⟩⟩
              first | refine wpS_no g6 ?_ | rw [if_neg g6]
              have d1 : 1 < j := by
                have : ¬ j = 1 := fun z => g4 (beq_iff_eq.mpr z)
                have : ¬ j = 0 := fun z => g6 (beq_iff_eq.mpr z)
                omega
              have d2 : j ≤ nb := j1
              revert mj d1 d2
              generalize nb - j = kb
              generalize (o2.push pb) ++ (b.extract j nb).reverse = o3
              revert kb o3
              exact key.out
             case' neg =>
              first | refine wpS_no hj0 ?_ | rw [if_neg hj0]
              obtain rfl : j = nb := by omega
              exact key.out _ _ m' g3' (Nat.le_refl _)
            · intro kb o3 mj d1 d2
              clear j1 j2 j3
              refine wpS_bind (tim_elem hpa ?_)
              have m4 : MHi rk a.toList b.toList (o3.push pa).toList.reverse k j := by rw [eP]; exact mj.stA ua hpa jt
              by_cases g5 : (k == 0) = true
              case pos =>
                first | refine wpS_yes g5 ?_ | rw [if_pos g5]
                exact wpS_pure ⟨sm2, .inl ⟨_, _, _, _, _, _, _, rfl, dn m4 (.inl (beq_iff_eq.mp g5))⟩⟩
              first | refine wpS_no g5 ?_ | rw [if_neg g5]
              have g5' : 0 < k := by have : ¬ k = 0 := fun z => g5 (beq_iff_eq.mpr z); omega
              split
              · exact wpS_pure ⟨sm2, .inr ⟨_, _, _, _, _, _, rfl, m4, g5', by omega, d1, by omega, by omega⟩⟩
              · exact wpS_pure ⟨sm2, _, _, _, _, _, _, rfl, m4, g5', by omega, d1, by omega, by omega, by omega⟩
end
end L2
set_option maxHeartbeats 4000000
namespace L2
open PySem PyProof.Rows
theorem laid_at (sa : Nat) : ∀ (l : List Keyed) (k : Nat) (arr : Array Keyed), sa + k + l.length ≤ arr.size → ((l.zipIdx k).foldl (fun a (x : Keyed × Nat) => a.setIfInBounds (sa + x.2) x.1) arr).toList = arr.toList.take (sa + k) ++ (l ++ arr.toList.drop (sa + k + l.length))
  | [], k, arr, h => by simp
  | p :: l, k, arr, h => by
    rw [List.length_cons] at h
    rw [List.zipIdx_cons, List.foldl_cons, laid_at sa l (k + 1) _ (by rw [Array.size_setIfInBounds]; omega), Array.toList_setIfInBounds]
    have hlt : sa + k < arr.toList.length := by rw [Array.length_toList]; omega
    have e1 : (arr.toList.set (sa + k) p).take (sa + (k + 1)) = arr.toList.take (sa + k) ++ [p] := by
      rw [← Nat.add_assoc, List.take_succ_eq_append_getElem (by rw [List.length_set]; exact hlt), List.getElem_set_self, List.take_set_of_le (by omega)]
    have e2 : (arr.toList.set (sa + k) p).drop (sa + (k + 1) + l.length) = arr.toList.drop (sa + k + (p :: l).length) := by
      rw [List.drop_set_of_lt (by omega), List.length_cons]
      congr 1
      omega
    rw [e1, e2]
    simp
theorem pend_one {ps1 ps2 : List (Nat × Nat × Nat)} {x y z : Nat × Nat × Nat} {p : Array (Nat × Nat × Nat)} (h : p.toList = ps1 ++ x :: y :: ps2) : ((p.setIfInBounds ps1.length z).eraseIdxIfInBounds (ps1.length + 1)).toList = ps1 ++ z :: ps2 := by
  rw [Array.toList_eraseIdxIfInBounds, Array.toList_setIfInBounds, h, List.set_append_right _ _ (Nat.le_refl _), Nat.sub_self, List.set_cons_zero, List.eraseIdx_append_of_length_le (by omega)]
  rw [show ps1.length + 1 - ps1.length = 1 by omega]
  rfl
theorem bey_mono2 {rk : Value → Nat} {a : Array Keyed} {base n : Nat} {left : Bool} {key : Keyed} {P l R : List Keyed} (e : a.toList = P ++ (l ++ R)) (hP : P.length = base) (hn : n = l.length) (u : Up rk l) : ∀ i j, i ≤ j → j < n → bey rk left key a base j = true → bey rk left key a base i = true := fun i j hij hj h => by
  have at' : ∀ i, i < n → a[base + i]? = l[i]? := fun i hi => by
    rw [← Array.getElem?_toList, e, List.getElem?_append_right (by omega), hP, List.getElem?_append_left (by omega)]
    congr 1
    omega
  have hi' : i < l.length := by omega
  have hj' : j < l.length := by omega
  have ei := (at' i (by omega)).trans (List.getElem?_eq_getElem hi')
  have ej := (at' j (by omega)).trans (List.getElem?_eq_getElem hj')
  have le : rk l[i].1 ≤ rk l[j].1 := by
    rcases Nat.lt_or_eq_of_le hij with q | rfl
    · exact (List.pairwise_iff_getElem.mp u) i j hi' hj' q
    · exact Nat.le_refl _
  unfold bey at h ⊢
  rw [ej] at h
  rw [ei]
  cases left with
  | true => simp only [if_true, decide_eq_true_eq] at h ⊢; omega
  | false => simp only [Bool.false_eq_true, if_false, Bool.not_eq_true', decide_eq_false_iff_not] at h ⊢; omega
section
variable {prog : Program} {w : World} {A : Around} {E : Value → Shared → Prop} {s : Shared} {kd : SortKind} {D : Value → Prop} {rk : Value → Nat}
theorem tim_set {M : Model} {st st' : SortSt} {Q : PUnit → SortSt → Prop} (h : Q ⟨⟩ st') : wpS M A E s (set st' : StateT SortSt Sem PUnit) Q st := by
  unfold wpS; rw [StateT.run_set]; exact wpAny_pure ⟨rfl, h⟩
theorem tim_mergeAt (C : Cmp prog w A s kd D rk) {st : SortSt} {i sa na pw sb nb pw2 : Nat} {ps1 ps2 : List (Nat × Nat × Nat)} {P la lb R : List Keyed} {Q : Bool → SortSt → Prop} (hk : kindOf st = kd) (hf : failedOf st = none) (hD : ∀ p ∈ (arrOf st).toList, D p.1)
    (hp : (pendingOf st).toList = ps1 ++ (sa, na, pw) :: (sb, nb, pw2) :: ps2) (hi : ps1.length = i) (ha : (arrOf st).toList = P ++ (la ++ (lb ++ R))) (hP : P.length = sa) (hla : la.length = na) (hsb : sb = sa + na) (hlb : lb.length = nb) (a0 : 0 < na) (b0 : 0 < nb) (ua : Up rk la) (ub : Up rk lb)
    (h : ∀ st' l, kindOf st' = kd → failedOf st' = none → Merged rk la lb l → (arrOf st').toList = P ++ (l ++ R) → (pendingOf st').toList = ps1 ++ (sa, na + nb, pw) :: ps2 → Q true st') : wpS (model prog w) A E s (mergeAt' i) Q st := by
  subst hi hP hla hsb hlb
  have p1 : (pendingOf st)[ps1.length]? = some (P.length, la.length, pw) := by rw [← Array.getElem?_toList, hp]; simp
  have p2 : (pendingOf st)[ps1.length + 1]? = some (P.length + la.length, lb.length, pw2) := by rw [← Array.getElem?_toList, hp, List.getElem?_append_right (by omega)]; simp
  have hsz : (arrOf st).size = P.length + (la.length + (lb.length + R.length)) := by rw [← Array.length_toList, ha]; simp
  have atA : ∀ j, j < la.length → (arrOf st)[P.length + j]? = la[j]? := fun j hj => by
    rw [← Array.getElem?_toList, ha, List.getElem?_append_right (by omega), List.getElem?_append_left (by omega)]
    congr 1; omega
  have atB : ∀ j, j < lb.length → (arrOf st)[P.length + la.length + j]? = lb[j]? := fun j hj => by
    rw [← Array.getElem?_toList, ha, List.getElem?_append_right (by omega), List.getElem?_append_right (by omega), List.getElem?_append_left (by omega)]
    congr 1; omega
  have dA : ∀ p ∈ la, D p.1 := fun p hp => hD p (by rw [ha]; simp [hp])
  have dB : ∀ p ∈ lb, D p.1 := fun p hp => hD p (by rw [ha]; simp [hp])
  unfold mergeAt'
  refine wpS_bind (wpS_get ?_)
  have q1 := p1
  have q2 := p2
  unfold pendingOf at q1 q2
  rw [q1, q2]
  refine wpS_bind (tim_set ?_)
  have hst : ∀ (x : SortSt), kindOf x = kindOf st → kindOf x = kd := fun x e => e.trans hk
  obtain ⟨fb, hfb⟩ : ∃ p, lb[0]? = some p := ⟨lb[0], List.getElem?_eq_getElem b0⟩
  have efb : (arrOf st)[P.length + la.length]? = some fb := by have := atB 0 b0; rw [Nat.add_zero, hfb] at this; exact this
  have dfb : D fb.1 := dB _ (List.mem_of_getElem? hfb)
  refine wpS_bind (tim_elem efb ?_)
  refine wpS_bind (tim_gallop C hk dfb (by show _ ≤ (arrOf st).size; omega) hD a0 (bey_mono2 ha rfl rfl ua) fun k k1 k2 k3 => ?_)
  dsimp only
  have eb : ∀ {left : Bool} {key : Keyed} {j : Nat} (hj : j < la.length), bey rk left key (arrOf st) P.length j = (if left then decide (rk la[j].1 < rk key.1) else !decide (rk key.1 < rk la[j].1)) := fun {left key j} hj => by
    unfold bey
    rw [atA j hj, List.getElem?_eq_getElem hj]
  have ec : ∀ {left : Bool} {key : Keyed} {j : Nat} (hj : j < lb.length), bey rk left key (arrOf st) (P.length + la.length) j = (if left then decide (rk lb[j].1 < rk key.1) else !decide (rk key.1 < rk lb[j].1)) := fun {left key j} hj => by
    unfold bey
    rw [atB j hj, List.getElem?_eq_getElem hj]
  have lowA : ∀ x ∈ la.take k, rk x.1 ≤ rk fb.1 := fun x hx => by
    obtain ⟨j, hj, e⟩ := mem_take hx
    have hj' : j < la.length := by omega
    rw [List.getElem?_eq_getElem hj'] at e
    cases e
    have := k2 j hj
    rw [eb hj'] at this
    simpa using this
  have fbB : ∀ y ∈ lb, rk fb.1 ≤ rk y.1 := fun y hy => up_from ub hfb y (by simpa using hy)
  have lk : (la.take k).length = k := by rw [List.length_take]; omega
  by_cases g1 : (la.length - k == 0) = true
  · rw [if_pos g1]
    have ek : k = la.length := by have := beq_iff_eq.mp g1; omega
    refine wpS_pure (h _ (la ++ lb) hk hf ⟨List.Perm.refl _, List.pairwise_append.mpr ⟨ua, ub, fun x hx y hy => Nat.le_trans (lowA x (by rw [ek, List.take_length]; exact hx)) (fbB y hy)⟩⟩ (by rw [List.append_assoc]; exact ha) (pend_one hp))
  rw [if_neg g1]
  have hkl : k < la.length := by have : ¬ la.length - k = 0 := fun z => g1 (beq_iff_eq.mpr z); omega
  obtain ⟨n, hn⟩ : ∃ n, la.length = n + 1 := ⟨la.length - 1, by omega⟩
  obtain ⟨al, hal⟩ : ∃ p, la[n]? = some p := ⟨la[n], List.getElem?_eq_getElem (by omega)⟩
  have eal : (arrOf st)[P.length + k + (la.length - k) - 1]? = some al := by
    have := atA n (by omega)
    rw [hal] at this
    rw [show P.length + k + (la.length - k) - 1 = P.length + n by omega]
    exact this
  have dal : D al.1 := dA _ (List.mem_of_getElem? hal)
  refine wpS_bind (tim_elem eal ?_)
  have ha2 : (arrOf st).toList = (P ++ la) ++ (lb ++ R) := by rw [ha, List.append_assoc]
  refine wpS_bind (tim_gallop C hk dal (by show _ ≤ (arrOf st).size; omega) hD (by omega) (bey_mono2 ha2 (by simp) rfl ub) fun j j1 j2 j3 => ?_)
  dsimp only
  have alA : ∀ x ∈ la, rk x.1 ≤ rk al.1 := fun x hx => up_to ua hal x (by rw [← hn, List.take_length]; exact hx)
  have hiB : ∀ y ∈ lb.drop j, rk al.1 ≤ rk y.1 := fun y hy => by
    obtain ⟨q, hq⟩ := List.mem_iff_getElem?.mp hy
    rw [List.getElem?_drop] at hq
    have hlt : j + q < lb.length := (List.getElem?_eq_some_iff.mp hq).1
    rw [List.getElem?_eq_getElem hlt] at hq
    cases hq
    have := j3 (j + q) (by omega) hlt
    rw [ec hlt] at this
    simpa using this
  have loB : ∀ y ∈ lb.take j, rk y.1 ≤ rk al.1 := fun y hy => by
    obtain ⟨q, hq, e⟩ := mem_take hy
    have hlt : q < lb.length := by omega
    rw [List.getElem?_eq_getElem hlt] at e
    cases e
    have := j2 q hq
    rw [ec hlt] at this
    exact Nat.le_of_lt (by simpa using this)
  by_cases g2 : (j == 0) = true
  · rw [if_pos g2]
    have ej : j = 0 := beq_iff_eq.mp g2
    refine wpS_pure (h _ (la ++ lb) hk hf ⟨List.Perm.refl _, List.pairwise_append.mpr ⟨ua, ub, fun x hx y hy => Nat.le_trans (alA x hx) (hiB y (by rw [ej]; exact hy))⟩⟩ (by rw [List.append_assoc]; exact ha) (pend_one hp))
  rw [if_neg g2]
  have hj0 : 0 < j := by have : ¬ j = 0 := fun z => g2 (beq_iff_eq.mpr z); omega
  have ex : ((arrOf st).extract (P.length + k) (P.length + la.length)).toList = la.drop k := by
    rw [Array.toList_extract, List.extract_eq_drop_take, ha, show P.length + la.length - (P.length + k) = la.length - k by omega, ← List.drop_drop, List.drop_left, List.drop_append_of_le_length (by omega), List.take_left' (by rw [List.length_drop])]
  have ey : ((arrOf st).extract (P.length + la.length) (P.length + la.length + j)).toList = lb.take j := by
    rw [Array.toList_extract, List.extract_eq_drop_take, ha2, show P.length + la.length + j - (P.length + la.length) = j by omega, List.drop_left' (by simp), List.take_append_of_le_length (by omega)]
  generalize (arrOf st).extract (P.length + k) (P.length + la.length) = x at ex
  have ey' : ((arrOf st).extract (P.length + la.length) (P.length + la.length + j)).toList = lb.take j := ey
  clear ey
  generalize (arrOf st).extract (P.length + la.length) (P.length + la.length + j) = y at ey'
  obtain ⟨fa, hfa⟩ : ∃ p, la[k]? = some p := ⟨la[k], List.getElem?_eq_getElem hkl⟩
  have x0 : x[0]? = some fa := by rw [← Array.getElem?_toList, ex, List.getElem?_drop, Nat.add_zero]; exact hfa
  have y0 : y[0]? = some fb := by rw [← Array.getElem?_toList, ey', List.getElem?_take_of_lt hj0]; exact hfb
  have hle : rk fb.1 ≤ rk fa.1 := by
    have := k3 k (Nat.le_refl _) hkl
    rw [show bey rk false fb (arrOf st) P.length k = _ from eb hkl] at this
    have e : la[k] = fa := by have := hfa; rw [List.getElem?_eq_getElem hkl] at this; exact Option.some.inj this
    rw [e] at this
    exact Nat.le_of_lt (by simpa using this)
  have xs : x.size = (n - k) + 1 := by rw [← Array.length_toList, ex, List.length_drop]; omega
  have xl : x[n - k]? = some al := by rw [← Array.getElem?_toList, ex, List.getElem?_drop, show k + (n - k) = n by omega]; exact hal
  have uax : Up rk x.toList := by rw [ex]; exact List.Pairwise.sublist (List.drop_sublist _ _) ua
  have uby : Up rk y.toList := by rw [ey']; exact List.Pairwise.sublist (List.take_sublist _ _) ub
  have dax : ∀ p ∈ x.toList, D p.1 := fun p hp => dA p (by rw [ex] at hp; exact List.mem_of_mem_drop hp)
  have dby : ∀ p ∈ y.toList, D p.1 := fun p hp => dB p (by rw [ey'] at hp; exact List.mem_of_mem_take hp)
  have lst : ∀ z ∈ y.toList, rk z.1 ≤ rk al.1 := fun z hz => loB z (by rw [ey'] at hz; exact hz)
  have key : ∀ (l : Array Keyed) (st2 : SortSt), SameS (SortSt.mk' (kindOf st) (arrOf st) (((pendingOf st).setIfInBounds ps1.length (P.length, la.length + lb.length, pw)).eraseIdxIfInBounds (ps1.length + 1)) (gallopOf st) (failedOf st)) st2 → Merged rk x.toList y.toList l.toList →
      ∀ st3 : SortSt, kindOf st3 = kindOf st2 → pendingOf st3 = pendingOf st2 → failedOf st3 = failedOf st2 → arrOf st3 = l.toList.zipIdx.foldl (fun a (x : Keyed × Nat) => a.setIfInBounds (P.length + k + x.2) x.1) (arrOf st2) → Q true st3 := by
    rintro l st2 ⟨s1, s2, s3, s4⟩ ⟨mp, mu⟩ st3 t1 t2 t3 t4
    have ll : l.toList.length = (la.length - k) + j := by rw [mp.length_eq, List.length_append, ex, ey', List.length_drop, List.length_take]; omega
    have e2 : arrOf st2 = arrOf st := s2
    have hlen : P.length + k + 0 + l.toList.length ≤ (arrOf st).size := by omega
    have e3 : (arrOf st3).toList = (P ++ la.take k) ++ (l.toList ++ (lb.drop j ++ R)) := by
      rw [t4, e2, laid_at (P.length + k) l.toList 0 _ hlen, Nat.add_zero]
      congr 1
      · rw [ha, List.take_append, List.take_of_length_le (by omega), show P.length + k - P.length = k by omega, List.take_append_of_le_length (by omega)]
      · congr 1
        rw [ll, ha2, show P.length + k + (la.length - k + j) = (P ++ la).length + j by rw [List.length_append]; omega, List.drop_append, List.drop_eq_nil_of_le (by omega), show (P ++ la).length + j - (P ++ la).length = j by omega, List.nil_append, List.drop_append_of_le_length (by omega)]
    refine h st3 (la.take k ++ (l.toList ++ lb.drop j)) (t1.trans (s1.trans hk)) (t3.trans (s4.trans hf)) ⟨?_, ?_⟩ ?_ ?_
    · rw [ex, ey'] at mp
      have p1 : (la.take k ++ (l.toList ++ lb.drop j)).Perm (la.take k ++ ((la.drop k ++ lb.take j) ++ lb.drop j)) := List.Perm.append_left _ (List.Perm.append_right _ mp)
      refine p1.trans (List.Perm.of_eq ?_)
      rw [List.append_assoc, List.take_append_drop, ← List.append_assoc, List.take_append_drop]
    · rw [ex, ey'] at mp
      have ud : Up rk (la.take k ++ la.drop k) := by rw [List.take_append_drop]; exact ua
      have ue : Up rk (lb.take j ++ lb.drop j) := by rw [List.take_append_drop]; exact ub
      obtain ⟨u1, u2, u3⟩ := List.pairwise_append.mp ud
      obtain ⟨v1, v2, v3⟩ := List.pairwise_append.mp ue
      refine List.pairwise_append.mpr ⟨u1, List.pairwise_append.mpr ⟨mu, v2, fun z hz y hy => ?_⟩, fun z hz y hy => ?_⟩
      · rcases List.mem_append.mp (mp.mem_iff.mp hz) with q | q
        · exact Nat.le_trans (alA z (List.mem_of_mem_drop q)) (hiB y hy)
        · exact v3 z q y hy
      · rcases List.mem_append.mp hy with q | q
        · rcases List.mem_append.mp (mp.mem_iff.mp q) with q | q
          · exact u3 z hz y q
          · exact Nat.le_trans (lowA z hz) (fbB y (List.mem_of_mem_take q))
        · exact Nat.le_trans (lowA z hz) (fbB y (List.mem_of_mem_drop q))
    · rw [e3]
      simp [List.append_assoc]
    · rw [t2, show pendingOf st2 = _ from s3]
      exact pend_one hp
  by_cases g3 : la.length - k ≤ j
  · rw [if_pos g3]
    refine wpS_bind (tim_mergeLo C hk dax dby uax uby y0 x0 hle xs xl lst fun l st2 sm mm => ?_)
    refine wpS_bind (wpS_modify (wpS_bind (wpS_get (wpS_pure ?_))))
    have e : failedOf st2 = none := sm.2.2.2.trans hf
    have e' : (failedOf st2).isNone = true := by rw [e]; rfl
    show Q (failedOf st2).isNone _
    rw [e']
    exact key l st2 sm mm _ rfl rfl rfl rfl
  · rw [if_neg g3]
    refine wpS_bind (tim_mergeHi C hk dax dby uax uby y0 x0 hle xs xl lst fun l st2 sm mm => ?_)
    refine wpS_bind (wpS_modify (wpS_bind (wpS_get (wpS_pure ?_))))
    have e : failedOf st2 = none := sm.2.2.2.trans hf
    have e' : (failedOf st2).isNone = true := by rw [e]; rfl
    show Q (failedOf st2).isNone _
    rw [e']
    exact key l st2 sm mm _ rfl rfl rfl rfl
end
end L2
set_option maxHeartbeats 4000000
namespace L2
open PySem PyProof.Rows
noncomputable def ra (rk : Value → Nat) (arr : Array Keyed) (i : Nat) : Nat :=
  match arr[i]? with
  | some p => rk p.1
  | none => 0
noncomputable def Inc (rk : Value → Nat) (arr : Array Keyed) (lo n : Nat) : Prop := ∀ i j, i ≤ j → j < n → ra rk arr (lo + i) ≤ ra rk arr (lo + j)
noncomputable def Dec (rk : Value → Nat) (arr : Array Keyed) (lo n : Nat) : Prop := ∀ i j, i ≤ j → j < n → ra rk arr (lo + j) ≤ ra rk arr (lo + i)
theorem ra_mirror {rk : Value → Nat} {xs : Array Keyed} {i j : Nat} (hj : j ≤ xs.size) (k : Nat) : ra rk (mirror xs i j ((j - i) / 2)) k = if i ≤ k ∧ k < j then ra rk xs (i + j - 1 - k) else ra rk xs k := by
  unfold ra
  rw [getElem?_mirror_all hj]
  by_cases q : i ≤ k ∧ k < j
  · rw [if_pos q, if_pos q]
  · rw [if_neg q, if_neg q]
theorem ra_bubble {rk : Value → Nat} {xs : Array Keyed} {src d : Nat} (hs : src < xs.size) (hd : d ≤ src) (k : Nat) : ra rk (bubble xs src d) k = if k = src - d then ra rk xs src else if src - d < k ∧ k ≤ src then ra rk xs (k - 1) else ra rk xs k := by
  unfold ra
  rw [getElem?_bubble hs d hd]
  by_cases q : k = src - d
  · rw [if_pos q, if_pos q]
  · rw [if_neg q, if_neg q]
    by_cases q2 : src - d < k ∧ k ≤ src
    · rw [if_pos q2, if_pos q2]
    · rw [if_neg q2, if_neg q2]
theorem ra_mirror_eq {rk : Value → Nat} {xs : Array Keyed} {i j : Nat} (hj : j ≤ xs.size) (h : ∀ k, i ≤ k → k < j → ra rk xs k = ra rk xs (j - 1)) (k : Nat) : ra rk (mirror xs i j ((j - i) / 2)) k = ra rk xs k := by
  rw [ra_mirror hj]
  split
  · rw [h _ (by omega) (by omega), h k (by omega) (by omega)]
  · rfl
structure SB (st0 st : SortSt) (lo n : Nat) : Prop where
  kind : kindOf st = kindOf st0
  failed : failedOf st = failedOf st0
  pend : pendingOf st = pendingOf st0
  perm : (arrOf st).Perm (arrOf st0)
  out : ∀ i, (i < lo ∨ lo + n ≤ i) → (arrOf st)[i]? = (arrOf st0)[i]?
theorem SB.refl (st : SortSt) (lo n : Nat) : SB st st lo n := ⟨rfl, rfl, rfl, Array.Perm.refl _, fun _ _ => rfl⟩
theorem SB.size {st0 st : SortSt} {lo n : Nat} (h : SB st0 st lo n) : (arrOf st).size = (arrOf st0).size := h.perm.size_eq
theorem SB.mirr {st0 st : SortSt} {lo n i j : Nat} (h : SB st0 st lo n) (hi : lo ≤ i) (hj : j ≤ lo + n) (hz : lo + n ≤ (arrOf st0).size) : SB st0 (setArr st (mirror (arrOf st) i j ((j - i) / 2))) lo n :=
  ⟨h.kind, h.failed, h.pend, (mirror_perm _ _ _ _).trans h.perm, fun k hk => by
    show (mirror (arrOf st) i j ((j - i) / 2))[k]? = _
    rw [getElem?_mirror_all (by rw [h.size]; omega), if_neg (by omega)]
    exact h.out k hk⟩
theorem SB.bubb {st0 st : SortSt} {lo n src d : Nat} (h : SB st0 st lo n) (hs : src < lo + n) (hd : lo + d ≤ src) (hz : lo + n ≤ (arrOf st0).size) : SB st0 (setArr st (bubble (arrOf st) src d)) lo n :=
  ⟨h.kind, h.failed, h.pend, (bubble_perm _ _ _).trans h.perm, fun k hk => by
    show (PyProof.Rows.bubble (arrOf st) src d)[k]? = _
    rw [getElem?_bubble (by rw [h.size]; omega) d (by omega), if_neg (by omega), if_neg (by omega)]
    exact h.out k hk⟩
section
variable {prog : Program} {w : World} {A : Around} {E : Value → Shared → Prop} {s : Shared} {kd : SortKind} {D : Value → Prop} {rk : Value → Nat}
theorem tim_ltAt (C : Cmp prog w A s kd D rk) {st0 st : SortSt} {lo n i j : Nat} {Q : Option Bool → SortSt → Prop} (hB : SB st0 st lo n) (hk : kindOf st0 = kd) (hD : ∀ p ∈ (arrOf st0).toList, D p.1) (hi : i < (arrOf st0).size) (hj : j < (arrOf st0).size)
    (h : Q (some (decide (ra rk (arrOf st) i < ra rk (arrOf st) j))) st) : wpS (model prog w) A E s (ltAt' i j) Q st := by
  have at' : ∀ i, i < (arrOf st0).size → ∃ p, (arrOf st)[i]? = some p ∧ D p.1 ∧ ra rk (arrOf st) i = rk p.1 := fun i hi => by
    have hi' : i < (arrOf st).size := by rw [hB.size]; exact hi
    have e : (arrOf st)[i]? = some (arrOf st)[i] := getElem?_pos (arrOf st) i hi'
    exact ⟨_, e, hD _ ((Array.perm_iff_toList_perm.mp hB.perm).mem_iff.mp (by simp)), by unfold ra; rw [e]⟩
  obtain ⟨p, ep, dp, rp⟩ := at' i hi
  obtain ⟨q, eq, dq, rq⟩ := at' j hj
  rw [rp, rq] at h
  rw [ltAt'_eq]
  exact wpS_bind (wpS_get (wpS_bind (tim_elem ep (wpS_bind (tim_elem eq (tim_lt C (hB.kind.trans hk) dp dq h))))))
theorem inc_snoc {arr : Array Keyed} {lo x : Nat} (h : Inc rk arr lo x) (hx : 1 ≤ x) (hl : ra rk arr (lo + (x - 1)) ≤ ra rk arr (lo + x)) : Inc rk arr lo (x + 1) := fun i j hij hj => by
  by_cases hjx : j < x
  · exact h i j hij hjx
  · obtain rfl : j = x := by omega
    by_cases hi : i = j
    · subst hi; exact Nat.le_refl _
    · exact Nat.le_trans (h i (j - 1) (by omega) (by omega)) hl
theorem dec_snoc {arr : Array Keyed} {lo x : Nat} (h : Dec rk arr lo x) (hx : 1 ≤ x) (hl : ra rk arr (lo + x) ≤ ra rk arr (lo + (x - 1))) : Dec rk arr lo (x + 1) := fun i j hij hj => by
  by_cases hjx : j < x
  · exact h i j hij hjx
  · obtain rfl : j = x := by omega
    by_cases hi : i = j
    · subst hi; exact Nat.le_refl _
    · exact Nat.le_trans hl (h i (j - 1) (by omega) (by omega))
theorem tim_countRun (C : Cmp prog w A s kd D rk) {st : SortSt} {lo nrem : Nat} {Q : Option Nat → SortSt → Prop} (hk : kindOf st = kd) (hD : ∀ p ∈ (arrOf st).toList, D p.1) (hz : lo + nrem ≤ (arrOf st).size) (h1 : 1 ≤ nrem)
    (h : ∀ m st', SB st st' lo nrem → 1 ≤ m → m ≤ nrem → Inc rk (arrOf st') lo m → Q (some m) st') : wpS (model prog w) A E s (countRun' lo nrem) Q st := by
  rw [countRun'_eq]
  refine wpS_bind (wpS_mono (wpS_forRange (I := fun x c st' => st' = st ∧ c = (none, x) ∧ Inc rk (arrOf st) lo x) (Q := fun c st' => st' = st ∧ ∃ n, c = (none, n) ∧ 1 ≤ n ∧ n ≤ nrem ∧ Inc rk (arrOf st) lo n ∧ (n = nrem ∨ ra rk (arrOf st) (lo + n) < ra rk (arrOf st) (lo + n - 1))) ?step ?fin ⟨rfl, rfl, fun i j hij hj => by obtain rfl : i = j := (by omega); exact Nat.le_refl _⟩) ?post)
  case fin =>
    rintro c st' ⟨e, rfl, hs⟩
    rw [show max 1 nrem = nrem by omega] at hs ⊢
    exact ⟨e, nrem, rfl, h1, Nat.le_refl _, hs, .inl rfl⟩
  case step =>
    rintro x c st' hx1 hx2 ⟨e, rfl, hs⟩
    rw [e]
    dsimp only
    refine wpS_bind (tim_ltAt C (SB.refl st lo nrem) hk hD (by omega) (by omega) ?_)
    dsimp only
    by_cases hl : ra rk (arrOf st) (lo + x) < ra rk (arrOf st) (lo + x - 1)
    · rw [if_pos (decide_eq_true hl)]
      exact wpS_pure ⟨rfl, x, rfl, hx1, by omega, hs, .inr hl⟩
    · rw [if_neg (by rw [decide_eq_false hl]; exact Bool.false_ne_true)]
      exact wpS_pure ⟨rfl, rfl, inc_snoc hs hx1 (by rw [show lo + (x - 1) = lo + x - 1 by omega]; omega)⟩
  case post =>
    rintro c st1 ⟨e, n, rfl, n1, n2, hs, hor⟩
    rw [e]
    clear e st1
    dsimp only
    by_cases hn : (n == nrem) = true
    · rw [if_pos hn]
      exact wpS_pure (h n st (SB.refl _ _ _) n1 n2 hs)
    rw [if_neg hn]
    have hne : ¬ n = nrem := fun z => hn (beq_iff_eq.mpr z)
    have hlt := hor.resolve_left hne
    have goD : ∀ st2 : SortSt, SB st st2 lo nrem → (∀ i, ra rk (arrOf st2) i = ra rk (arrOf st) i) → (∀ i, i < n → ra rk (arrOf st) (lo + i) = ra rk (arrOf st) (lo + (n - 1))) → Dec rk (arrOf st2) lo (n + 1) := fun st2 _ e1 e2 => dec_snoc (fun i j hij hj => by rw [e1, e1, e2 i (by omega), e2 j hj]; exact Nat.le_refl _) n1 (by rw [e1, e1, show lo + (n - 1) = lo + n - 1 by omega]; omega)
    apply both
    ·intro key
     by_cases hg : n > 1
     case' pos =>
      rw [if_pos hg]
      refine wpS_bind (tim_ltAt C (SB.refl st lo nrem) hk hD (by omega) (by omega) ?_)
      dsimp only
      by_cases hr : ra rk (arrOf st) lo < ra rk (arrOf st) (lo + n - 1)
      case pos =>
        rw [if_pos (decide_eq_true hr)]
        exact wpS_pure (h n st (SB.refl _ _ _) n1 n2 hs)
      rw [if_neg (by rw [decide_eq_false hr]; exact Bool.false_ne_true)]
      refine wpS_bind (wpS_reverse ?_)
      have hall : ∀ k, lo ≤ k → k < lo + n → ra rk (arrOf st) k = ra rk (arrOf st) (lo + n - 1) := fun k k1 k2 => by
        have a1 := hs 0 (k - lo) (by omega) (by omega)
        have a2 := hs (k - lo) (n - 1) (by omega) (by omega)
        rw [show lo + (k - lo) = k by omega] at a1 a2
        rw [Nat.add_zero] at a1
        rw [show lo + (n - 1) = lo + n - 1 by omega] at a2
        omega
      have hS := (SB.refl st lo nrem).mirr (i := lo) (j := lo + n) (Nat.le_refl _) (by omega) hz
      have hDc := goD _ hS (ra_mirror_eq (by omega) hall) (fun i hi => by rw [hall (lo + i) (by omega) (by omega), show lo + (n - 1) = lo + n - 1 by omega])
      revert hS hDc
      generalize setArr st (mirror (arrOf st) lo (lo + n) ((lo + n - lo) / 2)) = st2
      revert st2
      exact key.out
     case' neg =>
      rw [if_neg hg]
      exact key.out st (SB.refl st lo nrem) (goD st (SB.refl st lo nrem) (fun _ => rfl) (fun i hi => by rw [show i = n - 1 by omega]))
    · intro st2 hS hDc
      have hnn : n + 1 ≤ nrem := by omega
      refine wpS_bind (wpS_lift (wpAny_rule ⟨rfl, ?_⟩))
      refine wpS_bind (wpS_mono (wpS_forRange (I := fun x c st' => ∃ neq, c = (none, x, neq) ∧ SB st st' lo nrem ∧ Dec rk (arrOf st') lo x ∧ neq + 1 ≤ x ∧ ∀ i, x - (neq + 1) ≤ i → i < x → ra rk (arrOf st') (lo + i) = ra rk (arrOf st') (lo + (x - 1)))
        (Q := fun c st' => ∃ m neq, c = (none, m, neq) ∧ SB st st' lo nrem ∧ n + 1 ≤ m ∧ m ≤ nrem ∧ Dec rk (arrOf st') lo m ∧ neq + 1 ≤ m ∧ ∀ i, m - (neq + 1) ≤ i → i < m → ra rk (arrOf st') (lo + i) = ra rk (arrOf st') (lo + (m - 1))) ?stepD ?finD ⟨0, rfl, hS, hDc, by omega, fun i h1 h2 => by congr 1; omega⟩) ?postD)
      case finD =>
        rintro c st' ⟨neq, rfl, hB, hd, q1, q2⟩
        rw [show max (n + 1) nrem = nrem by omega] at hd q1 q2 ⊢
        exact ⟨nrem, neq, rfl, hB, hnn, Nat.le_refl _, hd, q1, q2⟩
      case stepD =>
        rintro x c st' hx1 hx2 ⟨neq, rfl, hB, hd, q1, q2⟩
        dsimp only
        have hsz : lo + x ≤ (arrOf st').size := by rw [hB.size]; omega
        refine wpS_bind (tim_ltAt C hB hk hD (by omega) (by omega) ?_)
        dsimp only
        by_cases hl : ra rk (arrOf st') (lo + x) < ra rk (arrOf st') (lo + x - 1)
        · rw [if_pos (decide_eq_true hl)]
          have hl' : ra rk (arrOf st') (lo + x) ≤ ra rk (arrOf st') (lo + (x - 1)) := by rw [show lo + (x - 1) = lo + x - 1 by omega]; omega
          by_cases hq : neq > 0
          · rw [if_pos hq]
            refine wpS_bind (wpS_reverse ?_)
            have he : ∀ k, lo + x - (neq + 1) ≤ k → k < lo + x → ra rk (arrOf st') k = ra rk (arrOf st') (lo + x - 1) := fun k k1 k2 => by
              have := q2 (k - lo) (by omega) (by omega)
              rw [show lo + (k - lo) = k by omega, show lo + (x - 1) = lo + x - 1 by omega] at this
              exact this
            have em := ra_mirror_eq (rk := rk) (i := lo + x - (neq + 1)) hsz he
            refine wpS_pure ⟨0, rfl, hB.mirr (by omega) (by omega) hz, dec_snoc (fun i j hij hj => ?_) (by omega) ?_, by omega, fun i h1 h2 => by congr 1; omega⟩
            · show ra rk (mirror _ _ _ _) _ ≤ ra rk (mirror _ _ _ _) _
              rw [em, em]; exact hd i j hij hj
            · show ra rk (mirror _ _ _ _) _ ≤ ra rk (mirror _ _ _ _) _
              rw [em, em]; exact hl'
          · rw [if_neg hq]
            exact wpS_pure ⟨0, rfl, hB, dec_snoc hd (by omega) hl', by omega, fun i h1 h2 => by congr 1; omega⟩
        · rw [if_neg (by rw [decide_eq_false hl]; exact Bool.false_ne_true)]
          refine wpS_bind (tim_ltAt C hB hk hD (by omega) (by omega) ?_)
          dsimp only
          by_cases hm : ra rk (arrOf st') (lo + x - 1) < ra rk (arrOf st') (lo + x)
          · rw [if_pos (decide_eq_true hm)]
            exact wpS_pure ⟨x, neq, rfl, hB, hx1, by omega, hd, q1, q2⟩
          · rw [if_neg (by rw [decide_eq_false hm]; exact Bool.false_ne_true)]
            have he : ra rk (arrOf st') (lo + x) = ra rk (arrOf st') (lo + (x - 1)) := by rw [show lo + (x - 1) = lo + x - 1 by omega]; omega
            refine wpS_pure ⟨neq + 1, rfl, hB, dec_snoc hd (by omega) (by omega), by omega, fun i h1 h2 => ?_⟩
            rw [show x + 1 - 1 = x by omega]
            by_cases hi : i = x
            · rw [hi]
            · rw [q2 i (by omega) (by omega), he]
      case postD =>
        rintro c st3 ⟨m, neq, rfl, hB, m1, m2, hd, q1, q2⟩
        dsimp only
        have hsz : lo + m ≤ (arrOf st3).size := by rw [hB.size]; omega
        by_cases hq : neq > 0
        case' pos =>
          rw [if_pos hq]
          refine wpS_bind (wpS_reverse ?_)
          have he : ∀ k, lo + m - (neq + 1) ≤ k → k < lo + m → ra rk (arrOf st3) k = ra rk (arrOf st3) (lo + m - 1) := fun k k1 k2 => by
            have := q2 (k - lo) (by omega) (by omega)
            rw [show lo + (k - lo) = k by omega, show lo + (m - 1) = lo + m - 1 by omega] at this
            exact this
          have em := ra_mirror_eq (rk := rk) (i := lo + m - (neq + 1)) hsz he
          have hB4 := hB.mirr (i := lo + m - (neq + 1)) (j := lo + m) (by omega) (by omega) hz
          have hd4 : Dec rk (arrOf (setArr st3 (mirror (arrOf st3) (lo + m - (neq + 1)) (lo + m) ((lo + m - (lo + m - (neq + 1))) / 2)))) lo m := fun i j hij hj => by
            show ra rk (mirror _ _ _ _) _ ≤ ra rk (mirror _ _ _ _) _
            rw [em, em]; exact hd i j hij hj
          generalize setArr st3 (mirror (arrOf st3) (lo + m - (neq + 1)) (lo + m) ((lo + m - (lo + m - (neq + 1))) / 2)) = st4 at *
        case' neg =>
          rw [if_neg hq]
          have hB4 := hB
          have hd4 := hd
          generalize hst4 : st3 = st4 at hB4 hd4 ⊢
        all_goals
          refine wpS_bind (wpS_reverse ?_)
          have hsz4 : lo + m ≤ (arrOf st4).size := by rw [hB4.size]; omega
          have hB5 := hB4.mirr (i := lo) (j := lo + m) (Nat.le_refl _) (by omega) hz
          have hi5 : Inc rk (arrOf (setArr st4 (mirror (arrOf st4) lo (lo + m) ((lo + m - lo) / 2)))) lo m := fun i j hij hj => by
            show ra rk (mirror _ _ _ _) _ ≤ ra rk (mirror _ _ _ _) _
            rw [ra_mirror hsz4, ra_mirror hsz4, if_pos (by omega), if_pos (by omega)]
            have := hd4 (m - 1 - j) (m - 1 - i) (by omega) (by omega)
            rw [show lo + (m - 1 - j) = lo + (lo + m) - 1 - (lo + j) by omega, show lo + (m - 1 - i) = lo + (lo + m) - 1 - (lo + i) by omega] at this
            exact this
          generalize setArr st4 (mirror (arrOf st4) lo (lo + m) ((lo + m - lo) / 2)) = st5 at *
          refine wpS_bind (wpS_mono (wpS_forRange (I := fun x c st' => st' = st5 ∧ c = (none, x) ∧ Inc rk (arrOf st5) lo x) (Q := fun c st' => st' = st5 ∧ ∃ n, c = (none, n) ∧ 1 ≤ n ∧ n ≤ nrem ∧ Inc rk (arrOf st5) lo n) ?stepE ?finE ⟨rfl, rfl, hi5⟩) ?postE)
          case finE =>
            rintro c st' ⟨e, rfl, hs⟩
            rw [show max m nrem = nrem by omega] at hs ⊢
            exact ⟨e, nrem, rfl, h1, Nat.le_refl _, hs⟩
          case stepE =>
            rintro x c st' hx1 hx2 ⟨e, rfl, hs⟩
            rw [e]
            dsimp only
            refine wpS_bind (tim_ltAt C hB5 hk hD (by omega) (by omega) ?_)
            dsimp only
            by_cases hl : ra rk (arrOf st5) (lo + x) < ra rk (arrOf st5) (lo + x - 1)
            · rw [if_pos (decide_eq_true hl)]
              exact wpS_pure ⟨rfl, x, rfl, by omega, by omega, hs⟩
            · rw [if_neg (by rw [decide_eq_false hl]; exact Bool.false_ne_true)]
              exact wpS_pure ⟨rfl, rfl, inc_snoc hs (by omega) (by rw [show lo + (x - 1) = lo + x - 1 by omega]; omega)⟩
          case postE =>
            rintro c st6 ⟨e, z, rfl, z1, z2, hs⟩
            rw [e]
            exact wpS_pure (h z st5 hB5 z1 z2 hs)
end
end L2
set_option maxHeartbeats 4000000
namespace L2
open PySem PyProof.Rows
section
variable {prog : Program} {w : World} {A : Around} {E : Value → Shared → Prop} {s : Shared} {kd : SortKind} {D : Value → Prop} {rk : Value → Nat}
theorem tim_binarySort (C : Cmp prog w A s kd D rk) {st0 st : SortSt} {lo nn n ok : Nat} {Q : Bool → SortSt → Prop} (hk : kindOf st0 = kd) (hD : ∀ p ∈ (arrOf st0).toList, D p.1) (hz : lo + nn ≤ (arrOf st0).size) (hn : n ≤ nn) (hok : ok ≤ n) (hB : SB st0 st lo nn) (hs : Inc rk (arrOf st) lo ok)
    (h : ∀ st', SB st0 st' lo nn → Inc rk (arrOf st') lo n → Q true st') : wpS (model prog w) A E s (binarySort' lo n ok) Q st := by
  rw [binarySort'_eq]
  refine wpS_bind (wpS_mono (wpS_forRange (I := fun k c st' => c = (none, ()) ∧ SB st0 st' lo nn ∧ Inc rk (arrOf st') lo (min k n)) (Q := fun c st' => c = (none, ()) ∧ SB st0 st' lo nn ∧ Inc rk (arrOf st') lo n) ?step ?fin ?init) ?post)
  case post =>
    rintro c st' ⟨rfl, hB', hs'⟩
    exact wpS_pure (h st' hB' hs')
  case init =>
    refine ⟨rfl, hB, fun i j hij hj => ?_⟩
    by_cases h1 : ok = 0
    · obtain rfl : i = j := by omega
      exact Nat.le_refl _
    · exact hs i j hij (by omega)
  case fin =>
    rintro c st' ⟨hc, hB', hs'⟩
    refine ⟨hc, hB', ?_⟩
    rwa [show min (max (max ok 1) n) n = n by omega] at hs'
  case step =>
    rintro k c st1 hak hkn ⟨rfl, hB', hs'⟩
    rw [show min k n = k by omega] at hs'
    refine wpS_bind (wpS_mono (wpS_forRange (I := fun x c st'' => st'' = st1 ∧ ∃ l r, c = (none, l, r) ∧ l ≤ r ∧ r ≤ k ∧ r - l ≤ k - x ∧ (∀ i, i < l → ra rk (arrOf st1) (lo + i) ≤ ra rk (arrOf st1) (lo + k)) ∧ (∀ i, r ≤ i → i < k → ra rk (arrOf st1) (lo + k) < ra rk (arrOf st1) (lo + i)))
      (Q := fun c st'' => st'' = st1 ∧ ∃ l r, c = (none, l, r) ∧ l ≤ k ∧ (∀ i, i < l → ra rk (arrOf st1) (lo + i) ≤ ra rk (arrOf st1) (lo + k)) ∧ (∀ i, l ≤ i → i < k → ra rk (arrOf st1) (lo + k) < ra rk (arrOf st1) (lo + i))) ?istep ?ifin ?iinit) ?ipost)
    case iinit => exact ⟨rfl, 0, k, rfl, by omega, by omega, by omega, fun i hi => by omega, fun i h1 h2 => by omega⟩
    case ifin =>
      rintro c st2 ⟨e, l, r, rfl, hlr, hrk, hm, hlo, hhi⟩
      obtain rfl : l = r := by omega
      exact ⟨e, l, l, rfl, hrk, hlo, hhi⟩
    case istep =>
      rintro x c st2 _ hxk ⟨e, l, r, rfl, hlr, hrk, hm, hlo, hhi⟩
      rw [e]
      dsimp only
      by_cases hge : l ≥ r
      · rw [if_pos hge]
        obtain rfl : l = r := by omega
        exact wpS_pure ⟨rfl, l, l, rfl, hrk, hlo, hhi⟩
      · rw [if_neg hge]
        refine wpS_bind (tim_ltAt C hB' hk hD (by omega) (by omega) ?_)
        dsimp only
        by_cases hless : ra rk (arrOf st1) (lo + k) < ra rk (arrOf st1) (lo + (l + r) / 2)
        · rw [if_pos (decide_eq_true hless)]
          exact wpS_pure ⟨rfl, l, (l + r) / 2, rfl, by omega, by omega, by omega, hlo, fun i h1 h2 => Nat.lt_of_lt_of_le hless (hs' _ _ h1 h2)⟩
        · rw [if_neg (by rw [decide_eq_false hless]; exact Bool.false_ne_true)]
          exact wpS_pure ⟨rfl, (l + r) / 2 + 1, r, rfl, by omega, by omega, by omega, fun i h1 => Nat.le_trans (hs' i ((l + r) / 2) (by omega) (by omega)) (by omega), hhi⟩
    case ipost =>
      rintro c st2 ⟨e, l, r, rfl, hlk, hlo, hhi⟩
      rw [e]
      show wpS _ _ _ _ (do moveDown' (lo + k) (lo + l); pure (ForInStep.yield (none, ()))) _ _
      rw [moveDown'_eq]
      refine wpS_bind (wpS_modify (wpS_pure ⟨rfl, hB'.bubb (by omega) (by omega) hz, ?_⟩))
      rw [show min (k + 1) n = k + 1 by omega]
      have hks : lo + k < (arrOf st1).size := by rw [hB'.size]; omega
      intro i j hij hj
      show ra rk (bubble (arrOf st1) (lo + k) (lo + k - (lo + l))) (lo + i) ≤ ra rk (bubble (arrOf st1) (lo + k) (lo + k - (lo + l))) (lo + j)
      rw [ra_bubble hks (by omega), ra_bubble hks (by omega), show lo + k - (lo + k - (lo + l)) = lo + l by omega]
      have s1 : ∀ z, l < z → lo + z - 1 = lo + (z - 1) := fun z hz => by omega
      by_cases a1 : lo + i = lo + l
      · rw [if_pos a1]
        by_cases a2 : lo + j = lo + l
        · rw [if_pos a2]; exact Nat.le_refl _
        · rw [if_neg a2, if_pos (by omega), s1 j (by omega)]
          exact Nat.le_of_lt (hhi _ (by omega) (by omega))
      · rw [if_neg a1]
        by_cases a3 : lo + l < lo + i ∧ lo + i ≤ lo + k
        · rw [if_pos a3, if_neg (by omega), if_pos (by omega), s1 i (by omega), s1 j (by omega)]
          exact hs' _ _ (by omega) (by omega)
        · rw [if_neg a3]
          by_cases a2 : lo + j = lo + l
          · rw [if_pos a2]; exact hlo _ (by omega)
          · rw [if_neg a2]
            by_cases a4 : lo + l < lo + j ∧ lo + j ≤ lo + k
            · rw [if_pos a4, s1 j (by omega)]
              exact hs' _ _ (by omega) (by omega)
            · rw [if_neg a4]
              exact hs' _ _ hij (by omega)
end
end L2
set_option maxHeartbeats 4000000
namespace L2
open PySem PyProof.Rows
noncomputable def Runs (rk : Value → Nat) : Nat → List (Nat × Nat × Nat) → List Keyed → Prop
  | _, [], L => L = []
  | b, x :: ps, L => x.1 = b ∧ 0 < x.2.1 ∧ ∃ l L', L = l ++ L' ∧ l.length = x.2.1 ∧ Up rk l ∧ Runs rk (b + x.2.1) ps L'
section
variable {rk : Value → Nat}
theorem Runs.app : ∀ {ps1 ps2 : List (Nat × Nat × Nat)} {b : Nat} {L : List Keyed}, Runs rk b (ps1 ++ ps2) L → ∃ L1 L2, L = L1 ++ L2 ∧ Runs rk b ps1 L1 ∧ Runs rk (b + L1.length) ps2 L2
  | [], ps2, b, L, h => ⟨[], L, rfl, rfl, h⟩
  | x :: ps1, ps2, b, L, ⟨h1, h2, l, L', e, hl, u, r⟩ => by
    obtain ⟨L1, L2, e2, r1, r2⟩ := Runs.app r
    refine ⟨l ++ L1, L2, by rw [e, e2, List.append_assoc], ⟨h1, h2, l, L1, rfl, hl, u, r1⟩, ?_⟩
    rw [List.length_append, ← Nat.add_assoc, hl]
    exact r2
theorem Runs.put : ∀ {ps1 ps2 : List (Nat × Nat × Nat)} {b : Nat} {L1 L2 : List Keyed}, Runs rk b ps1 L1 → Runs rk (b + L1.length) ps2 L2 → Runs rk b (ps1 ++ ps2) (L1 ++ L2)
  | [], ps2, b, L1, L2, h, r => by
    cases (show L1 = [] from h)
    exact r
  | x :: ps1, ps2, b, L1, L2, ⟨h1, h2, l, L', e, hl, u, r1⟩, r => by
    subst e
    refine ⟨h1, h2, l, L' ++ L2, by rw [List.append_assoc], hl, u, Runs.put r1 ?_⟩
    rw [List.length_append, ← Nat.add_assoc, hl] at r
    exact r
theorem Runs.len : ∀ {ps : List (Nat × Nat × Nat)} {b : Nat} {L : List Keyed}, Runs rk b ps L → ps.length ≤ L.length
  | [], _, _, _ => Nat.zero_le _
  | x :: ps, b, L, ⟨h1, h2, l, L', e, hl, u, r⟩ => by
    have := Runs.len r
    rw [e, List.length_append, List.length_cons]
    omega
theorem Runs.pow : ∀ {ps qs : List (Nat × Nat × Nat)} {b : Nat} {L : List Keyed}, Runs rk b ps L → ps.map (fun x => (x.1, x.2.1)) = qs.map (fun x => (x.1, x.2.1)) → Runs rk b qs L
  | [], [], _, _, h, _ => h
  | [], _ :: _, _, _, _, e => by simp at e
  | _ :: _, [], _, _, _, e => by simp at e
  | x :: ps, y :: qs, b, L, ⟨h1, h2, l, L', e, hl, u, r⟩, q => by
    simp only [List.map_cons, List.cons.injEq, Prod.mk.injEq] at q
    obtain ⟨⟨q1, q2⟩, q3⟩ := q
    refine ⟨q1.symm.trans h1, by omega, l, L', e, by omega, u, ?_⟩
    rw [← q2]
    exact Runs.pow r q3
end
structure Core (kd : SortKind) (rk : Value → Nat) (a₀ : Array Keyed) (lo : Nat) (R : List Keyed) (st : SortSt) : Prop where
  kind : kindOf st = kd
  failed : failedOf st = none
  perm : (arrOf st).Perm a₀
  runs : ∃ L, (arrOf st).toList = L ++ R ∧ L.length = lo ∧ Runs rk 0 (pendingOf st).toList L
section
variable {prog : Program} {w : World} {A : Around} {E : Value → Shared → Prop} {s : Shared} {kd : SortKind} {D : Value → Prop} {rk : Value → Nat} {a₀ : Array Keyed}
theorem Core.dom {lo : Nat} {R : List Keyed} {st : SortSt} (h : Core kd rk a₀ lo R st) (hD : ∀ p ∈ a₀.toList, D p.1) : ∀ p ∈ (arrOf st).toList, D p.1 := fun p hp => hD p ((Array.perm_iff_toList_perm.mp h.perm).mem_iff.mp hp)
theorem core_merge (C : Cmp prog w A s kd D rk) (hD : ∀ p ∈ a₀.toList, D p.1) {lo : Nat} {R : List Keyed} {st : SortSt} {i : Nat} {Q : Bool → SortSt → Prop} (hc : Core kd rk a₀ lo R st) (hi : i + 1 < (pendingOf st).size)
    (h : ∀ st', Core kd rk a₀ lo R st' → (pendingOf st').size + 1 = (pendingOf st).size → Q true st') : wpS (model prog w) A E s (mergeAt' i) Q st := by
  obtain ⟨L, eL, hL, hr⟩ := hc.runs
  have hlen : (pendingOf st).toList.length = (pendingOf st).size := Array.length_toList
  generalize hps : (pendingOf st).toList = ps at hr hlen
  have e0 : ps = ps.take i ++ ps.drop i := (List.take_append_drop i ps).symm
  obtain ⟨x, y, ps2, e1⟩ : ∃ x y ps2, ps.drop i = x :: y :: ps2 := by
    have h1 : i < ps.length := by omega
    have h2 : i + 1 < ps.length := by omega
    exact ⟨_, _, _, by rw [List.drop_eq_getElem_cons h1, List.drop_eq_getElem_cons h2]⟩
  rw [e0, e1] at hr
  obtain ⟨L1, L2, e2, r1, r2⟩ := Runs.app hr
  obtain ⟨g1, g2, la, L3, e3, g3, g4, g5, g6, lb, L4, e4, g7, g8, g9⟩ := r2
  obtain ⟨xa, xn, xp⟩ := x
  obtain ⟨ya, yn, yp⟩ := y
  dsimp only at *
  rw [Nat.zero_add] at g1
  subst e3 e4
  refine tim_mergeAt C (P := L1) (la := la) (lb := lb) (R := L4 ++ R) (ps1 := ps.take i) (ps2 := ps2) (sa := xa) (na := xn) (pw := xp) (sb := ya) (nb := yn) (pw2 := yp) hc.kind hc.failed (hc.dom hD) (by rw [hps]; rw [← e1]; exact e0) (by rw [List.length_take]; omega) (by rw [eL, e2]; simp [List.append_assoc]) g1.symm g3 (by omega) g7 g2 g6 g4 g8 fun st' l k1 k2 mm k3 k4 => ?_
  refine h st' ⟨k1, k2, ?_, L1 ++ (l ++ L4), by rw [k3]; simp [List.append_assoc], ?_, ?_⟩ ?_
  · refine Array.perm_iff_toList_perm.mpr ((?_ : (arrOf st').toList.Perm (arrOf st).toList).trans (Array.perm_iff_toList_perm.mp hc.perm))
    rw [k3, eL, e2]
    have := mm.1
    simp only [List.append_assoc]
    refine List.Perm.append_left _ ?_
    rw [← List.append_assoc la]
    exact List.Perm.append_right _ this
  · have q := mm.1.length_eq
    rw [List.length_append] at q
    rw [← hL, e2]
    simp only [List.length_append]
    omega
  · rw [k4]
    refine Runs.put r1 ⟨by rw [Nat.zero_add]; exact g1, (by show 0 < xn + yn; omega), l, L4, rfl, by rw [mm.1.length_eq, List.length_append, g3, g7], mm.2, ?_⟩
    rw [← Nat.add_assoc]
    exact g9
  · have : (pendingOf st').toList.length + 1 = ps.length := by
      rw [k4, e0, e1]
      simp
      omega
    rw [Array.length_toList] at this
    omega
theorem modify_map {α β : Type} (f : α → α) (g : α → β) (hfg : ∀ x, g (f x) = g x) : ∀ (l : List α) (i : Nat), (l.modify i f).map g = l.map g
  | [], i => by simp
  | x :: l, 0 => by simp [hfg]
  | x :: l, i + 1 => by simp [modify_map f g hfg l i]
theorem Core.rest {lo : Nat} {R : List Keyed} {st : SortSt} (h : Core kd rk a₀ lo R st) : lo + R.length = a₀.size := by
  obtain ⟨L, e, hL, _⟩ := h.runs
  rw [← h.perm.size_eq, ← Array.length_toList, e, List.length_append, hL]
theorem Core.pow {lo : Nat} {R : List Keyed} {st : SortSt} (h : Core kd rk a₀ lo R st) (i pw : Nat) : Core kd rk a₀ lo R (setPending st ((pendingOf st).modify i fun x => (x.fst, x.2.fst, pw))) := by
  obtain ⟨L, e, hL, r⟩ := h.runs
  refine ⟨h.kind, h.failed, h.perm, L, e, hL, r.pow ?_⟩
  show _ = List.map _ ((pendingOf st).modify i fun x => (x.fst, x.2.fst, pw)).toList
  rw [Array.toList_modify]
  exact (modify_map (fun x : Nat × Nat × Nat => (x.1, x.2.1, pw)) (fun x => (x.1, x.2.1)) (fun x => rfl) _ _).symm
theorem Core.push {lo n : Nat} {l R : List Keyed} {st : SortSt} (h : Core kd rk a₀ lo (l ++ R) st) (hl : l.length = n) (h1 : 1 ≤ n) (u : Up rk l) : Core kd rk a₀ (lo + n) R (setPending st ((pendingOf st).push (lo, n, 0))) := by
  obtain ⟨L, e, hL, r⟩ := h.runs
  refine ⟨h.kind, h.failed, h.perm, L ++ l, by rw [List.append_assoc]; exact e, by rw [List.length_append, hL, hl], ?_⟩
  show Runs rk 0 ((pendingOf st).push (lo, n, 0)).toList (L ++ l)
  rw [Array.toList_push]
  exact r.put ⟨by rw [Nat.zero_add]; exact hL.symm, h1, l, [], by simp, hl, u, rfl⟩
theorem Core.found {lo n : Nat} {R : List Keyed} {st st2 : SortSt} (h : Core kd rk a₀ lo R st) (hB : SB st st2 lo (a₀.size - lo)) (hi : Inc rk (arrOf st2) lo n) (hn : n ≤ a₀.size - lo) : ∃ l R', Core kd rk a₀ lo (l ++ R') st2 ∧ l.length = n ∧ Up rk l := by
  have hr := h.rest
  obtain ⟨L, e, hL, r⟩ := h.runs
  have hsz : (arrOf st2).size = a₀.size := hB.size.trans h.perm.size_eq
  have et : (arrOf st2).toList.take lo = L := by
    refine List.ext_getElem? fun i => ?_
    by_cases q : i < lo
    · rw [List.getElem?_take_of_lt q, Array.getElem?_toList, hB.out i (.inl q), ← Array.getElem?_toList, e, List.getElem?_append_left (by omega)]
    · rw [List.getElem?_eq_none (by rw [List.length_take]; omega), List.getElem?_eq_none (by omega)]
  have e2 : (arrOf st2).toList = L ++ ((((arrOf st2).toList.drop lo).take n) ++ (((arrOf st2).toList.drop lo).drop n)) := by
    rw [List.take_append_drop, ← et, List.take_append_drop]
  have hl : (((arrOf st2).toList.drop lo).take n).length = n := by
    rw [List.length_take, List.length_drop, Array.length_toList]
    omega
  refine ⟨_, _, ⟨hB.kind.trans h.kind, hB.failed.trans h.failed, hB.perm.trans h.perm, L, e2, hL, by rw [hB.pend]; exact r⟩, hl, ?_⟩
  refine List.pairwise_iff_getElem.mpr fun i j hi' hj' hij => ?_
  have at' : ∀ i (hi : i < (((arrOf st2).toList.drop lo).take n).length), rk ((((arrOf st2).toList.drop lo).take n)[i]).1 = ra rk (arrOf st2) (lo + i) := fun i hi => by
    have q : (((arrOf st2).toList.drop lo).take n)[i]? = (arrOf st2)[lo + i]? := by rw [List.getElem?_take_of_lt (by omega), List.getElem?_drop, Array.getElem?_toList]
    rw [List.getElem?_eq_getElem hi] at q
    unfold ra
    rw [← q]
  rw [at' i hi', at' j hj']
  exact hi i j (by omega) (by omega)
theorem tim_sortRuns (C : Cmp prog w A s kd D rk) (hD : ∀ p ∈ a₀.toList, D p.1) {st : SortSt} {Q : Unit → SortSt → Prop} (hk : kindOf st = kd) (hf : failedOf st = none) (hp : (arrOf st).Perm a₀) (hq : pendingOf st = #[])
    (h : ∀ st', (arrOf st').Perm a₀ → failedOf st' = none → Up rk (arrOf st').toList → Q () st') : wpS (model prog w) A E s sortRuns' Q st := by
  have hsz : (arrOf st).size = a₀.size := hp.size_eq
  rw [sortRuns'_eq]
  refine wpS_bind (wpS_get ?_)
  dsimp only
  rw [hsz]
  generalize minRun' a₀.size a₀.size 0 = mr
  refine wpS_bind (wpS_mono (wpS_forRange (I := fun x c st' => ∃ lo R, c = (none, lo) ∧ x ≤ lo ∧ lo ≤ a₀.size ∧ Core kd rk a₀ lo R st') (Q := fun c st' => c = (none, a₀.size) ∧ Core kd rk a₀ a₀.size [] st') ?step ?fin ⟨0, (arrOf st).toList, rfl, Nat.le_refl _, Nat.zero_le _, hk, hf, hp, [], rfl, rfl, by rw [hq]; exact rfl⟩) ?post)
  case fin =>
    rintro c st' ⟨lo, R, rfl, h1, h2, hc⟩
    obtain rfl : lo = a₀.size := by omega
    have hR : R = [] := List.eq_nil_of_length_eq_zero (by have := hc.rest; omega)
    exact ⟨rfl, hR ▸ hc⟩
  case step =>
    rintro x c st1 _ hx ⟨lo, R, rfl, h1, h2, hc⟩
    dsimp only
    by_cases hlo : lo ≥ a₀.size
    · rw [if_pos hlo]
      obtain rfl : lo = a₀.size := by omega
      have hR : R = [] := List.eq_nil_of_length_eq_zero (by have := hc.rest; omega)
      exact wpS_pure ⟨rfl, hR ▸ hc⟩
    rw [if_neg hlo]
    have hz : lo + (a₀.size - lo) ≤ (arrOf st1).size := by rw [hc.perm.size_eq]; omega
    refine wpS_bind (tim_countRun C hc.kind (hc.dom hD) hz (by omega) fun m st2 hB m1 m2 hi => ?_)
    dsimp only
    by_cases hm : m < mr
    case' pos =>
      rw [if_pos hm]
      refine wpS_bind (wpS_lift (wpAny_rule ⟨rfl, ?_⟩))
      refine wpS_bind (tim_binarySort C hc.kind (hc.dom hD) hz (n := min (a₀.size - lo) mr) (by omega) (by omega) hB hi fun st3 hB3 hi3 => ?_)
      rw [if_neg (by simp)]
      have n1 : 1 ≤ min (a₀.size - lo) mr := by omega
      have n2 : min (a₀.size - lo) mr ≤ a₀.size - lo := by omega
      generalize min (a₀.size - lo) mr = n at *
    case' neg =>
      rw [if_neg hm]
      have n1 := m1
      have n2 := m2
      have hi3 := hi
      have hB3 := hB
      generalize hn : m = n at *
      generalize hst3 : st2 = st3 at *
    all_goals
      obtain ⟨l, R', hc3, hl, hu⟩ := hc.found hB3 hi3 n2
      refine wpS_bind (wpS_get ?_)
      have hpush : ∀ st4 : SortSt, Core kd rk a₀ lo (l ++ R') st4 → ∃ lo' R, ((none : Option Unit), lo + n) = (none, lo') ∧ x + 1 ≤ lo' ∧ lo' ≤ a₀.size ∧ Core kd rk a₀ lo' R (setPending st4 ((pendingOf st4).push (lo, n, 0))) := fun st4 h4 => ⟨lo + n, R', rfl, by omega, by omega, h4.push hl n1 hu⟩
      cases hb : (pendingOf st3).back? with
      | none => exact wpS_bind (wpS_modify (wpS_pure (hpush st3 hc3)))
      | some q =>
        obtain ⟨s1, nn1, pp⟩ := q
        refine wpS_bind (wpS_mono (wpS_forRange (I := fun _ c st' => c = (none, ()) ∧ Core kd rk a₀ lo (l ++ R') st') (Q := fun c st' => c = (none, ()) ∧ Core kd rk a₀ lo (l ++ R') st') ?stepM (fun _ _ z => z) ⟨rfl, hc3⟩) ?postM)
        case postM =>
          rintro c st4 ⟨rfl, h4⟩
          exact wpS_bind (wpS_modify (wpS_bind (wpS_modify (wpS_pure (hpush _ (h4.pow _ _))))))
        case stepM =>
          rintro y c st4 _ hy ⟨rfl, h4⟩
          refine wpS_bind (wpS_get ?_)
          by_cases hs : (pendingOf st4).size > 1
          · rw [if_pos hs]
            have hlt : (pendingOf st4).size - 2 < (pendingOf st4).size := by omega
            rw [getElem?_pos (pendingOf st4) ((pendingOf st4).size - 2) hlt]
            dsimp only
            split
            · exact wpS_pure ⟨rfl, h4⟩
            · refine wpS_bind (core_merge C hD h4 (by omega) fun st5 h5 _ => ?_)
              rw [if_neg (by simp)]
              exact wpS_pure ⟨rfl, h5⟩
          · rw [if_neg hs]
            exact wpS_pure ⟨rfl, h4⟩
  case post =>
    rintro c st1 ⟨rfl, hc⟩
    have hps : (pendingOf st1).size ≤ a₀.size := by
      obtain ⟨L, e, hL, r⟩ := hc.runs
      have := r.len
      rw [Array.length_toList] at this
      omega
    refine wpS_bind (wpS_mono (wpS_forRange (I := fun x c st' => c = (none, ()) ∧ Core kd rk a₀ a₀.size [] st' ∧ ((pendingOf st').size ≤ 1 ∨ (pendingOf st').size + x ≤ a₀.size)) (Q := fun c st' => c = (none, ()) ∧ Core kd rk a₀ a₀.size [] st' ∧ (pendingOf st').size ≤ 1) ?stepF ?finF ⟨rfl, hc, .inr (by omega)⟩) ?postF)
    case finF =>
      rintro c st2 ⟨rfl, h2, h3⟩
      exact ⟨rfl, h2, by rcases h3 with h3 | h3 <;> omega⟩
    case stepF =>
      rintro y c st2 _ hy ⟨rfl, h2, h3⟩
      refine wpS_bind (wpS_get ?_)
      by_cases hs : (pendingOf st2).size ≤ 1
      · rw [if_pos hs]
        exact wpS_pure ⟨rfl, h2, hs⟩
      · rw [if_neg hs]
        have hix : ∀ (c : Prop) [Decidable c], (if c then (pendingOf st2).size - 2 - 1 else (pendingOf st2).size - 2) + 1 < (pendingOf st2).size := fun c _ => by split <;> omega
        refine wpS_bind (core_merge C hD h2 (hix _) fun st5 h5 h6 => ?_)
        rw [if_neg (by simp)]
        exact wpS_pure ⟨rfl, h5, .inr (by omega)⟩
    case postF =>
      rintro c st2 ⟨rfl, h2, h3⟩
      refine wpS_pure (h st2 h2.perm h2.failed ?_)
      obtain ⟨L, e, hL, r⟩ := h2.runs
      rw [e, List.append_nil]
      have hlen : (pendingOf st2).toList.length ≤ 1 := by rw [Array.length_toList]; exact h3
      generalize (pendingOf st2).toList = ps at r hlen
      match ps, r, hlen with
      | [], r, _ => cases (show L = [] from r); exact .nil
      | [p], ⟨_, _, l, L', e2, _, u, r2⟩, _ =>
        cases (show L' = [] from r2)
        rw [e2, List.append_nil]
        exact u
      | _ :: _ :: _, _, hlen => simp at hlen
end
end L2
set_option maxHeartbeats 4000000
namespace L2
open PySem PyProof.Rows
theorem count_less {α : Type} {p q : α → Bool} : ∀ {l : List α}, (∀ z ∈ l, p z = true → q z = true) → l.countP p ≤ l.countP q
  | [], _ => Nat.le_refl _
  | x :: l, h => by
    have ih := count_less (p := p) (q := q) (l := l) fun z hz => h z (List.mem_cons_of_mem _ hz)
    rw [List.countP_cons, List.countP_cons]
    have hx := h x List.mem_cons_self
    cases e : p x with
    | true => rw [hx e]; simp; exact ih
    | false => simp; split <;> omega
theorem count_under {α : Type} {p q : α → Bool} {a : α} : ∀ {l : List α}, (∀ z ∈ l, p z = true → q z = true) → a ∈ l → q a = true → p a = false → l.countP p < l.countP q
  | x :: l, h, ha, h1, h2 => by
    have sub : ∀ z ∈ l, p z = true → q z = true := fun z hz => h z (List.mem_cons_of_mem _ hz)
    rw [List.countP_cons, List.countP_cons]
    rcases List.mem_cons.mp ha with rfl | ha
    · have := count_less sub
      rw [h1, h2]; simp; omega
    · have ih := count_under sub ha h1 h2
      have hx := h x List.mem_cons_self
      cases e : p x with
      | true => rw [hx e]; simp; exact ih
      | false => simp; split <;> omega
noncomputable def rankIn (O : KeyOrd) (l : List O.α) (x : O.α) : Nat := l.countP fun z => O.blt z x
theorem rank_lt {O : KeyOrd} {l : List O.α} {a b : O.α} (ha : a ∈ l) : decide (rankIn O l a < rankIn O l b) = O.blt a b := by
  cases e : O.blt a b with
  | true => exact decide_eq_true (count_under (fun z _ hz => O.trans z a b hz e) ha e (O.irrefl a))
  | false =>
    refine decide_eq_false (Nat.not_lt.mpr (count_less fun z _ hz => ?_))
    rcases O.negTrans z a b hz with q | q
    · exact q
    · rw [e] at q; cases q
theorem rank_le {O : KeyOrd} {l : List O.α} {a b : O.α} (hb : b ∈ l) (h : rankIn O l a ≤ rankIn O l b) : O.blt b a = false := by
  rw [← rank_lt (l := l) hb]
  exact decide_eq_false (by omega)
section
variable {prog : Program} {w : World} {A : Around} {E : Value → Shared → Prop} {s : Shared} {kd : SortKind} {D : Value → Prop} {rk : Value → Nat}
end
end L2
set_option maxHeartbeats 4000000
namespace L2
open PySem PySem.Spec PyProof.Rows
open AutoSeq1 (wpAny_loadPart')
open MeetsSeq MeetsSeq2 MeetsSeq3 SeqRoads2
theorem lt_loop (l b : Addr) (us vs : Array Value) (n n2 : Nat) (r : Bool) :
    ∀ (xs ys : List Value) (i : Nat), us.toList.drop i = xs → vs.toList.drop i = ys → i ≤ us.size → i ≤ vs.size → Meets (Builtin.«list.__eq__.loop» ⟨[.ref l, .ref b, rawInt i, rawInt 0], []⟩)
      (fun A R s => s.heap.get? l = some (seqObj "list" us n) ∧ s.heap.get? b = some (seqObj "list" vs n2) ∧ LexAt A.in1 s xs ys r ∧ R (.ok (.ret (.bool r))) s) := by
  intro xs
  induction xs with
  | nil =>
    intro ys i ex ey h1 h2 prog w A R s h
    obtain ⟨hp, g, d, tk, os⟩ := s; obtain ⟨q1, q2, he, h⟩ := h
    have z1 : us.size ≤ i := by simpa using ex
    wp_walk using wpAny_loadPart' q1, wpAny_loadPart' q2
    have hi1 : us[((i : Nat) : Int).toNat]? = none := by simp; omega
    rw [hi1]
    wp_walk using wpAny_loadPart' q1, wpAny_loadPart' q2
    show R (.ok (.ret (.bool (decide (us.size < vs.size))))) _
    have e : decide (us.size < vs.size) = r := by
      cases he with
      | nn =>
        have z2 : vs.size ≤ i := by simpa using ey
        exact decide_eq_false (by omega)
      | nc =>
        have z2 : ¬ vs.size ≤ i := fun z => by
          have : vs.toList.drop i = [] := List.drop_eq_nil_of_le (by simpa using z)
          rw [this] at ey; cases ey
        exact decide_eq_true (by omega)
    rw [e]; exact h
  | cons x xs ih =>
    intro ys i ex ey h1 h2 prog w A R s h
    obtain ⟨hp, g, d, tk, os⟩ := s; obtain ⟨q1, q2, he, h⟩ := h
    have z1 : i < us.size := by
      by_cases z : i < us.size
      · exact z
      · have : us.toList.drop i = [] := List.drop_eq_nil_of_le (by simp; omega)
        rw [this] at ex; cases ex
    have e1 : us[((i : Nat) : Int).toNat]? = some x := by
      have : (us.toList.drop i)[0]? = some x := by rw [ex]; rfl
      rw [List.getElem?_drop] at this
      simpa using this
    have d1 : us.toList.drop (i + 1) = xs := by rw [← List.tail_drop, ex]; rfl
    wp_walk using wpAny_loadPart' q1, wpAny_loadPart' q2
    cases ys with
    | nil =>
      have z2 : vs.size ≤ i := by simpa using ey
      have e2 : vs[((i : Nat) : Int).toNat]? = none := by simp; omega
      rw [e1, e2]
      wp_walk using wpAny_loadPart' q1, wpAny_loadPart' q2
      show R (.ok (.ret (.bool (decide (us.size < vs.size))))) _
      cases he
      rw [decide_eq_false (by omega)]
      exact h
    | cons y ys =>
      have z2 : i < vs.size := by
        by_cases z : i < vs.size
        · exact z
        · have : vs.toList.drop i = [] := List.drop_eq_nil_of_le (by simp; omega)
          rw [this] at ey; cases ey
      have e2 : vs[((i : Nat) : Int).toNat]? = some y := by
        have : (vs.toList.drop i)[0]? = some y := by rw [ey]; rfl
        rw [List.getElem?_drop] at this
        simpa using this
      have d2 : vs.toList.drop (i + 1) = ys := by rw [← List.tail_drop, ey]; rfl
      rw [e1, e2]
      cases he with
      | eq a1 a2 =>
        refine wpAny_bind (a1 prog w _ _ ?_)
        wp_walk
        rw [show ((i : Int) + 1) = ((i + 1 : Nat) : Int) by push_cast; rfl]
        refine ⟨plainId_quiet plain_eq_loop _, codeAny_builtin entry_eq_loop ?_⟩
        rw [Around.under_plainId plain_eq_loop _]
        exact ih ys (i + 1) d1 d2 (by omega) (by omega) prog w A R _ ⟨q1, q2, a2, h⟩
      | ne a1 a2 =>
        refine wpAny_bind (a1 prog w _ _ ?_)
        wp_walk using wpAny_loadPart' q1, wpAny_loadPart' q2
        rw [e1, e2]
        show wpAny (model prog w) A.in1 (richCompare CmpOp.Lt x y >>= _) _ _ _
        refine wpAny_bind (a2 prog w _ _ ?_)
        wp_walk
        exact h
theorem list_ltAt (l b : Addr) (us vs : Array Value) (n n2 : Nat) (r : Bool) :
    Meets (Builtin.«list.__lt__» ⟨[.ref l, .ref b], []⟩)
      (fun A R s => s.heap.get? l = some (seqObj "list" us n) ∧ s.heap.get? b = some (seqObj "list" vs n2) ∧ LexAt A.in1 s us.toList vs.toList r ∧ R (.ok (.ret (.bool r))) s) := by
  intro prog w A R s h
  obtain ⟨hp, g, d, tk, os⟩ := s; obtain ⟨q1, q2, he, h⟩ := h
  have f3 := AutoSeq1.sub_list_list
  wp_walk using wpAny_loadPart' q1, wpAny_loadPart' q2
  refine ⟨plainId_quiet plain_eq_loop _, codeAny_builtin entry_eq_loop ?_⟩
  rw [Around.under_plainId plain_eq_loop _]
  exact lt_loop l b us vs n n2 r _ _ 0 rfl rfl (Nat.zero_le _) (Nat.zero_le _) prog w A R _ ⟨q1, q2, he, h⟩
theorem typeIs_lst {s : Shared} {a : Addr} {us : Array Value} {n : Nat} (h : s.heap.get? a = some (seqObj "list" us n)) : s.TypeIs (.ref a) "list" := ⟨_, h, rfl⟩
section
variable {prog : Program} {w : World} {A : Around} {E : Value → Shared → Prop} {s : Shared}
theorem oneLt_list {a b : Addr} {us vs : Array Value} {n n2 : Nat} {r : Bool} {Q : Bool → Shared → Prop} (hu : A.units < cLine) (h1 : s.heap.get? a = some (seqObj "list" us n)) (h2 : s.heap.get? b = some (seqObj "list" vs n2)) (hl : LexAt A.in1 s us.toList vs.toList r) (h : Q r s) :
    wpAny (model prog w) A (oneLt' true (.ref a) (.ref b)) Q E s := by
  rw [oneLt'_eq]
  simp only [if_true]
  refine wpAny_bind (wpAny_cRoomFor hu ?_)
  refine wpAny_bind (wpAny_callSpecialIfBound?_slot (typeIs_lst h1) F.slot_list_lt ?_)
  refine call_meets F.slot_list_lt (typeIs_lst h1) F.entry_list_lt (F.args_list_lt_2 _ _) (list_ltAt a b us vs n n2 r) ⟨h1, h2, ?_, ?_⟩
  · exact hl
  · exact wpAny_truthy_bool h
end
end L2
set_option maxHeartbeats 4000000
namespace L2
open PySem PySem.Spec PyProof.Rows
noncomputable def prV : NKey → List V
  | none => [.int 1, .int 0]
  | some k => [.int 0, kV k]
noncomputable def prD : NKey → PyData
  | none => .tuple [.int 1, .int 0]
  | some (.inl i) => .tuple [.int 0, .int i]
  | some (.inr x) => .tuple [.int 0, .str x]
noncomputable def ltN : NKey → NKey → Bool
  | none, _ => false
  | some _, none => true
  | some (.inl i), some (.inl j) => decide (i < j)
  | some (.inl _), some (.inr _) => true
  | some (.inr _), some (.inl _) => false
  | some (.inr x), some (.inr y) => decide (x.cps.toList < y.cps.toList)
noncomputable def likeN : NKey → NKey → Bool
  | some (.inl _), some (.inr _) => false
  | some (.inr _), some (.inl _) => false
  | _, _ => true
noncomputable def lexN : List NKey → List NKey → Bool
  | [], [] => false
  | [], _ :: _ => true
  | _ :: _, [] => false
  | a :: as, b :: bs => if a = b then lexN as bs else ltN a b
noncomputable def likeL : List NKey → List NKey → Bool
  | a :: as, b :: bs => likeN a b && (if a = b then likeL as bs else true)
  | _, _ => true
theorem str_ext {x y : Str} (h : x.cps.toList = y.cps.toList) : x = y := by
  cases x; cases y
  simp only [Str.mk.injEq]
  exact Array.toList_inj.mp h
theorem ltN_irrefl : ∀ a, ltN a a = false
  | none => rfl
  | some (.inl i) => by simp [ltN]
  | some (.inr x) => by simp only [ltN, decide_eq_false_iff_not]; exact List.lt_irrefl _
theorem ltN_trans : ∀ a b c, ltN a b = true → ltN b c = true → ltN a c = true
  | none, _, _, h, _ => by cases h
  | some _, none, _, _, h => by cases h
  | some _, some _, none, _, _ => rfl
  | some (.inl i), some (.inl j), some (.inl k), h1, h2 => by simp only [ltN, decide_eq_true_eq] at *; omega
  | some (.inl i), some (.inl j), some (.inr k), h1, h2 => rfl
  | some (.inl i), some (.inr j), some (.inl k), h1, h2 => by cases h2
  | some (.inl i), some (.inr j), some (.inr k), h1, h2 => rfl
  | some (.inr i), some (.inl j), some c, h1, h2 => by cases h1
  | some (.inr i), some (.inr j), some (.inl k), h1, h2 => by cases h2
  | some (.inr i), some (.inr j), some (.inr k), h1, h2 => by simp only [ltN, decide_eq_true_eq] at *; exact List.lt_trans h1 h2
theorem ltN_total : ∀ a b, ltN a b = false → ltN b a = false → a = b
  | none, none, _, _ => rfl
  | none, some _, _, h => by cases h
  | some _, none, h, _ => by cases h
  | some (.inl i), some (.inl j), h1, h2 => by simp only [ltN, decide_eq_false_iff_not] at *; rw [show i = j by omega]
  | some (.inl i), some (.inr j), h1, h2 => by cases h1
  | some (.inr i), some (.inl j), h1, h2 => by cases h2
  | some (.inr i), some (.inr j), h1, h2 => by
    simp only [ltN, decide_eq_false_iff_not] at *
    rw [str_ext (List.le_antisymm (List.not_lt.mp h2) (List.not_lt.mp h1))]
theorem lexN_irrefl : ∀ a, lexN a a = false
  | [] => rfl
  | a :: as => by rw [lexN, if_pos rfl]; exact lexN_irrefl as
theorem lexN_trans : ∀ a b c, lexN a b = true → lexN b c = true → lexN a c = true
  | [], [], _, h, _ => by cases h
  | [], _ :: _, [], _, h => by cases h
  | [], _ :: _, _ :: _, _, _ => rfl
  | _ :: _, [], _, h, _ => by cases h
  | _ :: _, _ :: _, [], _, h => by cases h
  | a :: as, b :: bs, c :: cs, h1, h2 => by
    rw [lexN] at h1 h2 ⊢
    by_cases e1 : a = b
    · subst e1
      rw [if_pos rfl] at h1
      by_cases e2 : a = c
      · rw [if_pos e2] at h2 ⊢; exact lexN_trans as bs cs h1 h2
      · rw [if_neg e2] at h2 ⊢; exact h2
    · rw [if_neg e1] at h1
      by_cases e2 : b = c
      · subst e2; rw [if_neg e1]; exact h1
      · rw [if_neg e2] at h2
        have h3 := ltN_trans a b c h1 h2
        rw [if_neg (fun e => by rw [e, ltN_irrefl] at h3; cases h3)]
        exact h3
theorem lexN_total : ∀ a b, lexN a b = false → lexN b a = false → a = b
  | [], [], _, _ => rfl
  | [], _ :: _, h, _ => by cases h
  | _ :: _, [], _, h => by cases h
  | a :: as, b :: bs, h1, h2 => by
    rw [lexN] at h1 h2
    by_cases e : a = b
    · subst e
      rw [if_pos rfl] at h1 h2
      rw [lexN_total as bs h1 h2]
    · rw [if_neg e] at h1
      rw [if_neg (Ne.symm e)] at h2
      exact absurd (ltN_total a b h1 h2) e
noncomputable def pathOrd : KeyOrd where
  α := List NKey
  blt := lexN
  irrefl := lexN_irrefl
  trans := lexN_trans
  negTrans := fun a b c h => by
    cases e1 : lexN a b with
    | true => first | exact .inl rfl | exact .inr rfl
    | false =>
      cases e2 : lexN b c with
      | true => first | exact .inr rfl | exact .inl rfl
      | false =>
        exfalso
        cases e3 : lexN b a with
        | true => have := lexN_trans b a c e3 h; rw [e2] at this; cases this
        | false =>
          have := lexN_total a b e1 e3
          subst this
          rw [h] at e2; cases e2
  total := lexN_total
theorem pr_lex {a b : NKey} (hl : likeN a b = true) (hne : a ≠ b) : lexV (prV a) (prV b) = some (ltN a b) := by
  match a, b, hl, hne with
  | none, none, _, h => exact absurd rfl h
  | none, some k, _, _ => simp [prV, lexV, ltS, ltN]
  | some k, none, _, _ => simp [prV, lexV, ltS, ltN]
  | some (.inl i), some (.inl j), _, h =>
    have : i ≠ j := fun e => h (by rw [e])
    simp [prV, lexV, ltS, ltN, kV, this]
  | some (.inr i), some (.inr j), _, h =>
    have : i ≠ j := fun e => h (by rw [e])
    simp [prV, lexV, ltS, ltN, kV, this]
theorem pr_eqv (a b : NKey) : PyData.eqv (prD a) (prD b) = decide (a = b) := by
  match a, b with
  | none, none => simp [prD, PyData.eqv, PyData.eqvAll]
  | none, some (.inl j) => simp [prD, PyData.eqv, PyData.eqvAll]
  | none, some (.inr j) => simp [prD, PyData.eqv, PyData.eqvAll]
  | some (.inl i), none => simp [prD, PyData.eqv, PyData.eqvAll]
  | some (.inr i), none => simp [prD, PyData.eqv, PyData.eqvAll]
  | some (.inl i), some (.inl j) =>
    by_cases e : i = j
    · simp [prD, PyData.eqv, PyData.eqvAll, e]
    · simp [prD, PyData.eqv, PyData.eqvAll, e]
  | some (.inl i), some (.inr j) => simp [prD, PyData.eqv, PyData.eqvAll]
  | some (.inr i), some (.inl j) => simp [prD, PyData.eqv, PyData.eqvAll]
  | some (.inr i), some (.inr j) =>
    by_cases e : i = j
    · simp [prD, PyData.eqv, PyData.eqvAll, e]
    · simp [prD, PyData.eqv, PyData.eqvAll, e]
noncomputable def PrAt (h : Heap) (u : Value) (k : NKey) : Prop := ∃ p its, u = .ref p ∧ IsTup h p its.toArray ∧ Vals (prV k) its
theorem pr_reads {h : Heap} {u : Value} {k : NKey} (x : PrAt h u k) : ∃ as, Reads h u (prD k) as := by
  obtain ⟨p, its, rfl, ⟨o, e, c, n, d⟩, r⟩ := x
  match k, r with
  | none, r =>
    have r : Vals [V.int 1, V.int 0] its := r
    cases r with
    | cons h1 t => cases t with
      | cons h2 t => cases t; obtain ⟨_, rfl⟩ := h1; obtain ⟨_, rfl⟩ := h2; exact ⟨_, .tuple e c d (.cons (.int _ _) (.cons (.int _ _) .nil))⟩
  | some (.inl i), r =>
    have r : Vals [V.int 0, V.int i] its := r
    cases r with
    | cons h1 t => cases t with
      | cons h2 t => cases t; obtain ⟨_, rfl⟩ := h1; obtain ⟨_, rfl⟩ := h2; exact ⟨_, .tuple e c d (.cons (.int _ _) (.cons (.int _ _) .nil))⟩
  | some (.inr i), r =>
    have r : Vals [V.int 0, V.str i] its := r
    cases r with
    | cons h1 t => cases t with
      | cons h2 t => cases t; obtain ⟨_, rfl⟩ := h1; obtain ⟨_, rfl⟩ := h2; exact ⟨_, .tuple e c d (.cons (.int _ _) (.cons (.str _ _) .nil))⟩
noncomputable def okN : NKey → Prop
  | some (.inr x) => PyData.strOk x = true
  | _ => True
theorem prD_lay (k : NKey) (ok : okN k) : (prD k).canLay0 = true ∧ (prD k).depth ≤ 1 := by
  match k, ok with
  | none, _ => simp [prD, PyData.canLay0, PyData.canLayAll0, PyData.depth, PyData.depthAll]
  | some (.inl i), _ => simp [prD, PyData.canLay0, PyData.canLayAll0, PyData.depth, PyData.depthAll]
  | some (.inr i), h => simp [prD, PyData.canLay0, PyData.canLayAll0, PyData.depth, PyData.depthAll, (show PyData.strOk i = true from h)]
section
variable {A : Around} {s : Shared}
theorem pr_eqAt {u v : Value} {a b : NKey} (hu : A.units + 2 < cLine) (o1 : okN a) (o2 : okN b) (x : PrAt s.heap u a) (y : PrAt s.heap v b) : SeqAt.EqAt A s u v (decide (a = b)) := by
  obtain ⟨as, r1⟩ := pr_reads x
  obtain ⟨bs, r2⟩ := pr_reads y
  rw [← pr_eqv]
  refine SeqAt.eqAt_reads _ _ A s u v _ _ r1 r2 (prD_lay a o1).1 (prD_lay b o2).1 ?_
  have := Nat.min_le_left (prD a).depth (prD b).depth
  have := (prD_lay a o1).2
  omega
theorem pr_ltAt {u v : Value} {a b : NKey} (hu : A.units < cLine) (x : PrAt s.heap u a) (y : PrAt s.heap v b) (hl : likeN a b = true) (hne : a ≠ b) : LtAt A s u v (ltN a b) := by
  obtain ⟨p, its, rfl, ⟨⟨c1, d1, t1, sl1⟩, e, c, n, d⟩, r⟩ := x
  obtain ⟨q, its2, rfl, ⟨⟨c2, d2, t2, sl2⟩, e2, c', n2, d'⟩, r2⟩ := y
  cases (show c1 = .type "tuple" from c)
  cases (show c2 = .type "tuple" from c')
  cases (show t1 = .seq its.toArray n from d)
  cases (show t2 = .seq its2.toArray n2 from d')
  intro prog w E Q h
  exact richCompare_meets_room (op := .Lt) ⟨_, e, rfl⟩ ⟨_, e2, rfl⟩ F.slot_tuple_lt F.entry_tuple_lt (F.args_tuple_lt_2 _ _) (tuple_ltAt p q _ _ _ _ _ _ _ _ (ltN a b)) ⟨e, e2, lexV_at r r2 (pr_lex hl hne), by simp, h⟩ hu
theorem lexN_at (hu : A.units + 2 < cLine) : ∀ {us vs : List Value} {as bs : List NKey}, Paired (PrAt s.heap) us as → Paired (PrAt s.heap) vs bs → (∀ a ∈ as, okN a) → (∀ b ∈ bs, okN b) → likeL as bs = true → LexAt A s us vs (lexN as bs)
  | _, _, _, _, .nil, .nil, _, _, _ => .nn
  | _, _, _, _, .nil, .cons _ _, _, _, _ => .nc
  | _, _, _, _, .cons _ _, .nil, _, _, _ => .cn
  | _, _, a :: as, b :: bs, .cons x t, .cons y t', o1, o2, h => by
    rw [likeL, Bool.and_eq_true] at h
    rw [lexN]
    have e1 := pr_eqAt hu (o1 a List.mem_cons_self) (o2 b List.mem_cons_self) x y
    by_cases e : a = b
    · rw [decide_eq_true e] at e1
      rw [if_pos e]
      refine .eq e1 (lexN_at hu t t' (fun z hz => o1 z (List.mem_cons_of_mem _ hz)) (fun z hz => o2 z (List.mem_cons_of_mem _ hz)) ?_)
      have h2 := h.2
      rw [if_pos e] at h2
      exact h2
    · rw [decide_eq_false e] at e1
      rw [if_neg e]
      exact .ne e1 (pr_ltAt (by omega) x y h.1 e)
end
end L2
set_option maxHeartbeats 4000000
namespace L2
open PySem PySem.Spec PyProof.Rows PySem.W
theorem wp_mapM {α β : Type} {M : Model} {A : Around} {E : Value → Shared → Prop} {s : Shared} {f : α → Sem β} {b : β} : ∀ {l : List α} {Q : List β → Shared → Prop}, (∀ x ∈ l, ∀ Q' : β → Shared → Prop, Q' b s → wpAny M A (f x) Q' E s) → Q (l.map fun _ => b) s → wpAny M A (l.mapM f) Q E s
  | [], Q, _, h => by rw [List.mapM_nil]; exact wpAny_pure h
  | x :: l, Q, hf, h => by
    rw [List.mapM_cons]
    refine wpAny_bind (hf x List.mem_cons_self _ ?_)
    exact wpAny_bind (wp_mapM (fun y hy => hf y (List.mem_cons_of_mem _ hy)) (wpAny_pure h))
noncomputable def KeyIs (h : Heap) (v : Value) (ks : List NKey) : Prop := ∃ k items n, v = .ref k ∧ h.get? k = some (seqObj "list" items n) ∧ Paired (PrAt h) items.toList ks
theorem prV_inj {a b : NKey} {its : List Value} (h1 : Vals (prV a) its) (h2 : Vals (prV b) its) : a = b := by
  have sec : ∀ {x y x' y' : V} {its : List Value}, Vals [x, y] its → Vals [x', y'] its → ∃ u v, RelV x u ∧ RelV x' u ∧ RelV y v ∧ RelV y' v := by
    intro x y x' y' its r1 r2
    cases r1 with
    | cons p1 t1 => cases t1 with
      | cons p2 t2 => cases t2; cases r2 with
        | cons q1 t3 => cases t3 with
          | cons q2 t4 => exact ⟨_, _, p1, q1, p2, q2⟩
  match a, b, h1, h2 with
  | none, none, _, _ => rfl
  | none, some k, h1, h2 =>
    obtain ⟨u, v, p1, p2, _, _⟩ := sec (show Vals [V.int 1, V.int 0] its from h1) (show Vals [V.int 0, kV k] its from h2)
    obtain ⟨t, rfl⟩ := p1; obtain ⟨t', e⟩ := p2; cases e
  | some k, none, h1, h2 =>
    obtain ⟨u, v, p1, p2, _, _⟩ := sec (show Vals [V.int 0, kV k] its from h1) (show Vals [V.int 1, V.int 0] its from h2)
    obtain ⟨t, rfl⟩ := p1; obtain ⟨t', e⟩ := p2; cases e
  | some j, some k, h1, h2 =>
    obtain ⟨u, v, _, _, p1, p2⟩ := sec (show Vals [V.int 0, kV j] its from h1) (show Vals [V.int 0, kV k] its from h2)
    cases j <;> cases k
    · obtain ⟨t, rfl⟩ := p1; obtain ⟨t', e⟩ := p2; cases e; rfl
    · obtain ⟨t, rfl⟩ := p1; obtain ⟨t', e⟩ := p2; cases e
    · obtain ⟨t, rfl⟩ := p1; obtain ⟨t', e⟩ := p2; cases e
    · obtain ⟨t, rfl⟩ := p1; obtain ⟨t', e⟩ := p2; cases e; rfl
theorem prAt_inj {h : Heap} {u : Value} {a b : NKey} (x : PrAt h u a) (y : PrAt h u b) : a = b := by
  obtain ⟨p, its, rfl, ⟨o, e, _, n, d⟩, r⟩ := x
  obtain ⟨q, its2, e0, ⟨o2, e2, _, n2, d2⟩, r2⟩ := y
  cases e0
  rw [e] at e2; cases e2
  rw [d] at d2
  injection d2 with d3
  have : its = its2 := by simpa using d3
  subst this
  exact prV_inj r r2
theorem prs_inj {h : Heap} : ∀ {us : List Value} {as bs : List NKey}, Paired (PrAt h) us as → Paired (PrAt h) us bs → as = bs
  | _, _, _, .nil, .nil => rfl
  | _, _, _, .cons x t, .cons y t' => by rw [prAt_inj x y, prs_inj t t']
theorem keyIs_inj {h : Heap} {v : Value} {as bs : List NKey} (x : KeyIs h v as) (y : KeyIs h v bs) : as = bs := by
  obtain ⟨k, its, n, rfl, e, r⟩ := x
  obtain ⟨k2, its2, n2, e0, e2, r2⟩ := y
  cases e0
  rw [e] at e2
  injection e2 with e3
  injection e3 with _ _ e4 _
  injection e4 with e5 _
  subst e5
  exact prs_inj r r2
open Classical in
noncomputable def keyOfV (h : Heap) (v : Value) : List NKey := if x : ∃ ks, KeyIs h v ks then x.choose else []
theorem keyOfV_is {h : Heap} {v : Value} {ks : List NKey} (x : KeyIs h v ks) : keyOfV h v = ks := by
  unfold keyOfV
  rw [dif_pos ⟨ks, x⟩]
  exact keyIs_inj (Classical.choose_spec (⟨ks, x⟩ : ∃ ks, KeyIs h v ks)) x
section
variable {prog : Program} {w : World} {A : Around} {E : Value → Shared → Prop} {s : Shared}
noncomputable def AllLike (L : List (List NKey)) : Prop := (∀ a ∈ L, ∀ k ∈ a, okN k) ∧ ∀ a ∈ L, ∀ b ∈ L, likeL a b = true
theorem cmpT {L : List (List NKey)} (hu : A.units + 3 < cLine) (hL : AllLike L) : Cmp prog w A s oneType' (fun v => ∃ ks, KeyIs s.heap v ks ∧ ks ∈ L) (fun v => rankIn pathOrd L (keyOfV s.heap v)) := by
  rintro E x y Q ⟨as, hx, ha⟩ ⟨bs, hy, hb⟩ h
  rw [keyLt'_oneType]
  have e0 : decide (rankIn pathOrd L (keyOfV s.heap x) < rankIn pathOrd L (keyOfV s.heap y)) = lexN as bs := by
    simp only [keyOfV_is hx, keyOfV_is hy]
    exact rank_lt (O := pathOrd) (l := L) (a := as) (b := bs) ha
  have h0 : Q (lexN as bs) s := by rw [← e0]; exact h
  obtain ⟨k, its, n, rfl, e, r⟩ := hx
  obtain ⟨k2, its2, n2, rfl, e2, r2⟩ := hy
  exact oneLt_list (by omega) e e2 (lexN_at (show A.units + 1 + 2 < cLine by omega) r r2 (hL.1 as ha) (hL.1 bs hb) (hL.2 as ha bs hb)) h0
theorem kind_lists {keys : Array Value} {Q : SortKind → Shared → Prop} (hk : ∀ v ∈ keys.toList, ∃ ks, KeyIs s.heap v ks) (h2 : 2 ≤ keys.size) (h : Q oneType' s) : wpAny (model prog w) A (keyKind' keys) Q E s := by
  have ty : ∀ v ∈ keys.toList, s.TypeIs v "list" := fun v hv => by
    obtain ⟨ks, k, its, n, rfl, e, _⟩ := hk v hv
    exact typeIs_lst e
  obtain ⟨l⟩ := keys
  match l, h2, ty with
  | x :: y :: l, h2, ty =>
    rw [keyKind'_eq, List.mapM_toArray]
    refine wpAny_bind (wpAny_bind (wp_mapM (b := none) (fun v hv Q' q => ?_) (wpAny_pure ?_)))
    · show wpAny _ _ (typeOf v >>= fun t => if t != .type "tuple" then pure none else _) _ _ _
      refine wpAny_bind (wpAny_typeOf (ty v hv) ?_)
      rw [if_pos (by decide)]
      exact wpAny_pure q
    · rw [if_neg (by simp), if_neg (by simp)]
      refine wpAny_bind ?_
      rw [oneTypeOnly'_eq, List.mapM_toArray]
      refine wpAny_bind (wpAny_bind (wp_mapM (b := Value.type "list") (fun v hv Q' q => wpAny_typeOf (ty v hv) q) (wpAny_pure ?_)))
      have h0 : ((x :: y :: l).map fun _ => Value.type "list").toArray[0]? = some (Value.type "list") := by simp
      rw [h0]
      have hall : (((x :: y :: l).map fun _ => Value.type "list").toArray.all fun z => z == Value.type "list") = true := by
        simp only [List.all_toArray, List.all_map, List.all_eq_true]
        intro _ _
        rfl
      simp only [hall, if_true]
      exact wpAny_pure (wpAny_pure h)
theorem endT {a kS : Addr} {vs : List Value} {keys : Array Value} {L : List (List NKey)} {e e1 : Nat} {P : PySem.Fin → Shared → Prop} (hu : A.units + 3 < cLine) (hL : AllLike L) (ha : s.heap.get? a = some (seqObj "list" #[] e1)) (hk : s.heap.get? kS = some (seqObj "list" keys e)) (hka : kS ≠ a)
    (hi : ∀ v ∈ keys.toList, ∃ ks, KeyIs s.heap v ks ∧ ks ∈ L) (hl : keys.size = vs.length) (h1000 : vs.length ≤ 1000)
    (h : ∀ (h' : Heap) tk e2 (ps : List (Value × Value)), (∀ b o, b ≠ a → b ≠ kS → s.heap.get? b = some o → h'.get? b = some o) → ps.Perm (keys.toList.zip vs) → Up (fun v => rankIn pathOrd L (keyOfV s.heap v)) ps → h'.get? a = some (seqObj "list" (ps.map (·.2)).toArray e2) → (∃ o, h'.get? kS = some o) → P (.done (.ret .none)) { s with heap := h', toks := tk }) :
    wpAny (model prog w) A (ksk_end a false vs.toArray e1 (.ref kS) keys) P E s := by
  have tail : ∀ st : SortSt, failedOf st = none → (arrOf st).toList.Perm (keys.toList.zip vs) → Up (fun v => rankIn pathOrd L (keyOfV s.heap v)) (arrOf st).toList → wpAny (model prog w) A (ksk_tail a false e1 (.ref kS) st) P E s := fun st hf hp hup => by
    have s1 := Heap.SameBut.update s.heap kS (Obj.mapSeq fun _ => (#[] : Array Value))
    have na1 : (s.heap.update kS (Obj.mapSeq fun _ => (#[] : Array Value))).get? a = some (seqObj "list" #[] e1) := (s1.2 a hka.symm).trans ha
    have nk1 := get?_update_seq hk (fun _ => (#[] : Array Value))
    have hsz : ((arrOf st).map (·.2)).size = vs.length := by
      rw [Array.size_map, ← Array.length_toList, hp.length_eq, List.length_zip, Array.length_toList, hl, Nat.min_self]
    unfold ksk_tail
    dsimp only
    refine wpAny_bind (listUpdate_at hk rfl ?_ (by rw [hl, sizeLine_eq]; omega) (Nat.zero_le _))
    refine wpAny_bind (wpAny_letGo ?_)
    refine wpAny_bind (seqEpoch_at na1 rfl ?_)
    refine wpAny_bind (listUpdate_at na1 rfl ?_ (Nat.zero_le _) (by simp only [Bool.false_eq_true, if_false]; rw [hsz, sizeLine_eq]; omega))
    rw [hf]
    simp only [bne_self_eq_false, Bool.false_eq_true, if_false]
    have s2 := Heap.SameBut.update (s.heap.update kS (Obj.mapSeq fun _ => (#[] : Array Value))) a (Obj.mapSeq fun _ => (arrOf st).map (·.2))
    obtain ⟨e2, he2⟩ : ∃ e2, ((s.heap.update kS (Obj.mapSeq fun _ => (#[] : Array Value))).update a (Obj.mapSeq fun _ => (arrOf st).map (·.2))).get? a = some (seqObj "list" ((arrOf st).map (·.2)) e2) := ⟨_, get?_update_seq na1 _⟩
    have ea : (((arrOf st).toList.map (·.2)).toArray : Array Value) = (arrOf st).map (·.2) := by apply Array.ext'; simp
    exact wpAny_pure (h _ _ e2 (arrOf st).toList (fun b o hb hb2 eb => (s2.2 b hb).trans ((s1.2 b hb2).trans eb)) hp hup (by rw [ea]; exact he2) ⟨_, (s2.2 kS hka).trans nk1⟩)
  have hz : (keys.zip vs.toArray).toList = keys.toList.zip vs := by simp
  unfold ksk_end
  simp only [Bool.false_eq_true, if_false]
  by_cases h2 : vs.toArray.size < 2
  · rw [if_pos h2, if_pos h2]
    refine wpAny_bind (wpAny_pure ?_)
    rw [StateT.run_pure]
    refine wpAny_bind (wpAny_pure ?_)
    dsimp only
    refine tail _ rfl (by show (keys.zip vs.toArray).toList.Perm _; rw [hz]) ?_
    show Up _ (keys.zip vs.toArray).toList
    have hl1 : (keys.zip vs.toArray).toList.length ≤ 1 := by rw [hz, List.length_zip]; simp at h2; omega
    generalize (keys.zip vs.toArray).toList = l at hl1
    match l, hl1 with
    | [], _ => exact .nil
    | [x], _ => exact List.pairwise_singleton _ _
    | _ :: _ :: _, hl1 => simp at hl1
  · rw [if_neg h2, if_neg h2]
    refine wpAny_bind (kind_lists (fun v hv => let ⟨ks, x, _⟩ := hi v hv; ⟨ks, x⟩) (by rw [hl]; simp at h2; omega) ?_)
    refine wpAny_bind (wpAny_mono (tim_sortRuns (cmpT hu hL) (a₀ := keys.zip vs.toArray) (st := SortSt.mk' oneType' (keys.zip vs.toArray) #[] 7 none) (Q := fun _ st' => failedOf st' = none ∧ (arrOf st').toList.Perm (keys.toList.zip vs) ∧ Up (fun v => rankIn pathOrd L (keyOfV s.heap v)) (arrOf st').toList) (fun p hp => ?_) rfl rfl (Array.Perm.refl _) rfl fun st' a1 a2 a3 => ⟨a2, by rw [← hz]; exact Array.perm_iff_toList_perm.mp a1, a3⟩) ?_ fun _ _ e => e)
    · rw [hz] at hp
      exact hi p.1 (List.of_mem_zip hp).1
    · rintro ⟨⟨⟩, st'⟩ s' ⟨rfl, hf, hp, hup⟩
      exact tail st' hf hp hup
end
end L2
set_option maxHeartbeats 4000000
namespace L2
open PySem PySem.Spec PyProof.Rows PySem.W
noncomputable def DictEs (h : Heap) (d : Addr) (es : Array DictEntry) (ep : Nat) : Prop := ∃ o, h.get? d = some o ∧ o.ExactDict ∧ o.data = .dict es ep
section
variable {prog : Program} {w : World} {A : Around} {E : Value → Shared → Prop} {s : Shared} {d : Addr} {es : Array DictEntry} {ep : Nat}
theorem DictEs.typeIs (x : DictEs s.heap d es ep) : s.TypeIs (.ref d) "dict" := let ⟨o, e, c, _⟩ := x; ⟨o, e, c.1⟩
theorem es_iter {Q : Value → Shared → Prop} (hd : (d == sysModules) = false) (hm : DictEs s.heap d es ep)
    (q : Q (.ref s.heap.objs.size) { s with heap := s.heap.push { cls := .type "dict_keyiterator", data := .fields #[.ref d, .int 0 0, .int es.size 0, .int ep 0] } }) : wpAny (model prog w) A (pyIter (.ref d)) Q E s := by
  obtain ⟨o, g1, g2, g3⟩ := id hm
  have ty := hm.typeIs
  refine wpAny_pyIter_slot ty F.slot_dict_iter (wpAny_call_entry F.slot_dict_iter ty F.entry_dict_iter ?_ (F.args_dict_iter_1 _))
  unfold Builtin.«dict.__iter__»
  refine wpAny_bind ?_
  unfold Builtin.Dict.dictSlotNone
  refine wpAny_bind (wpAny_notOrdered_dict ty (wpAny_pure ?_))
  show wpAny _ _ (Builtin.Dict.showsAll d >>= _) _ _ s
  unfold Builtin.Dict.showsAll
  rw [if_neg (fun z => by rw [hd] at z; cases z)]
  refine wpAny_bind (wpAny_pure (wpAny_bind (wpAny_dictEntries g1 g3 (wpAny_bind (wpAny_dictEpoch g1 g3 ?_)))))
  refine wpAny_bind (wpAny_newObj_type (wpAny_pure ⟨_, rfl, "dict_keyiterator", _, ⟨_, Heap.get?_push_size _ rfl, rfl⟩, F.slot_dict_keyiterator_next.lookup, ?_⟩))
  simpa [rawInt] using q
theorem es_look {it : Addr} {i : Nat} {Q : Option Value → Shared → Prop} (t : s.heap.IsKeyIter it d i es.size ep) (hm : DictEs s.heap d es ep) (hi : i < es.size) (en : DictEntry) (hx : es[i]? = some en)
    (q : ∀ h', h'.IsKeyIter it d (i + 1) es.size ep → Heap.SameBut it s.heap h' → Q (some en.key) { s with heap := h' }) : wpAny (model prog w) A (pyNext (.ref it)) Q E s := by
  obtain ⟨oi, g1, g2, g3⟩ := id t
  obtain ⟨o, f1, f2, f3⟩ := id hm
  have ty := t.typeIs
  have sl := F.slot_dict_keyiterator_next
  unfold pyNext
  refine wpAny_bind (wpAny_attempt (wpAny_callSpecial?_slot (name := Str.ofString "__next__") ty sl (wpAny_call_entry sl ty F.entry_dict_keyiterator_next ?_ (F.args_dict_keyiterator_next_1 _))))
  refine wpAny_bind (wpAny_pure (wpAny_bind (wpAny_bind ?_)))
  first | refine wpAny_bind (wpAny_typeNameOfWhole_keyiter ty (wpAny_pure ?_)) | refine wpAny_bind (wpAny_typeNameOf_keyiter ty (wpAny_pure ?_))
  refine wpAny_bind (wpAny_fieldsOf g1 g3 ?_)
  have ow : Builtin.Dict_items.ownsTuple "dict_keyiterator" = false := by decide
  simp only [ow, Bool.false_eq_true, if_false]
  show wpAny _ _ (if (Value.ref d == Value.none) = true then _ else _) _ _ s
  rw [if_neg (fun z : (Value.ref d == Value.none) = true => by cases z)]
  refine wpAny_bind (wpAny_pure (wpAny_bind (wpAny_dictEntries f1 f3 ?_)))
  rw [if_neg (by simp)]
  refine wpAny_bind (wpAny_pure (wpAny_bind (wpAny_dictEpoch f1 f3 ?_)))
  rw [if_neg (by simp)]
  refine wpAny_pure ?_
  have e0 : es[i] = en := Option.some.inj ((Array.getElem?_eq_getElem hi).symm.trans hx)
  simp only [show ¬ ((i : Int) < 0) from by omega, if_false, Int.toNat_natCast, hx]
  refine wpAny_bind ?_
  first | refine wpAny_bind (wpAny_typeNameOfWhole_keyiter ty (wpAny_pure ?_)) | refine wpAny_bind (wpAny_typeNameOf_keyiter ty (wpAny_pure ?_))
  refine wpAny_bind (wpAny_isOneOf_keyiter ty ?_)
  show wpAny _ _ (setField (.ref it) 1 (rawInt ((i : Int) + 1)) >>= _) _ _ s
  refine wpAny_bind (wpAny_setField g1 g3 (by simp) ?_)
  have t2 : (s.heap.update it (Obj.mapFields (·.setIfInBounds 1 (rawInt ((i : Int) + 1))))).IsKeyIter it d (i + 1) es.size ep :=
    ⟨_, Heap.get?_update_self _ g1 (Obj.isFreed_of_fields (Obj.data_mapFields g3 _)), (Obj.cls_mapFields ..).trans g2, by rw [Obj.data_mapFields g3]; simp [rawInt]⟩
  refine wpAny_bind (wpAny_holding (wpAny_bind (wpAny_isOneOf_keyiter (s := { s with heap := s.heap.update it (Obj.mapFields (·.setIfInBounds 1 (rawInt ((i : Int) + 1)))) }) t2.typeIs ?_)))
  show wpAny _ _ (pure en.key) _ _ _
  exact wpAny_pure (wpAny_pure ⟨_, rfl, wpAny_pure (q _ t2 (Heap.SameBut.update ..))⟩)
theorem es_end {it : Addr} {Q : Option Value → Shared → Prop} (hh : A.handled = none) (t : s.heap.IsKeyIter it d es.size es.size ep) (hm : DictEs s.heap d es ep)
    (q : ∀ h', Heap.ExtBut it s.heap h' → Q none { s with heap := h' }) : wpAny (model prog w) A (pyNext (.ref it)) Q E s := by
  obtain ⟨oi, g1, g2, g3⟩ := id t
  obtain ⟨o, f1, f2, f3⟩ := id hm
  have ty := t.typeIs
  have sl := F.slot_dict_keyiterator_next
  unfold pyNext
  refine wpAny_bind (wpAny_attempt (wpAny_callSpecial?_slot (name := Str.ofString "__next__") ty sl (wpAny_call_entry sl ty F.entry_dict_keyiterator_next ?_ (F.args_dict_keyiterator_next_1 _))))
  refine wpAny_bind (wpAny_pure (wpAny_bind (wpAny_bind ?_)))
  first | refine wpAny_bind (wpAny_typeNameOfWhole_keyiter ty (wpAny_pure ?_)) | refine wpAny_bind (wpAny_typeNameOf_keyiter ty (wpAny_pure ?_))
  refine wpAny_bind (wpAny_fieldsOf g1 g3 ?_)
  have ow : Builtin.Dict_items.ownsTuple "dict_keyiterator" = false := by decide
  simp only [ow, Bool.false_eq_true, if_false]
  show wpAny _ _ (if (Value.ref d == Value.none) = true then _ else _) _ _ s
  rw [if_neg (fun z : (Value.ref d == Value.none) = true => by cases z)]
  refine wpAny_bind (wpAny_pure (wpAny_bind (wpAny_dictEntries f1 f3 ?_)))
  rw [if_neg (by simp)]
  refine wpAny_bind (wpAny_pure (wpAny_bind (wpAny_dictEpoch f1 f3 ?_)))
  rw [if_neg (by simp)]
  refine wpAny_pure ?_
  simp only [show ¬ ((es.size : Int) < 0) from by omega, if_false, Int.toNat_natCast, Array.getElem?_eq_none (Nat.le_refl _)]
  refine wpAny_bind ?_
  first | refine wpAny_bind (wpAny_typeNameOfWhole_keyiter ty (wpAny_pure ?_)) | refine wpAny_bind (wpAny_typeNameOf_keyiter ty (wpAny_pure ?_))
  show wpAny _ _ (setField (.ref it) 0 .none >>= _) _ _ s
  refine wpAny_bind (wpAny_setField g1 g3 (by simp) ?_)
  show wpAny _ _ (newExc (.type "StopIteration") [] >>= _) _ _ _
  refine wpAny_bind ?_
  simp only [newExc, newTuple]
  refine wpAny_bind (wpAny_newObj_type ?_ (by size_fits))
  refine wpAny_bind (m := firstArgMember _ _) (wpAny_of_eq (a := Value.none) (by first | rfl | (simp only [firstArgMember]; rfl)) (wpAny_newObj_type ?_ (by size_fits)))
  simp only [raiseNew]
  refine wpAny_bind (wpAny_handled ?_)
  rw [(hh : A.in1.handled = none)]
  refine wpAny_bind (wpAny_pure ?_); refine wpAny_throw ?_
  refine wpAny_bind (wpAny_isInstance (b := true) (T := "StopIteration") ⟨_, Heap.get?_push_size _ rfl, rfl⟩ isSubtype_stop ?_)
  exact wpAny_pure (q _ (((Heap.SameBut.update ..).extBut.push _).push _))
theorem DictEs.ext {h h' : Heap} {b : Addr} (x : DictEs h d es ep) (k : Heap.ExtBut b h h') (hb : d ≠ b) : DictEs h' d es ep := let ⟨o, e, r⟩ := x; ⟨o, k d o hb e, r⟩
theorem DictEs.at {h h' : Heap} (x : DictEs h d es ep) (k : ∀ o, h.get? d = some o → h'.get? d = some o) : DictEs h' d es ep := let ⟨o, e, r⟩ := x; ⟨o, k o e, r⟩
theorem DictEs.lt {h : Heap} (x : DictEs h d es ep) : d < h.objs.size := let ⟨_, e, _⟩ := x; Heap.lt_size e
theorem es_src (lo : (d == sysModules) = false) : KdlSrc prog w "dict" d d es.size (fun i v => ∃ en, es[i]? = some en ∧ v = en.key) (fun h => DictEs h d es ep) where
  type := fun _ x => x.typeIs
  there := fun _ x => ⟨x.lt, x.lt⟩
  keep := fun _ _ x k => x.at fun o e => k d (.inl rfl) o e
  notList := by decide
  notTuple := by decide
  hint := fun _ _ _ _ x q => kdl_hint_dict x.typeIs q
  iter := fun A s hh x => by
    have hne : d ≠ s.heap.objs.size := Nat.ne_of_lt x.lt
    refine ⟨_, fun i h => h.IsKeyIter s.heap.objs.size d i es.size ep ∧ DictEs h d es ep, fun _ _ q => es_iter lo x q, ?_, ⟨⟨_, Heap.get?_push_size _ rfl, rfl, rfl⟩, x.at fun o e => Heap.get?_push_of_some _ e⟩⟩
    exact {
      sub := fun b hb => List.mem_cons.mpr (.inl (List.mem_singleton.mp hb))
      frame := fun i h h' st k => ⟨let ⟨o, e, r⟩ := st.1; ⟨o, k _ (by simp) o e, r⟩, st.2.at fun o e => k d (by simp) o e⟩
      item := fun i s' Q E hi st q => by
        refine es_look st.1 st.2 hi es[i] (Array.getElem?_eq_getElem hi) fun h' t2 sb => ?_
        exact q _ h' s'.toks ⟨_, Array.getElem?_eq_getElem hi, rfl⟩ ⟨t2, st.2.ext sb.extBut hne⟩ fun b o hb e => sb.extBut b o (fun z => hb (by simp [z])) e
      done := fun s' Q E st q => es_end hh st.1 st.2 fun h' x' => q h' s'.toks fun b o hb e => x' b o (fun z => hb (by simp [z])) e
      self := fun i s' Q E st q => wpAny_pyIter_keyiter st.1 q }
end
end L2
set_option maxHeartbeats 4000000
namespace L2
open PySem PySem.Spec PyProof.Rows PySem.W
noncomputable def Prs (H : Hp) (us : List V) (ks : List NKey) : Prop := Paired (fun (u : V) (k : NKey) => ∃ p, u = .ref p ∧ H p = some (.tup (prV k))) us ks
theorem Prs.mono {H H' : Hp} {us : List V} {ks : List NKey} (s : Same H H') (h : Prs H us ks) : Prs H' us ks := Paired.mapP h fun _ _ ⟨p, e, q⟩ => ⟨p, e, s _ _ q⟩
noncomputable def KeyV (H : Hp) (v : V) (ks : List NKey) : Prop := ∃ l us, v = .ref l ∧ H l = some (.lst us) ∧ Prs H us ks
theorem KeyV.mono {H H' : Hp} {v : V} {ks : List NKey} (s : Same H H') (h : KeyV H v ks) : KeyV H' v ks := let ⟨l, us, e, a, b⟩ := h; ⟨l, us, e, s _ _ a, b.mono s⟩
theorem prs_at {P : Program} {w : World} {H : Hp} {h : Heap} (ok : HOk P w H h) : ∀ {us : List V} {ks : List NKey} {its : List Value}, Prs H us ks → Vals us its → Paired (PrAt h) its ks
  | _, _, _, .nil, .nil => .nil
  | _, _, _, .cons ⟨p, e, q⟩ t, .cons r t' => by
    subst e
    refine .cons ?_ (prs_at ok t t')
    obtain ⟨_, its, rv, tp⟩ := (show ObjOk P w H h p (.tup _) from ok p _ q)
    exact ⟨p, its, r, tp, rv⟩
theorem KeyV.is {P : Program} {w : World} {H : Hp} {h : Heap} {v : V} {u : Value} {ks : List NKey} (ok : HOk P w H h) (x : KeyV H v ks) (r : RelV v u) : KeyIs h u ks := by
  obtain ⟨l, us, rfl, e, q⟩ := x
  obtain ⟨_, its, n, rv, g⟩ := (show ObjOk P w H h l (.lst us) from ok l _ e)
  exact ⟨l, its.toArray, n, r, g, by simpa using prs_at ok q rv⟩
section
variable {X : Cx} {pins : List (Addr × Obj)} {σ : St} {s : Shared} {E : Value → Shared → Prop}
noncomputable def KeyOkT (X : Cx) (pins : List (Addr × Obj)) (σ : St) (H0 : Hp) (A : Around) (f : Value) (vs : List Value) (kss : List (List NKey)) : Prop :=
  ∀ (i : Nat) v ks, vs[i]? = some v → kss[i]? = some ks → ∀ (pl : List (Addr × Obj)) (H : Hp) (s' : Shared), Same H0 H → Inv X (pins ++ pl) σ H s' →
    wpAny (model X.prog X.w) A (call f [v]) (fun u s'' => ∃ H' x, Same H H' ∧ Inv X (pins ++ pl) σ H' s'' ∧ RelV x u ∧ KeyV H' x ks) (fun _ _ => False) s'
noncomputable def KeysV (H : Hp) (us : List Value) (kss : List (List NKey)) : Prop := Paired (fun (u : Value) (ks : List NKey) => ∃ x, RelV x u ∧ KeyV H x ks) us kss
theorem KeysV.mono {H H' : Hp} {us : List Value} {kss : List (List NKey)} (s : Same H H') (h : KeysV H us kss) : KeysV H' us kss := Paired.mapP h fun _ _ ⟨x, r, q⟩ => ⟨x, r, q.mono s⟩
theorem restT {A : Around} {f : Value} {a kS : Addr} {vs : List Value} {kss : List (List NKey)} {H : Hp} {e1 : Nat} {P : PySem.Fin → Shared → Prop} (hu : A.units + 3 < cLine) (hL : AllLike kss) (I : Inv X pins σ H s)
    (ha : s.heap.get? a = some (seqObj "list" #[] e1)) (hk : s.heap.get? kS = some (seqObj "list" #[] 0)) (hka : kS ≠ a) (fa : FpOk X pins H a) (fk : FpOk X pins H kS) (hl : kss.length = vs.length) (h1000 : vs.length ≤ 1000) (KO : KeyOkT X pins σ H A f vs kss)
    (h : ∀ s' Hn, Same H Hn → Inv X pins σ Hn s' → Hn a = none → Hn kS = none → (∃ o, s'.heap.get? a = some o) → ∀ (keys : Array Value), KeysV Hn keys.toList kss → ∀ h' tk e2 (ps : List (Value × Value)), (∀ b o, b ≠ a → b ≠ kS → s'.heap.get? b = some o → h'.get? b = some o) → (∃ o, h'.get? kS = some o) → ps.Perm (keys.toList.zip vs) →
      Up (fun v => rankIn pathOrd kss (keyOfV s'.heap v)) ps → h'.get? a = some (seqObj "list" (ps.map (·.2)).toArray e2) → P (.done (.ret .none)) { s' with heap := h', toks := tk }) :
    wpAny (model X.prog X.w) A (ksk_rest a f false vs.toArray e1 (.ref kS)) P E s := by
  unfold ksk_rest
  refine wpAny_bind (wpAny_rule ?_)
  rw [List.forIn_toArray]
  refine wpAny_bind (ksk_fold (fun i s' => ∃ kA e Hi, Same H Hi ∧ Inv X pins σ Hi s' ∧ Hi a = none ∧ Hi kS = none ∧ s'.heap.get? a = some (seqObj "list" #[] e1) ∧ s'.heap.get? kS = some (seqObj "list" kA e) ∧ KeysV Hi kA.toList (kss.take i)) vs 0 s
    ⟨#[], 0, H, Same.refl _, I, fa.1, fk.1, ha, hk, by simpa [KeysV] using Paired.nil⟩ ?step ?done)
  case step =>
    rintro j x s' hx ⟨kA, e, Hi, sm, J, nA, nK, na, nk, hi⟩
    simp only [Nat.zero_add] at hi ⊢
    have hj : j < vs.length := (List.getElem?_eq_some_iff.mp hx).1
    obtain ⟨ks, hkj⟩ : ∃ ks, kss[j]? = some ks := ⟨_, List.getElem?_eq_getElem (by omega)⟩
    have hz : kA.size ≤ vs.length := by
      have h1 := Paired.length hi
      rw [Array.length_toList, List.length_take] at h1
      omega
    have J2 : Inv X (pins ++ [(a, seqObj "list" #[] e1), (kS, seqObj "list" kA e)]) σ Hi s' := J.pins_of fun p hp => by
      rcases List.mem_append.mp hp with hp | hp
      · exact J.pin p (List.mem_append_right _ hp)
      · rcases List.mem_cons.mp hp with rfl | hp
        · exact ⟨na, nA, fa.2.1, fa.2.2.1, fun v => by simp [seqObj]⟩
        · rw [List.mem_singleton.mp hp]
          exact ⟨nk, nK, fk.2.1, fk.2.2.1, fun v => by simp [seqObj]⟩
    refine wpAny_bind (wpAny_attempt (wpAny_mono (KO j x ks hx hkj _ Hi s' sm J2) (fun u s'' he => ?_) fun _ _ hF => hF.elim))
    obtain ⟨H', y, sm2, J3, ry, ky⟩ := he
    dsimp only
    have p1 := J3.pin (a, seqObj "list" #[] e1) (List.mem_append_right _ (List.mem_append_right _ (.head _)))
    have p2 := J3.pin (kS, seqObj "list" kA e) (List.mem_append_right _ (List.mem_append_right _ (.tail _ (.head _))))
    have na3 := p1.1
    have nk3 := p2.1
    have J4 : Inv X pins σ H' s'' := J3.unpinned
    have s1 := Heap.SameBut.update s''.heap kS (Obj.mapSeq (·.push u))
    obtain ⟨c2, hc2⟩ : ∃ c2, (s''.heap.update kS (Obj.mapSeq (·.push u))).get? kS = some (seqObj "list" (kA.push u) c2) := ⟨_, get?_update_seq nk3 (·.push u)⟩
    have ek : kss.take (j + 1) = kss.take j ++ [ks] := by rw [List.take_add_one, hkj]; simp
    have ea : (kA.push u).toList = kA.toList ++ [u] := by simp
    refine wpAny_bind (listUpdate_at nk3 rfl ?_ (by rw [sizeLine_eq]; omega) (Nat.le_trans (Nat.le_of_eq (Array.size_push ..)) (by rw [sizeLine_eq]; omega)))
    have kp : ∀ b o, b ≠ kS → s''.heap.get? b = some o → (s''.heap.update kS (Obj.mapSeq (·.push u))).get? b = some o := fun b o hb eb => (s1.2 b hb).trans eb
    exact wpAny_pure ⟨rfl, kA.push u, c2, H', sm.trans sm2, J4.turned (t' := s''.toks) kp p2.2.1 fk.2.1 fk.2.2.2.1 fk.2.2.2.2.1 fk.2.2.2.2.2, p1.2.1, p2.2.1, kp _ _ hka.symm na3, hc2, by rw [ea, ek]; exact Paired.snoc (hi.mono sm2) ⟨y, ry, ky⟩⟩
  case done =>
    rintro s' ⟨kA, e, Hi, sm, J, nA, nK, na, nk, hi⟩
    have e3 : kss.take (0 + vs.length) = kss := List.take_of_length_le (by omega)
    rw [e3] at hi
    have hsz : kA.size = vs.length := by
      have h1 := Paired.length hi
      rw [Array.length_toList] at h1
      omega
    refine wpAny_bind (listItems_at nk rfl ?_)
    refine endT hu hL na nk hka (fun v hv => ?_) hsz h1000 fun h' tk e2 ps kp pp up ga gk => h s' Hi sm J nA nK ⟨_, na⟩ kA hi h' tk e2 ps kp gk pp up ga
    obtain ⟨i, hiv⟩ := List.mem_iff_getElem?.mp hv
    have hil := (List.getElem?_eq_some_iff.mp hiv).1
    have hlk : kA.toList.length = kss.length := Paired.length hi
    obtain ⟨ks, hks⟩ : ∃ ks, kss[i]? = some ks := ⟨_, List.getElem?_eq_getElem (by omega)⟩
    have gp : ∀ {us : List Value} {ls : List (List NKey)} (n : Nat) {u : Value} {k : List NKey}, KeysV Hi us ls → us[n]? = some u → ls[n]? = some k → ∃ x, RelV x u ∧ KeyV Hi x k := by
      intro us ls n
      induction n generalizing us ls with
      | zero =>
        intro u k q h1 h2
        cases q with
        | nil => cases h1
        | cons r t => cases h1; cases h2; exact r
      | succ n ih =>
        intro u k q h1 h2
        cases q with
        | nil => cases h1
        | cons r t => exact ih t (by simpa using h1) (by simpa using h2)
    obtain ⟨x, rx, kx⟩ := gp i hi hiv hks
    exact ⟨ks, kx.is J.hok rx, List.mem_of_getElem? hks⟩
end
end L2
set_option maxHeartbeats 4000000
namespace L2
open PySem PySem.Spec PyProof.Rows PySem.W
noncomputable def TupsV (H : Hp) (ts : List V) (kss : List (List NKey)) : Prop := Paired (fun (x : V) (ks : List NKey) => ∃ b, x = .ref b ∧ H b = some (.tup (ks.map nV))) ts kss
theorem TupsV.mono {H H' : Hp} {ts : List V} {kss : List (List NKey)} (s : Same H H') (h : TupsV H ts kss) : TupsV H' ts kss := Paired.mapP h fun _ _ ⟨b, e, q⟩ => ⟨b, e, s _ _ q⟩
noncomputable def refV : Value → V
  | .ref b => .ref b
  | _ => .non
section
variable {X : Cx} {pins : List (Addr × Obj)} {σ : St} {H : Hp} {s : Shared} {E : Value → Shared → Prop}
theorem sorted_dT {d q : Addr} {kvs : List (List NKey × V)} {Q : VK} (I : Inv X pins σ H s) (hex : X.ex = []) (hc : X.calm = true) (hu : X.A.units + 8 < cLine) (hd : H d = some (.dT kvs)) (h1000 : kvs.length ≤ 1000) (hL : AllLike (kvs.map (·.1)))
    (KO : ∀ vs, vs.length = kvs.length → (∀ (i : Nat) v ks, vs[i]? = some v → (kvs.map (·.1))[i]? = some ks → ∃ b, v = .ref b ∧ H b = some (.tup (ks.map nV))) → KeyOkT X pins σ H X.A.in1.in1 (.ref q) vs (kvs.map (·.1)))
    (hQ : ∀ Hn D ts kss, Same H Hn → Hn D = none → TupsV Hn ts kss → kss.Perm (kvs.map (·.1)) → kss.Pairwise (fun a b => lexN a b = true) → Q (.ref D) (upd Hn D (.lst ts))) :
    wpAny (model X.prog X.w) X.A (call (.builtin "sorted") [.ref d] [(Str.ofString "key", .ref q)]) (EP X pins σ Q) E s := by
  obtain ⟨_, lo, xs, kt, o, es, ep, g1, g2, g3, g4, _, nd⟩ := dt_of I.hok hd
  have hxl : xs.length = kvs.length := kt.length.symm
  have hel : es.size = kvs.length := by rw [← Array.length_toList, g4, List.length_map, hxl]
  have nd' : (kvs.map (·.1)).Nodup := by
    have e : kvs.map (·.1) = xs.map (·.1) := by
      have all : ∀ {l : List (List NKey × V)} {m : List (List NKey × Addr × Value)}, KT H l m → l.map (·.1) = m.map (·.1) := by
        intro l m z
        induction z with
        | nil => rfl
        | cons z _ ih => simp only [List.map_cons, ih, z.1]
      exact all kt
    rw [e]; exact nd
  refine call_function_entry_kw kind_sorted plain_sorted entry_sorted (ksk_s1 _ _) ?_
  unfold Builtin.«sorted»
  refine wpAny_bind (m := checkCount "sorted" 1 1 _) (wpAny_pure ?_)
  refine wpAny_bind (collect_src (es_src (es := es) (ep := ep) lo) (I.ok.hd hc) ⟨o, g1, g2, g3⟩ (by rw [hel, sizeLine_eq]; omega) fun h1 tk acc hk hsz hacc => ?_)
  have hvl : acc.toList.length = kvs.length := by rw [Array.length_toList, hacc.1, hel]
  have hvs : ∀ (i : Nat) v ks, acc.toList[i]? = some v → (kvs.map (·.1))[i]? = some ks → ∃ b, v = .ref b ∧ H b = some (.tup (ks.map nV)) := by
    intro i v ks hv hks
    obtain ⟨en, he, rfl⟩ := hacc.2 i v (by rw [← Array.getElem?_toList]; exact hv)
    rw [entry_at g4] at he
    obtain ⟨x, hx, rfl⟩ := Option.map_eq_some_iff.mp he
    have all : ∀ {l : List (List NKey × V)} {m : List (List NKey × Addr × Value)} (i : Nat) {x : List NKey × Addr × Value} {ks : List NKey}, KT H l m → m[i]? = some x → (l.map (·.1))[i]? = some ks → H x.2.1 = some (.tup (ks.map nV)) := by
      intro l m i
      induction i generalizing l m with
      | zero =>
        intro x ks z h1 h2
        cases z with
        | nil => cases h1
        | cons z _ => cases h1; cases h2; exact z.2.1
      | succ i ih =>
        intro x ks z h1 h2
        cases z with
        | nil => cases h1
        | cons z t => exact ih t (by simpa using h1) (by simpa using h2)
    exact ⟨x.2.1, rfl, all i kt hx hks⟩
  generalize acc.toList = vs at *
  refine wpAny_bind (wpAny_newList ?_ (hsz := by rw [sizeLine_eq]; omega))
  have hoL : (h1.push (seqObj "list" vs.toArray 0)).get? h1.objs.size = some (seqObj "list" vs.toArray 0) := Heap.get?_push_size _ rfl
  have hsL : (h1.push (seqObj "list" vs.toArray 0)).objs.size = h1.objs.size + 1 := Heap.size_push ..
  have kL : ∀ b o, s.heap.get? b = some o → (h1.push (seqObj "list" vs.toArray 0)).get? b = some o := fun b o e => Heap.get?_push_of_some _ (hk b o e)
  show wpAny _ _ _ _ _ { s with heap := h1.push (seqObj "list" vs.toArray 0), toks := tk }
  generalize h1.push (seqObj "list" vs.toArray 0) = h2 at *
  have haz : s.heap.objs.size ≤ h1.objs.size := Nat.le_of_lt hsz
  refine wpAny_bind (wpAny_holding (wpAny_call_entry_kw slot_list_sort ⟨_, hoL, rfl⟩ entry_list_sort ?body (ksk_l1 _ _)))
  case body =>
    show wpAny (model X.prog X.w) X.A.in1.in1 (Builtin.«list.sort» ⟨[.ref h1.objs.size], [(Str.ofString "key", .ref q)]⟩) _ _ _
    rw [ksk_t1]
    unfold ksk_tree
    refine wpAny_bind (listItems_at hoL rfl ?_)
    refine wpAny_bind (listUpdate_at hoL rfl ?_ (by rw [List.size_toArray, sizeLine_eq]; omega) (Nat.zero_le _))
    obtain ⟨e1, ho1⟩ : ∃ e1, (h2.update h1.objs.size (Obj.mapSeq fun _ => (#[] : Array Value))).get? h1.objs.size = some (seqObj "list" #[] e1) := ⟨_, get?_update_seq hoL fun _ => #[]⟩
    have s3 : (h2.update h1.objs.size (Obj.mapSeq fun _ => (#[] : Array Value))).objs.size = h1.objs.size + 1 := by rw [Heap.size_update, hsL]
    have k3 : ∀ b o, s.heap.get? b = some o → (h2.update h1.objs.size (Obj.mapSeq fun _ => (#[] : Array Value))).get? b = some o := fun b o e => (Heap.get?_update_other _ _ (Nat.ne_of_gt (Nat.lt_of_lt_of_le (Heap.lt_size e) haz))).trans (kL b o e)
    refine wpAny_bind (seqEpoch_at ho1 rfl ?_)
    generalize h2.update h1.objs.size (Obj.mapSeq fun _ => (#[] : Array Value)) = h3 at *
    refine wpAny_bind (wpAny_newTuple ?_ (by show vs.length ≤ _; rw [sizeLine_eq]; omega))
    have ho4 : (h3.push (seqObj "tuple" vs.toArray 0)).get? h1.objs.size = some (seqObj "list" #[] e1) := Heap.get?_push_of_some _ ho1
    have s4 : (h3.push (seqObj "tuple" vs.toArray 0)).objs.size = h1.objs.size + 2 := by rw [Heap.size_push, s3]
    have k4 : ∀ b o, s.heap.get? b = some o → (h3.push (seqObj "tuple" vs.toArray 0)).get? b = some o := fun b o e => Heap.get?_push_of_some _ (k3 b o e)
    show wpAny _ _ _ _ _ { s with heap := h3.push (seqObj "tuple" vs.toArray 0), toks := tk }
    generalize h3.push (seqObj "tuple" vs.toArray 0) = h4 at *
    refine wpAny_bind (wpAny_newList ?_ (Nat.zero_le _))
    have hoK : (h4.push (seqObj "list" #[] 0)).get? h4.objs.size = some (seqObj "list" #[] 0) := Heap.get?_push_size _ rfl
    have ho5 : (h4.push (seqObj "list" #[] 0)).get? h1.objs.size = some (seqObj "list" #[] e1) := Heap.get?_push_of_some _ ho4
    have k5 : ∀ b o, s.heap.get? b = some o → (h4.push (seqObj "list" #[] 0)).get? b = some o := fun b o e => Heap.get?_push_of_some _ (k4 b o e)
    show wpAny _ _ _ _ _ { s with heap := h4.push (seqObj "list" #[] 0), toks := tk }
    generalize h4.push (seqObj "list" #[] 0) = h5 at *
    refine wpAny_holding ?_
    have hkz2 : s.heap.objs.size ≤ h4.objs.size := by rw [s4]; omega
    have fa : FpOk X pins H h1.objs.size := I.fpOk haz (I.hok.fresh haz)
    have fk : FpOk X pins H h4.objs.size := I.fpOk hkz2 (I.hok.fresh hkz2)
    have I5 : Inv X pins σ H { s with heap := h5, toks := tk } := I.kept k5
    have hka : h4.objs.size ≠ h1.objs.size := by rw [s4]; exact Nat.ne_of_gt (Nat.lt_add_of_pos_right (by decide))
    refine restT (s := { s with heap := h5, toks := tk }) (show X.A.units + 1 + 1 + 3 < cLine by omega) hL I5 ho5 hoK hka fa fk (by rw [List.length_map, hvl]) (by omega) (KO vs hvl hvs) fun s' Hn sm J nA nK _ keys kv h' tk' e2 ps kp _ pp up ga => ⟨_, rfl, ?_⟩
    have J2 : Inv X pins σ Hn { s' with heap := h', toks := tk' } := J.turnedL (ch := [h1.objs.size, h4.objs.size]) (fun b o hb e => by
      simp only [List.mem_cons, List.not_mem_nil, or_false, not_or] at hb
      exact kp b o hb.1 hb.2 e) fun b hb => by
      rcases List.mem_cons.mp hb with rfl | hb
      · exact ⟨nA, fa.2⟩
      · rw [List.mem_singleton.mp hb]; exact ⟨nK, fk.2⟩
    have hln : s.heap.get? h1.objs.size = none := Heap.get?_none_of_le haz
    have hlk : keys.toList.length = (kvs.map (·.1)).length := Paired.length kv
    -- each pair by its place
    have at_ : ∀ (i : Nat) p, (keys.toList.zip vs)[i]? = some p → ∃ ks b, (kvs.map (·.1))[i]? = some ks ∧ keyOfV s'.heap p.1 = ks ∧ p.2 = .ref b ∧ Hn b = some (.tup (ks.map nV)) := by
      intro i p hp
      rw [List.getElem?_zip_eq_some] at hp
      have hil := (List.getElem?_eq_some_iff.mp hp.1).1
      obtain ⟨ks, hks⟩ : ∃ ks, (kvs.map (·.1))[i]? = some ks := ⟨_, List.getElem?_eq_getElem (by omega)⟩
      have gp : ∀ {us : List Value} {ls : List (List NKey)} (n : Nat) {u : Value} {k : List NKey}, KeysV Hn us ls → us[n]? = some u → ls[n]? = some k → ∃ x, RelV x u ∧ KeyV Hn x k := by
        intro us ls n
        induction n generalizing us ls with
        | zero =>
          intro u k q h1 h2
          cases q with
          | nil => cases h1
          | cons r t => cases h1; cases h2; exact r
        | succ n ih =>
          intro u k q h1 h2
          cases q with
          | nil => cases h1
          | cons r t => exact ih t (by simpa using h1) (by simpa using h2)
      obtain ⟨x, rx, kx⟩ := gp i kv hp.1 hks
      obtain ⟨b, eb, hb⟩ := hvs i p.2 ks hp.2 hks
      exact ⟨ks, b, hks, keyOfV_is (kx.is J.hok rx), eb, sm _ _ hb⟩
    have mem_ : ∀ p ∈ ps, ∃ b, p.2 = .ref b ∧ Hn b = some (.tup ((keyOfV s'.heap p.1).map nV)) ∧ keyOfV s'.heap p.1 ∈ kvs.map (·.1) := fun p hp => by
      obtain ⟨i, hi⟩ := List.mem_iff_getElem?.mp (pp.mem_iff.mp hp)
      obtain ⟨ks, b, h1, h2, h3, h4⟩ := at_ i p hi
      exact ⟨b, h3, by rw [h2]; exact h4, by rw [h2]; exact List.mem_of_getElem? h1⟩
    have hperm : (ps.map fun p => keyOfV s'.heap p.1).Perm (kvs.map (·.1)) := by
      have e : (keys.toList.zip vs).map (fun p => keyOfV s'.heap p.1) = kvs.map (·.1) := by
        have hzl : (keys.toList.zip vs).length = kvs.length := by rw [List.length_zip, hlk, List.length_map, hvl, Nat.min_self]
        apply List.ext_getElem?
        intro i
        rw [List.getElem?_map]
        by_cases hi : i < (keys.toList.zip vs).length
        · obtain ⟨ks, b, h1, h2, _, _⟩ := at_ i _ (List.getElem?_eq_getElem hi)
          rw [List.getElem?_eq_getElem hi, h1, Option.map_some, h2]
        · rw [List.getElem?_eq_none (by omega), List.getElem?_eq_none (by rw [List.length_map]; omega)]; rfl
      rw [← e]
      exact pp.map _
    have hpw : (ps.map fun p => keyOfV s'.heap p.1).Pairwise (fun a b => lexN a b = true) := by
      have hnd : (ps.map fun p => keyOfV s'.heap p.1).Nodup := hperm.nodup_iff.mpr nd'
      rw [List.pairwise_map]
      have hnd2 : ps.Pairwise fun x y => keyOfV s'.heap x.1 ≠ keyOfV s'.heap y.1 := by
        have := hnd
        unfold List.Nodup at this
        rwa [List.pairwise_map] at this
      refine List.Pairwise.imp_of_mem (fun {x y} hx hy hxy => ?_) (hnd2.and up)
      have h1 := rank_le (O := pathOrd) (l := kvs.map (·.1)) (a := keyOfV s'.heap x.1) (b := keyOfV s'.heap y.1) (mem_ y hy).choose_spec.2.2 hxy.2
      have h1 : lexN (keyOfV s'.heap y.1) (keyOfV s'.heap x.1) = false := h1
      cases h2 : lexN (keyOfV s'.heap x.1) (keyOfV s'.heap y.1) with
      | true => rfl
      | false => exact absurd (lexN_total _ _ h2 h1) hxy.1
    have tups : ∀ l : List (Value × Value), (∀ p ∈ l, p ∈ ps) → TupsV Hn (l.map fun p => refV p.2) (l.map fun p => keyOfV s'.heap p.1) ∧ Vals (l.map fun p => refV p.2) (l.map (·.2)) := by
      intro l
      induction l with
      | nil => intro _; exact ⟨.nil, .nil⟩
      | cons p l ih =>
        intro hp
        obtain ⟨i1, i2⟩ := ih fun z hz => hp z (List.mem_cons_of_mem _ hz)
        obtain ⟨b, e, hb, _⟩ := mem_ p (hp p List.mem_cons_self)
        refine ⟨.cons ⟨b, by show refV p.2 = _; rw [e]; rfl, hb⟩ i1, .cons ?_ i2⟩
        show RelV (refV p.2) p.2
        rw [e]; rfl
    obtain ⟨t1, t2⟩ := tups ps fun _ z => z
    have hpl : ps.length ≤ 1000 := by rw [pp.length_eq, List.length_zip, hvl]; omega
    refine wpAny_pure ⟨_, rfl, .ref h1.objs.size, upd Hn h1.objs.size (.lst (ps.map fun p => refV p.2)), J2.hold (I.cov hex) hln nA ?_, rfl, hQ _ _ _ _ sm nA t1 hperm hpw⟩
    exact ⟨by rw [List.length_map, sizeLine_eq]; omega, ps.map (·.2), e2, t2, ga⟩
end
end L2
set_option maxHeartbeats 4000000
namespace L2
open PySem PySem.Spec PyProof.Rows PySem.W
noncomputable def tDispT (tk tv : TE) : TE := fun σ H Q => ∀ p, H p = none → tk σ (upd H p (.dT [])) fun x H1 => tv σ H1 fun y H2 => H2 p = some (.dT []) ∧ ∃ b, ∃ ks : List NKey, x = .ref b ∧ H2 b = some (.tup (ks.map nV)) ∧ Q (.ref p) (upd H2 p (.dT [(ks, y)]))
noncomputable def dispQ (p : Addr) (Q : VK) : List (V × V) → Hp → Prop
  | [(x, y)], H2 => H2 p = some (.dT []) ∧ ∃ b, ∃ ks : List NKey, x = .ref b ∧ H2 b = some (.tup (ks.map nV)) ∧ Q (.ref p) (upd H2 p (.dT [(ks, y)]))
  | _, _ => False
section
variable {X : Cx} {pos : Pos}
theorem store_one {pins : List (Addr × Obj)} {σ : St} {H2 : Hp} {s2 : Shared} {E : Value → Shared → Prop} {p b : Addr} {ks : List NKey} {y : V} {u2 : Value} {Q : VK} (hu : X.A.units + 1 < cLine) (I2 : Inv X pins σ H2 s2) (e : H2 p = some (.dT [])) (eb : H2 b = some (.tup (ks.map nV))) (r2 : RelV y u2) (q2 : Q (.ref p) (upd H2 p (.dT [(ks, y)]))) :
    wpAny (model X.prog X.w) X.A (storeAll p [(.ref b, u2)]) (fun _ s3 => EP X pins σ Q (.ref p) s3) E s2 := by
  obtain ⟨z, hd, xs, rel, dd⟩ := dt_of I2.hok e
  cases rel
  unfold storeAll
  rw [List.forIn_cons]
  refine wpAny_bind (wpAny_bind ?_)
  refine wpAny_dictSet_heap (hsz := Nat.zero_le _) (show X.A.units < cLine by omega) (key_of I2.hok eb) dd fun h' dd' hs => ?_
  refine wpAny_pure ?_
  dsimp only
  rw [List.forIn_nil]
  refine wpAny_pure ?_
  obtain ⟨q, es, ep, hq, h2, h3, h4, _, h5⟩ := dd'
  have kt : KT H2 (putK [] ks y) (storedH [] ks b u2) := KT.put .nil ks eb r2
  refine ⟨.ref p, upd H2 p (.dT [(ks, y)]), ?_, rfl, q2⟩
  have hsz : (putK ([] : List (List NKey × V)) ks y).length ≤ sizeLine := by rw [sizeLine_eq]; show 1 ≤ _; omega
  refine d_write (ob := .dT (putK [] ks y)) I2 (by rw [e]; exact True.intro) hs ⟨q, hq⟩ ⟨hsz, hd, _, kt.keeps fun c ys ec => ?_, q, es, ep, hq, h2, h3, h4, h5⟩
  rw [upd_ne (ne_of ec e (fun z => nomatch z))]
  exact ec
theorem pe_dispT {k v : Expr} {tk tv : TE} (hu : X.A.units + 1 < cLine) (hk : PE X k tk) (hv : PE X v tv) : PE X (.Dict [some k] [v] pos) (tDispT tk tv) := by
  intro pins s σ H Q I q
  have hn := I.hok.fresh (Nat.le_refl s.heap.objs.size)
  have I1 := I.laid (a := s.heap.objs.size) (o := .dT []) (h' := s.heap.push { cls := .type "dict", data := .dict #[] }) (t' := s.toks) (fun _ _ q => Heap.get?_push_of_some _ q) (Nat.le_refl _) (dt_empty s.heap I.big)
  refine wpAny_Dict_any rfl rfl (by simp) (by simp) ?_
  have q1 : tPairs [(tk, tv)] σ (upd H s.heap.objs.size (.dT [])) (dispQ s.heap.objs.size Q) := q _ hn
  have pp := (pps_cons (pos := pos) hk hv pps_nil) pins _ σ _ (dispQ s.heap.objs.size Q) I1 q1
  refine thn pp fun ws s2 ⟨ps, H2, I2, rel, h⟩ => ?_
  cases rel with
  | nil => exact False.elim h
  | @cons x1 u1 xr ur r t =>
    cases t with
    | cons r3 t3 => exact False.elim h
    | nil =>
      obtain ⟨x, y⟩ := x1
      obtain ⟨u, u2⟩ := u1
      obtain ⟨r1, r2⟩ := r
      obtain ⟨e, b, ks, ex, eb, q2⟩ := (show H2 s.heap.objs.size = some (.dT []) ∧ ∃ b, ∃ ks : List NKey, x = .ref b ∧ H2 b = some (.tup (ks.map nV)) ∧ Q (.ref s.heap.objs.size) (upd H2 s.heap.objs.size (.dT [(ks, y)])) from h)
      have r1 : RelV x u := r1
      have r2 : RelV y u2 := r2
      subst ex
      cases (show u = Value.ref b from r1)
      exact store_one hu I2 e eb r2 q2
theorem run_fn2 {pins : List (Addr × Obj)} {σ : St} {H : Hp} {s : Shared} {Q : VK} {us : List Value} {vs : List V} {k : Nat} {f : Addr} {fd : FuncData} {ps : List Str} {sp : Sp} (F : FnOk X.prog X.w X.K X.mg X.base CX0 k f fd ps sp) (hr : Room (k + 2) X.A) (hb : Binds X.K fd ps [])
    (I : Inv X pins σ H s) (r : Vals vs us) (h : sp vs H Q E0) : wpAny (model X.prog X.w) X.A.in1.in1 (call (.ref f) us) (EP X pins σ Q) (fun _ _ => False) s := by
  have hl : (us ++ ([] : List Value)).length = ps.length := by rw [List.append_nil, ← r.length]; exact F.len _ _ _ _ h
  have bd := hb s us I.kIn hl
  rw [List.append_nil] at bd
  refine wpAny_call (codeAny_mono (F.run X.A.in1.in1 X.stack s H ⟨us, []⟩ us vs Q E0 hr.in1.in1 I.env0.in1.in1 bd r h) fun rr s' hq => ?_)
  match rr, hq with
  | .error e, hq => exact hq.elim
  | .ok (.ret u), hq => exact I.after hq
  | .ok .next, hq => exact False.elim hq
  | .ok .brk, hq => exact False.elim hq
  | .ok .cont, hq => exact False.elim hq
noncomputable def tSortT (sp : Sp) (ta : TA) : TE := fun σ H Q => ta σ H fun vs H1 => ∃ d kvs, vs = [V.ref d] ∧ H1 d = some (.dT kvs) ∧ kvs.length ≤ 1000 ∧ AllLike (kvs.map (·.1)) ∧
  (∀ ks ∈ kvs.map (·.1), ∀ H2 b, Same H1 H2 → H2 b = some (.tup (ks.map nV)) → sp [.ref b] H2 (fun v H3 => Same H2 H3 ∧ KeyV H3 v ks) E0) ∧
  ∀ Hn D ts kss, Same H1 Hn → Hn D = none → TupsV Hn ts kss → kss.Perm (kvs.map (·.1)) → kss.Pairwise (fun a b => lexN a b = true) → Q (.ref D) (upd Hn D (.lst ts))
theorem pe_sortT {a : Expr} {ta : TA} {p pos kp np : Pos} {y : Str} {k : Nat} {f : Addr} {fd : FuncData} {ps : List Str} {sp : Sp} (F : FnOk X.prog X.w X.K X.mg X.base CX0 k f fd ps sp) (hr : Room (k + 2) X.A) (hb : Binds X.K fd ps []) (hmy : X.mg y = some (.ref f)) (hgy : Gl X y) (hdy : (y == ("__debug__" : Str)) = false)
    (hc : X.calm = true) (hex : X.ex = []) (hg : Gl X "sorted") (hm : X.mg "sorted" = none) (hn : notStar a = true) (ha : PA X [a] ta) :
    PE X (.Call (.Name "sorted" p) [a] [⟨some "key", .Name y np, kp⟩] pos) (tSortT sp ta) := by
  intro pins s σ H Q I h
  refine wpAny_Call_Name_kw (ld_blt I hg hm (show bootBuiltins "sorted" = some (.builtin "sorted") from rfl) ?_)
  refine PyProof.Rows.callWith_kw (thn (ha pos pins s σ H _ I h) fun us s1 ⟨vs, H1, I1, r1, q1⟩ => ?_) (by rw [star_cons hn]; rfl) (by rw [star_cons hn]; rfl)
  obtain ⟨d, kvs, rfl, hd, h1000, hL, hk, hq⟩ := q1
  obtain ⟨u1, rfl, ru⟩ := vals1 r1
  cases (show u1 = Value.ref d from ru)
  refine thn ((pk_cons (pgcl hmy hgy hdy) pk_nil) pos pins s1 σ H1 (fun zs H2 => zs = [V.ref f] ∧ H2 = H1) I1 ⟨rfl, rfl⟩) fun ws s2 ⟨zs, H2, I2, rz, ez, eH⟩ => ?_
  subst ez; subst eH
  obtain ⟨w', rfl, rw'⟩ := vals1 rz
  cases (show w' = Value.ref f from rw')
  refine sorted_dT I2 hex hc (by have := hr.un; omega) hd h1000 hL (fun vs hvl hvs i v ks hv hks pl Hi s' sm J => ?_) hq
  obtain ⟨b, rfl, hb2⟩ := hvs i v ks hv hks
  exact thn (run_fn2 (vs := [.ref b]) F hr hb J (.cons rfl .nil) (hk ks (List.mem_of_getElem? hks) Hi b sm (sm _ _ hb2))) fun u s3 ⟨x, H3, J3, rx, sm3, kx⟩ => ⟨H3, x, sm3, J3, rx, kx⟩
end
end L2
namespace NS
open PySem L2
seal L2.PE L2.PT L2.PA L2.PS L2.PSs L2.PG L2.PI L2.PTs L2.PW L2.PO L2.PGs L2.PPs L2.OpR L2.CallR L2.IxR L2.SlR L2.UnR L2.PSet
noncomputable def top (i : Nat) : Stmt := PySem.Challenge.pw_crosshall_k13_heads_in_order.main.body.getD i (.Pass ⟨0, 0, 0, 0⟩)
noncomputable abbrev s_order_key : Stmt := top 4
noncomputable abbrev s_field_at : Stmt := top 6
noncomputable abbrev s_path_key : Stmt := top 8
noncomputable abbrev s_paths_over : Stmt := top 9
noncomputable abbrev s_heads_of : Stmt := top 10
noncomputable abbrev s_l_cell_at : Stmt := top 12
noncomputable abbrev s_l_mix : Stmt := top 13
noncomputable abbrev s_l_heads : Stmt := top 14
noncomputable abbrev s_l_world : Stmt := top 15
noncomputable abbrev s_l_sure_value : Stmt := top 16
noncomputable abbrev s_l_value : Stmt := top 17
noncomputable abbrev s_l_row : Stmt := top 18
noncomputable abbrev s_l_before : Stmt := top 19
noncomputable abbrev s_l_beginnings : Stmt := top 20
noncomputable abbrev s_law : Stmt := top 21
theorem sc_order_key : FnScope ["value"] ["value"] (defScope s_order_key) := ⟨rfl, rfl, rfl, by decide +kernel, rfl, by decide +kernel, by decide +kernel⟩
theorem sc_field_at : FnScope ["fields", "name", "place", "field"] ["fields", "name"] (defScope s_field_at) := ⟨rfl, rfl, rfl, by decide +kernel, rfl, by decide +kernel, by decide +kernel⟩
theorem sc_path_key : FnScope ["path"] ["path"] (defScope s_path_key) := ⟨rfl, rfl, rfl, by decide +kernel, rfl, by decide +kernel, by decide +kernel⟩
theorem sc_paths_over : FnScope ["fields", "names", "row", "values"] ["fields", "names", "row"] (defScope s_paths_over) := ⟨rfl, rfl, rfl, by decide +kernel, rfl, by decide +kernel, by decide +kernel⟩
theorem sc_heads_of : FnScope ["fields", "names", "rows", "heads", "row", "path"] ["fields", "names", "rows"] (defScope s_heads_of) := ⟨rfl, rfl, rfl, by decide +kernel, rfl, by decide +kernel, by decide +kernel⟩
theorem sc_l_cell_at : FnScope ["_law_script", "_law_k"] ["_law_script", "_law_k"] (defScope s_l_cell_at) := ⟨rfl, rfl, rfl, by decide +kernel, rfl, by decide +kernel, by decide +kernel⟩
theorem sc_l_mix : FnScope ["_law_seed", "_law_k", "_law_turn"] ["_law_seed", "_law_k"] (defScope s_l_mix) := ⟨rfl, rfl, rfl, by decide +kernel, rfl, by decide +kernel, by decide +kernel⟩
theorem sc_l_heads : FnScope ["_law_seed", "_law_signs", "_law_many", "_law_most", "_law_word", "_law_few", "_law_at", "_law_rest", "_law_heads_here", "_law_k", "_law_sign"] ["_law_seed", "_law_signs", "_law_many", "_law_most"] (defScope s_l_heads) := ⟨rfl, rfl, rfl, by decide +kernel, rfl, by decide +kernel, by decide +kernel⟩
theorem sc_l_world : FnScope ["_law_script", "_law_seed", "_law_many", "_law_names", "_law_fields", "_law_words", "_law_base"] ["_law_script"] (defScope s_l_world) := ⟨rfl, rfl, rfl, by decide +kernel, rfl, by decide +kernel, by decide +kernel⟩
theorem sc_l_sure_value : FnScope ["_law_seed", "_law_kind", "_law_world_here"] ["_law_seed", "_law_kind", "_law_world_here"] (defScope s_l_sure_value) := ⟨rfl, rfl, rfl, by decide +kernel, rfl, by decide +kernel, by decide +kernel⟩
theorem sc_l_value : FnScope ["_law_seed", "_law_kind", "_law_world_here"] ["_law_seed", "_law_kind", "_law_world_here"] (defScope s_l_value) := ⟨rfl, rfl, rfl, by decide +kernel, rfl, by decide +kernel, by decide +kernel⟩
theorem sc_l_row : FnScope ["_law_seed", "_law_world_here", "_law_fields"] ["_law_seed", "_law_world_here"] (defScope s_l_row) := ⟨rfl, rfl, rfl, by decide +kernel, rfl, by decide +kernel, by decide +kernel⟩
theorem sc_l_before : FnScope ["_law_one", "_law_other", "_law_k"] ["_law_one", "_law_other"] (defScope s_l_before) := ⟨rfl, rfl, rfl, by decide +kernel, rfl, by decide +kernel, by decide +kernel⟩
theorem sc_l_beginnings : FnScope ["_law_rows", "_law_places", "_law_found", "_law_row_here", "_law_many", "_law_path"] ["_law_rows", "_law_places"] (defScope s_l_beginnings) := ⟨rfl, rfl, rfl, by decide +kernel, rfl, by decide +kernel, by decide +kernel⟩
theorem sc_law : FnScope ["_law_script", "_law_world_here", "_law_fields", "_law_seed", "_law_places", "_law_at", "_law_names", "_law_rows", "_law_k", "_law_some", "_law_handed", "_law_told", "_law_due"] ["_law_script"] (defScope s_law) := ⟨rfl, rfl, rfl, by decide +kernel, rfl, by decide +kernel, by decide +kernel⟩
structure Txt (K : PySem.W.Frag) (mg : Str → Option Value) (f : Nat → Addr) (fd : Nat → FuncData) : Prop where
  d_order_key : DefOk K mg "order_key" s_order_key ["value"] (f 4) (fd 4)
  d_field_at : DefOk K mg "field_at" s_field_at ["fields", "name"] (f 6) (fd 6)
  d_path_key : DefOk K mg "path_key" s_path_key ["path"] (f 8) (fd 8)
  d_paths_over : DefOk K mg "paths_over" s_paths_over ["fields", "names", "row"] (f 9) (fd 9)
  d_heads_of : DefOk K mg "heads_of" s_heads_of ["fields", "names", "rows"] (f 10) (fd 10)
  d_l_cell_at : DefOk K mg "_law_cell_at" s_l_cell_at ["_law_script", "_law_k"] (f 12) (fd 12)
  d_l_mix : DefOk K mg "_law_mix" s_l_mix ["_law_seed", "_law_k"] (f 13) (fd 13)
  d_l_heads : DefOk K mg "_law_heads" s_l_heads ["_law_seed", "_law_signs", "_law_many", "_law_most"] (f 14) (fd 14)
  d_l_world : DefOk K mg "_law_world" s_l_world ["_law_script"] (f 15) (fd 15)
  d_l_sure_value : DefOk K mg "_law_sure_value" s_l_sure_value ["_law_seed", "_law_kind", "_law_world_here"] (f 16) (fd 16)
  d_l_value : DefOk K mg "_law_value" s_l_value ["_law_seed", "_law_kind", "_law_world_here"] (f 17) (fd 17)
  d_l_row : DefOk K mg "_law_row" s_l_row ["_law_seed", "_law_world_here"] (f 18) (fd 18)
  d_l_before : DefOk K mg "_law_before" s_l_before ["_law_one", "_law_other"] (f 19) (fd 19)
  d_l_beginnings : DefOk K mg "_law_beginnings" s_l_beginnings ["_law_rows", "_law_places"] (f 20) (fd 20)
  d_law : DefOk K mg "law" s_law ["_law_script"] (f 21) (fd 21)
  x_CrossError : ExcM mg "CrossError" (f 1)
  x_NoField : ExcM mg "NoField" (f 2)
  n_enumerate : mg "enumerate" = none
  n_isinstance : mg "isinstance" = none
  n_len : mg "len" = none
  n_list : mg "list" = none
  n_min : mg "min" = none
  n_range : mg "range" = none
  n_sorted : mg "sorted" = none
  n_tuple : mg "tuple" = none
theorem len0 {α : Type} {C : List α → Prop} (h : C []) (us : List α) (e : us.length = 0) : C us := (List.length_eq_zero_iff.mp e) ▸ h
theorem lenS {α : Type} {n : Nat} {C : List α → Prop} (h : ∀ (a : α) (us : List α), us.length = n → C (a :: us)) (us : List α) (e : us.length = n + 1) : C us := by
  cases us with
  | nil => cases e
  | cons a r => exact h a r (Nat.succ.inj e)
theorem lenB1 {fd : FuncData} {ps : List Str} (h : ∀ a : Value, bindArgs fd ⟨[a], []⟩ = pure (ps.zip [a])) (us : List Value) (e : us.length = 1) : bindArgs fd ⟨us, []⟩ = pure (ps.zip us) := by
  revert us
  exact lenS fun a => len0 (h a)
theorem lenB2 {fd : FuncData} {ps : List Str} (h : ∀ a b : Value, bindArgs fd ⟨[a, b], []⟩ = pure (ps.zip [a, b])) (us : List Value) (e : us.length = 2) : bindArgs fd ⟨us, []⟩ = pure (ps.zip us) := by
  revert us
  exact lenS fun a => lenS fun b => len0 (h a b)
theorem lenB3 {fd : FuncData} {ps : List Str} (h : ∀ a b c : Value, bindArgs fd ⟨[a, b, c], []⟩ = pure (ps.zip [a, b, c])) (us : List Value) (e : us.length = 3) : bindArgs fd ⟨us, []⟩ = pure (ps.zip us) := by
  revert us
  exact lenS fun a => lenS fun b => lenS fun c => len0 (h a b c)
theorem lenB4 {fd : FuncData} {ps : List Str} (h : ∀ a b c d : Value, bindArgs fd ⟨[a, b, c, d], []⟩ = pure (ps.zip [a, b, c, d])) (us : List Value) (e : us.length = 4) : bindArgs fd ⟨us, []⟩ = pure (ps.zip us) := by
  revert us
  exact lenS fun a => lenS fun b => lenS fun c => lenS fun d => len0 (h a b c d)
theorem txt_mk {K : PySem.W.Frag} {h : Heap} {mg : Str → Option Value} (X : K.In h) (G : h.Ns mainGlobals mg)
    {f4 : Addr} {od4 an4 : Option Addr} {sl4 : Array (Option Value)} {oc4 kV4 dc4 pm4 cd4 ct4 : Value}
    {f6 : Addr} {od6 an6 : Option Addr} {sl6 : Array (Option Value)} {oc6 kV6 dc6 pm6 cd6 ct6 : Value}
    {f8 : Addr} {od8 an8 : Option Addr} {sl8 : Array (Option Value)} {oc8 kV8 dc8 pm8 cd8 ct8 : Value}
    {f9 : Addr} {od9 an9 : Option Addr} {sl9 : Array (Option Value)} {oc9 kV9 dc9 pm9 cd9 ct9 : Value}
    {f10 : Addr} {od10 an10 : Option Addr} {sl10 : Array (Option Value)} {oc10 kV10 dc10 pm10 cd10 ct10 : Value}
    {f12 : Addr} {od12 an12 : Option Addr} {sl12 : Array (Option Value)} {oc12 kV12 dc12 pm12 cd12 ct12 : Value}
    {f13 : Addr} {od13 an13 : Option Addr} {sl13 : Array (Option Value)} {oc13 kV13 dc13 pm13 cd13 ct13 : Value}
    {f14 : Addr} {od14 an14 : Option Addr} {sl14 : Array (Option Value)} {oc14 kV14 dc14 pm14 cd14 ct14 : Value}
    {f15 : Addr} {od15 an15 : Option Addr} {sl15 : Array (Option Value)} {oc15 kV15 dc15 pm15 cd15 ct15 : Value}
    {f16 : Addr} {od16 an16 : Option Addr} {sl16 : Array (Option Value)} {oc16 kV16 dc16 pm16 cd16 ct16 : Value}
    {f17 : Addr} {od17 an17 : Option Addr} {sl17 : Array (Option Value)} {oc17 kV17 dc17 pm17 cd17 ct17 : Value}
    {f18 : Addr} {od18 an18 : Option Addr} {sl18 : Array (Option Value)} {oc18 kV18 dc18 pm18 cd18 ct18 : Value}
    {f19 : Addr} {od19 an19 : Option Addr} {sl19 : Array (Option Value)} {oc19 kV19 dc19 pm19 cd19 ct19 : Value}
    {f20 : Addr} {od20 an20 : Option Addr} {sl20 : Array (Option Value)} {oc20 kV20 dc20 pm20 cd20 ct20 : Value}
    {f21 : Addr} {od21 an21 : Option Addr} {sl21 : Array (Option Value)} {oc21 kV21 dc21 pm21 cd21 ct21 : Value}
    {f1 : Addr}
    {f2 : Addr}
    (a1 : PySem.W.nsIn K mainGlobals "CrossError" = some (some (.ref f1)))
    (a2 : PySem.W.nsIn K mainGlobals "NoField" = some (some (.ref f2)))
    (a4 : PySem.W.nsIn K mainGlobals "order_key" = some (some (.ref f4)))
    (l4 : K.lookup f4 = some ⟨oc4, od4, .func (PySem.W.fnOf "order_key" "order_key" (defArgs s_order_key) (defBody s_order_key) (defScope s_order_key) .none kV4 dc4 pm4 an4 cd4 ct4), sl4⟩) (c4 : PySem.W.codeIn K cd4 "order_key" = true) (k4 : PySem.W.keepIn K (.ref f4) = true)
    (a6 : PySem.W.nsIn K mainGlobals "field_at" = some (some (.ref f6)))
    (l6 : K.lookup f6 = some ⟨oc6, od6, .func (PySem.W.fnOf "field_at" "field_at" (defArgs s_field_at) (defBody s_field_at) (defScope s_field_at) .none kV6 dc6 pm6 an6 cd6 ct6), sl6⟩) (c6 : PySem.W.codeIn K cd6 "field_at" = true) (k6 : PySem.W.keepIn K (.ref f6) = true)
    (a8 : PySem.W.nsIn K mainGlobals "path_key" = some (some (.ref f8)))
    (l8 : K.lookup f8 = some ⟨oc8, od8, .func (PySem.W.fnOf "path_key" "path_key" (defArgs s_path_key) (defBody s_path_key) (defScope s_path_key) .none kV8 dc8 pm8 an8 cd8 ct8), sl8⟩) (c8 : PySem.W.codeIn K cd8 "path_key" = true) (k8 : PySem.W.keepIn K (.ref f8) = true)
    (a9 : PySem.W.nsIn K mainGlobals "paths_over" = some (some (.ref f9)))
    (l9 : K.lookup f9 = some ⟨oc9, od9, .func (PySem.W.fnOf "paths_over" "paths_over" (defArgs s_paths_over) (defBody s_paths_over) (defScope s_paths_over) .none kV9 dc9 pm9 an9 cd9 ct9), sl9⟩) (c9 : PySem.W.codeIn K cd9 "paths_over" = true) (k9 : PySem.W.keepIn K (.ref f9) = true)
    (a10 : PySem.W.nsIn K mainGlobals "heads_of" = some (some (.ref f10)))
    (l10 : K.lookup f10 = some ⟨oc10, od10, .func (PySem.W.fnOf "heads_of" "heads_of" (defArgs s_heads_of) (defBody s_heads_of) (defScope s_heads_of) .none kV10 dc10 pm10 an10 cd10 ct10), sl10⟩) (c10 : PySem.W.codeIn K cd10 "heads_of" = true) (k10 : PySem.W.keepIn K (.ref f10) = true)
    (a12 : PySem.W.nsIn K mainGlobals "_law_cell_at" = some (some (.ref f12)))
    (l12 : K.lookup f12 = some ⟨oc12, od12, .func (PySem.W.fnOf "_law_cell_at" "_law_cell_at" (defArgs s_l_cell_at) (defBody s_l_cell_at) (defScope s_l_cell_at) .none kV12 dc12 pm12 an12 cd12 ct12), sl12⟩) (c12 : PySem.W.codeIn K cd12 "_law_cell_at" = true) (k12 : PySem.W.keepIn K (.ref f12) = true)
    (a13 : PySem.W.nsIn K mainGlobals "_law_mix" = some (some (.ref f13)))
    (l13 : K.lookup f13 = some ⟨oc13, od13, .func (PySem.W.fnOf "_law_mix" "_law_mix" (defArgs s_l_mix) (defBody s_l_mix) (defScope s_l_mix) .none kV13 dc13 pm13 an13 cd13 ct13), sl13⟩) (c13 : PySem.W.codeIn K cd13 "_law_mix" = true) (k13 : PySem.W.keepIn K (.ref f13) = true)
    (a14 : PySem.W.nsIn K mainGlobals "_law_heads" = some (some (.ref f14)))
    (l14 : K.lookup f14 = some ⟨oc14, od14, .func (PySem.W.fnOf "_law_heads" "_law_heads" (defArgs s_l_heads) (defBody s_l_heads) (defScope s_l_heads) .none kV14 dc14 pm14 an14 cd14 ct14), sl14⟩) (c14 : PySem.W.codeIn K cd14 "_law_heads" = true) (k14 : PySem.W.keepIn K (.ref f14) = true)
    (a15 : PySem.W.nsIn K mainGlobals "_law_world" = some (some (.ref f15)))
    (l15 : K.lookup f15 = some ⟨oc15, od15, .func (PySem.W.fnOf "_law_world" "_law_world" (defArgs s_l_world) (defBody s_l_world) (defScope s_l_world) .none kV15 dc15 pm15 an15 cd15 ct15), sl15⟩) (c15 : PySem.W.codeIn K cd15 "_law_world" = true) (k15 : PySem.W.keepIn K (.ref f15) = true)
    (a16 : PySem.W.nsIn K mainGlobals "_law_sure_value" = some (some (.ref f16)))
    (l16 : K.lookup f16 = some ⟨oc16, od16, .func (PySem.W.fnOf "_law_sure_value" "_law_sure_value" (defArgs s_l_sure_value) (defBody s_l_sure_value) (defScope s_l_sure_value) .none kV16 dc16 pm16 an16 cd16 ct16), sl16⟩) (c16 : PySem.W.codeIn K cd16 "_law_sure_value" = true) (k16 : PySem.W.keepIn K (.ref f16) = true)
    (a17 : PySem.W.nsIn K mainGlobals "_law_value" = some (some (.ref f17)))
    (l17 : K.lookup f17 = some ⟨oc17, od17, .func (PySem.W.fnOf "_law_value" "_law_value" (defArgs s_l_value) (defBody s_l_value) (defScope s_l_value) .none kV17 dc17 pm17 an17 cd17 ct17), sl17⟩) (c17 : PySem.W.codeIn K cd17 "_law_value" = true) (k17 : PySem.W.keepIn K (.ref f17) = true)
    (a18 : PySem.W.nsIn K mainGlobals "_law_row" = some (some (.ref f18)))
    (l18 : K.lookup f18 = some ⟨oc18, od18, .func (PySem.W.fnOf "_law_row" "_law_row" (defArgs s_l_row) (defBody s_l_row) (defScope s_l_row) .none kV18 dc18 pm18 an18 cd18 ct18), sl18⟩) (c18 : PySem.W.codeIn K cd18 "_law_row" = true) (k18 : PySem.W.keepIn K (.ref f18) = true)
    (a19 : PySem.W.nsIn K mainGlobals "_law_before" = some (some (.ref f19)))
    (l19 : K.lookup f19 = some ⟨oc19, od19, .func (PySem.W.fnOf "_law_before" "_law_before" (defArgs s_l_before) (defBody s_l_before) (defScope s_l_before) .none kV19 dc19 pm19 an19 cd19 ct19), sl19⟩) (c19 : PySem.W.codeIn K cd19 "_law_before" = true) (k19 : PySem.W.keepIn K (.ref f19) = true)
    (a20 : PySem.W.nsIn K mainGlobals "_law_beginnings" = some (some (.ref f20)))
    (l20 : K.lookup f20 = some ⟨oc20, od20, .func (PySem.W.fnOf "_law_beginnings" "_law_beginnings" (defArgs s_l_beginnings) (defBody s_l_beginnings) (defScope s_l_beginnings) .none kV20 dc20 pm20 an20 cd20 ct20), sl20⟩) (c20 : PySem.W.codeIn K cd20 "_law_beginnings" = true) (k20 : PySem.W.keepIn K (.ref f20) = true)
    (a21 : PySem.W.nsIn K mainGlobals "law" = some (some (.ref f21)))
    (l21 : K.lookup f21 = some ⟨oc21, od21, .func (PySem.W.fnOf "law" "law" (defArgs s_law) (defBody s_law) (defScope s_law) .none kV21 dc21 pm21 an21 cd21 ct21), sl21⟩) (c21 : PySem.W.codeIn K cd21 "law" = true) (k21 : PySem.W.keepIn K (.ref f21) = true)
    (z_enumerate : PySem.W.nsIn K mainGlobals "enumerate" = some none)
    (z_isinstance : PySem.W.nsIn K mainGlobals "isinstance" = some none)
    (z_len : PySem.W.nsIn K mainGlobals "len" = some none)
    (z_list : PySem.W.nsIn K mainGlobals "list" = some none)
    (z_min : PySem.W.nsIn K mainGlobals "min" = some none)
    (z_range : PySem.W.nsIn K mainGlobals "range" = some none)
    (z_sorted : PySem.W.nsIn K mainGlobals "sorted" = some none)
    (z_tuple : PySem.W.nsIn K mainGlobals "tuple" = some none)
    : ∃ f fd, Txt K mg f fd ∧ f 21 = f21 ∧ ∃ kV dc pm an cd ct, fd 21 = PySem.W.fnOf "law" "law" (defArgs s_law) (defBody s_law) (defScope s_law) .none kV dc pm an cd ct := by
  refine ⟨fun i => match i with | 4 => f4 | 6 => f6 | 8 => f8 | 9 => f9 | 10 => f10 | 12 => f12 | 13 => f13 | 14 => f14 | 15 => f15 | 16 => f16 | 17 => f17 | 18 => f18 | 19 => f19 | 20 => f20 | 21 => f21 | 1 => f1 | 2 => f2 | _ => 0, fun i => match i with | 4 => PySem.W.fnOf "order_key" "order_key" (defArgs s_order_key) (defBody s_order_key) (defScope s_order_key) .none kV4 dc4 pm4 an4 cd4 ct4 | 6 => PySem.W.fnOf "field_at" "field_at" (defArgs s_field_at) (defBody s_field_at) (defScope s_field_at) .none kV6 dc6 pm6 an6 cd6 ct6 | 8 => PySem.W.fnOf "path_key" "path_key" (defArgs s_path_key) (defBody s_path_key) (defScope s_path_key) .none kV8 dc8 pm8 an8 cd8 ct8 | 9 => PySem.W.fnOf "paths_over" "paths_over" (defArgs s_paths_over) (defBody s_paths_over) (defScope s_paths_over) .none kV9 dc9 pm9 an9 cd9 ct9 | 10 => PySem.W.fnOf "heads_of" "heads_of" (defArgs s_heads_of) (defBody s_heads_of) (defScope s_heads_of) .none kV10 dc10 pm10 an10 cd10 ct10 | 12 => PySem.W.fnOf "_law_cell_at" "_law_cell_at" (defArgs s_l_cell_at) (defBody s_l_cell_at) (defScope s_l_cell_at) .none kV12 dc12 pm12 an12 cd12 ct12 | 13 => PySem.W.fnOf "_law_mix" "_law_mix" (defArgs s_l_mix) (defBody s_l_mix) (defScope s_l_mix) .none kV13 dc13 pm13 an13 cd13 ct13 | 14 => PySem.W.fnOf "_law_heads" "_law_heads" (defArgs s_l_heads) (defBody s_l_heads) (defScope s_l_heads) .none kV14 dc14 pm14 an14 cd14 ct14 | 15 => PySem.W.fnOf "_law_world" "_law_world" (defArgs s_l_world) (defBody s_l_world) (defScope s_l_world) .none kV15 dc15 pm15 an15 cd15 ct15 | 16 => PySem.W.fnOf "_law_sure_value" "_law_sure_value" (defArgs s_l_sure_value) (defBody s_l_sure_value) (defScope s_l_sure_value) .none kV16 dc16 pm16 an16 cd16 ct16 | 17 => PySem.W.fnOf "_law_value" "_law_value" (defArgs s_l_value) (defBody s_l_value) (defScope s_l_value) .none kV17 dc17 pm17 an17 cd17 ct17 | 18 => PySem.W.fnOf "_law_row" "_law_row" (defArgs s_l_row) (defBody s_l_row) (defScope s_l_row) .none kV18 dc18 pm18 an18 cd18 ct18 | 19 => PySem.W.fnOf "_law_before" "_law_before" (defArgs s_l_before) (defBody s_l_before) (defScope s_l_before) .none kV19 dc19 pm19 an19 cd19 ct19 | 20 => PySem.W.fnOf "_law_beginnings" "_law_beginnings" (defArgs s_l_beginnings) (defBody s_l_beginnings) (defScope s_l_beginnings) .none kV20 dc20 pm20 an20 cd20 ct20 | 21 => PySem.W.fnOf "law" "law" (defArgs s_law) (defBody s_law) (defScope s_law) .none kV21 dc21 pm21 an21 cd21 ct21 | _ => PySem.W.fnOf "law" "law" (defArgs s_law) (defBody s_law) (defScope s_law) .none kV21 dc21 pm21 an21 cd21 ct21, ⟨?_, ?_, ?_, ?_, ?_, ?_, ?_, ?_, ?_, ?_, ?_, ?_, ?_, ?_, ?_, ?_, ?_, ?_, ?_, ?_, ?_, ?_, ?_, ?_, ?_⟩, rfl, _, _, _, _, _, _, rfl⟩
  · exact (by have F := fun_mk (st := s_order_key) l4 c4 k4; exact ⟨F, F.binds (ps := ["value"]) fun _ _ _ _ _ _ us hl => lenB1 (fun _ => rfl) us hl, PySem.W.mg_of X G a4⟩)
  · exact (by have F := fun_mk (st := s_field_at) l6 c6 k6; exact ⟨F, F.binds (ps := ["fields", "name"]) fun _ _ _ _ _ _ us hl => lenB2 (fun _ _ => rfl) us hl, PySem.W.mg_of X G a6⟩)
  · exact (by have F := fun_mk (st := s_path_key) l8 c8 k8; exact ⟨F, F.binds (ps := ["path"]) fun _ _ _ _ _ _ us hl => lenB1 (fun _ => rfl) us hl, PySem.W.mg_of X G a8⟩)
  · exact (by have F := fun_mk (st := s_paths_over) l9 c9 k9; exact ⟨F, F.binds (ps := ["fields", "names", "row"]) fun _ _ _ _ _ _ us hl => lenB3 (fun _ _ _ => rfl) us hl, PySem.W.mg_of X G a9⟩)
  · exact (by have F := fun_mk (st := s_heads_of) l10 c10 k10; exact ⟨F, F.binds (ps := ["fields", "names", "rows"]) fun _ _ _ _ _ _ us hl => lenB3 (fun _ _ _ => rfl) us hl, PySem.W.mg_of X G a10⟩)
  · exact (by have F := fun_mk (st := s_l_cell_at) l12 c12 k12; exact ⟨F, F.binds (ps := ["_law_script", "_law_k"]) fun _ _ _ _ _ _ us hl => lenB2 (fun _ _ => rfl) us hl, PySem.W.mg_of X G a12⟩)
  · exact (by have F := fun_mk (st := s_l_mix) l13 c13 k13; exact ⟨F, F.binds (ps := ["_law_seed", "_law_k"]) fun _ _ _ _ _ _ us hl => lenB2 (fun _ _ => rfl) us hl, PySem.W.mg_of X G a13⟩)
  · exact (by have F := fun_mk (st := s_l_heads) l14 c14 k14; exact ⟨F, F.binds (ps := ["_law_seed", "_law_signs", "_law_many", "_law_most"]) fun _ _ _ _ _ _ us hl => lenB4 (fun _ _ _ _ => rfl) us hl, PySem.W.mg_of X G a14⟩)
  · exact (by have F := fun_mk (st := s_l_world) l15 c15 k15; exact ⟨F, F.binds (ps := ["_law_script"]) fun _ _ _ _ _ _ us hl => lenB1 (fun _ => rfl) us hl, PySem.W.mg_of X G a15⟩)
  · exact (by have F := fun_mk (st := s_l_sure_value) l16 c16 k16; exact ⟨F, F.binds (ps := ["_law_seed", "_law_kind", "_law_world_here"]) fun _ _ _ _ _ _ us hl => lenB3 (fun _ _ _ => rfl) us hl, PySem.W.mg_of X G a16⟩)
  · exact (by have F := fun_mk (st := s_l_value) l17 c17 k17; exact ⟨F, F.binds (ps := ["_law_seed", "_law_kind", "_law_world_here"]) fun _ _ _ _ _ _ us hl => lenB3 (fun _ _ _ => rfl) us hl, PySem.W.mg_of X G a17⟩)
  · exact (by have F := fun_mk (st := s_l_row) l18 c18 k18; exact ⟨F, F.binds (ps := ["_law_seed", "_law_world_here"]) fun _ _ _ _ _ _ us hl => lenB2 (fun _ _ => rfl) us hl, PySem.W.mg_of X G a18⟩)
  · exact (by have F := fun_mk (st := s_l_before) l19 c19 k19; exact ⟨F, F.binds (ps := ["_law_one", "_law_other"]) fun _ _ _ _ _ _ us hl => lenB2 (fun _ _ => rfl) us hl, PySem.W.mg_of X G a19⟩)
  · exact (by have F := fun_mk (st := s_l_beginnings) l20 c20 k20; exact ⟨F, F.binds (ps := ["_law_rows", "_law_places"]) fun _ _ _ _ _ _ us hl => lenB2 (fun _ _ => rfl) us hl, PySem.W.mg_of X G a20⟩)
  · exact (by have F := fun_mk (st := s_law) l21 c21 k21; exact ⟨F, F.binds (ps := ["_law_script"]) fun _ _ _ _ _ _ us hl => lenB1 (fun _ => rfl) us hl, PySem.W.mg_of X G a21⟩)
  · exact ⟨PySem.W.mg_of X G a1⟩
  · exact ⟨PySem.W.mg_of X G a2⟩
  · exact (PySem.W.mg_none_of X G z_enumerate)
  · exact (PySem.W.mg_none_of X G z_isinstance)
  · exact (PySem.W.mg_none_of X G z_len)
  · exact (PySem.W.mg_none_of X G z_list)
  · exact (PySem.W.mg_none_of X G z_min)
  · exact (PySem.W.mg_none_of X G z_range)
  · exact (PySem.W.mg_none_of X G z_sorted)
  · exact (PySem.W.mg_none_of X G z_tuple)
local macro_rules | `(tactic| walk_at "dl") => `(tactic| ((try dsimp only [cxOf, L2.Cx.inTry, L2.Cx.inHand]); simp only [L2.start, tSeq, tNext, tIfS, tRet, tRetN, tAsg, tDrop, gName, tVar, tC, tOp, tUn, tCall, tCB, tCons, tNil, tTest, tB, tNot, tAnd, tOr, tAndV, tOrV, tNotV, tIf, tChain, tLst, tTup, tBM, tBM0, rI, rI0, rU, rEq, rNe, scal, tComp, iStr, iList, iTup, iRng1, iRng2, tYes, rIsP, rAll, rLenS, rLenV, rListOf, rTupleOf, tDisp, tPairs, tSl, tPart, tNoPart, rSlS, rSlL, rFind, rStarts, rIntT, rStrA, rRepS, tCallX, tRaise, tRaiseI, tDispT, tSortT, tTry, tAs, offE, tXF, sXset, tMethX, tMakeX, rIsX, tFld, sFld, tMeth, rSortD, rDPop, tDNewK, tDIn, tDNotIn, tDGet, sDPut, rIndexS, tStop, gSub, tRev, tBest, rGtA, 
  List.map_cons, List.map_nil, List.cons_append, List.nil_append, List.length_cons, List.length_nil, List.getElem?_cons_zero, List.getElem?_cons_succ, Option.some.injEq, exists_eq_left', exists_eq_left, List.set_cons_zero, List.set_cons_succ, List.cons.injEq, and_true, true_and, V.int.injEq, V.str.injEq, V.bl.injEq, V.ref.injEq, V.ty.injEq, exists_and_left, exists_and_right, List.append_nil, reduceCtorEq, false_and, and_false, exists_false, or_false, false_or, decide_true, decide_false, Bool.not_true, Bool.not_false, if_true, if_false, Bool.false_eq_true, ite_true, ite_false, and_assoc, Nat.reduceAdd, Nat.reduceSub, List.replicate_succ, List.replicate_zero, Nat.zero_add, Nat.add_zero, Nat.sub_self, Int.reduceEq, Int.reduceLT, Int.reduceLE, ↓reduceIte, decide_eq_true_eq]))
section
variable {P : Program} {w : World} {K : PySem.W.Frag} {mg : Str → Option Value} {base : Heap} {f : Nat → Addr} {fd : Nat → FuncData}
noncomputable def FldsK (H : Hp) (xs : List V) (ns kds : List Str) : Prop := ns.length = xs.length ∧ kds.length = xs.length ∧ ns.Nodup ∧ ∀ (i : Nat) x n kd, xs[i]? = some x → ns[i]? = some n → kds[i]? = some kd → ∃ p, x = .ref p ∧ H p = some (.tup [.str n, .str kd])
theorem FldsK.mono {H H' : Hp} {xs : List V} {ns kds : List Str} (s : Same H H') (h : FldsK H xs ns kds) : FldsK H' xs ns kds := ⟨h.1, h.2.1, h.2.2.1, fun i x n kd a b c => by
  obtain ⟨p, e, g⟩ := h.2.2.2 i x n kd a b c
  exact ⟨p, e, s _ _ g⟩⟩
theorem FldsK.at {H : Hp} {xs : List V} {ns kds : List Str} (h : FldsK H xs ns kds) {i : Nat} (hi : i < xs.length) : ∃ p n kd, xs[i]? = some (.ref p) ∧ ns[i]? = some n ∧ kds[i]? = some kd ∧ H p = some (.tup [.str n, .str kd]) := by
  have h1 : i < ns.length := by rw [h.1]; exact hi
  have h2 : i < kds.length := by rw [h.2.1]; exact hi
  obtain ⟨p, e, g⟩ := h.2.2.2 i _ _ _ (List.getElem?_eq_getElem hi) (List.getElem?_eq_getElem h1) (List.getElem?_eq_getElem h2)
  exact ⟨p, _, _, by rw [List.getElem?_eq_getElem hi, e], List.getElem?_eq_getElem h1, List.getElem?_eq_getElem h2, g⟩
noncomputable def sp_field_at (K : PySem.W.Frag) : Sp := fun vs H Q _ => ∃ l xs ns kds n, ∃ i : Nat, vs = [.ref l, .str n] ∧ H l = some (.lst xs) ∧ FldsK H xs ns kds ∧ ns[i]? = some n ∧ ∀ H', Same H H' → Q (.int i) H'
theorem ok_field_at (T : Txt K mg f fd) : FnOk P w K mg base CX0 1 (f 6) (fd 6) ["fields", "name"] (sp_field_at K) := by
  refine T.d_field_at.F.ok sc_field_at (fun vs H Q E h => ?_) (fun cdv A outer s H vs Q E hr h => ?_)
  · obtain ⟨l, xs, ns, kds, n, i, rfl, _⟩ := h
    rfl
  · obtain ⟨l, xs, ns, kds, n, i, rfl, hl, hF, hi, k⟩ := h
    refine ⟨_, (pss_cons (ps_for PassesOwn.never rfl (pi_enum rfl T.n_enumerate (pal rfl (pvl 0) pa_nil) rfl) (k_pgT rfl rfl (pgs_cons (pgl 2 sc_field_at.nd) (pgs_cons (pgl 3 sc_field_at.nd) pgs_nil)))
     (pss_one (ps_if (pt_cmpR op_eq (pe_ix (k_ixT rfl) (pvl 3) pe_int (fun _ _ => rfl)) (pvl 1) (nomark _))
     (pss_one (ps_ret (pvl 2)))
     pss_nil)))
     (pss_one ps_never)), ?_⟩
    ((try dsimp only [cxOf, L2.Cx.inTry, L2.Cx.inHand]); simp only [L2.start, tSeq, tNext, tIfS, tRet, tRetN, tAsg, tDrop, gName, tVar, tC, tOp, tUn, tCall, tCB, tCons, tNil, tTest, tB, tNot, tAnd, tOr, tAndV, tOrV, tNotV, tIf, tChain, tLst, tTup, tBM, tBM0, rI, rI0, rU, rEq, rNe, scal, tComp, iStr, iList, iTup, iRng1, iRng2, tYes, rIsP, rAll, rLenS, rLenV, rListOf, rTupleOf, tDisp, tPairs, tSl, tPart, tNoPart, rSlS, rSlL, rFind, rStarts, rIntT, rStrA, rRepS, tCallX, tRaise, tRaiseI, tDispT, tSortT, tTry, tAs, offE, tXF, sXset, tMethX, tMakeX, rIsX, tFld, sFld, tMeth, rSortD, rDPop, tDNewK, 
  List.map_cons, List.map_nil, List.cons_append, List.nil_append, List.length_cons, List.length_nil, List.getElem?_cons_zero, List.getElem?_cons_succ, Option.some.injEq, exists_eq_left', exists_eq_left, List.set_cons_zero, List.set_cons_succ, List.cons.injEq, and_true, true_and, V.int.injEq, V.str.injEq, V.bl.injEq, V.ref.injEq, V.ty.injEq, exists_and_left, exists_and_right, List.append_nil, reduceCtorEq, false_and, and_false, exists_false, or_false, false_or, decide_true, decide_false, Bool.not_true, Bool.not_false, if_true, if_false, Bool.false_eq_true, ite_true, ite_false, and_assoc, Nat.reduceAdd, Nat.reduceSub, List.replicate_succ, List.replicate_zero, Nat.zero_add, Nat.add_zero, Nat.sub_self])
    refine for_in ?_
    unfold iEnum
    ((try dsimp only [cxOf, L2.Cx.inTry, L2.Cx.inHand]); simp only [L2.start, tSeq, tNext, tIfS, tRet, tRetN, tAsg, tDrop, gName, tVar, tC, tOp, tUn, tCall, tCB, tCons, tNil, tTest, tB, tNot, tAnd, tOr, tAndV, tOrV, tNotV, tIf, tChain, tLst, tTup, tBM, tBM0, rI, rI0, rU, rEq, rNe, scal, tComp, iStr, iList, iTup, iRng1, iRng2, tYes, rIsP, rAll, rLenS, rLenV, rListOf, rTupleOf, tDisp, tPairs, tSl, tPart, tNoPart, rSlS, rSlL, rFind, rStarts, rIntT, rStrA, rRepS, tCallX, tRaise, tRaiseI, tDispT, tSortT, tTry, tAs, offE, tXF, sXset, tMethX, tMakeX, rIsX, tFld, sFld, tMeth, rSortD, rDPop, tDNewK, 
  List.map_cons, List.map_nil, List.cons_append, List.nil_append, List.length_cons, List.length_nil, List.getElem?_cons_zero, List.getElem?_cons_succ, Option.some.injEq, exists_eq_left', exists_eq_left, List.set_cons_zero, List.set_cons_succ, List.cons.injEq, and_true, true_and, V.int.injEq, V.str.injEq, V.bl.injEq, V.ref.injEq, V.ty.injEq, exists_and_left, exists_and_right, List.append_nil, reduceCtorEq, false_and, and_false, exists_false, or_false, false_or, decide_true, decide_false, Bool.not_true, Bool.not_false, if_true, if_false, Bool.false_eq_true, ite_true, ite_false, and_assoc, Nat.reduceAdd, Nat.reduceSub, List.replicate_succ, List.replicate_zero, Nat.zero_add, Nat.add_zero, Nat.sub_self])
    refine ⟨⟨xs, .of hl⟩, ForW.enum (xs := xs) (fun j σ H' => (∃ v2 v3, σ = [some (V.ref l), some (V.str n), v2, v3]) ∧ n ∉ ns.take j ∧ Same H H') ⟨⟨none, none, rfl⟩, by simp, Same.refl _⟩ (fun _ _ _ q => q.2.2.seq (.of hl)) ?_ ?_⟩
    · rintro j x σ H1 p hx ⟨⟨v2, v3, rfl⟩, hnot, s1⟩ hp
      have s2 := s1.new hp (HO.tup [V.int (j : Int), x])
      refine ⟨p, _, rfl, .of upd_same, rfl, ?_⟩
      generalize upd H1 p (HO.tup [V.int (j : Int), x]) = H2 at *
      obtain ⟨q, nj, kd, hxq, hj, _, hq⟩ := hF.at (List.getElem?_eq_some_iff.mp hx).1
      obtain rfl : x = .ref q := Option.some.inj (hx.symm.trans hxq)
      simp only [gCons, gNil, gName]
      ((try dsimp only [cxOf, L2.Cx.inTry, L2.Cx.inHand]); simp only [L2.start, tSeq, tNext, tIfS, tRet, tRetN, tAsg, tDrop, gName, tVar, tC, tOp, tUn, tCall, tCB, tCons, tNil, tTest, tB, tNot, tAnd, tOr, tAndV, tOrV, tNotV, tIf, tChain, tLst, tTup, tBM, tBM0, rI, rI0, rU, rEq, rNe, scal, tComp, iStr, iList, iTup, iRng1, iRng2, tYes, rIsP, rAll, rLenS, rLenV, rListOf, rTupleOf, tDisp, tPairs, tSl, tPart, tNoPart, rSlS, rSlL, rFind, rStarts, rIntT, rStrA, rRepS, tCallX, tRaise, tRaiseI, tDispT, tSortT, tTry, tAs, offE, tXF, sXset, tMethX, tMakeX, rIsX, tFld, sFld, tMeth, rSortD, rDPop, tDNewK, 
  List.map_cons, List.map_nil, List.cons_append, List.nil_append, List.length_cons, List.length_nil, List.getElem?_cons_zero, List.getElem?_cons_succ, Option.some.injEq, exists_eq_left', exists_eq_left, List.set_cons_zero, List.set_cons_succ, List.cons.injEq, and_true, true_and, V.int.injEq, V.str.injEq, V.bl.injEq, V.ref.injEq, V.ty.injEq, exists_and_left, exists_and_right, List.append_nil, reduceCtorEq, false_and, and_false, exists_false, or_false, false_or, decide_true, decide_false, Bool.not_true, Bool.not_false, if_true, if_false, Bool.false_eq_true, ite_true, ite_false, and_assoc, Nat.reduceAdd, Nat.reduceSub, List.replicate_succ, List.replicate_zero, Nat.zero_add, Nat.add_zero, Nat.sub_self])
      refine ixT_of (.of (s2 _ _ hq)) (by decide) (by simp) fun v hv => ?_
      obtain rfl : V.str nj = v := by simpa using hv
      refine ⟨rfl, ?_⟩
      by_cases e : nj = n
      · subst e
        rw [if_pos (by simp)]
        obtain rfl := nodup_ix hF.2.2.1 hi hj
        exact k _ s2
      · rw [if_neg (by simpa using e)]
        refine ⟨⟨_, rfl⟩, ?_, s2⟩
        rw [take_snoc hj]
        intro z
        rcases List.mem_append.mp z with z | z
        · exact hnot z
        · exact e (List.mem_singleton.mp z).symm
    · rintro σ H1 ⟨⟨v2, v3, rfl⟩, hnot, s1⟩
      rw [← hF.1, List.take_length] at hnot
      exact absurd (List.mem_of_getElem? hi) hnot
noncomputable abbrev wordS : Str := "word"
noncomputable abbrev numS : Str := "number"
noncomputable def NmOk (b : Nat) (n : Str) : Prop := n.length ≤ b ∧ ∀ c ∈ n.cps.toList, c < 1114112
noncomputable abbrev Valid (z : Str) : Prop := ∀ c ∈ z.cps.toList, c < 1114112
theorem strOk_of {z : Str} (h : Valid z) : PyData.strOk z = true := by
  simp only [PyData.strOk]
  rw [Array.all_eq_true_iff_forall_mem]
  intro c hc'
  exact decide_eq_true (h c (by simpa using hc'))
noncomputable def OfKd (kd : Str) (x : V) : Prop := (kd = wordS ∧ ∃ z, x = .str z ∧ NmOk 12 z) ∨ (kd = numS ∧ ∃ i, x = .int i)
noncomputable def RowOk (kds : List Str) (rs : List V) : Prop := rs.length = kds.length ∧ ∀ (i : Nat) x kd, rs[i]? = some x → kds[i]? = some kd → x = .non ∨ OfKd kd x
noncomputable def mixI (a b : Int) : Int := ((a % 2147483647 * 48271 + b * 7919 + 11) % 2147483647 * ((a % 2147483647 * 48271 + b * 7919 + 11) % 2147483647) % 2147483629 * 69621) % 2147483647
noncomputable def sp_l_mix (K : PySem.W.Frag) : Sp := fun vs H Q _ => ∃ a b, vs = [.int a, .int b] ∧ Q (.int (mixI a b)) H
theorem ok_l_mix (T : Txt K mg f fd) : FnOk P w K mg base CX0 1 (f 13) (fd 13) ["_law_seed", "_law_k"] (sp_l_mix K) := by
  refine T.d_l_mix.F.ok sc_l_mix (fun vs H Q E h => ?_) (fun cdv A outer s H vs Q E hr h => ?_)
  · obtain ⟨x, T, rfl, _⟩ := h
    rfl
  · obtain ⟨a, b, rfl, k⟩ := h
    refine ⟨_, (pss_cons (psl 2 sc_l_mix.nd (pe_op op_mod (pe_op op_add (pe_op op_add (pe_op op_mul (pe_op op_mod (pvl 0) pe_int) pe_int) (pe_op op_mul (pvl 1) pe_int)) pe_int) pe_int))
     (pss_one (ps_ret (pe_op op_mod (pe_op op_mul (pe_op op_mod (pe_op op_mul (pvl 2) (pvl 2)) pe_int) pe_int) pe_int)))), ?_⟩
    ((try dsimp only [cxOf, L2.Cx.inTry, L2.Cx.inHand]); simp only [L2.start, tSeq, tNext, tIfS, tRet, tRetN, tAsg, tDrop, gName, tVar, tC, tOp, tUn, tCall, tCB, tCons, tNil, tTest, tB, tNot, tAnd, tOr, tAndV, tOrV, tNotV, tIf, tChain, tLst, tTup, tBM, tBM0, rI, rI0, rU, rEq, rNe, scal, tComp, iStr, iList, iTup, iRng1, iRng2, tYes, rIsP, rAll, rLenS, rLenV, rListOf, rTupleOf, tDisp, tPairs, tSl, tPart, tNoPart, rSlS, rSlL, rFind, rStarts, rIntT, rStrA, rRepS, tCallX, tRaise, tRaiseI, tDispT, tSortT, tTry, tAs, offE, tXF, sXset, tMethX, tMakeX, rIsX, tFld, sFld, tMeth, rSortD, rDPop, tDNewK, 
  List.map_cons, List.map_nil, List.cons_append, List.nil_append, List.length_cons, List.length_nil, List.getElem?_cons_zero, List.getElem?_cons_succ, Option.some.injEq, exists_eq_left', exists_eq_left, List.set_cons_zero, List.set_cons_succ, List.cons.injEq, and_true, true_and, V.int.injEq, V.str.injEq, V.bl.injEq, V.ref.injEq, V.ty.injEq, exists_and_left, exists_and_right, List.append_nil, reduceCtorEq, false_and, and_false, exists_false, or_false, false_or, decide_true, decide_false, Bool.not_true, Bool.not_false, if_true, if_false, Bool.false_eq_true, ite_true, ite_false, and_assoc, Nat.reduceAdd, Nat.reduceSub, List.replicate_succ, List.replicate_zero, Nat.zero_add, Nat.add_zero, Nat.sub_self])
    repeat (refine And.intro (by first | decide | omega | exact Or.inl ⟨by omega, by omega⟩ | exact Or.inr ⟨by omega, by omega⟩ | exact ⟨by omega, by omega⟩ | exact ⟨by decide, by decide, by decide⟩) ?_)
    exact k
noncomputable def sp_l_cell_at (K : PySem.W.Frag) : Sp := fun vs H Q _ => ∃ (a : Addr) (ns : List Int) (i : Int), vs = [.ref a, .int i] ∧ SqL K H a (ns.map V.int) ∧ 0 ≤ i ∧ ∀ v, Q (.int v) H
theorem ok_l_cell_at (T : Txt K mg f fd) : FnOk P w K mg base CX0 1 (f 12) (fd 12) ["_law_script", "_law_k"] (sp_l_cell_at K) := by
  refine T.d_l_cell_at.F.ok sc_l_cell_at (fun vs H Q E h => ?_) (fun cdv A outer s H vs Q E hr h => ?_)
  · obtain ⟨x, T, _, rfl, _⟩ := h
    rfl
  · obtain ⟨a, ns, i, rfl, hs, h0, k⟩ := h
    refine ⟨_, (pss_cons (ps_if (pt_cmpR op_lt (pvl 1) (pe_cB (k_len rfl) T.n_len bt_len rfl (by decide) (by decide) rfl (pal rfl (pvl 0) pa_nil)) (nomark _))
     (pss_one (ps_ret (pe_ix (k_ixL rfl) (pvl 0) (pvl 1) (fun _ _ => rfl))))
     pss_nil)
     (pss_one (ps_ret pe_int))), ?_⟩
    ((try dsimp only [cxOf, L2.Cx.inTry, L2.Cx.inHand]); simp only [L2.start, tSeq, tNext, tIfS, tRet, tRetN, tAsg, tDrop, gName, tVar, tC, tOp, tUn, tCall, tCB, tCons, tNil, tTest, tB, tNot, tAnd, tOr, tAndV, tOrV, tNotV, tIf, tChain, tLst, tTup, tBM, tBM0, rI, rI0, rU, rEq, rNe, scal, tComp, iStr, iList, iTup, iRng1, iRng2, tYes, rIsP, rAll, rLenS, rLenV, rListOf, rTupleOf, tDisp, tPairs, tSl, tPart, tNoPart, rSlS, rSlL, rFind, rStarts, rIntT, rStrA, rRepS, tCallX, tRaise, tRaiseI, tDispT, tSortT, tTry, tAs, offE, tXF, sXset, tMethX, tMakeX, rIsX, tFld, sFld, tMeth, rSortD, rDPop, tDNewK, 
  List.map_cons, List.map_nil, List.cons_append, List.nil_append, List.length_cons, List.length_nil, List.getElem?_cons_zero, List.getElem?_cons_succ, Option.some.injEq, exists_eq_left', exists_eq_left, List.set_cons_zero, List.set_cons_succ, List.cons.injEq, and_true, true_and, V.int.injEq, V.str.injEq, V.bl.injEq, V.ref.injEq, V.ty.injEq, exists_and_left, exists_and_right, List.append_nil, reduceCtorEq, false_and, and_false, exists_false, or_false, false_or, decide_true, decide_false, Bool.not_true, Bool.not_false, if_true, if_false, Bool.false_eq_true, ite_true, ite_false, and_assoc, Nat.reduceAdd, Nat.reduceSub, List.replicate_succ, List.replicate_zero, Nat.zero_add, Nat.add_zero, Nat.sub_self])
    refine ⟨_, .inl hs, ?_⟩
    rw [List.length_map]
    by_cases h : i < (ns.length : Int)
    · rw [if_pos (decide_eq_true h)]
      obtain ⟨j, rfl⟩ : ∃ j : Nat, i = (j : Int) := ⟨i.toNat, by omega⟩
      have hj : j < ns.length := by omega
      refine ⟨a, _, _, .int ns[j], rfl, rfl, hs, atI_nat (by rw [List.getElem?_map, List.getElem?_eq_getElem hj]; rfl), k _⟩
    · rw [if_neg (by simpa using h)]
      exact k _
noncomputable abbrev letters : Str := "abcdefghijklmnopqrstuvwxyz"
noncomputable abbrev al36 : Str := "abcdefghijklmnopqrstuvwxyz0123456789"
theorem ltr_at : ∀ d : Nat, d < 26 → letters.cps.toList[d]? = some (97 + d) := by decide +kernel
theorem ltr_len : letters.length = 26 := by decide
noncomputable def ch (sg : Str) (i : Int) : Nat := sg.cps.toList.getD (i % (sg.length : Int)).toNat 0
theorem ch_get {sg : Str} (h : 1 ≤ sg.length) (i : Int) : sg.cps.toList[(i % (sg.length : Int)).toNat]? = some (ch sg i) := by
  have h1 := Int.emod_lt_of_pos i (show (0 : Int) < sg.length by omega)
  have h0 := Int.emod_nonneg i (show (sg.length : Int) ≠ 0 by omega)
  have hl : (i % (sg.length : Int)).toNat < sg.cps.toList.length := by rw [show sg.cps.toList.length = sg.length by simp [Str.length]]; omega
  unfold ch
  rw [List.getD_eq_getElem?_getD, List.getElem?_eq_getElem hl]
  rfl
theorem ch_mem {sg : Str} (h : 1 ≤ sg.length) (i : Int) : ch sg i ∈ sg.cps.toList := List.mem_of_getElem? (ch_get h i)
theorem ch_ltr (i : Int) : ch letters i = 97 + (i % 26).toNat := by
  have e := ch_get (sg := letters) (by decide) i
  rw [ltr_len] at e
  have e2 := ltr_at (i % 26).toNat (by have := Int.emod_lt_of_pos i (show (0 : Int) < 26 by decide); have := Int.emod_nonneg i (show (26 : Int) ≠ 0 by decide); omega)
  exact Option.some.inj (e.symm.trans e2)
theorem nodup_map_range {α : Type} {f : Nat → α} {m : Nat} (h : ∀ i j, i < m → j < m → f i = f j → i = j) : ((List.range m).map f).Nodup := by
  unfold List.Nodup
  rw [List.pairwise_map]
  refine List.Pairwise.imp_of_mem (fun {a b} ha hb hn e => hn (h a b (List.mem_range.mp ha) (List.mem_range.mp hb) e)) List.nodup_range
theorem mulOk_one (c : Nat) {n : Int} (h0 : 0 ≤ n) (h : n ≤ 12) : MulOk ⟨#[c]⟩ n := by
  refine ⟨by rw [decide_eq_false (by omega), decide_eq_false (by omega)]; rfl, fun h1 _ => ?_, fun h1 _ => ?_⟩
  · show ¬ (1 : Int) > (2 ^ 63 - 1) / n
    rcases (by omega : n = 1 ∨ n = 2 ∨ n = 3 ∨ n = 4 ∨ n = 5 ∨ n = 6 ∨ n = 7 ∨ n = 8 ∨ n = 9 ∨ n = 10 ∨ n = 11 ∨ n = 12) with rfl | rfl | rfl | rfl | rfl | rfl | rfl | rfl | rfl | rfl | rfl | rfl <;> decide
  · show Builtin.Str.tooLong (1 * n.toNat) = false
    rcases (by omega : n = 1 ∨ n = 2 ∨ n = 3 ∨ n = 4 ∨ n = 5 ∨ n = 6 ∨ n = 7 ∨ n = 8 ∨ n = 9 ∨ n = 10 ∨ n = 11 ∨ n = 12) with rfl | rfl | rfl | rfl | rfl | rfl | rfl | rfl | rfl | rfl | rfl | rfl <;> decide +kernel
theorem len_cps (z : Str) : z.cps.toList.length = z.length := by simp [Str.length]
theorem app_len (x y : Str) : (x ++ y).length = x.length + y.length := by
  rw [← len_cps, ← len_cps, ← len_cps, PySem.W.KT.app_list, List.length_append]
theorem mul_len (c : Nat) (n : Int) : (Txt.mul ⟨#[c]⟩ n).length = n.toNat := by rw [← len_cps, PyProof.Rows.mul_one_list, List.length_replicate]
noncomputable def Heads (sg : Str) (zs : List Str) (m : Nat) : Prop := zs.length = m ∧ (sg = letters → zs.Nodup) ∧ ∀ z ∈ zs, 1 ≤ z.length ∧ z.length ≤ 12 ∧ ∀ c ∈ z.cps.toList, c ∈ sg.cps.toList
noncomputable def hdS (sg : Str) (sd : Int) (c : Nat) (at0 few : Int) (i : Nat) : Str := Txt.mul ⟨#[c]⟩ at0 ++ ⟨#[ch sg (sd / 1664 + 5 * (0 + (i : Int)))]⟩ ++ Txt.mul ⟨#[c]⟩ (1 + few - at0 - 1)
theorem hdS_cps (sg : Str) (sd : Int) (c : Nat) (at0 few : Int) (i : Nat) : (hdS sg sd c at0 few i).cps.toList = List.replicate at0.toNat c ++ [ch sg (sd / 1664 + 5 * (0 + (i : Int)))] ++ List.replicate (1 + few - at0 - 1).toNat c := by
  unfold hdS
  rw [PySem.W.KT.app_list, PySem.W.KT.app_list, PyProof.Rows.mul_one_list, PyProof.Rows.mul_one_list]
theorem hdS_heads {sg : Str} {sd : Int} {c : Nat} {at0 few : Int} {m : Nat} (hsg : 1 ≤ sg.length) (hc : c ∈ sg.cps.toList) (h0 : 0 ≤ at0) (h1 : at0 < 1 + few) (h2 : few < 12) (hm : m ≤ 9) : Heads sg ((List.range m).map (hdS sg sd c at0 few)) m := by
  refine ⟨by rw [List.length_map, List.length_range], fun hlt => nodup_map_range fun i j hi hj e => ?_, fun z hz => ?_⟩
  · have e1 := str_eq_iff.mp e
    rw [hdS_cps, hdS_cps, List.append_assoc, List.append_assoc] at e1
    have e2 := List.append_cancel_left e1
    have e3 : ch sg (sd / 1664 + 5 * (0 + (i : Int))) = ch sg (sd / 1664 + 5 * (0 + (j : Int))) := by
      injection e2
    subst hlt
    rw [ch_ltr, ch_ltr] at e3
    omega
  · obtain ⟨i, _, rfl⟩ := List.mem_map.mp hz
    have hl : (hdS sg sd c at0 few i).length = (1 + few).toNat := by
      rw [← len_cps, hdS_cps, List.length_append, List.length_append, List.length_replicate, List.length_replicate, List.length_singleton]
      omega
    refine ⟨by omega, by omega, fun d hd => ?_⟩
    rw [hdS_cps] at hd
    rcases List.mem_append.mp hd with hd | hd
    · rcases List.mem_append.mp hd with hd | hd
      · rw [List.eq_of_mem_replicate hd]; exact hc
      · rw [List.mem_singleton.mp hd]; exact ch_mem hsg _
    · rw [List.eq_of_mem_replicate hd]; exact hc
noncomputable def sp_l_heads (K : PySem.W.Frag) : Sp := fun vs H Q _ => ∃ sd : Int, ∃ m : Nat, ∃ sg : Str, vs = [.int sd, .str sg, .int m, .int 12] ∧ m ≤ 9 ∧ 1 ≤ sg.length ∧ sg.length ≤ 1000 ∧ ∀ H' p zs, Same H H' → H' p = some (.lst (zs.map V.str)) → Heads sg zs m → Q (.ref p) H'
theorem ok_l_heads (T : Txt K mg f fd) : FnOk P w K mg base CX0 1 (f 14) (fd 14) ["_law_seed", "_law_signs", "_law_many", "_law_most"] (sp_l_heads K) := by
  refine T.d_l_heads.F.ok sc_l_heads (fun vs H Q E h => ?_) (fun cdv A outer s H vs Q E hr h => ?_)
  · obtain ⟨sd, m, sg, rfl, _⟩ := h
    rfl
  · obtain ⟨sd, m, sg, rfl, h9, hg1, hg2, k⟩ := h
    have hgl : sg.length ≤ sizeLine := small_line (by omega)
    have hg0 : (0 : Int) < sg.length := by omega
    refine ⟨_, (pss_cons (ps_if (PW.pt (pw_and (pt_cmpR op_eq (pe_op op_mod (pe_op op_fdiv (pvc 0) pe_int) pe_int) pe_int (nomark _)) (pw_and1 (pt_cmpR op_le (pvl 2) (pvl 3) (nomark _)))))
     (pss_cons (psc 4 sc_l_heads.nd (k_bmL rfl PySem.F.plainAttrs_str PySem.F.slot_str_join PySem.F.type_str_join (k_join rfl) rfl rfl rfl rfl pe_str (pal rfl (pe_comp ["_law_k"] ["_law_seed", "_law_signs", "_law_many", "_law_most", "_law_word", "_law_few", "_law_at", "_law_rest", "_law_heads_here", "#9", "_law_sign"] rfl (show CompSc _ (defScope s_l_heads) ["_law_seed", "_law_signs", "_law_many", "_law_most", "_law_word", "_law_few", "_law_at", "_law_rest", "_law_heads_here", "_law_k", "_law_sign"] ["_law_seed", "_law_signs", "_law_many", "_law_most", "_law_word", "_law_few", "_law_at", "_law_rest", "_law_heads_here", "#9", "_law_sign"] from compOk_is (by decide +kernel)) (pi_range1 rfl T.n_range (pal rfl (pvl 3) pa_nil)) (fun _ _ _ _ _ => (pgl 0 (show (["_law_k", "_law_seed", "_law_signs", "_law_many", "_law_most", "_law_word", "_law_few", "_law_at", "_law_rest", "_law_heads_here", "#9", "_law_sign"] : List Str).Nodup by decide +kernel))) (fun _ _ _ _ _ => pts_nil) (fun _ _ _ _ _ => (pe_ix ix_str (pvc 2) (pe_op op_mod (pe_op op_add (pe_op op_fdiv (pvc 1) pe_int) (pe_op op_mul (pe_op op_mul pe_int (pvl 0)) (pvl 0))) (pe_cB call_len_str T.n_len bt_len rfl (by decide) (by decide) rfl (pal rfl (pvc 2) pa_nil))) (fun _ _ => rfl)))) pa_nil)))
     (pss_one (ps_ret (pe_comp ["_law_k"] ["_law_seed", "_law_signs", "_law_many", "_law_most", "_law_word", "_law_few", "_law_at", "_law_rest", "_law_heads_here", "#9", "_law_sign"] rfl (show CompSc _ (defScope s_l_heads) ["_law_seed", "_law_signs", "_law_many", "_law_most", "_law_word", "_law_few", "_law_at", "_law_rest", "_law_heads_here", "_law_k", "_law_sign"] ["_law_seed", "_law_signs", "_law_many", "_law_most", "_law_word", "_law_few", "_law_at", "_law_rest", "_law_heads_here", "#9", "_law_sign"] from compOk_is (by decide +kernel)) (pi_range1 rfl T.n_range (pal rfl (pvl 2) pa_nil)) (fun _ _ _ _ _ => (pgl 0 (show (["_law_k", "_law_seed", "_law_signs", "_law_many", "_law_most", "_law_word", "_law_few", "_law_at", "_law_rest", "_law_heads_here", "#9", "_law_sign"] : List Str).Nodup by decide +kernel))) (fun _ _ _ _ _ => pts_nil) (fun _ _ _ _ _ => (pe_slice sl_str (pvc 5) po_none (po_some (pe_op op_add (pvl 0) pe_int))))))))
     pss_nil)
     (pss_cons (psl 5 sc_l_heads.nd (pe_op op_add pe_int (pe_op op_mod (pvc 0) (pvl 3))))
     (pss_cons (psl 6 sc_l_heads.nd (pe_op op_mod (pe_op op_fdiv (pvc 0) pe_int) (pvl 5)))
     (pss_cons (psl 7 sc_l_heads.nd (pe_ix ix_str (pvc 1) (pe_op op_mod (pe_op op_fdiv (pvc 0) pe_int) (pe_cB call_len_str T.n_len bt_len rfl (by decide) (by decide) rfl (pal rfl (pvc 1) pa_nil))) (fun _ _ => rfl)))
     (pss_cons (psl 8 sc_l_heads.nd (pe_lst pa_nil))
     (pss_cons (ps_for PassesOwn.never rfl (pi_range1 rfl T.n_range (pal rfl (pvl 2) pa_nil)) (pgl 9 sc_l_heads.nd)
     (pss_cons (psl 10 sc_l_heads.nd (pe_ix ix_str (pvc 1) (pe_op op_mod (pe_op op_add (pe_op op_fdiv (pvc 0) pe_int) (pe_op op_mul pe_int (pvl 9))) (pe_cB call_len_str T.n_len bt_len rfl (by decide) (by decide) rfl (pal rfl (pvc 1) pa_nil))) (fun _ _ => rfl)))
     (pss_one (ps_expr (k_bmL rfl PySem.F.plainAttrs_list PySem.F.slot_list_append PySem.F.type_list_append mt_append rfl rfl rfl rfl (pvl 8) (pal rfl (pe_op op_add_str (pe_op op_add_str (pe_op op_rep_str (pvl 7) (pvl 6)) (pvl 10)) (pe_op op_rep_str (pvl 7) (pe_op op_sub (pe_op op_sub (pvl 5) (pvl 6)) pe_int))) pa_nil))))))
     (pss_one (ps_ret (pvl 8))))))))), ?_⟩
    ((try dsimp only [cxOf, L2.Cx.inTry, L2.Cx.inHand]); simp only [L2.start, tSeq, tNext, tIfS, tRet, tRetN, tAsg, tDrop, gName, tVar, tC, tOp, tUn, tCall, tCB, tCons, tNil, tTest, tB, tNot, tAnd, tOr, tAndV, tOrV, tNotV, tIf, tChain, tLst, tTup, tBM, tBM0, rI, rI0, rU, rEq, rNe, scal, tComp, iStr, iList, iTup, iRng1, iRng2, tYes, rIsP, rAll, rLenS, rLenV, rListOf, rTupleOf, tDisp, tPairs, tSl, tPart, tNoPart, rSlS, rSlL, rFind, rStarts, rIntT, rStrA, rRepS, tCallX, tRaise, tRaiseI, tDispT, tSortT, tTry, tAs, offE, tXF, sXset, tMethX, tMakeX, rIsX, tFld, sFld, tMeth, rSortD, rDPop, tDNewK, 
  List.map_cons, List.map_nil, List.cons_append, List.nil_append, List.length_cons, List.length_nil, List.getElem?_cons_zero, List.getElem?_cons_succ, Option.some.injEq, exists_eq_left', exists_eq_left, List.set_cons_zero, List.set_cons_succ, List.cons.injEq, and_true, true_and, V.int.injEq, V.str.injEq, V.bl.injEq, V.ref.injEq, V.ty.injEq, exists_and_left, exists_and_right, List.append_nil, reduceCtorEq, false_and, and_false, exists_false, or_false, false_or, decide_true, decide_false, Bool.not_true, Bool.not_false, if_true, if_false, Bool.false_eq_true, ite_true, ite_false, and_assoc, Nat.reduceAdd, Nat.reduceSub, List.replicate_succ, List.replicate_zero, Nat.zero_add, Nat.add_zero, Nat.sub_self])
    refine ⟨⟨by decide, by decide⟩, by decide, ?_⟩
    by_cases h4 : sd / 43264 % 4 = 3
    · rw [if_pos (decide_eq_true h4), if_pos (decide_eq_true (by omega))]
      refine ⟨rfl, by decide, by decide, comp_of (as := List.range 12) (g := fun i => V.int (0 + (i : Int))) walk_range (small_line (by decide)) (fun _ _ => trivial) (fun _ => true) (fun i => sgn (ch sg (sd / 1664 + 5 * (0 + (i : Int)) * (0 + (i : Int))))) (fun _ H1 Q _ _ q => q H1 (Same.refl _)) (fun i H1 Q hi _ _ q => ?_) (fun H1 s1 D hD => ?_)⟩
      · have hi := List.mem_range.mp hi
        ((try dsimp only [cxOf, L2.Cx.inTry, L2.Cx.inHand]); simp only [L2.start, tSeq, tNext, tIfS, tRet, tRetN, tAsg, tDrop, gName, tVar, tC, tOp, tUn, tCall, tCB, tCons, tNil, tTest, tB, tNot, tAnd, tOr, tAndV, tOrV, tNotV, tIf, tChain, tLst, tTup, tBM, tBM0, rI, rI0, rU, rEq, rNe, scal, tComp, iStr, iList, iTup, iRng1, iRng2, tYes, rIsP, rAll, rLenS, rLenV, rListOf, rTupleOf, tDisp, tPairs, tSl, tPart, tNoPart, rSlS, rSlL, rFind, rStarts, rIntT, rStrA, rRepS, tCallX, tRaise, tRaiseI, tDispT, tSortT, tTry, tAs, offE, tXF, sXset, tMethX, tMakeX, rIsX, tFld, sFld, tMeth, rSortD, rDPop, tDNewK, 
  List.map_cons, List.map_nil, List.cons_append, List.nil_append, List.length_cons, List.length_nil, List.getElem?_cons_zero, List.getElem?_cons_succ, Option.some.injEq, exists_eq_left', exists_eq_left, List.set_cons_zero, List.set_cons_succ, List.cons.injEq, and_true, true_and, V.int.injEq, V.str.injEq, V.bl.injEq, V.ref.injEq, V.ty.injEq, exists_and_left, exists_and_right, List.append_nil, reduceCtorEq, false_and, and_false, exists_false, or_false, false_or, decide_true, decide_false, Bool.not_true, Bool.not_false, if_true, if_false, Bool.false_eq_true, ite_true, ite_false, and_assoc, Nat.reduceAdd, Nat.reduceSub, List.replicate_succ, List.replicate_zero, Nat.zero_add, Nat.add_zero, Nat.sub_self])
        refine ⟨⟨by decide, by decide⟩, .inl ⟨by decide, by decide⟩, .inr ⟨by omega, by omega⟩, hgl, hg0, ?_⟩
        refine ixS_of hgl (Int.emod_nonneg _ (by omega)) (Int.emod_lt_of_pos _ hg0) fun c hc => ?_
        have e := ch_get hg1 (sd / 1664 + 5 * (0 + (i : Int)) * (0 + (i : Int)))
        obtain rfl : c = ch sg (sd / 1664 + 5 * (0 + (i : Int)) * (0 + (i : Int))) := Option.some.inj (hc.symm.trans e)
        exact q H1 (Same.refl _)
      · rw [filter_yes]
        have ecs : (List.range 12).map (fun (i : Nat) => sgn (ch sg (sd / 1664 + 5 * (0 + (i : Int)) * (0 + (i : Int))))) = ((List.range 12).map fun (i : Nat) => ch sg (sd / 1664 + 5 * (0 + (i : Int)) * (0 + (i : Int)))).map sgn := by rw [List.map_map]; rfl
        rw [ecs]
        have hlc : ((List.range 12).map fun (i : Nat) => ch sg (sd / 1664 + 5 * (0 + (i : Int)) * (0 + (i : Int)))).length = 12 := by rw [List.length_map, List.length_range]
        have hmc : ∀ c ∈ (List.range 12).map fun (i : Nat) => ch sg (sd / 1664 + 5 * (0 + (i : Int)) * (0 + (i : Int))), c ∈ sg.cps.toList := fun c hc => by
          obtain ⟨i, _, rfl⟩ := List.mem_map.mp hc
          exact ch_mem hg1 _
        generalize ((List.range 12).map fun (i : Nat) => ch sg (sd / 1664 + 5 * (0 + (i : Int)) * (0 + (i : Int)))) = cs at *
        have s2 := s1.new hD (HO.lst (cs.map sgn))
        refine joinS_of (.of upd_same) (by omega) ⟨by omega, by omega, ?_⟩
        generalize upd H1 D (HO.lst (cs.map sgn)) = H2 at *
        rw [Int.toNat_natCast]
        refine comp_of (as := List.range m) (g := fun i => V.int (0 + (i : Int))) walk_range (by rw [List.length_range]; exact small_line (by omega)) (fun _ _ => trivial) (fun _ => true) (fun i => .str ⟨(cs.take (i + 1)).toArray⟩) (fun _ H1 Q _ _ q => q H1 (Same.refl _)) (fun i H3 Q hi _ _ q => ?_) (fun H3 s3 D3 hD3 => ?_)
        · ((try dsimp only [cxOf, L2.Cx.inTry, L2.Cx.inHand]); simp only [L2.start, tSeq, tNext, tIfS, tRet, tRetN, tAsg, tDrop, gName, tVar, tC, tOp, tUn, tCall, tCB, tCons, tNil, tTest, tB, tNot, tAnd, tOr, tAndV, tOrV, tNotV, tIf, tChain, tLst, tTup, tBM, tBM0, rI, rI0, rU, rEq, rNe, scal, tComp, iStr, iList, iTup, iRng1, iRng2, tYes, rIsP, rAll, rLenS, rLenV, rListOf, rTupleOf, tDisp, tPairs, tSl, tPart, tNoPart, rSlS, rSlL, rFind, rStarts, rIntT, rStrA, rRepS, tCallX, tRaise, tRaiseI, tDispT, tSortT, tTry, tAs, offE, tXF, sXset, tMethX, tMakeX, rIsX, tFld, sFld, tMeth, rSortD, rDPop, tDNewK, 
  List.map_cons, List.map_nil, List.cons_append, List.nil_append, List.length_cons, List.length_nil, List.getElem?_cons_zero, List.getElem?_cons_succ, Option.some.injEq, exists_eq_left', exists_eq_left, List.set_cons_zero, List.set_cons_succ, List.cons.injEq, and_true, true_and, V.int.injEq, V.str.injEq, V.bl.injEq, V.ref.injEq, V.ty.injEq, exists_and_left, exists_and_right, List.append_nil, reduceCtorEq, false_and, and_false, exists_false, or_false, false_or, decide_true, decide_false, Bool.not_true, Bool.not_false, if_true, if_false, Bool.false_eq_true, ite_true, ite_false, and_assoc, Nat.reduceAdd, Nat.reduceSub, List.replicate_succ, List.replicate_zero, Nat.zero_add, Nat.add_zero, Nat.sub_self])
          refine ⟨small_line (by show cs.toArray.size ≤ _; rw [List.size_toArray]; omega), ?_⟩
          have e : cutL cs none (some (0 + (i : Int) + 1)) = cs.take (i + 1) := by
            rw [show (0 + (i : Int) + 1) = ((i + 1 : Nat) : Int) by omega, cut_to]
          have e2 : cutL (⟨cs.toArray⟩ : Str).cps.toList none (some (0 + (i : Int) + 1)) = cs.take (i + 1) := e
          first
            | (rw [e2]; exact q H3 (Same.refl _))
            | (rw [e]; exact q H3 (Same.refl _))
        · rw [filter_yes]
          have lt : ∀ i, i < m → (cs.take (i + 1)).length = i + 1 := fun i hi => by rw [List.length_take, hlc]; omega
          refine k _ D3 ((List.range m).map fun i => ⟨(cs.take (i + 1)).toArray⟩) ((s2.trans s3).new hD3 _) (by rw [upd_same, List.map_map]; rfl) ⟨by rw [List.length_map, List.length_range], fun _ => nodup_map_range fun i j hi hj e => ?_, fun z hz => ?_⟩
          · have e2 := congrArg List.length (str_eq_iff.mp e)
            have e3 : (cs.take (i + 1)).length = (cs.take (j + 1)).length := e2
            rw [lt i hi, lt j hj] at e3
            omega
          · obtain ⟨i, hi, rfl⟩ := List.mem_map.mp hz
            have hi := List.mem_range.mp hi
            have hl : (⟨(cs.take (i + 1)).toArray⟩ : Str).length = i + 1 := by
              show (cs.take (i + 1)).toArray.size = _
              rw [List.size_toArray, lt i hi]
            exact ⟨by omega, by omega, fun c hc => hmc c (List.mem_of_mem_take hc)⟩
    · rw [if_neg (by simpa using h4)]
      refine ⟨by decide, ⟨by decide, by decide⟩, by omega, ⟨by decide, by decide⟩, hgl, hg0, ?_⟩
      refine ixS_of hgl (Int.emod_nonneg _ (by omega)) (Int.emod_lt_of_pos _ hg0) fun c hc => ⟨small_line (by decide), fun p hp => ?_⟩
      have hcl : c ∈ sg.cps.toList := List.mem_of_getElem? hc
      have b1 : 0 ≤ sd % 12 := Int.emod_nonneg _ (by decide)
      have b2 : sd % 12 < 12 := Int.emod_lt_of_pos _ (by decide)
      have b3 : 0 ≤ sd / 12 % (1 + sd % 12) := Int.emod_nonneg _ (by omega)
      have b4 : sd / 12 % (1 + sd % 12) < 1 + sd % 12 := Int.emod_lt_of_pos _ (by omega)
      generalize sd / 12 % (1 + sd % 12) = at0 at *
      generalize sd % 12 = few at *
      have s1 := Same.upd_new hp (HO.lst [])
      have g1 : upd H p (HO.lst []) p = some (.lst []) := upd_same
      generalize upd H p (HO.lst []) = H1 at *
      refine for_in ?_
      ((try dsimp only [cxOf, L2.Cx.inTry, L2.Cx.inHand]); simp only [L2.start, tSeq, tNext, tIfS, tRet, tRetN, tAsg, tDrop, gName, tVar, tC, tOp, tUn, tCall, tCB, tCons, tNil, tTest, tB, tNot, tAnd, tOr, tAndV, tOrV, tNotV, tIf, tChain, tLst, tTup, tBM, tBM0, rI, rI0, rU, rEq, rNe, scal, tComp, iStr, iList, iTup, iRng1, iRng2, tYes, rIsP, rAll, rLenS, rLenV, rListOf, rTupleOf, tDisp, tPairs, tSl, tPart, tNoPart, rSlS, rSlL, rFind, rStarts, rIntT, rStrA, rRepS, tCallX, tRaise, tRaiseI, tDispT, tSortT, tTry, tAs, offE, tXF, sXset, tMethX, tMakeX, rIsX, tFld, sFld, tMeth, rSortD, rDPop, tDNewK, 
  List.map_cons, List.map_nil, List.cons_append, List.nil_append, List.length_cons, List.length_nil, List.getElem?_cons_zero, List.getElem?_cons_succ, Option.some.injEq, exists_eq_left', exists_eq_left, List.set_cons_zero, List.set_cons_succ, List.cons.injEq, and_true, true_and, V.int.injEq, V.str.injEq, V.bl.injEq, V.ref.injEq, V.ty.injEq, exists_and_left, exists_and_right, List.append_nil, reduceCtorEq, false_and, and_false, exists_false, or_false, false_or, decide_true, decide_false, Bool.not_true, Bool.not_false, if_true, if_false, Bool.false_eq_true, ite_true, ite_false, and_assoc, Nat.reduceAdd, Nat.reduceSub, List.replicate_succ, List.replicate_zero, Nat.zero_add, Nat.add_zero, Nat.sub_self])
      refine ⟨by omega, by omega, ?_⟩
      rw [Int.toNat_natCast]
      refine ForW.of walk_range (fun j σ H' => (∃ v9 v10, σ = [some (V.int sd), some (V.str sg), some (V.int (m : Int)), some (V.int 12), none, some (V.int (1 + few)), some (V.int at0), some (V.str ⟨#[c]⟩), some (V.ref p), v9, v10]) ∧ H' p = some (.lst (((List.range j).map (hdS sg sd c at0 few)).map V.str)) ∧ Same H H') ⟨⟨none, none, rfl⟩, g1, s1⟩ (fun _ _ _ _ _ => trivial) ?_ ?_
      · rintro j x σ H2 hx ⟨⟨v9, v10, rfl⟩, g2, s2⟩
        obtain ⟨hj, rfl⟩ := range_item hx
        ((try dsimp only [cxOf, L2.Cx.inTry, L2.Cx.inHand]); simp only [L2.start, tSeq, tNext, tIfS, tRet, tRetN, tAsg, tDrop, gName, tVar, tC, tOp, tUn, tCall, tCB, tCons, tNil, tTest, tB, tNot, tAnd, tOr, tAndV, tOrV, tNotV, tIf, tChain, tLst, tTup, tBM, tBM0, rI, rI0, rU, rEq, rNe, scal, tComp, iStr, iList, iTup, iRng1, iRng2, tYes, rIsP, rAll, rLenS, rLenV, rListOf, rTupleOf, tDisp, tPairs, tSl, tPart, tNoPart, rSlS, rSlL, rFind, rStarts, rIntT, rStrA, rRepS, tCallX, tRaise, tRaiseI, tDispT, tSortT, tTry, tAs, offE, tXF, sXset, tMethX, tMakeX, rIsX, tFld, sFld, tMeth, rSortD, rDPop, tDNewK, 
  List.map_cons, List.map_nil, List.cons_append, List.nil_append, List.length_cons, List.length_nil, List.getElem?_cons_zero, List.getElem?_cons_succ, Option.some.injEq, exists_eq_left', exists_eq_left, List.set_cons_zero, List.set_cons_succ, List.cons.injEq, and_true, true_and, V.int.injEq, V.str.injEq, V.bl.injEq, V.ref.injEq, V.ty.injEq, exists_and_left, exists_and_right, List.append_nil, reduceCtorEq, false_and, and_false, exists_false, or_false, false_or, decide_true, decide_false, Bool.not_true, Bool.not_false, if_true, if_false, Bool.false_eq_true, ite_true, ite_false, and_assoc, Nat.reduceAdd, Nat.reduceSub, List.replicate_succ, List.replicate_zero, Nat.zero_add, Nat.add_zero, Nat.sub_self])
        refine ⟨⟨by decide, by decide⟩, .inl ⟨by decide, by decide⟩, hgl, hg0, ?_⟩
        refine ixS_of hgl (Int.emod_nonneg _ (by omega)) (Int.emod_lt_of_pos _ hg0) fun d hd => ?_
        obtain rfl : d = ch sg (sd / 1664 + 5 * (0 + (j : Int))) := Option.some.inj (hd.symm.trans (ch_get hg1 _))
        unfold sgn
        ((try dsimp only [cxOf, L2.Cx.inTry, L2.Cx.inHand]); simp only [L2.start, tSeq, tNext, tIfS, tRet, tRetN, tAsg, tDrop, gName, tVar, tC, tOp, tUn, tCall, tCB, tCons, tNil, tTest, tB, tNot, tAnd, tOr, tAndV, tOrV, tNotV, tIf, tChain, tLst, tTup, tBM, tBM0, rI, rI0, rU, rEq, rNe, scal, tComp, iStr, iList, iTup, iRng1, iRng2, tYes, rIsP, rAll, rLenS, rLenV, rListOf, rTupleOf, tDisp, tPairs, tSl, tPart, tNoPart, rSlS, rSlL, rFind, rStarts, rIntT, rStrA, rRepS, tCallX, tRaise, tRaiseI, tDispT, tSortT, tTry, tAs, offE, tXF, sXset, tMethX, tMakeX, rIsX, tFld, sFld, tMeth, rSortD, rDPop, tDNewK, 
  List.map_cons, List.map_nil, List.cons_append, List.nil_append, List.length_cons, List.length_nil, List.getElem?_cons_zero, List.getElem?_cons_succ, Option.some.injEq, exists_eq_left', exists_eq_left, List.set_cons_zero, List.set_cons_succ, List.cons.injEq, and_true, true_and, V.int.injEq, V.str.injEq, V.bl.injEq, V.ref.injEq, V.ty.injEq, exists_and_left, exists_and_right, List.append_nil, reduceCtorEq, false_and, and_false, exists_false, or_false, false_or, decide_true, decide_false, Bool.not_true, Bool.not_false, if_true, if_false, Bool.false_eq_true, ite_true, ite_false, and_assoc, Nat.reduceAdd, Nat.reduceSub, List.replicate_succ, List.replicate_zero, Nat.zero_add, Nat.add_zero, Nat.sub_self])
        refine ⟨.inl ⟨rfl, _, .of g2⟩, mulOk_one c b3 (by omega), small_line ?_, mulOk_one c (by omega) (by omega), small_line ?_, p, _, _, rfl, rfl, g2, ?_, ⟨_, rfl⟩, ?_, s2.set hp _⟩
        · rw [mul_len]
          show at0.toNat + 1 ≤ _
          omega
        · rw [app_len, mul_len, mul_len]
          show at0.toNat + 1 + _ ≤ _
          omega
        · rw [List.length_map, List.length_map, List.length_range, sizeLine_eq]
          omega
        · rw [upd_same, List.range_succ, List.map_append, List.map_append]
          rfl
      · rintro σ H2 ⟨⟨v9, v10, rfl⟩, g2, s2⟩
        rw [rangeV_len] at g2
        ((try dsimp only [cxOf, L2.Cx.inTry, L2.Cx.inHand]); simp only [L2.start, tSeq, tNext, tIfS, tRet, tRetN, tAsg, tDrop, gName, tVar, tC, tOp, tUn, tCall, tCB, tCons, tNil, tTest, tB, tNot, tAnd, tOr, tAndV, tOrV, tNotV, tIf, tChain, tLst, tTup, tBM, tBM0, rI, rI0, rU, rEq, rNe, scal, tComp, iStr, iList, iTup, iRng1, iRng2, tYes, rIsP, rAll, rLenS, rLenV, rListOf, rTupleOf, tDisp, tPairs, tSl, tPart, tNoPart, rSlS, rSlL, rFind, rStarts, rIntT, rStrA, rRepS, tCallX, tRaise, tRaiseI, tDispT, tSortT, tTry, tAs, offE, tXF, sXset, tMethX, tMakeX, rIsX, tFld, sFld, tMeth, rSortD, rDPop, tDNewK, 
  List.map_cons, List.map_nil, List.cons_append, List.nil_append, List.length_cons, List.length_nil, List.getElem?_cons_zero, List.getElem?_cons_succ, Option.some.injEq, exists_eq_left', exists_eq_left, List.set_cons_zero, List.set_cons_succ, List.cons.injEq, and_true, true_and, V.int.injEq, V.str.injEq, V.bl.injEq, V.ref.injEq, V.ty.injEq, exists_and_left, exists_and_right, List.append_nil, reduceCtorEq, false_and, and_false, exists_false, or_false, false_or, decide_true, decide_false, Bool.not_true, Bool.not_false, if_true, if_false, Bool.false_eq_true, ite_true, ite_false, and_assoc, Nat.reduceAdd, Nat.reduceSub, List.replicate_succ, List.replicate_zero, Nat.zero_add, Nat.add_zero, Nat.sub_self])
        exact k _ p _ s2 g2 (hdS_heads hg1 hcl b3 b4 b2 h9)
theorem al_lt : ∀ c ∈ al36.cps.toList, c < 1114112 := by decide +kernel
theorem ltr_lt : ∀ c ∈ letters.cps.toList, c < 1114112 := by decide +kernel
noncomputable def Wd (H : Hp) (d : Addr) (ns kds : List Str) : Prop := ∃ (kvs : List (Key × V)) (l w : Addr) (b : Int) (xs : List V) (ws : List Str), H d = some (.dK kvs) ∧ valV kvs (.inr "fields") = some (.ref l) ∧ valV kvs (.inr "words") = some (.ref w) ∧ valV kvs (.inr "base") = some (.int b) ∧
  H l = some (.lst xs) ∧ FldsK H xs ns kds ∧ (∀ kd ∈ kds, kd = wordS ∨ kd = numS) ∧ 1 ≤ xs.length ∧ xs.length ≤ 8 ∧ H w = some (.lst (ws.map V.str)) ∧ 1 ≤ ws.length ∧ ws.length ≤ 60 ∧ (∀ n ∈ ns, NmOk 12 n) ∧ ∀ z ∈ ws, NmOk 12 z
theorem Wd.mono {H H' : Hp} {d : Addr} {ns kds : List Str} (s : Same H H') (h : Wd H d ns kds) : Wd H' d ns kds := by
  obtain ⟨kvs, l, w, b, xs, ws, h1, h2, h3, h4, h5, h6, h7, h8, h9, h10, h11⟩ := h
  exact ⟨kvs, l, w, b, xs, ws, s _ _ h1, h2, h3, h4, s _ _ h5, h6.mono s, h7, h8, h9, s _ _ h10, h11⟩
theorem wget {H : Hp} {d : Addr} {kvs : List (Key × V)} {z : Str} {v : V} (h : H d = some (.dK kvs)) (e : valV kvs (.inr z) = some v) : DGet H d (.str z) (some v) := by
  have := DGet.k (k := .inr z) h
  rwa [e] at this
noncomputable def sp_l_world (K : PySem.W.Frag) : Sp := fun vs H Q _ => ∃ (a : Addr) (ns0 : List Int), vs = [.ref a] ∧ SqL K H a (ns0.map V.int) ∧ ∀ H' d ns kds, Same H H' → Wd H' d ns kds → Q (.ref d) H'
theorem ok_l_world (T : Txt K mg f fd) : FnOk P w K mg base CX0 2 (f 15) (fd 15) ["_law_script"] (sp_l_world K) := by
  refine T.d_l_world.F.ok sc_l_world (fun vs H Q E h => ?_) (fun cdv A outer s H vs Q E hr h => ?_)
  · obtain ⟨a, ns0, rfl, _⟩ := h
    rfl
  · obtain ⟨a, ns0, rfl, hs, k⟩ := h
    refine ⟨_, (pss_cons (psc 1 sc_l_world.nd (pe_defL T.d_l_mix (ok_l_mix T) (hr.mono (by decide)) rfl (by decide) rfl (pal rfl (pe_defL T.d_l_cell_at (ok_l_cell_at T) (hr.mono (by decide)) rfl (by decide) rfl (pal rfl (pvl 0) (pal rfl pe_int pa_nil))) (pal rfl pe_int pa_nil))))
     (pss_cons (psl 2 sc_l_world.nd (pe_op op_add pe_int (pe_op op_mod (pvc 1) pe_int)))
     (pss_cons (psc 3 sc_l_world.nd (pe_defL T.d_l_heads (ok_l_heads T) (hr.mono (by decide)) rfl (by decide) rfl (pal rfl (pe_defL T.d_l_mix (ok_l_mix T) (hr.mono (by decide)) rfl (by decide) rfl (pal rfl (pvc 1) (pal rfl pe_int pa_nil))) (pal rfl pe_str (pal rfl (pvl 2) (pal rfl pe_int pa_nil))))))
     (pss_cons (ps_comp ["_law_k"] ["_law_script", "_law_seed", "_law_many", "_law_names", "_law_fields", "_law_words", "_law_base"] rfl (show CompSc _ (defScope s_l_world) ["_law_script", "_law_seed", "_law_many", "_law_names", "_law_fields", "_law_words", "_law_base"] ["_law_script", "_law_seed", "_law_many", "_law_names", "_law_fields", "_law_words", "_law_base"] from compOk_is (by decide +kernel)) sc_l_world.nd (i := 4) rfl rfl (pi_range1 rfl T.n_range (pal rfl (pvl 2) pa_nil)) (fun _ _ _ _ _ => (pgl 0 (show (["_law_k", "_law_script", "_law_seed", "_law_many", "_law_names", "_law_fields", "_law_words", "_law_base"] : List Str).Nodup by decide +kernel))) (fun _ _ _ _ _ => pts_nil) (fun _ _ _ _ _ => (pe_tup (pal rfl (pe_ix (k_ixL rfl) (pvc 4) (pvl 0) (fun _ _ => rfl)) (pal rfl (pe_ix (k_ixL rfl) (pe_lst (pal rfl pe_str (pal rfl pe_str pa_nil))) (pe_op op_mod (pe_defL T.d_l_mix (ok_l_mix T) (hr.mono (by decide)) rfl (by decide) rfl (pal rfl (pvc 2) (pal rfl (pe_op op_add (pvl 0) pe_int) pa_nil))) pe_int) (fun _ _ => rfl)) pa_nil)))))
     (pss_cons (psl 5 sc_l_world.nd (pe_defL T.d_l_heads (ok_l_heads T) (hr.mono (by decide)) rfl (by decide) rfl (pal rfl (pe_defL T.d_l_mix (ok_l_mix T) (hr.mono (by decide)) rfl (by decide) rfl (pal rfl (pvc 1) (pal rfl pe_int pa_nil))) (pal rfl pe_str (pal rfl pe_int (pal rfl pe_int pa_nil))))))
     (pss_cons (ps_if (pt_cmpR op_eq (pe_op op_mod (pe_op op_fdiv (pvc 1) pe_int) pe_int) pe_int (nomark _))
     (pss_one (psl 5 sc_l_world.nd (pe_op op_cat (pe_slice (k_slL rfl) (pvc 3) po_none (po_some pe_int)) (pe_slice (k_slL rfl) (pvl 5) po_none (po_some pe_int)))))
     pss_nil)
     (pss_cons (psl 6 sc_l_world.nd (pe_ix (k_ixL rfl) (pe_lst (pal rfl pe_int (pal rfl (pe_op op_mul pe_int (pe_op op_pow pe_int pe_int)) (pal rfl (pe_op op_sub pe_int (pe_op op_mul pe_int (pe_op op_pow pe_int pe_int))) (pal rfl pe_int pa_nil))))) (pe_op op_mod (pe_op op_fdiv (pvc 1) pe_int) pe_int) (fun _ _ => rfl)))
     (pss_one (ps_ret (pe_disp (pps_cons pe_str (pvl 4) (pps_cons pe_str (pvl 5) (pps_cons pe_str (pvl 6) pps_nil))) rfl rfl (List.cons_ne_nil _ _) (by show 3 ≤ 15; decide))))))))))), ?_⟩
    ((try dsimp only [cxOf, L2.Cx.inTry, L2.Cx.inHand]); simp only [L2.start, tSeq, tNext, tIfS, tRet, tRetN, tAsg, tDrop, gName, tVar, tC, tOp, tUn, tCall, tCB, tCons, tNil, tTest, tB, tNot, tAnd, tOr, tAndV, tOrV, tNotV, tIf, tChain, tLst, tTup, tBM, tBM0, rI, rI0, rU, rEq, rNe, scal, tComp, iStr, iList, iTup, iRng1, iRng2, tYes, rIsP, rAll, rLenS, rLenV, rListOf, rTupleOf, tDisp, tPairs, tSl, tPart, tNoPart, rSlS, rSlL, rFind, rStarts, rIntT, rStrA, rRepS, tCallX, tRaise, tRaiseI, tDispT, tSortT, tTry, tAs, offE, tXF, sXset, tMethX, tMakeX, rIsX, tFld, sFld, tMeth, rSortD, rDPop, tDNewK, tDIn, tDNotIn, tDGet, sDPut, rIndexS, tStop, gSub, tRev, tBest, rGtA, 
  List.map_cons, List.map_nil, List.cons_append, List.nil_append, List.length_cons, List.length_nil, List.getElem?_cons_zero, List.getElem?_cons_succ, Option.some.injEq, exists_eq_left', exists_eq_left, List.set_cons_zero, List.set_cons_succ, List.cons.injEq, and_true, true_and, V.int.injEq, V.str.injEq, V.bl.injEq, V.ref.injEq, V.ty.injEq, exists_and_left, exists_and_right, List.append_nil, reduceCtorEq, false_and, and_false, exists_false, or_false, false_or, decide_true, decide_false, Bool.not_true, Bool.not_false, if_true, if_false, Bool.false_eq_true, ite_true, ite_false, and_assoc, Nat.reduceAdd, Nat.reduceSub, List.replicate_succ, List.replicate_zero, Nat.zero_add, Nat.add_zero, Nat.sub_self])
    refine ⟨a, ns0, _, rfl, hs, by decide, fun v0 => ⟨_, _, rfl, ?_⟩⟩
    generalize mixI v0 1 = sd at *
    refine ⟨_, rfl, by decide, _, _, rfl, ?_⟩
    obtain ⟨m, hm⟩ : ∃ m : Nat, 1 + sd % 8 = (m : Int) := ⟨(1 + sd % 8).toNat, by omega⟩
    rw [hm]
    have hm1 : 1 ≤ m ∧ m ≤ 8 := by omega
    refine ⟨_, m, letters, rfl, by omega, by decide, by decide, fun H1 pn zs s1 hpn hz => ?_⟩
    refine ⟨by omega, by omega, ?_⟩
    rw [Int.toNat_natCast]
    refine comp_walk walk_range (by rw [rangeV_len]; exact small_line (by omega)) (fun j ys H' => Same H1 H' ∧ ys.length = j ∧ ∃ kds : List Str, kds.length = j ∧ (∀ kd ∈ kds, kd = wordS ∨ kd = numS) ∧ ∀ (i : Nat) x n kd, ys[i]? = some x → zs[i]? = some n → kds[i]? = some kd → ∃ p, x = .ref p ∧ H' p = some (.tup [.str n, .str kd])) ⟨Same.refl _, rfl, [], rfl, (fun _ h => nomatch h), fun _ _ _ _ h => by simp at h⟩ (fun _ _ _ _ _ => trivial) (fun j ys H' q => Nat.le_of_eq q.2.1) (fun j x ys H2 hx q => ?_) (fun ys H2 q D hD => ?_)
    · obtain ⟨hj, rfl⟩ := range_item hx
      obtain ⟨t1, t2, kds, t3, t4, t5⟩ := q
      obtain ⟨n, hn⟩ : ∃ n, zs[j]? = some n := ⟨_, List.getElem?_eq_getElem (by rw [hz.1]; exact hj)⟩
      ((try dsimp only [cxOf, L2.Cx.inTry, L2.Cx.inHand]); simp only [L2.start, tSeq, tNext, tIfS, tRet, tRetN, tAsg, tDrop, gName, tVar, tC, tOp, tUn, tCall, tCB, tCons, tNil, tTest, tB, tNot, tAnd, tOr, tAndV, tOrV, tNotV, tIf, tChain, tLst, tTup, tBM, tBM0, rI, rI0, rU, rEq, rNe, scal, tComp, iStr, iList, iTup, iRng1, iRng2, tYes, rIsP, rAll, rLenS, rLenV, rListOf, rTupleOf, tDisp, tPairs, tSl, tPart, tNoPart, rSlS, rSlL, rFind, rStarts, rIntT, rStrA, rRepS, tCallX, tRaise, tRaiseI, tDispT, tSortT, tTry, tAs, offE, tXF, sXset, tMethX, tMakeX, rIsX, tFld, sFld, tMeth, rSortD, rDPop, tDNewK, tDIn, tDNotIn, tDGet, sDPut, rIndexS, tStop, gSub, tRev, tBest, rGtA, 
  List.map_cons, List.map_nil, List.cons_append, List.nil_append, List.length_cons, List.length_nil, List.getElem?_cons_zero, List.getElem?_cons_succ, Option.some.injEq, exists_eq_left', exists_eq_left, List.set_cons_zero, List.set_cons_succ, List.cons.injEq, and_true, true_and, V.int.injEq, V.str.injEq, V.bl.injEq, V.ref.injEq, V.ty.injEq, exists_and_left, exists_and_right, List.append_nil, reduceCtorEq, false_and, and_false, exists_false, or_false, false_or, decide_true, decide_false, Bool.not_true, Bool.not_false, if_true, if_false, Bool.false_eq_true, ite_true, ite_false, and_assoc, Nat.reduceAdd, Nat.reduceSub, List.replicate_succ, List.replicate_zero, Nat.zero_add, Nat.add_zero, Nat.sub_self])
      rw [Int.zero_add]
      refine ⟨pn, _, _, _, rfl, rfl, .of (t1 _ _ hpn), atI_nat (by rw [List.getElem?_map, hn]; rfl), small_line (by decide), fun p hp => ?_⟩
      have u := Same.upd_new hp (HO.lst [V.str (Str.ofString "word"), V.str (Str.ofString "number")])
      have gp : upd H2 p (HO.lst [V.str (Str.ofString "word"), V.str (Str.ofString "number")]) p = some (.lst [V.str (Str.ofString "word"), V.str (Str.ofString "number")]) := upd_same
      generalize upd H2 p (HO.lst [V.str (Str.ofString "word"), V.str (Str.ofString "number")]) = H3 at *
      refine ⟨by decide, ixL_of (.of gp) (Int.emod_nonneg _ (by decide)) (Int.emod_lt_of_pos _ (by decide)) fun kv hkv => ⟨small_line (by decide), fun r hr => ?_⟩⟩
      obtain ⟨kd, rfl, hk2⟩ : ∃ kd : Str, kv = .str kd ∧ (kd = wordS ∨ kd = numS) := by
        have h2 : mixI sd ((j : Int) + 30) % 2 = 0 ∨ mixI sd ((j : Int) + 30) % 2 = 1 := by omega
        rcases h2 with h | h
        · rw [h] at hkv
          obtain rfl : V.str (Str.ofString "word") = kv := by simpa using hkv
          exact ⟨_, rfl, .inl rfl⟩
        · rw [h] at hkv
          obtain rfl : V.str (Str.ofString "number") = kv := by simpa using hkv
          exact ⟨_, rfl, .inr rfl⟩
      have u3 := Same.upd_new hr (HO.tup [V.str n, V.str kd])
      refine ⟨⟨_, rfl⟩, (t1.trans u).trans u3, by simp [t2], kds ++ [kd], by simp [t3], fun kd' hk' => ?_, fun i x n' kd' hx' hn' hk' => ?_⟩
      · rcases List.mem_append.mp hk' with h | h
        · exact t4 kd' h
        · rw [List.mem_singleton.mp h]
          exact hk2
      · by_cases hi : i < ys.length
        · rw [List.getElem?_append_left hi] at hx'
          rw [List.getElem?_append_left (by omega)] at hk'
          obtain ⟨p', e1, e2⟩ := t5 i x n' kd' hx' hn' hk'
          exact ⟨p', e1, (u.trans u3) _ _ e2⟩
        · have hil := (List.getElem?_eq_some_iff.mp hx').1
          rw [List.length_append, List.length_singleton] at hil
          obtain rfl : i = ys.length := by omega
          rw [List.getElem?_append_right (Nat.le_refl _), Nat.sub_self] at hx'
          obtain rfl : V.ref r = x := by simpa using hx'
          rw [t2, hn] at hn'
          cases hn'
          rw [List.getElem?_append_right (by omega), t2, t3, Nat.sub_self] at hk'
          obtain rfl : kd = kd' := by simpa using hk'
          exact ⟨r, rfl, upd_same⟩
    · obtain ⟨t1, t2, kds, t3, hkk, t5⟩ := q
      rw [rangeV_len] at t2 t3
      have u3 := Same.upd_new hD (HO.lst ys)
      have gD : upd H2 D (HO.lst ys) D = some (.lst ys) := upd_same
      have hF : FldsK (upd H2 D (HO.lst ys)) ys zs kds := FldsK.mono u3 ⟨hz.1.trans t2.symm, t3.trans t2.symm, hz.2.1 rfl, t5⟩
      have s3 := (s1.trans t1).trans u3
      have hpn3 := (t1.trans u3) _ _ hpn
      generalize upd H2 D (HO.lst ys) = H3 at *
      refine ⟨_, _, rfl, _, 4, al36, rfl, by omega, by decide, by decide, fun H4 pw wz s4 hpw hwz => ⟨sd, rfl, ⟨by decide, by decide⟩, by decide, ?_⟩⟩
      have hnms : ∀ n ∈ zs, NmOk 12 n := fun n hn => ⟨(hz.2.2 n hn).2.1, fun c hc => ltr_lt c ((hz.2.2 n hn).2.2 c hc)⟩
      by_cases c : sd / 8 % 3 = 1
      · rw [if_pos (decide_eq_true c)]
        refine ⟨pn, rfl, _, .of (s4 _ _ hpn3), fun pa hpa => ?_⟩
        have v1 := Same.upd_new hpa (HO.lst (cutV (zs.map V.str) none (some 3)))
        have gpa : upd H4 pa (HO.lst (cutV (zs.map V.str) none (some 3))) pa = some (.lst (cutV (zs.map V.str) none (some 3))) := upd_same
        generalize upd H4 pa (HO.lst (cutV (zs.map V.str) none (some 3))) = H4a at *
        refine ⟨pw, rfl, _, .of (v1 _ _ hpw), fun pc hpc => ?_⟩
        have v2 := Same.upd_new hpc (HO.lst (cutV (wz.map V.str) none (some 1)))
        have gpc : upd H4a pc (HO.lst (cutV (wz.map V.str) none (some 1))) pc = some (.lst (cutV (wz.map V.str) none (some 1))) := upd_same
        generalize upd H4a pc (HO.lst (cutV (wz.map V.str) none (some 1))) = H4b at *
        have ew : cutV (zs.map V.str) none (some 3) ++ cutV (wz.map V.str) none (some 1) = (zs.take 3 ++ wz.take 1).map V.str := by
          rw [show cutV (zs.map V.str) none (some 3) = (zs.map V.str).take 3 from cut_to _ 3, show cutV (wz.map V.str) none (some 1) = (wz.map V.str).take 1 from cut_to _ 1, List.map_append, List.map_take, List.map_take]
        have hwl := hwz.1
        have hzl := hz.1
        have elen : (zs.take 3 ++ wz.take 1).length = min 3 m + 1 := by
          rw [List.length_append, List.length_take, List.length_take, hwl, hzl]
          omega
        have esum : (cutV (zs.map V.str) none (some 3)).length + (cutV (wz.map V.str) none (some 1)).length = (zs.take 3 ++ wz.take 1).length := by
          rw [← List.length_append, ew, List.length_map]
        refine ⟨pa, pc, _, _, rfl, rfl, v2 _ _ gpa, gpc, by rw [esum, elen]; exact small_line (by omega), fun pe hpe => ?_⟩
        rw [ew]
        have v3 := Same.upd_new hpe (HO.lst ((zs.take 3 ++ wz.take 1).map V.str))
        have gpe : upd H4b pe (HO.lst ((zs.take 3 ++ wz.take 1).map V.str)) pe = some (.lst ((zs.take 3 ++ wz.take 1).map V.str)) := upd_same
        generalize upd H4b pe (HO.lst ((zs.take 3 ++ wz.take 1).map V.str)) = H5 at *
        have hwl12 : ∀ z ∈ zs.take 3 ++ wz.take 1, NmOk 12 z := fun z hzm => by
          rcases List.mem_append.mp hzm with h | h
          · exact ⟨(hz.2.2 z (List.mem_of_mem_take h)).2.1, fun c hc => ltr_lt c ((hz.2.2 z (List.mem_of_mem_take h)).2.2 c hc)⟩
          · exact ⟨(hwz.2.2 z (List.mem_of_mem_take h)).2.1, fun c hc => al_lt c ((hwz.2.2 z (List.mem_of_mem_take h)).2.2 c hc)⟩
        have sD5 := ((s4.trans v1).trans v2).trans v3
        have s5 := s3.trans sD5
        refine ⟨⟨by decide, by decide, by decide⟩, .inl ⟨by decide +kernel, by decide +kernel⟩, ⟨by decide, by decide, by decide⟩, .inl ⟨by decide +kernel, by decide +kernel⟩, small_line (by decide), fun pb hpb => ⟨sd, rfl, ⟨by decide, by decide⟩, by decide, ?_⟩⟩
        have u6 := Same.upd_new hpb (HO.lst [V.int 0, V.int (9 * 10 ^ Int.toNat 59), V.int (0 - 9 * 10 ^ Int.toNat 59), V.int 98])
        have g6 : upd H5 pb (HO.lst [V.int 0, V.int (9 * 10 ^ Int.toNat 59), V.int (0 - 9 * 10 ^ Int.toNat 59), V.int 98]) pb = some (.lst [V.int 0, V.int (9 * 10 ^ Int.toNat 59), V.int (0 - 9 * 10 ^ Int.toNat 59), V.int 98]) := upd_same
        generalize upd H5 pb (HO.lst [V.int 0, V.int (9 * 10 ^ Int.toNat 59), V.int (0 - 9 * 10 ^ Int.toNat 59), V.int 98]) = H6 at *
        refine ixL_of (.of g6) (Int.emod_nonneg _ (by decide)) (Int.emod_lt_of_pos _ (by decide)) fun bv hbv pd hpd => ⟨upd_same, [(.inr "fields", .ref D), (.inr "words", .ref pe), (.inr "base", bv)], rfl, (by show 3 ≤ 15; decide), ?_⟩
        obtain ⟨b, rfl⟩ : ∃ b, bv = .int b := by
          rcases (by omega : sd / 24 % 4 = 0 ∨ sd / 24 % 4 = 1 ∨ sd / 24 % 4 = 2 ∨ sd / 24 % 4 = 3) with h | h | h | h <;> rw [h] at hbv <;> exact ⟨_, (Option.some.inj hbv).symm⟩
        rw [upd_upd]
        have u7 := Same.upd_new hpd (HO.dK (mergeK [] [(.inr "fields", .ref D), (.inr "words", .ref pe), (.inr "base", .int b)]))
        exact k _ pd zs kds ((s5.trans u6).trans u7) ⟨_, D, pe, b, ys, (zs.take 3 ++ wz.take 1), upd_same, rfl, rfl, rfl, (sD5.trans (u6.trans u7)) _ _ gD, FldsK.mono (sD5.trans (u6.trans u7)) hF, hkk, by omega, by omega, (u6.trans u7) _ _ gpe, by omega, by omega, hnms, hwl12⟩
      · rw [if_neg (by simpa using c)]
        have hwl := hwz.1
        have s5 := s3.trans s4
        have hwl12 : ∀ z ∈ wz, NmOk 12 z := fun z hzm => ⟨(hwz.2.2 z hzm).2.1, fun c hc => al_lt c ((hwz.2.2 z hzm).2.2 c hc)⟩
        refine ⟨⟨by decide, by decide, by decide⟩, .inl ⟨by decide +kernel, by decide +kernel⟩, ⟨by decide, by decide, by decide⟩, .inl ⟨by decide +kernel, by decide +kernel⟩, small_line (by decide), fun pb hpb => ⟨sd, rfl, ⟨by decide, by decide⟩, by decide, ?_⟩⟩
        have u6 := Same.upd_new hpb (HO.lst [V.int 0, V.int (9 * 10 ^ Int.toNat 59), V.int (0 - 9 * 10 ^ Int.toNat 59), V.int 98])
        have g6 : upd H4 pb (HO.lst [V.int 0, V.int (9 * 10 ^ Int.toNat 59), V.int (0 - 9 * 10 ^ Int.toNat 59), V.int 98]) pb = some (.lst [V.int 0, V.int (9 * 10 ^ Int.toNat 59), V.int (0 - 9 * 10 ^ Int.toNat 59), V.int 98]) := upd_same
        generalize upd H4 pb (HO.lst [V.int 0, V.int (9 * 10 ^ Int.toNat 59), V.int (0 - 9 * 10 ^ Int.toNat 59), V.int 98]) = H6 at *
        refine ixL_of (.of g6) (Int.emod_nonneg _ (by decide)) (Int.emod_lt_of_pos _ (by decide)) fun bv hbv pd hpd => ⟨upd_same, [(.inr "fields", .ref D), (.inr "words", .ref pw), (.inr "base", bv)], rfl, (by show 3 ≤ 15; decide), ?_⟩
        obtain ⟨b, rfl⟩ : ∃ b, bv = .int b := by
          rcases (by omega : sd / 24 % 4 = 0 ∨ sd / 24 % 4 = 1 ∨ sd / 24 % 4 = 2 ∨ sd / 24 % 4 = 3) with h | h | h | h <;> rw [h] at hbv <;> exact ⟨_, (Option.some.inj hbv).symm⟩
        rw [upd_upd]
        have u7 := Same.upd_new hpd (HO.dK (mergeK [] [(.inr "fields", .ref D), (.inr "words", .ref pw), (.inr "base", .int b)]))
        exact k _ pd zs kds ((s5.trans u6).trans u7) ⟨_, D, pw, b, ys, wz, upd_same, rfl, rfl, rfl, (s4.trans (u6.trans u7)) _ _ gD, FldsK.mono (s4.trans (u6.trans u7)) hF, hkk, by omega, by omega, (u6.trans u7) _ _ hpw, by omega, by omega, hnms, hwl12⟩
noncomputable def sp_l_sure_value (K : PySem.W.Frag) : Sp := fun vs H Q _ => ∃ (sd : Int) (kd : Str) (d : Addr) (ns kds : List Str), vs = [.int sd, .str kd, .ref d] ∧ Wd H d ns kds ∧ (kd = wordS ∨ kd = numS) ∧ ∀ v, OfKd kd v → Q v H
theorem ok_l_sure_value (T : Txt K mg f fd) : FnOk P w K mg base CX0 1 (f 16) (fd 16) ["_law_seed", "_law_kind", "_law_world_here"] (sp_l_sure_value K) := by
  refine T.d_l_sure_value.F.ok sc_l_sure_value (fun vs H Q E h => ?_) (fun cdv A outer s H vs Q E hr h => ?_)
  · obtain ⟨sd, kd, d, ns, kds, rfl, _⟩ := h
    rfl
  · obtain ⟨sd, kd, d, ns, kds, rfl, ⟨kvs, l, w', b, xs, ws, h1, h2, h3, h4, h5, h6, h7, h8, h9, h10, h11, h12, h13, h14⟩, hk, k⟩ := h
    refine ⟨_, (pss_cons (ps_if (pt_cmpR op_eq (pvl 1) pe_str (nomark _))
     (pss_one (ps_ret (pe_ix (k_ixL rfl) (pe_dget (hu_of hr) (pvl 2) pe_str (fun _ _ => rfl)) (pe_op op_mod (pvl 0) (pe_cB (k_len rfl) T.n_len bt_len rfl (by decide) (by decide) rfl (pal rfl (pe_dget (hu_of hr) (pvl 2) pe_str (fun _ _ => rfl)) pa_nil))) (fun _ _ => rfl))))
     pss_nil)
     (pss_one (ps_ret (pe_op op_sub (pe_op op_add (pe_dget (hu_of hr) (pvl 2) pe_str (fun _ _ => rfl)) (pe_op op_mod (pvl 0) pe_int)) pe_int)))), ?_⟩
    ((try dsimp only [cxOf, L2.Cx.inTry, L2.Cx.inHand]); simp only [L2.start, tSeq, tNext, tIfS, tRet, tRetN, tAsg, tDrop, gName, tVar, tC, tOp, tUn, tCall, tCB, tCons, tNil, tTest, tB, tNot, tAnd, tOr, tAndV, tOrV, tNotV, tIf, tChain, tLst, tTup, tBM, tBM0, rI, rI0, rU, rEq, rNe, scal, tComp, iStr, iList, iTup, iRng1, iRng2, tYes, rIsP, rAll, rLenS, rLenV, rListOf, rTupleOf, tDisp, tPairs, tSl, tPart, tNoPart, rSlS, rSlL, rFind, rStarts, rIntT, rStrA, rRepS, tCallX, tRaise, tRaiseI, tDispT, tSortT, tTry, tAs, offE, tXF, sXset, tMethX, tMakeX, rIsX, tFld, sFld, tMeth, rSortD, rDPop, tDNewK, tDIn, tDNotIn, tDGet, sDPut, rIndexS, tStop, gSub, tRev, tBest, rGtA, 
  List.map_cons, List.map_nil, List.cons_append, List.nil_append, List.length_cons, List.length_nil, List.getElem?_cons_zero, List.getElem?_cons_succ, Option.some.injEq, exists_eq_left', exists_eq_left, List.set_cons_zero, List.set_cons_succ, List.cons.injEq, and_true, true_and, V.int.injEq, V.str.injEq, V.bl.injEq, V.ref.injEq, V.ty.injEq, exists_and_left, exists_and_right, List.append_nil, reduceCtorEq, false_and, and_false, exists_false, or_false, false_or, decide_true, decide_false, Bool.not_true, Bool.not_false, if_true, if_false, Bool.false_eq_true, ite_true, ite_false, and_assoc, Nat.reduceAdd, Nat.reduceSub, List.replicate_succ, List.replicate_zero, Nat.zero_add, Nat.add_zero, Nat.sub_self])
    by_cases hw : kd = wordS
    · rw [if_pos (decide_eq_true hw)]
      refine ⟨_, wget h1 h3, _, wget h1 h3, w', rfl, _, .inl (.of h10), by rw [List.length_map]; omega, ixL_of (.of h10) (Int.emod_nonneg _ (by rw [List.length_map]; omega)) (Int.emod_lt_of_pos _ (by rw [List.length_map]; omega)) fun v hv => k v ?_⟩
      rw [List.getElem?_map] at hv
      obtain ⟨z, hz, rfl⟩ := Option.map_eq_some_iff.mp hv
      exact .inl ⟨hw, z, rfl, h14 z (List.mem_of_getElem? hz)⟩
    · rw [if_neg (by simpa using hw)]
      exact ⟨_, wget h1 h4, by decide, b, rfl, k _ (.inr ⟨hk.resolve_left hw, _, rfl⟩)⟩
noncomputable def sp_l_value (K : PySem.W.Frag) : Sp := fun vs H Q _ => ∃ (sd : Int) (kd : Str) (d : Addr) (ns kds : List Str), vs = [.int sd, .str kd, .ref d] ∧ Wd H d ns kds ∧ (kd = wordS ∨ kd = numS) ∧ ∀ v, (v = .non ∨ OfKd kd v) → Q v H
theorem ok_l_value (T : Txt K mg f fd) : FnOk P w K mg base CX0 2 (f 17) (fd 17) ["_law_seed", "_law_kind", "_law_world_here"] (sp_l_value K) := by
  refine T.d_l_value.F.ok sc_l_value (fun vs H Q E h => ?_) (fun cdv A outer s H vs Q E hr h => ?_)
  · obtain ⟨sd, kd, d, ns, kds, rfl, _⟩ := h
    rfl
  · obtain ⟨sd, kd, d, ns, kds, rfl, hW, hk, k⟩ := h
    refine ⟨_, (pss_cons (ps_if (pt_cmpR op_eq (pe_op op_mod (pvl 0) pe_int) pe_int (nomark _))
     (pss_one (ps_ret pe_non))
     pss_nil)
     (pss_one (ps_ret (pe_defL T.d_l_sure_value (ok_l_sure_value T) (hr.mono (by decide)) rfl (by decide) rfl (pal rfl (pe_op op_fdiv (pvl 0) pe_int) (pal rfl (pvl 1) (pal rfl (pvl 2) pa_nil))))))), ?_⟩
    ((try dsimp only [cxOf, L2.Cx.inTry, L2.Cx.inHand]); simp only [L2.start, tSeq, tNext, tIfS, tRet, tRetN, tAsg, tDrop, gName, tVar, tC, tOp, tUn, tCall, tCB, tCons, tNil, tTest, tB, tNot, tAnd, tOr, tAndV, tOrV, tNotV, tIf, tChain, tLst, tTup, tBM, tBM0, rI, rI0, rU, rEq, rNe, scal, tComp, iStr, iList, iTup, iRng1, iRng2, tYes, rIsP, rAll, rLenS, rLenV, rListOf, rTupleOf, tDisp, tPairs, tSl, tPart, tNoPart, rSlS, rSlL, rFind, rStarts, rIntT, rStrA, rRepS, tCallX, tRaise, tRaiseI, tDispT, tSortT, tTry, tAs, offE, tXF, sXset, tMethX, tMakeX, rIsX, tFld, sFld, tMeth, rSortD, rDPop, tDNewK, tDIn, tDNotIn, tDGet, sDPut, rIndexS, tStop, gSub, tRev, tBest, rGtA, 
  List.map_cons, List.map_nil, List.cons_append, List.nil_append, List.length_cons, List.length_nil, List.getElem?_cons_zero, List.getElem?_cons_succ, Option.some.injEq, exists_eq_left', exists_eq_left, List.set_cons_zero, List.set_cons_succ, List.cons.injEq, and_true, true_and, V.int.injEq, V.str.injEq, V.bl.injEq, V.ref.injEq, V.ty.injEq, exists_and_left, exists_and_right, List.append_nil, reduceCtorEq, false_and, and_false, exists_false, or_false, false_or, decide_true, decide_false, Bool.not_true, Bool.not_false, if_true, if_false, Bool.false_eq_true, ite_true, ite_false, and_assoc, Nat.reduceAdd, Nat.reduceSub, List.replicate_succ, List.replicate_zero, Nat.zero_add, Nat.add_zero, Nat.sub_self])
    repeat (refine And.intro (by first | decide | omega | exact Or.inl ⟨by omega, by omega⟩ | exact Or.inr ⟨by omega, by omega⟩ | exact ⟨by omega, by omega⟩ | exact ⟨by decide, by decide, by decide⟩) ?_)
    by_cases h6 : sd % 6 = 0
    · rw [if_pos (decide_eq_true h6)]
      exact k _ (.inl rfl)
    · rw [if_neg (by simpa using h6)]
      exact ⟨⟨by decide, by decide⟩, _, kd, d, ns, kds, rfl, hW, hk, fun v hv => k v (.inr hv)⟩
noncomputable def sp_l_row (K : PySem.W.Frag) : Sp := fun vs H Q _ => ∃ (sd : Int) (d : Addr) (ns kds : List Str), vs = [.int sd, .ref d] ∧ Wd H d ns kds ∧ ∀ H' a rs, Same H H' → H' a = some (.tup rs) → RowOk kds rs → Q (.ref a) H'
theorem ok_l_row (T : Txt K mg f fd) : FnOk P w K mg base CX0 3 (f 18) (fd 18) ["_law_seed", "_law_world_here"] (sp_l_row K) := by
  refine T.d_l_row.F.ok sc_l_row (fun vs H Q E h => ?_) (fun cdv A outer s H vs Q E hr h => ?_)
  · obtain ⟨sd, d, ns, kds, rfl, _⟩ := h
    rfl
  · obtain ⟨sd, d, ns, kds, rfl, hW, k⟩ := h
    obtain ⟨kvs, l, w', b, xs, ws, h1, h2, h3, h4, h5, h6, h7, h8, h9, h10, h11, h12, h13, h14⟩ := id hW
    refine ⟨_, (pss_cons (psc 2 sc_l_row.nd (pe_dget (hu_of hr) (pvc 1) pe_str (fun _ _ => rfl)))
     (pss_one (ps_ret (pe_cTy (k_tuple rfl) T.n_tuple bt_tuple rfl (by decide) (by decide) rfl (pal rfl (pe_comp ["_law_k"] ["_law_seed", "_law_world_here", "_law_fields"] rfl (show CompSc _ (defScope s_l_row) ["_law_seed", "_law_world_here", "_law_fields"] ["_law_seed", "_law_world_here", "_law_fields"] from compOk_is (by decide +kernel)) (pi_range1 rfl T.n_range (pal rfl (pe_cB (k_len rfl) T.n_len bt_len rfl (by decide) (by decide) rfl (pal rfl (pvc 2) pa_nil)) pa_nil)) (fun _ _ _ _ _ => (pgl 0 (show (["_law_k", "_law_seed", "_law_world_here", "_law_fields"] : List Str).Nodup by decide +kernel))) (fun _ _ _ _ _ => pts_nil) (fun _ _ _ _ _ => (pe_defL T.d_l_value (ok_l_value T) (hr.mono (by decide)) rfl (by decide) rfl (pal rfl (pe_defL T.d_l_mix (ok_l_mix T) (hr.mono (by decide)) rfl (by decide) rfl (pal rfl (pvc 1) (pal rfl (pe_op op_add (pvl 0) pe_int) pa_nil))) (pal rfl (pe_ix (k_ixT rfl) (pe_ix (k_ixL rfl) (pvc 3) (pvl 0) (fun _ _ => rfl)) pe_int (fun _ _ => rfl)) (pal rfl (pvc 2) pa_nil)))))) pa_nil))))), ?_⟩
    ((try dsimp only [cxOf, L2.Cx.inTry, L2.Cx.inHand]); simp only [L2.start, tSeq, tNext, tIfS, tRet, tRetN, tAsg, tDrop, gName, tVar, tC, tOp, tUn, tCall, tCB, tCons, tNil, tTest, tB, tNot, tAnd, tOr, tAndV, tOrV, tNotV, tIf, tChain, tLst, tTup, tBM, tBM0, rI, rI0, rU, rEq, rNe, scal, tComp, iStr, iList, iTup, iRng1, iRng2, tYes, rIsP, rAll, rLenS, rLenV, rListOf, rTupleOf, tDisp, tPairs, tSl, tPart, tNoPart, rSlS, rSlL, rFind, rStarts, rIntT, rStrA, rRepS, tCallX, tRaise, tRaiseI, tDispT, tSortT, tTry, tAs, offE, tXF, sXset, tMethX, tMakeX, rIsX, tFld, sFld, tMeth, rSortD, rDPop, tDNewK, tDIn, tDNotIn, tDGet, sDPut, rIndexS, tStop, gSub, tRev, tBest, rGtA, 
  List.map_cons, List.map_nil, List.cons_append, List.nil_append, List.length_cons, List.length_nil, List.getElem?_cons_zero, List.getElem?_cons_succ, Option.some.injEq, exists_eq_left', exists_eq_left, List.set_cons_zero, List.set_cons_succ, List.cons.injEq, and_true, true_and, V.int.injEq, V.str.injEq, V.bl.injEq, V.ref.injEq, V.ty.injEq, exists_and_left, exists_and_right, List.append_nil, reduceCtorEq, false_and, and_false, exists_false, or_false, false_or, decide_true, decide_false, Bool.not_true, Bool.not_false, if_true, if_false, Bool.false_eq_true, ite_true, ite_false, and_assoc, Nat.reduceAdd, Nat.reduceSub, List.replicate_succ, List.replicate_zero, Nat.zero_add, Nat.add_zero, Nat.sub_self])
    refine ⟨_, wget h1 h2, l, rfl, xs, .inl (.of h5), by omega, by omega, ?_⟩
    rw [Int.toNat_natCast]
    refine comp_walk walk_range (by rw [rangeV_len]; exact small_line (by omega)) (fun j ys H' => H' = H ∧ ys.length = j ∧ ∀ (i : Nat) x kd, ys[i]? = some x → kds[i]? = some kd → x = .non ∨ OfKd kd x) ⟨rfl, rfl, fun _ _ _ h => by simp at h⟩ (fun _ _ _ _ _ => trivial) (fun j ys H' q => Nat.le_of_eq q.2.1) (fun j x ys H2 hx q => ?_) (fun ys H2 q D hD => ?_)
    · obtain ⟨hj, rfl⟩ := range_item hx
      obtain ⟨rfl, t2, t3⟩ := q
      obtain ⟨p, n, kd, e1, e2, e3, e4⟩ := h6.at hj
      ((try dsimp only [cxOf, L2.Cx.inTry, L2.Cx.inHand]); simp only [L2.start, tSeq, tNext, tIfS, tRet, tRetN, tAsg, tDrop, gName, tVar, tC, tOp, tUn, tCall, tCB, tCons, tNil, tTest, tB, tNot, tAnd, tOr, tAndV, tOrV, tNotV, tIf, tChain, tLst, tTup, tBM, tBM0, rI, rI0, rU, rEq, rNe, scal, tComp, iStr, iList, iTup, iRng1, iRng2, tYes, rIsP, rAll, rLenS, rLenV, rListOf, rTupleOf, tDisp, tPairs, tSl, tPart, tNoPart, rSlS, rSlL, rFind, rStarts, rIntT, rStrA, rRepS, tCallX, tRaise, tRaiseI, tDispT, tSortT, tTry, tAs, offE, tXF, sXset, tMethX, tMakeX, rIsX, tFld, sFld, tMeth, rSortD, rDPop, tDNewK, tDIn, tDNotIn, tDGet, sDPut, rIndexS, tStop, gSub, tRev, tBest, rGtA, 
  List.map_cons, List.map_nil, List.cons_append, List.nil_append, List.length_cons, List.length_nil, List.getElem?_cons_zero, List.getElem?_cons_succ, Option.some.injEq, exists_eq_left', exists_eq_left, List.set_cons_zero, List.set_cons_succ, List.cons.injEq, and_true, true_and, V.int.injEq, V.str.injEq, V.bl.injEq, V.ref.injEq, V.ty.injEq, exists_and_left, exists_and_right, List.append_nil, reduceCtorEq, false_and, and_false, exists_false, or_false, false_or, decide_true, decide_false, Bool.not_true, Bool.not_false, if_true, if_false, Bool.false_eq_true, ite_true, ite_false, and_assoc, Nat.reduceAdd, Nat.reduceSub, List.replicate_succ, List.replicate_zero, Nat.zero_add, Nat.add_zero, Nat.sub_self])
      rw [Int.zero_add]
      refine ⟨l, xs, _, _, rfl, rfl, .of h5, atI_nat e1, p, _, _, _, rfl, rfl, .of e4, atI_nat (j := 1) rfl, _, rfl, ⟨ns, kds, hW⟩, h7 kd (List.mem_of_getElem? e3), fun v hv => ⟨⟨_, rfl⟩, rfl, by simp [t2], fun i x kd' hx' hk' => ?_⟩⟩
      by_cases hi : i < ys.length
      · rw [List.getElem?_append_left hi] at hx'
        exact t3 i x kd' hx' hk'
      · have hil := (List.getElem?_eq_some_iff.mp hx').1
        rw [List.length_append, List.length_singleton] at hil
        obtain rfl : i = ys.length := by omega
        rw [List.getElem?_append_right (Nat.le_refl _), Nat.sub_self] at hx'
        obtain rfl : v = x := by simpa using hx'
        rw [t2, e3] at hk'
        cases hk'
        exact hv
    · obtain ⟨rfl, t2, t3⟩ := q
      rw [rangeV_len] at t2
      exact ⟨ys, .inl ⟨.of upd_same, fun r hr => k _ r ys ((Same.upd_new hD _).new hr _) upd_same ⟨by rw [t2, h6.2.1], t3⟩⟩⟩
noncomputable def toN : V → NKey
  | .int i => some (.inl i)
  | .str z => some (.inr z)
  | _ => none
noncomputable def TyN (t : Str) (k : NKey) : Prop := k = none ∨ (t = wordS ∧ ∃ z, k = some (.inr z) ∧ NmOk 12 z) ∨ (t = numS ∧ ∃ i, k = some (.inl i))
theorem toN_nV {t : Str} {v : V} (h : v = .non ∨ OfKd t v) : nV (toN v) = v ∧ TyN t (toN v) := by
  rcases h with rfl | ⟨e, z, rfl, hz⟩ | ⟨e, i, rfl⟩
  · exact ⟨rfl, .inl rfl⟩
  · exact ⟨rfl, .inr (.inl ⟨e, z, rfl, hz⟩)⟩
  · exact ⟨rfl, .inr (.inr ⟨e, i, rfl⟩)⟩
noncomputable def TyL : List Str → List NKey → Prop
  | _, [] => True
  | [], _ :: _ => False
  | t :: ts, k :: ks => TyN t k ∧ TyL ts ks
theorem TyN.ok {t : Str} {k : NKey} (h : TyN t k) : okN k := by
  rcases h with rfl | ⟨_, z, rfl, hz⟩ | ⟨_, i, rfl⟩
  · trivial
  · exact strOk_of hz.2
  · trivial
theorem TyN.like {t : Str} {a b : NKey} (h : TyN t a) (h' : TyN t b) : likeN a b = true := by
  rcases h with rfl | ⟨e, z, rfl, hz⟩ | ⟨e, i, rfl⟩
  · cases b <;> rfl
  · rcases h' with rfl | ⟨_, z', rfl, _⟩ | ⟨e', j, rfl⟩
    · rfl
    · rfl
    · rw [e] at e'; exact absurd e' (by decide)
  · rcases h' with rfl | ⟨e', z', rfl, _⟩ | ⟨_, j, rfl⟩
    · rfl
    · rw [e] at e'; exact absurd e' (by decide)
    · rfl
theorem TyL.ok : ∀ {ts : List Str} {ks : List NKey}, TyL ts ks → ∀ k ∈ ks, okN k
  | _, [], _, k, hk => nomatch hk
  | [], _ :: _, h, _, _ => False.elim h
  | t :: ts, k :: ks, h, x, hx => by
    rcases List.mem_cons.mp hx with rfl | hx
    · exact h.1.ok
    · exact TyL.ok h.2 x hx
theorem TyL.like : ∀ {ts : List Str} {as bs : List NKey}, TyL ts as → TyL ts bs → likeL as bs = true
  | _, [], [], _, _ => rfl
  | _, [], _ :: _, _, _ => rfl
  | _, _ :: _, [], _, _ => rfl
  | [], _ :: _, _ :: _, h, _ => False.elim h
  | t :: ts, a :: as, b :: bs, h, h' => by
    rw [likeL, h.1.like h'.1, Bool.true_and]
    split
    · exact TyL.like h.2 h'.2
    · rfl
theorem TyL.take : ∀ {ts : List Str} {ks : List NKey} (n : Nat), TyL ts ks → TyL ts (ks.take n)
  | _, [], n, _ => by rw [List.take_nil]; cases ‹List Str› <;> trivial
  | [], _ :: _, _, h => False.elim h
  | t :: ts, k :: ks, 0, _ => trivial
  | t :: ts, k :: ks, n + 1, h => ⟨h.1, TyL.take n h.2⟩
noncomputable def pj (is : List Nat) (rs : List V) : List NKey := is.map fun i => toN (rs.getD i .non)
theorem pj_ty {kds : List Str} {rs : List V} (h : RowOk kds rs) : ∀ {is : List Nat}, (∀ i ∈ is, i < kds.length) → TyL (is.map fun i => kds.getD i wordS) (pj is rs) ∧ (pj is rs).map nV = is.map fun i => rs.getD i .non
  | [], _ => ⟨trivial, rfl⟩
  | i :: is, hi => by
    obtain ⟨h1, h2⟩ := pj_ty h (is := is) fun j hj => hi j (List.mem_cons_of_mem _ hj)
    have hil := hi i List.mem_cons_self
    have hir : i < rs.length := by rw [h.1]; exact hil
    have e1 : rs.getD i .non = rs[i] := by rw [List.getD_eq_getElem?_getD, List.getElem?_eq_getElem hir]; rfl
    have e2 : kds.getD i wordS = kds[i] := by rw [List.getD_eq_getElem?_getD, List.getElem?_eq_getElem hil]; rfl
    obtain ⟨q1, q2⟩ := toN_nV (h.2 i rs[i] kds[i] (List.getElem?_eq_getElem hir) (List.getElem?_eq_getElem hil))
    refine ⟨⟨?_, h1⟩, ?_⟩
    · dsimp only; rw [e1, e2]; exact q2
    · rw [List.map_cons, ← h2]
      show nV (toN (rs.getD i .non)) :: (pj is rs).map nV = _
      rw [e1, q1]
noncomputable def hasN (a : List (List NKey)) (k : List NKey) : Bool := a.any fun x => decide (x = k)
theorem hasN_iff {a : List (List NKey)} {k : List NKey} : hasN a k = true ↔ k ∈ a := by
  unfold hasN
  rw [List.any_eq_true]
  exact ⟨fun ⟨x, hx, e⟩ => of_decide_eq_true e ▸ hx, fun h => ⟨k, h, decide_eq_true rfl⟩⟩
noncomputable def addN (a : List (List NKey)) (k : List NKey) : List (List NKey) := if hasN a k = true then a else a ++ [k]
theorem addN_mem {a : List (List NKey)} {k x : List NKey} : x ∈ addN a k ↔ x ∈ a ∨ x = k := by
  unfold addN
  by_cases h : hasN a k = true
  · rw [if_pos h]; exact ⟨.inl, fun z => z.elim id fun e => by rw [e]; exact hasN_iff.mp h⟩
  · rw [if_neg h, List.mem_append, List.mem_singleton]
theorem putK_keys (kvs : List (List NKey × V)) (k : List NKey) (v : V) : (putK kvs k v).map (·.1) = addN (kvs.map (·.1)) k := by
  have e0 : hasN (kvs.map (·.1)) k = kvs.any fun kv => decide (kv.1 = k) := by
    unfold hasN; rw [List.any_map]; rfl
  unfold addN
  rw [e0]
  cases e : valV kvs k with
  | none =>
    have : (kvs.any fun kv => decide (kv.1 = k)) = false := by rw [valV_any, e]; rfl
    rw [this, if_neg (by simp), putK_new v e, List.map_append]; rfl
  | some u =>
    have : (kvs.any fun kv => decide (kv.1 = k)) = true := by rw [valV_any, e]; rfl
    rw [this, if_pos rfl]
    unfold putK
    rw [if_pos this, List.map_map]
    apply List.map_congr_left
    intro p _
    simp only [Function.comp]
    first | rfl | (split <;> simp_all)
noncomputable def addRow (is : List Nat) (a : List (List NKey)) (rs : List V) : List (List NKey) := (List.range (is.length + 1)).foldl (fun a m => addN a ((pj is rs).take m)) a
noncomputable def begs (is : List Nat) (rss : List (List V)) : List (List NKey) := rss.foldl (addRow is) [[]]
noncomputable def sp_order_key (K : PySem.W.Frag) : Sp := fun vs H Q _ => ∃ k : NKey, vs = [nV k] ∧ ∀ p, H p = none → Q (.ref p) (upd H p (.tup (prV k)))
theorem ok_order_key (T : Txt K mg f fd) : FnOk P w K mg base CX0 1 (f 4) (fd 4) ["value"] (sp_order_key K) := by
  refine T.d_order_key.F.ok sc_order_key (fun vs H Q E h => ?_) (fun cdv A outer s H vs Q E hr h => ?_)
  · obtain ⟨k, rfl, _⟩ := h
    rfl
  · obtain ⟨kk, rfl, k⟩ := h
    refine ⟨_, (pss_one (ps_ret (pe_ifExp (pt_cmpR op_isN (pvl 0) pe_non (nomark _)) (pe_tup (pal rfl pe_int (pal rfl pe_int pa_nil))) (pe_tup (pal rfl pe_int (pal rfl (pvl 0) pa_nil)))))), ?_⟩
    walk_at "dl"
    match kk, k with
    | none, k =>
      simp only [nV]
      rw [if_pos trivial]
      exact ⟨small_line (by decide), k⟩
    | some (.inl i), k => exact ite2 (fun z => absurd (show V.int i = V.non from z) (by simp)) fun _ => ⟨small_line (by decide), k⟩
    | some (.inr i), k => exact ite2 (fun z => absurd (show V.str i = V.non from z) (by simp)) fun _ => ⟨small_line (by decide), k⟩
noncomputable def sp_path_key (K : PySem.W.Frag) : Sp := fun vs H Q _ => ∃ (b : Addr) (ks : List NKey), vs = [.ref b] ∧ H b = some (.tup (ks.map nV)) ∧ ks.length ≤ 8 ∧ ∀ H' v, Same H H' → KeyV H' v ks → Q v H'
theorem ok_path_key (T : Txt K mg f fd) : FnOk P w K mg base CX0 2 (f 8) (fd 8) ["path"] (sp_path_key K) := by
  refine T.d_path_key.F.ok sc_path_key (fun vs H Q E h => ?_) (fun cdv A outer s H vs Q E hr h => ?_)
  · obtain ⟨b, ks, rfl, _⟩ := h
    rfl
  · obtain ⟨b, ks, rfl, hb, hl, k⟩ := h
    refine ⟨_, (pss_one (ps_ret (pe_comp ["value"] ["path"] rfl (show CompSc _ (defScope s_path_key) ["path"] ["path"] from compOk_is (by decide +kernel)) (k_piT rfl (pvl 0)) (fun _ _ _ _ _ => (pgl 0 (show (["value", "path"] : List Str).Nodup by decide +kernel))) (fun _ _ _ _ _ => pts_nil) (fun _ _ _ _ _ => (pe_defL T.d_order_key (ok_order_key T) (hr.mono (by decide)) rfl (by decide) rfl (pal rfl (pvl 0) pa_nil)))))), ?_⟩
    walk_at "dl"
    refine ⟨⟨_, .of hb⟩, ?_⟩
    refine comp_walk (walk_tup (xs := ks.map nV)) (small_line (by rw [List.length_map]; omega)) (fun j ys H' => Same H H' ∧ Prs H' ys (ks.take j)) ⟨Same.refl _, .nil⟩ (fun _ _ H' _ q => q.1.seqT (.of hb)) (fun j ys H' q => by
      have := Paired.length q.2
      rw [this, List.length_take]; omega) (fun j x ys H2 hx q => ?_) (fun ys H2 q D hD => ?_)
    · rw [List.getElem?_map] at hx
      obtain ⟨kk, hkk, rfl⟩ := Option.map_eq_some_iff.mp hx
      walk_at "dl"
      refine ⟨kk, rfl, fun p hp => ⟨⟨_, rfl⟩, q.1.new hp _, ?_⟩⟩
      rw [List.take_add_one, hkk]
      exact Paired.snoc (q.2.mono (Same.upd_new hp _)) ⟨p, rfl, upd_same⟩
    · rw [List.length_map, List.take_length] at q
      exact k _ _ (q.1.new hD _) ⟨D, ys, rfl, upd_same, q.2.mono (Same.upd_new hD _)⟩
theorem cut_to {xs : List V} {k : Nat} : cutV xs none (some (k : Int)) = xs.take k := by
  unfold cutV
  rw [HT.sIx_none, HT.sIx_nat, List.drop_zero, Nat.sub_zero]
  rw [List.take_eq_take_iff]
  omega
noncomputable def sp_paths_over (K : PySem.W.Frag) : Sp := fun vs H Q _ => ∃ (l ln r : Addr) (xs rs : List V) (ns kds : List Str) (is : List Nat), vs = [.ref l, .ref ln, .ref r] ∧ H l = some (.lst xs) ∧ FldsK H xs ns kds ∧ H ln = some (.tup (is.map fun i => V.str (ns.getD i wordS))) ∧ (∀ i ∈ is, i < kds.length) ∧ is.length ≤ 8 ∧ H r = some (.tup rs) ∧ RowOk kds rs ∧
  ∀ H' p ts, Same H H' → H' p = some (.lst ts) → TupsV H' ts ((List.range (is.length + 1)).map fun m => (pj is rs).take m) → Q (.ref p) H'
theorem ok_paths_over (T : Txt K mg f fd) : FnOk P w K mg base CX0 2 (f 9) (fd 9) ["fields", "names", "row"] (sp_paths_over K) := by
  refine T.d_paths_over.F.ok sc_paths_over (fun vs H Q E h => ?_) (fun cdv A outer s H vs Q E hr h => ?_)
  · obtain ⟨l, ln, r, xs, rs, ns, kds, is, rfl, _⟩ := h
    rfl
  · obtain ⟨l, ln, r, xs, rs, ns, kds, is, rfl, hl, hF, hn, hi, hz, hr', hR, k⟩ := h
    refine ⟨_, (pss_cons (psc 3 sc_paths_over.nd (pe_comp ["name"] ["fields", "names", "row", "values"] rfl (show CompSc _ (defScope s_paths_over) ["fields", "names", "row", "values"] ["fields", "names", "row", "values"] from compOk_is (by decide +kernel)) (k_piT rfl (pvl 1)) (fun _ _ _ _ _ => (pgl 0 (show (["name", "fields", "names", "row", "values"] : List Str).Nodup by decide +kernel))) (fun _ _ _ _ _ => pts_nil) (fun _ _ _ _ _ => (pe_ix (k_ixT rfl) (pvc 3) (pe_defL T.d_field_at (ok_field_at T) (hr.mono (by decide)) rfl (by decide) rfl (pal rfl (pvc 1) (pal rfl (pvl 0) pa_nil))) (fun _ _ => rfl)))))
     (pss_one (ps_ret (pe_comp ["many"] ["fields", "names", "row", "values"] rfl (show CompSc _ (defScope s_paths_over) ["fields", "names", "row", "values"] ["fields", "names", "row", "values"] from compOk_is (by decide +kernel)) (pi_range1 rfl T.n_range (pal rfl (pe_op op_add (pe_cB (k_len rfl) T.n_len bt_len rfl (by decide) (by decide) rfl (pal rfl (pvc 3) pa_nil)) pe_int) pa_nil)) (fun _ _ _ _ _ => (pgl 0 (show (["many", "fields", "names", "row", "values"] : List Str).Nodup by decide +kernel))) (fun _ _ _ _ _ => pts_nil) (fun _ _ _ _ _ => (pe_cTy (k_tuple rfl) T.n_tuple bt_tuple rfl (by decide) (by decide) rfl (pal rfl (pe_slice (k_slL rfl) (pvc 4) po_none (po_some (pvl 0))) pa_nil))))))), ?_⟩
    generalize hB : tRet (tComp _ (iRng1 _) _ _ _) = B
    walk_at "dl"
    refine ⟨⟨_, .of hn⟩, ?_⟩
    refine comp_of (as := is) (g := fun i => V.str (ns.getD i wordS)) walk_tup (small_line (by omega)) (fun H' q => q.seqT (.of hn)) (fun _ => true) (fun i => rs.getD i .non) (fun n H1 Q' _ s1 q => ?_) (fun n H1 Q' hin _ s1 q => ?_) (fun H1 s1 D hD => ?_)
    · exact q H1 (Same.refl _)
    · have hil := hi n hin
      have hin' : n < ns.length := by rw [hF.1, ← hF.2.1]; exact hil
      have hir : n < rs.length := by rw [hR.1]; exact hil
      walk_at "dl"
      refine ⟨xs, s1 _ _ hl, ⟨ns, ⟨kds, hF.mono s1⟩, n, by rw [List.getElem?_eq_getElem hin', List.getD_eq_getElem?_getD, List.getElem?_eq_getElem hin']; rfl, fun H2 s2 => ?_⟩⟩
      exact ⟨r, rs, _, _, rfl, rfl, .of ((s1.trans s2) _ _ hr'), atI_nat (by rw [List.getElem?_eq_getElem hir, List.getD_eq_getElem?_getD, List.getElem?_eq_getElem hir]; rfl), q H2 s2⟩
    obtain ⟨ty, enV⟩ := pj_ty hR hi
    rw [List.filter_eq_self.mpr (fun _ _ => rfl), ← enV]
    have hpl : (pj is rs).length = is.length := by simp [pj]
    have s2 := s1.new hD (HO.lst ((pj is rs).map nV))
    have gD : upd H1 D (HO.lst ((pj is rs).map nV)) D = some (.lst ((pj is rs).map nV)) := upd_same
    generalize upd H1 D (HO.lst ((pj is rs).map nV)) = H2 at *
    clear hD
    subst hB
    walk_at "dl"
    refine ⟨_, .inl (.of gD), ?_⟩
    rw [List.length_map, hpl]
    refine ⟨by omega, by omega, ?_⟩
    rw [show ((is.length : Int) + 1).toNat = is.length + 1 by omega]
    refine comp_walk walk_range (by rw [rangeV_len]; exact small_line (by omega)) (fun j ys H' => Same H2 H' ∧ TupsV H' ys ((List.range j).map fun m => (pj is rs).take m)) ⟨Same.refl _, .nil⟩ (fun _ _ _ _ _ => trivial) (fun j ys H' q => by
      have := Paired.length q.2
      rw [this, List.length_map, List.length_range]; omega) (fun j x ys H3 hx q => ?_) (fun ys H3 q D3 hD3 => ?_)
    · obtain ⟨hj, rfl⟩ := range_item hx
      walk_at "dl"
      refine ⟨_, .of (q.1 _ _ gD), fun p hp => ⟨_, .inl ⟨.of upd_same, fun l2 hl2 => ⟨⟨_, rfl⟩, (q.1.new hp _).new hl2 _, ?_⟩⟩⟩⟩
      have w2 := (Same.upd_new hp (HO.lst (cutV ((pj is rs).map nV) none (some (0 + (j : Int)))))).new hl2 (HO.tup (cutV ((pj is rs).map nV) none (some (0 + (j : Int)))))
      have e0 : cutV ((pj is rs).map nV) none (some (0 + (j : Int))) = ((pj is rs).take j).map nV := by rw [Int.zero_add, cut_to, List.map_take]
      rw [List.range_succ, List.map_append]
      exact Paired.snoc (q.2.mono w2) ⟨l2, rfl, by rw [upd_same, e0]⟩
    · rw [rangeV_len] at q
      exact k _ _ _ ((s2.trans q.1).new hD3 _) upd_same (q.2.mono (Same.upd_new hD3 _))
noncomputable def Rows (H : Hp) (kds : List Str) (xs : List V) (rs : List (List V)) : Prop := Paired (fun (x : V) (r : List V) => ∃ p, x = .ref p ∧ H p = some (.tup r) ∧ RowOk kds r) xs rs
theorem Rows.mono {H H' : Hp} {kds : List Str} {xs : List V} {rs : List (List V)} (s : Same H H') (h : Rows H kds xs rs) : Rows H' kds xs rs := Paired.mapP h fun _ _ ⟨p, e, a, b⟩ => ⟨p, e, s _ _ a, b⟩
theorem Paired.ix {α β : Type} {F : α → β → Prop} : ∀ {xs : List α} {ys : List β} (_ : Paired F xs ys) {i : Nat} {x : α}, xs[i]? = some x → ∃ y, ys[i]? = some y ∧ F x y
  | _, _, .nil, i, x, h => by simp at h
  | _, _, .cons r t, 0, x, h => by cases h; exact ⟨_, rfl, r⟩
  | _, _, .cons r t, i + 1, x, h => Paired.ix t (i := i) (by simpa using h)
theorem addRow_ty {kds : List Str} {is : List Nat} {rs : List V} (hR : RowOk kds rs) (hi : ∀ i ∈ is, i < kds.length) (m : Nat) : TyL (is.map fun i => kds.getD i wordS) ((pj is rs).take m) := TyL.take m (pj_ty hR hi).1
theorem all_like {tys : List Str} {L : List (List NKey)} (h : ∀ a ∈ L, TyL tys a) : AllLike L := ⟨fun a ha => (h a ha).ok, fun a ha b hb => (h a ha).like (h b hb)⟩
theorem addN_len (a : List (List NKey)) (k : List NKey) : (addN a k).length ≤ a.length + 1 := by
  unfold addN
  split
  · omega
  · rw [List.length_append]; exact Nat.le_refl _
theorem TyL.len : ∀ {ts : List Str} {ks : List NKey}, TyL ts ks → ks.length ≤ ts.length
  | _, [], _ => Nat.zero_le _
  | [], _ :: _, h => False.elim h
  | _ :: _, _ :: _, h => Nat.succ_le_succ (TyL.len h.2)
theorem TupsV.put {H : Hp} {ts : List V} {kss : List (List NKey)} {p : Addr} {o u : HO} (h : TupsV H ts kss) (hp : H p = some u) (hu : ∀ zs, HO.tup zs ≠ u) : TupsV (upd H p o) ts kss := Paired.mapP h fun _ _ ⟨b, e, q⟩ => ⟨b, e, (upd_ne (ne_of q hp (hu _))).trans q⟩
theorem range_map {β : Type} {f : Nat → β} {n i : Nat} {y : β} (h : ((List.range n).map f)[i]? = some y) : i < n ∧ y = f i := by
  rw [List.getElem?_map] at h
  obtain ⟨a, ha, rfl⟩ := Option.map_eq_some_iff.mp h
  obtain ⟨h1, h2⟩ := List.getElem?_eq_some_iff.mp ha
  rw [List.getElem_range] at h2
  rw [List.length_range] at h1
  exact ⟨h1, by rw [h2]⟩
noncomputable def addTo (is : List Nat) (rs : List V) (m : Nat) (a : List (List NKey)) : List (List NKey) := (List.range m).foldl (fun a m => addN a ((pj is rs).take m)) a
theorem addTo_succ (is : List Nat) (rs : List V) (m : Nat) (a : List (List NKey)) : addTo is rs (m + 1) a = addN (addTo is rs m a) ((pj is rs).take m) := by
  unfold addTo
  rw [List.range_succ, List.foldl_append]
  rfl
theorem foldl_snoc {α β : Type} {f : α → β → α} {a : α} {l : List β} {j : Nat} {x : β} (h : l[j]? = some x) : (l.take (j + 1)).foldl f a = f ((l.take j).foldl f a) x := by
  rw [take_snoc h, List.foldl_append]
  rfl
noncomputable def sp_heads_of (K : PySem.W.Frag) : Sp := fun vs H Q _ => ∃ (l ln lr : Addr) (xs xr : List V) (rss : List (List V)) (ns kds : List Str) (is : List Nat), vs = [.ref l, .ref ln, .ref lr] ∧ H l = some (.lst xs) ∧ FldsK H xs ns kds ∧ H ln = some (.tup (is.map fun i => V.str (ns.getD i wordS))) ∧ (∀ i ∈ is, i < kds.length) ∧ is.length ≤ 8 ∧ H lr = some (.lst xr) ∧ Rows H kds xr rss ∧ rss.length ≤ 100 ∧
  ∀ H' p ts kss, Same H H' → H' p = some (.lst ts) → TupsV H' ts kss → kss.Perm (begs is rss) → kss.Pairwise (fun a b => lexN a b = true) → (∀ a ∈ kss, TyL (is.map fun i => kds.getD i wordS) a) → Q (.ref p) H'
theorem ok_heads_of (T : Txt K mg f fd) : FnOk P w K mg base CX0 5 (f 10) (fd 10) ["fields", "names", "rows"] (sp_heads_of K) := by
  refine T.d_heads_of.F.ok sc_heads_of (fun vs H Q E h => ?_) (fun cdv A outer s H vs Q E hr h => ?_)
  · obtain ⟨l, ln, lr, xs, xr, rss, ns, kds, is, rfl, _⟩ := h
    rfl
  · obtain ⟨l, ln, lr, xs, xr, rss, ns, kds, is, rfl, hl, hF, hn, hi, hz, hlr, hR, hrz, k⟩ := h
    refine ⟨_, (pss_cons (psl 3 sc_heads_of.nd (pe_dispT (hu_of hr) (pe_tup pa_nil) pe_bl))
     (pss_cons (ps_for PassesOwn.never rfl (k_piL rfl (pvl 2)) (pgl 4 sc_heads_of.nd)
     (pss_one (ps_for PassesOwn.never rfl (k_piL rfl (pe_defL T.d_paths_over (ok_paths_over T) (hr.mono (by decide)) rfl (by decide) rfl (pal rfl (pvl 0) (pal rfl (pvl 1) (pal rfl (pvl 4) pa_nil))))) (pgl 5 sc_heads_of.nd)
     (pss_one (ps_dput (hu_of hr) (pvl 3) (pvl 5) pe_bl rfl)))))
     (pss_one (ps_ret (pe_sortT (ok_path_key T) (hr.mono (by decide)) T.d_path_key.b T.d_path_key.m rfl (by decide) rfl rfl rfl T.n_sorted rfl (pal rfl (pvl 3) pa_nil)))))), ?_⟩
    walk_at "dl"
    intro p hp
    refine ⟨Nat.zero_le _, fun p1 hp1 => ?_⟩
    have ne : p ≠ p1 := fun e => by rw [← e, upd_same] at hp1; cases hp1
    refine ⟨(upd_ne ne).trans upd_same, [], upd_same, ?_⟩
    have s1 : Same H (upd (upd (upd H p (HO.dT [])) p1 (HO.tup [])) p (HO.dT [([], V.bl true)])) := ((Same.upd_new hp _).new hp1 _).set hp _
    have g1 : upd (upd (upd H p (HO.dT [])) p1 (HO.tup [])) p (HO.dT [([], V.bl true)]) p = some (HO.dT [([], V.bl true)]) := upd_same
    generalize upd (upd (upd H p (HO.dT [])) p1 (HO.tup [])) p (HO.dT [([], V.bl true)]) = H1 at *
    refine for_in ?_
    walk_at "dl"
    refine ⟨⟨_, .of (s1 _ _ hlr)⟩, ?_⟩
    have hrl := Paired.length hR
    refine ForW.of walk_list (fun j σ H' => (∃ v4 v5, σ = [some (V.ref l), some (V.ref ln), some (V.ref lr), some (V.ref p), v4, v5]) ∧ Same H H' ∧ ∃ kvs, H' p = some (.dT kvs) ∧ kvs.map (·.1) = (rss.take j).foldl (addRow is) [[]] ∧ kvs.length ≤ 1 + 9 * j ∧ ∀ a ∈ kvs.map (·.1), TyL (is.map fun i => kds.getD i wordS) a) ⟨⟨none, none, rfl⟩, s1, _, g1, rfl, by simp, fun a ha => by
      obtain rfl : a = [] := by simpa using ha
      cases is <;> trivial⟩ (fun _ _ _ _ q => q.2.1.seq (.of hlr)) ?_ ?_
    · rintro j x σ H2 hx ⟨⟨v4, v5, rfl⟩, s2, kvs, g2, ek, hkl, hty⟩
      obtain ⟨rs, hrs, q, rfl, hq, hok⟩ := Paired.ix hR hx
      have hj : j < rss.length := (List.getElem?_eq_some_iff.mp hrs).1
      simp only [gName]
      refine for_in ?_
      walk_at "dl"
      refine ⟨l, ln, q, xs, rs, ns, kds, is, rfl, s2 _ _ hl, hF.mono s2, s2 _ _ hn, hi, hz, s2 _ _ hq, hok, fun H3 pl ts s3 g3 hts => ?_⟩
      have htl := Paired.length hts
      rw [List.length_map, List.length_range] at htl
      refine ⟨pl, rfl, ⟨_, .of g3⟩, ForW.of walk_list (fun i σ H' => (∃ v5, σ = [some (V.ref l), some (V.ref ln), some (V.ref lr), some (V.ref p), some (V.ref q), v5]) ∧ Same H H' ∧ H' pl = some (.lst ts) ∧ TupsV H' ts ((List.range (is.length + 1)).map fun m => (pj is rs).take m) ∧ ∃ kvs, H' p = some (.dT kvs) ∧ kvs.map (·.1) = addTo is rs i ((rss.take j).foldl (addRow is) [[]]) ∧ kvs.length ≤ 1 + 9 * j + i ∧ ∀ a ∈ kvs.map (·.1), TyL (is.map fun i => kds.getD i wordS) a) ⟨⟨v5, rfl⟩, s2.trans s3, g3, hts, kvs, s3 _ _ g2, ek, hkl, hty⟩ (fun _ _ _ _ q => .of q.2.2.1) ?_ ?_⟩
      · rintro i y σ H4 hy ⟨⟨v5, rfl⟩, s4, gp, tp, kvs', g4, ek', hkl', hty'⟩
        obtain ⟨ks, hks, b, rfl, hb⟩ := Paired.ix tp hy
        obtain ⟨hi2, rfl⟩ := range_map hks
        walk_at "dl"
        have e1 := putK_keys kvs' ((pj is rs).take i) (V.bl true)
        refine ⟨_, DPut.t g4 hb (by rw [sizeLine_eq]; omega), ⟨_, rfl⟩, s4.set hp _, (upd_ne (ne_of gp g4 (fun z => nomatch z))).trans gp, TupsV.put tp g4 (fun _ z => nomatch z), _, upd_same, ?_, ?_, ?_⟩
        · rw [e1, ek', addTo_succ]
        · have e2 := congrArg List.length e1
          rw [List.length_map] at e2
          have := addN_len (kvs'.map (·.1)) ((pj is rs).take i)
          rw [List.length_map] at this
          omega
        · rw [e1]
          intro a ha
          rcases addN_mem.mp ha with ha | rfl
          · exact hty' a ha
          · exact addRow_ty hok hi i
      · rintro σ H4 ⟨⟨v5, rfl⟩, s4, gp, tp, kvs', g4, ek', hkl', hty'⟩
        refine ⟨⟨_, _, rfl⟩, s4, kvs', g4, ?_, by omega, hty'⟩
        rw [ek', foldl_snoc hrs, htl]
        rfl
    · rintro σ H2 ⟨⟨v4, v5, rfl⟩, s2, kvs, g2, ek, hkl, hty⟩
      rw [hrl, List.take_length] at ek
      walk_at "dl"
      refine ⟨kvs, g2, by omega, all_like hty, fun ks hks H3 b s3 hb => ⟨b, ks, rfl, hb, ?_, fun H4 v s4 kv => ⟨s4, kv⟩⟩, fun Hn D ts kss sn hD tt pm pw => ?_⟩
      · have := (hty ks hks).len
        rw [List.length_map] at this
        omega
      · exact k _ _ _ _ ((s2.trans sn).new hD _) upd_same (tt.mono (Same.upd_new hD _)) (by unfold begs; rw [← ek]; exact pm) pw fun a ha => hty a (pm.mem_iff.mp ha)
noncomputable def nkD : NKey → PyData
  | none => .none
  | some (.inl i) => .int i
  | some (.inr z) => .str z
theorem nk_rep {K : PySem.W.Frag} {H : Hp} : ∀ k : NKey, Rep K H (nkD k) (nV k)
  | none => by simp [Rep, nkD, nV]
  | some (.inl i) => by simp [Rep, nkD, nV, kV]
  | some (.inr z) => by simp [Rep, nkD, nV, kV]
theorem nk_shape : ∀ {k : NKey}, okN k → PyData.canLay0 (nkD k) = true ∧ PyData.depth (nkD k) = 0
  | none, _ => by simp [nkD, PyData.canLay0, PyData.depth]
  | some (.inl i), _ => by simp [nkD, PyData.canLay0, PyData.depth]
  | some (.inr z), h => by
    have h : PyData.strOk z = true := h
    simp [nkD, PyData.canLay0, PyData.depth, h]
theorem nk_eq : ∀ a b : NKey, PyData.eqv (nkD a) (nkD b) = decide (a = b)
  | none, none => by simp [nkD, PyData.eqv]
  | none, some (.inl _) => by simp [nkD, PyData.eqv]
  | none, some (.inr _) => by simp [nkD, PyData.eqv]
  | some (.inl _), none => by simp [nkD, PyData.eqv]
  | some (.inr _), none => by simp [nkD, PyData.eqv]
  | some (.inl i), some (.inl j) => by simp [nkD, PyData.eqv]; rfl
  | some (.inl i), some (.inr j) => by simp [nkD, PyData.eqv]
  | some (.inr i), some (.inl j) => by simp [nkD, PyData.eqv]
  | some (.inr i), some (.inr j) => by simp [nkD, PyData.eqv]; rfl
theorem nk_reps {K : PySem.W.Frag} {H : Hp} : ∀ ks : List NKey, (∀ k ∈ ks, okN k) → Reps K H (ks.map nkD) (ks.map nV) ∧ PyData.canLayAll0 (ks.map nkD) = true ∧ PyData.depthAll (ks.map nkD) = 0
  | [], _ => by simp [Reps, PyData.canLayAll0, PyData.depthAll]
  | k :: ks, h => by
    obtain ⟨r1, r2, r3⟩ := nk_reps (K := K) (H := H) ks fun x hx => h x (List.mem_cons_of_mem _ hx)
    obtain ⟨q1, q2⟩ := nk_shape (h k List.mem_cons_self)
    refine ⟨?_, ?_, ?_⟩
    · simp only [List.map_cons, Reps]
      exact ⟨_, _, rfl, nk_rep k, r1⟩
    · simp [PyData.canLayAll0, q1, r2]
    · simp [PyData.depthAll, q2, r3]
theorem nks_eq : ∀ as bs : List NKey, PyData.eqvAll (as.map nkD) (bs.map nkD) = decide (as = bs)
  | [], [] => by simp [PyData.eqvAll]
  | [], _ :: _ => by simp [PyData.eqvAll]
  | _ :: _, [] => by simp [PyData.eqvAll]
  | a :: as, b :: bs => by
    simp only [List.map_cons, PyData.eqvAll, nk_eq, nks_eq as bs]
    by_cases h : a = b <;> simp [h]
noncomputable def ksD (ks : List NKey) : PyData := .tuple (ks.map nkD)
theorem ksD_any (kss : List (List NKey)) (ks : List NKey) : (kss.map ksD).any (fun e => PyData.eqv e (ksD ks)) = hasN kss ks := by
  induction kss with
  | nil => rfl
  | cons c bs ih =>
    have : PyData.eqv (ksD c) (ksD ks) = decide (c = ks) := by simp only [ksD, PyData.eqv]; exact nks_eq c ks
    rw [List.map_cons, List.any_cons, ih, this]
    rfl
theorem ksD_rep {K : PySem.W.Frag} {H : Hp} {b : Addr} {ks : List NKey} (hb : H b = some (.tup (ks.map nV))) (h : ∀ k ∈ ks, okN k) : Rep K H (ksD ks) (.ref b) := by
  simp only [ksD, Rep]
  exact ⟨b, _, rfl, .of hb, (nk_reps ks h).1⟩
theorem ksD_shape {ks : List NKey} (h : ∀ k ∈ ks, okN k) : PyData.canLay0 (ksD ks) = true ∧ PyData.depth (ksD ks) = 1 := by
  obtain ⟨_, q2, q3⟩ := nk_reps (K := []) (H := fun _ => none) ks h
  exact ⟨by simp [ksD, PyData.canLay0, q2], by simp [ksD, PyData.depth, q3]⟩
theorem kss_reps {K : PySem.W.Frag} {H : Hp} : ∀ {xs : List V} {kss : List (List NKey)}, TupsV H xs kss → (∀ a ∈ kss, ∀ k ∈ a, okN k) → Reps K H (kss.map ksD) xs ∧ PyData.canLayAll0 (kss.map ksD) = true ∧ PyData.depthAll (kss.map ksD) ≤ 1
  | _, _, .nil, _ => by simp [Reps, PyData.canLayAll0, PyData.depthAll]
  | _, _, .cons (a := x) (b := ks) ⟨b, e, hb⟩ t, h => by
    obtain ⟨r1, r2, r3⟩ := kss_reps (K := K) t fun a ha => h a (List.mem_cons_of_mem _ ha)
    obtain ⟨q1, q2⟩ := ksD_shape (h _ List.mem_cons_self)
    refine ⟨?_, ?_, ?_⟩
    · simp only [List.map_cons, Reps]
      exact ⟨_, _, rfl, e ▸ ksD_rep hb (h _ List.mem_cons_self), r1⟩
    · simp [PyData.canLayAll0, q1, r2]
    · simp only [List.map_cons, PyData.depthAll, q2]
      omega
theorem ks_in {K : PySem.W.Frag} {H : Hp} {b a : Addr} {ks : List NKey} {xs : List V} {kss : List (List NKey)} {neg : Bool} {Q : VK} (hb : H b = some (.tup (ks.map nV))) (hk : ∀ k ∈ ks, okN k) (ha : H a = some (.lst xs)) (ht : TupsV H xs kss) (hks : ∀ a ∈ kss, ∀ k ∈ a, okN k)
    (q : Q (.bl (if neg then !hasN kss ks else hasN kss ks)) H) : rInD K neg (.ref b) (.ref a) H Q := by
  obtain ⟨r1, r2, r3⟩ := kss_reps (K := K) ht hks
  obtain ⟨q1, q2⟩ := ksD_shape hk
  refine ⟨_, _, ksD_rep hb hk, by simp only [Rep]; exact ⟨a, xs, rfl, .of ha, r1⟩, ?_, ?_, by rw [ksD_any]; exact q⟩
  · simp only [SeqAt.shaped, q1, q2]; decide
  · simp only [SeqAt.shaped, PyData.canLay0, PyData.depth, r2, Bool.true_and]
    exact decide_eq_true (by omega)
theorem nk_ne {K : PySem.W.Frag} {H : Hp} {x y : NKey} {Q : VK} (hx : okN x) (hy : okN y) (q : Q (.bl (!decide (x = y))) H) : rEqD K true (nV x) (nV y) H Q := by
  obtain ⟨a1, a2⟩ := nk_shape hx
  obtain ⟨b1, b2⟩ := nk_shape hy
  exact ⟨_, _, nk_rep x, nk_rep y, by simp only [SeqAt.shaped, a1, a2]; decide, by simp only [SeqAt.shaped, b1, b2]; decide, by rw [nk_eq]; exact q⟩
theorem lex_at : ∀ {as bs : List NKey} {j : Nat} {x y : NKey}, as.take j = bs.take j → as[j]? = some x → bs[j]? = some y → x ≠ y → lexN as bs = ltN x y
  | [], _, j, x, y, _, h, _, _ => by simp at h
  | _ :: _, [], j, x, y, _, _, h, _ => by simp at h
  | a :: as, b :: bs, 0, x, y, _, h1, h2, ne => by
    obtain rfl : a = x := by simpa using h1
    obtain rfl : b = y := by simpa using h2
    rw [lexN, if_neg ne]
  | a :: as, b :: bs, j + 1, x, y, e, h1, h2, ne => by
    rw [List.take_succ_cons, List.take_succ_cons] at e
    obtain ⟨e1, e2⟩ := List.cons.inj e
    rw [lexN, if_pos e1]
    exact lex_at e2 (by simpa using h1) (by simpa using h2) ne
theorem lex_len : ∀ {as bs : List NKey} {m : Nat}, as.take m = bs.take m → m = min as.length bs.length → lexN as bs = decide (as.length < bs.length)
  | [], [], _, _, _ => rfl
  | [], _ :: _, _, _, _ => by simp [lexN]
  | _ :: _, [], _, _, _ => by simp [lexN]
  | a :: as, b :: bs, 0, e, h => by simp at h
  | a :: as, b :: bs, m + 1, e, h => by
    rw [List.take_succ_cons, List.take_succ_cons] at e
    obtain ⟨e1, e2⟩ := List.cons.inj e
    rw [lexN, if_pos e1, lex_len e2 (by simp at h; omega)]
    simp
theorem nV_none {k : NKey} : nV k = .non ↔ k = none := by
  match k with
  | none => exact ⟨fun _ => rfl, fun _ => rfl⟩
  | some (.inl i) => exact ⟨fun z => absurd (show V.int i = V.non from z) (by simp), fun z => nomatch z⟩
  | some (.inr i) => exact ⟨fun z => absurd (show V.str i = V.non from z) (by simp), fun z => nomatch z⟩
theorem TyL.at : ∀ {ts : List Str} {ks : List NKey} {j : Nat} {x : NKey}, TyL ts ks → ks[j]? = some x → ∃ t, ts[j]? = some t ∧ TyN t x
  | _, [], _, _, _, h => by simp at h
  | [], _ :: _, _, _, h, _ => False.elim h
  | t :: ts, k :: ks, 0, x, h, e => by
    obtain rfl : k = x := by simpa using e
    exact ⟨t, rfl, h.1⟩
  | t :: ts, k :: ks, j + 1, x, h, e => by
    obtain ⟨t', h1, h2⟩ := TyL.at h.2 (show ks[j]? = some x by simpa using e)
    exact ⟨t', by simpa using h1, h2⟩
noncomputable def sp_l_before (K : PySem.W.Frag) : Sp := fun vs H Q _ => ∃ (a b : Addr) (as bs : List NKey) (tys : List Str), vs = [.ref a, .ref b] ∧ H a = some (.tup (as.map nV)) ∧ H b = some (.tup (bs.map nV)) ∧ TyL tys as ∧ TyL tys bs ∧ tys.length ≤ 8 ∧ lexN as bs = true ∧ Q (.bl true) H
theorem ok_l_before (T : Txt K mg f fd) : FnOk P w K mg base CX0 1 (f 19) (fd 19) ["_law_one", "_law_other"] (sp_l_before K) := by
  refine T.d_l_before.F.ok sc_l_before (fun vs H Q E h => ?_) (fun cdv A outer s H vs Q E hr h => ?_)
  · obtain ⟨a, b, as, bs, tys, rfl, _⟩ := h
    rfl
  · obtain ⟨a, b, as, bs, tys, rfl, ha, hb, hta, htb, h8, hlex, k⟩ := h
    refine ⟨_, (pss_cons (ps_for PassesOwn.never rfl (pi_range1 rfl T.n_range (pal rfl (pe_cB (call_min2 rfl) T.n_min bt_min rfl (by decide) (by decide) rfl (pal rfl (pe_cB (k_len rfl) T.n_len bt_len rfl (by decide) (by decide) rfl (pal rfl (pvl 0) pa_nil)) (pal rfl (pe_cB (k_len rfl) T.n_len bt_len rfl (by decide) (by decide) rfl (pal rfl (pvl 1) pa_nil)) pa_nil))) pa_nil)) (pgl 2 sc_l_before.nd)
     (pss_one (ps_if (pt_cmpR (k_neD rfl hr.units) (pe_ix (k_ixT rfl) (pvl 0) (pvl 2) (fun _ _ => rfl)) (pe_ix (k_ixT rfl) (pvl 1) (pvl 2) (fun _ _ => rfl)) (nomark _))
     (pss_cons (ps_if (PW.pt (pw_or (pt_cmpR op_isN (pe_ix (k_ixT rfl) (pvl 0) (pvl 2) (fun _ _ => rfl)) pe_non (nomark _)) (pw_or1 (pt_cmpR op_isN (pe_ix (k_ixT rfl) (pvl 1) (pvl 2) (fun _ _ => rfl)) pe_non (nomark _)))))
     (pss_one (ps_ret (pe_cmpR op_isN (pe_ix (k_ixT rfl) (pvl 1) (pvl 2) (fun _ _ => rfl)) pe_non (nomark _))))
     pss_nil)
     (pss_one (ps_ret (pe_cmpR op_ltA (pe_ix (k_ixT rfl) (pvl 0) (pvl 2) (fun _ _ => rfl)) (pe_ix (k_ixT rfl) (pvl 1) (pvl 2) (fun _ _ => rfl)) (nomark _)))))
     pss_nil)))
     (pss_one (ps_ret (pe_cmpR op_lt (pe_cB (k_len rfl) T.n_len bt_len rfl (by decide) (by decide) rfl (pal rfl (pvl 0) pa_nil)) (pe_cB (k_len rfl) T.n_len bt_len rfl (by decide) (by decide) rfl (pal rfl (pvl 1) pa_nil)) (nomark _))))), ?_⟩
    have la := hta.len
    have lb := htb.len
    refine for_in ?_
    walk_at "dl"
    refine ⟨_, .inr (.of ha), _, .inr (.of hb), ?_⟩
    rw [List.length_map, List.length_map]
    have hm : (if (bs.length : Int) < as.length then (bs.length : Int) else as.length) = ((min as.length bs.length : Nat) : Int) := by
      rw [Nat.min_def]; split <;> split <;> omega
    rw [hm]
    refine ⟨by omega, by omega, ?_⟩
    rw [Int.toNat_natCast]
    generalize hM : min as.length bs.length = M at *
    refine ForW.of (walk_range (n := M)) (fun j σ H' => (∃ v2, σ = [some (V.ref a), some (V.ref b), v2]) ∧ H' = H ∧ as.take j = bs.take j) ⟨⟨none, rfl⟩, rfl, rfl⟩ (fun _ _ _ _ _ => trivial) ?_ ?_
    · rintro j x σ H2 hx ⟨⟨v2, rfl⟩, rfl, ej⟩
      obtain ⟨hj, rfl⟩ := range_item hx
      rw [Int.zero_add]
      obtain ⟨x, ga⟩ : ∃ x, as[j]? = some x := ⟨as[j], List.getElem?_eq_getElem (by omega)⟩
      obtain ⟨y, gb⟩ : ∃ y, bs[j]? = some y := ⟨bs[j], List.getElem?_eq_getElem (by omega)⟩
      have oka := hta.ok x (List.mem_of_getElem? ga)
      have okb := htb.ok y (List.mem_of_getElem? gb)
      have ia : atI (as.map nV) (j : Int) = some (nV x) := atI_nat (by rw [List.getElem?_map, ga]; rfl)
      have ib : atI (bs.map nV) (j : Int) = some (nV y) := atI_nat (by rw [List.getElem?_map, gb]; rfl)
      simp only [gName]
      walk_at "dl"
      have ia' : ∀ {Q : VK}, Q (nV x) H2 → rIxT K (.ref a) (.int (j : Int)) H2 Q := fun q => ⟨a, _, _, nV x, rfl, rfl, .of ha, ia, q⟩
      have ib' : ∀ {Q : VK}, Q (nV y) H2 → rIxT K (.ref b) (.int (j : Int)) H2 Q := fun q => ⟨b, _, _, nV y, rfl, rfl, .of hb, ib, q⟩
      refine ia' (ib' (nk_ne oka okb ⟨_, rfl, ?_⟩))
      by_cases e : x = y
      · rw [if_neg (by simp [e])]
        exact ⟨⟨_, rfl⟩, rfl, by rw [take_snoc ga, take_snoc gb, ej, e]⟩
      · rw [if_pos (by simp [e])]
        rw [lex_at ej ga gb e] at hlex
        have lk : likeN x y = true := by
          obtain ⟨t, h1, h2⟩ := TyL.at hta ga
          obtain ⟨t', h1', h2'⟩ := TyL.at htb gb
          obtain rfl := Option.some.inj (h1.symm.trans h1')
          exact h2.like h2'
        refine ia' ?_
        cases x with
        | none => exact absurd hlex (by simp [ltN])
        | some kx =>
          rw [if_neg (show ¬ nV (some kx) = V.non from fun z => nomatch (nV_none.mp z))]
          refine ib' ?_
          cases y with
          | none =>
            rw [if_pos (show nV none = V.non from rfl)]
            refine ib' ?_
            rw [decide_eq_true (show nV none = V.non from rfl)]
            exact k
          | some ky =>
            rw [if_neg (show ¬ nV (some ky) = V.non from fun z => nomatch (nV_none.mp z))]
            refine ia' (ib' ?_)
            match kx, ky, hlex, lk with
            | .inl i, .inl j, h, _ => exact (show Q (V.bl (ltN (some (.inl i)) (some (.inl j)))) H2 by rw [h]; exact k)
            | .inr i, .inr j, h, _ => exact (show Q (V.bl (ltN (some (.inr i)) (some (.inr j)))) H2 by rw [h]; exact k)
            | .inl i, .inr j, _, h => exact absurd h (by simp [likeN])
            | .inr i, .inl j, _, h => exact absurd h (by simp [likeN])
    · rintro σ H2 ⟨⟨v2, rfl⟩, rfl, ej⟩
      rw [rangeV_len] at ej
      rw [lex_len ej hM.symm] at hlex
      walk_at "dl"
      refine ⟨_, .inr (.of ha), _, .inr (.of hb), ?_⟩
      rw [List.length_map, List.length_map, decide_eq_true (by have := of_decide_eq_true hlex; omega)]
      exact k
theorem addN_keep {a : List (List NKey)} {k x : List NKey} (h : x ∈ a) : x ∈ addN a k := addN_mem.mpr (.inl h)
theorem addTo_keep {is : List Nat} {rs : List V} {x : List NKey} {a : List (List NKey)} (h : x ∈ a) : ∀ m, x ∈ addTo is rs m a
  | 0 => h
  | m + 1 => by rw [addTo_succ]; exact addN_keep (addTo_keep h m)
theorem addRow_mem {is : List Nat} {rs : List V} {x : List NKey} {a : List (List NKey)} (h : x ∈ a) : x ∈ addRow is a rs := addTo_keep h (is.length + 1)
theorem nil_in {is : List Nat} : ∀ {rss : List (List V)} {a : List (List NKey)}, [] ∈ a → [] ∈ rss.foldl (addRow is) a
  | [], _, h => h
  | rs :: rss, a, h => nil_in (rss := rss) (addRow_mem h)
theorem beg_start {is : List Nat} {rs : List V} {a : List (List NKey)} (h : [] ∈ a) : addTo is rs 1 a = a := by
  show addN a ((pj is rs).take 0) = a
  rw [List.take_zero]
  unfold addN
  rw [if_pos (hasN_iff.mpr h)]
theorem pj_take {is : List Nat} {rs : List V} {kds : List Str} (hR : RowOk kds rs) (hi : ∀ i ∈ is, i < kds.length) (m : Nat) : ((pj is rs).take m).map nV = (is.take m).map fun i => rs.getD i .non := by
  rw [List.map_take, (pj_ty hR hi).2, List.map_take]
noncomputable def sp_l_beginnings (K : PySem.W.Frag) : Sp := fun vs H Q _ => ∃ (l pl : Addr) (xr : List V) (rss : List (List V)) (kds : List Str) (is : List Nat), vs = [.ref l, .ref pl] ∧ H l = some (.lst xr) ∧ Rows H kds xr rss ∧ rss.length ≤ 100 ∧ H pl = some (.lst (is.map fun i : Nat => V.int i)) ∧ (∀ i ∈ is, i < kds.length) ∧ is.length ≤ 8 ∧
  ∀ H' p ts, Same H H' → H' p = some (.lst ts) → TupsV H' ts (begs is rss) → Q (.ref p) H'
theorem ok_l_beginnings (T : Txt K mg f fd) : FnOk P w K mg base CX0 1 (f 20) (fd 20) ["_law_rows", "_law_places"] (sp_l_beginnings K) := by
  refine T.d_l_beginnings.F.ok sc_l_beginnings (fun vs H Q E h => ?_) (fun cdv A outer s H vs Q E hr h => ?_)
  · obtain ⟨l, pl, xr, rss, kds, is, rfl, _⟩ := h
    rfl
  · obtain ⟨l, pl, xr, rss, kds, is, rfl, hl, hR, hrz, hpl, hi, hz, k⟩ := h
    refine ⟨_, (pss_cons (psl 2 sc_l_beginnings.nd (pe_lst (pal rfl (pe_tup pa_nil) pa_nil)))
     (pss_cons (ps_for PassesOwn.never rfl (k_piL rfl (pvl 0)) (pgc 3 sc_l_beginnings.nd)
     (pss_one (ps_for PassesOwn.never rfl (pi_range2 rfl T.n_range (pal rfl pe_int (pal rfl (pe_op op_add (pe_cB (k_len rfl) T.n_len bt_len rfl (by decide) (by decide) rfl (pal rfl (pvl 1) pa_nil)) pe_int) pa_nil))) (pgl 4 sc_l_beginnings.nd)
     (pss_cons (psl 5 sc_l_beginnings.nd (pe_cTy (k_tuple rfl) T.n_tuple bt_tuple rfl (by decide) (by decide) rfl (pal rfl (pe_comp ["_law_place"] ["_law_rows", "_law_places", "_law_found", "_law_row_here", "_law_many", "_law_path"] rfl (show CompSc _ (defScope s_l_beginnings) ["_law_rows", "_law_places", "_law_found", "_law_row_here", "_law_many", "_law_path"] ["_law_rows", "_law_places", "_law_found", "_law_row_here", "_law_many", "_law_path"] from compOk_is (by decide +kernel)) (k_piL rfl (pe_slice (k_slL rfl) (pvl 1) po_none (po_some (pvl 4)))) (fun _ _ _ _ _ => (pgl 0 (show (["_law_place", "_law_rows", "_law_places", "_law_found", "_law_row_here", "_law_many", "_law_path"] : List Str).Nodup by decide +kernel))) (fun _ _ _ _ _ => pts_nil) (fun _ _ _ _ _ => (pe_ix (k_ixT rfl) (pvc 4) (pvl 0) (fun _ _ => rfl)))) pa_nil)))
     (pss_one (ps_if (pt_cmpR (k_notInD rfl hr.units) (pvl 5) (pvl 2) rfl)
     (pss_one (ps_expr (k_bmL rfl PySem.F.plainAttrs_list PySem.F.slot_list_append PySem.F.type_list_append mt_append rfl rfl rfl rfl (pvl 2) (pal rfl (pvl 5) pa_nil))))
     pss_nil))))))
     (pss_one (ps_ret (pvl 2))))), ?_⟩
    walk_at "dl"
    refine ⟨Nat.zero_le _, fun p0 hp0 => ⟨small_line (by decide), fun p hp => ?_⟩⟩
    have hrl := Paired.length hR
    have s1 : Same H (upd (upd H p0 (HO.tup [])) p (HO.lst [V.ref p0])) := (Same.upd_new hp0 _).new hp _
    have g0 : upd (upd H p0 (HO.tup [])) p (HO.lst [V.ref p0]) p0 = some (HO.tup []) := Same.upd_new hp _ _ _ upd_same
    have g1 : upd (upd H p0 (HO.tup [])) p (HO.lst [V.ref p0]) p = some (HO.lst [V.ref p0]) := upd_same
    have hpH : H p = none := by
      have ne : p ≠ p0 := fun e => by rw [e, upd_same] at hp; cases hp
      rw [upd_ne ne] at hp; exact hp
    generalize upd (upd H p0 (HO.tup [])) p (HO.lst [V.ref p0]) = H1 at *
    refine for_in ?_
    walk_at "dl"
    refine ⟨⟨_, .of (s1 _ _ hl)⟩, ?_⟩
    refine ForW.of walk_list (fun j σ H' => (∃ v3 v4 v5, σ = [some (V.ref l), some (V.ref pl), some (V.ref p), v3, v4, v5]) ∧ Same H H' ∧ ∃ ts kss, H' p = some (.lst ts) ∧ TupsV H' ts kss ∧ kss = (rss.take j).foldl (addRow is) [[]] ∧ kss.length ≤ 1 + 9 * j ∧ ∀ a ∈ kss, TyL (is.map fun i => kds.getD i wordS) a) ⟨⟨none, none, none, rfl⟩, s1, _, [[]], g1, .cons ⟨p0, rfl, g0⟩ .nil, rfl, by simp, fun a ha => by
      obtain rfl : a = [] := by simpa using ha
      cases is <;> trivial⟩ (fun _ _ _ _ q => q.2.1.seq (.of hl)) ?_ ?_
    · rintro j x σ H2 hx ⟨⟨v3, v4, v5, rfl⟩, s2, ts, kss, g2, t2, ek, hkl, hty⟩
      obtain ⟨rs, hrs, qr, rfl, hq, hok⟩ := Paired.ix hR hx
      have hj : j < rss.length := (List.getElem?_eq_some_iff.mp hrs).1
      have hnil : [] ∈ kss := by rw [ek]; exact nil_in List.mem_cons_self
      simp only [gName]
      refine for_in ?_
      walk_at "dl"
      refine ⟨_, .inl (.of (s2 _ _ hpl)), ?_⟩
      rw [List.length_map]
      refine ⟨by decide, by decide, by omega, by omega, ?_⟩
      rw [show ((is.length : Int) + 1 - 1).toNat = is.length by omega]
      refine ForW.of (walk_range (lo := 1) (n := is.length)) (fun i σ H' => (∃ v4 v5, σ = [some (V.ref l), some (V.ref pl), some (V.ref p), some (V.ref qr), v4, v5]) ∧ Same H H' ∧ ∃ ts kss, H' p = some (.lst ts) ∧ TupsV H' ts kss ∧ kss = addTo is rs (i + 1) ((rss.take j).foldl (addRow is) [[]]) ∧ kss.length ≤ 1 + 9 * j + i ∧ ∀ a ∈ kss, TyL (is.map fun i => kds.getD i wordS) a) ⟨⟨v4, v5, rfl⟩, s2, ts, kss, g2, t2, by rw [← ek]; exact (beg_start hnil).symm, hkl, hty⟩ (fun _ _ _ _ _ => trivial) ?_ ?_
      · rintro i x σ H3 hx ⟨⟨v4, v5, rfl⟩, s3, ts, kss, g3, t3, ek, hkl, hty⟩
        obtain ⟨hi2, rfl⟩ := range_item hx
        simp only [gName]
        walk_at "dl"
        refine ⟨_, .of (s3 _ _ hpl), fun p2 hp2 => ?_⟩
        have e2 : cutV (is.map fun i : Nat => V.int i) none (some (1 + (i : Int))) = (is.take (i + 1)).map fun i : Nat => V.int i := by
          rw [show (1 + (i : Int)) = ((i + 1 : Nat) : Int) by omega, cut_to, List.map_take]
        rw [e2]
        have w2 := Same.upd_new hp2 (HO.lst ((is.take (i + 1)).map fun i : Nat => V.int i))
        have g4 : upd H3 p2 (HO.lst ((is.take (i + 1)).map fun i : Nat => V.int i)) p2 = some (.lst ((is.take (i + 1)).map fun i : Nat => V.int i)) := upd_same
        generalize upd H3 p2 (HO.lst ((is.take (i + 1)).map fun i : Nat => V.int i)) = H4 at *
        refine ⟨⟨_, .of g4⟩, ?_⟩
        refine comp_of (as := is.take (i + 1)) (g := fun i : Nat => V.int i) walk_list (small_line (by rw [List.length_take]; omega)) (fun H' q => q.seq (.of g4)) (fun _ => true) (fun i => rs.getD i .non) (fun n H5 Q' _ s5 q => ?_) (fun n H5 Q' hin _ s5 q => ?_) (fun H5 s5 D hD => ?_)
        · exact q H5 (Same.refl _)
        · have hil := hi n (List.mem_of_mem_take hin)
          have hir : n < rs.length := by rw [hok.1]; exact hil
          walk_at "dl"
          exact ⟨qr, rs, _, _, rfl, rfl, .of (s5 _ _ (w2 _ _ (s3 _ _ hq))), atI_nat (by rw [List.getElem?_eq_getElem hir, List.getD_eq_getElem?_getD, List.getElem?_eq_getElem hir]; rfl), q H5 (Same.refl _)⟩
        rw [List.filter_eq_self.mpr (fun _ _ => rfl), ← pj_take hok hi]
        have ty1 := addRow_ty hok hi (i + 1)
        generalize hks : (pj is rs).take (i + 1) = ks at *
        have s6 := (s3.trans (w2.trans s5)).new hD (HO.lst (ks.map nV))
        have w6 := (w2.trans s5).new hD (HO.lst (ks.map nV))
        have g6 : upd H5 D (HO.lst (ks.map nV)) D = some (.lst (ks.map nV)) := upd_same
        generalize upd H5 D (HO.lst (ks.map nV)) = H6 at *
        refine ⟨_, .inl ⟨.of g6, fun l2 hl2 => ?_⟩⟩
        have s7 := s6.new hl2 (HO.tup (ks.map nV))
        have w7 := w6.new hl2 (HO.tup (ks.map nV))
        have g7 : upd H6 l2 (HO.tup (ks.map nV)) l2 = some (.tup (ks.map nV)) := upd_same
        generalize upd H6 l2 (HO.tup (ks.map nV)) = H7 at *
        have t7 := TupsV.mono w7 t3
        have g3' := w7 _ _ g3
        have lz := Paired.length t3
        refine ks_in g7 ty1.ok g3' t7 (fun a ha => (hty a ha).ok) ⟨_, rfl, ?_⟩
        by_cases hm : hasN kss ks = true
        · rw [if_neg (by simp [hm])]
          refine ⟨⟨_, rfl⟩, s7, ts, g3', kss, t7, ?_, by omega, hty⟩
          rw [addTo_succ, ← ek, hks]
          unfold addN
          rw [if_pos hm]
        · rw [if_pos (by simp [hm])]
          have e8 : addTo is rs (i + 1 + 1) ((rss.take j).foldl (addRow is) [[]]) = kss ++ [ks] := by
            rw [addTo_succ, ← ek, hks]
            unfold addN
            rw [if_neg hm]
          refine ⟨.inl ⟨rfl, _, .of g3'⟩, p, ts, _, rfl, rfl, g3', by rw [sizeLine_eq]; omega, ⟨_, rfl⟩, s7.set hpH _, _, upd_same, kss ++ [ks], ?_, e8.symm, by rw [List.length_append]; simp; omega, fun a ha => ?_⟩
          · exact Paired.snoc (TupsV.put t7 g3' (fun _ z => nomatch z)) ⟨l2, rfl, (upd_ne (ne_of g7 g3' (fun z => nomatch z))).trans g7⟩
          · rcases List.mem_append.mp ha with ha | ha
            · exact hty a ha
            · rw [List.mem_singleton.mp ha]; exact ty1
      · rintro σ H3 ⟨⟨v4, v5, rfl⟩, s3, ts, kss, g3, t3, ek, hkl, hty⟩
        rw [rangeV_len] at ek hkl
        refine ⟨⟨_, _, _, rfl⟩, s3, ts, g3, kss, t3, ?_, by omega, hty⟩
        rw [ek, foldl_snoc hrs]
        rfl
    · rintro σ H2 ⟨⟨v3, v4, v5, rfl⟩, s2, ts, kss, g2, t2, ek, hkl, hty⟩
      rw [hrl, List.take_length] at ek
      subst ek
      walk_at "dl"
      exact k _ _ _ s2 g2 t2
noncomputable def RowAt (H : Hp) (kds : List Str) (x : V) : Prop := ∃ p r, x = .ref p ∧ H p = some (.tup r) ∧ RowOk kds r
theorem RowAt.mono {H H' : Hp} {kds : List Str} {x : V} (s : Same H H') (h : RowAt H kds x) : RowAt H' kds x := by
  obtain ⟨p, r, e, g, k⟩ := h
  exact ⟨p, r, e, s _ _ g, k⟩
theorem vals_data {K : PySem.W.Frag} {H : Hp} : ∀ (vs : List V), (∀ v ∈ vs, v = .non ∨ ∃ kd, OfKd kd v) → ∃ ds, Reps K H ds vs ∧ PyData.canLayAll0 ds = true ∧ PyData.depthAll ds = 0 ∧ PyData.eqvAll ds ds = true
  | [], _ => ⟨[], by simp [Reps], by simp [PyData.canLayAll0], by simp [PyData.depthAll], by simp [PyData.eqvAll]⟩
  | v :: vs, h => by
    obtain ⟨ds, h1, h2, h3, h4⟩ := vals_data (K := K) (H := H) vs fun u hu => h u (List.mem_cons_of_mem _ hu)
    rcases h v List.mem_cons_self with rfl | ⟨kd, ⟨_, z, rfl, hz⟩ | ⟨_, i, rfl⟩⟩
    · exact ⟨.none :: ds, by simp only [Reps]; exact ⟨_, _, rfl, by simp [Rep], h1⟩, by simp [PyData.canLayAll0, PyData.canLay0, h2], by simp [PyData.depthAll, PyData.depth, h3], by simp [PyData.eqvAll, PyData.eqv, h4]⟩
    · exact ⟨.str z :: ds, by simp only [Reps]; exact ⟨_, _, rfl, by simp [Rep], h1⟩, by simp [PyData.canLayAll0, PyData.canLay0, h2, strOk_of hz.2], by simp [PyData.depthAll, PyData.depth, h3], by simp [PyData.eqvAll, PyData.eqv, h4]⟩
    · exact ⟨.int i :: ds, by simp only [Reps]; exact ⟨_, _, rfl, by simp [Rep], h1⟩, by simp [PyData.canLayAll0, PyData.canLay0, h2], by simp [PyData.depthAll, PyData.depth, h3], by simp [PyData.eqvAll, PyData.eqv, h4]⟩
theorem rows_data {K : PySem.W.Frag} {H : Hp} {kds : List Str} : ∀ (xs : List V), (∀ x ∈ xs, RowAt H kds x) → ∃ ds, Reps K H ds xs ∧ PyData.canLayAll0 ds = true ∧ PyData.depthAll ds ≤ 1 ∧ PyData.eqvAll ds ds = true
  | [], _ => ⟨[], by simp [Reps], by simp [PyData.canLayAll0], by simp [PyData.depthAll], by simp [PyData.eqvAll]⟩
  | x :: xs, h => by
    obtain ⟨ds, h1, h2, h3, h4⟩ := rows_data (K := K) (H := H) xs (fun u hu => h u (List.mem_cons_of_mem _ hu))
    obtain ⟨p, r, rfl, hp, hk⟩ := h x List.mem_cons_self
    obtain ⟨es, r1, r2, r3, r4⟩ := vals_data (K := K) (H := H) r fun v hv => by
      obtain ⟨i, hi⟩ := List.mem_iff_getElem?.mp hv
      have hil : i < kds.length := by rw [← hk.1]; exact (List.getElem?_eq_some_iff.mp hi).1
      rcases hk.2 i v _ hi (List.getElem?_eq_getElem hil) with e | e
      · exact .inl e
      · exact .inr ⟨_, e⟩
    refine ⟨.tuple es :: ds, ?_, ?_, ?_, ?_⟩
    · simp only [Reps]
      exact ⟨_, _, rfl, by simp only [Rep]; exact ⟨p, _, rfl, .of hp, r1⟩, h1⟩
    · simp [PyData.canLayAll0, PyData.canLay0, h2, r2]
    · simp only [PyData.depthAll, PyData.depth, r3]
      exact Nat.max_le.mpr ⟨by decide, h3⟩
    · simp [PyData.eqvAll, PyData.eqv, h4, r4]
theorem eqR_of {K : PySem.W.Frag} {H : Hp} {kds : List Str} {a b : Addr} {xs : List V} {neg : Bool} {Q : VK} (h1 : H a = some (.lst xs)) (h2 : H b = some (.lst xs)) (hx : ∀ x ∈ xs, RowAt H kds x) (q : Q (.bl (!neg)) H) : rEqD K neg (.ref a) (.ref b) H Q := by
  obtain ⟨ds, r1, r2, r3, r4⟩ := rows_data (K := K) (H := H) xs hx
  have sh : SeqAt.shaped (.list ds) = true := by
    unfold SeqAt.shaped
    simp only [PyData.canLay0, PyData.depth, r2, Bool.true_and]
    exact decide_eq_true (by omega)
  refine ⟨.list ds, .list ds, ?_, ?_, sh, sh, ?_⟩
  · simp only [Rep]; exact ⟨a, xs, rfl, .of h1, r1⟩
  · simp only [Rep]; exact ⟨b, xs, rfl, .of h2, r1⟩
  · have e : PyData.eqv (.list ds) (.list ds) = true := by simp only [PyData.eqv]; exact r4
    rw [e]
    cases neg <;> exact q
theorem row_snoc {H : Hp} {kds : List Str} {p : Addr} {xs : List V} {v : V} (hp : H p = some (.lst xs)) (h : ∀ x ∈ xs, RowAt H kds x) (hv : RowAt H kds v) {ys : List V} : ∀ x ∈ xs ++ [v], RowAt (upd H p (.lst ys)) kds x := fun x hx => by
  have put : ∀ y, RowAt H kds y → RowAt (upd H p (.lst ys)) kds y := fun y ⟨r, rr, e, g, k⟩ => ⟨r, rr, e, by rw [upd_ne (fun z => by rw [z, hp] at g; cases g)]; exact g, k⟩
  rcases List.mem_append.mp hx with hx | hx
  · exact put x (h x hx)
  · rw [List.mem_singleton.mp hx]
    exact put v hv
theorem addTo_len (is : List Nat) (rs : List V) (a : List (List NKey)) : ∀ m, (addTo is rs m a).length ≤ a.length + m
  | 0 => Nat.le_refl _
  | m + 1 => by
    rw [addTo_succ]
    have h1 := addN_len (addTo is rs m a) ((pj is rs).take m)
    have h2 := addTo_len is rs a m
    omega
theorem begs_len (is : List Nat) : ∀ (rss : List (List V)) (a : List (List NKey)), (rss.foldl (addRow is) a).length ≤ a.length + (is.length + 1) * rss.length
  | [], a => Nat.le_refl _
  | rs :: rss, a => by
    have h1 := begs_len is rss (addRow is a rs)
    have h2 : (addRow is a rs).length ≤ a.length + (is.length + 1) := addTo_len is rs a (is.length + 1)
    rw [List.foldl_cons, List.length_cons, Nat.mul_succ]
    omega
theorem reps_true {K : PySem.W.Frag} {H : Hp} : ∀ n : Nat, Reps K H (List.replicate n (PyData.bool true)) (List.replicate n (V.bl true)) ∧ PyData.canLayAll0 (List.replicate n (PyData.bool true)) = true ∧ PyData.depthAll (List.replicate n (PyData.bool true)) = 0 ∧ (List.replicate n (PyData.bool true)).any (fun e => PyData.eqv e (.bool false)) = false
  | 0 => by simp [Reps, PyData.canLayAll0, PyData.depthAll]
  | n + 1 => by
    obtain ⟨r1, r2, r3, r4⟩ := reps_true (K := K) (H := H) n
    refine ⟨?_, ?_, ?_, ?_⟩
    · simp only [List.replicate_succ, Reps]
      exact ⟨_, _, rfl, by simp [Rep], r1⟩
    · simp [List.replicate_succ, PyData.canLayAll0, PyData.canLay0, r2]
    · simp [List.replicate_succ, PyData.depthAll, PyData.depth, r3]
    · rw [List.replicate_succ, List.any_cons, r4]
      simp [PyData.eqv]
theorem no_false {K : PySem.W.Frag} {H : Hp} {D : Addr} {n : Nat} {Q : VK} (h : H D = some (.lst (List.replicate n (V.bl true)))) (q : Q (.bl false) H) : rInD K false (.bl false) (.ref D) H Q := by
  obtain ⟨r1, r2, r3, r4⟩ := reps_true (K := K) (H := H) n
  refine ⟨.bool false, _, by simp [Rep], by simp only [Rep]; exact ⟨D, _, rfl, .of h, r1⟩, by simp only [SeqAt.shaped, PyData.canLay0, PyData.depth]; decide, ?_, ?_⟩
  · simp only [SeqAt.shaped, PyData.canLay0, PyData.depth, r2, r3, Bool.true_and]; decide
  · rw [r4]; exact q
theorem rows_ex {H : Hp} {kds : List Str} : ∀ (xs : List V), (∀ x ∈ xs, RowAt H kds x) → ∃ rs, Rows H kds xs rs
  | [], _ => ⟨[], .nil⟩
  | x :: xs, h => by
    obtain ⟨rs, h1⟩ := rows_ex xs fun y hy => h y (List.mem_cons_of_mem _ hy)
    obtain ⟨p, r, e, hp, hk⟩ := h x List.mem_cons_self
    exact ⟨r :: rs, .cons ⟨p, e, hp, hk⟩ h1⟩
noncomputable def sp_law (K : PySem.W.Frag) : Sp := fun vs H Q _ => ∃ (a : Addr) (ns : List Int), vs = [.ref a] ∧ SqL K H a (ns.map V.int) ∧ ns.length ≤ 63 ∧ ∀ H', Q (.bl true) H'
theorem ok_law (T : Txt K mg f fd) : FnOk P w K mg base CX0 6 (f 21) (fd 21) ["_law_script"] (sp_law K) := by
  refine T.d_law.F.ok sc_law (fun vs H Q E h => ?_) (fun cdv A outer s H vs Q E hr h => ?_)
  · obtain ⟨a, ns, rfl, _⟩ := h
    rfl
  · obtain ⟨a, ns, rfl, hs, hlen, k⟩ := h
    refine ⟨_, (pss_cons (psl 1 sc_law.nd (pe_defL T.d_l_world (ok_l_world T) (hr.mono (by decide)) rfl (by decide) rfl (pal rfl (pvl 0) pa_nil)))
     (pss_cons (psc 2 sc_law.nd (pe_dget (hu_of hr) (pvl 1) pe_str (fun _ _ => rfl)))
     (pss_cons (psl 3 sc_law.nd (pe_defL T.d_l_mix (ok_l_mix T) (hr.mono (by decide)) rfl (by decide) rfl (pal rfl (pe_defL T.d_l_cell_at (ok_l_cell_at T) (hr.mono (by decide)) rfl (by decide) rfl (pal rfl (pvl 0) (pal rfl pe_int pa_nil))) (pal rfl pe_int pa_nil))))
     (pss_cons (psl 4 sc_law.nd (pe_cTy (call_listRng rfl) T.n_list bt_list rfl (by decide) (by decide) rfl (pal rfl (pe_cTy call_rng T.n_range bt_range rfl (by decide) (by decide) rfl (pal rfl (pe_cB (k_len rfl) T.n_len bt_len rfl (by decide) (by decide) rfl (pal rfl (pvc 2) pa_nil)) pa_nil)) pa_nil)))
     (pss_cons (psl 5 sc_law.nd (pe_op op_mod (pvl 3) (pe_cB (k_len rfl) T.n_len bt_len rfl (by decide) (by decide) rfl (pal rfl (pvl 4) pa_nil))))
     (pss_cons (psl 4 sc_law.nd (pe_slice (k_slL rfl) (pe_op op_cat (pe_slice (k_slL rfl) (pvl 4) (po_some (pvl 5)) po_none) (pe_slice (k_slL rfl) (pvl 4) po_none (po_some (pvl 5)))) po_none (po_some (pe_op op_mod (pe_op op_fdiv (pvl 3) pe_int) pe_int))))
     (pss_cons (ps_if (pt_cmpR op_eq (pe_op op_mod (pe_op op_fdiv (pvl 3) pe_int) pe_int) pe_int (nomark _))
     (pss_one (psl 4 sc_law.nd (pe_rev rfl (pvl 4) (pe_un un_neg pe_int))))
     pss_nil)
     (pss_cons (psl 6 sc_law.nd (pe_cTy (k_tuple rfl) T.n_tuple bt_tuple rfl (by decide) (by decide) rfl (pal rfl (pe_comp ["_law_place"] ["_law_script", "_law_world_here", "_law_fields", "_law_seed", "_law_places", "_law_at", "_law_names", "_law_rows", "_law_k", "_law_some", "_law_handed", "_law_told", "_law_due"] rfl (show CompSc _ (defScope s_law) ["_law_script", "_law_world_here", "_law_fields", "_law_seed", "_law_places", "_law_at", "_law_names", "_law_rows", "_law_k", "_law_some", "_law_handed", "_law_told", "_law_due"] ["_law_script", "_law_world_here", "_law_fields", "_law_seed", "_law_places", "_law_at", "_law_names", "_law_rows", "_law_k", "_law_some", "_law_handed", "_law_told", "_law_due"] from compOk_is (by decide +kernel)) (k_piL rfl (pvl 4)) (fun _ _ _ _ _ => (pgl 0 (show (["_law_place", "_law_script", "_law_world_here", "_law_fields", "_law_seed", "_law_places", "_law_at", "_law_names", "_law_rows", "_law_k", "_law_some", "_law_handed", "_law_told", "_law_due"] : List Str).Nodup by decide +kernel))) (fun _ _ _ _ _ => pts_nil) (fun _ _ _ _ _ => (pe_ix (k_ixT rfl) (pe_ix (k_ixL rfl) (pvc 3) (pvl 0) (fun _ _ => rfl)) pe_int (fun _ _ => rfl)))) pa_nil)))
     (pss_cons (psl 7 sc_law.nd (pe_lst pa_nil))
     (pss_cons (ps_for PassesOwn.never rfl (pi_range1 rfl T.n_range (pal rfl (pe_op op_mod (pe_op op_fdiv (pvl 3) pe_int) pe_int) pa_nil)) (pgl 8 sc_law.nd)
     (pss_one (ps_expr (k_bmL rfl PySem.F.plainAttrs_list PySem.F.slot_list_append PySem.F.type_list_append mt_append rfl rfl rfl rfl (pvl 7) (pal rfl (pe_defL T.d_l_row (ok_l_row T) (hr.mono (by decide)) rfl (by decide) rfl (pal rfl (pe_defL T.d_l_mix (ok_l_mix T) (hr.mono (by decide)) rfl (by decide) rfl (pal rfl (pe_op op_add (pe_defL T.d_l_cell_at (ok_l_cell_at T) (hr.mono (by decide)) rfl (by decide) rfl (pal rfl (pvl 0) (pal rfl (pe_op op_add pe_int (pvl 8)) pa_nil))) (pvl 8)) (pal rfl pe_int pa_nil))) (pal rfl (pvl 1) pa_nil))) pa_nil)))))
     (pss_cons (ps_for PassesOwn.never rfl (k_piL rfl (pe_lst (pal rfl (pvl 7) (pal rfl (pe_lst pa_nil) (pal rfl (pe_slice (k_slL rfl) (pvl 7) po_none (po_some pe_int)) pa_nil))))) (pgl 9 sc_law.nd)
     (pss_cons (psl 10 sc_law.nd (pe_cTy (k_list rfl) T.n_list bt_list rfl (by decide) (by decide) rfl (pal rfl (pvl 9) pa_nil)))
     (pss_cons (psc 11 sc_law.nd (pe_defL T.d_heads_of (ok_heads_of T) (hr.mono (by decide)) rfl (by decide) rfl (pal rfl (pe_cTy (k_list rfl) T.n_list bt_list rfl (by decide) (by decide) rfl (pal rfl (pvc 2) pa_nil)) (pal rfl (pvl 6) (pal rfl (pvl 10) pa_nil)))))
     (pss_cons (psc 12 sc_law.nd (pe_defL T.d_l_beginnings (ok_l_beginnings T) (hr.mono (by decide)) rfl (by decide) rfl (pal rfl (pvl 9) (pal rfl (pvl 4) pa_nil))))
     (pss_cons (ps_if (PW.pt (pw_or (pt_not (pt_val (pe_cB (k_isP rfl) T.n_isinstance bt_isinstance rfl (by decide) (by decide) rfl (pal rfl (pvc 11) (pal rfl (pty T.n_list bt_list) pa_nil))))) (pw_or (pt_cmpR op_ne (pe_cB (k_len rfl) T.n_len bt_len rfl (by decide) (by decide) rfl (pal rfl (pvc 11) pa_nil)) (pe_cB (k_len rfl) T.n_len bt_len rfl (by decide) (by decide) rfl (pal rfl (pvc 12) pa_nil)) (nomark _)) (pw_or1 (pt_cmpR (k_neD rfl hr.units) (pvl 10) (pvl 9) (nomark _))))))
     (pss_one (ps_ret pe_bl))
     pss_nil)
     (pss_cons (ps_if (pt_cmpR (k_inD rfl hr.units) pe_bl (pe_comp ["_law_head"] ["_law_script", "_law_world_here", "_law_fields", "_law_seed", "_law_places", "_law_at", "_law_names", "_law_rows", "_law_k", "_law_some", "_law_handed", "_law_told", "_law_due"] rfl (show CompSc _ (defScope s_law) ["_law_script", "_law_world_here", "_law_fields", "_law_seed", "_law_places", "_law_at", "_law_names", "_law_rows", "_law_k", "_law_some", "_law_handed", "_law_told", "_law_due"] ["_law_script", "_law_world_here", "_law_fields", "_law_seed", "_law_places", "_law_at", "_law_names", "_law_rows", "_law_k", "_law_some", "_law_handed", "_law_told", "_law_due"] from compOk_is (by decide +kernel)) (k_piL rfl (pvc 11)) (fun _ _ _ _ _ => (pgl 0 (show (["_law_head", "_law_script", "_law_world_here", "_law_fields", "_law_seed", "_law_places", "_law_at", "_law_names", "_law_rows", "_law_k", "_law_some", "_law_handed", "_law_told", "_law_due"] : List Str).Nodup by decide +kernel))) (fun _ _ _ _ _ => pts_nil) (fun _ _ _ _ _ => (pe_and (pe_cB (k_isP rfl) T.n_isinstance bt_isinstance rfl (by decide) (by decide) rfl (pal rfl (pvl 0) (pal rfl (pty T.n_tuple bt_tuple) pa_nil))) (pe_one (pe_cmpR (k_inD rfl hr.units) (pvl 0) (pvc 13) rfl))))) rfl)
     (pss_one (ps_ret pe_bl))
     pss_nil)
     (pss_one (ps_if (pt_cmpR (k_inD rfl hr.units) pe_bl (pe_comp ["_law_k"] ["_law_script", "_law_world_here", "_law_fields", "_law_seed", "_law_places", "_law_at", "_law_names", "_law_rows", "#8", "_law_some", "_law_handed", "_law_told", "_law_due"] rfl (show CompSc _ (defScope s_law) ["_law_script", "_law_world_here", "_law_fields", "_law_seed", "_law_places", "_law_at", "_law_names", "_law_rows", "_law_k", "_law_some", "_law_handed", "_law_told", "_law_due"] ["_law_script", "_law_world_here", "_law_fields", "_law_seed", "_law_places", "_law_at", "_law_names", "_law_rows", "#8", "_law_some", "_law_handed", "_law_told", "_law_due"] from compOk_is (by decide +kernel)) (pi_range1 rfl T.n_range (pal rfl (pe_op op_sub (pe_cB (k_len rfl) T.n_len bt_len rfl (by decide) (by decide) rfl (pal rfl (pvc 11) pa_nil)) pe_int) pa_nil)) (fun _ _ _ _ _ => (pgl 0 (show (["_law_k", "_law_script", "_law_world_here", "_law_fields", "_law_seed", "_law_places", "_law_at", "_law_names", "_law_rows", "#8", "_law_some", "_law_handed", "_law_told", "_law_due"] : List Str).Nodup by decide +kernel))) (fun _ _ _ _ _ => pts_nil) (fun _ _ _ _ _ => (pe_defL T.d_l_before (ok_l_before T) (hr.mono (by decide)) rfl (by decide) rfl (pal rfl (pe_ix (k_ixL rfl) (pvc 12) (pvl 0) (fun _ _ => rfl)) (pal rfl (pe_ix (k_ixL rfl) (pvc 12) (pe_op op_add (pvl 0) pe_int) (fun _ _ => rfl)) pa_nil))))) rfl)
     (pss_one (ps_ret pe_bl))
     pss_nil))))))))
     (pss_one (ps_ret pe_bl))))))))))))), ?_⟩
    generalize hB1 : tSeq (tAsg (tCB _ (tCons (tComp _ _ _ _ _) tNil)) _) _ = B1
    walk_at "dl"
    refine ⟨a, ns, rfl, hs, fun H1 dW zs kds s1 hW => ?_⟩
    obtain ⟨kvs, l, w', b, xs, ws, h1, h2, h3, h4, h5, h6, h7, h8, h9, h10, h11, h12, h13, h14⟩ := id hW
    have hnl : zs.length = xs.length := h6.1
    have hkl : kds.length = xs.length := h6.2.1
    refine ⟨dW, rfl, _, wget h1 h2, a, ns, _, rfl, s1.seq hs, by decide, fun v0 => ⟨_, _, rfl, l, rfl, xs, .inl (.of h5), _, rfl, by omega, by omega, fun p hp => ⟨p, xs.length, rfl, upd_same, by omega, fun q hq => ?_⟩⟩⟩
    have t1 : Same H1 (upd (upd H1 p (HO.rng 0 (xs.length : Int))) q (HO.lst ((List.range xs.length).map fun (i : Nat) => V.int i))) := (Same.upd_new hp _).new hq _
    have g1 : upd (upd H1 p (HO.rng 0 (xs.length : Int))) q (HO.lst ((List.range xs.length).map fun (i : Nat) => V.int i)) q = some (.lst ((List.range xs.length).map fun (i : Nat) => V.int i)) := upd_same
    generalize upd (upd H1 p (HO.rng 0 (xs.length : Int))) q (HO.lst ((List.range xs.length).map fun (i : Nat) => V.int i)) = H2 at *
    have hrg : (List.range xs.length).length = xs.length := List.length_range
    have hrm : ∀ i ∈ List.range xs.length, i < kds.length := fun i hi => by rw [hkl]; exact List.mem_range.mp hi
    generalize List.range xs.length = rg at *
    generalize hsd : mixI v0 2 = sd
    refine ⟨q, rfl, _, .inl (.of g1), _, rfl, by rw [List.length_map, hrg]; omega, q, rfl, _, .of g1, fun p1 hp1 => ?_⟩
    have hn0 : (0 : Int) < (xs.length : Int) := by omega
    have b1 := Int.emod_nonneg sd (show (xs.length : Int) ≠ 0 by omega)
    have b2 := Int.emod_lt_of_pos sd hn0
    obtain ⟨t, ht⟩ : ∃ t : Nat, sd % (xs.length : Int) = (t : Int) := ⟨(sd % (xs.length : Int)).toNat, by omega⟩
    rw [List.length_map, hrg, ht]
    have e1 : cutV (rg.map fun i : Nat => V.int i) (some (t : Int)) none = (rg.drop t).map fun i : Nat => V.int i := by rw [show cutV (rg.map fun i : Nat => V.int i) (some (t : Int)) none = (rg.map fun i : Nat => V.int i).drop t from cut_from _ t, List.map_drop]
    have e2 : cutV (rg.map fun i : Nat => V.int i) none (some (t : Int)) = (rg.take t).map fun i : Nat => V.int i := by rw [cut_to, List.map_take]
    rw [e1]
    have u2 := Same.upd_new hp1 (HO.lst ((rg.drop t).map fun i : Nat => V.int i))
    have g2 : upd H2 p1 (HO.lst ((rg.drop t).map fun i : Nat => V.int i)) p1 = some (.lst ((rg.drop t).map fun i : Nat => V.int i)) := upd_same
    generalize upd H2 p1 (HO.lst ((rg.drop t).map fun i : Nat => V.int i)) = H3 at *
    refine ⟨q, rfl, _, .of (u2 _ _ g1), fun p2 hp2 => ?_⟩
    rw [e2]
    have u3 := Same.upd_new hp2 (HO.lst ((rg.take t).map fun i : Nat => V.int i))
    have g3 : upd H3 p2 (HO.lst ((rg.take t).map fun i : Nat => V.int i)) p2 = some (.lst ((rg.take t).map fun i : Nat => V.int i)) := upd_same
    have g2' := u3 _ _ g2
    generalize upd H3 p2 (HO.lst ((rg.take t).map fun i : Nat => V.int i)) = H4 at *
    have ll : (rg.drop t ++ rg.take t).length = xs.length := by rw [List.length_append, List.length_drop, List.length_take, hrg]; omega
    have hmm : ∀ i ∈ rg.drop t ++ rg.take t, i < kds.length := fun i hi => by
      rcases List.mem_append.mp hi with h | h
      · exact hrm i (List.mem_of_mem_drop h)
      · exact hrm i (List.mem_of_mem_take h)
    refine ⟨p1, p2, _, _, rfl, rfl, g2', g3, small_line (by rw [← List.length_append, ← List.map_append, List.length_map, ll]; omega), fun p3 hp3 => ?_⟩
    rw [← List.map_append]
    generalize rg.drop t ++ rg.take t = rg2 at *
    have u4 := Same.upd_new hp3 (HO.lst (rg2.map fun i : Nat => V.int i))
    have g4 : upd H4 p3 (HO.lst (rg2.map fun i : Nat => V.int i)) p3 = some (.lst (rg2.map fun i : Nat => V.int i)) := upd_same
    generalize upd H4 p3 (HO.lst (rg2.map fun i : Nat => V.int i)) = H5 at *
    have S5 := ((t1.trans u2).trans u3).trans u4
    have tail : ∀ (G : Hp) (pp : Addr) (is : List Nat), Same H1 G → G pp = some (.lst (is.map fun i : Nat => V.int i)) → (∀ i ∈ is, i < kds.length) → is.length ≤ 3 → B1 { nx := fun x H' => Q V.non H', rt := Q } [some (V.ref a), some (V.ref dW), some (V.ref l), some (V.int sd), some (V.ref pp), some (V.int (t : Int)), none, none, none, none, none, none, none] G := by
      intro G pp is sG gp hi hi3
      subst hB1
      generalize hB2 : tSeq (tAsg (tLst tNil) _) _ = B2
      walk_at "dl"
      refine ⟨⟨_, .of gp⟩, ?_⟩
      refine comp_of (as := is) (g := fun i : Nat => V.int i) walk_list (small_line (by omega)) (fun H' q => q.seq (.of gp)) (fun _ => true) (fun i => V.str (zs.getD i wordS)) (fun n G1 Q' _ s5 q => ?_) (fun n G1 Q' hin _ s5 q => ?_) (fun G1 s5 D hD => ?_)
      · exact q G1 (Same.refl _)
      · have hil : n < xs.length := by rw [← hkl]; exact hi n hin
        obtain ⟨pf, nn, kd, f1, f2, f3, f4⟩ := h6.at hil
        walk_at "dl"
        refine ⟨l, _, _, _, rfl, rfl, .of (s5 _ _ (sG _ _ h5)), atI_nat f1, pf, _, _, _, rfl, rfl, .of (s5 _ _ (sG _ _ f4)), atI_nat (j := 0) rfl, ?_⟩
        have e : V.str nn = V.str (zs.getD n wordS) := by rw [List.getD_eq_getElem?_getD, f2]; rfl
        rw [e]
        exact q G1 (Same.refl _)
      rw [List.filter_eq_self.mpr (fun _ _ => rfl)]
      have hup := hD
      refine ⟨_, .inl ⟨.of upd_same, fun ln hln => ?_⟩⟩
      have sN : Same G (upd (upd G1 D (HO.lst (is.map fun i => V.str (zs.getD i wordS)))) ln (HO.tup (is.map fun i => V.str (zs.getD i wordS)))) := (s5.new hD _).new hln _
      have gn : upd (upd G1 D (HO.lst (is.map fun i => V.str (zs.getD i wordS)))) ln (HO.tup (is.map fun i => V.str (zs.getD i wordS))) ln = some (.tup (is.map fun i => V.str (zs.getD i wordS))) := upd_same
      generalize upd (upd G1 D (HO.lst (is.map fun i => V.str (zs.getD i wordS)))) ln (HO.tup (is.map fun i => V.str (zs.getD i wordS))) = G2 at *
      have SN := sG.trans sN
      have gp2 := sN _ _ gp
      clear hD hup s5 hln
      subst hB2
      walk_at "dl"
      refine ⟨Nat.zero_le _, fun pr hpr => ?_⟩
      have w1 := Same.upd_new hpr (HO.lst [])
      have y1 : upd G2 pr (HO.lst []) pr = some (.lst []) := upd_same
      generalize upd G2 pr (HO.lst []) = G3 at *
      refine for_in ?_
      walk_at "dl"
      have m1 : 0 ≤ sd / 64 % 41 ∧ sd / 64 % 41 < 41 := ⟨Int.emod_nonneg _ (by decide), Int.emod_lt_of_pos _ (by decide)⟩
      obtain ⟨R, hRR⟩ : ∃ R : Nat, sd / 64 % 41 = (R : Int) := ⟨(sd / 64 % 41).toNat, by omega⟩
      rw [hRR] at m1 ⊢
      refine ⟨⟨by decide, by decide⟩, by omega, by omega, ?_⟩
      rw [Int.toNat_natCast]
      generalize hD1 : (Ends.mk _ _ _ _ : Ends) = D1
      refine ForW.of (walk_range (n := R)) (fun j σ H' => (∃ v8, σ = [some (V.ref a), some (V.ref dW), some (V.ref l), some (V.int sd), some (V.ref pp), some (V.int (t : Int)), some (V.ref ln), some (V.ref pr), v8, none, none, none, none]) ∧ Same G2 H' ∧ ∃ xr, H' pr = some (.lst xr) ∧ (∀ x ∈ xr, RowAt H' kds x) ∧ xr.length = j) ⟨⟨none, rfl⟩, w1, [], y1, (fun _ h => nomatch h), rfl⟩ (fun _ _ _ _ _ => trivial) ?_ ?_
      · rintro j x σ G5 hx ⟨⟨v8, rfl⟩, s5, xr, g5, t5, l5⟩
        obtain ⟨hj, rfl⟩ := range_item hx
        subst hD1
        walk_at "dl"
        refine ⟨.inl ⟨rfl, _, .of g5⟩, a, ns, _, rfl, (s1.trans (SN.trans s5)).seq hs, by omega, fun v1 => ⟨v1, rfl, _, _, rfl, _, dW, zs, kds, rfl, hW.mono (SN.trans s5), fun H6 q rr s6 hq hok => ?_⟩⟩
        exact ⟨pr, xr, _, rfl, rfl, s6 _ _ g5, by rw [sizeLine_eq]; omega, ⟨_, rfl⟩, (s5.trans s6).set hpr _, _, upd_same, row_snoc (s6 _ _ g5) (fun x hx => (t5 x hx).mono s6) ⟨q, rr, rfl, hq, hok⟩, by simp [l5]⟩
      · rintro σ G5 ⟨⟨v8, rfl⟩, s5, xr, g5, t5, l5⟩
        rw [rangeV_len] at l5
        subst hD1
        walk_at "dl"
        refine for_in ?_
        walk_at "dl"
        refine ⟨Nat.zero_le _, fun p5 hp5 => ?_⟩
        have x1 := Same.upd_new hp5 (HO.lst [])
        have z1 : upd G5 p5 (HO.lst []) p5 = some (.lst []) := upd_same
        generalize upd G5 p5 (HO.lst []) = F1 at *
        refine ⟨xr, .of (x1 _ _ g5), fun p6 hp6 => ?_⟩
        have x2 := Same.upd_new hp6 (HO.lst (cutV xr none (some 1)))
        have z2 : upd F1 p6 (HO.lst (cutV xr none (some 1))) p6 = some (.lst (cutV xr none (some 1))) := upd_same
        generalize upd F1 p6 (HO.lst (cutV xr none (some 1))) = F2 at *
        refine ⟨small_line (by decide), fun p7 hp7 => ?_⟩
        have x3 := Same.upd_new hp7 (HO.lst [V.ref pr, V.ref p5, V.ref p6])
        have z3 : upd F2 p7 (HO.lst [V.ref pr, V.ref p5, V.ref p6]) p7 = some (.lst [V.ref pr, V.ref p5, V.ref p6]) := upd_same
        generalize upd F2 p7 (HO.lst [V.ref pr, V.ref p5, V.ref p6]) = F3 at *
        have X3 := (x1.trans x2).trans x3
        have some3 : ∀ x ∈ [V.ref pr, V.ref p5, V.ref p6], ∃ ls xs', x = .ref ls ∧ F3 ls = some (.lst xs') ∧ (∀ y ∈ xs', RowAt F3 kds y) ∧ xs'.length ≤ 40 := fun x hx => by
          simp only [List.mem_cons, List.not_mem_nil, or_false] at hx
          rcases hx with rfl | rfl | rfl
          · exact ⟨pr, xr, rfl, X3 _ _ g5, fun y hy => (t5 y hy).mono X3, by omega⟩
          · exact ⟨p5, [], rfl, (x2.trans x3) _ _ z1, (fun _ h => nomatch h), by decide⟩
          · exact ⟨p6, _, rfl, x3 _ _ z2, fun y hy => (t5 y (by unfold cutV at hy; exact List.mem_of_mem_drop (List.mem_of_mem_take hy))).mono X3, Nat.le_trans (cutV_length xr none (some 1)) (by omega)⟩
        have Z3 := (SN.trans s5).trans X3
        have hn3 := (s5.trans X3) _ _ gn
        have hp3' := (s5.trans X3) _ _ gp2
        clear x1 x2 x3 X3 z1 z2 g5 t5 hp5 hp6 hp7
        refine ⟨⟨_, .of z3⟩, ?_⟩
        generalize hD2 : (Ends.mk _ _ _ _ : Ends) = D2
        refine ForW.of (walk_list (xs := [V.ref pr, V.ref p5, V.ref p6])) (fun i σ H' => (∃ v9 v10 v11 v12, σ = [some (V.ref a), some (V.ref dW), some (V.ref l), some (V.int sd), some (V.ref pp), some (V.int (t : Int)), some (V.ref ln), some (V.ref pr), v8, v9, v10, v11, v12]) ∧ Same F3 H') ⟨⟨none, none, none, none, rfl⟩, Same.refl _⟩ (fun _ _ H' _ z => z.2.seq (.of z3)) ?_ ?_
        · rintro i x σ G6 hx ⟨⟨v9, v10, v11, v12, rfl⟩, s6⟩
          obtain ⟨ls, xs', rfl, hls, hrow, hl40⟩ := some3 x (List.mem_of_getElem? hx)
          subst hD2
          walk_at "dl"
          refine ⟨xs', .inl (.of (s6 _ _ hls)), fun lh hlh => ?_⟩
          have y1 := Same.upd_new hlh (HO.lst xs')
          have q1 : upd G6 lh (HO.lst xs') lh = some (.lst xs') := upd_same
          generalize upd G6 lh (HO.lst xs') = G7 at *
          refine ⟨xs, .inl (.of (y1 _ _ (s6 _ _ (Z3 _ _ h5)))), fun lf hlf => ?_⟩
          have y2 := Same.upd_new hlf (HO.lst xs)
          have q2 : upd G7 lf (HO.lst xs) lf = some (.lst xs) := upd_same
          generalize upd G7 lf (HO.lst xs) = G8 at *
          have Y2 := s6.trans (y1.trans y2)
          obtain ⟨rss, hRs⟩ := rows_ex xs' hrow
          have hrl := Paired.length hRs
          refine ⟨lf, ln, lh, xs, xs', rss, zs, kds, is, rfl, q2, h6.mono (Z3.trans Y2), Y2 _ _ hn3, hi, by omega, y2 _ _ q1, hRs.mono Y2, by omega, fun H9 pt ts kss s9 gt tt pm pw ty => ?_⟩
          have Y9 := Y2.trans s9
          refine ⟨ls, pp, xs', rss, kds, is, rfl, Y9 _ _ hls, hRs.mono Y9, by omega, Y9 _ _ hp3', hi, by omega, fun H10 pd td s10 gd tdd => ?_⟩
          have Y10 := Y9.trans s10
          have gt' := s10 _ _ gt
          have tt' := TupsV.mono s10 tt
          have q1' := (y2.trans (s9.trans s10)) _ _ q1
          have hls' := Y10 _ _ hls
          have hrow' : ∀ y ∈ xs', RowAt H10 kds y := fun y hy => (hrow y hy).mono Y10
          have l1 := Paired.length tt
          have l2 := Paired.length tdd
          have l3 := pm.length_eq
          have tyb : ∀ a ∈ begs is rss, ∀ k ∈ a, okN k := fun a ha => (ty a (pm.mem_iff.mpr ha)).ok
          clear q1 gt tt s10 s9 y2 y1 q2
          refine ⟨"list", Pl.of_lst gt', by decide, ?_⟩
          rw [if_neg (by decide)]
          refine ⟨pt, rfl, ts, .inl (.of gt'), pd, rfl, td, .inl (.of gd), ?_⟩
          rw [if_neg (by rw [l1, l2, l3]; simp)]
          refine eqR_of q1' hls' hrow' ⟨_, rfl, ?_⟩
          rw [if_neg (by decide)]
          refine ⟨pt, rfl, ⟨_, .of gt'⟩, ?_⟩
          have hkz : kss.length ≤ 1000 := by
            have z1 : (begs is rss).length ≤ 1 + (is.length + 1) * rss.length := begs_len is rss [[]]
            have z2 : (is.length + 1) * rss.length ≤ 4 * 40 := Nat.mul_le_mul (by omega) (by omega)
            omega
          refine comp_walk (walk_list (xs := ts)) (small_line (by omega)) (fun j ys H' => H' = H10 ∧ ys = List.replicate j (V.bl true)) ⟨rfl, rfl⟩ (fun _ _ H' _ q => by rw [q.1]; exact .of gt') (fun j ys H' q => by rw [q.2, List.length_replicate]; exact Nat.le_refl _) (fun j x ys H' hx q => ?_) (fun ys H' q D hD => ?_)
          · obtain ⟨rfl, rfl⟩ := q
            obtain ⟨ks, hks, b, rfl, hb⟩ := Paired.ix tt' hx
            have hmem := List.mem_of_getElem? hks
            walk_at "dl"
            refine ⟨"tuple", Pl.of_tup hb, by decide, ?_⟩
            rw [if_pos (by decide)]
            refine ks_in hb (ty ks hmem).ok gd tdd tyb ?_
            rw [if_neg (by decide), hasN_iff.mpr (pm.mem_iff.mp hmem)]
            exact ⟨⟨_, rfl⟩, rfl, by rw [← List.replicate_succ', List.replicate_succ]⟩
          · obtain ⟨rfl, rfl⟩ := q
            have s11 := Same.upd_new hD (HO.lst (List.replicate ts.length (V.bl true)))
            refine no_false upd_same ⟨_, rfl, ?_⟩
            rw [if_neg (by decide)]
            generalize upd H' D (HO.lst (List.replicate ts.length (V.bl true))) = H11 at *
            refine ⟨pt, rfl, ts, .inl (.of (s11 _ _ gt')), by omega, by omega, ?_⟩
            rw [show ((ts.length : Int) - 1).toNat = ts.length - 1 by omega]
            refine comp_walk (walk_range (n := ts.length - 1)) (by rw [rangeV_len]; exact small_line (by omega)) (fun j ys H' => H' = H11 ∧ ys = List.replicate j (V.bl true)) ⟨rfl, rfl⟩ (fun _ _ _ _ _ => trivial) (fun j ys H' q => by rw [q.2, List.length_replicate]; exact Nat.le_refl _) (fun j x ys H12 hx q => ?_) (fun ys H12 q D2 hD2 => ?_)
            · obtain ⟨rfl, rfl⟩ := q
              obtain ⟨hj, rfl⟩ := range_item hx
              rw [Int.zero_add]
              have tk := TupsV.mono s11 tt'
              obtain ⟨k0, hk0, b0, e0, hb0⟩ := Paired.ix tk (List.getElem?_eq_getElem (show j < ts.length by omega))
              obtain ⟨k1, hk1, b1', e1', hb1⟩ := Paired.ix tk (List.getElem?_eq_getElem (show j + 1 < ts.length by omega))
              have lx : lexN k0 k1 = true := by
                obtain ⟨i0, z0⟩ := List.getElem?_eq_some_iff.mp hk0
                obtain ⟨i1, z1⟩ := List.getElem?_eq_some_iff.mp hk1
                have := List.pairwise_iff_getElem.mp pw j (j + 1) i0 i1 (by omega)
                rw [z0, z1] at this
                exact this
              have a0 : atI ts (j : Int) = some (V.ref b0) := atI_nat (by rw [List.getElem?_eq_getElem (show j < ts.length by omega), e0])
              have a1 : atI ts ((j : Int) + 1) = some (V.ref b1') := atI_nat (j := j + 1) (by rw [List.getElem?_eq_getElem (show j + 1 < ts.length by omega), e1'])
              walk_at "dl"
              exact ⟨pt, ts, _, _, rfl, rfl, .of (s11 _ _ gt'), a0, pt, ts, _, _, rfl, rfl, .of (s11 _ _ gt'), a1, b0, rfl, b1', rfl, k0, hb0, k1, hb1, _, ty k0 (List.mem_of_getElem? hk0), ty k1 (List.mem_of_getElem? hk1), by rw [List.length_map]; omega, lx, ⟨_, rfl⟩, rfl, by rw [← List.replicate_succ', List.replicate_succ]⟩
            · obtain ⟨rfl, rfl⟩ := q
              refine no_false upd_same ⟨_, rfl, ?_⟩
              rw [if_neg (by decide)]
              exact ⟨⟨_, rfl⟩, (Y10.trans s11).new hD2 _⟩
        · rintro σ G6 ⟨⟨v9, v10, v11, v12, rfl⟩, s6⟩
          subst hD2
          walk_at "dl"
          exact k _
    have m1 : 0 ≤ sd / 8 % 4 ∧ sd / 8 % 4 < 4 := ⟨Int.emod_nonneg _ (by decide), Int.emod_lt_of_pos _ (by decide)⟩
    obtain ⟨m, hm⟩ : ∃ m : Nat, sd / 8 % 4 = (m : Int) := ⟨(sd / 8 % 4).toNat, by omega⟩
    refine ⟨sd, rfl, ⟨by decide, by decide⟩, p3, rfl, _, .of g4, fun p4 hp4 => ⟨sd, rfl, ⟨by decide, by decide⟩, ?_⟩⟩
    rw [hm] at m1 ⊢
    have e3 : cutV (rg2.map fun i : Nat => V.int i) none (some (m : Int)) = (rg2.take m).map fun i : Nat => V.int i := by rw [cut_to, List.map_take]
    rw [e3]
    have hl3 : (rg2.take m).length ≤ 3 := by rw [List.length_take]; omega
    have hi3 : ∀ i ∈ rg2.take m, i < kds.length := fun i hi => hmm i (List.mem_of_mem_take hi)
    generalize rg2.take m = is at *
    have u5 := S5.new hp4 (HO.lst (is.map fun i : Nat => V.int i))
    have g5 : upd H5 p4 (HO.lst (is.map fun i : Nat => V.int i)) p4 = some (.lst (is.map fun i : Nat => V.int i)) := upd_same
    generalize upd H5 p4 (HO.lst (is.map fun i : Nat => V.int i)) = H6 at *
    by_cases c5 : sd / 32 % 2 = 1
    · rw [if_pos c5]
      refine ⟨_, .of g5, fun p5 hp5 => ?_⟩
      rw [← List.map_reverse]
      exact tail _ p5 is.reverse (u5.new hp5 _) upd_same (fun i hi => hi3 i (List.mem_reverse.mp hi)) (by rw [List.length_reverse]; exact hl3)
    · rw [if_neg c5]
      exact tail _ p4 is u5 g5 hi3 hl3
end
theorem walk {l : PySem.W.OpenLaw} {q : Program} {loose : List Str} {XP : (Str → Option Value) → Heap → Prop} {YP : World → Heap → Prop} {d : DefRec} {K : Params → PySem.W.Frag} (hn : l.most = some 63) (hdf : d.params.defaults = [])
    (hY : ∀ (w : World) (h : Heap), YP w h → (K w.params).In h)
    (F : ∀ (w : World) (mg : Str → Option Value) (fa : Addr) (h : Heap), (K w.params).In h → h.Ns mainGlobals mg → mg d.name = some (.ref fa) →
      ∃ fd : FuncData, (∀ (s : Shared) (u : Value), BindsTo s fd ⟨[u], []⟩ [("_law_script", u)]) ∧ ∀ base : Heap, (K w.params).In base → base.Ns mainGlobals mg → FnOk l.prog w (K w.params) mg base CX0 6 fa fd ["_law_script"] (sp_law (K w.params))) :
    PySem.W.WalkO q loose XP YP l.row.toRowW d [] (fun f vs => PySem.call f vs) :=
  L2.walk_of (n := 63) (k := 6) (x := "_law_script") (CX := fun _ => CX0) (sp := fun w => sp_law (K w.params)) hn (by decide) hdf ⟨rfl, by decide, by decide⟩ hY F (fun _ _ a ns hl _ hS => ⟨a, ns, rfl, hS, hl, fun _ => rfl⟩) fun _ _ _ _ _ z => z
theorem all_mk {l : PySem.W.OpenLaw} {w : World} {K : PySem.W.Frag} {h : Heap} {mg : Str → Option Value} {fa : Addr} (X : K.In h) (G : h.Ns mainGlobals mg) (hfa : mg "law" = some (.ref fa)) (T : ∃ f fd, Txt K mg f fd ∧ f 21 = f 21 ∧ ∃ kV dc pm an cd ct, fd 21 = PySem.W.fnOf "law" "law" (defArgs s_law) (defBody s_law) (defScope s_law) .none kV dc pm an cd ct) :
    ∃ fd : FuncData, (∀ (s : Shared) (v : Value), BindsTo s fd ⟨[v], []⟩ [("_law_script", v)]) ∧ ∀ base : Heap, K.In base → base.Ns mainGlobals mg → FnOk l.prog w K mg base CX0 6 fa fd ["_law_script"] (sp_law K) := by
  obtain ⟨f, fd, T, _, kV, dc, pm, an, cd, ct, e⟩ := T
  have e2 := hfa.symm.trans T.d_law.m
  cases e2
  exact ⟨fd 21, fun s v => by rw [e]; exact .of_eq rfl, fun base _ _ => ok_law T⟩
end NS
open PySem PySem.W PyProof.Rows
set_option maxRecDepth 100000 in
set_option maxHeartbeats 0 in
theorem PySem.Challenge.cw_crosshall_k13_heads_in_order_holds : PySem.Challenge.rw_crosshall_k13_heads_in_order.Holds := by
  w_on; o_law; k_head; (case hw => w_witness2)
  k_fill
  refine NS.walk (l := PySem.Challenge.rw_crosshall_k13_heads_in_order) rfl rfl (fun w h Y => by first | exact PySem.W.kIn_of Y | exact PySem.W.km_in_of Y) ?F
  case F =>
    intro w mg fa h KX G hmg
    refine NS.all_mk KX G hmg ?_
    suffices TT : ∃ f fd, NS.Txt (L2.KOf KX) mg f fd ∧ f 21 = f 21 ∧ ∃ kV dc pm an cd ct, fd 21 = PySem.W.fnOf "law" "law" (L2.defArgs NS.s_law) (L2.defBody NS.s_law) (L2.defScope NS.s_law) .none kV dc pm an cd ct from TT
    dsimp only [L2.KOf]
    obtain ⟨f, fd, T, _, z⟩ : ∃ f fd, NS.Txt _ mg f fd ∧ f 21 = _ ∧ ∃ kV dc pm an cd ct, fd 21 = PySem.W.fnOf "law" "law" (L2.defArgs NS.s_law) (L2.defBody NS.s_law) (L2.defScope NS.s_law) .none kV dc pm an cd ct := by
      refine' NS.txt_mk KX G ?a1 ?a2 ?a4 ?l4 ?c4 ?k4 ?a6 ?l6 ?c6 ?k6 ?a8 ?l8 ?c8 ?k8 ?a9 ?l9 ?c9 ?k9 ?a10 ?l10 ?c10 ?k10 ?a12 ?l12 ?c12 ?k12 ?a13 ?l13 ?c13 ?k13 ?a14 ?l14 ?c14 ?k14 ?a15 ?l15 ?c15 ?k15 ?a16 ?l16 ?c16 ?k16 ?a17 ?l17 ?c17 ?k17 ?a18 ?l18 ?c18 ?k18 ?a19 ?l19 ?c19 ?k19 ?a20 ?l20 ?c20 ?k20 ?a21 ?l21 ?c21 ?k21 ?z_enumerate ?z_isinstance ?z_len ?z_list ?z_min ?z_range ?z_sorted ?z_tuple
      (case a1 => k_is)
      (case a2 => k_is)
      (case a4 => k_is)
      (case l4 => k_is)
      (case c4 => k_is)
      (case k4 => k_is)
      (case a6 => k_is)
      (case l6 => k_is)
      (case c6 => k_is)
      (case k6 => k_is)
      (case a8 => k_is)
      (case l8 => k_is)
      (case c8 => k_is)
      (case k8 => k_is)
      (case a9 => k_is)
      (case l9 => k_is)
      (case c9 => k_is)
      (case k9 => k_is)
      (case a10 => k_is)
      (case l10 => k_is)
      (case c10 => k_is)
      (case k10 => k_is)
      (case a12 => k_is)
      (case l12 => k_is)
      (case c12 => k_is)
      (case k12 => k_is)
      (case a13 => k_is)
      (case l13 => k_is)
      (case c13 => k_is)
      (case k13 => k_is)
      (case a14 => k_is)
      (case l14 => k_is)
      (case c14 => k_is)
      (case k14 => k_is)
      (case a15 => k_is)
      (case l15 => k_is)
      (case c15 => k_is)
      (case k15 => k_is)
      (case a16 => k_is)
      (case l16 => k_is)
      (case c16 => k_is)
      (case k16 => k_is)
      (case a17 => k_is)
      (case l17 => k_is)
      (case c17 => k_is)
      (case k17 => k_is)
      (case a18 => k_is)
      (case l18 => k_is)
      (case c18 => k_is)
      (case k18 => k_is)
      (case a19 => k_is)
      (case l19 => k_is)
      (case c19 => k_is)
      (case k19 => k_is)
      (case a20 => k_is)
      (case l20 => k_is)
      (case c20 => k_is)
      (case k20 => k_is)
      (case a21 => k_is)
      (case l21 => k_is)
      (case c21 => k_is)
      (case k21 => k_is)
      (case z_enumerate => k_is)
      (case z_isinstance => k_is)
      (case z_len => k_is)
      (case z_list => k_is)
      (case z_min => k_is)
      (case z_range => k_is)
      (case z_sorted => k_is)
      (case z_tuple => k_is)
    exact ⟨f, fd, T, rfl, z⟩
