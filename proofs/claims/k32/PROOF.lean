import PyProof.Rows.All
import Wide.All
import OpenK.AllK
import Wide.FinOn
import Lean
import PyProof.EqAt
import PyProof.EqKinds
import PyProof.TupleCall
import OpenK.KOwn
import PyProof.InstStoreFacts
import PyProof.EnumFor
import PyProof.EnumMake
import PyProof.EnumStmt
import KE.KDictList
import PyProof.ListRange
import PyProof.Rows.SetFrom
import PyProof.WalksMore
import PyProof.ZipIter
import PyProof.AttrMissSeq
import KE.KDictOf
import PyProof.MinMaxWalk
import PyProof.Rows.CallKwBuiltin
import KE.KMinKey
import KE.KRevSl
import PyProof.SumAny
import PyProof.P3In
import PyProof.SeqI3
import PyProof.MaxThree
import PyProof.SetKind
import PyProof.Rows.SortRunsK
import PyProof.Rows.SortShellK
import PySem.Challenge.RW_crosshall_k32_whole_a_flow_or_a_cut
-- CHANGE: your row's module here, as the last of these rows
set_option compiler.extract_closed false
set_option Elab.async false
set_option linter.all false
set_option maxRecDepth 100000
namespace L2
open PySem PySem.Spec PyProof.Rows
noncomputable abbrev Key := Sum Int Str
noncomputable def keyIs : Key → Value → Bool
  | .inl k, v => Value.isInt k v
  | .inr x, v => Value.isStrOf x v
noncomputable def keyH (w : World) : Key → Int
  | .inl k => hashInt k
  | .inr x => hashStr w x
theorem keyIs_shape : ∀ {k : Key} {v : Value}, keyIs k v = true → (∃ i t, k = Sum.inl i ∧ v = Value.int i t) ∨ (∃ x t, k = Sum.inr x ∧ v = Value.str x t)
  | .inl i, v, h => by
    obtain ⟨t, e⟩ := Value.isInt_shape (k := i) (v := v) h
    exact .inl ⟨i, t, rfl, e⟩
  | .inr x, v, h => by
    obtain ⟨t, e⟩ := Value.isStrOf_shape (x := x) (v := v) h
    exact .inr ⟨x, t, rfl, e⟩
theorem keyIs_int (i : Int) (t : Tok) : keyIs (.inl i) (.int i t) = true := by simp [keyIs, Value.isInt]
theorem keyIs_str (x : Str) (t : Tok) : keyIs (.inr x) (.str x t) = true := by simp [keyIs, Value.isStrOf]
theorem key_ll (a b : Int) : decide ((Sum.inl a : Key) = Sum.inl b) = (a == b) := by
  by_cases e : a = b
  · subst e; simp
  · have h : ¬ (Sum.inl a : Key) = Sum.inl b := fun q => e (Sum.inl.inj q)
    rw [decide_eq_false h]
    exact (beq_eq_false_iff_ne.mpr e).symm
theorem key_rr (a b : Str) : decide ((Sum.inr a : Key) = Sum.inr b) = decide (a = b) := by
  by_cases e : a = b
  · subst e; simp
  · have h : ¬ (Sum.inr a : Key) = Sum.inr b := fun q => e (Sum.inr.inj q)
    rw [decide_eq_false h, decide_eq_false e]
theorem key_lr (a : Int) (b : Str) : decide ((Sum.inl a : Key) = Sum.inr b) = false := decide_eq_false (fun q => nomatch q)
theorem key_rl (a : Str) (b : Int) : decide ((Sum.inr a : Key) = Sum.inl b) = false := decide_eq_false (fun q => nomatch q)
noncomputable def mixKind (prog : Program) (w : World) : PySem.KeyKind prog w Key where
  is := keyIs
  hash := keyH w
  inj := fun v a b ha hb => by
    rcases keyIs_shape ha with ⟨i, t, rfl, rfl⟩ | ⟨x, t, rfl, rfl⟩
    · rcases keyIs_shape hb with ⟨j, u, rfl, e⟩ | ⟨y, u, rfl, e⟩
      · injection e with e1 _; rw [e1]
      · exact nomatch e
    · rcases keyIs_shape hb with ⟨j, u, rfl, e⟩ | ⟨y, u, rfl, e⟩
      · exact nomatch e
      · injection e with e1 _; rw [e1]
  byValue := fun k v h => by
    rcases keyIs_shape h with ⟨i, t, rfl, rfl⟩ | ⟨x, t, rfl, rfl⟩ <;> rfl
  pyHash := fun hv h => by
    rcases keyIs_shape hv with ⟨i, t, rfl, rfl⟩ | ⟨x, t, rfl, rfl⟩
    · exact wpAny_pyHash_int h
    · exact wpAny_pyHash_str h
  eqBool := fun hu hv h => by
    rcases keyIs_shape hu with ⟨i, t, rfl, rfl⟩ | ⟨x, t, rfl, rfl⟩
    · rcases keyIs_shape hv with ⟨j, u, rfl, rfl⟩ | ⟨y, u, rfl, rfl⟩
      · rw [key_ll] at h; exact wpAny_eqBool_int h
      · rw [key_lr] at h; exact SeqAt.EqAt.int_str i t y u _ _ _ _ h
    · rcases keyIs_shape hv with ⟨j, u, rfl, rfl⟩ | ⟨y, u, rfl, rfl⟩
      · rw [key_rl] at h; exact SeqAt.EqAt.str_int x t j u _ _ _ _ h
      · rw [key_rr] at h; exact wpAny_eqBool_str h
  «strs» := fun k x t v h => by
    rcases keyIs_shape h with ⟨i, u, rfl, e⟩ | ⟨y, u, rfl, e⟩
    · exact nomatch e
    · injection e with e1 _
      subst e1
      cases v <;> rfl
theorem mixKind_int (prog : Program) (w : World) (i : Int) (t : Tok) : (mixKind prog w).is (.inl i) (.int i t) = true := keyIs_int i t
theorem mixKind_str (prog : Program) (w : World) (x : Str) (t : Tok) : (mixKind prog w).is (.inr x) (.str x t) = true := keyIs_str x t
noncomputable abbrev NKey := Option Key
noncomputable def nIs : NKey → Value → Bool
  | none, .none => true
  | none, _ => false
  | some k, v => keyIs k v
noncomputable def nH (w : World) : NKey → Int
  | none => reduceHash 0xFCA86420
  | some k => keyH w k
theorem nIs_shape : ∀ {k : NKey} {v : Value}, nIs k v = true → (k = none ∧ v = Value.none) ∨ ∃ q, k = some q ∧ keyIs q v = true
  | none, v, h => by cases v <;> first | exact .inl ⟨rfl, rfl⟩ | exact nomatch h
  | some k, v, h => .inr ⟨k, rfl, h⟩
theorem key_not_none {q : Key} (h : keyIs q Value.none = true) : False := by
  rcases keyIs_shape h with ⟨_, _, _, e⟩ | ⟨_, _, _, e⟩ <;> exact nomatch e
theorem pyHash_none {prog : Program} {w : World} {A : Around} {E : Value → Shared → Prop} {s : Shared} {Q : Int → Shared → Prop} (h : Q (reduceHash 0xFCA86420) { s with toks := s.toks + 1 }) : wpAny (model prog w) A (pyHash .none) Q E s :=
  PySem.W.pyHash_slot (T := "NoneType") rfl F.slot_NoneType_hash F.entry_NoneType_hash (F.args_NoneType_hash_1 _) (beq_builtin_none _) (.inl rfl) (wpAny_bind (wpAny_pure (wpAny_bind (wpAny_mkInt (wpAny_pure ⟨_, _, rfl, h⟩)))))
theorem eqBool_none {prog : Program} {w : World} {A : Around} {E : Value → Shared → Prop} {s : Shared} {Q : Bool → Shared → Prop} (h : Q true s) : wpAny (model prog w) A (eqBool .none .none) Q E s := by
  unfold eqBool
  try with_reducible refine wpAny_holding ?_
  show wpAny _ _ (if (Value.none == Value.none) = true then _ else _) Q E s
  rw [if_pos (by decide)]
  exact wpAny_bind (wpAny_rule (wpAny_pure h))
noncomputable def optKind (prog : Program) (w : World) : PySem.KeyKind prog w NKey where
  is := nIs
  hash := nH w
  inj := fun v a b ha hb => by
    rcases nIs_shape ha with ⟨rfl, rfl⟩ | ⟨q, rfl, hq⟩
    · rcases nIs_shape hb with ⟨rfl, _⟩ | ⟨q', rfl, hq'⟩
      · rfl
      · exact (key_not_none hq').elim
    · rcases nIs_shape hb with ⟨rfl, rfl⟩ | ⟨q', rfl, hq'⟩
      · exact (key_not_none hq).elim
      · rw [(mixKind prog w).inj v q q' hq hq']
  byValue := fun k v h => by
    rcases nIs_shape h with ⟨rfl, rfl⟩ | ⟨q, rfl, hq⟩
    · rfl
    · exact (mixKind prog w).byValue q v hq
  pyHash := fun hv h => by
    rcases nIs_shape hv with ⟨rfl, rfl⟩ | ⟨q, rfl, hq⟩
    · exact pyHash_none h
    · exact (mixKind prog w).pyHash hq h
  eqBool := fun {A E s a b u v Q} hu hv h => by
    rcases nIs_shape hu with ⟨rfl, rfl⟩ | ⟨q, rfl, hq⟩
    · rcases nIs_shape hv with ⟨rfl, rfl⟩ | ⟨q', rfl, hq'⟩
      · exact eqBool_none (by simpa using h)
      · have h' : Q false s := by simpa using h
        rcases keyIs_shape hq' with ⟨i, t, rfl, rfl⟩ | ⟨x, t, rfl, rfl⟩
        · exact SeqAt.EqAt.none_int i t _ _ _ _ h'
        · exact SeqAt.EqAt.none_str x t _ _ _ _ h'
    · rcases nIs_shape hv with ⟨rfl, rfl⟩ | ⟨q', rfl, hq'⟩
      · have h' : Q false s := by simpa using h
        rcases keyIs_shape hq with ⟨i, t, rfl, rfl⟩ | ⟨x, t, rfl, rfl⟩
        · exact SeqAt.EqAt.int_none i t _ _ _ _ h'
        · exact SeqAt.EqAt.str_none x t _ _ _ _ h'
      · refine (mixKind prog w).eqBool hq hq' ?_
        have e : decide ((some q : NKey) = some q') = decide (q = q') := by simp
        rw [← e]; exact h
  «strs» := fun k x t v h => by
    rcases nIs_shape h with ⟨rfl, e⟩ | ⟨q, rfl, hq⟩
    · exact nomatch e
    · exact (mixKind prog w).strs q x t v hq
end L2
namespace L2
open PySem PySem.Spec PyProof.Rows
inductive V where
  | non | bl (b : Bool) | int (i : Int) | str (x : Str) | byt (b : Array UInt8) | flt (b : UInt64) | ref (a : Addr) | ty (n : String)
  deriving DecidableEq
noncomputable def RelV : V → Value → Prop
  | .non, u => u = Value.none
  | .bl b, u => u = Value.bool b
  | .int i, u => ∃ t, u = Value.int i t
  | .str x, u => ∃ t, u = Value.str x t
  | .byt b, u => ∃ t, u = Value.bytes b t
  | .flt b, u => ∃ t, u = Value.float b t
  | .ref a, u => u = Value.ref a
  | .ty n, u => u = Value.type n
noncomputable abbrev Vals : List V → List Value → Prop := Paired RelV
theorem Vals.length {xs : List V} {us : List Value} (r : Vals xs us) : xs.length = us.length := Paired.length r
theorem Vals.get : ∀ {xs : List V} {us : List Value} {i : Nat} {x : V}, Vals xs us → xs[i]? = some x → ∃ u, us[i]? = some u ∧ RelV x u
  | _, _, _, _, .nil, e => by simp at e
  | _, _, 0, _, .cons r _, e => by simp at e; subst e; exact ⟨_, rfl, r⟩
  | _, _, i + 1, x, .cons _ t, e => by
    obtain ⟨u, h1, h2⟩ := Vals.get (i := i) (x := x) t (by simpa using e)
    exact ⟨u, by simpa using h1, h2⟩
theorem Vals.set {x : V} {u : Value} (r : RelV x u) : ∀ {xs : List V} {us : List Value} (i : Nat), Vals xs us → Vals (xs.set i x) (us.set i u)
  | _, _, _, .nil => .nil
  | _, _, 0, .cons _ t => .cons r t
  | _, _, i + 1, .cons q t => .cons q (Vals.set r i t)
theorem Vals.append : ∀ {xs ys : List V} {us ws : List Value}, Vals xs us → Vals ys ws → Vals (xs ++ ys) (us ++ ws)
  | _, _, _, _, .nil, s => s
  | _, _, _, _, .cons r t, s => .cons r (Vals.append t s)
theorem Vals.take : ∀ {xs : List V} {us : List Value} (n : Nat), Vals xs us → Vals (xs.take n) (us.take n)
  | _, _, 0, _ => .nil
  | _, _, _ + 1, .nil => .nil
  | _, _, n + 1, .cons r t => .cons r (Vals.take n t)
theorem Vals.drop : ∀ {xs : List V} {us : List Value} (n : Nat), Vals xs us → Vals (xs.drop n) (us.drop n)
  | _, _, 0, r => r
  | _, _, _ + 1, .nil => .nil
  | _, _, n + 1, .cons _ t => Vals.drop n t
noncomputable def RelO : Option V → Option Value → Prop
  | some v, some u => RelV v u
  | none, none => True
  | _, _ => False
noncomputable def KV {κ : Type} : List (κ × V) → List (κ × Value) → Prop := Paired fun (p : κ × V) (q : κ × Value) => p.1 = q.1 ∧ RelV p.2 q.2
noncomputable def kV : Key → V
  | .inl i => .int i
  | .inr x => .str x
noncomputable def nV : NKey → V
  | none => .non
  | some k => kV k
inductive HO where
  | lst (xs : List V)
  | tup (xs : List V)
  | dK (kvs : List (Key × V)) | dT (kvs : List (List NKey × V))
  | set (S : Int → Bool) (n : Nat)
  | ins (C dx : Addr) (fs : List (Str × V))
  | own (x : Addr)
  | xd (fs : List (Str × V))
  | met (f x : Addr)
  | rng (lo hi : Int)
  | frz (o : Obj) (u : HO)
  | tbl (ps : Array Value)
  | ext (φ : Heap → Prop)
noncomputable abbrev Hp := Addr → Option HO
noncomputable def upd (H : Hp) (a : Addr) (o : HO) : Hp := fun b => if b = a then some o else H b
theorem upd_same {H : Hp} {a : Addr} {o : HO} : upd H a o a = some o := by unfold upd; rw [if_pos rfl]
theorem upd_ne {H : Hp} {a b : Addr} {o : HO} (h : b ≠ a) : upd H a o b = H b := by unfold upd; rw [if_neg h]
theorem upd_upd {H : Hp} {a : Addr} {o u : HO} : upd (upd H a o) a u = upd H a u := by
  funext b; unfold upd; split <;> rfl
theorem ne_of {H : Hp} {a b : Addr} {o u : HO} (h : H a = some o) (h' : H b = some u) (d : o ≠ u) : a ≠ b := by
  intro e; subst e; rw [h] at h'; exact d (Option.some.inj h')
theorem ne_of_none {H : Hp} {a b : Addr} {o : HO} (h : H a = some o) (h' : H b = none) : a ≠ b := by
  intro e; subst e; rw [h] at h'; cases h'
section
variable (P : Program) (w : World)
noncomputable def ObjOk (H : Hp) (h : Heap) (a : Addr) : HO → Prop
  | .lst xs => xs.length ≤ sizeLine ∧ ∃ (its : List Value) (n : Nat), Vals xs its ∧ h.get? a = some { cls := .type "list", data := .seq its.toArray n }
  | .tup xs => xs.length ≤ sizeLine ∧ ∃ its : List Value, Vals xs its ∧ IsTup h a its.toArray
  | .dK kvs => kvs.length ≤ sizeLine ∧ (a == sysModules) = false ∧ ∃ vs, KV kvs vs ∧ h.DictOf (mixKind P w) a vs
  | .dT kvs => kvs.length ≤ sizeLine ∧ (a == sysModules) = false ∧ ∃ xs : List (List NKey × Addr × Value),
      Paired (fun (p : List NKey × V) (q : List NKey × Addr × Value) => p.1 = q.1 ∧ H q.2.1 = some (.tup (p.1.map nV)) ∧ RelV p.2 q.2.2) kvs xs ∧
      ∃ o es ep, h.get? a = some o ∧ o.ExactDict ∧ o.data = .dict es ep ∧ es.toList = xs.map (entryOfKey (tupleKind (optKind P w))) ∧ (xs.map (·.1)).Nodup
  | .set S n => h.SetOf (intKind P w) a S n
  | .ins C dx fs => H dx = some (.own a) ∧ fs.length ≤ 1000 ∧ dx ≠ a ∧ h.get? a = some (PySem.W.instObj C dx) ∧
      ∃ mA, h.Ns1 dx mA ∧ (∀ f, RelO (fs.lookup f) (mA f)) ∧ PySem.Within mA (fs.map (·.1))
  | .own _ => ∃ o, h.get? a = some o
  | .xd fs => ∃ mA, h.Ns1 a mA ∧ ∀ f, RelO (fs.lookup f) (mA f)
  | .rng lo hi => ∃ t u v, h.get? a = some { cls := .type "range", data := .fields #[.int lo t, .int hi u, .int 1 v] }
  | .frz o u => h.get? a = some o ∧ ObjOk H h a u
  | .tbl ps => h.get? a = some { cls := .none, data := .fields ps }
  | .met f x => h.get? a = some (PySem.W.methodObj (.ref f) (.ref x))
  | .ext φ => φ h ∧ (∃ o, h.get? a = some o) ∧ ∀ h1 h2 : Heap, φ h1 → (∀ o, h1.get? a = some o → h2.get? a = some o) → φ h2
noncomputable def HOk (H : Hp) (h : Heap) : Prop := ∀ a o, H a = some o → ObjOk P w H h a o
end
section
variable {P : Program} {w : World} {H H' : Hp} {h h' : Heap} {a : Addr} {o : HO}
theorem ObjOk.lt (x : ObjOk P w H h a o) : a < h.objs.size := by
  cases o with
  | lst xs => obtain ⟨_, _, _, _, e⟩ := x; exact Heap.lt_size e
  | tup xs => obtain ⟨_, _, _, p⟩ := x; exact p.lt
  | dK kvs => obtain ⟨_, _, _, _, o, _, _, e, _⟩ := x; exact Heap.lt_size e
  | dT kvs => obtain ⟨_, _, _, _, o, _, _, e, _⟩ := x; exact Heap.lt_size e
  | set S n => obtain ⟨o, _, _, _, e, _⟩ := x; exact Heap.lt_size e
  | ins C dx fs => obtain ⟨_, _, _, e, _⟩ := x; exact Heap.lt_size e
  | own y => obtain ⟨_, e⟩ := x; exact Heap.lt_size e
  | xd fs => obtain ⟨_, ⟨_, _, _, e, _⟩, _⟩ := x; exact Heap.lt_size e
  | rng lo hi => obtain ⟨_, _, _, e⟩ := x; exact Heap.lt_size e
  | frz ob u => obtain ⟨e, _⟩ := x; exact Heap.lt_size e
  | tbl ps => exact Heap.lt_size (show h.get? a = some _ from x)
  | met f y => exact Heap.lt_size (show h.get? a = some _ from x)
  | ext φ => obtain ⟨_, ⟨_, e⟩, _⟩ := x; exact Heap.lt_size e
theorem Paired.mapP {α β : Type} {F G : α → β → Prop} : ∀ {l₁ : List α} {l₂ : List β}, Paired F l₁ l₂ → (∀ a b, F a b → G a b) → Paired G l₁ l₂
  | _, _, .nil, _ => .nil
  | _, _, .cons r t, f => .cons (f _ _ r) (Paired.mapP t f)
theorem ObjOk.stay (x : ObjOk P w H h a o) (k : ∀ b u, (b = a ∨ H b = some (.own a)) → h.get? b = some u → h'.get? b = some u)
    (ho : ∀ b, H b = some (.own a) → H' b = some (.own a)) (ht : ∀ b xs, H b = some (.tup xs) → H' b = some (.tup xs)) : ObjOk P w H' h' a o := by
  induction o with
  | lst xs => obtain ⟨z, its, n, r, e⟩ := x; exact ⟨z, its, n, r, k _ _ (.inl rfl) e⟩
  | tup xs => obtain ⟨z, its, r, ob, e, c⟩ := x; exact ⟨z, its, r, ob, k _ _ (.inl rfl) e, c⟩
  | dK kvs => obtain ⟨z, y, vs, r, ob, es, ep, e, c⟩ := x; exact ⟨z, y, vs, r, ob, es, ep, k _ _ (.inl rfl) e, c⟩
  | dT kvs =>
    obtain ⟨z, y, xs, r, ob, es, ep, e, c⟩ := x
    exact ⟨z, y, xs, Paired.mapP r fun p q z => ⟨z.1, ht _ _ z.2.1, z.2.2⟩, ob, es, ep, k _ _ (.inl rfl) e, c⟩
  | set S n => obtain ⟨ob, es, ep, t, e, c⟩ := x; exact ⟨ob, es, ep, t, k _ _ (.inl rfl) e, c⟩
  | ins C dx fs =>
    obtain ⟨d, z, ne, e, mA, ⟨od, es, ep, e2, c⟩, r⟩ := x
    exact ⟨ho _ d, z, ne, k _ _ (.inl rfl) e, mA, ⟨od, es, ep, k _ _ (.inr d) e2, c⟩, r⟩
  | own y => obtain ⟨ob, e⟩ := x; exact ⟨ob, k _ _ (.inl rfl) e⟩
  | xd fs => obtain ⟨mA, ⟨od, es, ep, e, c⟩, r⟩ := x; exact ⟨mA, ⟨od, es, ep, k _ _ (.inl rfl) e, c⟩, r⟩
  | rng lo hi => obtain ⟨t, u, v, e⟩ := x; exact ⟨t, u, v, k _ _ (.inl rfl) e⟩
  | frz ob u ih => obtain ⟨e, q⟩ := x; exact ⟨k _ _ (.inl rfl) e, ih q⟩
  | tbl ps =>
    have e : h.get? a = some { cls := .none, data := .fields ps } := x
    show h'.get? a = some { cls := .none, data := .fields ps }
    exact k a _ (.inl rfl) e
  | met f y =>
    have e : h.get? a = some (PySem.W.methodObj (.ref f) (.ref y)) := x
    show h'.get? a = some (PySem.W.methodObj (.ref f) (.ref y))
    exact k a _ (.inl rfl) e
  | ext φ => obtain ⟨p, ⟨o, e⟩, st⟩ := x; exact ⟨st _ _ p fun o q => k _ _ (.inl rfl) q, ⟨o, k _ _ (.inl rfl) e⟩, st⟩
theorem HOk.lt (x : HOk P w H h) (e : H a = some o) : a < h.objs.size := (x a o e).lt
theorem HOk.fresh (x : HOk P w H h) (e : h.objs.size ≤ a) : H a = none := by
  cases q : H a with
  | none => rfl
  | some u => exact absurd (Nat.lt_of_lt_of_le (x.lt q) e) (Nat.lt_irrefl _)
theorem HOk.kept (x : HOk P w H h) (k : ∀ b u, h.get? b = some u → h'.get? b = some u) : HOk P w H h' := fun a o e =>
  (x a o e).stay (fun b u _ q => k b u q) (fun _ q => q) fun _ _ q => q
theorem HOk.laid (x : HOk P w H h) (k : ∀ b u, h.get? b = some u → h'.get? b = some u) (hp : h.objs.size ≤ a) (new : ObjOk P w (upd H a o) h' a o) : HOk P w (upd H a o) h' := fun b u e => by
  have hn := x.fresh hp
  by_cases hb : b = a
  · subst hb; rw [upd_same] at e; cases e; exact new
  · rw [upd_ne hb] at e
    exact (x b u e).stay (fun c v _ q => k c v q) (fun c q => by rw [upd_ne (ne_of_none q hn)]; exact q) fun c xs q => by rw [upd_ne (ne_of_none q hn)]; exact q
end
noncomputable def Rd (H : Hp) (a : Addr) (u : HO) : Prop := H a = some u ∨ ∃ o, H a = some (.frz o u)
theorem Rd.ok {P : Program} {w : World} {H : Hp} {h : Heap} {a : Addr} {u : HO} (r : Rd H a u) (x : HOk P w H h) : ObjOk P w H h a u := by
  rcases r with r | ⟨o, r⟩
  · exact x a u r
  · obtain ⟨_, q⟩ := x a _ r
    exact q
noncomputable def Mut : Option HO → Prop
  | some (.lst _) => True
  | some (.dK _) => True
  | some (.dT _) => True
  | some (.set _ _) => True
  | some (.ins _ _ _) => True
  | some (.ext _) => True
  | _ => False
section
variable {P : Program} {w : World} {H : Hp} {h h' : Heap} {x e : Addr} {o' : HO}
theorem HOk.write (ok : HOk P w H h) (mu : Mut (H x)) (he : e = x ∨ H e = some (.own x)) (k : ∀ b u, b ≠ e → h.get? b = some u → h'.get? b = some u) (heo : ∃ u, h'.get? e = some u)
    (new : ObjOk P w (upd H x o') h' x o') : HOk P w (upd H x o') h' := fun b u q => by
  have nown : ∀ c y, H c = some (.own y) → c ≠ x := fun c y r z => by subst z; rw [r] at mu; exact mu
  have ntup : ∀ c xs, H c = some (.tup xs) → c ≠ x := fun c xs r z => by subst z; rw [r] at mu; exact mu
  by_cases hb : b = x
  · subst hb; rw [upd_same] at q; cases q; exact new
  · rw [upd_ne hb] at q
    by_cases hbe : b = e
    · have q' : H b = some (.own x) := by
        rcases he with z | z
        · exact absurd (hbe.trans z) hb
        · rw [hbe]; exact z
      rw [q] at q'; cases q'
      obtain ⟨v, hv⟩ := heo
      exact ⟨v, by rw [hbe]; exact hv⟩
    · refine (ok b u q).stay (fun c v hc r => k c v ?_ r) (fun c r => by rw [upd_ne (nown c b r)]; exact r) fun c xs r => by rw [upd_ne (ntup c xs r)]; exact r
      rcases hc with rfl | hc
      · exact hbe
      · rintro rfl
        rcases he with z | z
        · exact nown c b hc z
        · rw [hc] at z; cases z; exact hb rfl
end
structure Un (fs ex : List Addr) (H H' : Hp) (h h' : Heap) : Prop where
  keep : ∀ b o, h.get? b = some o → H b = none → b ∉ fs → b ∉ ex → h'.get? b = some o
  slot : ∀ b o, h.get? b = some o → H b = none → b ∈ fs → b ∉ ex → ∃ sl, h'.get? b = some { o with slots := sl }
  free : ∀ b o, h.get? b = some o → H b = none → b ∉ ex → H' b = none
  there : ∀ b o, h.get? b = some o → b ∉ ex → ∃ o', h'.get? b = some o'
  tups : ∀ b xs, H b = some (.tup xs) → H' b = some (.tup xs)
  frzs : ∀ b o u, H b = some (.frz o u) → H' b = some (.frz o u)
  tbls : ∀ b ps, H b = some (.tbl ps) → ∃ more, H' b = some (.tbl (ps ++ more))
section
variable {fs fs' ex ex' : List Addr} {H H1 H2 : Hp} {h h1 h2 h' : Heap} {a x e : Addr} {o : HO}
theorem Un.any (u : Un fs ex H H1 h h1) {b : Addr} {ob : Obj} (q : h.get? b = some ob) (n : H b = none) (hx : b ∉ ex) : ∃ sl, h1.get? b = some { ob with slots := sl } := by
  by_cases hb : b ∈ fs
  · exact u.slot b ob q n hb hx
  · exact ⟨ob.slots, u.keep b ob q n hb hx⟩
theorem Un.kept (k : ∀ b u, h.get? b = some u → h'.get? b = some u) : Un fs ex H H h h' :=
  ⟨fun b ob q _ _ _ => k b ob q, fun b ob q _ _ _ => ⟨ob.slots, k b ob q⟩, fun _ _ _ n _ => n, fun b ob q _ => ⟨ob, k b ob q⟩, fun _ _ q => q, fun _ _ _ q => q, fun _ ps q => ⟨#[], by rw [q]; simp⟩⟩
theorem Un.refl : Un fs ex H H h h := Un.kept fun _ _ q => q
theorem Un.laid (k : ∀ b u, h.get? b = some u → h'.get? b = some u) (hp : h.objs.size ≤ a) (hn : H a = none) : Un fs ex H (upd H a o) h h' where
  keep := fun b u q _ _ _ => k b u q
  slot := fun b u q _ _ _ => ⟨u.slots, k b u q⟩
  free := fun b u q n _ => by rw [upd_ne (Nat.ne_of_lt (Nat.lt_of_lt_of_le (Heap.lt_size q) hp))]; exact n
  there := fun b u q _ => ⟨u, k b u q⟩
  tups := fun b xs q => by rw [upd_ne (ne_of_none q hn)]; exact q
  frzs := fun b u xs q => by rw [upd_ne (ne_of_none q hn)]; exact q
  tbls := fun b ps q => ⟨#[], by rw [upd_ne (ne_of_none q hn), q]; simp⟩
theorem Un.write (mu : Mut (H x)) (he : e = x ∨ H e = some (.own x)) (k : ∀ b u, b ≠ e → h.get? b = some u → h'.get? b = some u) (heo : ∃ u, h'.get? e = some u) : Un fs ex H (upd H x o) h h' := by
  have hx : ∀ b, H b = none → b ≠ x := fun b n z => by subst z; rw [n] at mu; exact mu
  have hb : ∀ b, H b = none → b ≠ e := fun b n z => by
    subst z
    rcases he with r | r
    · exact hx b n r
    · rw [n] at r; cases r
  have hm : ∀ b u, H b = some u → ¬ Mut (some u) → b ≠ x := fun b u q nm z => by subst z; rw [q] at mu; exact nm mu
  refine ⟨fun b u q n _ _ => k b u (hb b n) q, fun b u q n _ _ => ⟨u.slots, k b u (hb b n) q⟩, fun b u q n _ => by rw [upd_ne (hx b n)]; exact n, fun b u q _ => ?_,
    fun b xs q => by rw [upd_ne (hm b _ q fun z => z)]; exact q, fun b u xs q => by rw [upd_ne (hm b _ q fun z => z)]; exact q, fun b ps q => ⟨#[], by rw [upd_ne (hm b _ q fun z => z), q]; simp⟩⟩
  by_cases hbe : b = e
  · subst hbe; exact heo
  · exact ⟨u, k b u hbe q⟩
end
noncomputable def trk (h : Heap) (H : Hp) : List Addr := (List.range h.objs.size).filter fun a => (H a).isSome
noncomputable def hidT (h : Heap) (H : Hp) : Heap := PySem.W.hideAll h (trk h H)
theorem hidT_size (h : Heap) (H : Hp) : (hidT h H).objs.size = h.objs.size := PySem.W.hideAll_size _ _
theorem hidT_get {h : Heap} {H : Hp} {b : Addr} {o : Obj} (e : h.get? b = some o) (n : H b = none) : (hidT h H).get? b = some o :=
  PySem.W.hideAll_get _ e fun hm => by
    have q : (H b).isSome = true := (List.mem_filter.mp hm).2
    rw [n] at q; simp at q
theorem of_hidT {h : Heap} {H : Hp} {b : Addr} {o : Obj} (e : (hidT h H).get? b = some o) : h.get? b = some o ∧ H b = none := by
  have e' : h.get? b = some o := PySem.W.of_hideAll (trk h H) e
  refine ⟨e', ?_⟩
  cases q : H b with
  | none => rfl
  | some x =>
    have hm : b ∈ trk h H := List.mem_filter.mpr ⟨List.mem_range.mpr (Heap.lt_size e'), by simp [q]⟩
    have z : (hidT h H).get? b = none := PySem.W.hideAll_none (trk h H) hm
    rw [z] at e; cases e
end L2
namespace L2
open PySem PySem.Spec PyProof.Rows
structure Mod (K : PySem.W.Frag) (mg : Str → Option Value) (base : Heap) : Prop where
  kin : K.In base
  glob : base.Ns mainGlobals mg
  blt : ∃ mb, base.Ns builtinsNs mb ∧ ∀ x : Str, x ≠ "__name__" → mb x = bootBuiltins x
  nolimit : base.NoLimit
structure Cx where
  prog : Program
  w : World
  K : PySem.W.Frag
  mg : Str → Option Value
  base : Heap
  A : Around
  N : List Str
  s₀ : Shared
  H₀ : Hp
  env : Env
  outer : List Env
  stack : List Env
  ex : List Addr
  fn : Str → Bool
  calm : Bool
  pn : List (Addr × Obj)
  xe : Value → Shared → Prop
noncomputable def frs (l : List Env) : List Addr := l.filterMap (·.frame)
noncomputable abbrev Cx.fs (X : Cx) : List Addr := frs X.outer
noncomputable def Vis (sc : Scope) (x : Str) : Prop := sc.names.lookup x = some .local ∨ sc.names.lookup x = some .cell ∨ sc.names.lookup x = some .free
noncomputable def Loc (sc : Scope) (x : Str) : Prop := sc.names.lookup x = some .local ∨ sc.names.lookup x = some .cell
noncomputable def Look (env : Env) (h : Heap) (m : Str → Option Value) (x : Str) (u : Value) : Prop :=
  (env.kindOf x = some .local ∧ m x = some u) ∨ ((env.kindOf x = some .cell ∨ env.kindOf x = some .free) ∧ ∃ c, env.cells.lookup x = some c ∧ h.IsCell c (some u))
structure Cx.Ok (X : Cx) : Prop where
  mod : Mod X.K X.mg X.base
  kind : X.env.scope.kind = .function
  glob : X.env.globals = mainGlobals
  blt : X.env.builtins = builtinsNs
  above : X.s₀.heap.objs.size ≤ X.env.locals
  inj : ∀ x y c, X.env.cells.lookup x = some c → X.env.cells.lookup y = some c → x = y
  has : ∀ x, (X.env.kindOf x = some .cell ∨ X.env.kindOf x = some .free) → ∃ c, X.env.cells.lookup x = some c
  cab : ∀ x c, X.fn x = true → X.env.cells.lookup x = some c → X.s₀.heap.objs.size ≤ c
  hd : X.calm = true → X.A.handled = none
  frames : X.A.frames = some X.stack
  stk : X.stack = X.outer ∨ (X.stack = X.env :: X.outer ∧ X.env.frame = some X.env.locals)
  exf : ∀ b ∈ X.ex, b ≠ X.env.locals ∧ ∀ x c, X.env.cells.lookup x = some c → c ≠ b
  bs : ∀ b o, X.base.get? b = some o → X.s₀.heap.get? b = some o ∧ X.H₀ b = none
  bsz : X.base.objs.size ≤ X.s₀.heap.objs.size
  noex : ∀ b o, X.base.get? b = some o → b ∉ X.ex
  exfs : ∀ b ∈ X.ex, b ∉ X.fs
  funs : X.s₀.heap.FunFrames X.base X.outer
  frf : ∀ b ∈ X.fs, X.H₀ b = none
structure Inv (X : Cx) (pins : List (Addr × Obj)) (σ : List (Option V)) (H : Hp) (s : Shared) : Prop where
  ok : X.Ok
  os : s.os = X.s₀.os
  bare : AllBare s.gens
  base : Un X.fs X.ex X.H₀ H X.s₀.heap s.heap
  loc : ∃ m, s.heap.Ns X.env.locals m ∧ ∀ (i : Nat) (x : Str) (v : V), X.N[i]? = some x → σ[i]? = some (some v) → Vis X.env.scope x → ∃ u, RelV v u ∧ Look X.env s.heap m x u
  cell : ∀ x c, X.env.cells.lookup x = some c → ∃ v, s.heap.IsCell c v
  free : H X.env.locals = none
  freeC : ∀ x c, X.env.cells.lookup x = some c → H c = none
  pin : ∀ p ∈ X.pn ++ pins, s.heap.get? p.1 = some p.2 ∧ H p.1 = none ∧ p.1 ≠ X.env.locals ∧ p.1 ∉ X.fs ∧ ∀ v, p.2.data ≠ .cell v
  hok : HOk X.prog X.w H s.heap
  len : σ.length = X.N.length
section
variable {X : Cx} {pins : List (Addr × Obj)} {σ : List (Option V)} {H H' : Hp} {s : Shared} {h' : Heap}
theorem Cx.Ok.nofr (ok : X.Ok) {b : Addr} {o : Obj} (e : X.base.get? b = some o) : b ∉ X.fs := fun hb => by
  have := (ok.funs.mem hb).1
  rw [e] at this; cases this
theorem Inv.bs (I : Inv X pins σ H s) : ∀ b o, X.base.get? b = some o → s.heap.get? b = some o ∧ H b = none := fun b o e =>
  ⟨I.base.keep b o (I.ok.bs b o e).1 (I.ok.bs b o e).2 (I.ok.nofr e) (I.ok.noex b o e), I.base.free b o (I.ok.bs b o e).1 (I.ok.bs b o e).2 (I.ok.noex b o e)⟩
theorem Inv.bk (I : Inv X pins σ H s) : ∀ b o, X.base.get? b = some o → s.heap.get? b = some o := fun b o e => (I.bs b o e).1
theorem Inv.mod (I : Inv X pins σ H s) : Mod X.K X.mg X.base := I.ok.mod
theorem Inv.kIn (I : Inv X pins σ H s) : X.K.In s.heap := I.ok.mod.kin.keeps I.bk
theorem Inv.lt (I : Inv X pins σ H s) : X.env.locals < s.heap.objs.size := let ⟨_, hn, _⟩ := I.loc; hn.lt
theorem Inv.sz (I : Inv X pins σ H s) : X.s₀.heap.objs.size ≤ s.heap.objs.size := Nat.le_trans I.ok.above (Nat.le_of_lt I.lt)
theorem Inv.nofs (I : Inv X pins σ H s) {a : Addr} (h : s.heap.objs.size ≤ a) : a ∉ X.fs := fun hb => by
  obtain ⟨_, o, ho, _⟩ := I.ok.funs.mem hb
  exact absurd (Nat.lt_of_lt_of_le (Heap.lt_size ho) (Nat.le_trans I.sz h)) (Nat.lt_irrefl _)
theorem Inv.cne (I : Inv X pins σ H s) : ∀ x c, X.env.cells.lookup x = some c → c ≠ X.env.locals := fun x c e z => by
  obtain ⟨v, o, ho, hd⟩ := I.cell x c e
  obtain ⟨m, ⟨o', es, ep, ho', hd', _⟩, _⟩ := I.loc
  rw [z, ho'] at ho; cases ho; rw [hd'] at hd; cases hd
theorem Inv.funs (I : Inv X pins σ H s) : s.heap.FunFrames X.base X.outer := by
  have all : ∀ (l : List Env), (∀ b ∈ frs l, b ∈ X.fs) → X.s₀.heap.FunFrames X.base l → s.heap.FunFrames X.base l := by
    intro l
    induction l with
    | nil => intro _ _; trivial
    | cons env r ih =>
      intro hs hl
      obtain ⟨hk, ⟨L, o, hf, hn, ho, hd⟩, hr⟩ := hl
      have hL : L ∈ X.fs := hs L (by unfold frs; rw [List.filterMap_cons, hf]; exact List.mem_cons_self)
      obtain ⟨sl, e⟩ := I.base.slot L o ho (I.ok.frf L hL) hL fun z => I.ok.exfs L z hL
      exact ⟨hk, ⟨L, _, hf, hn, e, hd⟩, ih (fun b hb => hs b (by unfold frs; rw [List.filterMap_cons, hf]; exact List.mem_cons_of_mem _ hb)) hr⟩
  exact all X.outer (fun _ hb => hb) I.ok.funs
theorem Inv.stack (I : Inv X pins σ H s) : s.heap.FunFrames X.base X.stack := by
  rcases I.ok.stk with e | ⟨e, hf⟩
  · rw [e]; exact I.funs
  · rw [e]
    obtain ⟨m, hn, _⟩ := I.loc
    refine .cons (by rw [I.ok.kind]; decide) hf hn ?_ I.funs
    exact Heap.get?_none_of_le (Nat.le_trans I.ok.bsz I.ok.above)
theorem Inv.stkSub (I : Inv X pins σ H s) : ∀ b ∈ frs X.stack, b ∈ X.env.locals :: X.fs := fun b hb => by
  rcases I.ok.stk with e | ⟨e, hf⟩
  · rw [e] at hb; exact List.mem_cons_of_mem _ hb
  · rw [e] at hb
    unfold frs at hb
    rw [List.filterMap_cons, hf] at hb
    exact hb
theorem Inv.stkFree (I : Inv X pins σ H s) : ∀ b ∈ frs X.stack, H b = none := fun b hb => by
  rcases List.mem_cons.mp (I.stkSub b hb) with e | hb
  · rw [e]; exact I.free
  · obtain ⟨_, o, ho, _⟩ := I.ok.funs.mem hb
    exact I.base.free b o ho (I.ok.frf b hb) fun z => I.ok.exfs b z hb
theorem Inv.step {g' : Array GenState} {t' : Nat} {d' : Drawn} {ch : List Addr} (I : Inv X pins σ H s)
    (hch : ∀ b ∈ ch, (b ∈ X.ex ∨ X.s₀.heap.objs.size ≤ b) ∧ b ≠ X.env.locals ∧ (∀ x c, X.env.cells.lookup x = some c → c ≠ b) ∧ ∀ p ∈ X.pn ++ pins, p.1 ≠ b)
    (keep : ∀ b o, b ≠ X.env.locals → b ∉ X.fs → b ∉ ch → s.heap.get? b = some o → H b = none → h'.get? b = some o)
    (slot : ∀ b o, b ≠ X.env.locals → b ∈ X.fs → b ∉ ch → s.heap.get? b = some o → H b = none → ∃ sl, h'.get? b = some { o with slots := sl }) (free : ∀ b o, b ∉ ch → s.heap.get? b = some o → H b = none → H' b = none)
    (there : ∀ b o, b ∉ ch → s.heap.get? b = some o → ∃ o', h'.get? b = some o')
    (tups : ∀ b xs, H b = some (.tup xs) → H' b = some (.tup xs)) (frzs : ∀ b o u, H b = some (.frz o u) → H' b = some (.frz o u)) (tbls : ∀ b ps, H b = some (.tbl ps) → ∃ more, H' b = some (.tbl (ps ++ more)))
    (ns : ∀ m, s.heap.Ns X.env.locals m → h'.Ns X.env.locals m) (hok : HOk X.prog X.w H' h') (hg : AllBare g') :
    Inv X pins σ H' { s with heap := h', gens := g', drawn := d', toks := t' } := by
  have neL : ∀ b o, X.s₀.heap.get? b = some o → b ≠ X.env.locals := fun b o e => Nat.ne_of_lt (Nat.lt_of_lt_of_le (Heap.lt_size e) I.ok.above)
  have neC : ∀ b o, X.s₀.heap.get? b = some o → b ∉ X.ex → b ∉ ch := fun b o e hx hb => by
    rcases (hch b hb).1 with z | z
    · exact hx z
    · exact absurd (Nat.lt_of_lt_of_le (Heap.lt_size e) z) (Nat.lt_irrefl _)
  have cellK : ∀ x c, X.env.cells.lookup x = some c → ∀ v, s.heap.IsCell c v → h'.IsCell c v := fun x c e v ⟨o, ho, hd⟩ => by
    have nch : c ∉ ch := fun z => (hch c z).2.2.1 x c e rfl
    by_cases hc : c ∈ X.fs
    · obtain ⟨sl, q⟩ := slot c o (I.cne x c e) hc nch ho (I.freeC x c e)
      exact ⟨_, q, hd⟩
    · exact ⟨o, keep c o (I.cne x c e) hc nch ho (I.freeC x c e), hd⟩
  refine ⟨I.ok, I.os, hg, ⟨fun b o e n hb hx => ?_, fun b o e n hb hx => ?_, fun b o e n hx => ?_, fun b o e hx => ?_, fun b xs e => tups b xs (I.base.tups b xs e), fun b o xs e => frzs b o xs (I.base.frzs b o xs e), fun b ps e => ?_⟩, ?_, fun x c e => ?_, ?_, fun x c e => ?_, fun p hp => ?_, hok, I.len⟩
  · exact keep b o (neL b o e) hb (neC b o e hx) (I.base.keep b o e n hb hx) (I.base.free b o e n hx)
  · obtain ⟨sl, e1⟩ := I.base.slot b o e n hb hx
    obtain ⟨sl', e2⟩ := slot b _ (neL b o e) hb (neC b o e hx) e1 (I.base.free b o e n hx)
    exact ⟨sl', e2⟩
  · obtain ⟨o', e1⟩ := I.base.there b o e hx
    exact free b o' (neC b o e hx) e1 (I.base.free b o e n hx)
  · obtain ⟨o', e1⟩ := I.base.there b o e hx
    exact there b o' (neC b o e hx) e1
  · obtain ⟨m1, e1⟩ := I.base.tbls b ps e
    obtain ⟨m2, e2⟩ := tbls b _ e1
    exact ⟨m1 ++ m2, by rw [e2, Array.append_assoc]⟩
  · obtain ⟨m, hn, hl⟩ := I.loc
    refine ⟨m, ns m hn, fun i x v e1 e2 e3 => ?_⟩
    obtain ⟨u, r, l⟩ := hl i x v e1 e2 e3
    refine ⟨u, r, ?_⟩
    rcases l with l | ⟨k, c, e, z⟩
    · exact .inl l
    · exact .inr ⟨k, c, e, cellK x c e _ z⟩
  · obtain ⟨v, z⟩ := I.cell x c e
    exact ⟨v, cellK x c e v z⟩
  · obtain ⟨m, ⟨o, _, _, ho, _⟩, _⟩ := I.loc
    exact free _ o (fun z => (hch _ z).2.1 rfl) ho I.free
  · obtain ⟨v, o, ho, hd⟩ := I.cell x c e
    exact free c o (fun z => (hch c z).2.2.1 x c e rfl) ho (I.freeC x c e)
  · obtain ⟨e, n, ne, nf, d⟩ := I.pin p hp
    have nch : p.1 ∉ ch := fun z => (hch p.1 z).2.2.2 p hp rfl
    exact ⟨keep p.1 p.2 ne nf nch e n, free p.1 p.2 nch e n, ne, nf, d⟩
theorem Inv.un {t' : Nat} (I : Inv X pins σ H s) (u : Un X.fs [] H H' s.heap h') (hok : HOk X.prog X.w H' h') : Inv X pins σ H' { s with heap := h', toks := t' } := by
  obtain ⟨m, ⟨o, es, ep, ho, r⟩, _⟩ := id I.loc
  obtain ⟨sl, hL⟩ := u.any ho I.free (by simp)
  exact I.step (g' := s.gens) (d' := s.drawn) (ch := []) (fun _ z => nomatch z) (fun b o _ hb _ e n => u.keep b o e n hb (by simp)) (fun b o _ hb _ e n => u.slot b o e n hb (by simp)) (fun b o _ e n => u.free b o e n (by simp)) (fun b o _ e => u.there b o e (by simp)) u.tups u.frzs u.tbls (fun m' hm => by
    obtain ⟨o', es', ep', ho', r'⟩ := hm
    rw [ho] at ho'; cases ho'
    exact ⟨_, es', ep', hL, r'⟩) hok I.bare
theorem Inv.call {g' : Array GenState} {t' : Nat} {d' : Drawn} {ch : List Addr} (I : Inv X pins σ H s) (u : Un (frs X.stack) ch H H' s.heap h') (hok : HOk X.prog X.w H' h') (hg : AllBare g')
    (hch : ∀ b ∈ ch, (b ∈ X.ex ∨ X.s₀.heap.objs.size ≤ b) ∧ b ≠ X.env.locals ∧ (∀ x c, X.env.cells.lookup x = some c → c ≠ b) ∧ ∀ p ∈ X.pn ++ pins, p.1 ≠ b) :
    Inv X pins σ H' { s with heap := h', gens := g', drawn := d', toks := t' } := by
  obtain ⟨m, ⟨o, es, ep, ho, r⟩, _⟩ := id I.loc
  obtain ⟨sl, hL⟩ := u.any ho I.free fun z => (hch _ z).2.1 rfl
  exact I.step (ch := ch) hch (fun b o hL hb hc e n => u.keep b o e n (fun z => (List.mem_cons.mp (I.stkSub b z)).elim hL hb) hc) (fun b o _ _ hc e n => u.any e n hc) (fun b o hc e n => u.free b o e n hc) (fun b o hc e => u.there b o e hc) u.tups u.frzs u.tbls (fun m' hm => by
    obtain ⟨o', es', ep', ho', r'⟩ := hm
    rw [ho] at ho'; cases ho'
    exact ⟨_, es', ep', hL, r'⟩) hok hg
theorem Inv.turned {t' : Nat} {it : Addr} (I : Inv X pins σ H s) (k : ∀ b o, b ≠ it → s.heap.get? b = some o → h'.get? b = some o) (hn : H it = none) (hL : it ≠ X.env.locals)
    (h1 : it ∈ X.ex ∨ X.s₀.heap.objs.size ≤ it) (h2 : ∀ x c, X.env.cells.lookup x = some c → c ≠ it) (h3 : ∀ p ∈ X.pn ++ pins, p.1 ≠ it) : Inv X pins σ H { s with heap := h', toks := t' } := by
  have nit : ∀ b u, H b = some u → b ≠ it := fun b u e z => by rw [z, hn] at e; cases e
  refine I.step (g' := s.gens) (d' := s.drawn) (ch := [it]) (fun b hb => ?_) (fun b o _ _ hc e _ => k b o (fun z => hc (by simp [z])) e) (fun b o _ _ hc e _ => ⟨o.slots, k b o (fun z => hc (by simp [z])) e⟩) (fun _ _ _ _ n => n)
    (fun b o hc e => ⟨o, k b o (fun z => hc (by simp [z])) e⟩) (fun _ _ e => e) (fun _ _ _ e => e) (fun b ps e => ⟨#[], by rw [e]; simp⟩) (fun m hm => ?_) (fun b u e => ?_) I.bare
  · have e : b = it := by simpa using hb
    subst e
    exact ⟨h1, hL, h2, h3⟩
  · obtain ⟨o, es, ep, ho, r⟩ := hm
    exact ⟨o, es, ep, k _ o (Ne.symm hL) ho, r⟩
  · refine (I.hok b u e).stay (fun c v hc q => k c v ?_ q) (fun _ q => q) fun _ _ q => q
    rcases hc with z | z
    · rw [z]; exact nit b u e
    · exact nit c _ z
theorem Inv.tok (I : Inv X pins σ H s) (t : Nat) : Inv X pins σ H { s with toks := t } := I.un (h' := s.heap) (t' := t) Un.refl I.hok
theorem Inv.kept {t' : Nat} (I : Inv X pins σ H s) (k : ∀ b u, s.heap.get? b = some u → h'.get? b = some u) : Inv X pins σ H { s with heap := h', toks := t' } := I.un (Un.kept k) (I.hok.kept k)
theorem Inv.laid {a : Addr} {o : HO} {t' : Nat} (I : Inv X pins σ H s) (k : ∀ b u, s.heap.get? b = some u → h'.get? b = some u) (hp : s.heap.objs.size ≤ a) (new : ObjOk X.prog X.w (upd H a o) h' a o) :
    Inv X pins σ (upd H a o) { s with heap := h', toks := t' } := I.un (Un.laid k hp (I.hok.fresh hp)) (I.hok.laid k hp new)
theorem Inv.write {x e : Addr} {o : HO} {t' : Nat} (I : Inv X pins σ H s) (mu : Mut (H x)) (he : e = x ∨ H e = some (.own x)) (k : ∀ b u, b ≠ e → s.heap.get? b = some u → h'.get? b = some u) (heo : ∃ u, h'.get? e = some u)
    (new : ObjOk X.prog X.w (upd H x o) h' x o) : Inv X pins σ (upd H x o) { s with heap := h', toks := t' } := I.un (Un.write mu he k heo) (I.hok.write mu he k heo new)
theorem Inv.pins_of {pins' : List (Addr × Obj)} (I : Inv X pins σ H s) (h : ∀ p ∈ pins', s.heap.get? p.1 = some p.2 ∧ H p.1 = none ∧ p.1 ≠ X.env.locals ∧ p.1 ∉ X.fs ∧ ∀ v, p.2.data ≠ .cell v) : Inv X pins' σ H s :=
  ⟨I.ok, I.os, I.bare, I.base, I.loc, I.cell, I.free, I.freeC, fun p hp => (List.mem_append.mp hp).elim (fun z => I.pin p (List.mem_append_left _ z)) (h p), I.hok, I.len⟩
theorem nodup_ix {N : List Str} (hN : N.Nodup) {i j : Nat} {x : Str} (a : N[i]? = some x) (b : N[j]? = some x) : i = j := by
  obtain ⟨h1, e1⟩ := List.getElem?_eq_some_iff.mp a
  obtain ⟨h2, e2⟩ := List.getElem?_eq_some_iff.mp b
  exact (List.getElem_inj hN).mp (e1.trans e2.symm)
theorem store_ok2 {M : Model} {A : Around} {E : Value → Shared → Prop} {i : Nat} {x : Str} {v : V} {u : Value} {Q : Unit → Shared → Prop} (I : Inv X pins σ H s) (hN : X.N.Nodup) (hi : X.N[i]? = some x) (hx : Loc X.env.scope x) (r : RelV v u)
    (h : ∀ s', Inv X pins (σ.set i (some v)) H s' → (∃ a, Heap.SameBut a s.heap s'.heap ∧ (a = X.env.locals ∨ X.env.cells.lookup x = some a)) → Q () s') (hf : X.fn x = true ∨ X.env.scope.names.lookup x = some .local := by first | exact .inl rfl | exact .inr rfl | assumption) : wpAny M A (storeName X.env x u) Q E s := by
  obtain ⟨m, hn, hl⟩ := id I.loc
  have hcls : (X.env.scope.kind == .class || (X.env.scope.kind == .module && X.env.locals != X.env.globals)) = false := by rw [I.ok.kind]; rfl
  have hiσ : i < σ.length := by rw [I.len]; exact (List.getElem?_eq_some_iff.mp hi).1
  have cne := I.cne
  have tracked : ∀ {a : Addr} {h' : Heap}, (∃ o, s.heap.get? a = some o ∧ H a = none) → Heap.SameBut a s.heap h' → HOk X.prog X.w H h' := fun {a h'} ha hs b ob e => by
    obtain ⟨_, _, hfree⟩ := ha
    refine (I.hok b ob e).stay (fun c w' hc q => (hs.2 c ?_).trans q) (fun _ q => q) fun _ _ q => q
    rintro rfl
    rcases hc with rfl | hc
    · rw [hfree] at e; cases e
    · rw [hfree] at hc; cases hc
  rcases hx with hk | hk
  · refine wpAny_storeName_local hk hn (fun h' hn' hs => ?_) hcls
    obtain ⟨oL, _, _, hoL, _⟩ := id hn
    refine h _ ⟨I.ok, I.os, I.bare, ⟨fun b o e n hb hx => ?_, fun b o e n hb hx => ?_, I.base.free, fun b o e hx => ?_, I.base.tups, I.base.frzs, I.base.tbls⟩, ⟨_, hn', fun j y v' e1 e2 e3 => ?_⟩, fun y c e => ?_, I.free, I.freeC, fun p hp => ?_, tracked ⟨oL, hoL, I.free⟩ hs, by simpa using I.len⟩ ⟨_, hs, .inl rfl⟩
    · exact (hs.2 b (Nat.ne_of_lt (Nat.lt_of_lt_of_le (Heap.lt_size e) I.ok.above))).trans (I.base.keep b o e n hb hx)
    · obtain ⟨sl, e1⟩ := I.base.slot b o e n hb hx
      exact ⟨sl, (hs.2 b (Nat.ne_of_lt (Nat.lt_of_lt_of_le (Heap.lt_size e) I.ok.above))).trans e1⟩
    · obtain ⟨o', e1⟩ := I.base.there b o e hx
      exact ⟨o', (hs.2 b (Nat.ne_of_lt (Nat.lt_of_lt_of_le (Heap.lt_size e) I.ok.above))).trans e1⟩
    · by_cases hj : j = i
      · subst hj
        rw [hi] at e1; cases e1
        rw [List.getElem?_set_self hiσ] at e2
        cases e2
        exact ⟨u, r, .inl ⟨hk, by simp⟩⟩
      · rw [List.getElem?_set_ne (Ne.symm hj)] at e2
        obtain ⟨u', r', q⟩ := hl j y v' e1 e2 e3
        refine ⟨u', r', ?_⟩
        rcases q with ⟨k, e⟩ | ⟨k, c, e, z⟩
        · refine .inl ⟨k, ?_⟩
          have : y ≠ x := fun e => hj (nodup_ix hN e1 (e ▸ hi))
          simp [this, e]
        · exact .inr ⟨k, c, e, z.sameBut hs (cne y c e)⟩
    · obtain ⟨w', z⟩ := I.cell y c e
      exact ⟨w', z.sameBut hs (cne y c e)⟩
    · obtain ⟨e, n, ne, nf, d⟩ := I.pin p hp
      exact ⟨(hs.2 p.1 ne).trans e, n, ne, nf, d⟩
  · have hfn : X.fn x = true := by
      rcases hf with z | z
      · exact z
      · rw [z] at hk; cases hk
    obtain ⟨c, hc⟩ := I.ok.has x (.inl hk)
    obtain ⟨w', z⟩ := I.cell x c hc
    refine wpAny_storeName_cell I.ok.kind hk hc z (fun h' hc' hs => ?_)
    obtain ⟨oc, hoc, hocd⟩ := id z
    refine h { s with heap := h' } ⟨I.ok, I.os, I.bare, ⟨fun b o e n hb hx => ?_, fun b o e n hb hx => ?_, I.base.free, fun b o e hx => ?_, I.base.tups, I.base.frzs, I.base.tbls⟩, ⟨m, hn.sameBut hs (Ne.symm (cne x c hc)), fun j y v' e1 e2 e3 => ?_⟩, fun y c' e => ?_, I.free, I.freeC, fun p hp => ?_, tracked ⟨oc, hoc, I.freeC x c hc⟩ hs, by simpa using I.len⟩ ⟨c, hs, .inr hc⟩
    · exact (hs.2 b (Nat.ne_of_lt (Nat.lt_of_lt_of_le (Heap.lt_size e) (I.ok.cab x c hfn hc)))).trans (I.base.keep b o e n hb hx)
    · obtain ⟨sl, e1⟩ := I.base.slot b o e n hb hx
      exact ⟨sl, (hs.2 b (Nat.ne_of_lt (Nat.lt_of_lt_of_le (Heap.lt_size e) (I.ok.cab x c hfn hc)))).trans e1⟩
    · obtain ⟨o', e1⟩ := I.base.there b o e hx
      exact ⟨o', (hs.2 b (Nat.ne_of_lt (Nat.lt_of_lt_of_le (Heap.lt_size e) (I.ok.cab x c hfn hc)))).trans e1⟩
    · by_cases hj : j = i
      · subst hj
        rw [hi] at e1; cases e1
        rw [List.getElem?_set_self hiσ] at e2
        cases e2
        exact ⟨u, r, .inr ⟨.inl hk, c, hc, hc'⟩⟩
      · rw [List.getElem?_set_ne (Ne.symm hj)] at e2
        obtain ⟨u', r', q⟩ := hl j y v' e1 e2 e3
        refine ⟨u', r', ?_⟩
        rcases q with q | ⟨k, c', e, z'⟩
        · exact .inl q
        · refine .inr ⟨k, c', e, z'.sameBut hs ?_⟩
          rintro rfl
          exact hj (nodup_ix hN e1 (I.ok.inj _ _ _ e hc ▸ hi))
    · by_cases hcc : c' = c
      · subst hcc; exact ⟨_, hc'⟩
      · obtain ⟨w2, z2⟩ := I.cell y c' e
        exact ⟨w2, z2.sameBut hs hcc⟩
    · obtain ⟨e, n, ne, nf, d⟩ := I.pin p hp
      refine ⟨(hs.2 p.1 ?_).trans e, n, ne, nf, d⟩
      intro q
      rw [q, hoc] at e
      have q' : oc = p.2 := Option.some.inj e
      exact d w' (by rw [← q']; exact hocd)
theorem store_ok {M : Model} {A : Around} {E : Value → Shared → Prop} {i : Nat} {x : Str} {v : V} {u : Value} {Q : Unit → Shared → Prop} (I : Inv X pins σ H s) (hN : X.N.Nodup) (hi : X.N[i]? = some x) (hx : Loc X.env.scope x) (r : RelV v u)
    (h : ∀ s', Inv X pins (σ.set i (some v)) H s' → Q () s') (hf : X.fn x = true ∨ X.env.scope.names.lookup x = some .local := by first | exact .inl rfl | exact .inr rfl | assumption) : wpAny M A (storeName X.env x u) Q E s :=
  store_ok2 I hN hi hx r (fun s' I' _ => h s' I') hf
theorem Inv.call' {s' : Shared} {ch : List Addr} (I : Inv X pins σ H s) (ho : s'.os = s.os) (u : Un (frs X.stack) ch H H' s.heap s'.heap) (hok : HOk X.prog X.w H' s'.heap) (hg : AllBare s'.gens)
    (hch : ∀ b ∈ ch, (b ∈ X.ex ∨ X.s₀.heap.objs.size ≤ b) ∧ b ≠ X.env.locals ∧ (∀ x c, X.env.cells.lookup x = some c → c ≠ b) ∧ ∀ p ∈ X.pn ++ pins, p.1 ≠ b) : Inv X pins σ H' s' := by
  obtain ⟨h', g', d', t', o'⟩ := s'
  have e : o' = s.os := ho
  subst e
  exact I.call (g' := g') (t' := t') (d' := d') u hok hg hch
end
noncomputable abbrev XK := Value → Option Addr → Hp → Prop
noncomputable abbrev St := List (Option V)
noncomputable abbrev VK := V → Hp → Prop
noncomputable abbrev TE := St → Hp → VK → Prop
noncomputable abbrev TT := St → Hp → (Bool → Hp → Prop) → Prop
noncomputable abbrev TA := St → Hp → (List V → Hp → Prop) → Prop
structure Ends where
  nx : St → Hp → Prop
  rt : VK
  bk : St → Hp → Prop := fun _ _ => False
  ct : St → Hp → Prop := fun _ _ => False
noncomputable abbrev TS := Ends → St → Hp → Prop
noncomputable def EP (X : Cx) (pins : List (Addr × Obj)) (σ : St) (Q : VK) (u : Value) (s' : Shared) : Prop := ∃ v H', Inv X pins σ H' s' ∧ RelV v u ∧ Q v H'
noncomputable def TP (X : Cx) (pins : List (Addr × Obj)) (σ : St) (Q : Bool → Hp → Prop) (b : Bool) (s' : Shared) : Prop := ∃ H', Inv X pins σ H' s' ∧ Q b H'
noncomputable def AP (X : Cx) (pins : List (Addr × Obj)) (σ : St) (Q : List V → Hp → Prop) (us : List Value) (s' : Shared) : Prop := ∃ vs H', Inv X pins σ H' s' ∧ Vals vs us ∧ Q vs H'
noncomputable def SP (X : Cx) (pins : List (Addr × Obj)) (D : Ends) (f : Flow) (s' : Shared) : Prop :=
  match f with
  | .next => ∃ σ' H', Inv X pins σ' H' s' ∧ D.nx σ' H'
  | .brk => ∃ σ' H', Inv X pins σ' H' s' ∧ D.bk σ' H'
  | .cont => ∃ σ' H', Inv X pins σ' H' s' ∧ D.ct σ' H'
  | .ret u => ∃ v σ' H', Inv X pins σ' H' s' ∧ RelV v u ∧ D.rt v H'
noncomputable def PE (X : Cx) (e : Expr) (t : TE) : Prop :=
  ∀ (pins : List (Addr × Obj)) (s : Shared) (σ : St) (H : Hp) (Q : VK), Inv X pins σ H s → t σ H Q → wpAny (model X.prog X.w) X.A (eval e X.env) (EP X pins σ Q) X.xe s
noncomputable def PT (X : Cx) (e : Expr) (t : TT) : Prop :=
  ∀ (pins : List (Addr × Obj)) (s : Shared) (σ : St) (H : Hp) (Q : Bool → Hp → Prop), Inv X pins σ H s → t σ H Q → wpAny (model X.prog X.w) X.A (isTrue e X.env (eval e X.env)) (TP X pins σ Q) X.xe s
noncomputable def PW (X : Cx) (e : Expr) (t : TT) : Prop :=
  ∀ (whole : Sem Value) (pins : List (Addr × Obj)) (s : Shared) (σ : St) (H : Hp) (Q : Bool → Hp → Prop), Inv X pins σ H s → t σ H Q → wpAny (model X.prog X.w) X.A (isTrue e X.env whole) (TP X pins σ Q) X.xe s
theorem PW.pt {X : Cx} {e : Expr} {t : TT} (h : PW X e t) : PT X e t := h _
noncomputable def PA (X : Cx) (es : List Expr) (t : TA) : Prop :=
  ∀ (pos : Pos) (pins : List (Addr × Obj)) (s : Shared) (σ : St) (H : Hp) (Q : List V → Hp → Prop), Inv X pins σ H s → t σ H Q → wpAny (model X.prog X.w) X.A (spliced (backTo pos (starEach es X.env))) (AP X pins σ Q) X.xe s
noncomputable def PS (X : Cx) (st : Stmt) (t : TS) : Prop :=
  ∀ (pins : List (Addr × Obj)) (s : Shared) (σ : St) (H : Hp) (D : Ends), Inv X pins σ H s → t D σ H → wpAny (model X.prog X.w) X.A (exec st X.env) (SP X pins D) X.xe s
noncomputable def PSs (X : Cx) (st : List Stmt) (t : TS) : Prop :=
  ∀ (pins : List (Addr × Obj)) (s : Shared) (σ : St) (H : Hp) (D : Ends), Inv X pins σ H s → t D σ H → wpAny (model X.prog X.w) X.A (execs st X.env) (SP X pins D) X.xe s
theorem thn {α : Type} {t : Sem α} {Q Q' : α → Shared → Prop} {M : Model} {A : Around} {E : Value → Shared → Prop} {s : Shared} (h : wpAny M A t Q E s) (hQ : ∀ a s, Q a s → Q' a s) : wpAny M A t Q' E s := wpAny_mono h hQ fun _ _ x => x
end L2
namespace L2
open PySem PySem.Spec PyProof.Rows
section
variable {X : Cx}
noncomputable def tVar (i : Nat) : TE := fun σ H Q => match σ[i]? with | some (some v) => Q v H | _ => False
theorem tVar_ex {i : Nat} {σ : St} {H : Hp} {Q : VK} (h : tVar i σ H Q) : ∃ v, σ[i]? = some (some v) ∧ Q v H := by
  unfold tVar at h
  split at h
  · rename_i v e; exact ⟨v, e, h⟩
  · exact h.elim
noncomputable def tC (v : V) : TE := fun _ H Q => Q v H
theorem pe_var {i : Nat} {x : Str} {pos : Pos} (hN : X.N[i]? = some x) (hv : Vis X.env.scope x) (hd : (x == ("__debug__" : Str)) = false := by decide) (hcd : (x == ("__classdict__" : Str)) = false := by decide) : PE X (.Name x pos) (tVar i) := by
  intro pins s σ H Q I h
  obtain ⟨v, e, h⟩ := tVar_ex h
  obtain ⟨m, hn, hl⟩ := I.loc
  obtain ⟨u, r, l⟩ := hl i x v hN e hv
  have fin : EP X pins σ Q u s := ⟨v, H, I, r, h⟩
  rcases l with ⟨hk, hm⟩ | ⟨hk, c, hc, hcell⟩
  · exact wpAny_Name (wpAny_loadName_local I.ok.kind hk hn hm fin) hd
  · rcases hk with hk | hk
    · exact wpAny_Name (wpAny_loadName_cell I.ok.kind hk hc hcell fin) hd
    · exact wpAny_Name (wpAny_loadName_free I.ok.kind hk hc hcell fin hcd) hd
theorem pe_int {i j pos} : PE X (.Constant (.int i) j pos) (tC (.int i)) := fun _ _ _ H _ I h => wpAny_Constant_int ⟨.int i, H, I.tok _, ⟨_, rfl⟩, h⟩
theorem pe_bl {b j pos} : PE X (.Constant (.bool b) j pos) (tC (.bl b)) := fun _ _ _ H _ I h => Constant_bool ⟨.bl b, H, I, rfl, h⟩
theorem pe_non {j pos} : PE X (.Constant .none j pos) (tC .non) := fun _ _ _ H _ I h => Constant_none ⟨.non, H, I, rfl, h⟩
theorem pe_str {x j pos} : PE X (.Constant (.str x) j pos) (tC (.str x)) := fun _ _ _ H _ I h => Calls.Constant_str ⟨.str x, H, I.tok _, ⟨_, rfl⟩, h⟩
noncomputable def Gl (X : Cx) (x : Str) : Prop := X.env.kindOf x = some .globalImplicit
theorem ld_glob {E : Value → Shared → Prop} {pins : List (Addr × Obj)} {s : Shared} {σ : St} {H : Hp} {x : Str} {u : Value} {pos : Pos} {Q : Value → Shared → Prop} (I : Inv X pins σ H s) (hg : Gl X x) (hm : X.mg x = some u) (h : Q u s)
    (hd : (x == ("__debug__" : Str)) = false := by decide) : wpAny (model X.prog X.w) X.A (eval (.Name x pos) X.env) Q E s :=
  Calls.Name_function_global I.ok.kind hg (Calls.loadGlobal_global (by rw [I.ok.glob]; exact I.mod.glob.keeps I.bk) hm h) hd
theorem ld_blt {E : Value → Shared → Prop} {pins : List (Addr × Obj)} {s : Shared} {σ : St} {H : Hp} {x : Str} {u : Value} {pos : Pos} {Q : Value → Shared → Prop} (I : Inv X pins σ H s) (hg : Gl X x) (hm : X.mg x = none) (hv : bootBuiltins x = some u) (h : Q u s)
    (hn : x ≠ "__name__" := by decide) (hd : (x == ("__debug__" : Str)) = false := by decide) : wpAny (model X.prog X.w) X.A (eval (.Name x pos) X.env) Q E s := by
  obtain ⟨mb, h1, h2⟩ := I.mod.blt
  exact Calls.Name_function_global I.ok.kind hg (Calls.loadGlobal_builtin (by rw [I.ok.glob]; exact I.mod.glob.keeps I.bk) hm (by rw [I.ok.blt]; exact h1.keeps I.bk) ((h2 x hn).trans hv) h) hd
theorem pe_glob {x : Str} {v : V} {u : Value} {pos : Pos} (hg : Gl X x) (hm : X.mg x = some u) (r : RelV v u) (hd : (x == ("__debug__" : Str)) = false := by decide) : PE X (.Name x pos) (tC v) :=
  fun _ _ _ H _ I h => ld_glob I hg hm ⟨v, H, I, r, h⟩ hd
theorem pe_bltn {x : Str} {v : V} {u : Value} {pos : Pos} (hg : Gl X x) (hm : X.mg x = none) (hv : bootBuiltins x = some u) (r : RelV v u) (hn : x ≠ "__name__" := by decide) (hd : (x == ("__debug__" : Str)) = false := by decide) : PE X (.Name x pos) (tC v) :=
  fun _ _ _ H _ I h => ld_blt I hg hm hv ⟨v, H, I, r, h⟩ hn hd
variable {a b : Expr} {ta tb : TE} {pos : Pos}
noncomputable def PC (X : Cx) (op : CmpOp) (a b : Expr) (t : TE) : Prop :=
  ∀ (pins : List (Addr × Obj)) (s : Shared) (σ : St) (H : Hp) (Q : VK), Inv X pins σ H s → t σ H Q →
    wpAny (model X.prog X.w) X.A (eval a X.env) (fun v s₁ => wpAny (model X.prog X.w) X.A (eval b X.env) (fun u s₂ => wpAny (model X.prog X.w) X.A (compareOp op v u) (EP X pins σ Q) X.xe s₂) X.xe s₁) X.xe s
noncomputable def tB (t : TE) : TT := fun σ H Q => t σ H fun x H1 => ∃ c, x = .bl c ∧ Q c H1
theorem pt_cmp {op : CmpOp} {t : TE} (h : PC X op a b t) (h1 : behindInMarks op b = false := by first | exact nobehind _ (by decide) (by decide) | rfl) : PT X (.Compare a [op] [b] pos) (tB t) := by
  intro pins s σ H Q I hw
  refine wpAny_isTrue_Compare1 (thn (h pins s σ H _ I hw) fun v s1 h1 => thn h1 fun u s2 h2 => thn h2 fun c s3 ⟨x, H1, I1, r1, q1⟩ => ?_) h1
  obtain ⟨d, rfl, q⟩ := q1
  cases r1
  exact wpAny_truthy_bool ⟨H1, I1, q⟩
theorem pt_val {e : Expr} {t : TE} (h : PE X e t) (he : ∀ whole, isTrue e X.env whole = (do let v ← whole; standAt e.pos; holding [v] (truthy v)) := by intro _; rfl) : PT X e (tB t) := by
  intro pins s σ H Q I hw
  refine isTrue_plain (thn (h pins s σ H _ I hw) fun v s1 ⟨x, H1, I1, r1, q1⟩ => ?_) (he _)
  obtain ⟨d, rfl, q⟩ := q1
  cases r1
  exact wpAny_truthy_bool ⟨H1, I1, q⟩
variable {tA tB' : TT} {rest : List Expr}
noncomputable def tAnd (t u : TT) : TT := fun σ H Q => t σ H fun c H1 => if c = true then u σ H1 Q else Q false H1
noncomputable def tOr (t u : TT) : TT := fun σ H Q => t σ H fun c H1 => if c = true then Q true H1 else u σ H1 Q
noncomputable def tNot (t : TT) : TT := fun σ H Q => t σ H fun c H1 => Q (!c) H1
theorem pw_and1 (ha : PT X a tA) : PW X (.BoolOp .And [a] pos) tA := by
  intro wh pins s σ H Q I h
  refine isTrue_and (thn (ha pins s σ H Q I h) fun c s1 e => ?_)
  cases c with
  | true => exact isTrue_and_nil e
  | false => exact e
theorem pw_or1 (ha : PT X a tA) : PW X (.BoolOp .Or [a] pos) tA := by
  intro wh pins s σ H Q I h
  refine isTrue_or (thn (ha pins s σ H Q I h) fun c s1 e => ?_)
  cases c with
  | false => exact isTrue_or_nil e
  | true => exact e
theorem pw_and (ha : PT X a tA) (hb : PW X (.BoolOp .And (b :: rest) pos) tB') : PW X (.BoolOp .And (a :: b :: rest) pos) (tAnd tA tB') := by
  intro wh pins s σ H Q I h
  refine isTrue_and (thn (ha pins s σ H _ I h) fun c s1 ⟨H1, I1, q1⟩ => ?_)
  cases c with
  | true => exact hb wh pins s1 σ H1 Q I1 q1
  | false => exact ⟨H1, I1, q1⟩
theorem pw_or (ha : PT X a tA) (hb : PW X (.BoolOp .Or (b :: rest) pos) tB') : PW X (.BoolOp .Or (a :: b :: rest) pos) (tOr tA tB') := by
  intro wh pins s σ H Q I h
  refine isTrue_or (thn (ha pins s σ H _ I h) fun c s1 ⟨H1, I1, q1⟩ => ?_)
  cases c with
  | true => exact ⟨H1, I1, q1⟩
  | false => exact hb wh pins s1 σ H1 Q I1 q1
theorem pt_not (ha : PT X a tA) : PT X (.UnaryOp .Not a pos) (tNot tA) := by
  intro pins s σ H Q I h
  exact isTrue_not (ha pins s σ H (fun c H1 => Q (!c) H1) I h)
noncomputable def tAndV (ta tb : TE) : TE := fun σ H Q => ta σ H fun x H1 => ∃ c, x = .bl c ∧ if c = true then tb σ H1 Q else Q (.bl false) H1
noncomputable def tOrV (ta tb : TE) : TE := fun σ H Q => ta σ H fun x H1 => ∃ c, x = .bl c ∧ if c = true then Q (.bl true) H1 else tb σ H1 Q
noncomputable def tNotV (ta : TE) : TE := fun σ H Q => ta σ H fun x H1 => ∃ c, x = .bl c ∧ Q (.bl (!c)) H1
theorem pe_one {op} {t : TE} (h : PE X a t) : PE X (.BoolOp op [a] pos) t := fun pins s σ H Q I hw => BoolOp_one (h pins s σ H Q I hw)
theorem pe_and (ha : PE X a ta) (hb : PE X (.BoolOp .And (b :: rest) pos) tb) : PE X (.BoolOp .And (a :: b :: rest) pos) (tAndV ta tb) := by
  intro pins s σ H Q I h
  refine BoolOp_and (thn (ha pins s σ H _ I h) fun v s1 ⟨x, H1, I1, r1, q1⟩ => ?_)
  obtain ⟨c, rfl, q1⟩ := q1
  cases r1
  refine wpAny_truthy_bool ?_
  cases c with
  | true => exact hb pins s1 σ H1 Q I1 q1
  | false => exact ⟨.bl false, H1, I1, rfl, q1⟩
theorem pe_not (ha : PE X a ta) : PE X (.UnaryOp .Not a pos) (tNotV ta) := by
  intro pins s σ H Q I h
  refine UnaryOp_ (thn (ha pins s σ H _ I h) fun v s1 ⟨x, H1, I1, r1, q1⟩ => ?_)
  obtain ⟨c, rfl, q1⟩ := q1
  cases r1
  exact not_of (wpAny_truthy_bool ⟨.bl (!c), H1, I1, rfl, q1⟩)
noncomputable def tIf (t : TT) (ta tb : TE) : TE := fun σ H Q => t σ H fun c H1 => if c = true then ta σ H1 Q else tb σ H1 Q
theorem pe_ifExp {c : Expr} (hc : PT X c tA) (ha : PE X a ta) (hb : PE X b tb) : PE X (.IfExp c a b pos) (tIf tA ta tb) := by
  intro pins s σ H Q I h
  refine wpAny_IfExp (thn (hc pins s σ H _ I h) fun d s1 ⟨H1, I1, q1⟩ => ?_)
  cases d with
  | true => exact ha pins s1 σ H1 Q I1 q1
  | false => exact hb pins s1 σ H1 Q I1 q1
end
end L2
namespace L2
open PySem PySem.Spec PyProof.Rows
noncomputable def SqL (K : PySem.W.Frag) (H : Hp) (a : Addr) (xs : List V) : Prop :=
  Rd H a (.lst xs) ∨
    ∃ (o : Obj) (its : Array Value) (n : Nat), K.lookup a = some o ∧ o.cls = .type "list" ∧ o.dict = none ∧ o.data = .seq its n ∧ its.size ≤ sizeLine ∧ Vals xs its.toList
noncomputable def SqT (K : PySem.W.Frag) (H : Hp) (a : Addr) (xs : List V) : Prop :=
  Rd H a (.tup xs) ∨
    ∃ (o : Obj) (its : Array Value) (n : Nat), K.lookup a = some o ∧ o.cls = .type "tuple" ∧ o.data = .seq its n ∧ its.size ≤ sizeLine ∧ Vals xs its.toList
noncomputable def absV : Value → Option V
  | .none => some .non
  | .bool b => some (.bl b)
  | .int i _ => some (.int i)
  | .str x _ => some (.str x)
  | .bytes b _ => some (.byt b)
  | .float b _ => some (.flt b)
  | .ref a => some (.ref a)
  | .type n => some (.ty n)
  | _ => none
theorem RelV.abs {x : V} {u : Value} (r : RelV x u) : absV u = some x := by
  cases x with
  | non => cases r; rfl
  | bl _ => cases r; rfl
  | int _ => obtain ⟨t, rfl⟩ := r; rfl
  | str _ => obtain ⟨t, rfl⟩ := r; rfl
  | byt _ => obtain ⟨t, rfl⟩ := r; rfl
  | flt _ => obtain ⟨t, rfl⟩ := r; rfl
  | ref _ => cases r; rfl
  | ty _ => cases r; rfl
theorem RelV.inj {x y : V} {u : Value} (r : RelV x u) (q : RelV y u) : x = y := Option.some.inj (r.abs.symm.trans q.abs)
theorem Vals.inj : ∀ {xs ys : List V} {us : List Value}, Vals xs us → Vals ys us → xs = ys
  | _, _, _, .nil, .nil => rfl
  | _, _, _, .cons r t, .cons r' t' => by rw [r.inj r', Vals.inj t t']
section
variable {X : Cx} {pins : List (Addr × Obj)} {σ : St} {H : Hp} {s : Shared} {a : Addr} {xs ys : List V}
theorem SqL.of {K : PySem.W.Frag} (h : H a = some (.lst xs)) : SqL K H a xs := .inl (.inl h)
theorem SqT.of {K : PySem.W.Frag} (h : H a = some (.tup xs)) : SqT K H a xs := .inl (.inl h)
theorem Inv.list (I : Inv X pins σ H s) (h : SqL X.K H a xs) : ∃ its : List Value, Vals xs its ∧ PlainL s.heap a its.toArray ∧ xs.length ≤ sizeLine := by
  rcases h with h | ⟨o, its, n, hk, hc, hd, hs, hz, r⟩
  · obtain ⟨z, its, n, r, e⟩ := h.ok I.hok
    exact ⟨its, r, ⟨_, n, e, rfl, rfl, rfl⟩, z⟩
  · refine ⟨its.toList, r, ⟨o, n, I.kIn a o hk, hc, hd, by simpa using hs⟩, ?_⟩
    have e := r.length
    simp only [Array.length_toList] at e
    omega
theorem Inv.tuple (I : Inv X pins σ H s) (h : SqT X.K H a xs) : ∃ its : List Value, Vals xs its ∧ IsTup s.heap a its.toArray ∧ xs.length ≤ sizeLine := by
  rcases h with h | ⟨o, its, n, hk, hc, hs, hz, r⟩
  · obtain ⟨z, its, r, p⟩ := h.ok I.hok
    exact ⟨its, r, p, z⟩
  · refine ⟨its.toList, r, ⟨o, I.kIn a o hk, hc, n, by simpa using hs⟩, ?_⟩
    have e := r.length
    simp only [Array.length_toList] at e
    omega
theorem Inv.list_inj (I : Inv X pins σ H s) (h : SqL X.K H a xs) (h' : SqL X.K H a ys) : xs = ys := by
  obtain ⟨its, r, ⟨o, n, e, _, _, d⟩, _⟩ := I.list h
  obtain ⟨its', r', ⟨o', n', e', _, _, d'⟩, _⟩ := I.list h'
  rw [e] at e'; cases e'
  rw [d] at d'
  injection d' with d1 _
  have : its = its' := by simpa using congrArg Array.toList d1
  subst this
  exact r.inj r'
end
noncomputable abbrev Cx.wish (X : Cx) (E : Value → Shared → Prop) : Cx := { X with xe := E }
noncomputable abbrev Cx.nox (X : Cx) : Cx := X.wish fun _ _ => False
theorem Cx.Ok.wish {X : Cx} (ok : X.Ok) (E : Value → Shared → Prop) : (X.wish E).Ok :=
  ⟨ok.mod, ok.kind, ok.glob, ok.blt, ok.above, ok.inj, ok.has, ok.cab, ok.hd, ok.frames, ok.stk, ok.exf, ok.bs, ok.bsz, ok.noex, ok.exfs, ok.funs, ok.frf⟩
theorem Cx.Ok.unwish {X : Cx} {E : Value → Shared → Prop} (ok : (X.wish E).Ok) : X.Ok :=
  ⟨ok.mod, ok.kind, ok.glob, ok.blt, ok.above, ok.inj, ok.has, ok.cab, ok.hd, ok.frames, ok.stk, ok.exf, ok.bs, ok.bsz, ok.noex, ok.exfs, ok.funs, ok.frf⟩
section
variable {X : Cx} {pins : List (Addr × Obj)} {σ : St} {H : Hp} {s : Shared} {E : Value → Shared → Prop}
theorem Inv.wish (I : Inv X pins σ H s) (E : Value → Shared → Prop) : Inv (X.wish E) pins σ H s := ⟨I.ok.wish E, I.os, I.bare, I.base, I.loc, I.cell, I.free, I.freeC, I.pin, I.hok, I.len⟩
theorem Inv.unwish (I : Inv (X.wish E) pins σ H s) : Inv X pins σ H s := ⟨I.ok.unwish, I.os, I.bare, I.base, I.loc, I.cell, I.free, I.freeC, I.pin, I.hok, I.len⟩
theorem SP.unwish {D : Ends} {f : Flow} {s' : Shared} (h : SP (X.wish E) pins D f s') : SP X pins D f s' := by
  cases f with
  | next => obtain ⟨σ', H', I, q⟩ := h; exact ⟨σ', H', I.unwish, q⟩
  | brk => obtain ⟨σ', H', I, q⟩ := h; exact ⟨σ', H', I.unwish, q⟩
  | cont => obtain ⟨σ', H', I, q⟩ := h; exact ⟨σ', H', I.unwish, q⟩
  | ret u => obtain ⟨v, σ', H', I, r, q⟩ := h; exact ⟨v, σ', H', I.unwish, r, q⟩
theorem PSs.nox {st : List Stmt} {t : TS} (h : PSs X.nox st t) : PSs X st t := fun pins s σ H D I hw =>
  wpAny_mono (h pins s σ H D (I.wish _) hw) (fun _ _ q => q.unwish) fun _ _ z => False.elim z
end
section
variable {X : Cx} {st : Stmt} {rest : List Stmt} {t u : TS} {e : Expr} {te : TE} {pos : Pos}
noncomputable def tNext : TS := fun D σ H => D.nx σ H
noncomputable def tSeq (t u : TS) : TS := fun D σ H => t { D with nx := u D } σ H
theorem pss_nil : PSs X [] tNext := fun _ _ σ H _ I h => wpAny_execs_nil ⟨σ, H, I, h⟩
theorem pss_cons (h1 : PS X st t) (h2 : PSs X rest u) : PSs X (st :: rest) (tSeq t u) := by
  intro pins s σ H D I h
  refine wpAny_execs_cons (thn (h1 pins s σ H { D with nx := u D } I h) fun f s1 q => ?_)
  cases f with
  | next =>
    obtain ⟨σ', H', I', q⟩ := q
    exact h2 pins s1 σ' H' D I' q
  | ret v => exact q
  | brk => exact q
  | cont => exact q
theorem pss_one (h1 : PS X st t) : PSs X [st] t := by
  intro pins s σ H D I h
  refine wpAny_execs_cons (thn (h1 pins s σ H D I h) fun f s1 q => ?_)
  cases f with
  | next => exact wpAny_execs_nil q
  | ret v => exact q
  | brk => exact q
  | cont => exact q
noncomputable def tBreak : TS := fun D σ H => D.bk σ H
theorem ps_break : PS X (.Break pos) tBreak := fun _ _ σ H _ I h => wpAny_Break ⟨σ, H, I, h⟩
theorem Inv.quiet {pins : List (Addr × Obj)} {σ : St} {H : Hp} {s : Shared} (I : Inv X pins σ H s) : interactive X.env = false := by simp [interactive, I.ok.kind]
noncomputable def tDrop (te : TE) : TS := fun D σ H => te σ H fun _ H1 => D.nx σ H1
theorem ps_expr (he : PE X e te) (hs : swapsWith e none pos.line X.env = pure false := by rfl) : PS X (.Expr e pos) (tDrop te) := by
  intro pins s σ H D I h
  exact wpAny_Expr_any (thn (he pins s σ H _ I h) fun v s1 ⟨x, H1, I1, r1, q1⟩ => ⟨σ, H1, I1, q1⟩) I.quiet hs
noncomputable def tRet (te : TE) : TS := fun D σ H => te σ H D.rt
theorem ps_ret (he : PE X e te) : PS X (.Return (some e) pos) (tRet te) := by
  intro pins s σ H D I h
  exact wpAny_Return_some (thn (he pins s σ H _ I h) fun v s1 ⟨x, H1, I1, r1, q1⟩ => ⟨x, σ, H1, I1, r1, q1⟩)
noncomputable def tRetN : TS := fun D _ H => D.rt .non H
noncomputable def tIfS (c : TT) (t u : TS) : TS := fun D σ H => c σ H fun b H1 => if b = true then t D σ H1 else u D σ H1
theorem ps_if {c : Expr} {a b : List Stmt} {tc : TT} (hc : PT X c tc) (ha : PSs X a t) (hb : PSs X b u) : PS X (.If c a b pos) (tIfS tc t u) := by
  intro pins s σ H D I h
  refine wpAny_If (thn (hc pins s σ H _ I h) fun d s1 ⟨H1, I1, q1⟩ => ?_)
  cases d with
  | true => exact ha pins s1 σ H1 D I1 q1
  | false => exact hb pins s1 σ H1 D I1 q1
noncomputable def tNever : TS := fun _ _ _ => False
theorem ps_never : PS X st tNever := fun _ _ _ _ _ _ h => h.elim
end
noncomputable abbrev TG := V → St → Hp → (St → Hp → Prop) → Prop
noncomputable abbrev TGs := List V → St → Hp → (St → Hp → Prop) → Prop
noncomputable def PG (X : Cx) (target : Expr) (t : TG) : Prop :=
  ∀ (pins : List (Addr × Obj)) (s : Shared) (σ : St) (H : Hp) (v : V) (u : Value) (Q : St → Hp → Prop), Inv X pins σ H s → RelV v u → t v σ H Q →
    wpAny (model X.prog X.w) X.A (assign target X.env u) (fun _ s' => ∃ σ' H', Inv X pins σ' H' s' ∧ Q σ' H') X.xe s
noncomputable def PGs (X : Cx) (ts : List Expr) (t : TGs) : Prop :=
  ∀ (pins : List (Addr × Obj)) (s : Shared) (σ : St) (H : Hp) (vs : List V) (us : List Value) (Q : St → Hp → Prop), Inv X pins σ H s → Vals vs us → t vs σ H Q →
    wpAny (model X.prog X.w) X.A (assignInOrder ((assignEach ts X.env).map (·.2)) us) (fun _ s' => ∃ σ' H', Inv X pins σ' H' s' ∧ Q σ' H') X.xe s
noncomputable abbrev TSet := V → V → V → Hp → (Hp → Prop) → Prop
noncomputable def PSet (X : Cx) (t : TSet) : Prop :=
  ∀ (pins : List (Addr × Obj)) (s : Shared) (σ : St) (H : Hp) (o i v : V) (ov iv u : Value) (Q : Hp → Prop), Inv X pins σ H s → RelV o ov → RelV i iv → RelV v u → t o i v H Q →
    wpAny (model X.prog X.w) X.A (setItem ov iv u) (fun _ s' => ∃ H', Inv X pins σ H' s' ∧ Q H') X.xe s
noncomputable abbrev TIp := V → V → Hp → VK → Prop
noncomputable def PIp (X : Cx) (op : Operator) (t : TIp) : Prop :=
  ∀ (pins : List (Addr × Obj)) (s : Shared) (σ : St) (H : Hp) (x y : V) (v u : Value) (Q : VK), Inv X pins σ H s → RelV x v → RelV y u → t x y H Q →
    wpAny (model X.prog X.w) X.A (inplaceOp op v u) (EP X pins σ Q) X.xe s
section
variable {X : Cx} {pos : Pos}
noncomputable def gName (i : Nat) : TG := fun v σ H Q => Q (σ.set i (some v)) H
theorem pg_name {i : Nat} {x : Str} (hN : X.N.Nodup) (hi : X.N[i]? = some x) (hx : Loc X.env.scope x) (hf : X.fn x = true ∨ X.env.scope.names.lookup x = some .local := by first | exact .inl rfl | exact .inr rfl | assumption) : PG X (.Name x pos) (gName i) := by
  intro pins s σ H v u Q I r h
  exact wpAny_assign_Name (store_ok I hN hi hx r (fun s' I' => ⟨_, H, I', h⟩) hf)
noncomputable def gNil : TGs := fun vs σ H Q => vs = [] ∧ Q σ H
noncomputable def gCons (t : TG) (u : TGs) : TGs := fun vs σ H Q => ∃ v r, vs = v :: r ∧ t v σ H fun σ' H' => u r σ' H' Q
theorem pgs_nil : PGs X [] gNil := by
  intro pins s σ H vs us Q I r h
  obtain ⟨e, h⟩ := h
  subst e
  cases r
  exact assignInOrder_nil ⟨σ, H, I, h⟩
theorem pgs_cons {e : Expr} {es : List Expr} {t : TG} {u : TGs} (h1 : PG X e t) (h2 : PGs X es u)
    (hs : (assignEach (e :: es) X.env).map (·.2) = assign e X.env :: (assignEach es X.env).map (·.2) := by rfl) : PGs X (e :: es) (gCons t u) := by
  intro pins s σ H vs us Q I r h
  obtain ⟨v, vr, e1, h⟩ := h
  subst e1
  cases r with
  | cons r rr =>
    rw [hs]
    refine assignInOrder_cons (thn (h1 pins s σ H _ _ _ I r h) fun _ s1 ⟨σ1, H1, I1, q1⟩ => ?_)
    exact h2 pins s1 σ1 H1 _ _ Q I1 rr q1
noncomputable def gTup (K : PySem.W.Frag) (n : Nat) (t : TGs) : TG := fun v σ H Q => ∃ a xs, v = .ref a ∧ SqT K H a xs ∧ xs.length = n ∧ t xs σ H Q
theorem pg_tup {es : List Expr} {k : Nat} {t : TGs} {n : Nat} (hc : X.calm = true) (h : PGs X es t)
    (hn : (assignEach es X.env).length = n := by rfl) (hst : (assignEach es X.env).findIdx? (·.1) = none := by rfl) : PG X (.Tuple es k pos) (gTup X.K n t) := by
  intro pins s σ H v u Q I r hw
  obtain ⟨a, xs, e1, hq, hl, hw⟩ := hw
  subst e1
  cases r
  obtain ⟨its, rv, ht, hz⟩ := I.tuple hq
  refine assign_Tuple_tuple (I.ok.hd hc) ht (by simp [hn, ← hl, rv.length]) hst fun h' hx => ?_
  have I1 : Inv X pins σ H { s with heap := h' } := I.kept (t' := s.toks) fun b o e => hx b o (Nat.ne_of_lt (Heap.lt_size e)) e
  exact h pins _ σ H xs _ Q I1 (by simpa using rv) hw
noncomputable def gSub (to ti : TE) (t : TSet) : TG := fun v σ H Q => to σ H fun o H1 => ti σ H1 fun i H2 => t o i v H2 fun H3 => Q σ H3
theorem pg_sub {o i : Expr} {to ti : TE} {t : TSet} (ho : PE X o to) (hi : PE X i ti) (hs : PSet X t)
    (ha : ∀ v, assign (.Subscript o i pos) X.env v = (do
      let ov ← holding [v] (eval o X.env)
      let iv ← holding [v, ov] (eval i X.env)
      standAt pos
      holding [v, ov, iv] (setItem ov iv v)
      release [v, ov, iv] []) := by intro _; rfl) : PG X (.Subscript o i pos) (gSub to ti t) := by
  intro pins s σ H v u Q I r h
  rw [ha]
  refine wpAny_bind (wpAny_holding (thn (ho pins s σ H _ I h) fun ov s1 ⟨x, H1, I1, r1, q1⟩ => ?_))
  refine wpAny_bind (wpAny_holding (thn (hi pins s1 σ H1 _ I1 q1) fun iv s2 ⟨y, H2, I2, r2, q2⟩ => ?_))
  refine wpAny_bind (wpAny_standAt (wpAny_bind (wpAny_holding (thn (hs pins s2 σ H2 x y v ov iv u _ I2 r1 r2 r q2) fun _ s3 ⟨H3, I3, q3⟩ => ?_))))
  exact wpAny_release ⟨σ, H3, I3, q3⟩
noncomputable def tAsg (te : TE) (g : TG) : TS := fun D σ H => te σ H fun x H1 => g x σ H1 D.nx
theorem ps_asg {tg e : Expr} {te : TE} {g : TG} (he : PE X e te) (hg : PG X tg g) (hs : swapsWithSole [tg] e pos.line X.env = pure false := by rfl) (hw : swappedStores [tg] e X.env = pure none := by rfl)
    (h1 : (assignEach [tg] X.env).map (·.2) = [assign tg X.env] := by rfl) : PS X (.Assign [tg] e pos) (tAsg te g) := by
  intro pins s σ H D I h
  refine wpAny_Assign_stores (thn (he pins s σ H _ I h) fun v s1 ⟨x, H1, I1, r1, q1⟩ => ?_) hs hw
  rw [h1]
  exact thn (hg pins s1 σ H1 x v _ I1 r1 q1) fun _ s2 q => q
theorem ps_set {i : Nat} {x : Str} {e : Expr} {te : TE} {pos' : Pos} (hN : X.N.Nodup) (hi : X.N[i]? = some x) (hx : Loc X.env.scope x) (he : PE X e te) (hs : swapsWith e (some (.Name x pos')) pos.line X.env = pure false := by rfl) (hf : X.fn x = true ∨ X.env.scope.names.lookup x = some .local := by first | exact .inl rfl | exact .inr rfl | assumption) :
    PS X (.Assign [.Name x pos'] e pos) (tAsg te (gName i)) := by
  intro pins s σ H D I h
  refine wpAny_Assign_Name (thn (he pins s σ H _ I h) fun v s1 ⟨y, H1, I1, r1, q1⟩ => ?_) hs
  exact store_ok I1 hN hi hx r1 (fun s2 I2 => ⟨_, H1, I2, q1⟩) hf
noncomputable def tAug (i : Nat) (te : TE) (ti : TIp) : TS := fun D σ H => ∃ x, σ[i]? = some (some x) ∧ te σ H fun y H1 => ti x y H1 fun z H2 => D.nx (σ.set i (some z)) H2
theorem ps_aug {i : Nat} {x : Str} {e : Expr} {te : TE} {op : Operator} {ti : TIp} {pos' : Pos} (hN : X.N.Nodup) (hi : X.N[i]? = some x) (hx : Loc X.env.scope x) (he : PE X e te) (ho : PIp X op ti) (hf : X.fn x = true ∨ X.env.scope.names.lookup x = some .local := by first | exact .inl rfl | exact .inr rfl | assumption) :
    PS X (.AugAssign (.Name x pos') op e pos) (tAug i te ti) := by
  intro pins s σ H D I h
  obtain ⟨v, e1, h⟩ := h
  obtain ⟨m, hn, hl⟩ := I.loc
  have vis : Vis X.env.scope x := by rcases hx with k | k; exact .inl k; exact .inr (.inl k)
  obtain ⟨u, r, l⟩ := hl i x v hi e1 vis
  refine wpAny_AugAssign_Name ?_
  have go : wpAny (model X.prog X.w) X.A (eval e X.env) (fun w s₂ => wpAny (model X.prog X.w) X.A (inplaceOp op u w) (fun r s₃ => wpAny (model X.prog X.w) X.A (storeName X.env x r) (fun _ => SP X pins D .next) X.xe s₃) X.xe s₂) X.xe s := by
    refine thn (he pins s σ H _ I h) fun w s1 ⟨y, H1, I1, r1, q1⟩ => ?_
    refine thn (ho pins s1 σ H1 v y u w _ I1 r r1 q1) fun z s2 ⟨zv, H2, I2, r2, q2⟩ => ?_
    exact store_ok I2 hN hi hx r2 (fun s3 I3 => ⟨_, H2, I3, q2⟩) hf
  rcases l with ⟨hk, hm⟩ | ⟨hk, c, hc, hcell⟩
  · exact wpAny_loadName_local I.ok.kind hk hn hm go
  · rcases hk with hk | hk
    · exact wpAny_loadName_cell I.ok.kind hk hc hcell go
    · rcases hx with k | k
      · have : X.env.scope.names.lookup x = some .free := hk
        rw [k] at this; cases this
      · have : X.env.scope.names.lookup x = some .free := hk
        rw [k] at this; cases this
noncomputable def tAugS (to ti te : TE) (tget : V → V → Hp → VK → Prop) (tip : TIp) (tset : TSet) : TS := fun D σ H => to σ H fun o H1 => ti σ H1 fun i H2 => tget o i H2 fun x H3 => te σ H3 fun y H4 => tip x y H4 fun z H5 => tset o i z H5 fun H6 => D.nx σ H6
noncomputable def PGet (X : Cx) (t : V → V → Hp → VK → Prop) : Prop :=
  ∀ (pins : List (Addr × Obj)) (s : Shared) (σ : St) (H : Hp) (o i : V) (ov iv : Value) (Q : VK), Inv X pins σ H s → RelV o ov → RelV i iv → t o i H Q →
    wpAny (model X.prog X.w) X.A (getItem ov iv) (EP X pins σ Q) X.xe s
theorem ps_augS {o i e : Expr} {to ti te : TE} {tget : V → V → Hp → VK → Prop} {tip : TIp} {tset : TSet} {op : Operator} {tpos : Pos} (ho : PE X o to) (hi : PE X i ti) (hg : PGet X tget) (he : PE X e te) (hp : PIp X op tip) (hs : PSet X tset)
    (ha : ∀ ov iv new, augStore i ov iv new = (do holding [new, ov, iv] (setItem ov iv new); release [new, ov, iv] []; pure .next) := by intros; rfl) : PS X (.AugAssign (.Subscript o i tpos) op e pos) (tAugS to ti te tget tip tset) := by
  intro pins s σ H D I h
  refine wpAny_AugAssign_SubscriptAny (thn (ho pins s σ H _ I h) fun ov s1 ⟨x1, H1, I1, r1, q1⟩ => ?_) ha
  refine thn (hi pins s1 σ H1 _ I1 q1) fun iv s2 ⟨x2, H2, I2, r2, q2⟩ => ?_
  refine thn (hg pins s2 σ H2 x1 x2 ov iv _ I2 r1 r2 q2) fun old s3 ⟨x3, H3, I3, r3, q3⟩ => ?_
  refine thn (he pins s3 σ H3 _ I3 q3) fun v s4 ⟨x4, H4, I4, r4, q4⟩ => ?_
  refine thn (hp pins s4 σ H4 x3 x4 old v _ I4 r3 r4 q4) fun new s5 ⟨x5, H5, I5, r5, q5⟩ => ?_
  exact thn (hs pins s5 σ H5 x1 x2 x5 ov iv new _ I5 r1 r2 r5 q5) fun _ s6 ⟨H6, I6, q6⟩ => ⟨σ, H6, I6, q6⟩
noncomputable def ipI (f : Int → Int → Int) : TIp := fun x y H Q => ∃ i j, x = .int i ∧ y = .int j ∧ Q (.int (f i j)) H
theorem ip_add : PIp X .Add (ipI fun i j => i + j) := by
  intro pins s σ H x y v u Q I r1 r2 h
  obtain ⟨i, j, e1, e2, q⟩ := h
  subst e1; subst e2
  obtain ⟨t, rfl⟩ := r1
  obtain ⟨t', rfl⟩ := r2
  exact iadd_int ⟨.int _, H, I.tok _, ⟨_, rfl⟩, q⟩
theorem ip_sub : PIp X .Sub (ipI fun i j => i - j) := by
  intro pins s σ H x y v u Q I r1 r2 h
  obtain ⟨i, j, e1, e2, q⟩ := h
  subst e1; subst e2
  obtain ⟨t, rfl⟩ := r1
  obtain ⟨t', rfl⟩ := r2
  exact isub_int ⟨.int _, H, I.tok _, ⟨_, rfl⟩, q⟩
end
section
variable {X : Cx} {pos : Pos}
noncomputable def tWhile (c : TT) (tb : TS) : TS := fun D σ H => ∃ W : Nat → St → Hp → Prop, (∃ m, W m σ H) ∧ ∀ m σ H, W m σ H →
  c σ H fun b H1 => if b = true then ∃ N : St → Hp → Prop, (∀ σ' H', N σ' H' → ∃ m', m' < m ∧ W m' σ' H') ∧ tb { D with nx := N, ct := N, bk := D.nx } σ H1 else D.nx σ H1
theorem ps_while {c : Expr} {body : List Stmt} {tc : TT} {tb : TS} (hp : PassesOwn (model X.prog X.w) X.A X.env X.xe) (hc : PT X c tc) (hb : PSs X body tb) : PS X (.While c body [] pos) (tWhile tc tb) := by
  intro pins s σ H D I h
  obtain ⟨W, ⟨m0, w0⟩, turn⟩ := h
  refine wpAny_While (codeAny_whileLoop (fun n s' => ∃ σ' H', Inv X pins σ' H' s' ∧ W n σ' H') ?_ m0 ⟨σ, H, I, w0⟩)
  rintro n s1 ⟨σ1, H1, I1, w1⟩
  refine wpAny_passesOwn hp (thn (hc pins s1 σ1 H1 _ I1 (turn n σ1 H1 w1)) fun b s2 ⟨H2, I2, q2⟩ => ?_)
  cases b with
  | true =>
    obtain ⟨N, hN, q2⟩ := q2
    rw [if_pos rfl]
    refine wpAny_passesOwn hp (thn (hb pins s2 σ1 H2 _ I2 q2) fun f s3 q3 => ?_)
    cases f with
    | next =>
      obtain ⟨σ3, H3, I3, n3⟩ := q3
      obtain ⟨m', hm, w3⟩ := hN σ3 H3 n3
      exact ⟨m', hm, σ3, H3, I3, w3⟩
    | cont =>
      obtain ⟨σ3, H3, I3, n3⟩ := q3
      obtain ⟨m', hm, w3⟩ := hN σ3 H3 n3
      exact ⟨m', hm, σ3, H3, I3, w3⟩
    | brk => exact q3
    | ret v => exact q3
  | false =>
    rw [if_neg Bool.false_ne_true]
    exact wpAny_execs_nil ⟨σ1, H2, I2, q2⟩
end
structure It where
  go : Nat → Hp → Prop
  yld : Nat → Hp → V → Hp → Prop
  stop : Nat → Hp → Prop
noncomputable def FpOk (X : Cx) (pins : List (Addr × Obj)) (H : Hp) (b : Addr) : Prop :=
  H b = none ∧ b ≠ X.env.locals ∧ b ∉ X.fs ∧ (b ∈ X.ex ∨ X.s₀.heap.objs.size ≤ b) ∧ (∀ x c, X.env.cells.lookup x = some c → c ≠ b) ∧ ∀ p ∈ X.pn ++ pins, p.1 ≠ b
theorem Inv.fpOk {X : Cx} {pins : List (Addr × Obj)} {σ : St} {H H' : Hp} {s : Shared} {b : Addr} (I : Inv X pins σ H s) (hb : s.heap.objs.size ≤ b) (hn : H' b = none) : FpOk X pins H' b := by
  refine ⟨hn, Nat.ne_of_gt (Nat.lt_of_lt_of_le I.lt hb), I.nofs hb, .inr (Nat.le_trans I.sz hb), fun x c e z => ?_, fun p hp z => ?_⟩
  · obtain ⟨v, q⟩ := I.cell x c e
    exact absurd (Nat.lt_of_lt_of_le q.lt (by rw [z]; exact hb)) (Nat.lt_irrefl _)
  · exact absurd (Nat.lt_of_lt_of_le (Heap.lt_size (I.pin p hp).1) (by rw [z]; exact hb)) (Nat.lt_irrefl _)
structure Turn (P : Program) (w : World) (K : PySem.W.Frag) (tg : Expr) (J : It) (fp : List Addr) (it : Addr) (tn : Nat → Heap → Prop) : Prop where
  mem : it ∈ fp
  obj : ∀ i h, tn i h → ∀ b ∈ fp, ∃ o, h.get? b = some o ∧ ∀ v, o.data ≠ .cell v
  keep : ∀ i h h', tn i h → (∀ b ∈ fp, ∀ o, h.get? b = some o → h'.get? b = some o) → tn i h'
  item : ∀ (X : Cx), X.prog = P → X.w = w → X.K = K → X.calm = true → ∀ (i : Nat) (pins : List (Addr × Obj)) (s : Shared) (σ : St) (H : Hp) (E : Value → Shared → Prop), Inv X pins σ H s → (∀ b ∈ fp, FpOk X pins H b) → tn i s.heap → J.go i H →
    wpAny (model P w) X.A (pyNext (.ref it)) (fun r s1 => ∃ u, r = some u ∧
      wpAny (model P w) X.A (letOwnedTupleGo tg (.ref it) u) (fun _ s2 => ∃ x H', Inv X pins σ H' s2 ∧ RelV x u ∧ J.yld i H x H' ∧ tn (i + 1) s2.heap ∧ ∀ b ∈ fp, H' b = none) E s1) E s
  done : ∀ (X : Cx), X.prog = P → X.w = w → X.K = K → X.calm = true → ∀ (i : Nat) (pins : List (Addr × Obj)) (s : Shared) (σ : St) (H : Hp) (E : Value → Shared → Prop), Inv X pins σ H s → (∀ b ∈ fp, FpOk X pins H b) → tn i s.heap → J.stop i H →
    wpAny (model P w) X.A (pyNext (.ref it)) (fun r s1 => r = none ∧ Inv X pins σ H s1) E s
  self : ∀ (A : Around) (i : Nat) (s : Shared) (Q : Value → Shared → Prop) (E : Value → Shared → Prop), tn i s.heap → Q (.ref it) s → wpAny (model P w) A (pyIter (.ref it)) Q E s
noncomputable abbrev TI := St → Hp → (It → Hp → Prop) → Prop
noncomputable def PIE (X : Cx) (pins : List (Addr × Obj)) (σ : St) (tg : Expr) (R : It → Hp → Prop) (itv : Value) (s2 : Shared) : Prop :=
  ∃ (it : Addr) (fp : List Addr) (tn : Nat → Heap → Prop) (J : It) (H' : Hp), itv = .ref it ∧ Inv X pins σ H' s2 ∧ Turn X.prog X.w X.K tg J fp it tn ∧ tn 0 s2.heap ∧ (∀ b ∈ fp, FpOk X pins H' b) ∧ R J H'
noncomputable def PI (X : Cx) (tg iter : Expr) (wi : TI) : Prop :=
  ∀ (pins : List (Addr × Obj)) (s : Shared) (σ : St) (H : Hp) (R : It → Hp → Prop), Inv X pins σ H s → wi σ H R →
    wpAny (model X.prog X.w) X.A (eval iter X.env) (fun v s1 => wpAny (model X.prog X.w) X.A (pyIter v) (PIE X pins σ tg R) X.xe s1) X.xe s
theorem go_of {M : Model} {A : Around} {E : Value → Shared → Prop} {s : Shared} {tg : Expr} {it : Addr} {u : Value} {o : Obj} {n : String} {vs : Array Value} {Q : Unit → Shared → Prop} (ho : s.heap.get? it = some o) (hc : o.cls = .type n) (hd : o.data = .fields vs)
    (hn : ["enumerate", "zip", "dict_itemiterator", "dict_reverseitemiterator", "odict_iterator", "itertools.zip_longest", "itertools.pairwise"].contains n = false) (hQ : Q () s) : wpAny M A (letOwnedTupleGo tg (.ref it) u) Q E s := by
  unfold letOwnedTupleGo
  cases tg <;> first
    | exact wpAny_pure hQ
    | (cases u <;> first
        | exact wpAny_pure hQ
        | (refine wpAny_bind (wpAny_load ho ?_)
           rw [hc, hd]
           show wpAny M A (if (["enumerate", "zip", "dict_itemiterator", "dict_reverseitemiterator", "odict_iterator", "itertools.zip_longest", "itertools.pairwise"].contains n && vs[0]? == some (rawInt _)) = true then _ else _) Q E s
           rw [if_neg (by intro h; rw [hn, Bool.false_and] at h; cases h)]
           exact wpAny_pure hQ))
noncomputable def Itl (K : PySem.W.Frag) (a : Addr) : It :=
  ⟨fun i H => ∃ xs x, SqL K H a xs ∧ xs[i]? = some x, fun i H x H' => H' = H ∧ ∀ xs, SqL K H a xs → xs[i]? = some x, fun i H => ∃ xs, SqL K H a xs ∧ xs.length ≤ i⟩
noncomputable def Itt (K : PySem.W.Frag) (a : Addr) : It :=
  ⟨fun i H => ∃ xs x, SqT K H a xs ∧ xs[i]? = some x, fun i H x H' => H' = H ∧ ∀ xs, SqT K H a xs → xs[i]? = some x, fun i H => ∃ xs, SqT K H a xs ∧ xs.length ≤ i⟩
noncomputable def Itr (lo : Int) (n : Nat) : It := ⟨fun i _ => i < n, fun i H x H' => H' = H ∧ x = .int (lo + i), fun i _ => n ≤ i⟩
theorem turn_list {P : Program} {w : World} {K : PySem.W.Frag} {tg : Expr} (a it : Addr) : Turn P w K tg (Itl K a) [it] it (fun i h => h.IsListIter it a i) where
  mem := by simp
  obj := fun i h st b hb => by
    have e : b = it := by simpa using hb
    subst e
    obtain ⟨o, e, c, d⟩ := st
    exact ⟨o, e, fun v z => by rw [d] at z; cases z⟩
  keep := fun i h h' st k => st.at fun o e => k it (by simp) o e
  item := by
    intro X hP hw hK hc i pins s σ H E I hf st hg
    subst hP hw hK
    obtain ⟨xs, x, hq, hx⟩ := hg
    obtain ⟨its, rv, p, hz⟩ := I.list hq
    obtain ⟨u, hu, ru⟩ := rv.get hx
    obtain ⟨f0, f1, f2, f3, f4, f5⟩ := hf it (by simp)
    refine wpAny_pyNext_list_item st p.isList (x := u) (by simpa using hu) fun h' st' sb => ?_
    have I1 : Inv X pins σ H { s with heap := h' } := I.turned (t' := s.toks) (fun b o hb e => (sb.2 b hb).trans e) f0 f1 f3 f4 f5
    obtain ⟨o, e, c, d⟩ := id st'
    exact ⟨u, rfl, go_of (s := { s with heap := h' }) e c d (by decide) ⟨x, H, I1, ru, ⟨rfl, fun ys hy => by rw [I.list_inj hy hq]; exact hx⟩, st', fun b hb => (hf b hb).1⟩⟩
  done := by
    intro X hP hw hK hc i pins s σ H E I hf st hg
    subst hP hw hK
    obtain ⟨xs, hq, hx⟩ := hg
    obtain ⟨its, rv, p, hz⟩ := I.list hq
    obtain ⟨f0, f1, f2, f3, f4, f5⟩ := hf it (by simp)
    have hl := rv.length
    exact wpAny_pyNext_list_end (I.ok.hd hc) st p.isList (by simp; omega) fun h' eb => ⟨rfl, I.turned (t' := s.toks) (fun b o hb e => eb b o hb e) f0 f1 f3 f4 f5⟩
  self := fun _ _ _ _ _ st h => wpAny_pyIter_listiter st h
theorem turn_range {P : Program} {w : World} {K : PySem.W.Frag} {tg : Expr} (it : Addr) (lo : Int) (n : Nat) : Turn P w K tg (Itr lo n) [it] it (fun i h => IsRangeIter h it (lo + (i : Nat) * 1) ((n : Int) - (i : Nat)) 1) where
  mem := by simp
  obj := fun i h st b hb => by
    have e : b = it := by simpa using hb
    subst e
    exact ⟨_, st, fun v z => by
      have z' : Data.fields _ = Data.cell v := z
      cases z'⟩
  keep := fun i h h' st k => k it (by simp) _ st
  item := by
    intro X hP hw hK hc i pins s σ H E I hf st hg
    subst hP hw hK
    obtain ⟨f0, f1, f2, f3, f4, f5⟩ := hf it (by simp)
    have W := Walks.range (prog := X.prog) (w := X.w) (I.ok.hd hc) it lo 1 n
    refine W.item i s _ _ hg st fun v h' tk hv st' kk => ?_
    obtain ⟨t, rfl⟩ := hv
    have I1 : Inv X pins σ H { s with heap := h', toks := tk } := I.turned (fun b o hb e => kk b o (by simpa using hb) e) f0 f1 f3 f4 f5
    refine ⟨_, rfl, go_of (s := { s with heap := h', toks := tk }) (n := "range_iterator") st' rfl rfl (by decide) ⟨.int (lo + i), H, I1, ⟨t, ?_⟩, ⟨rfl, rfl⟩, st', fun b hb => (hf b hb).1⟩⟩
    rw [Int.mul_one]
  done := by
    intro X hP hw hK hc i pins s σ H E I hf st hg
    subst hP hw hK
    obtain ⟨f0, f1, f2, f3, f4, f5⟩ := hf it (by simp)
    exact wpAny_pyNext_range_end (I.ok.hd hc) st (by have : n ≤ i := hg; omega) fun h' eb => ⟨rfl, I.turned (t' := s.toks) (fun b o hb e => eb b o hb e) f0 f1 f3 f4 f5⟩
  self := fun _ _ _ _ _ st h => wpAny_pyIter_rangeiter st h
end L2
namespace L2
open PySem PySem.Spec PyProof.Rows
section
variable {X : Cx} {tg : Expr}
noncomputable def iList (K : PySem.W.Frag) (tl : TE) : TI := fun σ H R => tl σ H fun x H1 => ∃ a, x = .ref a ∧ (∃ xs, SqL K H1 a xs) ∧ R (Itl K a) H1
noncomputable def iTup (K : PySem.W.Frag) (tl : TE) : TI := fun σ H R => tl σ H fun x H1 => ∃ a, x = .ref a ∧ (∃ xs, SqT K H1 a xs) ∧ R (Itt K a) H1
theorem pi_list {l : Expr} {tl : TE} (hl : PE X l tl) : PI X tg l (iList X.K tl) := by
  intro pins s σ H R I h
  refine thn (hl pins s σ H _ I h) fun v s1 ⟨x, H1, I1, r1, q1⟩ => ?_
  obtain ⟨a, e, ⟨xs, hq⟩, q⟩ := q1
  subst e
  cases r1
  obtain ⟨its, rv, p, hz⟩ := I1.list hq
  refine wpAny_pyIter_list p.isList ?_
  refine ⟨s1.heap.objs.size, [s1.heap.objs.size], _, _, H1, rfl, I1.kept (t' := s1.toks) fun b o e => Heap.get?_push_of_some _ e, turn_list a _, ⟨_, Heap.get?_push_size _ rfl, rfl, rfl⟩, fun b hb => ?_, q⟩
  have e : b = s1.heap.objs.size := by simpa using hb
  subst e
  exact I1.fpOk (Nat.le_refl _) (I1.hok.fresh (Nat.le_refl _))
theorem range_it {pins : List (Addr × Obj)} {σ : St} {H : Hp} {s : Shared} {R : It → Hp → Prop} {E : Value → Shared → Prop} {lo hi : Int} {t u v : Tok} {tk : Nat} (I : Inv X pins σ H s) (h1 : -(2 ^ 62) ≤ lo) (h2 : lo < 2 ^ 62) (h3 : -(2 ^ 62) ≤ hi) (h4 : hi < 2 ^ 62)
    (q : R (Itr lo (hi - lo).toNat) H) : wpAny (model X.prog X.w) X.A (pyIter (.ref s.heap.objs.size)) (PIE X pins σ tg R) E { s with heap := s.heap.push { cls := .type "range", data := .fields #[.int lo t, .int hi u, .int 1 v] }, toks := tk } := by
  refine wpAny_pyIter_range (IsRange.new ..) (small_one h1 h2 h3 h4) ?_
  have I1 : Inv X pins σ H { s with heap := s.heap.push { cls := .type "range", data := .fields #[.int lo t, .int hi u, .int 1 v] }, toks := tk } := I.kept fun b o e => Heap.get?_push_of_some _ e
  refine ⟨(s.heap.push { cls := .type "range", data := .fields #[.int lo t, .int hi u, .int 1 v] }).objs.size, [(s.heap.push { cls := .type "range", data := .fields #[.int lo t, .int hi u, .int 1 v] }).objs.size], _, _, H, rfl,
    I1.kept (t' := tk) fun b o e => Heap.get?_push_of_some _ e, turn_range _ lo (hi - lo).toNat, ?_, fun b hb => ?_, q⟩
  · have e1 : lo + ((0 : Nat) : Int) * 1 = lo := by simp
    have e2 : (((hi - lo).toNat : Nat) : Int) - ((0 : Nat) : Int) = Builtin.Range.rangeSize lo hi 1 := by rw [rangeSize_one]; split <;> omega
    show IsRangeIter _ _ (lo + ((0 : Nat) : Int) * 1) ((((hi - lo).toNat : Nat) : Int) - ((0 : Nat) : Int)) 1
    rw [e1, e2]
    exact Heap.get?_push_size _ rfl
  · have e : b = (s.heap.push { cls := .type "range", data := .fields #[.int lo t, .int hi u, .int 1 v] }).objs.size := by simpa using hb
    subst e
    exact I1.fpOk (Nat.le_refl _) (I1.hok.fresh (Nat.le_refl _))
noncomputable def iRng1 (ta : TA) : TI := fun σ H R => ta σ H fun vs H1 => ∃ j : Int, vs = [.int j] ∧ -(2 ^ 62) ≤ j ∧ j < 2 ^ 62 ∧ R (Itr 0 j.toNat) H1
noncomputable def iRng2 (ta : TA) : TI := fun σ H R => ta σ H fun vs H1 => ∃ i j : Int, vs = [.int i, .int j] ∧ (-(2 ^ 62) ≤ i ∧ i < 2 ^ 62 ∧ -(2 ^ 62) ≤ j ∧ j < 2 ^ 62) ∧ R (Itr i (j - i).toNat) H1
theorem pi_range1 {a : Expr} {ta : TA} {p pos : Pos} (hg : Gl X "range") (hm : X.mg "range" = none) (ha : PA X [a] ta) (hs : starEach [a] X.env = [(false, eval a X.env)] := by rfl) : PI X tg (.Call (.Name "range" p) [a] [] pos) (iRng1 ta) := by
  intro pins s σ H R I h
  refine Call_ (ld_blt I hg hm boot_range (PyProof.Rows.callWith_type1 (thn (ha pos pins s σ H _ I h) fun us s1 ⟨vs, H1, I1, r1, q1⟩ => ?_) hs rfl))
  obtain ⟨j, e, q1, q2, q⟩ := q1
  subst e
  cases r1 with
  | cons r rr =>
    cases rr
    obtain ⟨t, rfl⟩ := r
    exact call_range_1 (range_it I1 (by omega) (by omega) q1 q2 (by simpa using q))
noncomputable def tFor (wi : TI) (g : TG) (tb : TS) : TS := fun D σ H => wi σ H fun J H1 => ∃ W : Nat → Nat → St → Hp → Prop, (∃ m, W 0 m σ H1) ∧ ∀ i m σ H, W i m σ H →
  (J.stop i H ∧ D.nx σ H) ∨ (J.go i H ∧ ∃ N : St → Hp → Prop, (∀ σ' H', N σ' H' → ∃ m', m' < m ∧ W (i + 1) m' σ' H') ∧ ∀ x H', J.yld i H x H' → g x σ H' fun σ2 H2 => tb { D with nx := N, ct := N, bk := D.nx } σ2 H2)
noncomputable def pinsAt (fp : List Addr) (h : Heap) : List (Addr × Obj) := fp.filterMap fun b => (h.get? b).map fun o => (b, o)
theorem mem_pinsAt {fp : List Addr} {h : Heap} {b : Addr} {o : Obj} (hb : b ∈ fp) (e : h.get? b = some o) : (b, o) ∈ pinsAt fp h := List.mem_filterMap.mpr ⟨b, hb, by rw [e]; rfl⟩
theorem of_pinsAt {fp : List Addr} {h : Heap} {p : Addr × Obj} (hp : p ∈ pinsAt fp h) : p.1 ∈ fp ∧ h.get? p.1 = some p.2 := by
  obtain ⟨b, hb, e⟩ := List.mem_filterMap.mp hp
  cases q : h.get? b with
  | none => rw [q] at e; cases e
  | some o =>
    rw [q] at e
    have e' : (b, o) = p := Option.some.inj e
    subst e'
    exact ⟨hb, q⟩
theorem Inv.pinned {pins : List (Addr × Obj)} {σ : St} {H : Hp} {s : Shared} {fp : List Addr} (I : Inv X pins σ H s) (hf : ∀ b ∈ fp, FpOk X pins H b) (ho : ∀ b ∈ fp, ∃ o, s.heap.get? b = some o ∧ ∀ v, o.data ≠ .cell v) : Inv X (pins ++ pinsAt fp s.heap) σ H s :=
  I.pins_of fun p hp => (List.mem_append.mp hp).elim (fun z => I.pin p (List.mem_append_right _ z)) fun z => by
    obtain ⟨hb, e⟩ := of_pinsAt z
    obtain ⟨f0, f1, f2, _⟩ := hf p.1 hb
    obtain ⟨o, e', d⟩ := ho p.1 hb
    rw [e] at e'; cases e'
    exact ⟨e, f0, f1, f2, d⟩
theorem Inv.unpinned {pins pl : List (Addr × Obj)} {σ : St} {H : Hp} {s : Shared} (I : Inv X (pins ++ pl) σ H s) : Inv X pins σ H s := I.pins_of fun p hp => I.pin p (List.mem_append_right _ (List.mem_append_left _ hp))
theorem ps_for {iter : Expr} {body : List Stmt} {wi : TI} {g : TG} {tb : TS} {pos : Pos} (hp : PassesOwn (model X.prog X.w) X.A X.env X.xe) (hc : X.calm = true) (hi : PI X tg iter wi) (hg : PG X tg g) (hb : PSs X body tb)
    (hs : ∀ x, foldedSetIterable iter X.env x = pure x := by intro _; rfl) : PS X (.For tg iter body [] pos) (tFor wi g tb) := by
  intro pins s σ H D I h
  refine wpAny_For (thn (hi pins s σ H _ I h) fun v s1 h1 => thn h1 fun itv s2 h2 => ?_) hs
  obtain ⟨it, fp, tn, J, H2, e, I2, T, st2, f2, W, ⟨m0, w0⟩, turn⟩ := h2
  subst e
  -- what stays true of the iterator's objects through the loop
  have stat : ∀ {H' : Hp}, (∀ b ∈ fp, H' b = none) → ∀ b ∈ fp, FpOk X pins H' b := fun hn b hb => ⟨hn b hb, (f2 b hb).2⟩
  refine codeAny_forLoop_any (fun n s' => ∃ i σ' H', Inv X pins σ' H' s' ∧ tn i s'.heap ∧ (∀ b ∈ fp, H' b = none) ∧ W i n σ' H') ?_ m0 ⟨0, σ, H2, I2, st2, fun b hb => (f2 b hb).1, w0⟩
  rintro n s3 ⟨i, σ3, H3, I3, st3, fr3, w3⟩
  rcases turn i n σ3 H3 w3 with ⟨stop, qn⟩ | ⟨go, N, hN, step⟩
  · refine wpAny_passesOwn hp (thn (T.done X rfl rfl rfl hc i pins s3 σ3 H3 X.xe I3 (stat fr3) st3 stop) fun r s4 ⟨hr, I4⟩ => ?_)
    subst hr
    exact wpAny_execs_nil ⟨σ3, H3, I4, qn⟩
  · refine wpAny_passesOwn hp (thn (T.item X rfl rfl rfl hc i pins s3 σ3 H3 X.xe I3 (stat fr3) st3 go) fun r s4 ⟨u, hr, h4⟩ => ?_)
    subst hr
    refine wpAny_passesOwn hp (thn h4 fun _ s5 ⟨x, H5, I5, r5, y5, st5, fr5⟩ => ?_)
    have I5' := I5.pinned (stat fr5) (T.obj _ _ st5)
    refine wpAny_passesOwn hp (thn (hg _ s5 σ3 H5 x u _ I5' r5 (step x H5 y5)) fun _ s6 ⟨σ6, H6, I6, q6⟩ => ?_)
    refine wpAny_passesOwn hp (thn (hb _ s6 σ6 H6 _ I6 q6) fun f s7 q7 => ?_)
    have again : ∀ {σ7 : St} {H7 : Hp}, Inv X (pins ++ pinsAt fp s5.heap) σ7 H7 s7 → N σ7 H7 → ∃ m, m < n ∧ ∃ i σ' H', Inv X pins σ' H' s7 ∧ tn i s7.heap ∧ (∀ b ∈ fp, H' b = none) ∧ W i m σ' H' := fun {σ7 H7} I7 n7 => by
      obtain ⟨m', hm, w7⟩ := hN σ7 H7 n7
      refine ⟨m', hm, i + 1, σ7, H7, I7.unpinned, T.keep _ _ _ st5 fun b hb o e => (I7.pin (b, o) (List.mem_append_right _ (List.mem_append_right _ (mem_pinsAt hb e)))).1, fun b hb => ?_, w7⟩
      obtain ⟨o, e, d⟩ := T.obj _ _ st5 b hb
      exact (I7.pin (b, o) (List.mem_append_right _ (List.mem_append_right _ (mem_pinsAt hb e)))).2.1
    cases f with
    | next => obtain ⟨σ7, H7, I7, n7⟩ := q7; exact again I7 n7
    | cont => obtain ⟨σ7, H7, I7, n7⟩ := q7; exact again I7 n7
    | brk => obtain ⟨σ7, H7, I7, q7⟩ := q7; exact ⟨σ7, H7, I7.unpinned, q7⟩
    | ret v => obtain ⟨x7, σ7, H7, I7, r7, q7⟩ := q7; exact ⟨x7, σ7, H7, I7.unpinned, r7, q7⟩
end
end L2
namespace L2
open PySem PySem.Spec PyProof.Rows
noncomputable abbrev R2 := V → V → Hp → VK → Prop
noncomputable def OpR (X : Cx) (f : Value → Value → Sem Value) (r : R2) : Prop :=
  ∀ (pins : List (Addr × Obj)) (s : Shared) (σ : St) (H : Hp) (x y : V) (v u : Value) (Q : VK), Inv X pins σ H s → RelV x v → RelV y u → r x y H Q →
    wpAny (model X.prog X.w) X.A (f v u) (EP X pins σ Q) X.xe s
noncomputable def UnR (X : Cx) (f : Value → Sem Value) (r : V → Hp → VK → Prop) : Prop :=
  ∀ (pins : List (Addr × Obj)) (s : Shared) (σ : St) (H : Hp) (x : V) (v : Value) (Q : VK), Inv X pins σ H s → RelV x v → r x H Q →
    wpAny (model X.prog X.w) X.A (f v) (EP X pins σ Q) X.xe s
noncomputable def CallR (X : Cx) (f : Value) (r : List V → Hp → VK → Prop) : Prop :=
  ∀ (pins : List (Addr × Obj)) (s : Shared) (σ : St) (H : Hp) (xs : List V) (us : List Value) (Q : VK), Inv X pins σ H s → Vals xs us → r xs H Q →
    wpAny (model X.prog X.w) X.A (call f us) (EP X pins σ Q) X.xe s
noncomputable def TruR (X : Cx) (r : V → Hp → (Bool → Hp → Prop) → Prop) : Prop :=
  ∀ (pins : List (Addr × Obj)) (s : Shared) (σ : St) (H : Hp) (x : V) (v : Value) (Q : Bool → Hp → Prop), Inv X pins σ H s → RelV x v → r x H Q →
    wpAny (model X.prog X.w) X.A (truthy v) (TP X pins σ Q) X.xe s
noncomputable def tOp (r : R2) (ta tb : TE) : TE := fun σ H Q => ta σ H fun x H1 => tb σ H1 fun y H2 => r x y H2 Q
noncomputable def tUn (r : V → Hp → VK → Prop) (ta : TE) : TE := fun σ H Q => ta σ H fun x H1 => r x H1 Q
noncomputable def rI (C : Int → Int → Prop) (g : Int → Int → V) : R2 := fun x y H Q => ∃ i j, x = .int i ∧ y = .int j ∧ C i j ∧ Q (g i j) H
noncomputable def rI0 (g : Int → Int → V) : R2 := fun x y H Q => ∃ i j, x = .int i ∧ y = .int j ∧ Q (g i j) H
noncomputable def rU (g : Int → V) : V → Hp → VK → Prop := fun x H Q => ∃ i, x = .int i ∧ Q (g i) H
section
variable {X : Cx} {a b c : Expr} {ta tb tc : TE} {pos : Pos}
theorem binT (ha : PE X a ta) (hb : PE X b tb) {pins : List (Addr × Obj)} {s : Shared} {σ : St} {H : Hp} {R : V → V → Hp → Prop} (I : Inv X pins σ H s)
    (h : ta σ H fun x H1 => tb σ H1 fun y H2 => R x y H2) {Q : Value → Shared → Prop} {f : Value → Value → Sem Value}
    (hf : ∀ v u s2 x y H2, Inv X pins σ H2 s2 → RelV x v → RelV y u → R x y H2 → wpAny (model X.prog X.w) X.A (f v u) Q X.xe s2) :
    wpAny (model X.prog X.w) X.A (eval a X.env) (fun v s₁ => wpAny (model X.prog X.w) X.A (eval b X.env) (fun u s₂ => wpAny (model X.prog X.w) X.A (f v u) Q X.xe s₂) X.xe s₁) X.xe s := by
  refine thn (ha pins s σ H _ I h) fun v s1 ⟨x, H1, I1, r1, q1⟩ => ?_
  refine thn (hb pins s1 σ H1 _ I1 q1) fun u s2 ⟨y, H2, I2, r2, q2⟩ => ?_
  exact hf v u s2 x y H2 I2 r1 r2 q2
theorem pe_op {op : Operator} {r : R2} (ho : OpR X (binaryOp op) r) (ha : PE X a ta) (hb : PE X b tb) : PE X (.BinOp a op b pos) (tOp r ta tb) := by
  intro pins s σ H Q I h
  exact wpAny_BinOp (binT ha hb I h fun v u s2 x y H2 I2 rx ry q => ho pins s2 σ H2 x y v u Q I2 rx ry q)
theorem pe_un {op : UnaryOp} {r : V → Hp → VK → Prop} (ho : UnR X (unaryOp op) r) (ha : PE X a ta) : PE X (.UnaryOp op a pos) (tUn r ta) := by
  intro pins s σ H Q I h
  exact UnaryOp_ (thn (ha pins s σ H _ I h) fun v s1 ⟨x, H1, I1, r1, q1⟩ => ho pins s1 σ H1 x v Q I1 r1 q1)
theorem opI {f : Value → Value → Sem Value} {C : Int → Int → Prop} {g : Int → Int → Int}
    (rule : ∀ (i j : Int) (t u : Tok) (s : Shared) (Q : Value → Shared → Prop) (E : Value → Shared → Prop), C i j → Q (.int (g i j) s.toks) { s with toks := s.toks + 1 } → wpAny (model X.prog X.w) X.A (f (.int i t) (.int j u)) Q E s) :
    OpR X f (rI C fun i j => .int (g i j)) := by
  intro pins s σ H x y v u Q I rx ry h
  obtain ⟨i, j, rfl, rfl, hc, q⟩ := h
  obtain ⟨t, rfl⟩ := rx
  obtain ⟨t', rfl⟩ := ry
  exact rule i j t t' s _ _ hc ⟨.int (g i j), H, I.tok _, ⟨_, rfl⟩, q⟩
theorem opI0 {f : Value → Value → Sem Value} {g : Int → Int → Int}
    (rule : ∀ (i j : Int) (t u : Tok) (s : Shared) (Q : Value → Shared → Prop) (E : Value → Shared → Prop), Q (.int (g i j) s.toks) { s with toks := s.toks + 1 } → wpAny (model X.prog X.w) X.A (f (.int i t) (.int j u)) Q E s) :
    OpR X f (rI0 fun i j => .int (g i j)) := by
  intro pins s σ H x y v u Q I rx ry h
  obtain ⟨i, j, rfl, rfl, q⟩ := h
  obtain ⟨t, rfl⟩ := rx
  obtain ⟨t', rfl⟩ := ry
  exact rule i j t t' s _ _ ⟨.int (g i j), H, I.tok _, ⟨_, rfl⟩, q⟩
theorem opB0 {f : Value → Value → Sem Value} {g : Int → Int → Bool}
    (rule : ∀ (i j : Int) (t u : Tok) (s : Shared) (Q : Value → Shared → Prop) (E : Value → Shared → Prop), Q (.bool (g i j)) s → wpAny (model X.prog X.w) X.A (f (.int i t) (.int j u)) Q E s) :
    OpR X f (rI0 fun i j => .bl (g i j)) := by
  intro pins s σ H x y v u Q I rx ry h
  obtain ⟨i, j, rfl, rfl, q⟩ := h
  obtain ⟨t, rfl⟩ := rx
  obtain ⟨t', rfl⟩ := ry
  exact rule i j t t' s _ _ ⟨.bl (g i j), H, I, rfl, q⟩
noncomputable def CDiv (i j : Int) : Prop := 0 < j ∧ j < 1073741824
noncomputable def CPow (i j : Int) : Prop := 0 ≤ j ∧ j ≤ 1000000 ∧ i.natAbs < 2 ^ 64
noncomputable def CMul (i j : Int) : Prop := (-(2 ^ 64) < i ∧ i < 2 ^ 64) ∨ (-(2 ^ 64) < j ∧ j < 2 ^ 64)
theorem CMul.ok {i j : Int} (h : CMul i j) : IntMulOk i j := by
  rcases h with ⟨h1, h2⟩ | ⟨h1, h2⟩
  · exact .of_left (intBits_le_64 h1 h2)
  · exact .of_right (intBits_le_64 h1 h2)
theorem op_add : OpR X (binaryOp .Add) (rI0 fun i j => .int (i + j)) := opI0 fun _ _ _ _ _ _ _ q => add_int q
theorem op_sub : OpR X (binaryOp .Sub) (rI0 fun i j => .int (i - j)) := opI0 fun _ _ _ _ _ _ _ q => sub_int q
theorem op_mul : OpR X (binaryOp .Mult) (rI CMul fun i j => .int (i * j)) := opI fun _ _ _ _ _ _ _ hc q => mul_int q hc.ok
theorem op_fdiv : OpR X (binaryOp .FloorDiv) (rI CDiv fun i j => .int (i / j)) := opI fun i j _ _ _ _ _ hc q => by
  have h1 : (0 : Int) < j := hc.1
  have h2 : j < 1073741824 := hc.2
  exact floordiv_int (by omega) (by rw [Int.fdiv_eq_ediv_of_nonneg i (by omega)]; exact q) (.inl (PyProof.noPylong_small (by omega)))
theorem op_mod : OpR X (binaryOp .Mod) (rI (fun _ j => 0 < j) fun i j => .int (i % j)) := opI fun i j _ _ _ _ _ hc q => by
  have h1 : (0 : Int) < j := hc
  exact mod_int' (by omega) (by rw [Int.fmod_eq_emod_of_nonneg i (by omega)]; exact q)
theorem op_pow : OpR X (binaryOp .Pow) (rI CPow fun i j => .int (i ^ j.toNat)) := opI fun _ _ _ _ _ _ _ hc q => pow_int_small hc.1 hc.2.1 hc.2.2 q
theorem unI {f : Value → Sem Value} {g : Int → Int}
    (rule : ∀ (i : Int) (t : Tok) (s : Shared) (Q : Value → Shared → Prop) (E : Value → Shared → Prop), Q (.int (g i) s.toks) { s with toks := s.toks + 1 } → wpAny (model X.prog X.w) X.A (f (.int i t)) Q E s) :
    UnR X f (rU fun i => .int (g i)) := by
  intro pins s σ H x v Q I rx h
  obtain ⟨i, rfl, q⟩ := h
  obtain ⟨t, rfl⟩ := rx
  exact rule i t s _ _ ⟨.int (g i), H, I.tok _, ⟨_, rfl⟩, q⟩
theorem un_neg : UnR X (unaryOp .USub) (rU fun i => .int (-i)) := unI fun _ _ _ _ _ q => neg_int q
end
noncomputable def scal : V → V → Bool
  | .non, .non => true | .non, .int _ => true | .int _, .non => true | .non, .bl _ => true | .bl _, .non => true | .non, .str _ => true | .str _, .non => true
  | .int _, .int _ => true | .bl _, .bl _ => true | .str _, .str _ => true | .byt _, .byt _ => true
  | .int _, .str _ => true | .str _, .int _ => true | .bl _, .str _ => true | .str _, .bl _ => true
  | _, _ => false
noncomputable def rEq : R2 := fun x y H Q => scal x y = true ∧ Q (.bl (decide (x = y))) H
noncomputable def rNe : R2 := fun x y H Q => scal x y = true ∧ Q (.bl (!decide (x = y))) H
theorem dec_int {i j : Int} : decide (V.int i = V.int j) = (i == j) := by
  rw [Bool.eq_iff_iff]
  simp
theorem dec_bl {i j : Bool} : decide (V.bl i = V.bl j) = (i == j) := by
  rw [Bool.eq_iff_iff]
  simp
theorem dec_str {i j : Str} : decide (V.str i = V.str j) = (i == j) := by
  rw [Bool.eq_iff_iff]
  simp
theorem dec_byt {i j : Array UInt8} : decide (V.byt i = V.byt j) = (i.toList == j.toList) := by
  rw [Bool.eq_iff_iff]
  cases i
  cases j
  simp
section
variable {X : Cx} {a b c : Expr} {ta tb tc : TE} {pos : Pos}
theorem fin_bl {pins : List (Addr × Obj)} {σ : St} {H : Hp} {s : Shared} {Q : VK} {k k' : Bool} (I : Inv X pins σ H s) (q : Q (.bl k) H) (e : k = k') : EP X pins σ Q (.bool k') s := by
  subst e
  exact ⟨.bl k, H, I, rfl, q⟩
theorem op_eq : OpR X (compareOp .Eq) rEq := by
  intro pins s σ H x y v u Q I rx ry h
  obtain ⟨hs, q⟩ := h
  cases x with
  | non =>
    cases rx
    cases y with
    | non => cases ry; exact PySem.EqNone.eq_none_none (fin_bl I q (by simp))
    | bl j => cases ry; exact PySem.EqNone.eq_none_bool (fin_bl I q (by simp))
    | int j => obtain ⟨t', rfl⟩ := ry; exact PySem.EqNone.eq_none_int (fin_bl I q (by simp))
    | str j => obtain ⟨t', rfl⟩ := ry; exact PySem.EqNone.eq_none_str (fin_bl I q (by simp))
    | _ => exact absurd (show false = true from hs) Bool.false_ne_true
  | bl i =>
    cases rx
    cases y with
    | non => cases ry; exact PySem.EqNone.eq_bool_none (fin_bl I q (by simp))
    | bl j => cases ry; exact eq_bool (fin_bl I q dec_bl)
    | str j => obtain ⟨t', rfl⟩ := ry; exact PySem.EqMixed.eq_bool_str (fin_bl I q (by simp))
    | _ => exact absurd (show false = true from hs) Bool.false_ne_true
  | int i =>
    obtain ⟨t, rfl⟩ := rx
    cases y with
    | non => cases ry; exact PySem.EqNone.eq_int_none (fin_bl I q (by simp))
    | int j => obtain ⟨t', rfl⟩ := ry; exact eq_int (fin_bl I q dec_int)
    | str j => obtain ⟨t', rfl⟩ := ry; exact PySem.EqMixed.eq_int_str (fin_bl I q (by simp))
    | _ => exact absurd (show false = true from hs) Bool.false_ne_true
  | str i =>
    obtain ⟨t, rfl⟩ := rx
    cases y with
    | non => cases ry; exact PySem.EqNone.eq_str_none (fin_bl I q (by simp))
    | bl j => cases ry; exact PySem.EqMixed.eq_str_bool (fin_bl I q (by simp))
    | int j => obtain ⟨t', rfl⟩ := ry; exact PySem.EqMixed.eq_str_int (fin_bl I q (by simp))
    | str j => obtain ⟨t', rfl⟩ := ry; exact eq_str (fin_bl I q dec_str)
    | _ => exact absurd (show false = true from hs) Bool.false_ne_true
  | byt i =>
    obtain ⟨t, rfl⟩ := rx
    cases y with
    | byt j => obtain ⟨t', rfl⟩ := ry; exact PySem.W.eq_bytes (fin_bl I q dec_byt)
    | _ => exact absurd (show false = true from hs) Bool.false_ne_true
  | _ => cases y <;> exact absurd (show false = true from hs) Bool.false_ne_true
theorem op_ne : OpR X (compareOp .NotEq) rNe := by
  intro pins s σ H x y v u Q I rx ry h
  obtain ⟨hs, q⟩ := h
  cases x with
  | non =>
    cases rx
    cases y with
    | non => cases ry; exact PySem.EqNone.ne_none_none (fin_bl I q (by simp))
    | bl j => cases ry; exact PySem.EqNone.ne_none_bool (fin_bl I q (by simp))
    | int j => obtain ⟨t', rfl⟩ := ry; exact PySem.EqNone.ne_none_int (fin_bl I q (by simp))
    | str j => obtain ⟨t', rfl⟩ := ry; exact PySem.EqNone.ne_none_str (fin_bl I q (by simp))
    | _ => exact absurd (show false = true from hs) Bool.false_ne_true
  | bl i =>
    cases rx
    cases y with
    | non => cases ry; exact PySem.EqNone.ne_bool_none (fin_bl I q (by simp))
    | bl j => cases ry; exact ne_bool (fin_bl I q (congrArg not dec_bl))
    | str j => obtain ⟨t', rfl⟩ := ry; exact PySem.EqMixed.ne_bool_str (fin_bl I q (by simp))
    | _ => exact absurd (show false = true from hs) Bool.false_ne_true
  | int i =>
    obtain ⟨t, rfl⟩ := rx
    cases y with
    | non => cases ry; exact PySem.EqNone.ne_int_none (fin_bl I q (by simp))
    | int j => obtain ⟨t', rfl⟩ := ry; exact ne_int (fin_bl I q (congrArg not dec_int))
    | str j => obtain ⟨t', rfl⟩ := ry; exact PySem.EqMixed.ne_int_str (fin_bl I q (by simp))
    | _ => exact absurd (show false = true from hs) Bool.false_ne_true
  | str i =>
    obtain ⟨t, rfl⟩ := rx
    cases y with
    | non => cases ry; exact PySem.EqNone.ne_str_none (fin_bl I q (by simp))
    | bl j => cases ry; exact PySem.EqMixed.ne_str_bool (fin_bl I q (by simp))
    | int j => obtain ⟨t', rfl⟩ := ry; exact PySem.EqMixed.ne_str_int (fin_bl I q (by simp))
    | str j => obtain ⟨t', rfl⟩ := ry; exact ne_str (fin_bl I q (congrArg not dec_str))
    | _ => exact absurd (show false = true from hs) Bool.false_ne_true
  | byt i =>
    obtain ⟨t, rfl⟩ := rx
    cases y with
    | byt j => obtain ⟨t', rfl⟩ := ry; exact PySem.W.ne_bytes (fin_bl I q (congrArg not dec_byt))
    | _ => exact absurd (show false = true from hs) Bool.false_ne_true
  | _ => cases y <;> exact absurd (show false = true from hs) Bool.false_ne_true
theorem op_lt : OpR X (compareOp .Lt) (rI0 fun i j => .bl (decide (i < j))) := opB0 fun _ _ _ _ _ _ _ q => lt_int q
theorem op_le : OpR X (compareOp .LtE) (rI0 fun i j => .bl (decide (i ≤ j))) := opB0 fun _ _ _ _ _ _ _ q => le_int q
theorem op_gt : OpR X (compareOp .Gt) (rI0 fun i j => .bl (decide (j < i))) := opB0 fun _ _ _ _ _ _ _ q => gt_int q
theorem op_ge : OpR X (compareOp .GtE) (rI0 fun i j => .bl (decide (j ≤ i))) := opB0 fun _ _ _ _ _ _ _ q => ge_int q
theorem nomark (b : Expr) {op : CmpOp} (h : op ≠ .In := by decide) (h2 : op ≠ .NotIn := by decide) : behindInMarks op b = false := by
  have e1 : (op == CmpOp.In) = false := by cases op <;> first | rfl | exact absurd rfl h
  have e2 : (op == CmpOp.NotIn) = false := by cases op <;> first | rfl | exact absurd rfl h2
  cases b <;> simp [behindInMarks, e1, e2]
theorem pe_cmpR {op : CmpOp} {r : R2} (ho : OpR X (compareOp op) r) (ha : PE X a ta) (hb : PE X b tb) (hm : behindInMarks op b = false) : PE X (.Compare a [op] [b] pos) (tOp r ta tb) := by
  intro pins s σ H Q I h
  exact wpAny_Compare1 (binT ha hb I h fun v u s2 x y H2 I2 rx ry q => ho pins s2 σ H2 x y v u Q I2 rx ry q) hm
noncomputable def tTest (t : TE) : TT := fun σ H Q => t σ H fun x H' => ∃ k, x = .bl k ∧ Q k H'
theorem pt_cmpR {op : CmpOp} {r : R2} (ho : OpR X (compareOp op) r) (ha : PE X a ta) (hb : PE X b tb) (hm : behindInMarks op b = false) : PT X (.Compare a [op] [b] pos) (tTest (tOp r ta tb)) := by
  intro pins s σ H Q I h
  refine wpAny_isTrue_Compare1 (thn (ha pins s σ H _ I h) fun v s1 ⟨x, H1, I1, r1, q1⟩ => thn (hb pins s1 σ H1 _ I1 q1) fun u s2 ⟨y, H2, I2, r2, q2⟩ =>
    thn (ho pins s2 σ H2 x y v u _ I2 r1 r2 q2) fun c s3 ⟨z, H3, I3, r3, k, e, q3⟩ => ?_) hm
  subst e
  cases r3
  exact wpAny_truthy_bool ⟨H3, I3, q3⟩
noncomputable def tChain (r r' : R2) (ta tb tc : TE) : TE := fun σ H Q => ta σ H fun x H1 => tb σ H1 fun y H2 => r x y H2 fun z H3 => ∃ k, z = .bl k ∧
  (if k = true then tc σ H3 fun w' H4 => r' y w' H4 Q else Q (.bl false) H3)
theorem pt_chain {op op' : CmpOp} {r r' : R2} (ho : OpR X (compareOp op) r) (ho' : OpR X (compareOp op') r') (ha : PE X a ta) (hb : PE X b tb) (hc : PE X c tc)
    (hm : lastMarks [op, op'] [b, c] = false := by with_unfolding_all rfl) : PT X (.Compare a [op, op'] [b, c] pos) (tTest (tChain r r' ta tb tc)) := by
  intro pins s σ H Q I h
  refine isTrue_chain (thn (ha pins s σ H _ I h) fun v s1 ⟨x, H1, I1, r1, q1⟩ => test_link (thn (hb pins s1 σ H1 _ I1 q1) fun u s2 ⟨y, H2, I2, r2, q2⟩ =>
    thn (ho pins s2 σ H2 x y v u _ I2 r1 r2 q2) fun d s3 ⟨z, H3, I3, r3, k, e, q3⟩ => ?_)) hm
  subst e
  cases r3
  refine wpAny_truthy_bool ?_
  cases k with
  | false =>
    obtain ⟨k', e', q'⟩ := q3
    cases e'
    exact ite_ff ⟨H3, I3, q'⟩
  | true =>
    refine ite_tt (test_last (thn (hc pins s3 σ H3 _ I3 q3) fun w' s4 ⟨z', H4, I4, r4, q4⟩ => thn (ho' pins s4 σ H4 y z' u w' _ I4 r2 r4 q4) fun d' s5 ⟨z2, H5, I5, r5, k2, e2, q5⟩ => ?_))
    subst e2
    cases r5
    exact wpAny_truthy_bool ⟨H5, I5, q5⟩
noncomputable def TruV (K : PySem.W.Frag) (x : V) (H : Hp) (k : Bool) : Prop :=
  match x with
  | .non => k = false
  | .bl b => k = b
  | .int i => k = (i != 0)
  | .str y => y.length ≤ sizeLine ∧ k = ((y.length : Int) != 0)
  | .byt y => y.size ≤ sizeLine ∧ k = ((y.size : Int) != 0)
  | .ref p => (∃ xs, SqL K H p xs ∧ k = !xs.isEmpty) ∨ (∃ xs, SqT K H p xs ∧ k = !xs.isEmpty) ∨ ∃ kvs, H p = some (.dK kvs) ∧ k = !kvs.isEmpty
  | _ => False
theorem isEmpty_kv {κ : Type} {kvs : List (κ × V)} {vs : List (κ × Value)} (r : KV kvs vs) : (!vs.isEmpty) = !kvs.isEmpty := by
  cases r <;> rfl
theorem isEmpty_of {xs : List V} {its : List Value} (r : Vals xs its) : (!its.toArray.isEmpty) = !xs.isEmpty := by
  cases r <;> simp
theorem line63 : (sizeLine : Nat) < 2 ^ 63 := by rw [sizeLine_eq]; decide
theorem tru_ok : TruR X (fun x H Q => ∃ k, TruV X.K x H k ∧ Q k H) := by
  intro pins s σ H x v Q I rx h
  obtain ⟨k, e, q⟩ := h
  have hl := line63
  have hs : sizeLine = 16777216 := sizeLine_eq
  cases x with
  | non =>
    cases rx
    have e' : k = false := e
    subst e'
    exact truthy_none ⟨H, I, q⟩
  | bl b =>
    cases rx
    have e' : k = b := e
    subst e'
    exact wpAny_truthy_bool ⟨H, I, q⟩
  | int i =>
    obtain ⟨t, rfl⟩ := rx
    have e' : k = (i != 0) := e
    subst e'
    exact PySem.P.truthy_int ⟨H, I, q⟩
  | str y =>
    obtain ⟨t, rfl⟩ := rx
    obtain ⟨hy, e'⟩ : y.length ≤ sizeLine ∧ k = ((y.length : Int) != 0) := e
    subst e'
    exact PySem.P.truthy_str (by omega) ⟨H, I.tok _, q⟩
  | byt y =>
    obtain ⟨t, rfl⟩ := rx
    obtain ⟨hy, e'⟩ : y.size ≤ sizeLine ∧ k = ((y.size : Int) != 0) := e
    subst e'
    exact PySem.W.truthy_bytes (by omega) ⟨H, I.tok _, q⟩
  | ref p =>
    cases rx
    have e' : (∃ xs, SqL X.K H p xs ∧ k = !xs.isEmpty) ∨ (∃ xs, SqT X.K H p xs ∧ k = !xs.isEmpty) ∨ ∃ kvs, H p = some (.dK kvs) ∧ k = !kvs.isEmpty := e
    rcases e' with ⟨xs, hx, e'⟩ | ⟨xs, hx, e'⟩ | ⟨kvs, hx, e'⟩
    · subst e'
      obtain ⟨its, r, pl, hz⟩ := I.list hx
      have hlen := r.length
      exact wpAny_truthy_list pl.isList (by simp only [List.size_toArray]; omega) ⟨H, I.tok _, by rw [isEmpty_of r]; exact q⟩
    · subst e'
      obtain ⟨its, r, pl, hz⟩ := I.tuple hx
      have hlen := r.length
      exact truthy_tuple pl (by simp only [List.size_toArray]; omega) ⟨H, I.tok _, by rw [isEmpty_of r]; exact q⟩
    · subst e'
      obtain ⟨hz, hS, vs, r, m⟩ : kvs.length ≤ sizeLine ∧ (p == sysModules) = false ∧ ∃ vs, KV kvs vs ∧ s.heap.DictOf (mixKind X.prog X.w) p vs := I.hok p _ hx
      have hlen : kvs.length = vs.length := Paired.length r
      exact wpAny_truthy_dict hS m (by omega) ⟨H, I.tok _, by rw [isEmpty_kv r]; exact q⟩
  | _ => exact (show False from e).elim
theorem pt_truth (ha : PE X a ta) (he : ∀ whole, isTrue a X.env whole = (do let v ← whole; standAt a.pos; holding [v] (truthy v))) :
    PT X a (fun σ H Q => ta σ H fun x H' => ∃ k, TruV X.K x H' k ∧ Q k H') := by
  intro pins s σ H Q I h
  exact isTrue_plain (thn (ha pins s σ H _ I h) fun v s1 ⟨x, H1, I1, r1, q1⟩ => tru_ok pins s1 σ H1 x v Q I1 r1 q1) (he _)
theorem vals1 {x : V} {us : List Value} (r : Vals [x] us) : ∃ u, us = [u] ∧ RelV x u := by
  cases r with
  | cons r1 r2 => cases r2; exact ⟨_, rfl, r1⟩
theorem vals2 {x y : V} {us : List Value} (r : Vals [x, y] us) : ∃ u w', us = [u, w'] ∧ RelV x u ∧ RelV y w' := by
  cases r with
  | cons r1 r2 =>
    cases r2 with
    | cons r3 r4 => cases r4; exact ⟨_, _, rfl, r1, r3⟩
theorem call_max2 (hc : X.calm = true) : CallR X (.builtin "max") (fun xs H Q => ∃ i j, xs = [.int i, .int j] ∧ Q (.int (if j > i then j else i)) H) := by
  intro pins s σ H xs us Q I r h
  obtain ⟨i, j, rfl, q⟩ := h
  obtain ⟨u, w', rfl, ⟨t, rfl⟩, ⟨t', rfl⟩⟩ := vals2 r
  refine max_two_ints (I.ok.hd hc) fun h' tk k => ⟨_, H, I.kept k, ?_, q⟩
  by_cases hj : j > i
  · rw [if_pos hj, if_pos hj]; exact ⟨_, rfl⟩
  · rw [if_neg hj, if_neg hj]; exact ⟨_, rfl⟩
theorem call_min2 (hc : X.calm = true) : CallR X (.builtin "min") (fun xs H Q => ∃ i j, xs = [.int i, .int j] ∧ Q (.int (if j < i then j else i)) H) := by
  intro pins s σ H xs us Q I r h
  obtain ⟨i, j, rfl, q⟩ := h
  obtain ⟨u, w', rfl, ⟨t, rfl⟩, ⟨t', rfl⟩⟩ := vals2 r
  refine min_two_ints (I.ok.hd hc) fun h' tk k => ⟨_, H, I.kept k, ?_, q⟩
  by_cases hj : j < i
  · rw [if_pos hj, if_pos hj]; exact ⟨_, rfl⟩
  · rw [if_neg hj, if_neg hj]; exact ⟨_, rfl⟩
noncomputable def LenV (K : PySem.W.Frag) (x : V) (H : Hp) (n : Nat) : Prop :=
  match x with
  | .str y => y.length ≤ sizeLine ∧ n = y.length
  | .byt y => y.size ≤ sizeLine ∧ n = y.size
  | .ref p => (∃ xs, SqL K H p xs ∧ n = xs.length) ∨ ∃ xs, SqT K H p xs ∧ n = xs.length
  | _ => False
end
end L2
namespace L2
open PySem PySem.Spec PyProof.Rows
structure ObjM (h : Heap) (x dx C : Addr) (mA : Str → Option Value) : Prop where
  obj : h.get? x = some (PySem.W.instObj C dx)
  ns : h.Ns1 dx mA
  ne : dx ≠ x
theorem lookIn_ns {h : Heap} {dx : Addr} {mA : Str → Option Value} (n : h.Ns1 dx mA) : ∃ od, h.get? dx = some od ∧ ∀ name, PySem.W.lookIn name od = some (mA name) := by
  obtain ⟨o, es, ep, ho, hd, hk, _, hm⟩ := n
  refine ⟨o, ho, fun name => ?_⟩
  have e := hm name
  unfold nsFind findBy at e
  rw [← Array.find?_toList] at e
  unfold PySem.W.lookIn
  rw [hd]
  dsimp only
  split
  · rename_i y q
    rw [q] at e
    exact congrArg some e
  · rename_i q
    rw [q] at e
    have a : es.toList.any (·.refKey) = false := by
      rw [List.any_eq_false]
      intro y hy
      obtain ⟨z, t, hkey⟩ := hk y (Array.mem_toList_iff.mp hy)
      simp [DictEntry.refKey, hkey]
    have a' : ¬ es.toList.any (·.refKey) = true := by rw [a]; exact Bool.false_ne_true
    rw [if_neg a']
    exact congrArg some e
theorem ObjM.look {h : Heap} {x dx C : Addr} {mA : Str → Option Value} (I : ObjM h x dx C mA) : ∃ od, PySem.W.InstAt h x (PySem.W.instObj C dx) C (some od) ∧ ∀ name, PySem.W.lookIn name od = some (mA name) :=
  let ⟨od, ho, hl⟩ := lookIn_ns I.ns
  ⟨od, ⟨I.obj, rfl, rfl, ho⟩, hl⟩
section
variable {prog : Program} {w : World} {A : Around} {E : Value → Shared → Prop} {s : Shared} {K : PySem.W.Frag} {x dx C f : Addr} {mA : Str → Option Value} {name : Str} {v : Value}
theorem get_map {expr : Bool} {Q : Value → Shared → Prop} (X : K.In s.heap) (I : ObjM s.heap x dx C mA) (hg : PySem.W.plainGet K C name = true) (hh : PySem.W.hasDictIn K C = true)
    (ha : PySem.W.findIn K (.ref C) name = some none) (hv : mA name = some v) (hv' : PySem.W.handedIn v = true) (h : Q v { s with toks := s.toks + 1 }) :
    wpAny (model prog w) A (getAttr (.ref x) name expr) Q E s := by
  obtain ⟨od, J, hl⟩ := I.look
  exact PySem.W.get_value X J (PySem.W.plainGet_of hg).1 (PySem.W.findObj_own hh ha rfl (by rw [hl, hv])) hv' h
theorem get_meth {pl : Sem Bool} {Q : Value × List Value → Shared → Prop} (X : K.In s.heap) (I : ObjM s.heap x dx C mA) (hg : PySem.W.plainGet K C name = true)
    (hf : PySem.W.findIn K (.ref C) name = some (some (.ref f))) (ht : PySem.W.isFn K (.ref f) = true) (hv : mA name = none) (h : Q (.ref f, [.ref x]) s) :
    wpAny (model prog w) A (getMethod (.ref x) name pl) Q E s := by
  obtain ⟨od, J, hl⟩ := I.look
  exact PySem.W.method_fn X J (PySem.W.plainGet_of hg).1 (PySem.W.plainGet_of hg).2 hf (beq_iff_eq.mp ht) (by show (PySem.W.lookIn name od).map (·.isSome) = some false; rw [hl, hv]; rfl) h
theorem set_map {ns : List Str} {Q : Unit → Shared → Prop} (X : K.In s.heap) (I : ObjM s.heap x dx C mA)
    (hs : PySem.W.findIn K (.ref C) "__setattr__" = some (some (.builtin "object.__setattr__"))) (hp : PySem.W.plainOver K C = true) (ht : PySem.W.takerIn K C name = some none) (hh : PySem.W.hasDictIn K C = true)
    (hw : PySem.Within mA ns) (hsz : ns.length ≤ sizeLine)
    (h : ∀ h', ObjM h' x dx C (fun y => if y = name then some v else mA y) → Heap.SameBut dx s.heap h' → Q () { s with heap := h', toks := s.toks + 2 }) :
    wpAny (model prog w) A (setAttr (.ref x) name v) Q E s := by
  obtain ⟨od, J, hl⟩ := I.look
  refine PySem.W.set_plain X J hs (PySem.W.osa_open (s := { s with toks := s.toks + 1 }) (r := none) X J hp ht fun b => ?_)
  obtain ⟨cd, hc, hd'⟩ := PySem.W.any_some hh
  have hx : s.heap.get? x = some ⟨.ref C, some dx, .plain, #[]⟩ := I.obj
  refine wpAny_bind (wpAny_pure (wpAny_bind (wpAny_bind (wpAny_loadPart hx (wpAny_bind (PySem.W.Looks.here (s := { s with toks := s.toks + 1 }) (PySem.W.looks_clsIn X hc) ?_))))))
  rw [hd']
  refine wpAny_pure (a := some dx) (wpAny_bind (wpAny_pure (wpAny_bind ?_)))
  refine wpAny_nsSet1 (s := { s with toks := s.toks + 1 }) I.ns fun h' hn2 hs2 => ?_
  obtain ⟨oD, esD, epD, hoD, hdD, hcD⟩ := hn2.count (PySem.Within.cons name v hw)
  refine wpAny_bind (wpAny_lookBehind hoD (by rw [hdD]; exact pastItsLine_dict (Nat.le_trans hcD (by rw [List.length_cons]; omega))) ?_)
  exact wpAny_pure (h _ ⟨(hs2.2 _ (Ne.symm I.ne)).trans I.obj, hn2, I.ne⟩ hs2)
theorem make_map {R : Result → Shared → Prop} {vs : List Value} {kw : List (Str × Value)} (X : K.In s.heap) (hm : PySem.W.makesIn K C = true)
    (hi : PySem.W.findIn K (.ref C) "__init__" = some (some (.ref f))) (hf : PySem.W.typeIn K (.ref f) = some (.type "function"))
    (h : codeAny (model prog w) (A.under (.builtin "type.__call__" ⟨.ref C :: vs, kw⟩)) (.call (.ref f) ⟨.ref (s.heap.objs.size + 1) :: vs, kw⟩) (PySem.W.InitBack (s.heap.objs.size + 1) R)
      { s with heap := (s.heap.push PySem.W.emptyDict).push (PySem.W.instObj C s.heap.objs.size) }) :
    codeAny (model prog w) A (.call (.ref C) ⟨vs, kw⟩) R s := by
  obtain ⟨hh, g, d, t, os⟩ := s
  exact PySem.W.make_core (PySem.W.makes_of X hm) (PySem.W.looks_findIn X hi) (fun self => PySem.W.bind_fn X self hf) (.inl rfl) h
end
noncomputable def putF (f : Str) (v : V) : List (Str × V) → List (Str × V)
  | [] => [(f, v)]
  | (g, x) :: r => if g = f then (g, v) :: r else (g, x) :: putF f v r
theorem lookup_putF (f g : Str) (v : V) : ∀ fs : List (Str × V), (putF f v fs).lookup g = if g = f then some v else fs.lookup g
  | [] => by
    show List.lookup g [(f, v)] = _
    by_cases h : g = f
    · have hb : (g == f) = true := beq_iff_eq.mpr h
      simp only [List.lookup, hb, if_pos h]
    · have hb : (g == f) = false := beq_eq_false_iff_ne.mpr h
      simp only [List.lookup, hb, if_neg h]
  | (k, x) :: r => by
    have ih := lookup_putF f g v r
    rw [show putF f v ((k, x) :: r) = (if k = f then (k, v) :: r else (k, x) :: putF f v r) from rfl]
    by_cases hk : k = f
    · rw [if_pos hk]
      by_cases h : g = k
      · have hb : (g == k) = true := beq_iff_eq.mpr h
        simp only [List.lookup, hb, if_pos (h.trans hk)]
      · have hb : (g == k) = false := beq_eq_false_iff_ne.mpr h
        simp only [List.lookup, hb, if_neg (fun e : g = f => h (e.trans hk.symm))]
    · rw [if_neg hk]
      by_cases h : g = k
      · have hb : (g == k) = true := beq_iff_eq.mpr h
        simp only [List.lookup, hb, if_neg (fun e : g = f => hk (h.symm.trans e))]
      · have hb : (g == k) = false := beq_eq_false_iff_ne.mpr h
        simp only [List.lookup, hb]
        exact ih
theorem keys_putF (f : Str) (v : V) : ∀ fs : List (Str × V), f ∈ (putF f v fs).map (·.1) ∧ ∀ g, g ∈ fs.map (·.1) → g ∈ (putF f v fs).map (·.1)
  | [] => ⟨by simp [putF], fun g h => by simp at h⟩
  | (k, x) :: r => by
    obtain ⟨i1, i2⟩ := keys_putF f v r
    rw [show putF f v ((k, x) :: r) = (if k = f then (k, v) :: r else (k, x) :: putF f v r) from rfl]
    by_cases hk : k = f
    · rw [if_pos hk]
      subst hk
      exact ⟨by simp, fun g h => by simpa using h⟩
    · rw [if_neg hk]
      refine ⟨?_, fun g h => ?_⟩
      · rw [List.map_cons]
        exact List.mem_cons_of_mem _ i1
      · rw [List.map_cons] at h ⊢
        rcases List.mem_cons.mp h with e | e
        · exact List.mem_cons.mpr (.inl e)
        · exact List.mem_cons_of_mem _ (i2 g e)
theorem length_putF (f : Str) (v : V) : ∀ fs : List (Str × V), (putF f v fs).length ≤ fs.length + 1
  | [] => by simp [putF]
  | (k, x) :: r => by
    have ih := length_putF f v r
    rw [show putF f v ((k, x) :: r) = (if k = f then (k, v) :: r else (k, x) :: putF f v r) from rfl]
    by_cases hk : k = f
    · rw [if_pos hk, List.length_cons, List.length_cons]; omega
    · rw [if_neg hk, List.length_cons, List.length_cons]; omega
theorem RelO.some_of {v : V} {o : Option Value} (r : RelO (some v) o) : ∃ u, o = some u ∧ RelV v u := by
  cases o with
  | none => exact (show False from r).elim
  | some u => exact ⟨u, rfl, r⟩
theorem RelO.none_of {o : Option Value} (r : RelO none o) : o = none := by
  cases o with
  | none => rfl
  | some u => exact (show False from r).elim
theorem handed_of {v : V} {u : Value} (r : RelV v u) : PySem.W.handedIn u = true := by
  cases v with
  | non => cases (show u = Value.none from r); rfl
  | bl b => cases (show u = Value.bool b from r); rfl
  | int i => obtain ⟨t, e⟩ := (show ∃ t, u = Value.int i t from r); cases e; rfl
  | str x => obtain ⟨t, e⟩ := (show ∃ t, u = Value.str x t from r); cases e; rfl
  | byt b => obtain ⟨t, e⟩ := (show ∃ t, u = Value.bytes b t from r); cases e; rfl
  | flt b => obtain ⟨t, e⟩ := (show ∃ t, u = Value.float b t from r); cases e; rfl
  | ref a => cases (show u = Value.ref a from r); rfl
  | ty n => cases (show u = Value.type n from r); rfl
section
variable {P : Program} {w : World} {H H' : Hp} {h h' : Heap} {a C dx : Addr} {fs fs' : List (Str × V)}
theorem ins_get (hok : HOk P w H h) (e : H a = some (.ins C dx fs)) : ∃ mA, ObjM h a dx C mA ∧ (∀ f, RelO (fs.lookup f) (mA f)) ∧ PySem.Within mA (fs.map (·.1)) ∧ fs.length ≤ 1000 ∧ H dx = some (.own a) := by
  obtain ⟨d, z, ne, ob, mA, n, r, q⟩ := (show ObjOk P w H h a (.ins C dx fs) from hok a _ e)
  exact ⟨mA, ⟨ob, n, ne⟩, r, q, z, d⟩
end
structure Cls (K : PySem.W.Frag) (C : Addr) : Prop where
  pg : PySem.W.plainGet K C Str.empty = true
  hd : PySem.W.hasDictIn K C = true
  po : PySem.W.plainOver K C = true
  sa : PySem.W.findIn K (.ref C) "__setattr__" = some (some (.builtin "object.__setattr__"))
theorem Cls.get {K : PySem.W.Frag} {C : Addr} (c : Cls K C) (f : Str) : PySem.W.plainGet K C f = true := c.pg
noncomputable def NoAttr (K : PySem.W.Frag) (C : Addr) (f : Str) : Prop := PySem.W.findIn K (.ref C) f = some none
theorem NoAttr.taker {K : PySem.W.Frag} {C : Addr} {f : Str} (n : NoAttr K C f) : PySem.W.takerIn K C f = some none := by
  unfold PySem.W.takerIn
  rw [show PySem.W.findIn K (.ref C) f = some none from n]
  rfl
structure Con (K : PySem.W.Frag) (C : Addr) (f : Str) (v : V) (u : Value) : Prop where
  at_ : PySem.W.findIn K (.ref C) f = some (some u)
  rel : RelV v u
  get : PySem.W.specialIn K u "__get__" = some none
  cp : PySem.W.copiedNames.contains f = false
structure Meth (K : PySem.W.Frag) (C : Addr) (m : Str) (f : Addr) : Prop where
  at_ : PySem.W.findIn K (.ref C) m = some (some (.ref f))
  fn : PySem.W.isFn K (.ref f) = true
  kp : PySem.W.keepIn K (.ref f) = true
section
variable {X : Cx} {pins : List (Addr × Obj)} {σ : St} {H : Hp} {s : Shared} {a C dx : Addr} {fs : List (Str × V)} {f : Str} {v : V} {A : Around} {E : Value → Shared → Prop}
theorem getattr_ok {b : Bool} {Q : Value → Shared → Prop} (I : Inv X pins σ H s) (e : H a = some (.ins C dx fs)) (c : Cls X.K C) (n : NoAttr X.K C f) (l : fs.lookup f = some v)
    (h : ∀ u s', Inv X pins σ H s' → RelV v u → Q u s') : wpAny (model X.prog X.w) A (getAttr (.ref a) f b) Q E s := by
  obtain ⟨mA, O, r, _, _, _⟩ := ins_get I.hok e
  obtain ⟨u, hu, ru⟩ := RelO.some_of (v := v) (o := mA f) (by rw [← l]; exact r f)
  exact get_map I.kIn O (c.get f) c.hd n hu (handed_of ru) (h u _ (I.tok _) ru)
theorem getmeth_ok {m : Str} {g : Addr} {pl : Sem Bool} {Q : Value × List Value → Shared → Prop} (I : Inv X pins σ H s) (e : H a = some (.ins C dx fs)) (c : Cls X.K C) (k : Meth X.K C m g) (l : fs.lookup m = none)
    (h : Q (.ref g, [.ref a]) s) : wpAny (model X.prog X.w) A (getMethod (.ref a) m pl) Q E s := by
  obtain ⟨mA, O, r, _, _, _⟩ := ins_get I.hok e
  have hn : mA m = none := RelO.none_of (by rw [← l]; exact r m)
  exact get_meth I.kIn O (c.get m) k.at_ k.fn hn h
theorem setattr_ok {y : V} {u : Value} {Q : Unit → Shared → Prop} (I : Inv X pins σ H s) (e : H a = some (.ins C dx fs)) (c : Cls X.K C) (n : NoAttr X.K C f) (hl : fs.length < 1000) (ry : RelV y u)
    (h : ∀ s', Inv X pins σ (upd H a (.ins C dx (putF f y fs))) s' → Q () s') : wpAny (model X.prog X.w) A (setAttr (.ref a) f u) Q E s := by
  obtain ⟨mA, O, r, wi, _, ho⟩ := ins_get I.hok e
  have hz : (fs.map (·.1)).length ≤ sizeLine := by rw [List.length_map, sizeLine_eq]; omega
  refine set_map I.kIn O c.sa c.po n.taker c.hd wi hz fun h' O' sb => h _ ?_
  have hd : ∃ o, h'.get? dx = some o := let ⟨o, _, _, e', _⟩ := O'.ns; ⟨o, e'⟩
  refine I.write (x := a) (e := dx) (by rw [e]; exact True.intro) (.inr ho) (fun b q hb z => (sb.2 b hb).trans z) hd ?_
  refine ⟨by rw [upd_ne O.ne]; exact ho, ?_, O.ne, O'.obj, _, O'.ns, fun g => ?_, fun g hg => ?_⟩
  · have := length_putF f y fs; omega
  · show RelO ((putF f y fs).lookup g) (if g = f then some u else mA g)
    rw [lookup_putF]
    by_cases q : g = f
    · rw [if_pos q, if_pos q]; exact ry
    · rw [if_neg q, if_neg q]; exact r g
  · by_cases q : g = f
    · rw [q]; exact (keys_putF f y fs).1
    · refine (keys_putF f y fs).2 g (wi g fun z => hg ?_)
      show (if g = f then some u else mA g) = none
      rw [if_neg q]; exact z
theorem Inv.made (I : Inv X pins σ H s) : Inv X pins σ (upd (upd H s.heap.objs.size (.own (s.heap.objs.size + 1))) (s.heap.objs.size + 1) (.ins C s.heap.objs.size []))
    { s with heap := (s.heap.push PySem.W.emptyDict).push (PySem.W.instObj C s.heap.objs.size) } := by
  have e1 : (s.heap.push PySem.W.emptyDict).get? s.heap.objs.size = some PySem.W.emptyDict := Heap.get?_push_size s.heap rfl
  have e2 : ((s.heap.push PySem.W.emptyDict).push (PySem.W.instObj C s.heap.objs.size)).get? (s.heap.objs.size + 1) = some (PySem.W.instObj C s.heap.objs.size) := by
    have := Heap.get?_push_size (s.heap.push PySem.W.emptyDict) (o := PySem.W.instObj C s.heap.objs.size) rfl
    rwa [Heap.size_push] at this
  have e3 : (s.heap.push PySem.W.emptyDict).Ns s.heap.objs.size (fun _ => none) := ⟨PySem.W.emptyDict, #[], _, e1, rfl, (fun e he => absurd he (by simp)), fun _ => rfl⟩
  have I1 := I.laid (a := s.heap.objs.size) (o := .own (s.heap.objs.size + 1)) (h' := s.heap.push PySem.W.emptyDict) (t' := s.toks) (fun b u q => Heap.get?_push_of_some _ q) (Nat.le_refl _) ⟨_, e1⟩
  refine I1.laid (a := s.heap.objs.size + 1) (o := .ins C s.heap.objs.size []) (t' := s.toks) (fun b u q => Heap.get?_push_of_some _ q) (Nat.le_of_eq (Heap.size_push _ _)) ?_
  have ne : s.heap.objs.size ≠ s.heap.objs.size + 1 := Nat.ne_of_lt (Nat.lt_succ_self _)
  refine ⟨by rw [upd_ne ne, upd_same], Nat.zero_le _, ne, e2, fun _ => none, (Heap.Ns1.of_empty e3).at fun o q => Heap.get?_push_of_some _ q, fun _ => True.intro, fun y hy => absurd rfl hy⟩
theorem attr_of {prog : Program} {w : World} {env : Env} {e : Expr} {f : Str} {pos : Pos} {s : Shared} {Q : Value → Shared → Prop} (hb : attributeBase e f env (eval e env) = eval e env)
    (h : wpAny (model prog w) A (eval e env) (fun o s₁ => wpAny (model prog w) A (getAttr o f true) Q E s₁) E s) : wpAny (model prog w) A (eval (.Attribute e f pos) env) Q E s :=
  Attribute_any_ h (by rw [arm_eval_Attribute, hb])
end
noncomputable def tFld (K : PySem.W.Frag) (ta : TE) (f : Str) : TE := fun σ H Q => ta σ H fun x H1 => ∃ a C dx fs v, x = .ref a ∧ H1 a = some (.ins C dx fs) ∧ Cls K C ∧ NoAttr K C f ∧ fs.lookup f = some v ∧ Q v H1
noncomputable def sFld (K : PySem.W.Frag) (ta tv : TE) (f : Str) : TS := fun D σ H => tv σ H fun y H1 => ta σ H1 fun x H2 => ∃ a C dx fs, x = .ref a ∧ H2 a = some (.ins C dx fs) ∧ Cls K C ∧ NoAttr K C f ∧ fs.length < 1000 ∧
  D.nx σ (upd H2 a (.ins C dx (putF f y fs)))
section
variable {X : Cx} {o e value : Expr} {f : Str} {pos pos' tpos : Pos} {ta tv : TE}
theorem pe_fld (he : PE X e ta) (hb : attributeBase e f X.env (eval e X.env) = eval e X.env) : PE X (.Attribute e f pos) (tFld X.K ta f) := by
  intro pins s σ H Q I h
  refine attr_of hb (thn (he pins s σ H _ I h) fun u s1 ⟨x, H1, I1, rx, a, C, dx, fs, v, ex, ea, c, n, l, q⟩ => ?_)
  subst ex
  obtain rfl : u = Value.ref a := rx
  exact getattr_ok I1 ea c n l fun u' s2 I2 ru => ⟨v, H1, I2, ru, q⟩
theorem ps_fld (ha : PE X o ta) (hv : PE X value tv) (hs : swapsWith value (some (.Attribute o f pos')) pos.line X.env = pure false) : PS X (.Assign [.Attribute o f pos'] value pos) (sFld X.K ta tv f) := by
  intro pins s σ H D I h
  refine plainObj_wpAny_Assign_Attribute (thn (hv pins s σ H _ I h) fun u s1 ⟨y, H1, I1, ry, q⟩ => thn (ha pins s1 σ H1 _ I1 q) fun ov s2 ⟨x, H2, I2, rx, a, C, dx, fs, ex, ea, c, n, l, q2⟩ => ?_) hs
  subst ex
  obtain rfl : ov = Value.ref a := rx
  exact setattr_ok I2 ea c n l ry fun s3 I3 => ⟨σ, _, I3, q2⟩
theorem methcall_of {pl : Sem Bool} {m : Str} {apos : Pos} {args : List Expr} {pins : List (Addr × Obj)} {s : Shared} {σ : St} {H : Hp} {Q : Value → Shared → Prop} {te : TE} (he : PE X e te) (I : Inv X pins σ H s)
    (h : te σ H fun x H1 => ∃ a C dx fs g, x = .ref a ∧ H1 a = some (.ins C dx fs) ∧ Cls X.K C ∧ Meth X.K C m g ∧ fs.lookup m = none ∧
      ∀ s1, Inv X pins σ H1 s1 → wpAny (model X.prog X.w) X.A (callWith pos (.ref g) [.ref a] (backTo pos (starEach args X.env)) (backToKw pos (keywordEach [] X.env))) Q X.xe s1)
    (ht : eval (.Call (.Attribute e m apos) args [] pos) X.env = (do
      let ov ← eval e X.env
      standAt apos.atName
      let (f, first) ← holding [ov] (getMethod ov m pl)
      callWith pos f first (backTo pos (starEach args X.env)) (backToKw pos (keywordEach [] X.env)))) :
    wpAny (model X.prog X.w) X.A (eval (.Call (.Attribute e m apos) args [] pos) X.env) Q X.xe s := by
  refine PySem.W.methodCall_KW (pl := pl) (thn (he pins s σ H _ I h) fun u s1 ⟨x, H1, I1, rx, a, C, dx, fs, g, ex, ea, c, k, l, q⟩ => ?_) ht
  subst ex
  obtain rfl : u = Value.ref a := rx
  exact getmeth_ok I1 ea c k l (q s1 I1)
end
section
variable {X : Cx} {pins : List (Addr × Obj)} {σ : St} {H : Hp} {s : Shared} {A : Around} {E : Value → Shared → Prop} {Q : Value → Shared → Prop} {c : Value} {b : Bool}
inductive TyOf (K : PySem.W.Frag) (H : Hp) : V → Value → Prop where
  | non : TyOf K H .non (.type "NoneType")
  | bl (x : Bool) : TyOf K H (.bl x) (.type "bool")
  | int (i : Int) : TyOf K H (.int i) (.type "int")
  | str (x : Str) : TyOf K H (.str x) (.type "str")
  | flt (x : UInt64) : TyOf K H (.flt x) (.type "float")
  | lst {a : Addr} {xs : List V} (e : H a = some (.lst xs)) : TyOf K H (.ref a) (.type "list")
  | frz {a : Addr} {o : Obj} {xs : List V} (e : H a = some (.frz o (.lst xs))) : TyOf K H (.ref a) (.type "list")
  | tup {a : Addr} {xs : List V} (e : H a = some (.tup xs)) : TyOf K H (.ref a) (.type "tuple")
  | dK {a : Addr} {kvs : List (Key × V)} (e : H a = some (.dK kvs)) : TyOf K H (.ref a) (.type "dict")
  | dT {a : Addr} {kvs : List (List NKey × V)} (e : H a = some (.dT kvs)) : TyOf K H (.ref a) (.type "dict")
  | ins {a C dx : Addr} {fs : List (Str × V)} (e : H a = some (.ins C dx fs)) (cl : Cls K C) (ha : PySem.W.findIn K (.ref C) "__class__" = some (some (.builtin "object.__class__")))
      (hn : PySem.W.specialIn K (.builtin "object.__class__") "__get__" = some (some (.builtin "getset_descriptor.__get__"))) (htk : PySem.W.takesIn K (.builtin "object.__class__") = some true)
      (hm : PySem.W.mroIn K C (.type "object") = some true) : TyOf K H (.ref a) (.ref C)
theorem isinst_ok {x : V} {u t : Value} (I : Inv X pins σ H s) (rx : RelV x u) (ty : TyOf X.K H x t) (e : PySem.W.kitOne X.K t c = some b) (h : ∀ tk, Q (.bool b) { s with toks := tk }) :
    wpAny (model X.prog X.w) A (call (.builtin "isinstance") [u, c]) Q E s := by
  cases ty with
  | non => cases (show u = Value.none from rx); exact PySem.W.kia_one PySem.W.kitx_none I.kIn True.intro e (fun z => nomatch z) h
  | bl y => cases (show u = Value.bool y from rx); exact PySem.W.kia_one PySem.W.kitx_bool I.kIn True.intro e (fun z => nomatch z) h
  | int i => obtain ⟨t, q⟩ := (show ∃ t, u = Value.int i t from rx); cases q; exact PySem.W.kia_one PySem.W.kitx_int I.kIn True.intro e (fun z => nomatch z) h
  | str y => obtain ⟨t, q⟩ := (show ∃ t, u = Value.str y t from rx); cases q; exact PySem.W.kia_one PySem.W.kitx_str I.kIn True.intro e (fun z => nomatch z) h
  | flt y => obtain ⟨t, q⟩ := (show ∃ t, u = Value.float y t from rx); cases q; exact PySem.W.kia_one PySem.W.kitx_float I.kIn True.intro e (fun z => nomatch z) h
  | @lst a xs ea =>
    cases (show u = Value.ref a from rx)
    obtain ⟨_, _, n, _, h1⟩ := (show ObjOk X.prog X.w H s.heap a (.lst xs) from I.hok a _ ea)
    exact PySem.W.kia_one PySem.W.kitx_list I.kIn ⟨_, h1, rfl⟩ e (fun z => nomatch z) h
  | @frz a ob xs ea =>
    cases (show u = Value.ref a from rx)
    obtain ⟨_, _, _, n, _, h1⟩ := (show ObjOk X.prog X.w H s.heap a (.frz ob (.lst xs)) from I.hok a _ ea)
    exact PySem.W.kia_one PySem.W.kitx_list I.kIn ⟨_, h1, rfl⟩ e (fun z => nomatch z) h
  | @tup a xs ea =>
    cases (show u = Value.ref a from rx)
    obtain ⟨_, _, _, p⟩ := (show ObjOk X.prog X.w H s.heap a (.tup xs) from I.hok a _ ea)
    obtain ⟨o, h1, h2, _⟩ := p
    exact PySem.W.kia_one PySem.W.kitx_tuple I.kIn ⟨o, h1, h2⟩ e (fun z => nomatch z) h
  | @dK a kvs ea =>
    cases (show u = Value.ref a from rx)
    obtain ⟨_, _, vs, _, p⟩ := (show ObjOk X.prog X.w H s.heap a (.dK kvs) from I.hok a _ ea)
    obtain ⟨o, es, ep, h1, h2, _⟩ := p
    exact PySem.W.kia_one PySem.W.kitx_dict I.kIn ⟨o, h1, h2.1⟩ e (fun z => nomatch z) h
  | @dT a kvs ea =>
    cases (show u = Value.ref a from rx)
    obtain ⟨_, _, xs, _, o, es, ep, h1, h2, _⟩ := (show ObjOk X.prog X.w H s.heap a (.dT kvs) from I.hok a _ ea)
    exact PySem.W.kia_one PySem.W.kitx_dict I.kIn ⟨o, h1, h2.1⟩ e (fun z => nomatch z) h
  | @ins a C dx fs ea cl ha hn htk hm =>
    cases (show u = Value.ref a from rx)
    obtain ⟨mA, O, _⟩ := ins_get I.hok ea
    obtain ⟨od, J, _⟩ := O.look
    exact PySem.W.kia_one (PySem.W.kitx_own (cl.get _) cl.hd ha hn htk hm) I.kIn J e (fun z => nomatch z) h
end
end L2
namespace L2
open PySem PySem.Spec PyProof.Rows
structure Room (k : Nat) (A : Around) : Prop where
  hd : A.handled = none
  dp : A.depth + 3 * k + 5 < recursionLimit
  un : A.units + 16 * k + 200 < cLine
theorem Room.mono {j k : Nat} {A : Around} (r : Room k A) (h : j ≤ k) : Room j A := ⟨r.hd, by have := r.dp; omega, by have := r.un; omega⟩
theorem Room.deeper {k : Nat} {A : Around} (r : Room (k + 1) A) (env : Env) : Room k (A.deeper env) :=
  ⟨r.hd, by have := r.dp; show A.depth + 1 + 3 * k + 5 < _; omega, by have := r.un; show A.units + 3 + 16 * k + 200 < _; omega⟩
theorem make_depth {A : Around} {C : Addr} {us : List Value} {kw : List (Str × Value)} : (A.under (.builtin "type.__call__" ⟨.ref C :: us, kw⟩)).depth = A.depth + 1 := by
  first | rfl | simp [Around.under, Code.weight, Code.isCreation, Code.isGuard, Code.isCaller, Code.frames, Code.isFrame, guardIds]
theorem make_units {A : Around} {C : Addr} {us : List Value} {kw : List (Str × Value)} : (A.under (.builtin "type.__call__" ⟨.ref C :: us, kw⟩)).units = A.units + 1 := by
  first | rfl | simp [Around.under, Code.cUnits, Code.frames, Code.isFrame]
theorem Room.make {k : Nat} {A : Around} (r : Room (k + 1) A) (C : Addr) (us : List Value) (kw : List (Str × Value)) : Room k (A.under (.builtin "type.__call__" ⟨.ref C :: us, kw⟩)) :=
  ⟨r.hd, by have := r.dp; rw [make_depth]; omega, by have := r.un; rw [make_units]; omega⟩
theorem Room.depth {k : Nat} {A : Around} (r : Room k A) : A.depth < recursionLimit := by have := r.dp; omega
theorem Room.units {k : Nat} {A : Around} (r : Room k A) : A.units + 64 < cLine := by have := r.un; omega
noncomputable def tNil : TA := fun _ H Q => Q [] H
noncomputable def tCons (ta : TE) (tr : TA) : TA := fun σ H Q => ta σ H fun x H1 => tr σ H1 fun xs H2 => Q (x :: xs) H2
section
variable {X : Cx} {e : Expr} {es : List Expr} {te : TE} {t : TA} {pos : Pos}
theorem pa_nil : PA X [] tNil := fun _ _ _ _ H Q I h => Calls.spliced_nil ⟨[], H, I, .nil, h⟩
theorem pa_cons (ha : PE X e te) (hr : PA X es t) (hs : starEach (e :: es) X.env = (false, eval e X.env) :: starEach es X.env := by rfl) : PA X (e :: es) (tCons te t) := by
  intro pos pins s σ H Q I h
  rw [hs]
  show wpAny _ _ (spliced ((false, eval e X.env) :: backTo pos (starEach es X.env))) _ _ s
  refine Calls.spliced_cons (thn (ha pins s σ H _ I h) fun u s1 ⟨x, H1, I1, r1, q1⟩ => ?_)
  exact thn (hr pos pins s1 σ H1 _ I1 q1) fun us s2 ⟨xs, H2, I2, r2, q2⟩ => ⟨x :: xs, H2, I2, .cons r1 r2, q2⟩
noncomputable def tTup (t : TA) : TE := fun σ H Q => t σ H fun xs H1 => xs.length ≤ sizeLine ∧ ∀ p, H1 p = none → Q (.ref p) (upd H1 p (.tup xs))
noncomputable def tLst (t : TA) : TE := fun σ H Q => t σ H fun xs H1 => xs.length ≤ sizeLine ∧ ∀ p, H1 p = none → Q (.ref p) (upd H1 p (.lst xs))
theorem pe_tup {x1} (h : PA X es t) : PE X (.Tuple es x1 pos) (tTup t) := by
  intro pins s σ H Q I hq
  refine wpAny_Tuple_spliced (thn (h pos pins s σ H _ I hq) fun us s1 ⟨xs, H1, I1, r, z, q⟩ => ⟨by rw [← r.length]; exact z, ?_⟩)
  have hf : H1 s1.heap.objs.size = none := I1.hok.fresh (Nat.le_refl _)
  refine ⟨.ref s1.heap.objs.size, upd H1 s1.heap.objs.size (.tup xs), I1.laid (t' := s1.toks) (fun b u e => Heap.get?_push_of_some _ e) (Nat.le_refl _) ?_, rfl, q _ hf⟩
  exact ⟨z, us, r, ⟨_, Heap.get?_push_size _ rfl, rfl, _, rfl⟩⟩
theorem pe_lst (h : PA X es t) : PE X (.List es pos) (tLst t) := by
  intro pins s σ H Q I hq
  refine wpAny_List_spliced (thn (h pos pins s σ H _ I hq) fun us s1 ⟨xs, H1, I1, r, z, q⟩ => ⟨by rw [← r.length]; exact z, ?_⟩)
  have hf : H1 s1.heap.objs.size = none := I1.hok.fresh (Nat.le_refl _)
  refine ⟨.ref s1.heap.objs.size, upd H1 s1.heap.objs.size (.lst xs), I1.laid (t' := s1.toks) (fun b u e => Heap.get?_push_of_some _ e) (Nat.le_refl _) ?_, rfl, q _ hf⟩
  exact ⟨z, us, 0, r, Heap.get?_push_size _ rfl⟩
end
noncomputable abbrev Sp := List V → Hp → VK → XK → Prop
noncomputable abbrev CXT := List Env → Hp → Shared → XK → Value → Shared → Prop
structure Env0 (P : Program) (w : World) (K : PySem.W.Frag) (mg : Str → Option Value) (base : Heap) (A : Around) (outer : List Env) (s : Shared) (H : Hp) : Prop where
  frames : A.frames = some outer
  mod : Mod K mg base
  bs : ∀ b o, base.get? b = some o → s.heap.get? b = some o ∧ H b = none
  bsz : base.objs.size ≤ s.heap.objs.size
  funs : s.heap.FunFrames base outer
  frf : ∀ b ∈ frs outer, H b = none
  hok : HOk P w H s.heap
  bare : AllBare s.gens
noncomputable def CE (outer : List Env) (P : Program) (w : World) (H : Hp) (s : Shared) (Q : VK) (u : Value) (s' : Shared) : Prop :=
  ∃ v H', s'.os = s.os ∧ AllBare s'.gens ∧ Un (frs outer) [] H H' s.heap s'.heap ∧ HOk P w H' s'.heap ∧ RelV v u ∧ Q v H'
noncomputable def CR (CX : CXT) (outer : List Env) (P : Program) (w : World) (H : Hp) (s : Shared) (Q : VK) (E : XK) (r : Result) (s' : Shared) : Prop :=
  match r with
  | .ok (.ret u) => CE outer P w H s Q u s'
  | .ok _ => False
  | .error e => CX outer H s E e s'
structure FnOk (P : Program) (w : World) (K : PySem.W.Frag) (mg : Str → Option Value) (base : Heap) (CX : CXT) (k : Nat) (f : Addr) (fd : FuncData) (ps : List Str) (sp : Sp) : Prop where
  len : ∀ vs H Q E, sp vs H Q E → vs.length = ps.length
  run : ∀ (A : Around) (outer : List Env) (s : Shared) (H : Hp) (args : Args) (us : List Value) (vs : List V) (Q : VK) (E : XK), Room k A → Env0 P w K mg base A outer s H → BindsTo s fd args (ps.zip us) → Vals vs us → sp vs H Q E →
    codeAny (model P w) A (.call (.ref f) args) (CR CX outer P w H s Q E) s
theorem Env0.make {P : Program} {w : World} {K : PySem.W.Frag} {mg : Str → Option Value} {base : Heap} {A : Around} {outer : List Env} {s : Shared} {H : Hp} (e : Env0 P w K mg base A outer s H) (C : Addr) (us : List Value) (kw : List (Str × Value)) :
    Env0 P w K mg base (A.under (.builtin "type.__call__" ⟨.ref C :: us, kw⟩)) outer s H := ⟨by first | exact e.frames | (simpa [Around.under, Code.envs, Code.isFrame, pushEnvs] using e.frames), e.mod, e.bs, e.bsz, e.funs, e.frf, e.hok, e.bare⟩
section
variable {X : Cx} {pins : List (Addr × Obj)} {σ : St} {H : Hp} {s s' : Shared}
theorem Inv.env0 (I : Inv X pins σ H s) : Env0 X.prog X.w X.K X.mg X.base X.A X.stack s H :=
  ⟨I.ok.frames, I.ok.mod, I.bs, Nat.le_trans I.ok.bsz I.sz, I.stack, I.stkFree, I.hok, I.bare⟩
theorem Inv.after {Q : VK} {u : Value} (I : Inv X pins σ H s) (h : CE X.stack X.prog X.w H s Q u s') : EP X pins σ Q u s' := by
  obtain ⟨v, H', os, bare, un, hok, r, q⟩ := h
  obtain ⟨hh, g, d, t, os'⟩ := s'
  obtain rfl : os' = s.os := os
  exact ⟨v, H', I.call (h' := hh) (g' := g) (d' := d) (t' := t) (ch := []) un hok bare (fun b z => absurd z (by simp)), r, q⟩
end
noncomputable def tCall (sp : Sp) (dvs : List V) (E : XK) (t : TA) : TE := fun σ H Q => t σ H fun vs H1 => sp (vs ++ dvs) H1 Q E
noncomputable def tMeth (C : Addr) (m : Str) (sp : Sp) (dvs : List V) (E : XK) (ta : TE) (t : TA) : TE := fun σ H Q => ta σ H fun x H1 => ∃ a dx fs, x = .ref a ∧ H1 a = some (.ins C dx fs) ∧ fs.lookup m = none ∧
  t σ H1 fun vs H2 => sp (x :: (vs ++ dvs)) H2 Q E
noncomputable def tMake (C : Addr) (sp : Sp) (dvs : List V) (E : XK) (t : TA) : TE := fun σ H Q => t σ H fun vs H1 => ∀ x dx, H1 x = none → H1 dx = none → dx ≠ x →
  sp (.ref x :: (vs ++ dvs)) (upd (upd H1 dx (.own x)) x (.ins C dx [])) (fun v H2 => v = .non ∧ Q (.ref x) H2) E
noncomputable def Binds (K : PySem.W.Frag) (fd : FuncData) (ps : List Str) (ds : List Value) : Prop :=
  ∀ (s : Shared) (us : List Value), K.In s.heap → (us ++ ds).length = ps.length → BindsTo s fd ⟨us, []⟩ (ps.zip (us ++ ds))
theorem Binds.all {K : PySem.W.Frag} {fd : FuncData} {ps : List Str} (h : ∀ us : List Value, us.length = ps.length → bindArgs fd ⟨us, []⟩ = pure (ps.zip us)) : Binds K fd ps [] := fun s us _ hl => by
  rw [List.append_nil] at hl ⊢
  exact .of_eq (h us hl)
noncomputable def Passes (CX : CXT) (X : Cx) (E : XK) : Prop := ∀ (pins : List (Addr × Obj)) (σ : St) (H : Hp) (s : Shared) (e : Value) (s' : Shared), Inv X pins σ H s → CX X.stack H s E e s' → X.xe e s'
section
variable {X : Cx} {CX : CXT} {k : Nat} {f C : Addr} {fd : FuncData} {ps : List Str} {sp : Sp} {dvs : List V} {ds : List Value} {E : XK} {x m : Str} {p pos apos : Pos} {e o : Expr} {es : List Expr} {ta : TE} {t : TA}
theorem run_fn {pins : List (Addr × Obj)} {σ : St} {H : Hp} {s : Shared} {Q : VK} {us : List Value} {vs : List V} (F : FnOk X.prog X.w X.K X.mg X.base CX k f fd ps sp) (hr : Room k X.A) (hb : Binds X.K fd ps ds) (hd : Vals dvs ds) (hx : Passes CX X E)
    (I : Inv X pins σ H s) (r : Vals vs us) (h : sp (vs ++ dvs) H Q E) : wpAny (model X.prog X.w) X.A (call (.ref f) us) (EP X pins σ Q) X.xe s := by
  have r2 : Vals (vs ++ dvs) (us ++ ds) := r.append hd
  have hl : (us ++ ds).length = ps.length := by rw [← r2.length]; exact F.len _ _ _ _ h
  refine wpAny_call (codeAny_mono (F.run X.A X.stack s H ⟨us, []⟩ (us ++ ds) (vs ++ dvs) Q E hr I.env0 (hb s us I.kIn hl) r2 h) fun r s' hq => ?_)
  cases r with
  | error e => exact hx pins σ H s e s' I hq
  | ok fl =>
    cases fl with
    | ret u => exact I.after hq
    | next => exact False.elim hq
    | brk => exact False.elim hq
    | cont => exact False.elim hq
theorem pe_call (F : FnOk X.prog X.w X.K X.mg X.base CX k f fd ps sp) (hr : Room k X.A) (hg : Gl X x) (hm : X.mg x = some (.ref f)) (hk : PySem.W.keepIn X.K (.ref f) = true) (hb : Binds X.K fd ps ds) (hd : Vals dvs ds) (hx : Passes CX X E)
    (ha : PA X (e :: es) t) (hdb : (x == ("__debug__" : Str)) = false := by decide) (he : starEach (e :: es) X.env = (false, eval e X.env) :: starEach es X.env := by rfl) (hpl : (backTo pos (starEach es X.env)).any (·.1) = false := by rfl) :
    PE X (.Call (.Name x p) (e :: es) [] pos) (tCall sp dvs E t) := by
  intro pins s σ H Q I h
  refine wpAny_Call_Name_kw (ld_glob I hg hm ?_ hdb)
  refine PySem.W.callWith_K (h₀ := X.base) I.ok.mod.kin hk (thn (ha pos pins s σ H _ I h) fun us s1 ⟨vs, H1, I1, r, q⟩ => ⟨I1.kIn, ?_⟩) he hpl
  exact run_fn F hr hb hd hx I1 r q
theorem pe_meth {pl : Sem Bool} (he : PE X o ta) (c : Cls X.K C) (hm : Meth X.K C m f) (F : FnOk X.prog X.w X.K X.mg X.base CX k f fd ps sp) (hr : Room k X.A) (hb : Binds X.K fd ps ds) (hd : Vals dvs ds) (hx : Passes CX X E) (ha : PA X (e :: es) t)
    (hst : starEach (e :: es) X.env = (false, eval e X.env) :: starEach es X.env := by rfl) (hpl : (backTo pos (starEach es X.env)).any (·.1) = false := by rfl)
    (ht : eval (.Call (.Attribute o m apos) (e :: es) [] pos) X.env = (do
      let ov ← eval o X.env
      standAt apos.atName
      let (f, first) ← holding [ov] (getMethod ov m pl)
      callWith pos f first (backTo pos (starEach (e :: es) X.env)) (backToKw pos (keywordEach [] X.env))) := by rfl) :
    PE X (.Call (.Attribute o m apos) (e :: es) [] pos) (tMeth C m sp dvs E ta t) := by
  intro pins s σ H Q I h
  refine PySem.W.methodCall_KW (pl := pl) (thn (he pins s σ H _ I h) fun u s1 ⟨x, H1, I1, rx, a, dx, fs, ex, ea, l, q⟩ => ?_) ht
  subst ex
  obtain rfl : u = Value.ref a := rx
  refine getmeth_ok I1 ea c hm l ?_
  refine PySem.W.callWith_K (first := [.ref a]) (h₀ := X.base) I.ok.mod.kin hm.kp (thn (ha pos pins s1 σ H1 _ I1 q) fun us s2 ⟨vs, H2, I2, r, q2⟩ => ⟨I2.kIn, ?_⟩) hst hpl
  exact run_fn (us := .ref a :: us) (vs := .ref a :: vs) F hr hb hd hx I2 (.cons rfl r) q2
structure Mk (K : PySem.W.Frag) (C f : Addr) : Prop where
  makes : PySem.W.makesIn K C = true
  init : PySem.W.findIn K (.ref C) "__init__" = some (some (.ref f))
  fn : PySem.W.isFn K (.ref f) = true
  kp : PySem.W.keepIn K (.ref C) = true
theorem run_make {pins : List (Addr × Obj)} {σ : St} {H : Hp} {s : Shared} {Q : VK} {us : List Value} {vs : List V} (M : Mk X.K C f) (F : FnOk X.prog X.w X.K X.mg X.base CX k f fd ps sp) (hr : Room (k + 1) X.A) (hb : Binds X.K fd ps ds) (hd : Vals dvs ds)
    (hx : Passes CX X E) (I : Inv X pins σ H s) (r : Vals vs us)
    (h : ∀ x dx, H x = none → H dx = none → dx ≠ x → sp (.ref x :: (vs ++ dvs)) (upd (upd H dx (.own x)) x (.ins C dx [])) (fun v H2 => v = .non ∧ Q (.ref x) H2) E) :
    wpAny (model X.prog X.w) X.A (call (.ref C) us) (EP X pins σ Q) X.xe s := by
  have hq := h (s.heap.objs.size + 1) s.heap.objs.size (I.hok.fresh (Nat.le_succ _)) (I.hok.fresh (Nat.le_refl _)) (Nat.ne_of_lt (Nat.lt_succ_self _))
  have I2 := Inv.made (C := C) I
  have r2 : Vals (V.ref (s.heap.objs.size + 1) :: (vs ++ dvs)) (Value.ref (s.heap.objs.size + 1) :: (us ++ ds)) := .cons rfl (r.append hd)
  have hl : (Value.ref (s.heap.objs.size + 1) :: us ++ ds).length = ps.length := by
    have e := r2.length
    rw [F.len _ _ _ _ hq] at e
    exact e.symm
  refine wpAny_call (make_map (f := f) I.kIn M.makes M.init (beq_iff_eq.mp M.fn) (codeAny_mono (F.run _ X.stack _ _ ⟨Value.ref (s.heap.objs.size + 1) :: us, []⟩ (Value.ref (s.heap.objs.size + 1) :: (us ++ ds)) _ _ E (hr.make C us [])
    (I2.env0.make C us []) (hb _ (Value.ref (s.heap.objs.size + 1) :: us) I2.kIn hl) r2 hq) fun r s' hq' => ?_))
  cases r with
  | error e => exact hx pins σ _ _ e s' I2 hq'
  | ok fl =>
    cases fl with
    | ret u =>
      obtain ⟨v, H', I3, rv, ev, q3⟩ := I2.after hq'
      subst ev
      exact ⟨rv, ⟨V.ref (s.heap.objs.size + 1), H', I3, rfl, q3⟩⟩
    | next => exact False.elim hq'
    | brk => exact False.elim hq'
    | cont => exact False.elim hq'
theorem pe_make (M : Mk X.K C f) (F : FnOk X.prog X.w X.K X.mg X.base CX k f fd ps sp) (hr : Room (k + 1) X.A) (hg : Gl X x) (hm : X.mg x = some (.ref C)) (hb : Binds X.K fd ps ds) (hd : Vals dvs ds) (hx : Passes CX X E)
    (ha : PA X (e :: es) t) (hdb : (x == ("__debug__" : Str)) = false := by decide) (he : starEach (e :: es) X.env = (false, eval e X.env) :: starEach es X.env := by rfl) (hpl : (backTo pos (starEach es X.env)).any (·.1) = false := by rfl) :
    PE X (.Call (.Name x p) (e :: es) [] pos) (tMake C sp dvs E t) := by
  intro pins s σ H Q I h
  refine wpAny_Call_Name_kw (ld_glob I hg hm ?_ hdb)
  refine PySem.W.callWith_K (h₀ := X.base) I.ok.mod.kin M.kp (thn (ha pos pins s σ H _ I h) fun us s1 ⟨vs, H1, I1, r, q⟩ => ⟨I1.kIn, ?_⟩) he hpl
  exact run_make M F hr hb hd hx I1 r q
end
section
variable {X : Cx} {CX : CXT} {k : Nat} {f C : Addr} {fd : FuncData} {ps ks : List Str} {sp : Sp} {E : XK} {x m : Str} {p pos apos kpos : Pos} {e o : Expr} {es : List Expr} {kws : List Keyword} {te ta : TE} {t tk : TA} {nm : Option Str}
structure KBinds (K : PySem.W.Frag) (fd : FuncData) (ps ks : List Str) (g : List Value → List Value → List Value) (gV : List V → List V → List V) : Prop where
  to : ∀ (s : Shared) (us ws : List Value), K.In s.heap → (g us ws).length = ps.length → BindsTo s fd ⟨us, ks.zip ws⟩ (ps.zip (g us ws))
  rel : ∀ {vs : List V} {us : List Value} {zs : List V} {ws : List Value}, Vals vs us → Vals zs ws → Vals (gV vs zs) (g us ws)
variable {g : List Value → List Value → List Value} {gV : List V → List V → List V}
end
structure FnScope (N P : List Str) (sc : Scope) : Prop where
  kind : sc.kind = .function
  co : sc.isCoroutine = false
  gen : sc.isGenerator = false
  nd : N.Nodup
  pre : N.take P.length = P
  par : ∀ x ∈ P, sc.names.lookup x = some .local ∨ sc.names.lookup x = some .cell
  nofree : ∀ y ∈ sc.names, y.2 ≠ .free
theorem bindL_out {kindOf : Str → Option NameKind} {x : Str} : ∀ {binds : List (Str × Value)} {m : Str → Option Value}, (∀ v, (x, v) ∉ binds) → bindL kindOf binds m x = m x
  | [], _, _ => rfl
  | (n, v) :: r, m, h => by
    unfold bindL
    rw [bindL_out fun w hw => h w (List.mem_cons_of_mem _ hw)]
    split
    · have : x ≠ n := by rintro rfl; exact h v List.mem_cons_self
      simp [this]
    · rfl
theorem bindC_out {kindOf : Str → Option NameKind} {x : Str} : ∀ {binds : List (Str × Value)} {m : Str → Option Value}, (∀ v, (x, v) ∉ binds) → bindC kindOf binds m x = m x
  | [], _, _ => rfl
  | (n, v) :: r, m, h => by
    unfold bindC
    rw [bindC_out fun w hw => h w (List.mem_cons_of_mem _ hw)]
    split
    · rfl
    · have : x ≠ n := by rintro rfl; exact h v List.mem_cons_self
      simp [this]
theorem bindL_get {kindOf : Str → Option NameKind} {x : Str} {v : Value} : ∀ {P : List Str} {vs : List Value} {i : Nat} {m : Str → Option Value}, P.Nodup → P[i]? = some x → vs[i]? = some v → kindOf x = some .local →
    bindL kindOf (P.zip vs) m x = some v
  | [], _, _, _, _, h, _, _ => by simp at h
  | _ :: _, [], _, _, _, _, h, _ => by simp at h
  | p :: P, w :: vs, 0, m, nd, h1, h2, hk => by
    simp at h1 h2; subst h1; subst h2
    show bindL kindOf ((p, w) :: P.zip vs) m p = _
    unfold bindL
    rw [bindL_out fun v hv => (List.nodup_cons.mp nd).1 (List.of_mem_zip hv).1, if_pos hk]
    simp
  | p :: P, w :: vs, i + 1, m, nd, h1, h2, hk => by
    show bindL kindOf ((p, w) :: P.zip vs) m x = _
    unfold bindL
    exact bindL_get (i := i) (List.nodup_cons.mp nd).2 (by simpa using h1) (by simpa using h2) hk
theorem bindC_get {kindOf : Str → Option NameKind} {x : Str} {v : Value} : ∀ {P : List Str} {vs : List Value} {i : Nat} {m : Str → Option Value}, P.Nodup → P[i]? = some x → vs[i]? = some v → kindOf x ≠ some .local →
    bindC kindOf (P.zip vs) m x = some v
  | [], _, _, _, _, h, _, _ => by simp at h
  | _ :: _, [], _, _, _, _, h, _ => by simp at h
  | p :: P, w :: vs, 0, m, nd, h1, h2, hk => by
    simp at h1 h2; subst h1; subst h2
    show bindC kindOf ((p, w) :: P.zip vs) m p = _
    unfold bindC
    rw [bindC_out fun v hv => (List.nodup_cons.mp nd).1 (List.of_mem_zip hv).1, if_neg hk]
    simp
  | p :: P, w :: vs, i + 1, m, nd, h1, h2, hk => by
    show bindC kindOf ((p, w) :: P.zip vs) m x = _
    unfold bindC
    exact bindC_get (i := i) (List.nodup_cons.mp nd).2 (by simpa using h1) (by simpa using h2) hk
noncomputable def start (N : List Str) (vs : List V) : St := vs.map some ++ List.replicate (N.length - vs.length) none
noncomputable def cxOf (CX : CXT) (P : Program) (w : World) (K : PySem.W.Frag) (mg : Str → Option Value) (base : Heap) (N : List Str) (qual : Str) (scope : Scope) (f : Addr) (cd : Value) (A : Around) (outer : List Env) (s : Shared) (H : Hp) (E : XK) : Cx where
  prog := P
  w := w
  K := K
  mg := mg
  base := base
  A := A.deeper (envOfC qual scope s.heap.objs.size f cd)
  N := N
  s₀ := s
  H₀ := H
  env := envOfC qual scope s.heap.objs.size f cd
  outer := outer
  stack := envOfC qual scope s.heap.objs.size f cd :: outer
  ex := []
  calm := true
  fn := fun _ => true
  pn := []
  xe := fun e s' => wpAny (model P w) (A.deeper (envOfC qual scope s.heap.objs.size f cd)) (leaving (envOfC qual scope s.heap.objs.size f cd) e) (fun _ s'' => CX outer H s E e s'') (fun e' s'' => CX outer H s E e' s'') s'
theorem cell_has {sc : Scope} {n : Nat} {x : Str} (h : sc.names.lookup x = some .cell) : ∃ c, (cellsFrom n sc.names []).lookup x = some c := by
  have q := PySem.W.cellsFrom_some sc.names n [] (.inl h)
  exact Option.isSome_iff_exists.mp q
theorem inv_start {CX : CXT} {P : Program} {w : World} {K : PySem.W.Frag} {mg : Str → Option Value} {base : Heap} {N ps : List Str} {qual : Str} {scope : Scope} {f : Addr} {cd : Value} {A : Around} {outer : List Env} {s s1 : Shared} {H : Hp} {E : XK} {us : List Value} {vs : List V}
    (S : FnScope N ps scope) (hd : A.handled = none) (e0 : Env0 P w K mg base A outer s H) (hl : vs.length = ps.length) (r : Vals vs us)
    (x : InCallC s s.heap.objs.size (bindL (envOfC qual scope s.heap.objs.size f cd).kindOf (ps.zip us) fun _ => none) (cellsFrom (s.heap.objs.size + 1) scope.names []) (bindC (envOfC qual scope s.heap.objs.size f cd).kindOf (ps.zip us) fun _ => none) s1) :
    Inv (cxOf CX P w K mg base N qual scope f cd A outer s H E) [] (start N vs) H s1 := by
  have hpl : ps.length ≤ N.length := by have := congrArg List.length S.pre; rw [List.length_take] at this; omega
  obtain ⟨h1, tk, rfl, hk⟩ := x.done
  have noA : ∀ b : Addr, b ∉ (cxOf CX P w K mg base N qual scope f cd A outer s H E).ex := fun b z => absurd (show b ∈ ([] : List Addr) from z) (by simp)
  refine ⟨⟨e0.mod, S.kind, rfl, rfl, Nat.le_refl _, fun y z c h1 h2 => ?_, fun y hy => ?_, fun y c _ h => ?_, fun _ => hd, Around.frames_deeper e0.frames, .inr ⟨rfl, rfl⟩, fun b z => absurd z (noA b), e0.bs, e0.bsz, fun b _ _ => noA b, fun b z => absurd z (noA b), e0.funs, e0.frf⟩,
    rfl, e0.bare, Un.kept hk, ⟨_, x.toInCall.ns, fun i y v h1 h2 h3 => ?_⟩, fun y c h => ⟨_, x.cell y c h⟩, e0.hok.fresh (Nat.le_refl _), fun y c h => ?_, fun p hp => absurd (show p ∈ ([] : List (Addr × Obj)) from hp) (by simp), e0.hok.kept hk, ?_⟩
  · exact name_of_addr x.apart (PySem.mem_of_lookup h1) (PySem.mem_of_lookup h2)
  · have hy : scope.names.lookup y = some .cell ∨ scope.names.lookup y = some .free := hy
    rcases hy with hy | hy
    · exact cell_has hy
    · exact absurd rfl (S.nofree _ (PySem.mem_of_lookup hy))
  · exact Nat.le_of_lt (x.above y c (PySem.mem_of_lookup h))
  · have hi : i < vs.length := by
      unfold start at h2
      by_cases hi : i < vs.length
      · exact hi
      · rw [List.getElem?_append_right (by simpa using hi)] at h2
        rw [List.getElem?_replicate] at h2
        split at h2 <;> cases h2
    have ha : vs[i]? = some v := by
      unfold start at h2
      rw [List.getElem?_append_left (by simpa using hi), List.getElem?_map] at h2
      cases e : vs[i]? with
      | none => rw [e] at h2; cases h2
      | some a => rw [e] at h2; cases h2; rfl
    obtain ⟨u, hu, rv⟩ := r.get ha
    have hp : ps[i]? = some y := by
      rw [← S.pre, List.getElem?_take_of_lt (by omega)]; exact h1
    have ndP : ps.Nodup := by rw [← S.pre]; exact S.nd.sublist (List.take_sublist _ _)
    refine ⟨u, rv, ?_⟩
    rcases S.par y (List.mem_of_getElem? hp) with k | k
    · exact .inl ⟨k, bindL_get ndP hp hu k⟩
    · obtain ⟨c, e⟩ := cell_has (n := s.heap.objs.size + 1) k
      refine .inr ⟨.inl k, c, e, ?_⟩
      have q := x.cell y c e
      rw [bindC_get ndP hp hu (by show scope.names.lookup y ≠ _; rw [k]; decide)] at q
      exact q
  · exact e0.hok.fresh (Nat.le_of_lt (x.above y c (PySem.mem_of_lookup h)))
  · unfold start
    show _ = N.length
    rw [List.length_append, List.length_map, List.length_replicate]
    omega
theorem fn_of {CX : CXT} {P : Program} {w : World} {K : PySem.W.Frag} {mg : Str → Option Value} {base : Heap} {k : Nat} {f : Addr} {name qual : Str} {params : Arguments} {body : List Stmt} {scope : Scope} {dV kV doc pm cdv ct oc : Value} {an od : Option Addr}
    {osl : Array (Option Value)} {N ps : List Str} {sp : Sp} (lk : K.lookup f = some ⟨oc, od, .func (PySem.W.fnOf name qual params body scope dV kV doc pm an cdv ct), osl⟩) (hcd : PySem.W.codeIn K cdv qual = true) (S : FnScope N ps scope)
    (len : ∀ vs H Q E, sp vs H Q E → vs.length = ps.length)
    (hbody : ∀ (A : Around) (outer : List Env) (s : Shared) (H : Hp) (vs : List V) (Q : VK) (E : XK), Room k (A.deeper (envOfC qual scope s.heap.objs.size f cdv)) → sp vs H Q E →
      ∃ t, PSs (cxOf CX P w K mg base N qual scope f cdv A outer s H E) body t ∧ t { nx := fun _ H' => Q .non H', rt := Q } (start N vs) H) :
    FnOk P w K mg base CX (k + 1) f (PySem.W.fnOf name qual params body scope dV kV doc pm an cdv ct) ps sp := by
  refine ⟨len, fun A outer s H args us vs Q E hr e0 hb r hsp => ?_⟩
  have hl := len _ _ _ _ hsp
  have KX : K.In s.heap := e0.mod.kin.keeps fun b o e => (e0.bs b o e).1
  have lim : s.heap.NoLimit := e0.mod.nolimit.keeps fun b o e => (e0.bs b o e).1
  have hkind : ∀ y ∈ ps.zip us, scope.names.lookup y.1 = some .local ∨ (scope.names.lookup y.1 = some .cell ∧ ((cellsFrom (s.heap.objs.size + 1) scope.names []).lookup y.1).isSome = true) := fun ⟨n, v⟩ hy => by
    rcases S.par n (List.of_mem_zip hy).1 with q | q
    · exact .inl q
    · exact .inr ⟨q, PySem.W.cellsFrom_some _ _ _ (.inl q)⟩
  refine codeAny_call_function hr.depth (KX _ _ lk) rfl S.co S.gen rfl (PySem.W.codeRec_of KX hcd) (hb _ _ _ _ ?_)
  refine wpAny_newFunctionEnv_cells S.kind hkind fun env he s1 x => ?_
  subst he
  refine ⟨lim.keeps x.toInCall.keep, codeAny_func ?_⟩
  obtain ⟨t, ht, hq⟩ := hbody A outer s H vs Q E (hr.deeper _) hsp
  have I : Inv (cxOf CX P w K mg base N qual scope f cdv A outer s H E) [] (start N vs) H s1 := inv_start S hr.hd e0 hl r x
  refine wpAny_mono (ht [] s1 (start N vs) H _ I hq) (fun fl s' hs => ?_) fun e s' hs => hs
  have fin : ∀ {σ' : St} {H' : Hp} {v : V} {u : Value}, Inv (cxOf CX P w K mg base N qual scope f cdv A outer s H E) [] σ' H' s' → RelV v u → Q v H' → CE outer P w H s Q u s' :=
    fun {σ' H' v u} J rv q => ⟨v, H', J.os, J.bare, J.base, J.hok, rv, q⟩
  cases fl with
  | ret u =>
    obtain ⟨v, σ', H', J, rv, q⟩ := hs
    exact fin J rv q
  | next =>
    obtain ⟨σ', H', J, q⟩ := hs
    exact fin (v := V.non) (u := Value.none) J rfl q
  | brk =>
    obtain ⟨_, _, _, q⟩ := hs
    exact False.elim q
  | cont =>
    obtain ⟨_, _, _, q⟩ := hs
    exact False.elim q
end L2
namespace L2
open PySem PySem.Spec PyProof.Rows
section
variable {X : Cx} {x : Str} {p pos : Pos} {e : Expr} {es : List Expr} {t : TA} {id T : String} {r : List V → Hp → VK → Prop}
noncomputable def tCB (r : List V → Hp → VK → Prop) (t : TA) : TE := fun σ H Q => t σ H fun vs H1 => r vs H1 Q
theorem pe_callB (hc : CallR X (.builtin id) r) (hg : Gl X x) (hm : X.mg x = none) (hv : bootBuiltins x = some (.builtin id)) (ha : PA X (e :: es) t) (hn : x ≠ "__name__" := by decide) (hdb : (x == ("__debug__" : Str)) = false := by decide)
    (he : starEach (e :: es) X.env = (false, eval e X.env) :: starEach es X.env := by rfl) (hpl : (backTo pos (starEach es X.env)).any (·.1) = false := by rfl) : PE X (.Call (.Name x p) (e :: es) [] pos) (tCB r t) := by
  intro pins s σ H Q I h
  refine wpAny_Call_Name_kw (ld_blt I hg hm hv ?_ hn hdb)
  exact PyProof.Rows.callWith_builtin1 (thn (ha pos pins s σ H _ I h) fun us s1 ⟨vs, H1, I1, r1, q1⟩ => hc pins s1 σ H1 vs us Q I1 r1 q1) he hpl
theorem pe_callTy (hc : CallR X (.type T) r) (hg : Gl X x) (hm : X.mg x = none) (hv : bootBuiltins x = some (.type T)) (ha : PA X (e :: es) t) (hn : x ≠ "__name__" := by decide) (hdb : (x == ("__debug__" : Str)) = false := by decide)
    (he : starEach (e :: es) X.env = (false, eval e X.env) :: starEach es X.env := by rfl) (hpl : (backTo pos (starEach es X.env)).any (·.1) = false := by rfl) : PE X (.Call (.Name x p) (e :: es) [] pos) (tCB r t) := by
  intro pins s σ H Q I h
  refine wpAny_Call_Name_kw (ld_blt I hg hm hv ?_ hn hdb)
  exact PyProof.Rows.callWith_type1 (thn (ha pos pins s σ H _ I h) fun us s1 ⟨vs, H1, I1, r1, q1⟩ => hc pins s1 σ H1 vs us Q I1 r1 q1) he hpl
end
end L2
namespace HT
open PySem PyProof.Rows
section
open PySem.SeqAt
open PySem.AutoSeq1 (wpAny_loadPart')
open PySem.MeetsSeq PySem.MeetsSeq2 PySem.MeetsSeq3
end
section
variable {prog : Program} {w : World} {A : Around} {E : Value → Shared → Prop} {s : Shared}
noncomputable def sIx (n d : Nat) : Option Int → Nat
  | none => d
  | some v => if v < 0 then (v + (n : Int)).toNat else min v.toNat n
theorem sIx_le (n d : Nat) (hd : d ≤ n) (o : Option Int) : sIx n d o ≤ n := by
  cases o with
  | none => exact hd
  | some v =>
    show (if v < 0 then (v + (n : Int)).toNat else min v.toNat n) ≤ n
    by_cases hv : v < 0
    · rw [if_pos hv]; omega
    · rw [if_neg hv]; exact Nat.min_le_right _ _
theorem clip_eq (v : Int) (n d : Nat) : (if v < 0 then max (v + (n : Int)) 0 else min v (n : Int)) = ((sIx n d (some v) : Nat) : Int) := by
  show (if v < 0 then max (v + (n : Int)) 0 else min v (n : Int)) = (((if v < 0 then (v + (n : Int)).toNat else min v.toNat n) : Nat) : Int)
  by_cases hv : v < 0
  · simp only [if_pos hv]; omega
  · simp only [if_neg hv]; omega
theorem adjust_gen (lo hi : Option Int) (n : Nat) : Builtin.Slice.sliceAdjust lo hi 1 (n : Int) = (((sIx n 0 lo : Nat) : Int), ((sIx n n hi : Nat) : Int)) := by
  have h1 : ¬ ((1 : Int) < 0) := by omega
  unfold Builtin.Slice.sliceAdjust
  simp only [h1, if_false]
  refine Prod.ext ?_ ?_
  · cases lo with
    | none => rfl
    | some v => exact clip_eq v n 0
  · cases hi with
    | none => rfl
    | some v => exact clip_eq v n n
theorem places_gen (i j : Nat) : Builtin.Slice.slicePlaces (i : Int) (j : Int) 1 = j - i := by
  unfold Builtin.Slice.slicePlaces
  have h1 : (1 : Int) > 0 := by omega
  simp only [h1, if_true, Int.ediv_one]
  split <;> omega
theorem slicePart_ {v : Value} {o : Option Int} {Q : Option Int → Shared → Prop} (p : IsPart v o) (h : Q o s) : wpAny (model prog w) A (Builtin.Slice.slicePartIndex v) Q E s := by
  cases p with
  | none => exact slicePart_none h
  | int i t => exact slicePart_int h
theorem sliceApplied_gen {sl : Addr} {vl vu : Value} {lo hi : Option Int} {n : Nat} {Q : Int × Int × Nat → Shared → Prop} (hs : s.heap.IsSliceOf sl vl vu .none) (pl : IsPart vl lo) (pu : IsPart vu hi)
    (h : Q (((sIx n 0 lo : Nat) : Int), 1, sIx n n hi - sIx n 0 lo) s) : wpAny (model prog w) A (Builtin.Slice.sliceApplied (.ref sl) (pure (n : Int))) Q E s := by
  obtain ⟨os, hos, hcs, hds⟩ := id hs
  unfold Builtin.Slice.sliceApplied Builtin.Slice.sliceFields
  refine wpAny_bind (wpAny_bind (wpAny_field hos hds (x := vl) rfl (wpAny_bind (wpAny_field hos hds (x := vu) rfl (wpAny_bind (wpAny_field hos hds (x := .none) rfl (wpAny_pure ?_)))))))
  refine wpAny_bind (slicePart_none ?_)
  show wpAny _ _ (if ((1 : Int) == 0) = true then _ else _) _ _ s
  rw [if_neg (by decide)]
  refine wpAny_bind (slicePart_ pl (wpAny_bind (slicePart_ pu (wpAny_bind (wpAny_pure ?_)))))
  show wpAny _ _ (match Builtin.Slice.sliceAdjust lo hi 1 (n : Int) with | (lo, hi) => pure (lo, (1 : Int), Builtin.Slice.slicePlaces lo hi 1)) _ _ s
  rw [adjust_gen lo hi n]
  show wpAny _ _ (pure (((sIx n 0 lo : Nat) : Int), (1 : Int), Builtin.Slice.slicePlaces ((sIx n 0 lo : Nat) : Int) ((sIx n n hi : Nat) : Int) 1)) _ _ s
  rw [places_gen]
  exact wpAny_pure h
theorem pick_gen (xs : Array Value) (i k : Nat) : ((List.range k).filterMap fun (m : Nat) => xs[((i : Int) + (m : Int) * 1).toNat]?).toArray = ((xs.toList.drop i).take k).toArray := by
  have e : (fun (m : Nat) => xs[((i : Int) + (m : Int) * 1).toNat]?) = fun m => xs[i + m]? := by
    funext m
    have : ((i : Int) + (m : Int) * 1).toNat = i + m := by omega
    rw [this]
  rw [e]
  have := pick_run xs i k
  rw [List.filterMap_map] at this
  have e2 : ((fun x => xs[x]?) ∘ fun x => i + x) = fun m => xs[i + m]? := rfl
  rw [e2] at this
  rw [this]
theorem getItem_tuple_cut {t sl : Addr} {items : Array Value} {vl vu : Value} {lo hi : Option Int} {Q : Value → Shared → Prop} (ht : IsTup s.heap t items) (hs : s.heap.IsSliceOf sl vl vu .none) (pl : IsPart vl lo) (pu : IsPart vu hi)
    (hw : ¬ (sIx items.size 0 lo = 0 ∧ sIx items.size items.size hi = items.size))
    (h : Q (.ref s.heap.objs.size) { s with heap := s.heap.push { cls := .type "tuple", data := .seq ((items.toList.drop (sIx items.size 0 lo)).take (sIx items.size items.size hi - sIx items.size 0 lo)).toArray } })
    (hsz : items.size ≤ sizeLine) : wpAny (model prog w) A (getItem (.ref t) (.ref sl)) Q E s := by
  have htake : sizeOk (.seq ((items.toList.drop (sIx items.size 0 lo)).take (sIx items.size items.size hi - sIx items.size 0 lo)).toArray) := by
    show ((items.toList.drop (sIx items.size 0 lo)).take (sIx items.size items.size hi - sIx items.size 0 lo)).toArray.size ≤ sizeLine
    rw [List.size_toArray, List.length_take, List.length_drop, Array.length_toList]
    omega
  have hj : sIx items.size items.size hi ≤ items.size := sIx_le _ _ (Nat.le_refl _) hi
  obtain ⟨os, hos, hcs, hds⟩ := id hs
  have hTs : s.TypeIs (.ref sl) "slice" := ⟨os, hos, hcs⟩
  unfold getItem
  try with_reducible refine wpAny_holding ?_
  first | refine wpAny_bind (wpAny_pure ?_) | skip
  refine wpAny_bind (wpAny_sequenceKey ht.typeIs (by decide) ?_)
  refine wpAny_bind (wpAny_callSpecial?_slot (name := Str.ofString "__getitem__") ht.typeIs PyProof.Rows.slot_tuple_getitem
    (wpAny_call_entry PyProof.Rows.slot_tuple_getitem ht.typeIs entry_tuple_getitem ?_ (args_tuple_getitem _ _)))
  show wpAny _ _ (Builtin.Tuple.tupleItemsOf (.ref t) >>= _) _ _ s
  refine wpAny_bind (tupleItemsOf_ ht ?_)
  refine wpAny_bind (wpAny_typeOf hTs ?_)
  rw [if_pos (by decide)]
  refine wpAny_bind (sliceApplied_gen hs pl pu ?_)
  have hno : ¬ ((((sIx items.size 0 lo : Nat) : Int) == 0 && (1 : Int) == 1 && (sIx items.size items.size hi - sIx items.size 0 lo) == items.size) = true) := by
    intro q
    rw [Bool.and_eq_true, Bool.and_eq_true] at q
    have q1 : ((sIx items.size 0 lo : Nat) : Int) = 0 := eq_of_beq q.1.1
    have q2 : sIx items.size items.size hi - sIx items.size 0 lo = items.size := eq_of_beq q.2
    exact hw ⟨by omega, by omega⟩
  show wpAny _ _ (if (((sIx items.size 0 lo : Nat) : Int) == 0 && (1 : Int) == 1 && (sIx items.size items.size hi - sIx items.size 0 lo) == items.size) = true then _ else _) _ _ s
  rw [if_neg hno, pick_gen]
  first
    | exact wpAny_bind (m := Builtin.Tuple.tupleExact _) (wpAny_newObj_type (wpAny_pure ⟨_, rfl, wpAny_pure h⟩) htake)
    | exact wpAny_bind (m := Builtin.Tuple.tupleExact _) (wpAny_newObj_type (wpAny_bind (wpAny_pure (wpAny_pure ⟨_, rfl, wpAny_pure h⟩))) htake)
    | exact wpAny_bind (wpAny_bind (m := Builtin.Tuple.tupleExact _) (wpAny_newObj_type (wpAny_pure (wpAny_pure ⟨_, rfl, wpAny_pure h⟩)) htake))
    | exact wpAny_bind (wpAny_bind (m := Builtin.Tuple.tupleExact _) (wpAny_newObj_type (wpAny_pure ⟨_, rfl, wpAny_pure h⟩) htake))
end
end HT
namespace L2
open PySem PySem.Spec PyProof.Rows
noncomputable abbrev TO := St → Hp → (Option Int → Hp → Prop) → Prop
noncomputable def PO (X : Cx) (e : Option Expr) (t : TO) : Prop :=
  ∀ (pins : List (Addr × Obj)) (s : Shared) (σ : St) (H : Hp) (Q : Option Int → Hp → Prop), Inv X pins σ H s → t σ H Q →
    wpAny (model X.prog X.w) X.A (evalPart e X.env) (fun u s' => ∃ o H', Inv X pins σ H' s' ∧ IsPart u o ∧ Q o H') X.xe s
noncomputable def tNoPart : TO := fun _ H Q => Q none H
noncomputable def tPart (t : TE) : TO := fun σ H Q => t σ H fun x H1 => ∃ i, x = .int i ∧ Q (some i) H1
section
variable {X : Cx} {e : Expr} {te : TE} {lo hi : Option Expr} {tl th : TO} {pos p2 : Pos}
theorem po_none : PO X none tNoPart := by
  intro pins s σ H Q I h
  rw [evalPart_none]
  exact wpAny_pure ⟨none, H, I, .none, h⟩
theorem po_some (h : PE X e te) : PO X (some e) (tPart te) := by
  intro pins s σ H Q I hw
  rw [evalPart_some]
  refine thn (h pins s σ H _ I hw) fun u s1 ⟨x, H1, I1, r1, q1⟩ => ?_
  obtain ⟨i, rfl, q⟩ := q1
  obtain ⟨t, rfl⟩ := r1
  exact ⟨some i, H1, I1, .int i t, q⟩
noncomputable def SlR (X : Cx) (r : V → Option Int → Option Int → Hp → VK → Prop) : Prop :=
  ∀ (pins : List (Addr × Obj)) (s : Shared) (σ : St) (H : Hp) (x : V) (v vl vu : Value) (lo hi : Option Int) (sl : Addr) (Q : VK), Inv X pins σ H s → RelV x v → s.heap.IsSliceOf sl vl vu .none → IsPart vl lo → IsPart vu hi → r x lo hi H Q →
    ∃ T id, typeLookup (.type T) "__getitem__" = pure (some (.builtin id)) ∧ s.TypeIs v T ∧ wpAny (model X.prog X.w) X.A (getItem v (.ref sl)) (EP X pins σ Q) X.xe s
noncomputable def tSl (r : V → Option Int → Option Int → Hp → VK → Prop) (te : TE) (tl th : TO) : TE := fun σ H Q => te σ H fun x H1 => tl σ H1 fun l H2 => th σ H2 fun u H3 => r x l u H3 Q
theorem pe_slice {r : V → Option Int → Option Int → Hp → VK → Prop} (hr : SlR X r) (he : PE X e te) (hl : PO X lo tl) (hu : PO X hi th) : PE X (.Subscript e (.Slice lo hi none p2) pos) (tSl r te tl th) := by
  intro pins s σ H Q I h
  refine Subscript_ (thn (he pins s σ H _ I h) fun v s1 ⟨x, H1, I1, r1, q1⟩ => ?_)
  refine wpAny_Slice (thn (hl pins s1 σ H1 _ I1 q1) fun vl s2 ⟨l, H2, I2, pl, q2⟩ => thn (hu pins s2 σ H2 _ I2 q2) fun vu s3 ⟨u, H3, I3, pu, q3⟩ => ?_)
  rw [evalPart_none]
  refine wpAny_pure ?_
  have I4 : Inv X pins σ H3 { s3 with heap := s3.heap.push { cls := .type "slice", data := .fields #[vl, vu, .none] } } := I3.kept (t' := s3.toks) fun b ob q => Heap.get?_push_of_some _ q
  obtain ⟨T, id, hT, ht, hg⟩ := hr pins { s3 with heap := s3.heap.push { cls := .type "slice", data := .fields #[vl, vu, .none] } } σ H3 x v vl vu l u s3.heap.objs.size Q I4 r1 (Heap.IsSliceOf.new ..) pl pu q3
  show wpAny (model X.prog X.w) X.A (subscriptTail e (.Slice lo hi none p2) v (.ref s3.heap.objs.size)) (EP X pins σ Q) X.xe { s3 with heap := s3.heap.push { cls := .type "slice", data := .fields #[vl, vu, .none] } }
  exact tail_any (ops := [.ref s3.heap.objs.size, v]) ht hT hg (by with_unfolding_all rfl)
noncomputable def cutV (xs : List V) (lo hi : Option Int) : List V := (xs.drop (HT.sIx xs.length 0 lo)).take (HT.sIx xs.length xs.length hi - HT.sIx xs.length 0 lo)
theorem cutV_length (xs : List V) (lo hi : Option Int) : (cutV xs lo hi).length ≤ xs.length := by
  unfold cutV
  rw [List.length_take, List.length_drop]
  omega
noncomputable def rSlT (K : PySem.W.Frag) : V → Option Int → Option Int → Hp → VK → Prop := fun x lo hi H Q => ∃ a xs, x = .ref a ∧ SqT K H a xs ∧
  ¬ (HT.sIx xs.length 0 lo = 0 ∧ HT.sIx xs.length xs.length hi = xs.length) ∧ ∀ p, H p = none → Q (.ref p) (upd H p (.tup (cutV xs lo hi)))
theorem sl_tup : SlR X (rSlT X.K) := by
  intro pins s σ H x v vl vu lo hi sl Q I rx hs pl pu h
  obtain ⟨a, xs, rfl, hx, hw, q⟩ := h
  cases rx
  obtain ⟨its, r, ht, hz⟩ := I.tuple hx
  have hlen : its.toArray.size = xs.length := by rw [List.size_toArray]; exact r.length.symm
  refine ⟨"tuple", _, PyProof.Rows.slot_tuple_getitem.lookup, ht.typeIs, ?_⟩
  refine HT.getItem_tuple_cut ht hs pl pu (by rw [hlen]; exact hw) ?_ (by rw [hlen]; exact hz)
  rw [hlen]
  refine ⟨.ref s.heap.objs.size, _, I.laid (t' := s.toks) (o := .tup (cutV xs lo hi)) (fun b ob q => Heap.get?_push_of_some _ q) (Nat.le_refl _) ?_, rfl, q _ (I.hok.fresh (Nat.le_refl _))⟩
  exact ⟨Nat.le_trans (cutV_length xs lo hi) hz, _, (r.drop (HT.sIx xs.length 0 lo)).take (HT.sIx xs.length xs.length hi - HT.sIx xs.length 0 lo), IsTup.new _ _⟩
end
end L2
namespace L2
open PySem PySem.Spec PyProof.Rows
noncomputable def ixN (n : Nat) (i : Int) : Option Nat := if 0 ≤ i then (if i < n then some i.toNat else none) else if -(n : Int) ≤ i then some (i + n).toNat else none
noncomputable def atI {α : Type} (xs : List α) (i : Int) : Option α := (ixN xs.length i).bind fun j => xs[j]?
theorem ixN_seq {n : Nat} {i : Int} {j : Nat} (h : ixN n i = some j) : seqIndex? i n = some j ∧ j < n ∧ -(n : Int) ≤ i ∧ i < n := by
  unfold ixN at h
  by_cases h0 : 0 ≤ i
  · rw [if_pos h0] at h
    by_cases h1 : i < n
    · rw [if_pos h1] at h
      have e : i.toNat = j := Option.some.inj h
      exact ⟨by rw [seqIndex_of h0 h1, e], by omega, by omega, h1⟩
    · rw [if_neg h1] at h; cases h
  · rw [if_neg h0] at h
    by_cases h1 : -(n : Int) ≤ i
    · rw [if_pos h1] at h
      have e : (i + n).toNat = j := Option.some.inj h
      exact ⟨by rw [seqIndex_neg (by omega) h1, e], by omega, h1, by omega⟩
    · rw [if_neg h1] at h; cases h
theorem atI_get {α : Type} {xs : List α} {i : Int} {v : α} (h : atI xs i = some v) : ∃ j, seqIndex? i xs.length = some j ∧ xs[j]? = some v ∧ j < xs.length ∧ -(xs.length : Int) ≤ i ∧ i < xs.length := by
  unfold atI at h
  cases e : ixN xs.length i with
  | none => rw [e] at h; cases h
  | some j =>
    rw [e] at h
    obtain ⟨h1, h2, h3, h4⟩ := ixN_seq e
    exact ⟨j, h1, h, h2, h3, h4⟩
theorem atI_nat {α : Type} {xs : List α} {j : Nat} {v : α} (h : xs[j]? = some v) : atI xs (j : Int) = some v := by
  have hj : j < xs.length := (List.getElem?_eq_some_iff.mp h).1
  have e : ixN xs.length (j : Int) = some j := by
    unfold ixN
    rw [if_pos (by omega), if_pos (by omega)]; simp
  unfold atI; rw [e]; exact h
theorem atI_last {α : Type} (xs : List α) (v : α) : atI (xs ++ [v]) (-1) = some v := by
  have hl : (xs ++ [v]).length = xs.length + 1 := by simp
  have e : ixN (xs ++ [v]).length (-1) = some xs.length := by
    unfold ixN
    rw [hl, if_neg (by decide), if_pos (by omega)]
    congr 1
    omega
  unfold atI
  rw [e]
  show (xs ++ [v])[xs.length]? = some v
  simp
noncomputable def PlainIx (b : Expr) : Prop := ∀ o i, subscripted b false o i = operate [o, i] (getItem o i)
noncomputable def IxR (X : Cx) (r : R2) : Prop :=
  ∀ (value slice : Expr) (pins : List (Addr × Obj)) (s : Shared) (σ : St) (H : Hp) (x y : V) (v u : Value) (Q : VK), Inv X pins σ H s → RelV x v → RelV y u → r x y H Q →
    subscripted slice false v u = operate [v, u] (getItem v u) → wpAny (model X.prog X.w) X.A (subscriptTail value slice v u) (EP X pins σ Q) X.xe s
noncomputable def MtR (X : Cx) (id : String) (r : V → List V → Hp → VK → Prop) : Prop :=
  ∀ (pins : List (Addr × Obj)) (s : Shared) (σ : St) (H : Hp) (x : V) (xs : List V) (v : Value) (us : List Value) (Q : VK), Inv X pins σ H s → RelV x v → Vals xs us → r x xs H Q →
    wpAny (model X.prog X.w) X.A (call (.builtin id) (v :: us)) (EP X pins σ Q) X.xe s
section
variable {X : Cx} {a b : Expr} {ta tb : TE} {pos : Pos}
theorem pe_ix {r : R2} (hr : IxR X r) (ha : PE X a ta) (hb : PE X b tb) (hs : PlainIx b) : PE X (.Subscript a b pos) (tOp r ta tb) := by
  intro pins s σ H Q I h
  exact Subscript_ (binT ha hb I h fun v u s2 x y H2 I2 rx ry q => hr a b pins s2 σ H2 x y v u Q I2 rx ry q (hs _ _))
noncomputable def rIxL (K : PySem.W.Frag) : R2 := fun x y H Q => ∃ p xs i v, x = .ref p ∧ y = .int i ∧ SqL K H p xs ∧ atI xs i = some v ∧ Q v H
noncomputable def rIxT (K : PySem.W.Frag) : R2 := fun x y H Q => ∃ p xs i v, x = .ref p ∧ y = .int i ∧ SqT K H p xs ∧ atI xs i = some v ∧ Q v H
theorem ix_list : IxR X (rIxL X.K) := by
  intro value slice pins s σ H x y v u Q I rx ry h hs
  obtain ⟨p, xs, i, z, rfl, rfl, hq, he, q⟩ := h
  cases rx
  obtain ⟨t, rfl⟩ := ry
  obtain ⟨its, r, pl, hz⟩ := I.list hq
  obtain ⟨j, h1, h2, h3, h4, h5⟩ := atI_get he
  obtain ⟨w, ew, rw'⟩ := r.get h2
  have hl := r.length
  have hn := line63
  have fin : EP X pins σ Q w s := ⟨z, H, I, rw', q⟩
  by_cases h0 : 0 ≤ i
  · have hj : i.toNat = j := by
      rw [seqIndex_of h0 h5] at h1
      exact Option.some.inj h1
    exact item_listR pl.isList h0 (by omega) (by rw [hj]; simpa using ew) fin hs
  · have hj : (i + (its.toArray.size : Int)).toNat = j := by
      rw [seqIndex_neg (by omega) h4] at h1
      rw [List.size_toArray, ← hl]
      exact Option.some.inj h1
    exact subscriptTail_builtinR (x := w) pl.isList.typeIs slot_list_getitem.lookup
      (wpAny_getItem_list_neg (Q := fun r s' => r = w ∧ EP X pins σ Q r s') pl.isList (by omega) (by rw [List.size_toArray] <;> omega) (by omega) (by rw [hj]; simpa using ew) ⟨rfl, fin⟩) hs
theorem ix_tup : IxR X (rIxT X.K) := by
  intro value slice pins s σ H x y v u Q I rx ry h hs
  obtain ⟨p, xs, i, z, rfl, rfl, hq, he, q⟩ := h
  cases rx
  obtain ⟨t, rfl⟩ := ry
  obtain ⟨its, r, pl, hz⟩ := I.tuple hq
  obtain ⟨j, h1, h2, h3, h4, h5⟩ := atI_get he
  obtain ⟨w, ew, rw'⟩ := r.get h2
  have hl := r.length
  have hn := line63
  have fin : EP X pins σ Q w s := ⟨z, H, I, rw', q⟩
  exact subscriptTail_builtinR (x := w) pl.typeIs slot_tuple_getitem.lookup
    (getItem_tuple (j := j) (Q := fun r s' => r = w ∧ EP X pins σ Q r s') pl (by omega) (by omega) (by rw [List.size_toArray, ← hl]; exact h1) (by simpa using ew) ⟨rfl, fin⟩) hs
theorem mapSeq_set (its : List Value) (n j : Nat) (u : Value) : Obj.mapSeq (·.setIfInBounds j u) { cls := .type "list", data := .seq its.toArray n } = { cls := .type "list", data := .seq (its.set j u).toArray n } := by
  simp [Obj.mapSeq]
theorem Inv.lst {pins : List (Addr × Obj)} {σ : St} {H : Hp} {s : Shared} {p : Addr} {xs : List V} (I : Inv X pins σ H s) (h : H p = some (.lst xs)) :
    ∃ (its : List Value) (n : Nat), Vals xs its ∧ s.heap.get? p = some { cls := .type "list", data := .seq its.toArray n } ∧ xs.length ≤ sizeLine := by
  obtain ⟨z, its, n, r, e⟩ := I.hok p _ h
  exact ⟨its, n, r, e, z⟩
theorem Inv.lstUpd {pins : List (Addr × Obj)} {σ : St} {H : Hp} {s : Shared} {p : Addr} {xs ys : List V} {its its' : List Value} {n n' : Nat} {f : Obj → Obj} (I : Inv X pins σ H s) (h : H p = some (.lst xs))
    (ho : s.heap.get? p = some { cls := .type "list", data := .seq its.toArray n }) (hf : f { cls := .type "list", data := .seq its.toArray n } = { cls := .type "list", data := .seq its'.toArray n' }) (r : Vals ys its') (hz : ys.length ≤ sizeLine) (t : Nat) :
    Inv X pins σ (upd H p (.lst ys)) { s with heap := s.heap.update p f, toks := t } := by
  have e : (s.heap.update p f).get? p = some { cls := .type "list", data := .seq its'.toArray n' } := by
    rw [Heap.get?_update_self f ho (by rw [hf] <;> rfl), hf]
  refine I.write (x := p) (e := p) (by rw [h]; trivial) (.inl rfl) (fun b u hb q => (Heap.get?_update_other _ _ (Ne.symm hb)).trans q) ⟨_, e⟩ ?_
  exact ⟨hz, its', n', r, e⟩
noncomputable def rSetL : V → V → V → Hp → (Hp → Prop) → Prop := fun o i v H Q => ∃ p xs k j, o = .ref p ∧ i = .int k ∧ H p = some (.lst xs) ∧ ixN xs.length k = some j ∧ Q (upd H p (.lst (xs.set j v)))
theorem set_list : PSet X rSetL := by
  intro pins s σ H o i v ov iv u Q I ro ri rv h
  obtain ⟨p, xs, k, j, rfl, rfl, hp, hj, q⟩ := h
  cases ro
  obtain ⟨t, rfl⟩ := ri
  obtain ⟨its, n, r, ho, hz⟩ := I.lst hp
  obtain ⟨h1, h2, h3, h4⟩ := ixN_seq hj
  have hl := r.length
  have hn := line63
  have I' : Inv X pins σ (upd H p (.lst (xs.set j v))) { s with heap := s.heap.update p (Obj.mapSeq (·.setIfInBounds j u)) } :=
    I.lstUpd hp ho (mapSeq_set its n j u) (r.set rv j) (by rw [List.length_set]; exact hz) s.toks
  by_cases h0 : 0 ≤ k
  · have hk : k.toNat = j := by
      rw [seqIndex_of h0 h4] at h1
      exact Option.some.inj h1
    exact PySem.W.ki_setAt ho h0 (by omega) (by rw [List.size_toArray, ← hl]; exact h4) (by rw [hk]; exact ⟨_, I', q⟩)
  · have hk : (k + (its.toArray.size : Int)).toNat = j := by
      rw [seqIndex_neg (by omega) h3] at h1
      rw [List.size_toArray, ← hl]
      exact Option.some.inj h1
    exact PySem.W.ki_setBack ho (by omega) (by rw [List.size_toArray, ← hl]; exact h3) (by omega) (by rw [hk]; exact ⟨_, I', q⟩)
theorem slice_bounds (lo hi : Option Int) (n : Nat) : (sliceBounds lo hi none n).1 = ((HT.sIx n 0 lo : Nat) : Int) ∧ (sliceBounds lo hi none n).2.1 = ((HT.sIx n n hi : Nat) : Int) ∧ (sliceBounds lo hi none n).2.2 = 1 := by
  refine ⟨?_, ?_, rfl⟩
  · cases lo with
    | none => simp [sliceBounds, HT.sIx]
    | some i =>
      simp only [sliceBounds, HT.sIx, Option.getD_none, show (1 : Int) > 0 by decide, if_true]
      by_cases h : i < 0
      · simp only [h, if_true] <;> omega
      · simp only [h, if_false] <;> omega
  · cases hi with
    | none => simp [sliceBounds, HT.sIx]
    | some i =>
      simp only [sliceBounds, HT.sIx, Option.getD_none, show (1 : Int) > 0 by decide, if_true]
      by_cases h : i < 0
      · simp only [h, if_true] <;> omega
      · simp only [h, if_false] <;> omega
theorem slicePick_cut (its : List Value) (lo hi : Option Int) : slicePick its.toArray lo hi none = ((its.drop (HT.sIx its.length 0 lo)).take (HT.sIx its.length its.length hi - HT.sIx its.length 0 lo)).toArray := by
  obtain ⟨h1, h2, h3⟩ := slice_bounds lo hi its.toArray.size
  unfold slicePick
  rw [h1, h2, h3]
  simp only [sliceRange_one, pick_run, List.size_toArray] <;> rfl
noncomputable def rSlL (K : PySem.W.Frag) : V → Option Int → Option Int → Hp → VK → Prop := fun x lo hi H Q => ∃ a xs, x = .ref a ∧ SqL K H a xs ∧ ∀ p, H p = none → Q (.ref p) (upd H p (.lst (cutV xs lo hi)))
theorem sl_list : SlR X (rSlL X.K) := by
  intro pins s σ H x v vl vu lo hi sl Q I rx hs pl pu h
  obtain ⟨a, xs, rfl, hx, q⟩ := h
  cases rx
  obtain ⟨its, r, ht, hz⟩ := I.list hx
  have hlen := r.length
  refine ⟨"list", _, slot_list_getitem.lookup, ht.isList.typeIs, ?_⟩
  refine wpAny_getItem_list_slice ht.isList hs pl pu .none (by simp) ?_ (by rw [List.size_toArray] <;> omega)
  rw [slicePick_cut, ← hlen]
  refine ⟨.ref s.heap.objs.size, _, I.laid (t' := s.toks) (o := .lst (cutV xs lo hi)) (fun b ob q => Heap.get?_push_of_some _ q) (Nat.le_refl _) ?_, rfl, q _ (I.hok.fresh (Nat.le_refl _))⟩
  exact ⟨Nat.le_trans (cutV_length xs lo hi) hz, _, 0, (r.drop (HT.sIx xs.length 0 lo)).take (HT.sIx xs.length xs.length hi - HT.sIx xs.length 0 lo), Heap.get?_push_size _ rfl⟩
theorem call_len_seq : CallR X (.builtin "len") (fun xs H Q => ∃ p ys, xs = [.ref p] ∧ (SqL X.K H p ys ∨ SqT X.K H p ys) ∧ Q (.int ys.length) H) := by
  intro pins s σ H xs us Q I r h
  obtain ⟨p, ys, rfl, hq, q⟩ := h
  obtain ⟨u, rfl, rx⟩ := vals1 r
  cases rx
  have hn := line63
  rcases hq with hq | hq
  · obtain ⟨its, r', pl, hz⟩ := I.list hq
    have hlen := r'.length
    exact Calls.call_len_list pl.isList (by simp only [List.size_toArray] <;> omega) ⟨.int ys.length, H, I.tok _, ⟨s.toks + 1, by rw [List.size_toArray, hlen]⟩, q⟩
  · obtain ⟨its, r', pl, hz⟩ := I.tuple hq
    have hlen := r'.length
    exact len_tuple pl (by simp only [List.size_toArray] <;> omega) ⟨.int ys.length, H, I.tok _, ⟨s.toks + 1, by rw [List.size_toArray, hlen]⟩, q⟩
theorem call_list_of : CallR X (.type "list") (fun xs H Q => ∃ p ys, xs = [.ref p] ∧ (SqL X.K H p ys ∨ SqT X.K H p ys) ∧ ∀ l, H l = none → Q (.ref l) (upd H l (.lst ys))) := by
  intro pins s σ H xs us Q I r h
  obtain ⟨p, ys, rfl, hq, q⟩ := h
  obtain ⟨u, rfl, rx⟩ := vals1 r
  cases rx
  have fin : ∀ (its : List Value), Vals ys its → ys.length ≤ sizeLine → ∀ (h' : Heap) (c' : Nat), (∀ b o', s.heap.get? b = some o' → h'.get? b = some o') →
      h'.get? s.heap.objs.size = some { cls := .type "list", dict := none, data := .seq its.toArray c', slots := #[] } → EP X pins σ Q (.ref s.heap.objs.size) { s with heap := h' } := fun its r' hz h' c' kp e =>
    ⟨.ref s.heap.objs.size, _, I.laid (t' := s.toks) kp (Nat.le_refl _) (show ObjOk X.prog X.w _ h' _ (.lst ys) from ⟨hz, its, c', r', e⟩), rfl, q _ (I.hok.fresh (Nat.le_refl _))⟩
  rcases hq with hq | hq
  · obtain ⟨its, r', pl, hz⟩ := I.list hq
    have hlen := r'.length
    obtain ⟨o, ho, hc, n, hd⟩ := pl.isList
    exact call_list_seq p (.inl rfl) ho hc hd (fun h' c' kp e => fin its r' hz h' c' kp e) (by simp only [List.size_toArray] <;> omega)
  · obtain ⟨its, r', pl, hz⟩ := I.tuple hq
    have hlen := r'.length
    obtain ⟨o, ho, hc, n, hd⟩ := pl
    exact call_list_seq p (.inr rfl) ho hc hd (fun h' c' kp e => fin its r' hz h' c' kp e) (by simp only [List.size_toArray] <;> omega)
noncomputable def tyV (K : PySem.W.Frag) (T : String) (x : V) (H : Hp) : Prop := match x with
  | .str _ => T = "str"
  | .int _ => T = "int"
  | .ref p => (T = "list" ∧ ∃ xs, SqL K H p xs) ∨ (T = "tuple" ∧ ∃ o, K.lookup p = some o ∧ o.cls = .type "tuple" ∧ o.dict = none) ∨
      (T = "dict" ∧ ((∃ kvs, H p = some (.dK kvs)) ∨ ∃ kvs, H p = some (.dT kvs))) ∨ (T = "set" ∧ ∃ S n, H p = some (.set S n))
  | _ => False
theorem tyV_is {pins : List (Addr × Obj)} {σ : St} {H : Hp} {s : Shared} {T : String} {x : V} {v : Value} (I : Inv X pins σ H s) (r : RelV x v) (ty : tyV X.K T x H) :
    s.TypeIs v T ∧ ∀ a, v = .ref a → ∃ ob, s.heap.get? a = some ob ∧ ob.dict = none := by
  cases x with
  | str z =>
    obtain ⟨t, rfl⟩ := r
    cases (show T = "str" from ty)
    exact ⟨typeIs_str s z t, fun _ e => nomatch e⟩
  | int i =>
    obtain ⟨t, rfl⟩ := r
    cases (show T = "int" from ty)
    exact ⟨typeIs_int s i t, fun _ e => nomatch e⟩
  | ref p =>
    cases r
    rcases ty with ⟨rfl, xs, hq⟩ | ⟨rfl, o, hk, hc, hd⟩ | ⟨rfl, hk⟩ | ⟨rfl, S, n, hk⟩
    · obtain ⟨its, _, pl, _⟩ := I.list hq
      refine ⟨pl.isList.typeIs, fun a e => ?_⟩
      cases e
      obtain ⟨o, n, e, c, hd, _⟩ := pl
      exact ⟨o, e, hd⟩
    · refine ⟨⟨o, I.kIn p o hk, hc⟩, fun a e => ?_⟩
      cases e
      exact ⟨o, I.kIn _ o hk, hd⟩
    · have z : ∃ o, s.heap.get? p = some o ∧ o.ExactDict := by
        rcases hk with ⟨kvs, hk⟩ | ⟨kvs, hk⟩
        · obtain ⟨_, _, _, _, o, _, _, e, ex, _⟩ := I.hok p _ hk
          exact ⟨o, e, ex⟩
        · obtain ⟨_, _, _, _, o, _, _, e, ex, _⟩ := I.hok p _ hk
          exact ⟨o, e, ex⟩
      obtain ⟨o, e, ex⟩ := z
      refine ⟨⟨o, e, ex.1⟩, fun a e2 => ?_⟩
      cases e2
      exact ⟨o, e, ex.2.1⟩
    · obtain ⟨o, _, _, _, e, ex, _⟩ := I.hok p _ hk
      refine ⟨⟨o, e, ex.1⟩, fun a e2 => ?_⟩
      cases e2
      exact ⟨o, e, ex.2.1⟩
  | _ => exact False.elim ty
noncomputable def tBM0 (K : PySem.W.Frag) (T : String) (r : V → List V → Hp → VK → Prop) (to : TE) : TE := fun σ H Q => to σ H fun x H1 => tyV K T x H1 ∧ r x [] H1 Q
noncomputable def tBM (K : PySem.W.Frag) (T : String) (r : V → List V → Hp → VK → Prop) (to : TE) (t : TA) : TE := fun σ H Q => to σ H fun x H1 => tyV K T x H1 ∧ t σ H1 fun xs H2 => r x xs H2 Q
variable {o e : Expr} {es : List Expr} {to : TE} {t : TA} {name : Str} {apos cpos : Pos} {T id : String} {r : V → List V → Hp → VK → Prop}
theorem pe_bm0 (pa : PlainAttrs T) (slot : Slot T name id) (hty : typeOf (.builtin id) = pure (.type "method_descriptor")) (hm : MtR X id r) (ho : PE X o to)
    (hbase : attributeBase o name X.env (eval o X.env) = eval o X.env := by rfl) (hline : (apos.endLine == cpos.line) = true := by rfl) : PE X (.Call (.Attribute o name apos) [] [] cpos) (tBM0 X.K T r to) := by
  intro pins s σ H Q I h
  refine wpAny_Call_method0_late hbase hline (thn (ho pins s σ H _ I h) fun v s1 ⟨x, H1, I1, r1, ty, q1⟩ => ?_)
  obtain ⟨h1, h2⟩ := tyV_is I1 r1 ty
  exact ⟨T, id, pa, slot, hty, h1, h2, Calls.callWith_builtin rfl (PySem.evalArgs_none (hm pins s1 σ H1 x [] v [] Q I1 r1 .nil q1))⟩
theorem pe_bm (pa : PlainAttrs T) (slot : Slot T name id) (hty : typeOf (.builtin id) = pure (.type "method_descriptor")) (hm : MtR X id r) (ho : PE X o to) (ha : PA X (e :: es) t)
    (hbase : attributeBase o name X.env (eval o X.env) = eval o X.env := by rfl)
    (hfew : ((backTo cpos (starEach (e :: es) X.env)).all (fun x => !x.1) && (backToKw cpos (keywordEach [] X.env)).all (fun x => x.1.isSome)
      && decide ((e :: es).length + ([] : List Keyword).length + (if ([] : List Keyword).isEmpty then 0 else 1) < 30)) = true := by rfl)
    (hline : (apos.endLine == cpos.line) = true := by rfl) (hs : starEach (e :: es) X.env = (false, eval e X.env) :: starEach es X.env := by rfl) (hplain : (backTo cpos (starEach es X.env)).any (·.1) = false := by rfl) :
    PE X (.Call (.Attribute o name apos) (e :: es) [] cpos) (tBM X.K T r to t) := by
  intro pins s σ H Q I h
  refine wpAny_Call_method_late hbase hfew hline rfl (thn (ho pins s σ H _ I h) fun v s1 ⟨x, H1, I1, r1, ty, q1⟩ => ?_)
  obtain ⟨h1, h2⟩ := tyV_is I1 r1 ty
  refine ⟨T, id, pa, slot, hty, h1, h2, ?_⟩
  have hA := ha cpos pins s1 σ H1 _ I1 q1
  rw [hs] at hA ⊢
  refine Calls.callWith_builtin (by show (false || (backTo cpos (starEach es X.env)).any (·.1)) = false; rw [hplain] <;> rfl) (Calls.evalArgs_plain ?_)
  exact thn hA fun us s2 ⟨vs, H2, I2, r2, q2⟩ => hm pins s2 σ H2 x vs v us Q I2 r1 r2 q2
end
end L2
namespace L2
open PySem PySem.Spec PyProof.Rows
noncomputable def MtM (X : Cx) (id : String) (r : V → List V → Hp → VK → Prop) : Prop :=
  ∀ (pins : List (Addr × Obj)) (s : Shared) (σ : St) (H : Hp) (x : V) (xs : List V) (v : Value) (us : List Value) (Q : VK), Inv X pins σ H s → RelV x v → Vals xs us → r x xs H Q →
    wpAny (model X.prog X.w) X.A (call (.builtin id) (v :: us)) (EP X pins σ Q) X.xe s
theorem Vals.one : ∀ {x : V} {us : List Value}, Vals [x] us → ∃ u, us = [u] ∧ RelV x u
  | _, _, .cons r .nil => ⟨_, rfl, r⟩
theorem Vals.zero : ∀ {us : List Value}, Vals [] us → us = []
  | _, .nil => rfl
theorem Vals.reverse {xs : List V} {us : List Value} (h : Vals xs us) : Vals xs.reverse us.reverse := by
  induction h with
  | nil => exact .nil
  | cons r t ih => rw [List.reverse_cons, List.reverse_cons]; exact Vals.append ih (.cons r .nil)
theorem Vals.rep {xs : List V} {us : List Value} (h : Vals xs us) : ∀ k : Nat, Vals (List.replicate k xs).flatten (List.replicate k us).flatten
  | 0 => .nil
  | k + 1 => by
    rw [List.replicate_succ, List.replicate_succ, List.flatten_cons, List.flatten_cons]
    exact Vals.append h (Vals.rep h k)
theorem foldl_rep (its : List Value) : ∀ (k : Nat) (acc : List Value),
    List.foldl (fun x1 x2 => x1 ++ x2) acc.toArray (List.replicate k its.toArray) = (acc ++ (List.replicate k its).flatten).toArray
  | 0, acc => by simp
  | k + 1, acc => by
    have e : acc.toArray ++ its.toArray = (acc ++ its).toArray := by simp
    have e2 : (acc ++ its) ++ (List.replicate k its).flatten = acc ++ (List.replicate (k + 1) its).flatten := by
      rw [List.replicate_succ, List.flatten_cons, List.append_assoc]
    rw [← e2, ← foldl_rep its k (acc ++ its), ← e, List.replicate_succ, List.foldl_cons]
section
variable {X : Cx} {pins : List (Addr × Obj)} {σ : St} {H : Hp} {s : Shared} {l b : Addr} {xs ys zs : List V}
theorem Inv.lset {its its' : List Value} {n : Nat} {f : Array Value → Array Value} {t' : Nat} (I : Inv X pins σ H s) (hH : H l = some (.lst xs))
    (e : s.heap.get? l = some { cls := .type "list", data := .seq its.toArray n }) (hf : f its.toArray = its'.toArray) (hv : Vals ys its') (hz : ys.length ≤ sizeLine) :
    Inv X pins σ (upd H l (.lst ys)) { s with heap := s.heap.update l (Obj.mapSeq f), toks := t' } := by
  have q := PySem.IsL.update e f
  rw [hf] at q
  refine I.write (x := l) (e := l) (by rw [hH]; exact trivial) (.inl rfl) (fun b' u hb hu => (Heap.get?_update_other s.heap (Obj.mapSeq f) (Ne.symm hb)).trans hu) ⟨_, q⟩ ?_
  exact ⟨hz, its', _, hv, q⟩
theorem Inv.lnew {its : List Value} {t' : Nat} (I : Inv X pins σ H s) (hv : Vals ys its) (hz : ys.length ≤ sizeLine) :
    Inv X pins σ (upd H s.heap.objs.size (.lst ys)) { s with heap := s.heap.push { cls := .type "list", data := .seq its.toArray }, toks := t' } :=
  I.laid (fun _ _ q => Heap.get?_push_of_some _ q) (Nat.le_refl _) ⟨hz, its, 0, hv, Heap.get?_push_size _ rfl⟩
theorem Inv.fresh (I : Inv X pins σ H s) : H s.heap.objs.size = none := I.hok.fresh (Nat.le_refl _)
theorem Inv.lstM (I : Inv X pins σ H s) (hH : H l = some (.lst xs)) : xs.length ≤ sizeLine ∧ ∃ (its : List Value) (n : Nat), Vals xs its ∧ xs.length = its.length ∧ s.heap.get? l = some { cls := .type "list", data := .seq its.toArray n } := by
  obtain ⟨z, its, n, r, e⟩ := I.hok l _ hH
  exact ⟨z, its, n, r, r.length, e⟩
theorem notLongL {n : Nat} (h : n ≤ sizeLine) : Builtin.List.listTooLong n = false := by
  unfold Builtin.List.listTooLong
  exact decide_eq_false (by omega)
end
section
variable {X : Cx}
noncomputable def rAppend : V → List V → Hp → VK → Prop := fun x vs H Q => ∃ l xs y, x = .ref l ∧ vs = [y] ∧ H l = some (.lst xs) ∧ xs.length < sizeLine ∧ Q .non (upd H l (.lst (xs ++ [y])))
theorem mt_append : MtM X "list.append" rAppend := by
  intro pins s σ H x vs v us Q I rx rv h
  obtain ⟨l, xs, y, rfl, rfl, hH, hz, q⟩ := h
  cases rx
  obtain ⟨u, rfl, ru⟩ := rv.one
  obtain ⟨z, its, n, r, hl, e⟩ := I.lstM hH
  refine call_meets F.slot_list_append ⟨_, e, rfl⟩ F.entry_list_append (F.args_list_append_2 _ _) (PySem.list_append l its.toArray n u (by rw [List.size_toArray]; omega)) ⟨e, ?_⟩
  refine ⟨.non, _, I.lset (its' := its ++ [u]) hH e (by simp) (r.append (.cons ru .nil)) ?_, rfl, q⟩
  rw [List.length_append, List.length_singleton]
  omega
noncomputable def rReverse : V → List V → Hp → VK → Prop := fun x vs H Q => ∃ l xs, x = .ref l ∧ vs = [] ∧ H l = some (.lst xs) ∧ Q .non (upd H l (.lst xs.reverse))
theorem mt_reverse : MtM X "list.reverse" rReverse := by
  intro pins s σ H x vs v us Q I rx rv h
  obtain ⟨l, xs, rfl, rfl, hH, q⟩ := h
  cases rx
  have hus := rv.zero
  subst hus
  obtain ⟨z, its, n, r, hl, e⟩ := I.lstM hH
  refine call_meets F.slot_list_reverse ⟨_, e, rfl⟩ F.entry_list_reverse (F.args_list_reverse_1 _) (AutoSeq1.list_reverse_list_0 l its.toArray n (by rw [List.size_toArray]; omega)) ⟨e, ?_⟩
  refine ⟨.non, _, I.lset (its' := its.reverse) hH e (by simp) r.reverse ?_, rfl, q⟩
  rw [List.length_reverse]
  omega
noncomputable def rCat : R2 := fun x y H Q => ∃ l b xs zs, x = .ref l ∧ y = .ref b ∧ H l = some (.lst xs) ∧ H b = some (.lst zs) ∧ xs.length + zs.length ≤ sizeLine ∧ ∀ p, H p = none → Q (.ref p) (upd H p (.lst (xs ++ zs)))
theorem op_cat : OpR X (binaryOp .Add) rCat := by
  intro pins s σ H x y v u Q I rx ry h
  obtain ⟨l, b, xs, zs, rfl, rfl, hH, hB, hz, q⟩ := h
  cases rx
  cases ry
  obtain ⟨z, its, n, r, hl, e⟩ := I.lstM hH
  obtain ⟨z2, its2, n2, r2, hl2, e2⟩ := I.lstM hB
  refine PySem.P.add_list e e2 ?_ (by rw [List.size_toArray, List.size_toArray]; omega)
  have ea : its.toArray ++ its2.toArray = (its ++ its2).toArray := by simp
  rw [ea]
  exact ⟨.ref _, _, I.lnew (t' := s.toks) (r.append r2) (by rw [List.length_append]; omega), rfl, q _ I.fresh⟩
noncomputable def rRep : R2 := fun x y H Q => ∃ l k xs, x = .ref l ∧ y = .int k ∧ H l = some (.lst xs) ∧ -(2 ^ 63) ≤ k ∧ k < 2 ^ 63 ∧ xs.length * k.toNat ≤ sizeLine ∧
  ∀ p, H p = none → Q (.ref p) (upd H p (.lst (List.replicate k.toNat xs).flatten))
theorem len_rep {α : Type} (xs : List α) (k : Nat) : (List.replicate k xs).flatten.length = k * xs.length := by
  induction k with
  | zero => simp
  | succ k ih => rw [List.replicate_succ, List.flatten_cons, List.length_append, ih, Nat.succ_mul, Nat.add_comm]
theorem op_rep : OpR X (binaryOp .Mult) rRep := by
  intro pins s σ H x y v u Q I rx ry h
  obtain ⟨l, k, xs, rfl, rfl, hH, h1, h2, hz, q⟩ := h
  cases rx
  obtain ⟨t, rfl⟩ := ry
  obtain ⟨z, its, n, r, hl, e⟩ := I.lstM hH
  have hlen : its.toArray.size * k.toNat ≤ sizeLine := by rw [List.size_toArray, ← hl]; exact hz
  have hcap : ¬ its.toArray.size * k.toNat > (2 ^ 63 - 1) / 8 := by
    have : (sizeLine : Nat) ≤ (2 ^ 63 - 1) / 8 := by decide
    omega
  have hfit : ¬ (!Builtin.List.listFitsIndex k) = true := by
    rw [fitsIndex_both h1 h2]
    exact Bool.false_ne_true
  have hlong : ¬ Builtin.List.listTooLong (its.toArray.size * k.toNat) = true := by
    rw [notLongL hlen]
    exact Bool.false_ne_true
  have hnew : List.foldl (fun x1 x2 => x1 ++ x2) #[] (List.replicate (if its.toArray.isEmpty = true then 0 else k.toNat) its.toArray) = (List.replicate k.toNat its).flatten.toArray := by
    have f0 : ∀ m : Nat, List.foldl (fun x1 x2 => x1 ++ x2) #[] (List.replicate m its.toArray) = (List.replicate m its).flatten.toArray := fun m => by
      have := foldl_rep its m []
      rw [List.nil_append] at this
      exact this
    rw [f0]
    cases its with
    | nil => simp
    | cons a r' => rw [if_neg (by simp)]
  refine wpAny_binaryOp_repeat_ref (T := "list") (U := "int") (by decide) ⟨_, e, rfl⟩ (fun s' => typeIs_int s' k t) noFill_list_mul F.fills_int_mul F.slot_int_rmul repeat_list F.slot_int_index.lookup
    (call_meets F.slot_int_rmul (typeIs_int s k t) F.entry_int_rmul (F.args_int_rmul_2 _ _) (int___rmul___int_list k t l its.toArray n)
      ⟨e, rfl, ⟨_, e, rfl⟩, call_meets F.slot_list_mul ⟨_, e, rfl⟩ F.entry_list_mul (F.args_list_mul_2 _ _) (AutoListH.list___mul___list_int_3 l its.toArray n k t hfit hcap hlong) ⟨e, ?_⟩⟩)
  rw [hnew]
  exact ⟨.ref _, _, I.lnew (t' := s.toks) (r.rep k.toNat) (by rw [len_rep, Nat.mul_comm]; exact hz), rfl, q _ I.fresh⟩
end
section
variable {prog : Program} {w : World} {A : Around} {E : Value → Shared → Prop} {s : Shared}
set_option maxRecDepth 100000 in
end
section
variable {X : Cx}
end
end L2
namespace L2
open PySem PySem.Spec PyProof.Rows
section
variable {κ : Type} [DecidableEq κ]
noncomputable def valV (kvs : List (κ × V)) (k : κ) : Option V := (kvs.find? fun kv => decide (kv.1 = k)).map (·.2)
noncomputable def putK (kvs : List (κ × V)) (k : κ) (v : V) : List (κ × V) :=
  if (kvs.any fun kv => decide (kv.1 = k)) = true then kvs.map (fun kv => if kv.1 = k then (kv.1, v) else kv) else kvs ++ [(k, v)]
noncomputable def dropK (kvs : List (κ × V)) (k : κ) : List (κ × V) := kvs.filter fun kv => decide (kv.1 ≠ k)
theorem valV_pos {p : κ × V} {r : List (κ × V)} {k : κ} (e : p.1 = k) : valV (p :: r) k = some p.2 := by simp [valV, List.find?_cons, e]
theorem valV_neg {p : κ × V} {r : List (κ × V)} {k : κ} (e : ¬ p.1 = k) : valV (p :: r) k = valV r k := by simp [valV, List.find?_cons, e]
theorem valV_any (k : κ) : ∀ kvs : List (κ × V), (kvs.any fun kv => decide (kv.1 = k)) = (valV kvs k).isSome
  | [] => rfl
  | p :: r => by
    rw [List.any_cons]
    by_cases e : p.1 = k
    · simp only [valV_pos e, decide_eq_true e, Bool.true_or, Option.isSome_some]
    · rw [valV_neg e, decide_eq_false e, Bool.false_or]; exact valV_any k r
theorem length_putK (kvs : List (κ × V)) (k : κ) (v : V) : (putK kvs k v).length ≤ kvs.length + 1 := by
  unfold putK
  split
  · rw [List.length_map]; omega
  · rw [List.length_append, List.length_cons, List.length_nil]; omega
theorem RelO.isSome_eq {o : Option V} {u : Option Value} (r : RelO o u) : o.isSome = u.isSome := by
  cases o with
  | none => cases u with
    | none => rfl
    | some _ => exact (show False from r).elim
  | some _ => cases u with
    | none => exact (show False from r).elim
    | some _ => rfl
theorem KV.val {kvs : List (κ × V)} {vs : List (κ × Value)} (r : KV kvs vs) (k : κ) : RelO (valV kvs k) (valueAt vs k) := by
  unfold KV at r
  induction r with
  | nil => exact True.intro
  | @cons p q ps qs h t ih =>
    obtain ⟨h1, h2⟩ := h
    by_cases e : p.1 = k
    · have e' : q.1 = k := h1.symm.trans e
      have b : valueAt (q :: qs) k = some q.2 := by simp [valueAt, List.find?_cons, e']
      rw [valV_pos e, b]; exact h2
    · have e' : ¬ q.1 = k := fun z => e (h1.trans z)
      have b : valueAt (q :: qs) k = valueAt qs k := by simp [valueAt, List.find?_cons, e']
      rw [valV_neg e, b]; exact ih
theorem KV.any {kvs : List (κ × V)} {vs : List (κ × Value)} (r : KV kvs vs) (k : κ) : (kvs.any fun kv => decide (kv.1 = k)) = vs.any fun kv => decide (kv.1 = k) := by
  unfold KV at r
  induction r with
  | nil => rfl
  | cons h t ih => rw [List.any_cons, List.any_cons, ih, h.1]
theorem KV.repl {kvs : List (κ × V)} {vs : List (κ × Value)} (r : KV kvs vs) (k : κ) {y : V} {u : Value} (ry : RelV y u) :
    KV (kvs.map fun kv => if kv.1 = k then (kv.1, y) else kv) (vs.map fun kv => if kv.1 = k then (kv.1, u) else kv) := by
  unfold KV at r ⊢
  induction r with
  | nil => exact .nil
  | @cons p q ps qs h t ih =>
    rw [List.map_cons, List.map_cons]
    refine .cons ?_ ih
    obtain ⟨h1, h2⟩ := h
    by_cases e : p.1 = k
    · rw [if_pos e, if_pos (h1.symm.trans e)]; exact ⟨h1, ry⟩
    · rw [if_neg e, if_neg (fun z => e (h1.trans z))]; exact ⟨h1, h2⟩
theorem KV.put {kvs : List (κ × V)} {vs : List (κ × Value)} (r : KV kvs vs) (k : κ) {y : V} {u : Value} (ry : RelV y u) : KV (putK kvs k y) (stored vs k u) := by
  unfold putK stored
  rw [r.any k]
  by_cases e : (vs.any fun kv => decide (kv.1 = k)) = true
  · rw [if_pos e, if_pos e]; exact r.repl k ry
  · rw [if_neg e, if_neg e]; exact Paired.snoc r ⟨rfl, ry⟩
theorem KV.keys {kvs : List (κ × V)} {vs : List (κ × Value)} (r : KV kvs vs) : kvs.map (·.1) = vs.map (·.1) := by
  unfold KV at r
  induction r with
  | nil => rfl
  | cons h t ih => rw [List.map_cons, List.map_cons, ih, h.1]
theorem KV.length {kvs : List (κ × V)} {vs : List (κ × Value)} (r : KV kvs vs) : kvs.length = vs.length := Paired.length r
end
theorem kV_is {P : Program} {w : World} {k : Key} {u : Value} (r : RelV (kV k) u) : (mixKind P w).is k u = true := by
  cases k with
  | inl i => obtain ⟨t, e⟩ := (show ∃ t, u = Value.int i t from r); subst e; exact mixKind_int P w i t
  | inr x => obtain ⟨t, e⟩ := (show ∃ t, u = Value.str x t from r); subst e; exact mixKind_str P w x t
theorem nV_is {P : Program} {w : World} {k : NKey} {u : Value} (r : RelV (nV k) u) : (optKind P w).is k u = true := by
  cases k with
  | none => cases (show u = Value.none from r); rfl
  | some k => exact kV_is (P := P) (w := w) (k := k) r
theorem items_are {P : Program} {w : World} : ∀ {ks : List NKey} {us : List Value}, Vals (ks.map nV) us → ItemsAre (optKind P w) ks us
  | [], _, r => by rw [List.map_nil] at r; cases r; exact .nil
  | k :: ks, _, r => by
    rw [List.map_cons] at r
    cases r with
    | cons h t => exact .cons (nV_is h) (items_are t)
noncomputable abbrev KT (H : Hp) : List (List NKey × V) → List (List NKey × Addr × Value) → Prop := Paired fun p q => p.1 = q.1 ∧ H q.2.1 = some (.tup (p.1.map nV)) ∧ RelV p.2 q.2.2
theorem KT.val {H : Hp} {kvs : List (List NKey × V)} {xs : List (List NKey × Addr × Value)} (r : KT H kvs xs) (k : List NKey) : RelO (valV kvs k) ((atKey xs k).map (·.2)) := by
  induction r with
  | nil => exact True.intro
  | @cons p q ps qs h t ih =>
    obtain ⟨h1, _, h2⟩ := h
    by_cases e : p.1 = k
    · have e' : q.1 = k := h1.symm.trans e
      have b : atKey (q :: qs) k = some q.2 := by simp [atKey, List.find?_cons, e']
      rw [valV_pos e, b]; exact h2
    · have e' : ¬ q.1 = k := fun z => e (h1.trans z)
      have b : atKey (q :: qs) k = atKey qs k := by simp [atKey, List.find?_cons, e']
      rw [valV_neg e, b]; exact ih
theorem KT.repl {H : Hp} {kvs : List (List NKey × V)} {xs : List (List NKey × Addr × Value)} (r : KT H kvs xs) (k : List NKey) {y : V} {u : Value} (ry : RelV y u) :
    KT H (kvs.map fun kv => if kv.1 = k then (kv.1, y) else kv) (xs.map (putAt k u)) := by
  induction r with
  | nil => exact .nil
  | @cons p q ps qs h t ih =>
    rw [List.map_cons, List.map_cons]
    refine .cons ?_ ih
    obtain ⟨h1, h2, h3⟩ := h
    unfold putAt
    by_cases e : p.1 = k
    · rw [if_pos e, if_pos (h1.symm.trans e)]; exact ⟨h1, h2, ry⟩
    · rw [if_neg e, if_neg (fun z => e (h1.trans z))]; exact ⟨h1, h2, h3⟩
theorem KT.put {H : Hp} {kvs : List (List NKey × V)} {xs : List (List NKey × Addr × Value)} (r : KT H kvs xs) (k : List NKey) {b : Addr} {y : V} {u : Value} (hb : H b = some (.tup (k.map nV))) (ry : RelV y u) :
    KT H (putK kvs k y) (storedH xs k b u) := by
  have e : (kvs.any fun kv => decide (kv.1 = k)) = (atKey xs k).isSome := by
    rw [valV_any, (r.val k).isSome_eq, Option.isSome_map]
  unfold putK storedH
  rw [e]
  by_cases q : (atKey xs k).isSome = true
  · rw [if_pos q, if_pos q]; exact r.repl k ry
  · rw [if_neg q, if_neg q]; exact Paired.snoc r ⟨rfl, hb, ry⟩
theorem KT.keeps {H H' : Hp} {kvs : List (List NKey × V)} {xs : List (List NKey × Addr × Value)} (r : KT H kvs xs) (ht : ∀ b ys, H b = some (.tup ys) → H' b = some (.tup ys)) : KT H' kvs xs :=
  Paired.mapP r fun _ _ z => ⟨z.1, ht _ _ z.2.1, z.2.2⟩
section
variable {P : Program} {w : World} {H : Hp} {h : Heap} {a : Addr}
theorem rd_of {u : HO} (ok : HOk P w H h) (e : Rd H a u) : ObjOk P w H h a u := e.ok ok
theorem dk_rd {kvs : List (Key × V)} (ok : HOk P w H h) (e : Rd H a (.dK kvs)) : kvs.length ≤ sizeLine ∧ (a == sysModules) = false ∧ ∃ vs, KV kvs vs ∧ h.DictOf (mixKind P w) a vs :=
  show ObjOk P w H h a (.dK kvs) from rd_of ok e
theorem dk_of {kvs : List (Key × V)} (ok : HOk P w H h) (e : H a = some (.dK kvs)) : kvs.length ≤ sizeLine ∧ (a == sysModules) = false ∧ ∃ vs, KV kvs vs ∧ h.DictOf (mixKind P w) a vs := dk_rd ok (.inl e)
theorem key_of {ks : List NKey} (ok : HOk P w H h) (e : H a = some (.tup (ks.map nV))) : (tupleKind (optKind P w)).is h ks a := by
  obtain ⟨_, its, r, o, h1, h2, n, h3⟩ := (show ObjOk P w H h a (.tup (ks.map nV)) from ok a _ e)
  exact ⟨o, its.toArray, n, h1, h2, h3, by simpa using items_are r⟩
theorem dt_rd {kvs : List (List NKey × V)} (ok : HOk P w H h) (e : Rd H a (.dT kvs)) : kvs.length ≤ sizeLine ∧ (a == sysModules) = false ∧
    ∃ xs, KT H kvs xs ∧ h.DictOfH (tupleKind (optKind P w)) a xs := by
  obtain ⟨z, y, xs, r, o, es, ep, h1, h2, h3, h4, h5⟩ := (show ObjOk P w H h a (.dT kvs) from rd_of ok e)
  refine ⟨z, y, xs, r, o, es, ep, h1, h2, h3, h4, fun x hx => ?_, h5⟩
  have all : ∀ {l : List (List NKey × V)} {m : List (List NKey × Addr × Value)}, KT H l m → ∀ x ∈ m, (tupleKind (optKind P w)).is h x.1 x.2.1 := by
    intro l m q
    induction q with
    | nil => intro x hx; exact nomatch hx
    | @cons p q ps qs hq t ih =>
      intro x hx
      rcases List.mem_cons.mp hx with e | hx
      · subst e
        exact key_of ok (by rw [← hq.1]; exact hq.2.1)
      · exact ih x hx
  exact all r x hx
theorem dt_of {kvs : List (List NKey × V)} (ok : HOk P w H h) (e : H a = some (.dT kvs)) : kvs.length ≤ sizeLine ∧ (a == sysModules) = false ∧
    ∃ xs, KT H kvs xs ∧ h.DictOfH (tupleKind (optKind P w)) a xs := dt_rd ok (.inl e)
end
noncomputable def DGet (H : Hp) (a : Addr) (y : V) (r : Option V) : Prop :=
  (∃ kvs k, Rd H a (.dK kvs) ∧ y = kV k ∧ r = valV kvs k) ∨ ∃ kvs k b, Rd H a (.dT kvs) ∧ y = .ref b ∧ H b = some (.tup (k.map nV)) ∧ r = valV kvs k
noncomputable def DPut (H : Hp) (a : Addr) (y v : V) (H' : Hp) : Prop :=
  (∃ kvs k, H a = some (.dK kvs) ∧ y = kV k ∧ kvs.length < sizeLine ∧ H' = upd H a (.dK (putK kvs k v))) ∨
  ∃ kvs k b, H a = some (.dT kvs) ∧ y = .ref b ∧ H b = some (.tup (k.map nV)) ∧ kvs.length < sizeLine ∧ H' = upd H a (.dT (putK kvs k v))
theorem DGet.k {H : Hp} {a : Addr} {kvs : List (Key × V)} {k : Key} (e : H a = some (.dK kvs)) : DGet H a (kV k) (valV kvs k) := .inl ⟨kvs, k, .inl e, rfl, rfl⟩
theorem DPut.k {H : Hp} {a : Addr} {kvs : List (Key × V)} {k : Key} {v : V} (e : H a = some (.dK kvs)) (hl : kvs.length < sizeLine) : DPut H a (kV k) v (upd H a (.dK (putK kvs k v))) := .inl ⟨kvs, k, e, rfl, hl, rfl⟩
section
variable {X : Cx} {pins : List (Addr × Obj)} {σ : St} {H : Hp} {s : Shared} {a : Addr} {y v : V} {u r : Value} {o : Option V} {A : Around} {E : Value → Shared → Prop}
theorem Inv.big (I : Inv X pins σ H s) : sysModules < s.heap.objs.size := by
  have h : mainGlobals < s.heap.objs.size := (I.mod.glob.keeps I.bk).lt
  exact Nat.lt_trans (by decide) h
theorem d_getItem {Q : Value → Shared → Prop} (hu : A.units + 1 < cLine) (I : Inv X pins σ H s) (g : DGet H a y (some v)) (ry : RelV y u) (h : ∀ w' s', Inv X pins σ H s' → RelV v w' → Q w' s') :
    wpAny (model X.prog X.w) A (getItem (.ref a) u) Q E s := by
  rcases g with ⟨kvs, k, e, ey, l⟩ | ⟨kvs, k, b, e, ey, eb, l⟩
  · subst ey
    obtain ⟨z, hd, vs, rel, dd⟩ := dk_rd I.hok e
    obtain ⟨w', hw, rw'⟩ := RelO.some_of (v := v) (o := valueAt vs k) (by rw [l]; exact rel.val k)
    exact wpAny_getItem_of (kV_is ry) dd.mapOf hw (h w' _ (I.tok _) rw')
  · subst ey
    cases (show u = Value.ref b from ry)
    obtain ⟨z, hd, xs, rel, dd⟩ := dt_rd I.hok e
    obtain ⟨w', hw, rw'⟩ := RelO.some_of (v := v) (o := (atKey xs k).map (·.2)) (by rw [l]; exact rel.val k)
    obtain ⟨p, hp, hp2⟩ := Option.map_eq_some_iff.mp hw
    refine wpAny_getItem_heap (tupleKind_room_in1 hu) (key_of I.hok eb) dd hp ?_
    rw [hp2]
    exact h w' _ (I.tok _) rw'
theorem d_in {Q : Value → Shared → Prop} (hu : A.units + 1 < cLine) (I : Inv X pins σ H s) (g : DGet H a y o) (ry : RelV y u) (h : ∀ s', Inv X pins σ H s' → Q (.bool o.isSome) s') :
    wpAny (model X.prog X.w) A (compareOp .In u (.ref a)) Q E s := by
  rcases g with ⟨kvs, k, e, ey, l⟩ | ⟨kvs, k, b, e, ey, eb, l⟩
  · subst ey
    obtain ⟨z, hd, vs, rel, dd⟩ := dk_rd I.hok e
    refine wpAny_in_of (kV_is ry) hd dd.mapOf ?_
    rw [← (rel.val k).isSome_eq, ← l]
    exact h _ (I.tok _)
  · subst ey
    cases (show u = Value.ref b from ry)
    obtain ⟨z, hd, xs, rel, dd⟩ := dt_rd I.hok e
    refine wpAny_in_heap (tupleKind_room_in1 hu) (key_of I.hok eb) hd dd ?_
    have q := (rel.val k).isSome_eq
    rw [Option.isSome_map] at q
    rw [← q, ← l]
    exact h _ (I.tok _)
theorem d_notIn {Q : Value → Shared → Prop} (hu : A.units + 1 < cLine) (I : Inv X pins σ H s) (g : DGet H a y o) (ry : RelV y u) (h : ∀ s', Inv X pins σ H s' → Q (.bool (!o.isSome)) s') :
    wpAny (model X.prog X.w) A (compareOp .NotIn u (.ref a)) Q E s := by
  rcases g with ⟨kvs, k, e, ey, l⟩ | ⟨kvs, k, b, e, ey, eb, l⟩
  · subst ey
    obtain ⟨z, hd, vs, rel, dd⟩ := dk_rd I.hok e
    refine wpAny_notIn_of (kV_is ry) hd dd.mapOf ?_
    rw [← (rel.val k).isSome_eq, ← l]
    exact h _ (I.tok _)
  · subst ey
    cases (show u = Value.ref b from ry)
    obtain ⟨z, hd, xs, rel, dd⟩ := dt_rd I.hok e
    refine wpAny_notIn_heap (tupleKind_room_in1 hu) (key_of I.hok eb) hd dd ?_
    have q := (rel.val k).isSome_eq
    rw [Option.isSome_map] at q
    rw [← q, ← l]
    exact h _ (I.tok _)
theorem d_write {h' : Heap} {t' : Nat} {ob : HO} (I : Inv X pins σ H s) (mu : Mut (H a)) (hs : Heap.SameBut a s.heap h') (he : ∃ q, h'.get? a = some q) (new : ObjOk X.prog X.w (upd H a ob) h' a ob) :
    Inv X pins σ (upd H a ob) { s with heap := h', toks := t' } :=
  I.write (x := a) (e := a) mu (.inl rfl) (fun b q hb z => (hs.2 b hb).trans z) he new
theorem dk_new {P : Program} {w : World} {H' : Hp} {h' : Heap} {kvs : List (Key × V)} {vs : List (Key × Value)} (z : kvs.length ≤ sizeLine) (hd : (a == sysModules) = false) (rel : KV kvs vs) (dd : h'.DictOf (mixKind P w) a vs) :
    ObjOk P w H' h' a (.dK kvs) := ⟨z, hd, vs, rel, dd⟩
theorem d_setItem {H' : Hp} {Q : Unit → Shared → Prop} (hu : A.units + 1 < cLine) (I : Inv X pins σ H s) (g : DPut H a y v H') (ry : RelV y u) (rv : RelV v r) (h : ∀ s', Inv X pins σ H' s' → Q () s') :
    wpAny (model X.prog X.w) A (setItem (.ref a) u r) Q E s := by
  rcases g with ⟨kvs, k, e, ey, l, eH⟩ | ⟨kvs, k, b, e, ey, eb, l, eH⟩
  · subst ey eH
    obtain ⟨z, hd, vs, rel, dd⟩ := dk_of I.hok e
    have hz : vs.length ≤ sizeLine := by rw [← rel.length]; exact z
    have hl : (putK kvs k v).length ≤ sizeLine := by have := length_putK kvs k v; omega
    refine wpAny_setItem_pairs (hsz := hz) (kV_is ry) dd fun h' dd' hs => h _ ?_
    have he : ∃ q, h'.get? a = some q := let ⟨q, _, _, hq, _⟩ := dd'; ⟨q, hq⟩
    exact d_write I (by rw [e]; exact True.intro) hs he (dk_new hl hd (rel.put k rv) dd')
  · subst ey eH
    cases (show u = Value.ref b from ry)
    obtain ⟨z, hd, xs, rel, dd⟩ := dt_of I.hok e
    have hz : xs.length ≤ sizeLine := by rw [← Paired.length rel]; exact z
    have hl : (putK kvs k v).length ≤ sizeLine := by have := length_putK kvs k v; omega
    refine wpAny_setItem_heap (hsz := hz) (tupleKind_room_in1 hu) (key_of I.hok eb) dd fun h' dd' hs => h _ ?_
    obtain ⟨q, es, ep, hq, h2, h3, h4, _, h5⟩ := dd'
    refine d_write I (by rw [e]; exact True.intro) hs ⟨q, hq⟩ ⟨hl, hd, _, (rel.put k eb rv).keeps fun c ys ec => ?_, q, es, ep, hq, h2, h3, h4, h5⟩
    rw [upd_ne (ne_of ec e (fun z => nomatch z))]
    exact ec
end
section
variable {X : Cx} {pins : List (Addr × Obj)} {σ : St} {H : Hp} {s : Shared} {a : Addr} {kvs : List (Key × V)} {k : Key} {u : Value} {A : Around} {E : Value → Shared → Prop}
end
noncomputable def NoSl (i : Expr) : Prop := ∀ ov iv, subscripted i false ov iv = operate [ov, iv] (getItem ov iv)
theorem subD_of {prog : Program} {w : World} {A : Around} {E : Value → Shared → Prop} {s : Shared} {env : Env} {value slice : Expr} {pos : Pos} {T id : String} {Q : Value → Shared → Prop}
    (hl : typeLookup (.type T) "__getitem__" = pure (some (.builtin id))) (hs : NoSl slice)
    (h : wpAny (model prog w) A (eval value env) (fun o s₁ => wpAny (model prog w) A (eval slice env) (fun i s₂ => s₂.TypeIs o T ∧ wpAny (model prog w) A (getItem o i) Q E s₂) E s₁) E s) :
    wpAny (model prog w) A (eval (.Subscript value slice pos) env) Q E s := by
  refine Subscript_ (wpAny_mono h (fun o s₁ h₁ => wpAny_mono h₁ (fun i s₂ h₂ => ?_) fun _ _ x => x) fun _ _ x => x)
  obtain ⟨hT, h₂⟩ := h₂
  unfold subscriptTail
  refine wpAny_bind ?_
  rw [getitemInPython_of_ne hT.not_modules]
  refine wpAny_bind (wpAny_specialOf hT hl ?_)
  have fin : wpAny (model prog w) A (subscripted slice false o i) (fun r s₃ => wpAny (model prog w) A (letTemporaryGo value o r >>= fun _ => pure r) Q E s₃) E s₂ := by
    rw [hs o i]
    exact wpAny_operating (wpAny_mono h₂ (fun r s₃ h₃ => wpAny_bind (wpAny_letTemporaryGo (wpAny_pure h₃))) fun _ _ x => x)
  first
    | exact wpAny_pure (wpAny_bind fin)
    | exact wpAny_bind (wpAny_pure (wpAny_bind fin))
    | exact wpAny_bind fin
theorem dict_typeIs {X : Cx} {pins : List (Addr × Obj)} {σ : St} {H : Hp} {s : Shared} {a : Addr} {y : V} {o : Option V} (I : Inv X pins σ H s) (g : DGet H a y o) : s.TypeIs (.ref a) "dict" := by
  rcases g with ⟨kvs, k, e, _, _⟩ | ⟨kvs, k, b, e, _, _, _⟩
  · obtain ⟨_, _, vs, _, dd⟩ := dk_rd I.hok e
    exact dd.typeIs
  · obtain ⟨_, _, xs, _, dd⟩ := dt_rd I.hok e
    exact dd.typeIs
noncomputable def tDGet (td ty : TE) : TE := fun σ H Q => td σ H fun x H1 => ty σ H1 fun y H2 => ∃ a v, x = .ref a ∧ DGet H2 a y (some v) ∧ Q v H2
noncomputable def tDIn (ty td : TE) : TE := fun σ H Q => ty σ H fun y H1 => td σ H1 fun x H2 => ∃ a o, x = .ref a ∧ DGet H2 a y o ∧ Q (.bl o.isSome) H2
noncomputable def tDNotIn (ty td : TE) : TE := fun σ H Q => ty σ H fun y H1 => td σ H1 fun x H2 => ∃ a o, x = .ref a ∧ DGet H2 a y o ∧ Q (.bl (!o.isSome)) H2
noncomputable def sDPut (td ty tv : TE) : TS := fun D σ H => tv σ H fun v H1 => td σ H1 fun x H2 => ty σ H2 fun y H3 => ∃ a H4, x = .ref a ∧ DPut H3 a y v H4 ∧ D.nx σ H4
section
variable {X : Cx} {o i e value : Expr} {pos pos' tpos : Pos} {td ty tv : TE}
theorem pe_dget (hu : X.A.units + 1 < cLine) (ho : PE X o td) (hi : PE X i ty) (hs : NoSl i) : PE X (.Subscript o i pos) (tDGet td ty) := by
  intro pins s σ H Q I h
  refine subD_of PySem.F.slot_dict_getitem.lookup hs (thn (ho pins s σ H _ I h) fun u s1 ⟨x, H1, I1, rx, q1⟩ => thn (hi pins s1 σ H1 _ I1 q1) fun iv s2 ⟨y, H2, I2, ry, a, v, ex, g, q2⟩ => ?_)
  subst ex
  obtain rfl : u = Value.ref a := rx
  exact ⟨dict_typeIs I2 g, d_getItem hu I2 g ry fun w' s3 I3 rw' => ⟨v, H2, I3, rw', q2⟩⟩
theorem pc_din (hu : X.A.units + 1 < cLine) (hi : PE X i ty) (ho : PE X o td) : PC X .In i o (tDIn ty td) := by
  intro pins s σ H Q I h
  refine thn (hi pins s σ H _ I h) fun iv s1 ⟨y, H1, I1, ry, q1⟩ => thn (ho pins s1 σ H1 _ I1 q1) fun u s2 ⟨x, H2, I2, rx, a, ov, ex, g, q2⟩ => ?_
  subst ex
  obtain rfl : u = Value.ref a := rx
  exact d_in hu I2 g ry fun s3 I3 => ⟨.bl ov.isSome, H2, I3, rfl, q2⟩
theorem pc_dnotin (hu : X.A.units + 1 < cLine) (hi : PE X i ty) (ho : PE X o td) : PC X .NotIn i o (tDNotIn ty td) := by
  intro pins s σ H Q I h
  refine thn (hi pins s σ H _ I h) fun iv s1 ⟨y, H1, I1, ry, q1⟩ => thn (ho pins s1 σ H1 _ I1 q1) fun u s2 ⟨x, H2, I2, rx, a, ov, ex, g, q2⟩ => ?_
  subst ex
  obtain rfl : u = Value.ref a := rx
  exact d_notIn hu I2 g ry fun s3 I3 => ⟨.bl (!ov.isSome), H2, I3, rfl, q2⟩
theorem ps_dput (hu : X.A.units + 1 < cLine) (ho : PE X o td) (hi : PE X i ty) (hv : PE X value tv) (hs : swapsWith value (some (.Subscript o i pos')) pos.line X.env = pure false) :
    PS X (.Assign [.Subscript o i pos'] value pos) (sDPut td ty tv) := by
  intro pins s σ H D I h
  refine wpAny_Assign_Subscript (thn (hv pins s σ H _ I h) fun r s1 ⟨v, H1, I1, rv, q1⟩ => thn (ho pins s1 σ H1 _ I1 q1) fun u s2 ⟨x, H2, I2, rx, q2⟩ => thn (hi pins s2 σ H2 _ I2 q2) fun iv s3 ⟨y, H3, I3, ry, a, H4, ex, g, q3⟩ => ?_) hs
  subst ex
  obtain rfl : u = Value.ref a := rx
  exact d_setItem hu I3 g ry rv fun s4 I4 => ⟨σ, H4, I4, q3⟩
end
theorem dk_empty {P : Program} {w : World} {H : Hp} (h : Heap) (hb : sysModules < h.objs.size) : ObjOk P w H (h.push { cls := .type "dict", data := .dict #[] }) h.objs.size (.dK []) :=
  ⟨Nat.zero_le _, beq_eq_false_iff_ne.mpr (Ne.symm (Nat.ne_of_lt hb)), [], .nil, Heap.DictOf.new h⟩
noncomputable def tDNewK : TE := fun _ H Q => ∀ p, H p = none → Q (.ref p) (upd H p (.dK []))
section
variable {X : Cx} {pos : Pos}
end
noncomputable def tPairs : List (TE × TE) → St → Hp → (List (V × V) → Hp → Prop) → Prop
  | [], _, H, Q => Q [] H
  | (tk, tv) :: r, σ, H, Q => tk σ H fun x H1 => tv σ H1 fun y H2 => tPairs r σ H2 fun ps H3 => Q ((x, y) :: ps) H3
noncomputable abbrev VV : List (V × V) → List (Value × Value) → Prop := Paired fun p q => RelV p.1 q.1 ∧ RelV p.2 q.2
noncomputable def PPs (X : Cx) (pos : Pos) (keys : List (Option Expr)) (values : List Expr) (trs : List (TE × TE)) : Prop :=
  ∀ (pins : List (Addr × Obj)) (s : Shared) (σ : St) (H : Hp) (Q : List (V × V) → Hp → Prop), Inv X pins σ H s → tPairs trs σ H Q →
    wpAny (model X.prog X.w) X.A (evalPairs (pairTrees keys values X.env pos)) (fun vs s' => ∃ ps H', Inv X pins σ H' s' ∧ VV ps vs ∧ Q ps H') X.xe s
theorem pps_nil {X : Cx} {pos : Pos} : PPs X pos [] [] [] := fun pins s σ H Q I h => pairTrees_nil_walk ⟨[], H, I, .nil, h⟩
theorem pps_cons {X : Cx} {pos : Pos} {k v : Expr} {ks : List (Option Expr)} {vs : List Expr} {tk tv : TE} {trs : List (TE × TE)} (hk : PE X k tk) (hv : PE X v tv) (hr : PPs X pos ks vs trs) :
    PPs X pos (some k :: ks) (v :: vs) ((tk, tv) :: trs) := fun pins s σ H Q I h =>
  pairTrees_cons_walk (thn (hk pins s σ H _ I h) fun u s1 ⟨x, H1, I1, rx, q1⟩ => thn (hv pins s1 σ H1 _ I1 q1) fun w2 s2 ⟨y, H2, I2, ry, q2⟩ =>
    thn (hr pins s2 σ H2 _ I2 q2) fun ws s3 ⟨ps, H3, I3, rel, q3⟩ => ⟨(x, y) :: ps, H3, I3, .cons ⟨rx, ry⟩ rel, q3⟩)
noncomputable def mergeK (kvs more : List (Key × V)) : List (Key × V) := more.foldl (fun acc kv => putK acc kv.1 kv.2) kvs
theorem KV.merge : ∀ {more : List (Key × V)} {rs : List (Key × Value)} {kvs : List (Key × V)} {vs : List (Key × Value)}, KV more rs → KV kvs vs → KV (mergeK kvs more) (merged vs rs) := by
  intro more rs kvs vs r
  unfold KV at r
  induction r generalizing kvs vs with
  | nil => intro q; exact q
  | @cons p q ps qs h t ih =>
    intro r0
    have e : KV (putK kvs p.1 p.2) (stored vs q.1 q.2) := by
      have := r0.put p.1 h.2
      rw [← h.1]; exact this
    exact ih e
theorem length_mergeK : ∀ (more kvs : List (Key × V)), (mergeK kvs more).length ≤ kvs.length + more.length
  | [], kvs => by show kvs.length ≤ kvs.length + 0; omega
  | p :: r, kvs => by
    have h1 := length_mergeK r (putK kvs p.1 p.2)
    have h2 := length_putK kvs p.1 p.2
    show (mergeK (putK kvs p.1 p.2) r).length ≤ _
    rw [List.length_cons]; omega
theorem carries_of {P : Program} {w : World} : ∀ {kvs : List (Key × V)} {ws : List (Value × Value)}, VV (kvs.map fun kv => (kV kv.1, kv.2)) ws → ∃ rs, Carries (mixKind P w) ws rs ∧ KV kvs rs
  | [], _, r => by rw [List.map_nil] at r; cases r; exact ⟨[], True.intro, .nil⟩
  | p :: kvs, _, r => by
    rw [List.map_cons] at r
    cases r with
    | @cons a b as bs h t =>
      obtain ⟨rs, c, q⟩ := carries_of (P := P) (w := w) t
      obtain ⟨b1, b2⟩ := b
      exact ⟨(p.1, b2) :: rs, ⟨kV_is h.1, rfl, c⟩, .cons ⟨rfl, h.2⟩ q⟩
noncomputable def tDisp (trs : List (TE × TE)) : TE := fun σ H Q => ∀ p, H p = none → tPairs trs σ (upd H p (.dK [])) fun ps H2 => H2 p = some (.dK []) ∧ ∃ kvs : List (Key × V), ps = kvs.map (fun kv => (kV kv.1, kv.2)) ∧ kvs.length ≤ 15 ∧ Q (.ref p) (upd H2 p (.dK (mergeK [] kvs)))
theorem pe_disp {X : Cx} {pos : Pos} {keys : List (Option Expr)} {values : List Expr} {trs : List (TE × TE)} (h : PPs X pos keys values trs) (hall : keys.all (·.isSome) = true) (hl : keys.length = values.length) (h0 : keys ≠ [])
    (h15 : keys.length ≤ 15) : PE X (.Dict keys values pos) (tDisp trs) := by
  intro pins s σ H Q I q
  have hn := I.hok.fresh (Nat.le_refl s.heap.objs.size)
  have I1 := I.laid (a := s.heap.objs.size) (o := .dK []) (h' := s.heap.push { cls := .type "dict", data := .dict #[] }) (t' := s.toks) (fun _ _ q => Heap.get?_push_of_some _ q) (Nat.le_refl _) (dk_empty s.heap I.big)
  refine wpAny_Dict_walk (knd := mixKind X.prog X.w) hall hl h0 h15 (thn (h pins _ σ _ _ I1 (q _ hn)) fun ws s2 ⟨ps, H2, I2, rel, e, kvs, ep, lk, q2⟩ => ?_)
  subst ep
  obtain ⟨rs, c, rk⟩ := carries_of (P := X.prog) (w := X.w) rel
  obtain ⟨z, hd, vs0, r0, dd⟩ := dk_of I2.hok e
  cases r0
  refine ⟨rs, c, dd, fun h' dd' hs => ⟨.ref s.heap.objs.size, _, ?_, rfl, q2⟩⟩
  have hz : (mergeK [] kvs).length ≤ sizeLine := by
    have h1 := length_mergeK kvs []
    rw [List.length_nil] at h1
    rw [sizeLine_eq]; omega
  have he : ∃ q, h'.get? s.heap.objs.size = some q := let ⟨q, _, _, hq, _⟩ := dd'; ⟨q, hq⟩
  exact d_write I2 (by rw [e]; exact True.intro) hs he (dk_new hz hd (rk.merge .nil) dd')
structure M1 (X : Cx) (o : Expr) (m : Str) (apos : Pos) (e : Expr) (cpos : Pos) : Prop where
  base : attributeBase o m X.env (eval o X.env) = eval o X.env
  few : ((backTo cpos (starEach [e] X.env)).all (fun x => !x.1) && (backToKw cpos (keywordEach [] X.env)).all (fun x => x.1.isSome)
    && decide (([e] : List Expr).length + ([] : List Keyword).length + (if ([] : List Keyword).isEmpty then 0 else 1) < 30)) = true
  line : (apos.endLine == cpos.line) = true
  trees : backTo cpos (starEach [e] X.env) = [(false, eval e X.env)]
structure M2 (X : Cx) (o : Expr) (m : Str) (apos : Pos) (e f : Expr) (cpos : Pos) : Prop where
  base : attributeBase o m X.env (eval o X.env) = eval o X.env
  few : ((backTo cpos (starEach [e, f] X.env)).all (fun x => !x.1) && (backToKw cpos (keywordEach [] X.env)).all (fun x => x.1.isSome)
    && decide (([e, f] : List Expr).length + ([] : List Keyword).length + (if ([] : List Keyword).isEmpty then 0 else 1) < 30)) = true
  line : (apos.endLine == cpos.line) = true
  trees : backTo cpos (starEach [e, f] X.env) = [(false, eval e X.env), (false, eval f X.env)]
section
variable {X : Cx} {pins : List (Addr × Obj)} {σ : St} {H : Hp} {s : Shared} {a : Addr} {y d : V} {u r : Value} {o : Option V} {A : Around} {E : Value → Shared → Prop}
end
section
variable {X : Cx} {o e f : Expr} {apos cpos : Pos} {td ty tx : TE}
end
section
variable {X : Cx} {pins : List (Addr × Obj)} {σ : St} {H : Hp} {s : Shared} {a : Addr} {kvs : List (Key × V)} {A : Around} {E : Value → Shared → Prop}
end
section
variable {X : Cx} {pins : List (Addr × Obj)} {σ : St} {H : Hp} {s : Shared} {a : Addr} {y : V} {u : Value} {A : Around} {E : Value → Shared → Prop}
end
end L2
namespace Att
open PySem PySem.W PySem.Calls PyProof.Rows
theorem ints_of_wellAll {P : Params} {h : Heap} : ∀ (ns : List Int) (vs : List Value), WellAll P h vs (ns.map WData.int) → IntsAre vs ns := by
  intro ns
  induction ns with
  | nil =>
    intro vs w
    rw [List.map_nil] at w
    cases w
    exact .nil
  | cons n ns ih =>
    intro vs w
    rw [List.map_cons] at w
    cases w with
    | cons a b =>
      cases a
      exact .cons _ _ (ih _ b)
theorem script_of {l : OpenLaw} {n : Nat} (hn : l.most = some n) {P : Params} {h : Heap} {args : List WData} {vals : List Value}
    (hpre : l.row.toRowW.claim.pre args = true) (hwl : WellAll P h vals args) :
    ∃ a vs ns, vals = [Value.ref a] ∧ args = [WData.list (ns.map WData.int)] ∧ h.get? a = some { cls := .type "list", data := .seq vs.toArray } ∧ IntsAre vs ns ∧ ns.length ≤ n := by
  have hsh : WShape.hasAll [] args [.list .int] = true := (pre_splitW hpre).1
  have hc : l.pre.holds [] { args := args } = true := (pre_splitW hpre).2
  obtain ⟨d, r, rfl, h1, h2⟩ := hasAllW_cons hsh
  obtain rfl := hasAllW_nil h2
  obtain ⟨xs, rfl, h3⟩ := hasW_list h1
  obtain ⟨ns, rfl⟩ := items_int h3
  have hlen : ns.length ≤ n := by
    unfold OpenLaw.pre at hc
    have h4 : (WTm.not (.lt (.lit (.int (n : Int))) (.len (.arg 0)))).holds [] { args := [.list (ns.map .int)] } = true := by
      have h4 := (holds_andW hc).1
      rw [hn] at h4
      exact h4
    have h5 := condW_of h4 (w_not (w_lt w_lit (w_len_list (w_arg rfl))))
    rw [List.length_map] at h5
    refine Nat.le_of_not_lt fun q => ?_
    have q' : (n : Int) < ((ns.length : Nat) : Int) := by omega
    first
      | (rw [decide_eq_true q'] at h5; exact absurd h5 (by decide))
      | (simp at h5; omega)
  cases hwl with
  | cons w1 w2 =>
    cases w2
    cases w1 with
    | list ho hall => exact ⟨_, _, ns, rfl, rfl, ho, ints_of_wellAll ns _ hall, hlen⟩
theorem post_true (l : OpenLaw) (args : List WData) : l.row.toRowW.claim.post args (.bool true) args = true :=
  postW_of (r := l.row.toRowW) (X := (true == true))
    (show WShape.has [] (.bool true) .bool = true by first | rfl | decide | simp [WShape.has, WShape.arms, WShape.armsAll])
    (show (WTm.eq .res (.lit (.bool true))).value [] { args := args, res := some (.bool true), after := args } = some (.bool (true == true)) from w_eq_bool (w_res rfl) w_lit) rfl
theorem attach_call {l : OpenLaw} {n : Nat} {q : Program} {loose : List Str} {XP : (Str → Option Value) → Heap → Prop} {YP : World → Heap → Prop} {d : DefRec}
    (hn : l.most = some n) (hdf : d.params.defaults = [])
    (call : ∀ (w : World) (s₀ s₁ : Shared) (mg mb : Str → Option Value) (fa : Addr) (o : Obj) (pm cd doc : Value) (a : Addr) (vs : List Value) (ns : List Int),
      Ground q loose [] XP w s₀ mg mb s₁.heap → YP w s₁.heap →
      s₁.heap.get? fa = some o → o.data = .func (docDef d.name d.params d.body d.scope pm cd doc) → s₁.heap.CodeRec cd d.name → mg d.name = some (.ref fa) →
      s₁.heap.get? a = some { cls := .type "list", data := .seq vs.toArray } → IntsAre vs ns → ns.length ≤ n → s₁.gens = #[] →
      codeAny (model l.prog w) callerA (.call (.ref fa) ⟨[.ref a], []⟩) (fun r s' => r = .ok (.ret (.bool true)) ∧ OldK s₁.heap s'.heap ∧ s'.os = s₁.os ∧ AllBare s'.gens) s₁) :
    WalkO q loose XP YP l.row.toRowW d [] (fun f vs => PySem.call f vs) := by
  intro w s₀ s₁ mg mb G Y fa o pm cd doc dV kV ho hd hcd hD hmg hg args vals as hpre hlay hrd hwl hlo
  obtain rfl : dV = .none := Dflts.none hD hdf
  obtain rfl : kV = .none := Dflts.noKw hD
  obtain ⟨a, vs, ns, rfl, rfl, hobj, hints, hlen⟩ := script_of hn hpre hwl
  refine enter_call (codeAny_mono (call w s₀ s₁ mg mb fa o pm cd doc a vs ns G Y ho (fd_plain hd) hcd hmg hobj hints hlen hg) fun r s' hq => ?_)
  obtain ⟨rfl, h2, h3, h4⟩ := hq
  exact ⟨.inl ⟨.bool true, .bool true, [], rfl, fun _ => rfl, .bool true, post_true l _, fun _ => ⟨List.Pairwise.nil, fun _ hm => (nomatch hm)⟩⟩, h2, h3, h4⟩
section
variable {prog : Program} {w : World} {A : Around} {E : Value → Shared → Prop} {s : Shared} {K : Frag}
theorem make_obj {R : Result → Shared → Prop} {C fI : Addr} {rest : List Value} {kw : List (Str × Value)}
    (X : K.In s.heap) (hm : makesIn K C = true) (hi : findIn K (.ref C) "__init__" = some (some (.ref fI))) (hf : isFn K (.ref fI) = true)
    (h : codeAny (model prog w) (A.under (.builtin "type.__call__" ⟨.ref C :: rest, kw⟩)) (.call (.ref fI) ⟨.ref (s.heap.objs.size + 1) :: rest, kw⟩) (InitBack (s.heap.objs.size + 1) R)
      { s with heap := (s.heap.push emptyDict).push (instObj C s.heap.objs.size) }) : codeAny (model prog w) A (.call (.ref C) ⟨rest, kw⟩) R s := by
  obtain ⟨hh, g, d, t, os⟩ := s
  exact make_core (makes_of X hm) (looks_findIn X hi) (fun self => bind_fn X self (beq_iff_eq.mp hf)) (.inl rfl) h
theorem get_field {x C : Addr} {ox : Obj} {es : List DictEntry} {n : Nat} {name : Str} {expr : Bool} {v : Value} {Q : Value → Shared → Prop}
    (X : K.In s.heap) (I : PySem.W.InstAt s.heap x ox C (some (dictOf es n))) (hg : plainGet K C name = true) (hh : hasDictIn K C = true) (ha : findIn K (.ref C) name = some none)
    (hl : getL name es = some (some v)) (hv : handedIn v = true) (h : Q v { s with toks := s.toks + 1 }) : wpAny (model prog w) A (getAttr (.ref x) name expr) Q E s :=
  get_value X I (plainGet_of hg).1 (findObj_own hh ha rfl hl) hv h
end
end Att
namespace L2
open PySem PySem.Spec PyProof.Rows
theorem vals_ints : ∀ {vs : List Value} {ns : List Int}, IntsAre vs ns → Vals (ns.map V.int) vs
  | _, _, .nil => .nil
  | _, _, .cons n t h => .cons ⟨t, rfl⟩ (vals_ints h)
noncomputable def Only (H : Hp) : Prop := ∀ b, H b = none ∨ ∃ o xs, H b = some (.frz o (.lst xs))
theorem law_call {P : Program} {w : World} {K : PySem.W.Frag} {mg mb : Str → Option Value} {CX : CXT} {k : Nat} {fa a : Addr} {fd : FuncData} {x : Str} {sp : Sp} {s₁ : Shared} {vs : List Value} {ns : List Int}
    (KX : K.In s₁.heap) (hns : s₁.heap.Ns mainGlobals mg) (hb : s₁.heap.Ns builtinsNs mb) (hbb : ∀ x : Str, x ≠ "__name__" → mb x = bootBuiltins x) (hlim : s₁.heap.NoLimit) (hg : s₁.gens = #[])
    (ha : s₁.heap.get? a = some { cls := .type "list", data := .seq vs.toArray }) (hi : IntsAre vs ns) (hl : ns.length ≤ sizeLine) (hr : Room k callerA)
    (F : ∀ base : Heap, K.In base → base.Ns mainGlobals mg → FnOk P w K mg base CX k fa fd [x] sp) (hbind : ∀ (s : Shared) (u : Value), BindsTo s fd ⟨[u], []⟩ [(x, u)])
    (hsp : ∀ H : Hp, Only H → SqL K H a (ns.map V.int) → sp [.ref a] H (fun v _ => v = .bl true) fun _ _ _ => False)
    (hCX : ∀ H e s', CX [] H s₁ (fun _ _ _ => False) e s' → False) :
    codeAny (model P w) callerA (.call (.ref fa) ⟨[.ref a], []⟩) (fun r s' => r = .ok (.ret (.bool true)) ∧ OldK s₁.heap s'.heap ∧ s'.os = s₁.os ∧ AllBare s'.gens) s₁ := by
  have rv := vals_ints hi
  have lenV := hi.length
  -- from an abstract heap in which nothing but the script may be tracked
  have core : ∀ H : Hp, Only H → SqL K H a (ns.map V.int) → HOk P w H s₁.heap → (∀ b, H b ≠ none → b = a) → (H a ≠ none → K.lookup a = none) →
      codeAny (model P w) callerA (.call (.ref fa) ⟨[.ref a], []⟩) (fun r s' => r = .ok (.ret (.bool true)) ∧ OldK s₁.heap s'.heap ∧ s'.os = s₁.os ∧ AllBare s'.gens) s₁ := by
    intro H hO hS hok hA hK
    have base_of : ∀ {b : Addr} {o : Obj}, s₁.heap.get? b = some o → H b = none → (hidT s₁.heap H).get? b = some o := fun e n => hidT_get e n
    have noA : ∀ {b : Addr} {o : Obj} {es : Array DictEntry} {ep : Nat}, s₁.heap.get? b = some o → o.data = .dict es ep → H b = none := fun {b o es ep} e d => by
      cases q : H b with
      | none => rfl
      | some u =>
        have e' : b = a := hA b (by rw [q]; simp)
        subst e'
        rw [ha] at e; cases e
        have d' : Data.seq vs.toArray _ = Data.dict es ep := d
        cases d'
    have nsK : ∀ {b : Addr} {m : Str → Option Value}, s₁.heap.Ns b m → (hidT s₁.heap H).Ns b m := fun {b m} ⟨o, es, ep, e, d, r⟩ => ⟨o, es, ep, base_of e (noA e d), d, r⟩
    have hKb : K.In (hidT s₁.heap H) := fun b o e => base_of (KX b o e) (by
      cases q : H b with
      | none => rfl
      | some u =>
        have e' : b = a := hA b (by rw [q]; simp)
        subst e'
        rw [hK (by rw [q]; simp)] at e; cases e)
    have hM : Mod K mg (hidT s₁.heap H) := ⟨hKb, nsK hns, ⟨mb, nsK hb, hbb⟩, let ⟨mc, h1, h2⟩ := hlim; ⟨mc, nsK h1, h2⟩⟩
    have e0 : Env0 P w K mg (hidT s₁.heap H) callerA [] s₁ H := ⟨rfl, hM, fun b o e => of_hidT e, Nat.le_of_eq (hidT_size _ _), trivial, fun b hb => absurd (show b ∈ ([] : List Addr) from hb) (by simp), hok, .of_eq hg⟩
    refine codeAny_mono ((F _ hKb (nsK hns)).run callerA [] s₁ H ⟨[.ref a], []⟩ [.ref a] [.ref a] _ _ hr e0 (hbind s₁ (.ref a)) (.cons rfl .nil) (hsp H hO hS)) fun r s' h => ?_
    cases r with
    | error e => exact (hCX H e s' h).elim
    | ok fl =>
      cases fl with
      | next => exact False.elim h
      | brk => exact False.elim h
      | cont => exact False.elim h
      | ret u =>
        obtain ⟨v, H', os, bare, un, hok', r', q⟩ := h
        have q' : v = .bl true := q
        subst q'
        obtain rfl : u = Value.bool true := r'
        refine ⟨rfl, OldK.of_keep fun b o e => ?_, os, bare⟩
        cases q : H b with
        | none => exact un.keep b o e q (by intro z; exact absurd (show b ∈ ([] : List Addr) from z) (by simp)) (by simp)
        | some u =>
          rcases hO b with z | ⟨ob, xs, z⟩
          · rw [q] at z; cases z
          · have z2 := un.frzs b ob _ z
            obtain ⟨e1, _⟩ := hok b _ z
            obtain ⟨e2, _⟩ := hok' b _ z2
            rw [e] at e1; cases e1
            exact e2
  cases hk : K.lookup a with
  | some o =>
    -- the script is one of the module's own objects
    have e := KX a o hk
    rw [ha] at e
    cases e
    refine core (fun _ => none) (fun _ => .inl rfl) (.inr ⟨_, vs.toArray, _, hk, rfl, rfl, rfl, by rw [List.size_toArray, lenV]; exact hl, by simpa using rv⟩) (fun b u z => by have z' : (none : Option HO) = some u := z; cases z') (fun b z => absurd rfl z) fun z => absurd rfl z
  | none =>
    refine core (fun b => if b = a then some (.frz { cls := .type "list", data := .seq vs.toArray } (.lst (ns.map V.int))) else none) (fun b => ?_) (.inl (.inr ⟨{ cls := .type "list", data := .seq vs.toArray }, if_pos rfl⟩)) (fun b u z => ?_) (fun b z => ?_) fun _ => hk
    · by_cases hb : b = a
      · exact .inr ⟨_, _, if_pos hb⟩
      · exact .inl (if_neg hb)
    · by_cases hb : b = a
      · have z' := (if_pos hb).symm.trans z
        cases z'
        subst hb
        exact ⟨ha, by rw [List.length_map]; exact hl, vs, _, rv, ha⟩
      · have z' := (if_neg hb).symm.trans z
        cases z'
    · by_cases hb : b = a
      · exact hb
      · exact absurd (if_neg hb) z
end L2
namespace L2
open PySem PySem.Spec PyProof.Rows
noncomputable abbrev KOf {K : PySem.W.Frag} {h : Heap} (_ : K.In h) : PySem.W.Frag := K
theorem walk_of {l : PySem.W.OpenLaw} {n k : Nat} {q : Program} {loose : List Str} {XP : (Str → Option Value) → Heap → Prop} {YP : World → Heap → Prop} {d : DefRec} {K : Params → PySem.W.Frag} {CX : World → CXT} {sp : World → Sp} {x : Str}
    (hn : l.most = some n) (hn2 : n ≤ sizeLine) (hdf : d.params.defaults = []) (hr : Room k callerA)
    (hY : ∀ (w : World) (h : Heap), YP w h → (K w.params).In h)
    (F : ∀ (w : World) (mg : Str → Option Value) (fa : Addr) (h : Heap), (K w.params).In h → h.Ns mainGlobals mg → mg d.name = some (.ref fa) →
      ∃ fd : FuncData, (∀ (s : Shared) (u : Value), BindsTo s fd ⟨[u], []⟩ [(x, u)]) ∧
        ∀ base : Heap, (K w.params).In base → base.Ns mainGlobals mg → FnOk l.prog w (K w.params) mg base (CX w) k fa fd [x] (sp w))
    (hsp : ∀ (w : World) (H : Hp) (a : Addr) (ns : List Int), ns.length ≤ n → Only H → SqL (K w.params) H a (ns.map V.int) → sp w [.ref a] H (fun v _ => v = .bl true) fun _ _ _ => False)
    (hCX : ∀ (w : World) (H : Hp) (s : Shared) (e : Value) (s' : Shared), CX w [] H s (fun _ _ _ => False) e s' → False) :
    PySem.W.WalkO q loose XP YP l.row.toRowW d [] (fun f vs => PySem.call f vs) := by
  refine Att.attach_call hn hdf fun w s₀ s₁ mg mb fa o pm cd doc a vs ns G Y ho hd hcd hmg hobj hints hlen hg => ?_
  have KX := hY w _ Y
  obtain ⟨fd, hb, hF⟩ := F w mg fa _ KX G.T.g hmg
  exact law_call KX G.T.g G.T.b G.T.builtins G.T.nolimit hg hobj hints (Nat.le_trans hlen hn2) hr hF hb (fun H hO hS => hsp w H a ns hlen hO hS) fun H e s' => hCX w H s₁ e s'
end L2
namespace L2
open PySem PySem.Spec PyProof.Rows
noncomputable def defArgs (s : Stmt) : Arguments := match s with
  | .FunctionDef _ a _ _ _ _ _ _ _ _ => a
  | _ => { posonlyargs := [], args := [], vararg := none, kwonlyargs := [], kw_defaults := [], kwarg := none, defaults := [] }
noncomputable def defBody (s : Stmt) : List Stmt := match s with
  | .FunctionDef _ _ b _ _ _ _ _ _ _ => b
  | _ => []
noncomputable def defScope (s : Stmt) : Scope := match s with
  | .FunctionDef _ _ _ _ _ _ sc _ _ _ => sc
  | _ => { kind := .function, names := [], isGenerator := false, isCoroutine := false }
noncomputable abbrev CX0 : CXT := fun _ _ _ _ _ _ => False
noncomputable abbrev E0 : XK := fun _ _ _ => False
theorem pass0 {X : Cx} : Passes CX0 X E0 := fun _ _ _ _ _ _ _ h => h.elim
structure Fun (K : PySem.W.Frag) (x qual : Str) (st : Stmt) (f : Addr) (fd : FuncData) : Prop where
  ex : ∃ (oc : Value) (od : Option Addr) (kV doc pm : Value) (an : Option Addr) (cdv ct : Value) (osl : Array (Option Value)),
    fd = PySem.W.fnOf x qual (defArgs st) (defBody st) (defScope st) .none kV doc pm an cdv ct ∧ K.lookup f = some ⟨oc, od, .func fd, osl⟩ ∧ PySem.W.codeIn K cdv qual = true
  kp : PySem.W.keepIn K (.ref f) = true
section
variable {P : Program} {w : World} {K : PySem.W.Frag} {mg : Str → Option Value} {base : Heap}
theorem Fun.ok {x qual : Str} {st : Stmt} {f : Addr} {fd : FuncData} {N ps : List Str} {k : Nat} {sp : Sp} (F : Fun K x qual st f fd) (S : FnScope N ps (defScope st)) (len : ∀ vs H Q E, sp vs H Q E → vs.length = ps.length)
    (hbody : ∀ (cdv : Value) (A : Around) (outer : List Env) (s : Shared) (H : Hp) (vs : List V) (Q : VK) (E : XK), Room k (A.deeper (envOfC qual (defScope st) s.heap.objs.size f cdv)) → sp vs H Q E →
      ∃ t, PSs (cxOf CX0 P w K mg base N qual (defScope st) f cdv A outer s H E).nox (defBody st) t ∧ t { nx := fun _ H' => Q .non H', rt := Q } (start N vs) H) : FnOk P w K mg base CX0 (k + 1) f fd ps sp := by
  obtain ⟨oc, od, kV, doc, pm, an, cdv, ct, osl, rfl, lk, hcd⟩ := F.ex
  refine fn_of lk hcd S len fun A outer s H vs Q E hr hsp => ?_
  obtain ⟨t, h, q⟩ := hbody cdv A outer s H vs Q E hr hsp
  exact ⟨t, h.nox, q⟩
theorem Fun.binds {x qual : Str} {st : Stmt} {f : Addr} {fd : FuncData} {ps : List Str} (F : Fun K x qual st f fd)
    (h : ∀ (kV doc pm : Value) (an : Option Addr) (cdv ct : Value) (us : List Value), us.length = ps.length → bindArgs (PySem.W.fnOf x qual (defArgs st) (defBody st) (defScope st) .none kV doc pm an cdv ct) ⟨us, []⟩ = pure (ps.zip us)) : Binds K fd ps [] := by
  obtain ⟨oc, od, kV, doc, pm, an, cdv, ct, osl, rfl, lk, hcd⟩ := F.ex
  exact .all (h kV doc pm an cdv ct)
theorem fun_mk {x qual : Str} {st : Stmt} {f : Addr} {oc : Value} {od an : Option Addr} {osl : Array (Option Value)} {kV doc pm cdv ct : Value} (l : K.lookup f = some ⟨oc, od, .func (PySem.W.fnOf x qual (defArgs st) (defBody st) (defScope st) .none kV doc pm an cdv ct), osl⟩)
    (c : PySem.W.codeIn K cdv qual = true) (k : PySem.W.keepIn K (.ref f) = true) : Fun K x qual st f (PySem.W.fnOf x qual (defArgs st) (defBody st) (defScope st) .none kV doc pm an cdv ct) := ⟨⟨oc, od, kV, doc, pm, an, cdv, ct, osl, rfl, l, c⟩, k⟩
end
theorem hu_of {A : Around} {k : Nat} (hr : Room k A) : A.units + 1 < cLine := Nat.lt_of_le_of_lt (Nat.add_le_add_left (by decide : 1 ≤ 64) _) hr.units
section
variable {X : Cx}
end
noncomputable def Same (H H' : Hp) : Prop := ∀ b o, H b = some o → H' b = some o
theorem Same.refl (H : Hp) : Same H H := fun _ _ h => h
theorem Same.trans {H H1 H2 : Hp} (a : Same H H1) (b : Same H1 H2) : Same H H2 := fun c o h => b c o (a c o h)
theorem Same.free {H H' : Hp} (e : Same H H') {l : Addr} (h : H' l = Option.none) : H l = Option.none := by
  cases q : H l with
  | none => rfl
  | some o =>
    rw [e l o q] at h
    cases h
theorem Same.seq {K : PySem.W.Frag} {H H' : Hp} {a : Addr} {xs : List V} (e : Same H H') (h : SqL K H a xs) : SqL K H' a xs := by
  rcases h with (h | ⟨o, h⟩) | h
  · exact .inl (.inl (e _ _ h))
  · exact .inl (.inr ⟨o, e _ _ h⟩)
  · exact .inr h
end L2
namespace L2
open PySem PySem.Spec PyProof.Rows
section
variable {X : Cx}
end
section
variable {κ : Type} [DecidableEq κ]
end
end L2
set_option maxHeartbeats 4000000
namespace L2
open PySem PySem.Spec PyProof.Rows
noncomputable abbrev runIfs (ifs : List Expr) (env : Env) : Sem Bool :=
  forIn ifs true fun c r => if r = true then do let ok ← isTrue c env (eval c env); pure (ForInStep.yield ok) else pure (ForInStep.yield r)
theorem comp_loop {prog : Program} {w : World} {A : Around} {R : Result → Shared → Prop} {s : Shared} {elt tg iter : Expr} {ifs : List Expr} {scope : Scope} {pos : Pos} {it acc : Value} {env : Env} (I : Nat → Shared → Prop)
    (turn : ∀ n s, I n s → wpAny (model prog w) A (pyNext it) (fun r s1 => match r with
      | none => R (.ok .next) s1
      | some v => wpAny (model prog w) A (letOwnedTupleGo tg it v) (fun _ s2 => wpAny (model prog w) A (assign tg env v) (fun _ s3 => wpAny (model prog w) A (runIfs ifs env) (fun ok s4 =>
          if ok = true then wpAny (model prog w) A (eval elt env) (fun x s5 => wpAny (model prog w) A (call (.builtin "list.append") [acc, x]) (fun _ s6 => ∃ m, m < n ∧ I m s6) (fun _ _ => False) s5) (fun _ _ => False) s4
          else ∃ m, m < n ∧ I m s4) (fun _ _ => False) s3) (fun _ _ => False) s2) (fun _ _ => False) s1) (fun _ _ => False) s)
    (n : Nat) (h : I n s) : codeAny (model prog w) A (.compLoop (.ListComp elt [⟨tg, iter, ifs, 0⟩] scope pos) 0 it acc env) R s := by
  refine codeAny_loop rfl I (fun n s hI => ?_) n h
  show wpAny _ A ((compTurn (.ListComp elt [⟨tg, iter, ifs, 0⟩] scope pos) 0 it acc env).onRaise (fun x => do noteFrame x env; theTreesLotGoes x)) _ _ s
  refine wpAny_noted (wpAny_noRaise ?_)
  rw [compTurn_list]
  refine wpAny_bind (wpAny_standAt (wpAny_bind (thn (turn n s hI) fun r s1 h1 => ?_)))
  cases r with
  | none => exact wpAny_pure h1
  | some v =>
    refine wpAny_bind (thn h1 fun _ s2 h2 => wpAny_bind (thn h2 fun _ s3 h3 => wpAny_bind (thn h3 fun ok s4 h4 => ?_)))
    cases ok with
    | false => exact wpAny_pure ⟨rfl, h4⟩
    | true => exact wpAny_bind (wpAny_bind (thn h4 fun x s5 h5 => wpAny_bind (thn h5 fun _ s6 h6 => wpAny_pure (wpAny_pure ⟨rfl, h6⟩))))
theorem closure_go (env : Env) : ∀ (names : List (Str × NameKind)) (cs : List (Str × Addr)), (∀ n, (n, NameKind.free) ∈ names → ∃ c, env.cells.lookup n = some c) → (∀ n c, cs.lookup n = some c → env.cells.lookup n = some c) →
    ∃ cl, (forIn names cs fun (p : Str × NameKind) (r : List (Str × Addr)) => (if p.2 == NameKind.free then do let c ← cellOf env p.1; pure (ForInStep.yield ((p.1, c) :: r)) else pure (ForInStep.yield r) : Sem (ForInStep (List (Str × Addr))))) = pure cl ∧
      (∀ n c, cl.lookup n = some c → env.cells.lookup n = some c) ∧ (∀ n, ((n, NameKind.free) ∈ names ∨ ∃ c, cs.lookup n = some c) → ∃ c, cl.lookup n = some c)
  | [], cs, _, hcs => ⟨cs, rfl, hcs, fun n h => h.elim (fun z => nomatch z) id⟩
  | (m, k) :: r, cs, hn, hcs => by
    cases hk : k == NameKind.free with
    | false =>
      obtain ⟨cl, e, h1, h2⟩ := closure_go env r cs (fun n z => hn n (List.mem_cons_of_mem _ z)) hcs
      refine ⟨cl, ?_, h1, fun n z => h2 n ?_⟩
      · rw [List.forIn_cons]; simp only [hk]; exact e
      · rcases z with z | z
        · rcases List.mem_cons.mp z with q | q
          · cases q; simp at hk
          · exact .inl q
        · exact .inr z
    | true =>
      have ek : k = NameKind.free := by simpa using hk
      subst ek
      obtain ⟨c, hc⟩ := hn m List.mem_cons_self
      obtain ⟨cl, e, h1, h2⟩ := closure_go env r ((m, c) :: cs) (fun n z => hn n (List.mem_cons_of_mem _ z)) (fun n c' z => by
        by_cases q : n = m
        · subst q; simp [List.lookup_cons] at z; subst z; exact hc
        · rw [List.lookup_cons, beq_eq_false_iff_ne.mpr q] at z; exact hcs n c' z)
      refine ⟨cl, ?_, h1, fun n z => h2 n ?_⟩
      · rw [List.forIn_cons]; simp only [cellOf, hc]; exact e
      · rcases z with z | ⟨c', z⟩
        · rcases List.mem_cons.mp z with q | q
          · cases q; exact .inr ⟨c, by simp [List.lookup_cons]⟩
          · exact .inl q
        · by_cases q : n = m
          · subst q; exact .inr ⟨c, by simp [List.lookup_cons]⟩
          · exact .inr ⟨c', by rw [List.lookup_cons, beq_eq_false_iff_ne.mpr q]; exact z⟩
theorem closure_of {scope : Scope} {env : Env} (hn : ∀ n, (n, NameKind.free) ∈ scope.names → ∃ c, env.cells.lookup n = some c) :
    ∃ cl, closureFor scope env = pure cl ∧ (∀ n c, cl.lookup n = some c → env.cells.lookup n = some c) ∧ (∀ n, (n, NameKind.free) ∈ scope.names → ∃ c, cl.lookup n = some c) := by
  obtain ⟨cl, e, h1, h2⟩ := closure_go env scope.names [] hn (fun _ _ z => nomatch z)
  refine ⟨cl, ?_, h1, fun n z => h2 n (.inl z)⟩
  unfold closureFor
  simp only [bind_pure]
  exact e
end L2
set_option maxHeartbeats 4000000
namespace L2
open PySem PySem.Spec PyProof.Rows
noncomputable def relNames (names onames : List (Str × NameKind)) : List (Str × NameKind) :=
  names.map fun (n, k) => if (k == .free && onames.lookup n == some .cell) then (n, .cell) else (n, k)
noncomputable def compOk (sc osc : Scope) (N rest : List Str) : Bool :=
  (sc.kind == .function && osc.kind == .function && sc.names.all fun y => y.2 != .cell && (y.2 != .local || sc.names.lookup y.1 == some .local) && (y.2 != .free || osc.names.lookup y.1 == some .cell || osc.names.lookup y.1 == some .free))
  && N.length == rest.length && (N.zip rest).all fun p => match (relNames sc.names osc.names).lookup p.2 with
    | some .local => false
    | some .cell => p.1 == p.2 && (p.2, NameKind.free) ∈ sc.names && (osc.names.lookup p.2 == some .cell || osc.names.lookup p.2 == some .free)
    | some .free => p.1 == p.2 && (p.2, NameKind.free) ∈ sc.names && (osc.names.lookup p.2 == some .cell || osc.names.lookup p.2 == some .free)
    | _ => true
structure CompSc (sc osc : Scope) (N rest : List Str) : Prop where
  kind : sc.kind = .function
  okind : osc.kind = .function
  cell : ∀ y ∈ sc.names, y.2 ≠ .cell
  loc : ∀ y ∈ sc.names, y.2 = .local → sc.names.lookup y.1 = some .local
  free : ∀ n, (n, NameKind.free) ∈ sc.names → osc.names.lookup n = some .cell ∨ osc.names.lookup n = some .free
  len : N.length = rest.length
  look : ∀ (i : Nat) x, rest[i]? = some x → ((relNames sc.names osc.names).lookup x = some .local ∨ (relNames sc.names osc.names).lookup x = some .cell ∨ (relNames sc.names osc.names).lookup x = some .free) →
    N[i]? = some x ∧ (x, NameKind.free) ∈ sc.names ∧ (osc.names.lookup x = some .cell ∨ osc.names.lookup x = some .free) ∧ ((relNames sc.names osc.names).lookup x = some .cell ∨ (relNames sc.names osc.names).lookup x = some .free)
theorem compOk_is {sc osc : Scope} {N rest : List Str} (h : compOk sc osc N rest = true) : CompSc sc osc N rest := by
  unfold compOk at h
  simp only [Bool.and_eq_true, beq_iff_eq, List.all_eq_true] at h
  obtain ⟨⟨⟨⟨hk, hok⟩, hy⟩, hl⟩, hz⟩ := h
  refine ⟨hk, hok, fun y z e => ?_, fun y z e => ?_, fun n z => ?_, hl, fun i x e v => ?_⟩
  · have := (hy y z).1.1; rw [e] at this; simp at this
  · have := (hy y z).1.2; rw [e] at this; simpa using this
  · have := (hy _ z).2; simpa using this
  · have hi : i < rest.length := (List.getElem?_eq_some_iff.mp e).1
    have hi' : i < N.length := by omega
    have hN : N[i]? = some N[i] := List.getElem?_eq_getElem hi'
    have hm : (N[i], x) ∈ N.zip rest := by
      refine List.mem_of_getElem? (i := i) ?_
      rw [List.getElem?_zip_eq_some]; exact ⟨hN, e⟩
    have q := hz _ hm
    dsimp only at q
    rcases v with v | v | v
    · rw [v] at q; simp at q
    · rw [v] at q; simp only [Bool.and_eq_true, beq_iff_eq, Bool.or_eq_true, decide_eq_true_eq] at q
      obtain ⟨⟨q1, q2⟩, q3⟩ := q
      exact ⟨by rw [hN, q1], q2, q3, .inl v⟩
    · rw [v] at q; simp only [Bool.and_eq_true, beq_iff_eq, Bool.or_eq_true, decide_eq_true_eq] at q
      obtain ⟨⟨q1, q2⟩, q3⟩ := q
      exact ⟨by rw [hN, q1], q2, q3, .inr v⟩
theorem relabel_names {sc : Scope} {env : Env} (hk : env.scope.kind = .function) : (relabel sc env).names = relNames sc.names env.scope.names := by
  unfold relabel relNames Env.kindOf
  simp [hk]
theorem rel_free {names onames : List (Str × NameKind)} (hc : ∀ y ∈ names, y.2 ≠ .cell) {x : Str} (h : (relNames names onames).lookup x = some .cell ∨ (relNames names onames).lookup x = some .free) : (x, NameKind.free) ∈ names := by
  have hm : (x, NameKind.cell) ∈ relNames names onames ∨ (x, NameKind.free) ∈ relNames names onames := h.imp PySem.mem_of_lookup PySem.mem_of_lookup
  rcases hm with hm | hm
  · obtain ⟨⟨n, k⟩, hn, e⟩ := List.mem_map.mp hm
    dsimp only at e
    split at e
    · rename_i hh; cases e; simp at hh; obtain ⟨rfl, _⟩ := hh; exact hn
    · cases e; exact absurd rfl (hc _ hn)
  · obtain ⟨⟨n, k⟩, hn, e⟩ := List.mem_map.mp hm
    dsimp only at e
    split at e
    · cases e
    · cases e; exact hn
noncomputable def compCx (X : Cx) (scope : Scope) (N' : List Str) (cl : List (Str × Addr)) (s2 : Shared) (H2 : Hp) (C : Addr) (fp : List Addr) : Cx :=
  { X with N := N', s₀ := s2, H₀ := H2, env := compEnvC scope cl C X.env, outer := X.stack, stack := X.stack, ex := fp, fn := fun _ => false, pn := [], xe := fun _ _ => False }
section
variable {X : Cx} {pins : List (Addr × Obj)} {σ : St} {H2 : Hp} {s2 : Shared} {scope : Scope} {own rest : List Str} {cl : List (Str × Addr)} {fp : List Addr} {C : Addr}
theorem compCx_ok (I : Inv X pins σ H2 s2) (S : CompSc scope X.env.scope X.N rest) (h1 : ∀ n c, cl.lookup n = some c → X.env.cells.lookup n = some c) (h2 : ∀ n, (n, NameKind.free) ∈ scope.names → ∃ c, cl.lookup n = some c)
    (hC : s2.heap.objs.size ≤ C) (hf : ∀ b ∈ fp, FpOk X pins H2 b) (ho : ∀ b ∈ fp, ∃ o, s2.heap.get? b = some o) : (compCx X scope (own ++ rest) cl s2 H2 C fp).Ok where
  mod := I.ok.mod
  kind := S.kind
  glob := I.ok.glob
  blt := I.ok.blt
  above := hC
  inj := fun x y c e1 e2 => I.ok.inj x y c (h1 x c e1) (h1 y c e2)
  has := fun x hx => h2 x (rel_free S.cell (by
    have e : (compCx X scope (own ++ rest) cl s2 H2 C fp).env.kindOf x = (relNames scope.names X.env.scope.names).lookup x := congrArg (List.lookup x) (relabel_names (sc := scope) I.ok.kind)
    rw [e] at hx; exact hx))
  cab := fun _ _ z => nomatch z
  hd := I.ok.hd
  frames := I.ok.frames
  stk := .inl rfl
  exf := fun b hb => by
    obtain ⟨o, e⟩ := ho b hb
    exact ⟨Nat.ne_of_lt (Nat.lt_of_lt_of_le (Heap.lt_size e) hC), fun x c e => (hf b hb).2.2.2.2.1 x c (h1 x c e)⟩
  bs := I.bs
  bsz := Nat.le_trans I.ok.bsz I.sz
  noex := fun b o e hb => by
    rcases (hf b hb).2.2.2.1 with z | z
    · exact I.ok.noex b o e z
    · exact absurd (Nat.lt_of_lt_of_le (Heap.lt_size e) (Nat.le_trans I.ok.bsz z)) (Nat.lt_irrefl _)
  exfs := fun b hb z => by
    rcases List.mem_cons.mp (I.stkSub b z) with q | q
    · exact (hf b hb).2.1 q
    · exact (hf b hb).2.2.1 q
  funs := I.stack
  frf := I.stkFree
theorem comp_start {h1 : Heap} {t1 : Nat} (I : Inv X pins σ H2 s2) (S : CompSc scope X.env.scope X.N rest) (hc1 : ∀ n c, cl.lookup n = some c → X.env.cells.lookup n = some c) (hc2 : ∀ n, (n, NameKind.free) ∈ scope.names → ∃ c, cl.lookup n = some c)
    (hC : s2.heap.objs.size ≤ C) (hf : ∀ b ∈ fp, FpOk X pins H2 b) (ho : ∀ b ∈ fp, ∃ o, s2.heap.get? b = some o)
    (old : ∀ b o, s2.heap.get? b = some o → h1.get? b = some o) (ns : h1.Ns C fun _ => none) :
    Inv (compCx X scope (own ++ rest) cl s2 H2 C fp) [] (List.replicate own.length none ++ σ) H2 { s2 with heap := h1, toks := t1 } := by
  obtain ⟨m, hn, hl⟩ := id I.loc
  have hv : ∀ x, Vis (compCx X scope (own ++ rest) cl s2 H2 C fp).env.scope x → ((relNames scope.names X.env.scope.names).lookup x = some .local ∨ (relNames scope.names X.env.scope.names).lookup x = some .cell ∨ (relNames scope.names X.env.scope.names).lookup x = some .free) := fun x z => by
    have e : (compCx X scope (own ++ rest) cl s2 H2 C fp).env.scope.names = relNames scope.names X.env.scope.names := relabel_names (sc := scope) I.ok.kind
    unfold Vis at z; rw [e] at z; exact z
  refine ⟨compCx_ok I S hc1 hc2 hC hf ho, rfl, I.bare, Un.kept old, ⟨_, ns, fun i x v e1 e2 e3 => ?_⟩, fun x c e => ?_, I.hok.fresh hC, fun x c e => I.freeC x c (hc1 x c e), fun p hp => absurd (show p ∈ ([] : List (Addr × Obj)) from hp) (by simp), I.hok.kept old, ?_⟩
  · have e1' : (own ++ rest)[i]? = some x := e1
    by_cases hi : i < own.length
    · rw [List.getElem?_append_left (by simpa using hi), List.getElem?_replicate] at e2
      split at e2 <;> cases e2
    · have hi' : own.length ≤ i := Nat.le_of_not_lt hi
      rw [List.getElem?_append_right (by simpa using hi'), List.length_replicate] at e2
      rw [List.getElem?_append_right hi'] at e1'
      obtain ⟨q1, q2, q3, q4⟩ := S.look _ x e1' (hv x e3)
      obtain ⟨u, r, l⟩ := hl (i - own.length) x v q1 e2 (q3.elim (fun z => .inr (.inl z)) fun z => .inr (.inr z))
      refine ⟨u, r, .inr ⟨?_, ?_⟩⟩
      · have e : (compCx X scope (own ++ rest) cl s2 H2 C fp).env.kindOf x = (relNames scope.names X.env.scope.names).lookup x := congrArg (List.lookup x) (relabel_names (sc := scope) I.ok.kind)
        rw [e]; exact q4
      · rcases l with ⟨k, _⟩ | ⟨_, c, e, z⟩
        · have k' : X.env.scope.names.lookup x = some .local := k
          rcases q3 with q3 | q3 <;> (rw [q3] at k'; cases k')
        · obtain ⟨c', e'⟩ := hc2 x q2
          have e2 := hc1 x c' e'
          rw [e] at e2; cases e2
          obtain ⟨o, q, d⟩ := z
          exact ⟨c, e', o, old c o q, d⟩
  · obtain ⟨v, o, q, d⟩ := I.cell x c (hc1 x c e)
    exact ⟨v, o, old c o q, d⟩
  · show _ = (own ++ rest).length
    have := I.len; have := S.len
    simp only [List.length_append, List.length_replicate]; omega
theorem comp_end {H' : Hp} {s' : Shared} {σ' : St} {D : Addr} {ys : List V} {its : List Value} {n : Nat} {pins' : List (Addr × Obj)} (I : Inv X pins σ H2 s2) (J : Inv (compCx X scope (own ++ rest) cl s2 H2 C fp) pins' σ' H' s') (hf : ∀ b ∈ fp, FpOk X pins H2 b)
    (hD : s2.heap.objs.size ≤ D) (hDn : H' D = none) (hDo : s'.heap.get? D = some { cls := .type "list", data := .seq its.toArray n }) (r : Vals ys its) (hz : ys.length ≤ sizeLine) :
    Inv X pins σ (upd H' D (.lst ys)) s' := by
  have u : Un (frs X.stack) fp H2 H' s2.heap s'.heap := J.base
  have nD : ∀ b o, s2.heap.get? b = some o → b ≠ D := fun b o e => Nat.ne_of_lt (Nat.lt_of_lt_of_le (Heap.lt_size e) hD)
  refine I.call' (ch := fp) J.os ⟨u.keep, u.slot, fun b o e n hx => ?_, u.there, fun b xs e => ?_, fun b o v e => ?_, fun b ps e => ?_⟩ (fun b o e => ?_) J.bare fun b hb => ?_
  · rw [upd_ne (nD b o e)]; exact u.free b o e n hx
  · rw [upd_ne (ne_of_none (u.tups b xs e) hDn)]; exact u.tups b xs e
  · rw [upd_ne (ne_of_none (u.frzs b o v e) hDn)]; exact u.frzs b o v e
  · obtain ⟨more, q⟩ := u.tbls b ps e
    exact ⟨more, by rw [upd_ne (ne_of_none q hDn)]; exact q⟩
  · by_cases hb : b = D
    · subst hb; rw [upd_same] at e; cases e; exact ⟨hz, its, n, r, hDo⟩
    · rw [upd_ne hb] at e
      exact (J.hok b o e).stay (fun c v _ q => q) (fun c q => by rw [upd_ne (ne_of_none q hDn)]; exact q) fun c xs q => by rw [upd_ne (ne_of_none q hDn)]; exact q
  · obtain ⟨_, f1, _, f3, f4, f5⟩ := hf b hb
    exact ⟨f3, f1, f4, f5⟩
end
end L2
set_option maxHeartbeats 4000000
namespace L2
open PySem PySem.Spec PyProof.Rows
noncomputable def PTs (X : Cx) (ifs : List Expr) (t : TT) : Prop :=
  ∀ (pins : List (Addr × Obj)) (s : Shared) (σ : St) (H : Hp) (Q : Bool → Hp → Prop), Inv X pins σ H s → t σ H Q → wpAny (model X.prog X.w) X.A (runIfs ifs X.env) (TP X pins σ Q) X.xe s
noncomputable def tYes : TT := fun _ H Q => Q true H
theorem pts_nil {X : Cx} : PTs X [] tYes := fun _ _ _ H _ I h => wpAny_tests_nil ⟨H, I, h⟩
theorem pts_one {X : Cx} {c : Expr} {t : TT} (h : PT X c t) : PTs X [c] t := fun pins s σ H Q I q => wpAny_tests_one (h pins s σ H Q I q)
noncomputable def CompW (J : It) (g : TG) (tt : TT) (te : TE) (fin : List V → Hp → Prop) (σ0 : St) (H1 : Hp) : Prop :=
  ∃ W : Nat → Nat → List V → St → Hp → Prop, (∃ m, W 0 m [] σ0 H1) ∧ ∀ i m ys σ H, W i m ys σ H →
    (J.stop i H ∧ fin ys H) ∨ (J.go i H ∧ ys.length < sizeLine ∧ ∃ N : List V → St → Hp → Prop, (∀ ys' σ' H', N ys' σ' H' → ∃ m', m' < m ∧ W (i + 1) m' ys' σ' H') ∧
      ∀ x H', J.yld i H x H' → g x σ H' fun σ2 H2 => tt σ2 H2 fun b H3 => if b = true then te σ2 H3 fun y H4 => N (ys ++ [y]) σ2 H4 else N ys σ2 H3)
section
variable {X : Cx} {pins : List (Addr × Obj)} {σ : St} {H2 : Hp} {s2 : Shared} {scope : Scope} {own rest : List Str} {cl : List (Str × Addr)} {fp : List Addr} {E : Value → Shared → Prop}
theorem comp_run {elt tg iter : Expr} {ifs : List Expr} {pos : Pos} {J : It} {it : Addr} {tn : Nat → Heap → Prop} {g : TG} {tt : TT} {te : TE} {fin : List V → Hp → Prop} {RR : Value → Addr → Result → Shared → Prop} {D : Nat} (hD : s2.heap.objs.size = D) (hcalm : X.calm = true)
    (I : Inv X pins σ H2 s2) (S : CompSc scope X.env.scope X.N rest) (hc1 : ∀ n c, cl.lookup n = some c → X.env.cells.lookup n = some c) (hc2 : ∀ n, (n, NameKind.free) ∈ scope.names → ∃ c, cl.lookup n = some c)
    (T : Turn X.prog X.w X.K tg J fp it tn) (st : tn 0 s2.heap) (hf : ∀ b ∈ fp, FpOk X pins H2 b)
    (hg : PG (compCx X scope (own ++ rest) cl s2 H2 (D + 1 : Nat) fp) tg g) (ht : PTs (compCx X scope (own ++ rest) cl s2 H2 (D + 1 : Nat) fp) ifs tt)
    (he : PE (compCx X scope (own ++ rest) cl s2 H2 (D + 1 : Nat) fp) elt te)
    (hw : CompW J g tt te fin (List.replicate own.length none ++ σ) H2)
    (hR : ∀ (s' : Shared) (H' : Hp) (ys : List V), Inv X pins σ (upd H' D (.lst ys)) s' → (∃ m, s'.heap.Ns (D + 1 : Nat) m) → H' D = none → H' (D + 1 : Nat) = none → fin ys H' → RR (.ref D) (D + 1 : Nat) (.ok .next) s') :
    wpAny (model X.prog X.w) X.A (newList []) (fun acc s3 => wpAny (model X.prog X.w) X.A (newFunctionEnv scope X.env.globals cl [] X.env.qual none .none (some X.env)) (fun cenv s4 =>
      codeAny (model X.prog X.w) X.A (.compStart (.ListComp elt [⟨tg, iter, ifs, 0⟩] scope pos) 0 (.ref it) acc { cenv with scope := relabel scope X.env }) (RR acc cenv.locals) s4) E s3) E s2 := by
  refine wpAny_newObj_type (wpAny_newFunctionEnv S.cell (by intro y hy; simp at hy) (fun h1 hns hsb => ?_) S.kind)
  dsimp only at hns hsb ⊢
  generalize hHp : s2.heap.push { cls := .type "list", dict := none, data := .seq ([] : List Value).toArray } = Hp2 at hns hsb ⊢
  have hC : Hp2.objs.size = s2.heap.objs.size + 1 := by rw [← hHp, Heap.size_push]
  rw [hD] at hC
  rw [hC] at hns hsb ⊢
  rw [hD]
  have nDC : D ≠ D + 1 := Nat.ne_of_lt (Nat.lt_succ_self _)
  have below : ∀ b o, s2.heap.get? b = some o → b < D := fun b o e => by rw [← hD]; exact Heap.lt_size e
  have old : ∀ b o, s2.heap.get? b = some o → h1.get? b = some o := fun b o e => by
    exact hsb.extBut b o (Nat.ne_of_lt (Nat.lt_succ_of_lt (below b o e))) (Heap.get?_push_of_some _ (hHp ▸ Heap.get?_push_of_some _ e))
  have hDo : h1.get? D = some { cls := .type "list", data := .seq ([] : List Value).toArray 0 } :=
    hsb.extBut _ _ nDC (Heap.get?_push_of_some _ (by rw [← hHp, ← hD]; exact Heap.get?_push_size _ rfl))
  have hfo : ∀ b ∈ fp, ∃ o, s2.heap.get? b = some o := fun b hb => let ⟨o, e, _⟩ := T.obj 0 _ st b hb; ⟨o, e⟩
  have st1 : tn 0 h1 := T.keep _ _ _ st fun b hb o e => old b o e
  have J0 : Inv (compCx X scope (own ++ rest) cl s2 H2 (D + 1 : Nat) fp) [] (List.replicate own.length none ++ σ) H2 { s2 with heap := h1, toks := s2.toks } :=
    comp_start I S hc1 hc2 (by omega) hf hfo old hns
  have nfs : D ∉ (compCx X scope (own ++ rest) cl s2 H2 (D + 1 : Nat) fp).fs := fun z => by
    have z' : D ∈ frs X.stack := z
    rcases List.mem_cons.mp (I.stkSub D z') with q | q
    · exact Nat.lt_irrefl D (by have h := I.lt; rw [← q, hD] at h; exact h)
    · exact I.nofs (Nat.le_of_eq hD) q
  have ncl : ∀ x c, (compCx X scope (own ++ rest) cl s2 H2 (D + 1 : Nat) fp).env.cells.lookup x = some c → c ≠ D := fun x c e z => by
    obtain ⟨v, o, q, d⟩ := I.cell x c (hc1 x c e)
    exact Nat.ne_of_lt (below c o q) z
  have loop : ∀ s3 : Shared, s3 = { s2 with heap := h1, toks := s2.toks } →
      codeAny (model X.prog X.w) X.A (.compLoop (.ListComp elt [⟨tg, iter, ifs, 0⟩] scope pos) 0 (.ref it) (.ref D) (compEnvC scope cl (D + 1) X.env)) (RR (.ref D) (D + 1)) s3 := by
    rintro s3 rfl
    obtain ⟨W, ⟨m0, w0⟩, turn⟩ := hw
    refine comp_loop (fun m s' => ∃ (i : Nat) (ys : List V) (its : List Value) (n : Nat) (σ' : St) (H' : Hp), Inv (compCx X scope (own ++ rest) cl s2 H2 (D + 1 : Nat) fp) [] σ' H' s' ∧ tn i s'.heap ∧ (∀ b ∈ fp, H' b = none) ∧
      s'.heap.get? D = some { cls := .type "list", data := .seq its.toArray n } ∧ H' D = none ∧ Vals ys its ∧ ys.length ≤ sizeLine ∧ W i m ys σ' H') ?_ m0
      ⟨0, [], [], 0, _, H2, J0, st1, fun b hb => (hf b hb).1, hDo, by rw [← hD]; exact I.fresh, .nil, by simp, w0⟩
    rintro m s3 ⟨i, ys, its, n, σ3, H3, J3, st3, fr3, ho3, hn3, r3, z3, w3⟩
    have pin : ∀ {σ' : St} {H' : Hp} {s' : Shared}, Inv (compCx X scope (own ++ rest) cl s2 H2 (D + 1 : Nat) fp) [] σ' H' s' → s'.heap.get? D = some { cls := .type "list", data := .seq its.toArray n } → H' D = none →
        Inv (compCx X scope (own ++ rest) cl s2 H2 (D + 1 : Nat) fp) [(D, { cls := .type "list", data := .seq its.toArray n })] σ' H' s' := fun {σ' H' s'} K1 K2 K3 =>
      K1.pins_of fun p hp => by
        have e : p = (D, { cls := .type "list", data := .seq its.toArray n }) := by simpa using hp
        subst e
        exact ⟨K2, K3, nDC, nfs, fun v z => nomatch z⟩
    have fpk : ∀ {H' : Hp}, (∀ b ∈ fp, H' b = none) → ∀ b ∈ fp, FpOk (compCx X scope (own ++ rest) cl s2 H2 (D + 1 : Nat) fp) [(D, { cls := .type "list", data := .seq its.toArray n })] H' b := fun {H'} fr b hb => by
      obtain ⟨o, e⟩ := hfo b hb
      have lt := below b o e
      refine ⟨fr b hb, Nat.ne_of_lt (Nat.lt_succ_of_lt lt), ?_, .inl hb, fun x c q => (hf b hb).2.2.2.2.1 x c (hc1 x c q), fun p hp => ?_⟩
      · intro z
        have z' : b ∈ frs X.stack := z
        rcases List.mem_cons.mp (I.stkSub b z') with q | q
        · exact (hf b hb).2.1 q
        · exact (hf b hb).2.2.1 q
      · have e : p = (D, { cls := .type "list", data := .seq its.toArray n }) := by
          have hp' : p ∈ [(D, ({ cls := .type "list", data := .seq its.toArray n } : Obj))] := hp
          simpa using hp'
        subst e
        exact Nat.ne_of_gt lt
    have J3p := pin J3 ho3 hn3
    rcases turn i m ys σ3 H3 w3 with ⟨stop, q⟩ | ⟨go, hlt, N, hN, step⟩
    · refine thn (T.done (compCx X scope (own ++ rest) cl s2 H2 (D + 1 : Nat) fp) rfl rfl rfl hcalm i _ s3 σ3 H3 _ J3p (fpk fr3) st3 stop) fun r s4 ⟨hr, J4⟩ => ?_
      subst hr
      have ho4 := J4.pin _ (List.mem_append_right _ List.mem_cons_self)
      refine hR s4 H3 ys (comp_end I J4 hf (by omega) hn3 ho4.1 r3 z3) ?_ hn3 J4.free q
      obtain ⟨mm, hmm, _⟩ := J4.loc
      exact ⟨mm, hmm⟩
    · refine thn (T.item (compCx X scope (own ++ rest) cl s2 H2 (D + 1 : Nat) fp) rfl rfl rfl hcalm i _ s3 σ3 H3 _ J3p (fpk fr3) st3 go) fun r s4 ⟨u, hr, h4⟩ => ?_
      subst hr
      refine thn h4 fun _ s5 ⟨x, H5, J5, r5, y5, st5, fr5⟩ => ?_
      have J5' := J5.pinned (fpk fr5) (T.obj _ _ st5)
      refine thn (hg _ s5 σ3 H5 x u _ J5' r5 (step x H5 y5)) fun _ s6 ⟨σ6, H6, J6, q6⟩ => ?_
      refine thn (ht _ s6 σ6 H6 _ J6 q6) fun b s7 ⟨H7, J7, q7⟩ => ?_
      have stay : ∀ {σ' : St} {H' : Hp} {s' : Shared}, Inv (compCx X scope (own ++ rest) cl s2 H2 (D + 1 : Nat) fp) ([(D, { cls := .type "list", data := .seq its.toArray n })] ++ pinsAt fp s5.heap) σ' H' s' →
          Inv (compCx X scope (own ++ rest) cl s2 H2 (D + 1 : Nat) fp) [] σ' H' s' ∧ tn (i + 1) s'.heap ∧ (∀ b ∈ fp, H' b = none) ∧ s'.heap.get? D = some { cls := .type "list", data := .seq its.toArray n } ∧ H' D = none := fun {σ' H' s'} K1 => by
        refine ⟨K1.pins_of fun p hp => absurd hp (by simp), T.keep _ _ _ st5 fun b hb o e => (K1.pin (b, o) (List.mem_append_right _ (List.mem_append_right _ (mem_pinsAt hb e)))).1, fun b hb => ?_, ?_, ?_⟩
        · obtain ⟨o, e, d⟩ := T.obj _ _ st5 b hb
          exact (K1.pin (b, o) (List.mem_append_right _ (List.mem_append_right _ (mem_pinsAt hb e)))).2.1
        · exact (K1.pin (D, _) (List.mem_append_right _ (List.mem_append_left _ List.mem_cons_self))).1
        · exact (K1.pin (D, _) (List.mem_append_right _ (List.mem_append_left _ List.mem_cons_self))).2.1
      cases b with
      | false =>
        rw [if_neg Bool.false_ne_true] at q7 ⊢
        obtain ⟨k1, k2, k3, k4, k5⟩ := stay J7
        obtain ⟨m', hm, w'⟩ := hN _ _ _ q7
        exact ⟨m', hm, i + 1, ys, its, n, σ6, H7, k1, k2, k3, k4, k5, r3, z3, w'⟩
      | true =>
        rw [if_pos rfl] at q7 ⊢
        refine thn (he _ s7 σ6 H7 _ J7 q7) fun xv s8 ⟨y, H8, J8, r8, q8⟩ => ?_
        obtain ⟨k1, k2, k3, k4, k5⟩ := stay J8
        refine call_meets F.slot_list_append ⟨_, k4, rfl⟩ F.entry_list_append (F.args_list_append_2 _ _) (PySem.list_append D its.toArray n xv (by rw [List.size_toArray, ← r3.length]; omega)) ⟨k4, ?_⟩
        obtain ⟨m', hm, w'⟩ := hN _ _ _ q8
        have ho9 := PySem.IsL.update k4 (fun a => a.push xv)
        have ek : ∀ b o, b ≠ D → s8.heap.get? b = some o → (s8.heap.update D (Obj.mapSeq (fun a => a.push xv))).get? b = some o := fun b o hb e => (Heap.get?_update_other s8.heap (Obj.mapSeq _) (Ne.symm hb)).trans e
        refine ⟨m', hm, i + 1, ys ++ [y], its ++ [xv], (if ((its.toArray.push xv).size == its.toArray.size) = true then n else n + 1), σ6, H8, k1.turned (it := D) (t' := s8.toks) ek k5 nDC (.inr (show s2.heap.objs.size ≤ D by omega)) ncl (fun p hp => absurd (show p ∈ ([] : List (Addr × Obj)) from hp) (by simp)), ?_, k3, ?_, k5, r3.append (.cons r8 .nil), ?_, w'⟩
        · refine T.keep _ _ _ k2 fun b hb o e => ek b o ?_ e
          obtain ⟨o', e'⟩ := hfo b hb
          exact Nat.ne_of_lt (below b o' e')
        · have e2 : its.toArray.push xv = (its ++ [xv]).toArray := by simp
          rw [← e2]; exact ho9
        · simp only [List.length_append, List.length_cons, List.length_nil]; omega
  exact codeAny_compStart_list (loop _ rfl) (T.self X.A 0 _ _ _ st1 (loop _ rfl))
end
end L2
set_option maxHeartbeats 4000000
namespace L2
open PySem PySem.Spec PyProof.Rows
noncomputable def tComp (k : Nat) (wi : TI) (g : TG) (tt : TT) (te : TE) : TE := fun σ H Q => wi σ H fun J H1 => CompW J g tt te (fun ys H' => ∀ D, H' D = none → Q (.ref D) (upd H' D (.lst ys))) (List.replicate k none ++ σ) H1
section
variable {X : Cx} {elt tg iter : Expr} {ifs : List Expr} {scope : Scope} {pos : Pos} {wi : TI} {g : TG} {tt : TT} {te : TE}
theorem Inv.closed {pins : List (Addr × Obj)} {σ : St} {H : Hp} {s : Shared} {N rest : List Str} (I : Inv X pins σ H s) (S : CompSc scope X.env.scope N rest) :
    ∃ cl, closureFor scope X.env = pure cl ∧ (∀ n c, cl.lookup n = some c → X.env.cells.lookup n = some c) ∧ (∀ n, (n, NameKind.free) ∈ scope.names → ∃ c, cl.lookup n = some c) :=
  closure_of fun n z => I.ok.has n (S.free n z)
theorem Inv.letgo {pins pins' : List (Addr × Obj)} {σ σ' : St} {H H' : Hp} {s s' : Shared} {b : Addr} {h' : Heap} (I : Inv X pins σ H s) (J : Inv X pins σ' H' s') (hb : s.heap.objs.size ≤ b) (hn : H' b = none) (sb : Heap.SameBut b s'.heap h') : Inv X pins σ' H' { s' with heap := h' } := by
  obtain ⟨f0, f1, f2, f3, f4, f5⟩ := I.fpOk hb hn
  exact J.turned (t' := s'.toks) (fun c o hc e => (sb.2 c hc).trans e) f0 f1 f3 f4 f5
theorem pe_comp (own rest : List Str) (hcalm : X.calm = true) (S : CompSc scope X.env.scope X.N rest) (hi : PI X tg iter wi)
    (hg : ∀ cl s2 H2 C fp, PG (compCx X scope (own ++ rest) cl s2 H2 C fp) tg g) (ht : ∀ cl s2 H2 C fp, PTs (compCx X scope (own ++ rest) cl s2 H2 C fp) ifs tt) (he : ∀ cl s2 H2 C fp, PE (compCx X scope (own ++ rest) cl s2 H2 C fp) elt te)
    (hs : ∀ x, foldedSetIterable iter X.env x = pure x := by intro _; rfl) : PE X (.ListComp elt [⟨tg, iter, ifs, 0⟩] scope pos) (tComp own.length wi g tt te) := by
  intro pins s σ H Q I h
  obtain ⟨cl, hcl, hc1, hc2⟩ := I.closed S
  rw [eval_ListComp]
  refine wpAny_comprehension_free (use := none) rfl hs hcl S.kind S.loc (thn (hi pins s σ H _ I h) fun v s1 h1 => thn h1 fun itv s2 h2 => ?_)
  obtain ⟨it, fp, tn, J, H2, e, I2, T, st, hf, hw⟩ := h2
  subst e
  refine comp_run (RR := fun acc C => compPost (model X.prog X.w) X.A X.xe none (EP X pins σ Q) acc C) (D := s2.heap.objs.size) rfl hcalm I2 S hc1 hc2 T st hf (hg _ _ _ _ _) (ht _ _ _ _ _) (he _ _ _ _ _) hw ?_
  intro s' H' ys J' ⟨m, hm⟩ hD hC q
  refine ⟨m, hm, fun h' sb => ⟨.ref s2.heap.objs.size, _, I2.letgo (pins' := pins) (b := (s2.heap.objs.size + 1 : Nat)) J' (Nat.le_succ _) ?_ sb, rfl, q _ hD⟩⟩
  rw [upd_ne (Nat.ne_of_gt (Nat.lt_succ_self _))]; exact hC
theorem ps_comp {i : Nat} {y : Str} {py spos : Pos} (own rest : List Str) (hcalm : X.calm = true) (S : CompSc scope X.env.scope X.N rest) (hN : X.N.Nodup) (hy : X.N[i]? = some y) (hl : X.env.scope.names.lookup y = some .local) (hi : PI X tg iter wi)
    (hg : ∀ cl s2 H2 C fp, PG (compCx X scope (own ++ rest) cl s2 H2 C fp) tg g) (ht : ∀ cl s2 H2 C fp, PTs (compCx X scope (own ++ rest) cl s2 H2 C fp) ifs tt) (he : ∀ cl s2 H2 C fp, PE (compCx X scope (own ++ rest) cl s2 H2 C fp) elt te)
    (hsw : swapsWith (.ListComp elt [⟨tg, iter, ifs, 0⟩] scope pos) (some (.Name y py)) spos.line X.env = pure true := by rfl)
    (hs : ∀ x, foldedSetIterable iter X.env x = pure x := by intro _; rfl) : PS X (.Assign [.Name y py] (.ListComp elt [⟨tg, iter, ifs, 0⟩] scope pos) spos) (tAsg (tComp own.length wi g tt te) (gName i)) := by
  intro pins s σ H D I h
  obtain ⟨cl, hcl, hc1, hc2⟩ := I.closed S
  rw [exec_Assign_Name_used _ _ _ _ hsw]
  refine wpAny_bind (wpAny_standAt (wpAny_bind ?_))
  show wpAny _ X.A (do let _ ← comprehension (.ListComp elt [⟨tg, iter, ifs, 0⟩] scope pos) scope X.env _ (newList []) false (eval iter X.env) (some (assign (.Name y py) X.env))) _ _ s
  refine wpAny_bind (wpAny_mono (wpAny_comprehension_free (use := some (assign (.Name y py) X.env)) (Q := fun _ s' => SP X pins D .next s') rfl hs hcl S.kind S.loc (thn (hi pins s σ H _ I h) fun v s1 h1 => thn h1 fun itv s2 h2 => ?_)) (fun _ s' hq => wpAny_pure (wpAny_pure hq)) fun _ _ e => e)
  obtain ⟨it, fp, tn, J, H2, e, I2, T, st, hf, hw⟩ := h2
  subst e
  refine comp_run (RR := fun acc C => compPost (model X.prog X.w) X.A X.xe (some (assign (.Name y py) X.env)) (fun _ s' => SP X pins D .next s') acc C) (D := s2.heap.objs.size) rfl hcalm I2 S hc1 hc2 T st hf (hg _ _ _ _ _) (ht _ _ _ _ _) (he _ _ _ _ _) hw ?_
  intro s' H' ys J' ⟨m, hm⟩ hD hC q
  show wpAny _ X.A (assign (.Name y py) X.env (.ref s2.heap.objs.size)) _ _ s'
  refine wpAny_assign_Name (store_ok2 (v := .ref s2.heap.objs.size) J' hN hy (.inl hl) rfl (fun s3 J3 ⟨a, sb, ha⟩ => ?_) (.inr hl))
  have hne : s2.heap.objs.size + 1 ≠ a := by
    rcases ha with ha | ha
    · rw [ha]; exact Nat.ne_of_gt (Nat.lt_succ_of_lt I2.lt)
    · obtain ⟨v, o, e, d⟩ := I2.cell y a ha
      exact Nat.ne_of_gt (Nat.lt_succ_of_lt (Heap.lt_size e))
  refine ⟨m, hm.sameBut sb hne, fun h' sb' => ⟨_, _, I2.letgo (pins' := pins) (b := (s2.heap.objs.size + 1 : Nat)) J3 (Nat.le_succ _) ?_ sb', q _ hD⟩⟩
  rw [upd_ne (Nat.ne_of_gt (Nat.lt_succ_self _))]; exact hC
end
structure Walk (J : It) (xs : List V) (ok : Hp → Prop) : Prop where
  go : ∀ i H, ok H → i < xs.length → J.go i H
  yld : ∀ i H x H', ok H → i < xs.length → J.yld i H x H' → H' = H ∧ xs[i]? = some x
  stop : ∀ H, ok H → J.stop xs.length H
theorem walk_list {K : PySem.W.Frag} {a : Addr} {xs : List V} : Walk (Itl K a) xs (fun H => SqL K H a xs) where
  go := fun i H q hi => ⟨xs, xs[i], q, by simp [hi]⟩
  yld := fun i H x H' q _ y => ⟨y.1, y.2 xs q⟩
  stop := fun H q => ⟨xs, q, Nat.le_refl _⟩
noncomputable def rangeV (lo : Int) (n : Nat) : List V := (List.range n).map fun (i : Nat) => V.int (lo + i)
theorem rangeV_len (lo : Int) (n : Nat) : (rangeV lo n).length = n := by simp [rangeV]
theorem rangeV_get {lo : Int} {n i : Nat} (h : i < n) : (rangeV lo n)[i]? = some (.int (lo + i)) := by simp [rangeV, h]
theorem walk_range {lo : Int} {n : Nat} : Walk (Itr lo n) (rangeV lo n) (fun _ => True) where
  go := fun i H _ hi => by rw [rangeV_len] at hi; exact hi
  yld := fun i H x H' _ hi y => ⟨y.1, by rw [rangeV_len] at hi; rw [rangeV_get hi, y.2]⟩
  stop := fun H _ => Nat.le_of_eq (rangeV_len lo n).symm
theorem for_walk {J : It} {xs : List V} {ok : Hp → Prop} (w : Walk J xs ok) {g : TG} {tb : TS} {D : Ends} {σ : St} {H : Hp} (Pv : Nat → St → Hp → Prop) (h0 : Pv 0 σ H) (hl : ∀ i σ H, i ≤ xs.length → Pv i σ H → ok H)
    (hs : ∀ i x σ H, xs[i]? = some x → Pv i σ H → g x σ H fun σ2 H2 => tb { D with nx := Pv (i + 1), ct := Pv (i + 1), bk := D.nx } σ2 H2) (hd : ∀ σ H, Pv xs.length σ H → D.nx σ H) :
    ∃ W : Nat → Nat → St → Hp → Prop, (∃ m, W 0 m σ H) ∧ ∀ i m σ H, W i m σ H →
      (J.stop i H ∧ D.nx σ H) ∨ (J.go i H ∧ ∃ N : St → Hp → Prop, (∀ σ' H', N σ' H' → ∃ m', m' < m ∧ W (i + 1) m' σ' H') ∧ ∀ x H', J.yld i H x H' → g x σ H' fun σ2 H2 => tb { D with nx := N, ct := N, bk := D.nx } σ2 H2) := by
  refine ⟨fun i m σ H => m = xs.length - i ∧ i ≤ xs.length ∧ Pv i σ H, ⟨xs.length, by simp, Nat.zero_le _, h0⟩, ?_⟩
  rintro i m σ H ⟨rfl, hi, p⟩
  have q := hl i σ H hi p
  by_cases hlt : i < xs.length
  · refine .inr ⟨w.go i H q hlt, Pv (i + 1), fun σ' H' p' => ⟨xs.length - (i + 1), by omega, rfl, hlt, p'⟩, fun x H' y => ?_⟩
    obtain ⟨e, y'⟩ := w.yld i H x H' q hlt y
    subst e
    exact hs i x σ _ y' p
  · have e : i = xs.length := by omega
    subst e
    exact .inl ⟨w.stop H q, hd σ H p⟩
theorem comp_walk {J : It} {xs : List V} {ok : Hp → Prop} (w : Walk J xs ok) {tt : TT} {te : TE} {fin : List V → Hp → Prop} {σ : St} {H : Hp} (hz : xs.length ≤ sizeLine) (Pv : Nat → List V → Hp → Prop) (h0 : Pv 0 [] H) (hl : ∀ i ys H, i ≤ xs.length → Pv i ys H → ok H)
    (hlen : ∀ i ys H, Pv i ys H → ys.length ≤ i)
    (hs : ∀ i x ys H, xs[i]? = some x → Pv i ys H → tt (some x :: σ) H fun b H3 => if b = true then te (some x :: σ) H3 fun y H4 => (∃ o, some x :: σ = o :: σ) ∧ Pv (i + 1) (ys ++ [y]) H4 else (∃ o, some x :: σ = o :: σ) ∧ Pv (i + 1) ys H3) (hd : ∀ ys H, Pv xs.length ys H → fin ys H) :
    CompW J (gName 0) tt te fin (List.replicate 1 none ++ σ) H := by
  refine ⟨fun i m ys σ' H => m = xs.length - i ∧ i ≤ xs.length ∧ (∃ o, σ' = o :: σ) ∧ Pv i ys H, ⟨xs.length, by simp, Nat.zero_le _, ⟨none, rfl⟩, h0⟩, ?_⟩
  rintro i m ys σ' H ⟨rfl, hi, ⟨o, rfl⟩, p⟩
  have hy := hlen i ys H p
  have q := hl i ys H hi p
  by_cases hlt : i < xs.length
  · refine .inr ⟨w.go i H q hlt, by omega, fun ys' σ' H' => (∃ o, σ' = o :: σ) ∧ Pv (i + 1) ys' H', fun ys' σ' H' p' => ⟨xs.length - (i + 1), by omega, rfl, hlt, p'⟩, fun x H' y => ?_⟩
    obtain ⟨e, y'⟩ := w.yld i H x H' q hlt y
    subst e
    exact hs i x ys _ y' p
  · have e : i = xs.length := by omega
    subst e
    exact .inl ⟨w.stop H q, hd ys H p⟩
end L2
set_option maxHeartbeats 4000000
namespace L2
open PySem PySem.Spec PyProof.Rows
noncomputable def sgn (c : Nat) : V := .str ⟨#[c]⟩
noncomputable def Its (z : Str) : It := ⟨fun i _ => i < z.cps.size, fun i H x H' => H' = H ∧ ∃ c, z.cps[i]? = some c ∧ x = sgn c, fun i _ => i = z.cps.size⟩
section
variable {X : Cx} {tg : Expr}
noncomputable def iStr (tl : TE) : TI := fun σ H R => tl σ H fun x H1 => ∃ z, x = .str z ∧ R (Its z) H1
end
mutual
noncomputable def Rep (K : PySem.W.Frag) (H : Hp) : PyData → V → Prop
  | .none, v => v = .non
  | .bool b, v => v = .bl b
  | .int i, v => v = .int i
  | .str x, v => v = .str x
  | .list ds, v => ∃ a xs, v = .ref a ∧ SqL K H a xs ∧ Reps K H ds xs
  | .tuple ds, v => ∃ a xs, v = .ref a ∧ SqT K H a xs ∧ Reps K H ds xs
  | .dict _, _ => False
noncomputable def Reps (K : PySem.W.Frag) (H : Hp) : List PyData → List V → Prop
  | [], vs => vs = []
  | d :: ds, vs => ∃ v r, vs = v :: r ∧ Rep K H d v ∧ Reps K H ds r
end
section
variable {X : Cx} {pins : List (Addr × Obj)} {σ : St} {H : Hp} {s : Shared}
mutual
theorem Rep.reads (I : Inv X pins σ H s) : ∀ (d : PyData) (v : V) (u : Value), Rep X.K H d v → RelV v u → ∃ as, Reads s.heap u d as
  | .none, v, u, h, r => by
    have e : v = .non := by simpa [Rep] using h
    subst e; cases r; exact ⟨_, .none⟩
  | .bool b, v, u, h, r => by
    have e : v = .bl b := by simpa [Rep] using h
    subst e; cases r; exact ⟨_, .bool b⟩
  | .int i, v, u, h, r => by
    have e : v = .int i := by simpa [Rep] using h
    subst e; obtain ⟨t, rfl⟩ := r; exact ⟨_, .int i t⟩
  | .str x, v, u, h, r => by
    have e : v = .str x := by simpa [Rep] using h
    subst e; obtain ⟨t, rfl⟩ := r; exact ⟨_, .str x t⟩
  | .list ds, v, u, h, r => by
    obtain ⟨a, xs, rfl, hs, hr⟩ : ∃ a xs, v = .ref a ∧ SqL X.K H a xs ∧ Reps X.K H ds xs := by simpa only [Rep] using h
    cases r
    obtain ⟨its, rv, p, hz⟩ := I.list hs
    obtain ⟨o, ho, hc, n, hd⟩ := p.isList
    obtain ⟨as, q⟩ := Reps.reads I ds xs its hr rv
    exact ⟨_, .list ho hc hd (by simpa using q)⟩
  | .tuple ds, v, u, h, r => by
    obtain ⟨a, xs, rfl, hs, hr⟩ : ∃ a xs, v = .ref a ∧ SqT X.K H a xs ∧ Reps X.K H ds xs := by simpa only [Rep] using h
    cases r
    obtain ⟨its, rv, p, hz⟩ := I.tuple hs
    obtain ⟨o, ho, hc, n, hd⟩ := p
    obtain ⟨as, q⟩ := Reps.reads I ds xs its hr rv
    exact ⟨_, .tuple ho hc hd (by simpa using q)⟩
  | .dict _, v, u, h, r => by simp [Rep] at h
theorem Reps.reads (I : Inv X pins σ H s) : ∀ (ds : List PyData) (vs : List V) (us : List Value), Reps X.K H ds vs → Vals vs us → ∃ as, ReadsAll s.heap us ds as
  | [], vs, us, h, r => by
    have e : vs = [] := by simpa [Reps] using h
    subst e; cases r; exact ⟨_, .nil⟩
  | d :: ds, vs, us, h, r => by
    obtain ⟨v, q, rfl, h1, h2⟩ : ∃ v r, vs = v :: r ∧ Rep X.K H d v ∧ Reps X.K H ds r := by simpa only [Reps] using h
    cases r with
    | cons r1 r2 =>
      obtain ⟨as, q1⟩ := Rep.reads I d v _ h1 r1
      obtain ⟨bs, q2⟩ := Reps.reads I ds q _ h2 r2
      exact ⟨_, .cons q1 q2⟩
end
end
section
variable {X : Cx}
noncomputable def rEqD (K : PySem.W.Frag) (neg : Bool) : R2 := fun x y H Q => ∃ d e, Rep K H d x ∧ Rep K H e y ∧ SeqAt.shaped d = true ∧ SeqAt.shaped e = true ∧ Q (.bl (if neg then !PyData.eqv d e else PyData.eqv d e)) H
theorem op_eqD (hu : X.A.units + 64 < cLine) : OpR X (compareOp .Eq) (rEqD X.K false) := by
  intro pins s σ H x y v u Q I rx ry h
  obtain ⟨d, e, h1, h2, h3, h4, q⟩ := h
  obtain ⟨as, q1⟩ := Rep.reads I d x v h1 rx
  obtain ⟨bs, q2⟩ := Rep.reads I e y u h2 ry
  exact eq_dataH q1 q2 h3 h4 hu (fin_bl I q rfl)
theorem op_neD (hu : X.A.units + 64 < cLine) : OpR X (compareOp .NotEq) (rEqD X.K true) := by
  intro pins s σ H x y v u Q I rx ry h
  obtain ⟨d, e, h1, h2, h3, h4, q⟩ := h
  obtain ⟨as, q1⟩ := Rep.reads I d x v h1 rx
  obtain ⟨bs, q2⟩ := Rep.reads I e y u h2 ry
  exact ne_dataH q1 q2 h3 h4 hu (fin_bl I q rfl)
noncomputable def rIsi (K : PySem.W.Frag) : List V → Hp → VK → Prop := fun xs H Q => ∃ x T t b, xs = [x, .ty T] ∧ TyOf K H x t ∧ PySem.W.kitOne K t (.type T) = some b ∧ Q (.bl b) H
theorem call_isi : CallR X (.builtin "isinstance") (rIsi X.K) := by
  intro pins s σ H xs us Q I r h
  obtain ⟨x, T, t, b, rfl, ty, e, q⟩ := h
  obtain ⟨u, c, rfl, ru, rc⟩ := vals2 r
  cases rc
  exact isinst_ok I ru ty e fun tk => ⟨.bl b, H, I.tok _, rfl, q⟩
theorem bools_of : ∀ {bs : List Bool} {us : List Value}, Vals (bs.map V.bl) us → LSm.BoolsAre us bs
  | [], _, .nil => .nil
  | _ :: _, _, .cons r t => by cases r; exact .cons _ (bools_of t)
noncomputable def rAll (K : PySem.W.Frag) (g : List Bool → Bool) : List V → Hp → VK → Prop := fun xs H Q => ∃ a bs, xs = [.ref a] ∧ SqL K H a (bs.map V.bl) ∧ Q (.bl (g bs)) H
theorem call_all (hc : X.calm = true) : CallR X (.builtin "all") (rAll X.K fun bs => bs.all id) := by
  intro pins s σ H xs us Q I r h
  obtain ⟨a, bs, rfl, hs, q⟩ := h
  obtain ⟨u, rfl, ru⟩ := vals1 r
  cases ru
  obtain ⟨its, rv, p, hz⟩ := I.list hs
  have hl := p.isList
  have hb := bools_of rv
  have hlt : a < s.heap.objs.size := by obtain ⟨_, e, _⟩ := hl; exact Heap.lt_size e
  refine call_all_walk (wpAny_pyIter_list hl ?_)
  refine ⟨s.heap.objs.size, [s.heap.objs.size, a], [s.heap.objs.size], its.toArray.size, _, _, fun i => (bs[i]?).getD true, rfl, Walks.list (A := X.A.in1) (I.ok.hd hc) _ a (Nat.ne_of_lt hlt) its.toArray,
    ⟨⟨_, Heap.get?_push_size _ rfl, rfl, rfl⟩, hl.push _⟩, fun i v s' Q' E' hP hQ => ?_, fun h' tk hk => ?_⟩
  · obtain ⟨b, e, rfl⟩ := hb.get i v (by simpa using hP)
    simp only [e, Option.getD_some] at hQ
    exact wpAny_truthy_bool hQ
  · have e : ((List.range its.toArray.size).all fun i => (bs[i]?).getD true) = bs.all id := by
      rw [List.size_toArray, hb.length]; exact LSm.range_all bs
    rw [e]
    exact ⟨.bl (bs.all id), H, I.kept (LSm.kept_iter hk), rfl, q⟩
end
end L2
set_option maxHeartbeats 4000000
namespace L2
open PySem PySem.Spec PyProof.Rows
section
variable {X : Cx}
structure DefOk (K : PySem.W.Frag) (mg : Str → Option Value) (x : Str) (st : Stmt) (ps : List Str) (f : Addr) (fd : FuncData) : Prop where
  F : Fun K x x st f fd
  b : Binds K fd ps []
  m : mg x = some (.ref f)
theorem pvl (i : Nat) {x : Str} {pos : Pos} (hN : X.N[i]? = some x := by rfl) (hv : X.env.scope.names.lookup x = some .local := by rfl) (hd : (x == ("__debug__" : Str)) = false := by decide) (hcd : (x == ("__classdict__" : Str)) = false := by decide) : PE X (.Name x pos) (tVar i) := pe_var hN (.inl hv) hd hcd
theorem pvc (i : Nat) {x : Str} {pos : Pos} (hN : X.N[i]? = some x := by rfl) (hv : X.env.scope.names.lookup x = some .cell := by rfl) (hd : (x == ("__debug__" : Str)) = false := by decide) (hcd : (x == ("__classdict__" : Str)) = false := by decide) : PE X (.Name x pos) (tVar i) := pe_var hN (.inr (.inl hv)) hd hcd
theorem pgl (i : Nat) {x : Str} {pos : Pos} (hN : X.N.Nodup) (hi : X.N[i]? = some x := by rfl) (hv : X.env.scope.names.lookup x = some .local := by rfl) : PG X (.Name x pos) (gName i) := pg_name hN hi (.inl hv) (.inr hv)
theorem psl (i : Nat) {x : Str} {pos pos' : Pos} {e : Expr} {te : TE} (hN : X.N.Nodup) (he : PE X e te) (hi : X.N[i]? = some x := by rfl) (hv : X.env.scope.names.lookup x = some .local := by rfl) (hs : swapsWith e (some (.Name x pos')) pos.line X.env = pure false := by rfl) :
    PS X (.Assign [.Name x pos'] e pos) (tAsg te (gName i)) := ps_set hN hi (.inl hv) he hs (.inr hv)
theorem pgi {x : Str} {i : Int} {pos : Pos} (hm : ∃ tk, X.mg x = some (.int i tk)) (hg : Gl X x := by rfl) (hd : (x == ("__debug__" : Str)) = false := by decide) : PE X (.Name x pos) (tC (.int i)) := let ⟨t, e⟩ := hm; pe_glob hg e ⟨t, rfl⟩ hd
theorem pty {x : Str} {T : String} {pos : Pos} (hm : X.mg x = none) (hv : bootBuiltins x = some (.type T)) (hg : Gl X x := by rfl) (hn : x ≠ "__name__" := by decide) (hd : (x == ("__debug__" : Str)) = false := by decide) : PE X (.Name x pos) (tC (.ty T)) := pe_bltn hg hm hv rfl hn hd
end
theorem Same.new {H H' : Hp} (e : Same H H') {p : Addr} (h : H' p = none) (o : HO) : Same H (upd H' p o) := fun b q z => by
  rw [upd_ne (ne_of_none (e b q z) h)]; exact e b q z
theorem Same.upd_new {H : Hp} {p : Addr} (h : H p = none) (o : HO) : Same H (upd H p o) := (Same.refl H).new h o
theorem Same.set {H H' : Hp} (e : Same H H') {p : Addr} (h : H p = none) (o : HO) : Same H (upd H' p o) := fun b q z => by
  rw [upd_ne (ne_of_none z h)]; exact e b q z
end L2
set_option maxHeartbeats 4000000
namespace L2
open PySem PySem.Spec PyProof.Rows
theorem bt_len : bootBuiltins "len" = some (.builtin "len") := by decide +kernel
theorem bt_all : bootBuiltins "all" = some (.builtin "all") := by decide +kernel
theorem bt_min : bootBuiltins "min" = some (.builtin "min") := by decide +kernel
theorem bt_max : bootBuiltins "max" = some (.builtin "max") := by decide +kernel
theorem bt_sum : bootBuiltins "sum" = some (.builtin "sum") := by decide +kernel
theorem bt_sorted : bootBuiltins "sorted" = some (.builtin "sorted") := by decide +kernel
theorem bt_isinstance : bootBuiltins "isinstance" = some (.builtin "isinstance") := by decide +kernel
theorem bt_int : bootBuiltins "int" = some (.type "int") := by decide +kernel
theorem bt_bool : bootBuiltins "bool" = some (.type "bool") := by decide +kernel
theorem bt_list : bootBuiltins "list" = some (.type "list") := by decide +kernel
theorem bt_tuple : bootBuiltins "tuple" = some (.type "tuple") := by decide +kernel
theorem small_line {n : Nat} (h : n ≤ 1000000) : n ≤ sizeLine := by rw [sizeLine_eq]; omega
theorem take_snoc {α : Type} {xs : List α} {i : Nat} {x : α} (h : xs[i]? = some x) : xs.take (i + 1) = xs.take i ++ [x] := by rw [List.take_add_one, h]; rfl
theorem comp_of {α : Type} {J : It} {as : List α} {g : α → V} {ok : Hp → Prop} (w : Walk J (as.map g) ok) {tt : TT} {te : TE} {fin : List V → Hp → Prop} {σ : St} {H : Hp} (hz : as.length ≤ sizeLine) (h0 : ∀ H', Same H H' → ok H') (p : α → Bool) (f : α → V)
    (ht : ∀ a H1 Q, a ∈ as → Same H H1 → (∀ H2, Same H1 H2 → Q (p a) H2) → tt (some (g a) :: σ) H1 Q)
    (he : ∀ a H1 Q, a ∈ as → p a = true → Same H H1 → (∀ H2, Same H1 H2 → Q (f a) H2) → te (some (g a) :: σ) H1 Q)
    (hd : ∀ H', Same H H' → fin ((as.filter p).map f) H') : CompW J (gName 0) tt te fin (none :: σ) H := by
  refine comp_walk w (by rw [List.length_map]; exact hz) (fun i ys H' => Same H H' ∧ ys = ((as.take i).filter p).map f) ⟨Same.refl H, rfl⟩ (fun i ys H' _ q => h0 H' q.1) (fun i ys H' q => ?_) (fun i x ys H' hx q => ?_) (fun ys H' q => ?_)
  · rw [q.2, List.length_map]
    exact Nat.le_trans (List.length_filter_le _ _) (by rw [List.length_take]; omega)
  · obtain ⟨s1, e⟩ := q
    rw [List.getElem?_map] at hx
    cases ha : as[i]? with
    | none => rw [ha] at hx; cases hx
    | some a =>
      rw [ha] at hx
      have hx' : g a = x := Option.some.inj hx
      subst hx'
      have hm : a ∈ as := List.mem_of_getElem? ha
      refine ht a H' _ hm s1 fun H2 s2 => ?_
      cases hp : p a with
      | false =>
        rw [if_neg Bool.false_ne_true]
        exact ⟨⟨_, rfl⟩, s1.trans s2, by rw [e, take_snoc ha, List.filter_append, List.map_append]; simp [hp]⟩
      | true =>
        rw [if_pos rfl]
        exact he a H2 _ hm hp (s1.trans s2) fun H3 s3 => ⟨⟨_, rfl⟩, (s1.trans s2).trans s3, by rw [e, take_snoc ha, List.filter_append, List.map_append]; simp [hp]⟩
  · obtain ⟨s1, e⟩ := q
    rw [e, List.length_map, List.take_length]
    exact hd H' s1
noncomputable def plainTs : List String := ["NoneType", "bool", "int", "str", "list", "tuple", "dict"]
structure Pl (K : PySem.W.Frag) (H : Hp) (x : V) (T : String) : Prop where
  ty : TyOf K H x (.type T)
  mem : T ∈ plainTs
  sz : ∀ z, x = .str z → z.length ≤ sizeLine
noncomputable def isiN (T S : String) : Bool := T == S || (T == "bool" && S == "int")
theorem isi_plain {K : PySem.W.Frag} {T S : String} (hT : T ∈ plainTs) (hS : S ∈ plainTs) : PySem.W.kitOne K (.type T) (.type S) = some (isiN T S) := by
  simp only [plainTs, List.mem_cons, List.not_mem_nil, or_false] at hT hS
  rcases hT with rfl | rfl | rfl | rfl | rfl | rfl | rfl <;> rcases hS with rfl | rfl | rfl | rfl | rfl | rfl | rfl <;> rfl
theorem Pl.of_int {K : PySem.W.Frag} {H : Hp} {i : Int} : Pl K H (.int i) "int" := ⟨.int i, by decide, fun _ e => by cases e⟩
theorem Pl.of_lst {K : PySem.W.Frag} {H : Hp} {a : Addr} {xs : List V} (h : H a = some (.lst xs)) : Pl K H (.ref a) "list" := ⟨.lst h, by decide, fun _ e => by cases e⟩
theorem Pl.of_tup {K : PySem.W.Frag} {H : Hp} {a : Addr} {xs : List V} (h : H a = some (.tup xs)) : Pl K H (.ref a) "tuple" := ⟨.tup h, by decide, fun _ e => by cases e⟩
noncomputable def rIsP (K : PySem.W.Frag) : List V → Hp → VK → Prop := fun xs H Q => ∃ x S T, xs = [x, .ty S] ∧ Pl K H x T ∧ S ∈ plainTs ∧ Q (.bl (isiN T S)) H
theorem call_isP {X : Cx} : CallR X (.builtin "isinstance") (rIsP X.K) := by
  intro pins s σ H xs us Q I r h
  obtain ⟨x, S, T, rfl, p, hS, q⟩ := h
  exact call_isi pins s σ H _ us Q I r ⟨x, S, .type T, _, rfl, p.ty, isi_plain p.mem hS, q⟩
end L2
set_option maxHeartbeats 4000000
namespace L2
open PySem PySem.Spec PyProof.Rows
section
variable {X : Cx}
end
theorem ixL_of {K : PySem.W.Frag} {H : Hp} {p : Addr} {xs : List V} {i : Int} {Q : VK} (h : SqL K H p xs) (h0 : 0 ≤ i) (h1 : i < xs.length) (q : ∀ v, xs[i.toNat]? = some v → Q v H) : rIxL K (.ref p) (.int i) H Q := by
  have hj : i.toNat < xs.length := by omega
  refine ⟨p, xs, i, xs[i.toNat], rfl, rfl, h, ?_, q _ (List.getElem?_eq_getElem hj)⟩
  have e := atI_nat (List.getElem?_eq_getElem hj)
  rwa [Int.toNat_of_nonneg h0] at e
end L2
set_option maxHeartbeats 4000000
namespace L2
open PySem PySem.Spec PyProof.Rows
section
variable {X : Cx} {K : PySem.W.Frag} (e : X.K = K)
include e
theorem k_isP : CallR X (.builtin "isinstance") (rIsP K) := by subst e; exact call_isP
theorem k_all (hc : X.calm = true) : CallR X (.builtin "all") (rAll K fun bs => bs.all id) := by subst e; exact call_all hc
noncomputable def rLenS (K : PySem.W.Frag) : List V → Hp → VK → Prop := fun xs H Q => ∃ p ys, xs = [.ref p] ∧ (SqL K H p ys ∨ SqT K H p ys) ∧ Q (.int ys.length) H
theorem k_len : CallR X (.builtin "len") (rLenS K) := by subst e; exact call_len_seq
noncomputable def rLenV (K : PySem.W.Frag) : List V → Hp → VK → Prop := fun xs H Q => ∃ x n, xs = [x] ∧ LenV K x H n ∧ Q (.int n) H
noncomputable def rListOf (K : PySem.W.Frag) : List V → Hp → VK → Prop := fun xs H Q => ∃ p ys, xs = [.ref p] ∧ (SqL K H p ys ∨ SqT K H p ys) ∧ ∀ l, H l = none → Q (.ref l) (upd H l (.lst ys))
theorem k_list : CallR X (.type "list") (rListOf K) := by subst e; exact call_list_of
noncomputable def rTupleOf (K : PySem.W.Frag) : List V → Hp → VK → Prop := fun xs H Q => ∃ p ys, xs = [.ref p] ∧ ((SqL K H p ys ∧ ∀ l, H l = none → Q (.ref l) (upd H l (.tup ys))) ∨ (SqT K H p ys ∧ Q (.ref p) H))
theorem k_ixL : IxR X (rIxL K) := by subst e; exact ix_list
theorem k_ixT : IxR X (rIxT K) := by subst e; exact ix_tup
theorem k_slL : SlR X (rSlL K) := by subst e; exact sl_list
theorem k_slT : SlR X (rSlT K) := by subst e; exact sl_tup
theorem k_eqD (hu : X.A.units + 64 < cLine) : OpR X (compareOp .Eq) (rEqD K false) := by subst e; exact op_eqD hu
theorem k_neD (hu : X.A.units + 64 < cLine) : OpR X (compareOp .NotEq) (rEqD K true) := by subst e; exact op_neD hu
theorem k_piL {tg l : Expr} {tl : TE} (hl : PE X l tl) : PI X tg l (iList K tl) := by subst e; exact pi_list hl
theorem k_pgT {es : List Expr} {k : Nat} {t : TGs} {n : Nat} {pos : Pos} (hc : X.calm = true) (h : PGs X es t) (hn : (assignEach es X.env).length = n := by rfl) (hst : (assignEach es X.env).findIdx? (·.1) = none := by rfl) : PG X (.Tuple es k pos) (gTup K n t) := by subst e; exact pg_tup hc h hn hst
theorem k_bm0 {o : Expr} {to : TE} {name : Str} {apos cpos : Pos} {T id : String} {r : V → List V → Hp → VK → Prop} (pa : PlainAttrs T) (slot : Slot T name id) (hty : typeOf (.builtin id) = pure (.type "method_descriptor")) (hm : MtR X id r) (ho : PE X o to)
    (hbase : attributeBase o name X.env (eval o X.env) = eval o X.env := by rfl) (hline : (apos.endLine == cpos.line) = true := by rfl) : PE X (.Call (.Attribute o name apos) [] [] cpos) (tBM0 K T r to) := by subst e; exact pe_bm0 pa slot hty hm ho hbase hline
theorem k_bm {o a : Expr} {es : List Expr} {to : TE} {t : TA} {name : Str} {apos cpos : Pos} {T id : String} {r : V → List V → Hp → VK → Prop} (pa : PlainAttrs T) (slot : Slot T name id) (hty : typeOf (.builtin id) = pure (.type "method_descriptor")) (hm : MtR X id r) (ho : PE X o to) (ha : PA X (a :: es) t)
    (hbase : attributeBase o name X.env (eval o X.env) = eval o X.env := by rfl)
    (hfew : ((backTo cpos (starEach (a :: es) X.env)).all (fun x => !x.1) && (backToKw cpos (keywordEach [] X.env)).all (fun x => x.1.isSome)
      && decide ((a :: es).length + ([] : List Keyword).length + (if ([] : List Keyword).isEmpty then 0 else 1) < 30)) = true := by rfl)
    (hline : (apos.endLine == cpos.line) = true := by rfl) (hs : starEach (a :: es) X.env = (false, eval a X.env) :: starEach es X.env := by rfl) (hplain : (backTo cpos (starEach es X.env)).any (·.1) = false := by rfl) :
    PE X (.Call (.Attribute o name apos) (a :: es) [] cpos) (tBM K T r to t) := by subst e; exact pe_bm pa slot hty hm ho ha hbase hfew hline hs hplain
end
end L2
namespace L2
open PySem PySem.Spec PyProof.Rows
noncomputable def notStar : Expr → Bool
  | .Starred _ _ => false
  | _ => true
theorem star_cons {e : Expr} {es : List Expr} {env : Env} (h : notStar e = true) : starEach (e :: es) env = (false, eval e env) :: starEach es env := by
  cases e <;> first | rfl | cases h
theorem star_none {env : Env} : ∀ {es : List Expr}, es.all notStar = true → (starEach es env).any (·.1) = false
  | [], _ => rfl
  | e :: es, h => by
    rw [List.all_cons, Bool.and_eq_true] at h
    rw [star_cons h.1, List.any_cons, star_none h.2]; rfl
theorem back_none {env : Env} {pos : Pos} {es : List Expr} (h : es.all notStar = true) : (backTo pos (starEach es env)).any (·.1) = false := by
  have := star_none (env := env) h
  unfold backTo
  rw [List.any_map]
  exact this
section
variable {X : Cx} {e : Expr} {es : List Expr} {te : TE} {t : TA}
theorem pal (hn : notStar e = true) (ha : PE X e te) (hr : PA X es t) : PA X (e :: es) (tCons te t) := pa_cons ha hr (star_cons hn)
theorem pe_defL {x : Str} {st : Stmt} {ps : List Str} {f : Addr} {fd : FuncData} {k : Nat} {sp : Sp} {p pos : Pos} (D : DefOk X.K X.mg x st ps f fd) (G : FnOk X.prog X.w X.K X.mg X.base CX0 k f fd ps sp) (hr : Room k X.A)
    (hg : Gl X x) (hdb : (x == ("__debug__" : Str)) = false) (hn : (e :: es).all notStar = true) (ha : PA X (e :: es) t) :
    PE X (.Call (.Name x p) (e :: es) [] pos) (tCall sp [] E0 t) :=
  have h : notStar e = true ∧ es.all notStar = true := by rw [List.all_cons, Bool.and_eq_true] at hn; exact hn
  pe_call G hr hg D.m D.F.kp D.b .nil pass0 ha hdb (star_cons h.1) (back_none h.2)
theorem pe_cB {x : Str} {p pos : Pos} {id : String} {r : List V → Hp → VK → Prop} (hc : CallR X (.builtin id) r) (hm : X.mg x = none) (hv : bootBuiltins x = some (.builtin id)) (hg : Gl X x) (hn : x ≠ "__name__") (hdb : (x == ("__debug__" : Str)) = false)
    (hs : (e :: es).all notStar = true) (ha : PA X (e :: es) t) : PE X (.Call (.Name x p) (e :: es) [] pos) (tCB r t) :=
  have h : notStar e = true ∧ es.all notStar = true := by rw [List.all_cons, Bool.and_eq_true] at hs; exact hs
  pe_callB hc hg hm hv ha hn hdb (star_cons h.1) (back_none h.2)
theorem pe_cTy {x : Str} {p pos : Pos} {T : String} {r : List V → Hp → VK → Prop} (hc : CallR X (.type T) r) (hm : X.mg x = none) (hv : bootBuiltins x = some (.type T)) (hg : Gl X x) (hn : x ≠ "__name__") (hdb : (x == ("__debug__" : Str)) = false)
    (hs : (e :: es).all notStar = true) (ha : PA X (e :: es) t) : PE X (.Call (.Name x p) (e :: es) [] pos) (tCB r t) :=
  have h : notStar e = true ∧ es.all notStar = true := by rw [List.all_cons, Bool.and_eq_true] at hs; exact hs
  pe_callTy hc hg hm hv ha hn hdb (star_cons h.1) (back_none h.2)
theorem back_all {env : Env} {pos : Pos} {es : List Expr} (h : es.all notStar = true) : (backTo pos (starEach es env)).all (fun x => !x.1) = true := by
  have := back_none (env := env) (pos := pos) h
  rw [List.any_eq_false] at this
  rw [List.all_eq_true]
  intro x hx
  have := this x hx
  simpa using this
theorem k_bmL {K : PySem.W.Frag} {o a : Expr} {to : TE} {name : Str} {apos cpos : Pos} {T id : String} {r : V → List V → Hp → VK → Prop} (ek : X.K = K) (pa : PlainAttrs T) (slot : Slot T name id) (hty : typeOf (.builtin id) = pure (.type "method_descriptor")) (hm : MtR X id r)
    (hbase : attributeBase o name X.env (eval o X.env) = eval o X.env) (hs : (a :: es).all notStar = true) (hsz : decide ((a :: es).length + 0 + 0 < 30) = true) (hline : (apos.endLine == cpos.line) = true) (ho : PE X o to) (ha : PA X (a :: es) t) :
    PE X (.Call (.Attribute o name apos) (a :: es) [] cpos) (tBM K T r to t) :=
  have h : notStar a = true ∧ es.all notStar = true := by rw [List.all_cons, Bool.and_eq_true] at hs; exact hs
  k_bm ek pa slot hty hm ho ha hbase (by rw [back_all hs]; exact hsz) hline (star_cons h.1) (back_none h.2)
end
end L2
namespace L2
open PySem PySem.Spec PyProof.Rows
noncomputable def ForW (J : It) (g : TG) (tb : TS) (D : Ends) (σ : St) (H1 : Hp) : Prop := ∃ W : Nat → Nat → St → Hp → Prop, (∃ m, W 0 m σ H1) ∧ ∀ i m σ H, W i m σ H →
  (J.stop i H ∧ D.nx σ H) ∨ (J.go i H ∧ ∃ N : St → Hp → Prop, (∀ σ' H', N σ' H' → ∃ m', m' < m ∧ W (i + 1) m' σ' H') ∧ ∀ x H', J.yld i H x H' → g x σ H' fun σ2 H2 => tb { D with nx := N, ct := N, bk := D.nx } σ2 H2)
theorem for_in {wi : TI} {g : TG} {tb : TS} {D : Ends} {σ : St} {H : Hp} (h : wi σ H fun J H1 => ForW J g tb D σ H1) : tFor wi g tb D σ H := h
theorem ForW.of {g : TG} {tb : TS} {D : Ends} {σ : St} {H : Hp} {J : It} {xs : List V} {ok : Hp → Prop} (w : Walk J xs ok) (Pv : Nat → St → Hp → Prop) (h0 : Pv 0 σ H) (hl : ∀ i σ H, i ≤ xs.length → Pv i σ H → ok H)
    (hs : ∀ i x σ H, xs[i]? = some x → Pv i σ H → g x σ H fun σ2 H2 => tb { D with nx := Pv (i + 1), ct := Pv (i + 1), bk := D.nx } σ2 H2) (hd : ∀ σ H, Pv xs.length σ H → D.nx σ H) : ForW J g tb D σ H := for_walk w Pv h0 hl hs hd
end L2
set_option maxHeartbeats 4000000
namespace L2
open PySem PySem.Spec PyProof.Rows
noncomputable def cutL {α : Type} (xs : List α) (lo hi : Option Int) : List α := (xs.drop (HT.sIx xs.length 0 lo)).take (HT.sIx xs.length xs.length hi - HT.sIx xs.length 0 lo)
section
variable {X : Cx}
noncomputable def rSlS : V → Option Int → Option Int → Hp → VK → Prop := fun x lo hi H Q => ∃ z, x = .str z ∧ z.length ≤ sizeLine ∧ Q (.str ⟨(cutL z.cps.toList lo hi).toArray⟩) H
noncomputable def rFind : V → List V → Hp → VK → Prop := fun x vs H Q => ∃ z y, x = .str z ∧ vs = [.str y] ∧ Q (.int (Txt.find z y)) H
noncomputable def rStarts : V → List V → Hp → VK → Prop := fun x vs H Q => ∃ z y, x = .str z ∧ vs = [.str y] ∧ Q (.bl (Txt.startswith z y)) H
end
end L2
namespace L2
open PySem
theorem range_item {lo : Int} {n i : Nat} {x : V} (h : (rangeV lo n)[i]? = some x) : i < n ∧ x = .int (lo + i) := by
  have hi : i < n := by have := (List.getElem?_eq_some_iff.mp h).1; rwa [rangeV_len] at this
  rw [rangeV_get hi] at h
  cases h
  exact ⟨hi, rfl⟩
end L2
set_option maxHeartbeats 4000000
namespace L2
open PySem PySem.Spec PyProof.Rows PySem.NumText
noncomputable def dgs (m : Nat) : List Nat := (Nat.toDigits 10 m).map Char.toNat
noncomputable def numS (n : Int) : List Nat := if n < 0 then 45 :: dgs n.natAbs else dgs n.natAbs
section
variable {X : Cx}
noncomputable def rIntT : List V → Hp → VK → Prop := fun xs H Q => ∃ z n, xs = [.str z] ∧ intText? z = some n ∧ z.length ≤ 640 ∧ Q (.int n) H
noncomputable def rStrA : List V → Hp → VK → Prop := fun xs H Q => (∃ i, xs = [.int i] ∧ i.natAbs < 10 ^ 100 ∧ Q (.str ⟨(numS i).toArray⟩) H) ∨ ∃ z, xs = [.str z] ∧ Q (.str z) H
end
end L2
namespace L2
open PySem PySem.Spec PyProof.Rows
section
variable {X : Cx}
noncomputable def rRepS : R2 := fun x y H Q => ∃ z n, x = .str z ∧ y = .int n ∧ MulOk z n ∧ Q (.str (Txt.mul z n)) H
end
end L2
namespace L2
open PySem
noncomputable def WGo (Pv : Nat → St → Hp → Prop) (m : Nat) (tb : TS) (D : Ends) (σ : St) (H1 : Hp) : Prop := ∃ N : St → Hp → Prop, (∀ σ' H', N σ' H' → ∃ m', m' < m ∧ Pv m' σ' H') ∧ tb { D with nx := N, ct := N, bk := D.nx } σ H1
theorem WGo.of {Pv : Nat → St → Hp → Prop} {m : Nat} {tb : TS} {D : Ends} {σ : St} {H1 : Hp} (h : tb { D with nx := fun σ' H' => ∃ m', m' < m ∧ Pv m' σ' H', ct := fun σ' H' => ∃ m', m' < m ∧ Pv m' σ' H', bk := D.nx } σ H1) : WGo Pv m tb D σ H1 := ⟨_, fun _ _ q => q, h⟩
theorem while_in {c : TT} {tb : TS} {D : Ends} {σ : St} {H : Hp} (Pv : Nat → St → Hp → Prop) (h0 : ∃ m, Pv m σ H) (hs : ∀ m σ H, Pv m σ H → c σ H fun b H1 => if b = true then WGo Pv m tb D σ H1 else D.nx σ H1) : tWhile c tb D σ H := ⟨Pv, h0, hs⟩
end L2
set_option maxHeartbeats 1000000
namespace L2
open PySem PySem.Spec PyProof.Rows
noncomputable def Trc (H : Hp) (h G : Heap) (e : Addr) (C : Value) (ed : Option Addr) (fl : Value) : Prop :=
  G.get? e = none ∧ H e = none ∧ ∃ oe vs, h.get? e = some oe ∧ oe.cls = C ∧ oe.dict = ed ∧ oe.data = .fields vs ∧ 1 < vs.size ∧
    ((vs[1]? = some .none ∧ fl = .none) ∨ ∃ T oT ts, vs[1]? = some (.ref T) ∧ G.get? T = none ∧ T ≠ e ∧ H T = none ∧ h.get? T = some oT ∧ oT.data = .fields ts ∧ ts[3]? = some fl)
structure Kp (H : Hp) (G : Heap) (fs : List Addr) (h h' : Heap) : Prop where
  keep : ∀ b o, h.get? b = some o → b ∉ fs → (G.get? b ≠ none ∨ H b ≠ none) → h'.get? b = some o
  slot : ∀ b o, h.get? b = some o → b ∈ fs → ∃ sl, h'.get? b = some { o with slots := sl }
  there : ∀ b o, h.get? b = some o → ∃ o', h'.get? b = some o'
  size : h.objs.size ≤ h'.objs.size
section
variable {M : Model} {A : Around} {E : Value → Shared → Prop} {s : Shared} {Q : Unit → Shared → Prop} {base : Heap} {env : Env} {outer : List Env} {L e : Addr} {C : Value} {ed : Option Addr} {G : Heap} {H : Hp}
end
end L2
set_option maxHeartbeats 1000000
namespace L2
open PySem PySem.Spec PyProof.Rows
noncomputable def CXE (P : Program) (w : World) : CXT := fun outer H s E e s' => ∃ a C ed H', e = .ref a ∧ s'.os = s.os ∧ AllBare s'.gens ∧ Un (frs outer) [] H H' s.heap s'.heap ∧ HOk P w H' s'.heap ∧ Trc H' s'.heap s.heap a C ed .none ∧ E C ed H'
structure Cov (X : Cx) (pins : List (Addr × Obj)) (G : Heap) : Prop where
  loc : G.get? X.env.locals ≠ none
  cell : ∀ x c, X.env.cells.lookup x = some c → G.get? c ≠ none
  pin : ∀ p ∈ X.pn ++ pins, G.get? p.1 ≠ none
  old : ∀ b, G.get? b = none → X.s₀.heap.get? b = none
structure Told (X : Cx) (S : St → Prop) (E : XK) : Prop where
  ex : X.ex = []
  on : ∀ pins σ H s a C ed G, S σ → Inv X pins σ H s → Trc H s.heap G a C ed .none → Cov X pins G → (∀ b, s.heap.get? b = none → G.get? b = none) → E C ed H → X.xe (.ref a) s
section
variable {X : Cx} {k : Nat} {f C : Addr} {fd : FuncData} {ps : List Str} {sp : Sp} {x m : Str} {p pos apos : Pos} {e o : Expr} {es : List Expr} {ta : TE} {t : TA} {S : St → Prop} {E : XK}
noncomputable def tCallX (S : St → Prop) (sp : Sp) (E : XK) (t : TA) : TE := fun σ H Q => t σ H fun vs H1 => S σ ∧ sp vs H1 Q E
end
end L2
set_option maxHeartbeats 1000000
namespace L2
open PySem PySem.Spec PyProof.Rows
noncomputable abbrev vbm : List Value := [.type "ValueError", .type "Exception", .type "BaseException", .type "object"]
noncomputable def exB (K : PySem.W.Frag) (C : Addr) (ini : Option Value) : Bool := match K.lookup C with
  | some ⟨.type "type", _, .cls cd, sl⟩ => (match cd.mro, sl.toList with
    | .ref C' :: bm, [_, _, _, _, some (.builtin n), _] => C' == C && (n == "ValueError.__new__" && (PySem.W.tailIn K vbm bm && (!cd.hasDel && (PySem.W.nsOkIn K cd.ns && PySem.W.nsIn K cd.ns "__init__" == some ini))))
    | _, _ => false)
  | _ => false
section
variable {X : Cx} {e : Expr} {es : List Expr} {t : TA} {S : St → Prop} {E : XK}
noncomputable def tRaise (S : St → Prop) (E : XK) (C : Addr) (t : TA) : TS := fun _ σ H => t σ H fun vs H1 => S σ ∧ vs.length ≤ sizeLine ∧ E (.ref C) none H1
end
end L2
set_option maxHeartbeats 1000000
namespace L2
open PySem PySem.Spec PyProof.Rows
section
variable {X : Cx} {pins : List (Addr × Obj)} {σ : St} {H : Hp} {s : Shared} {G : Heap}
end
end L2
set_option maxHeartbeats 1000000
namespace L2
open PySem PySem.Spec PyProof.Rows
noncomputable def ExO (a : Addr) (C : Value) (ed : Option Addr) : HO := .ext fun h => ∃ oe vs, h.get? a = some oe ∧ oe.cls = C ∧ oe.dict = ed ∧ oe.data = .fields vs
section
variable {X : Cx} {pins : List (Addr × Obj)} {σ : St} {H : Hp} {s : Shared} {G : Heap} {W : Value → Shared → Prop}
end
noncomputable def subB (K : PySem.W.Frag) (C B : Addr) : Bool := match K.lookup C with
  | some ⟨_, _, .cls cd, _⟩ => cd.mro.contains (.ref B)
  | _ => false
end L2
set_option maxHeartbeats 1000000
namespace L2
open PySem PySem.Spec PyProof.Rows
noncomputable def offE (i : Nat) (D : Ends) : Ends := { nx := fun σ H => D.nx (σ.set i none) H, rt := D.rt, bk := fun σ H => D.bk (σ.set i none) H, ct := fun σ H => D.ct (σ.set i none) H }
noncomputable def tAs (K : PySem.W.Frag) (B : Addr) (i : Nat) (ts : TS) (thr : Value → Option Addr → TS) : Value → Option Addr → TS := fun C ed D σ H => ∃ Cc ini b, C = .ref Cc ∧ exB K Cc ini = true ∧ subB K Cc B = b ∧
  if b = true then (∀ a, H a = none → ts (offE i D) (σ.set i (some (.ref a))) (upd H a (ExO a C ed))) else thr C ed D σ H
section
variable {X : Cx}
noncomputable def tTry (tb : St → XK → TS) (th : Value → Option Addr → TS) : TS := fun D σ H => tb σ (fun C ed H' => th C ed D σ H') D σ H
end
end L2
set_option maxHeartbeats 1000000
namespace L2
open PySem PySem.Spec PyProof.Rows
section
variable {prog : Program} {w : World} {A : Around} {E : Value → Shared → Prop} {s : Shared} {K : PySem.W.Frag} {a C : Addr} {ox : Obj} {od : Option Obj} {name : Str}
structure XCls (K : PySem.W.Frag) (C : Addr) : Prop where
  ga : PySem.W.findIn K (.ref C) "__getattribute__" = some (some (.builtin "BaseException.__getattribute__"))
  gh : PySem.W.findIn K (.ref C) "__getattr__" = some none
  base : PySem.W.mroIn K C (.type "BaseException") = some true
  obj : PySem.W.mroIn K C (.type "object") = some true
  hd : PySem.W.hasDictIn K C = true
  cl : PySem.W.findIn K (.ref C) "__class__" = some (some (.builtin "object.__class__"))
  cg : PySem.W.specialIn K (.builtin "object.__class__") "__get__" = some (some (.builtin "getset_descriptor.__get__"))
  ct : PySem.W.takesIn K (.builtin "object.__class__") = some true
end
end L2
set_option maxHeartbeats 1000000
namespace L2
open PySem PySem.Spec PyProof.Rows
section
variable {K : PySem.W.Frag} {a C : Addr}
end
noncomputable def XdOk (H : Hp) (ed : Option Addr) : Prop := ed = none ∨ ∃ dx fs, ed = some dx ∧ H dx = some (.xd fs)
section
variable {P : Program} {w : World} {H : Hp} {h : Heap} {a C : Addr} {ed : Option Addr}
end
section
variable {X : Cx}
noncomputable def rIsX (K : PySem.W.Frag) : List V → Hp → VK → Prop := fun xs H Q => ∃ a C ed b, H a = some (ExO a (.ref C) ed) ∧ XdOk H ed ∧ XCls K C ∧ ((∃ B, xs = [.ref a, .ref B] ∧ PySem.W.kitOne K (.ref C) (.ref B) = some b) ∨ ∃ S, xs = [.ref a, .ty S] ∧ PySem.W.kitOne K (.ref C) (.type S) = some b) ∧ Q (.bl b) H
noncomputable def tXF (K : PySem.W.Frag) (te : TE) (f : Str) : TE := fun σ H Q => te σ H fun x H1 => ∃ a C dx fs v, x = .ref a ∧ H1 a = some (ExO a (.ref C) (some dx)) ∧ H1 dx = some (.xd fs) ∧ XCls K C ∧ NoAttr K C f ∧ fs.lookup f = some v ∧ Q v H1
end
end L2
set_option maxHeartbeats 1000000
namespace L2
open PySem PySem.Spec PyProof.Rows
section
variable {prog : Program} {w : World} {A : Around} {E : Value → Shared → Prop} {h : Heap} {g : Array GenState} {d : Drawn} {t : Nat} {os : OsState} {K : PySem.W.Frag}
variable {nm q : Str} {C N a : Addr} {bs bm : List Value} {sn : List Str} {sub : List Value} {ab : Bool} {col : Option Bool} {dd : Option Addr} {k0 k1 k2 k3 k5 : Option Value} {newId : String} {name : Str} {v : Value} {o : Obj} {vs : Array Value}
end
end L2
set_option maxHeartbeats 1000000
namespace L2
open PySem PySem.Spec PyProof.Rows
noncomputable def ExN (a : Addr) (C : Value) (ed : Option Addr) : HO := .ext fun h => ∃ oe vs, h.get? a = some oe ∧ oe.cls = C ∧ oe.dict = ed ∧ oe.data = .fields vs ∧ 1 < vs.size ∧ vs[1]? = some .none
noncomputable def dropH (H : Hp) (a : Addr) : Hp := fun b => if b = a then none else H b
section
variable {X : Cx} {pins : List (Addr × Obj)} {σ : St} {H : Hp} {s : Shared} {a : Addr}
noncomputable def sXset (K : PySem.W.Frag) (ta tv : TE) (f : Str) : TS := fun D σ H => tv σ H fun y H1 => ta σ H1 fun x H2 => ∃ a C ini, x = .ref a ∧ H2 a = some (ExN a (.ref C) none) ∧ exB K C ini = true ∧ PySem.W.hasDictIn K C = true ∧
  PySem.W.findIn K (.ref C) "__setattr__" = some (some (.builtin "object.__setattr__")) ∧ NoAttr K C f ∧ ∀ dx, H2 dx = none → dx ≠ a → D.nx σ (upd (upd H2 dx (.xd [(f, y)])) a (ExN a (.ref C) (some dx)))
end
end L2
set_option maxHeartbeats 1000000
namespace L2
open PySem PySem.Spec PyProof.Rows
section
variable {prog : Program} {w : World} {A : Around} {E : Value → Shared → Prop} {h : Heap} {g : Array GenState} {d : Drawn} {t : Nat} {os : OsState}
variable {nm qn : Str} {C N : Addr} {bs bm : List Value} {hd : Bool} {sn : List Str} {sub : List Value} {ab : Bool} {col : Option Bool} {dd : Option Addr} {k0 k1 k2 k3 k5 : Option Value}
end
section
variable {X : Cx} {e : Expr} {es : List Expr} {t : TA} {S : St → Prop} {E : XK} {k : Nat} {f C : Addr} {fd : FuncData} {ps : List Str} {sp : Sp}
noncomputable def tRaiseI (S : St → Prop) (E : XK) (C : Addr) (sp : Sp) (t : TA) : TS := fun _ σ H => t σ H fun vs H1 => S σ ∧ vs.length ≤ sizeLine ∧ ∀ a, H1 a = none → sp (.ref a :: vs) (upd H1 a (ExN a (.ref C) none)) (fun v H2 => v = .non ∧ ∃ ed, H2 a = some (ExN a (.ref C) ed) ∧ E (.ref C) ed (dropH H2 a)) E0
end
end L2
set_option maxHeartbeats 1000000
namespace L2
open PySem PySem.Spec PyProof.Rows
section
variable {X : Cx} {k : Nat} {f C : Addr} {fd : FuncData} {ps : List Str} {sp : Sp} {x m : Str} {p pos apos : Pos} {e o : Expr} {es : List Expr} {ta : TE} {t : TA} {S : St → Prop} {E : XK}
noncomputable def tMethX (S : St → Prop) (C : Addr) (m : Str) (sp : Sp) (E : XK) (ta : TE) (t : TA) : TE := fun σ H Q => ta σ H fun x H1 => ∃ a dx fs, x = .ref a ∧ H1 a = some (.ins C dx fs) ∧ fs.lookup m = none ∧ t σ H1 fun vs H2 => S σ ∧ sp (x :: vs) H2 Q E
noncomputable def tMakeX (S : St → Prop) (C : Addr) (sp : Sp) (E : XK) (t : TA) : TE := fun σ H Q => t σ H fun vs H1 => S σ ∧ ∀ x dx, H1 x = none → H1 dx = none → dx ≠ x → sp (.ref x :: vs) (upd (upd H1 dx (.own x)) x (.ins C dx [])) (fun v H2 => v = .non ∧ Q (.ref x) H2) E
end
end L2
set_option maxHeartbeats 1000000
namespace L2
open PySem PySem.Spec PyProof.Rows
noncomputable def inCls (s : Stmt) (j : Nat) : Stmt := match s with
  | .ClassDef _ _ _ b _ _ _ _ _ _ _ => b.getD j (.Pass ⟨0, 0, 0, 0⟩)
  | _ => .Pass ⟨0, 0, 0, 0⟩
structure MthOk (K : PySem.W.Frag) (x qual : Str) (st : Stmt) (ps : List Str) (f : Addr) (fd : FuncData) : Prop where
  F : Fun K x qual st f fd
  b : Binds K fd ps []
  fn : PySem.W.isFn K (.ref f) = true
structure ExcOk (K : PySem.W.Frag) (mg : Str → Option Value) (x : Str) (c : Addr) (ini : Option Value) : Prop where
  m : mg x = some (.ref c)
  x : exB K c ini = true
  kp : PySem.W.keepIn K (.ref c) = true
  xc : XCls K c
  sa : PySem.W.findIn K (.ref c) "__setattr__" = some (some (.builtin "object.__setattr__"))
structure OwnOk (K : PySem.W.Frag) (mg : Str → Option Value) (x : Str) (c fi : Addr) : Prop where
  m : mg x = some (.ref c)
  cls : Cls K c
  mkr : Mk K c fi
theorem own_mk {K : PySem.W.Frag} {h : Heap} {mg : Str → Option Value} {x : Str} {c fi : Addr} (X : K.In h) (G : h.Ns mainGlobals mg) (a : PySem.W.nsIn K mainGlobals x = some (some (.ref c))) (pg : PySem.W.plainGet K c Str.empty = true) (hd : PySem.W.hasDictIn K c = true) (po : PySem.W.plainOver K c = true)
    (sa : PySem.W.findIn K (.ref c) "__setattr__" = some (some (.builtin "object.__setattr__"))) (ma : PySem.W.makesIn K c = true) (i : PySem.W.findIn K (.ref c) "__init__" = some (some (.ref fi))) (fn : PySem.W.isFn K (.ref fi) = true) (kp : PySem.W.keepIn K (.ref c) = true) : OwnOk K mg x c fi :=
  ⟨PySem.W.mg_of X G a, ⟨pg, hd, po, sa⟩, ⟨ma, i, fn, kp⟩⟩
section
variable {X : Cx}
end
end L2
set_option maxHeartbeats 1000000
namespace L2
open PySem PySem.Spec PyProof.Rows
noncomputable def Ite (K : PySem.W.Frag) (a : Addr) : It where
  go := fun i H => ∃ xs x, SqL K H a xs ∧ xs[i]? = some x
  yld := fun i H y H' => ∃ p x, H p = none ∧ y = .ref p ∧ (∀ ys, SqL K H a ys → ys[i]? = some x) ∧ H' = upd H p (.tup [.int i, x])
  stop := fun i H => ∃ xs, SqL K H a xs ∧ xs.length ≤ i
theorem turn_enum {P : Program} {w : World} {K : PySem.W.Frag} {elts : List Expr} {x1 : Nat} {tpos : Pos} (a e it : Addr) (hne : e ≠ it) : Turn P w K (.Tuple elts x1 tpos) (Ite K a) [e, it] e (fun i h => ∃ old, IsEnum h e it i old ∧ h.IsListIter it a i) where
  mem := by simp
  obj := fun i h st b hb => by
    obtain ⟨old, h1, o, h2, c, d⟩ := st
    rcases List.mem_cons.mp hb with rfl | hb
    · exact ⟨_, h1, fun v z => nomatch z⟩
    · cases List.mem_singleton.mp hb
      exact ⟨o, h2, fun v z => by rw [d] at z; cases z⟩
  keep := fun i h h' st k => by
    obtain ⟨old, h1, h2⟩ := st
    exact ⟨old, k e (by simp) _ h1, h2.at fun o z => k it (by simp) o z⟩
  item := by
    intro X hP hw hK hc i pins s σ H E I hf st hg
    subst hP hw hK
    obtain ⟨xs, x, hq, hx⟩ := hg
    obtain ⟨its, rv, p, hz⟩ := I.list hq
    obtain ⟨u, hu, ru⟩ := rv.get hx
    obtain ⟨old, h1, h2⟩ := st
    obtain ⟨f0, f1, f2, f3, f4, f5⟩ := hf e (by simp)
    obtain ⟨g0, g1, g2, g3, g4, g5⟩ := hf it (by simp)
    have fr : H s.heap.objs.size = none := I.hok.fresh (Nat.le_refl _)
    have pe : s.heap.objs.size ≠ e := Nat.ne_of_gt (Heap.lt_size h1)
    refine wpAny_pyNext_enum_item h1 h2 p.isList (x := u) (by simpa using hu) hne fun h' out st' tup sz k => ⟨.ref s.heap.objs.size, rfl, ?_⟩
    refine wpAny_letOwnedTupleGo_enum (s := { s with heap := h', toks := s.toks + 1 }) out fun h'' he' sb => ?_
    have kk : ∀ b o, b ∉ [e, it] → s.heap.get? b = some o → h''.get? b = some o := fun b o hb z =>
      (sb.2 b (fun q => hb (by simp [q]))).trans (k b o (fun q => hb (by simp [q])) (fun q => hb (by simp [q])) z)
    have kt : h''.get? s.heap.objs.size = some { cls := .type "tuple", data := .seq #[.int i s.toks, u] } := (sb.2 _ pe).trans tup
    have nt : ∀ b v, H b = some v → b ∉ [e, it] := fun b v z hb => by
      rcases List.mem_cons.mp hb with rfl | hb
      · rw [f0] at z; cases z
      · cases List.mem_singleton.mp hb
        rw [g0] at z; cases z
    have np : ∀ b v, H b = some v → b ≠ s.heap.objs.size := fun b v z q => by subst q; rw [fr] at z; cases z
    have up : ∀ b v, H b = some v → upd H s.heap.objs.size (.tup [.int i, x]) b = some v := fun b v z => by rw [upd_ne (np b v z)]; exact z
    refine ⟨.ref s.heap.objs.size, upd H s.heap.objs.size (.tup [.int i, x]), ?_, rfl, ⟨_, x, fr, rfl, fun ys hy => by rw [I.list_inj hy hq]; exact hx, rfl⟩, ⟨u, he', st'.at fun o z => (sb.2 it (Ne.symm hne)).trans z⟩, fun b hb => ?_⟩
    · show Inv X pins σ _ { s with heap := h'', gens := s.gens, drawn := s.drawn, toks := s.toks + 1 }
      refine Inv.step (s := s) (h' := h'') (t' := s.toks + 1) (g' := s.gens) (d' := s.drawn) (ch := [e, it]) I (fun b hb => ?_) (fun b o _ _ hb z _ => kk b o hb z) (fun b o _ _ hb z _ => ⟨o.slots, kk b o hb z⟩) (fun b o _ z n => by rw [upd_ne (Nat.ne_of_lt (Heap.lt_size z))]; exact n) (fun b o hb z => ⟨o, kk b o hb z⟩)
        (fun b ys z => up b _ z) (fun b o v z => up b _ z) (fun b ps z => ⟨#[], by rw [Array.append_empty]; exact up b _ z⟩) (fun m hm => ?_) (fun b v z => ?_) I.bare
      · rcases List.mem_cons.mp hb with rfl | hb
        · exact ⟨f3, f1, f4, f5⟩
        · cases List.mem_singleton.mp hb
          exact ⟨g3, g1, g4, g5⟩
      · obtain ⟨o, es, ep, ho, r⟩ := hm
        refine ⟨o, es, ep, kk _ o (fun hb => ?_) ho, r⟩
        rcases List.mem_cons.mp hb with q | hb
        · exact f1 q.symm
        · exact g1 (List.mem_singleton.mp hb).symm
      · by_cases q : b = s.heap.objs.size
        · subst q
          rw [upd_same] at z
          cases z
          exact ⟨small_line (Nat.le_of_ble_eq_true rfl), [.int i s.toks, u], .cons ⟨_, rfl⟩ (.cons ru .nil), _, kt, rfl, _, rfl⟩
        · rw [upd_ne q] at z
          refine (I.hok b v z).stay (fun c o hc y => kk c o ?_ y) (fun c y => up c _ y) fun c ys y => up c _ y
          rcases hc with rfl | hc
          · exact nt _ _ z
          · exact nt _ _ hc
    · rcases List.mem_cons.mp hb with rfl | hb
      · rw [upd_ne (Ne.symm pe)]; exact f0
      · cases List.mem_singleton.mp hb
        obtain ⟨o, h2', _⟩ := h2
        rw [upd_ne (Nat.ne_of_lt (Heap.lt_size h2'))]; exact g0
  done := by
    intro X hP hw hK hc i pins s σ H E I hf st hg
    subst hP hw hK
    obtain ⟨xs, hq, hx⟩ := hg
    obtain ⟨its, rv, p, hz⟩ := I.list hq
    obtain ⟨old, h1, h2⟩ := st
    obtain ⟨g0, g1, g2, g3, g4, g5⟩ := hf it (by simp)
    have hl := rv.length
    exact wpAny_pyNext_enum_end (I.ok.hd hc) h1 h2 p.isList (by simp; omega) fun h' eb => ⟨rfl, I.turned (t' := s.toks) (fun b o hb z => eb b o hb z) g0 g1 g3 g4 g5⟩
  self := fun _ _ _ _ _ st h => by
    obtain ⟨old, h1, h2⟩ := st
    exact wpAny_pyIter_enum h1 h
section
variable {X : Cx}
noncomputable def iEnum (K : PySem.W.Frag) (ta : TA) : TI := fun σ H R => ta σ H fun vs H1 => ∃ a, vs = [.ref a] ∧ (∃ xs, SqL K H1 a xs) ∧ R (Ite K a) H1
theorem pi_enum {a : Expr} {ta : TA} {p pos tpos : Pos} {elts : List Expr} {x1 : Nat} (hg : Gl X "enumerate") (hm : X.mg "enumerate" = none) (ha : PA X [a] ta) (hn : notStar a = true) : PI X (.Tuple elts x1 tpos) (.Call (.Name "enumerate" p) [a] [] pos) (iEnum X.K ta) := by
  intro pins s σ H R I h
  refine Call_ (ld_blt I hg hm boot_enumerate (PyProof.Rows.callWith_type1 (thn (ha pos pins s σ H _ I h) fun us s1 ⟨vs, H1, I1, r1, q1⟩ => ?_) (star_cons hn) rfl))
  obtain ⟨l, e, ⟨xs, hq⟩, q⟩ := q1
  subst e
  cases r1 with
  | cons r rr =>
    cases rr
    cases (show _ = Value.ref l from r)
    obtain ⟨its, rv, pl, hz⟩ := I1.list hq
    refine call_enumerate_list pl.isList fun h' he st sz k => ?_
    refine wpAny_pyIter_enum (s := { s1 with heap := h' }) he ?_
    refine ⟨s1.heap.objs.size + 1, [s1.heap.objs.size + 1, s1.heap.objs.size], _, _, H1, rfl, I1.kept (t' := s1.toks) k, turn_enum l _ _ (Nat.succ_ne_self _), ⟨_, he, st⟩, fun b hb => ?_, q⟩
    rcases List.mem_cons.mp hb with rfl | hb
    · exact I1.fpOk (Nat.le_succ _) (I1.hok.fresh (Nat.le_succ _))
    · cases List.mem_singleton.mp hb
      exact I1.fpOk (Nat.le_refl _) (I1.hok.fresh (Nat.le_refl _))
end
theorem ForW.enum {K : PySem.W.Frag} {a : Addr} {xs : List V} {g : TG} {tb : TS} {D : Ends} {σ : St} {H : Hp} (Pv : Nat → St → Hp → Prop) (h0 : Pv 0 σ H) (hl : ∀ i σ H, Pv i σ H → SqL K H a xs)
    (hs : ∀ (i : Nat) x σ H p, xs[i]? = some x → Pv i σ H → H p = none → g (.ref p) σ (upd H p (.tup [.int i, x])) fun σ2 H2 => tb { D with nx := Pv (i + 1), ct := Pv (i + 1), bk := D.nx } σ2 H2)
    (hd : ∀ σ H, Pv xs.length σ H → D.nx σ H) : ForW (Ite K a) g tb D σ H := by
  refine ⟨fun i m σ H => Pv i σ H ∧ i ≤ xs.length ∧ m = xs.length - i, ⟨_, h0, Nat.zero_le _, rfl⟩, fun i m σ H ⟨h1, h2, h3⟩ => ?_⟩
  have sq := hl i σ H h1
  by_cases e : i = xs.length
  · subst e
    exact .inl ⟨⟨xs, sq, Nat.le_refl _⟩, hd σ H h1⟩
  · have lt : i < xs.length := Nat.lt_of_le_of_ne h2 e
    refine .inr ⟨⟨xs, xs[i], sq, List.getElem?_eq_getElem lt⟩, Pv (i + 1), fun σ' H' z => ⟨xs.length - (i + 1), by omega, z, lt, rfl⟩, fun x H' hy => ?_⟩
    obtain ⟨p, x', hp, rfl, hx, rfl⟩ := hy
    exact hs i x' σ H p (hx xs sq) h1 hp
end L2
set_option maxHeartbeats 4000000
namespace L2
open PySem PySem.Spec PyProof.Rows
section
variable {prog : Program} {w : World} {A : Around} {E : Value → Shared → Prop} {s : Shared} {T : String} {r d : Addr} {n : Nat} {P : Nat → Value → Prop} {OK : Heap → Prop}
theorem proto_src {R : Result → Shared → Prop} (K : PySem.W.KdlSrc prog w T r d n P OK) (hh : A.handled = none) (hok : OK s.heap) (hn : n ≤ sizeLine)
    (hR : ∀ h' tk acc' c', (∀ b o, s.heap.get? b = some o → h'.get? b = some o) → h'.get? s.heap.objs.size = some { cls := .type "list", dict := none, data := .seq acc' c', slots := #[] } → ItemsOf P acc' n → R (.ok (.ret (.ref s.heap.objs.size))) { s with heap := h', toks := tk }) :
    codeAny (model prog w) A (.builtin "proto.collect" ⟨[.ref r], []⟩) R s := by
  refine codeAny_builtin PySem.F.entry_proto_collect ?_
  rw [Around.under_plainId PySem.F.plain_proto_collect _]
  show wpAny _ A.in1 (newList [] >>= fun l => again (.builtin "list.__iadd__" ⟨[l, .ref r], []⟩)) _ _ s
  refine wpAny_bind (wpAny_newObj_type ?_)
  refine wpAny_pure ⟨plainId_quiet PySem.F.plain_list_iadd _, codeAny_builtin PySem.F.entry_list_iadd ?_⟩
  rw [Around.under_plainId PySem.F.plain_list_iadd _]
  have hlt := K.there _ hok
  have hS : (s.heap.push { cls := .type "list", data := .seq ([] : List Value).toArray }).get? s.heap.objs.size = some { cls := .type "list", data := .seq #[] 0 } := Heap.get?_push_size _ rfl
  show wpAny _ A.in1 (Builtin.List.listExtendWith (.ref s.heap.objs.size) (.ref r) (.ref s.heap.objs.size)) _ _ _
  exact PySem.W.kdl_extend (s := { s with heap := s.heap.push { cls := .type "list", data := .seq ([] : List Value).toArray } }) (A := A) K hh (K.keep _ _ hok fun b _ o e => Heap.get?_push_of_some _ e) s.heap.objs.size (Nat.ne_of_gt hlt.1) (Nat.ne_of_gt hlt.2) (.ref s.heap.objs.size) 0 hS
    (fun h' tk acc' c' hk hS' hacc => hR h' tk acc' c' (fun b o e => hk b o (Nat.ne_of_lt (Heap.lt_size e)) (Heap.get?_push_of_some _ e)) hS' hacc) hn
theorem collect_src {Q : List Value → Shared → Prop} (K : PySem.W.KdlSrc prog w T r d n P OK) (hh : A.handled = none) (hok : OK s.heap) (hn : n ≤ sizeLine)
    (hQ : ∀ h' tk acc', (∀ b o, s.heap.get? b = some o → h'.get? b = some o) → s.heap.objs.size < h'.objs.size → ItemsOf P acc' n → Q acc'.toList { s with heap := h', toks := tk }) : wpAny (model prog w) A (collect (.ref r)) Q E s := by
  unfold collect
  refine wpAny_bind (wpAny_runValue (proto_src K hh hok hn fun h' tk acc' c' hk hS' hacc => ?_))
  show wpAny _ A (load s.heap.objs.size >>= _) _ _ _
  refine wpAny_bind (wpAny_load hS' ?_)
  exact wpAny_pure (hQ h' tk acc' hk (Heap.lt_size hS') hacc)
end
end L2
namespace L2
open PySem PySem.Spec PyProof.Rows
theorem ints_of_ix : ∀ {us : List Value} {ks : List Int}, us.length = ks.length → (∀ (i : Nat) v k, us[i]? = some v → ks[i]? = some k → ∃ t, v = Value.int k t) → IntsAre us ks
  | [], [], _, _ => .nil
  | [], _ :: _, h, _ => by cases h
  | _ :: _, [], h, _ => by cases h
  | u :: us, k :: ks, h, f => by
    obtain ⟨t, rfl⟩ := f 0 u k rfl rfl
    exact .cons k t (ints_of_ix (by simpa using h) fun i v k' a b => f (i + 1) v k' (by simpa using a) (by simpa using b))
theorem vals_of_ints : ∀ {us : List Value} {ks : List Int}, IntsAre us ks → Vals (ks.map V.int) us
  | _, _, .nil => .nil
  | _, _, .cons _ _ t => .cons ⟨_, rfl⟩ (vals_of_ints t)
theorem keyIs_inl {i : Int} {v : Value} (h : keyIs (.inl i) v = true) : ∃ t, v = Value.int i t := by
  have h' : Value.isInt i v = true := h
  cases v with
  | int j t =>
    have e : (j == i) = true ∨ (i == j) = true := by first | exact .inl h' | exact .inr h'
    rcases e with e | e
    · exact ⟨t, by rw [beq_iff_eq.mp e]⟩
    · exact ⟨t, by rw [beq_iff_eq.mp e]⟩
  | _ => cases h'
section
variable {X : Cx}
end
end L2
set_option maxHeartbeats 4000000
namespace L2
open PySem PySem.Spec PyProof.Rows
open AutoSeq1 (wpAny_loadPart')
section
variable {prog : Program} {w : World} {A : Around} {E : Value → Shared → Prop} {s : Shared}
end
end L2
namespace L2
open PySem PySem.Spec PyProof.Rows
section
variable {X : Cx}
noncomputable def rDPop : V → List V → Hp → VK → Prop := fun x vs H Q => ∃ d kvs k v, x = .ref d ∧ vs = [kV k] ∧ H d = some (.dK kvs) ∧ valV kvs k = some v ∧ Q v (upd H d (.dK (dropK kvs k)))
end
end L2
set_option maxHeartbeats 4000000
namespace L2
open PySem PySem.Spec PyProof.Rows
section
variable {X : Cx}
end
end L2
namespace L2
open PySem PySem.Spec PyProof.Rows
section
variable {X : Cx} {k : Nat} {f C : Addr} {fd : FuncData} {ps : List Str} {sp : Sp} {x m : Str} {p pos apos : Pos} {e o : Expr} {es : List Expr} {ta : TE} {t : TA}
end
end L2
set_option maxHeartbeats 4000000
namespace L2
open PySem PySem.Spec PyProof.Rows
section
variable {X : Cx}
noncomputable def rIndexS (K : PySem.W.Frag) : V → List V → Hp → VK → Prop := fun x vs H Q => ∃ l, ∃ ns : List Str, ∃ z, ∃ j : Nat, x = .ref l ∧ vs = [.str z] ∧ SqL K H l (ns.map V.str) ∧ ns[j]? = some z ∧ (∀ m, m < j → ns[m]? ≠ some z) ∧ Q (.int j) H
end
end L2
set_option maxHeartbeats 4000000
namespace L2
open PySem PySem.Spec PyProof.Rows
section
variable {M : Model} {A : Around} {E : Value → Shared → Prop} {s : Shared} {Q : Unit → Shared → Prop} {base : Heap} {env : Env} {outer : List Env} {L e : Addr} {C : Value} {ed : Option Addr} {G : Heap} {H : Hp}
end
structure Leaves (X : Cx) (E : XK) : Prop where
  ex : X.ex = []
  stk : X.stack = X.env :: X.outer
  fr : X.env.frame = some X.env.locals
  on : ∀ pins σ H s a C ed fl, Inv X pins σ H s → Trc H s.heap X.s₀.heap a C ed fl → E C ed H → X.xe (.ref a) s
structure ToldC (X : Cx) (E : XK) : Prop where
  on : ∀ pins σ H s e s', Inv X pins σ H s → CXE X.prog X.w X.stack H s E e s' → X.xe e s'
section
variable {X : Cx} {k : Nat} {f C : Addr} {fd : FuncData} {ps : List Str} {sp : Sp} {x m : Str} {p pos apos : Pos} {e o : Expr} {es : List Expr} {ta : TE} {t : TA} {E : XK}
end
section
variable {X : Cx} {pins : List (Addr × Obj)} {σ : St} {H : Hp} {s : Shared} {W : Value → Shared → Prop}
end
section
variable {X : Cx} {pins : List (Addr × Obj)} {σ : St} {H2 : Hp} {s2 : Shared} {scope : Scope} {own rest : List Str} {cl : List (Str × Addr)} {fp : List Addr} {E : Value → Shared → Prop}
end
section
variable {X : Cx} {pins : List (Addr × Obj)} {σ : St} {H2 : Hp} {s2 : Shared} {scope : Scope} {N' : List Str} {cl : List (Str × Addr)} {fp : List Addr} {C : Addr} {EX : XK} {use : Option (Value → Sem Unit)} {QQ : Value → Shared → Prop} {acc : Value}
end
section
variable {X : Cx} {elt tg iter : Expr} {ifs : List Expr} {scope : Scope} {pos : Pos} {wi : TI} {g : TG} {tt : TT} {te : TE} {EX : XK}
end
end L2
set_option maxHeartbeats 4000000
namespace L2
open PySem PySem.Spec PyProof.Rows
section
variable {prog : Program} {w : World} {A : Around} {R : Result → Shared → Prop} {I : Addr} {fp wr : List Addr} {G : Array GenState → Array GenState → Prop} {n : Nat} {P : Nat → Value → Prop} {St : Nat → Shared → Prop}
variable {α : Type} [DecidableEq α] [BEq α] [LawfulBEq α] {knd : PySem.KeyKind prog w α}
end
section
variable {prog : Program} {w : World} {A : Around} {E : Value → Shared → Prop} {s : Shared}
noncomputable abbrev bareSet (led : Bool) : Obj := { cls := .type "set", dict := none, data := .set #[] 0 (.fresh 0 0 led) }
set_option maxHeartbeats 3200000 in
variable {α : Type} [DecidableEq α] [BEq α] [LawfulBEq α] {knd : PySem.KeyKind prog w α}
end
end L2
set_option maxHeartbeats 4000000
namespace L2
open PySem PySem.Spec PyProof.Rows
theorem bt_set : bootBuiltins "set" = some (.type "set") := by decide +kernel
section
variable {X : Cx}
end
end L2
set_option maxHeartbeats 4000000
namespace L2
open PySem PySem.Spec PyProof.Rows
section
variable {X : Cx}
end
end L2
set_option maxHeartbeats 4000000
namespace L2
open PySem PySem.Spec PyProof.Rows
section
variable {X : Cx}
noncomputable def tStop : TS := fun _ _ _ => False
end
end L2
set_option maxHeartbeats 4000000
namespace L2
open PySem PySem.Spec PyProof.Rows
noncomputable def Itz (K : PySem.W.Frag) (a b : Addr) : It where
  go := fun i H => ∃ xs ys x y, SqL K H a xs ∧ SqL K H b ys ∧ xs[i]? = some x ∧ ys[i]? = some y
  yld := fun i H v H' => ∃ p x y, H p = none ∧ v = .ref p ∧ (∀ zs, SqL K H a zs → zs[i]? = some x) ∧ (∀ zs, SqL K H b zs → zs[i]? = some y) ∧ H' = upd H p (.tup [x, y])
  stop := fun i H => ∃ xs ys, SqL K H a xs ∧ SqL K H b ys ∧ (xs.length ≤ i ∨ ys.length ≤ i)
theorem turn_zip {P : Program} {w : World} {K : PySem.W.Frag} {elts : List Expr} {x1 : Nat} {tpos : Pos} (z TI TO i1 i2 a b : Addr) (D : ZipApart z TI TO i1 i2 a b) :
    Turn P w K (.Tuple elts x1 tpos) (Itz K a b) [z, TI, TO, i1, i2] z (fun i h => IsZip h z TI TO .none ∧ IsPair h TI (.ref i1) (.ref i2) ∧ (∃ x y, IsPair h TO x y) ∧ h.IsListIter i1 a i ∧ h.IsListIter i2 b i) where
  mem := by simp
  obj := fun i h st c hc => by
    obtain ⟨h1, h2, ⟨x, y, h3⟩, ⟨o4, e4, _, d4⟩, ⟨o5, e5, _, d5⟩⟩ := st
    simp only [List.mem_cons, List.not_mem_nil, or_false] at hc
    rcases hc with rfl | rfl | rfl | rfl | rfl
    · exact ⟨_, h1, fun v z => nomatch z⟩
    · exact ⟨_, h2, fun v z => nomatch z⟩
    · exact ⟨_, h3, fun v z => nomatch z⟩
    · exact ⟨_, e4, fun v z => by rw [d4] at z; cases z⟩
    · exact ⟨_, e5, fun v z => by rw [d5] at z; cases z⟩
  keep := fun i h h' st k => by
    obtain ⟨h1, h2, ⟨x, y, h3⟩, h4, h5⟩ := st
    exact ⟨k z (by simp) _ h1, k TI (by simp) _ h2, ⟨x, y, k TO (by simp) _ h3⟩, h4.at fun o e => k i1 (by simp) o e, h5.at fun o e => k i2 (by simp) o e⟩
  item := by
    intro X hP hw hK hc i pins s σ H E I hf st hg
    subst hP hw hK
    obtain ⟨xs, ys, x, y, hqa, hqb, hx, hy⟩ := hg
    obtain ⟨ia, ra, pa, _⟩ := I.list hqa
    obtain ⟨ib, rb, pb, _⟩ := I.list hqb
    obtain ⟨u, hu, ru⟩ := ra.get hx
    obtain ⟨v, hv, rv⟩ := rb.get hy
    obtain ⟨h1, h2, ⟨ox, oy, h3⟩, h4, h5⟩ := st
    have fr : H s.heap.objs.size = none := I.hok.fresh (Nat.le_refl _)
    have pz : s.heap.objs.size ≠ z := Nat.ne_of_gt (Heap.lt_size h1)
    refine wpAny_pyNext_zip_item D h1 h2 h3 h4 h5 pa.isList pb.isList (x := u) (y := v) (by simpa using hu) (by simpa using hv) fun h' out to' st1 st2 tup sz k => ⟨.ref s.heap.objs.size, rfl, ?_⟩
    refine wpAny_letOwnedTupleGo_zip (s := { s with heap := h' }) out fun h'' hz' sb => ?_
    have kk : ∀ c o, c ∉ [z, TI, TO, i1, i2] → s.heap.get? c = some o → h''.get? c = some o := fun c o hb e =>
      (sb.2 c (fun q => hb (by simp [q]))).trans (k c o (fun q => hb (by simp [q])) (fun q => hb (by simp [q])) (fun q => hb (by simp [q])) (fun q => hb (by simp [q])) e)
    have kt : h''.get? s.heap.objs.size = some { cls := .type "tuple", data := .seq #[u, v] } := (sb.2 _ pz).trans tup
    have nt : ∀ c w', H c = some w' → c ∉ [z, TI, TO, i1, i2] := fun c w' e hb => by
      rw [(hf c hb).1] at e; cases e
    have np : ∀ c w', H c = some w' → c ≠ s.heap.objs.size := fun c w' e q => by subst q; rw [fr] at e; cases e
    have up : ∀ c w', H c = some w' → upd H s.heap.objs.size (.tup [x, y]) c = some w' := fun c w' e => by rw [upd_ne (np c w' e)]; exact e
    have lts : ∀ c ∈ [z, TI, TO, i1, i2], c < s.heap.objs.size := fun c hc => by
      obtain ⟨o4, e4, _, _⟩ := h4
      obtain ⟨o5, e5, _, _⟩ := h5
      simp only [List.mem_cons, List.not_mem_nil, or_false] at hc
      rcases hc with rfl | rfl | rfl | rfl | rfl
      · exact Heap.lt_size h1
      · exact Heap.lt_size h2
      · exact Heap.lt_size h3
      · exact Heap.lt_size e4
      · exact Heap.lt_size e5
    refine ⟨.ref s.heap.objs.size, upd H s.heap.objs.size (.tup [x, y]), ?_, rfl, ⟨_, x, y, fr, rfl, fun zs hz => by rw [I.list_inj hz hqa]; exact hx, fun zs hz => by rw [I.list_inj hz hqb]; exact hy, rfl⟩, ⟨hz', (sb.2 TI D.TIz).trans (k TI _ D.TIz D.TITO D.TIi1 D.TIi2 h2), ⟨u, v, (sb.2 TO D.TOz).trans to'⟩, st1.at fun o e => (sb.2 i1 D.i1z).trans e, st2.at fun o e => (sb.2 i2 D.i2z).trans e⟩, fun c hc => ?_⟩
    · show Inv X pins σ _ { s with heap := h'', gens := s.gens, drawn := s.drawn, toks := s.toks }
      refine Inv.step (s := s) (h' := h'') (t' := s.toks) (g' := s.gens) (d' := s.drawn) (ch := [z, TI, TO, i1, i2]) I (fun c hc => ?_) (fun c o _ _ hb e _ => kk c o hb e) (fun c o _ _ hb e _ => ⟨o.slots, kk c o hb e⟩) (fun c o _ e n => by rw [upd_ne (Nat.ne_of_lt (Heap.lt_size e))]; exact n) (fun c o hb e => ⟨o, kk c o hb e⟩)
        (fun c zs e => up c _ e) (fun c o w' e => up c _ e) (fun c ps e => ⟨#[], by rw [Array.append_empty]; exact up c _ e⟩) (fun m hm => ?_) (fun c w' e => ?_) I.bare
      · obtain ⟨f0, f1, f2, f3, f4, f5⟩ := hf c hc
        exact ⟨f3, f1, f4, f5⟩
      · obtain ⟨o, es, ep, ho, r⟩ := hm
        exact ⟨o, es, ep, kk _ o (fun hb => (hf _ hb).2.1 rfl) ho, r⟩
      · by_cases q : c = s.heap.objs.size
        · subst q
          rw [upd_same] at e
          cases e
          exact ⟨small_line (Nat.le_of_ble_eq_true rfl), [u, v], .cons ru (.cons rv .nil), _, kt, rfl, _, rfl⟩
        · rw [upd_ne q] at e
          refine (I.hok c w' e).stay (fun d o hd y => kk d o ?_ y) (fun d y => up d _ y) fun d zs y => up d _ y
          rcases hd with rfl | hd
          · exact nt _ _ e
          · exact nt _ _ hd
    · rw [upd_ne (Nat.ne_of_lt (lts c hc))]
      exact (hf c hc).1
  done := by
    intro X hP hw hK hc i pins s σ H E I hf st hg
    subst hP hw hK
    obtain ⟨xs, ys, hqa, hqb, hx⟩ := hg
    obtain ⟨ia, ra, pa, _⟩ := I.list hqa
    obtain ⟨ib, rb, pb, _⟩ := I.list hqb
    obtain ⟨h1, h2, ⟨ox, oy, h3⟩, h4, h5⟩ := st
    have la := ra.length
    have lb := rb.length
    refine wpAny_pyNext_zip_end (I.ok.hd hc) D h1 h2 h3 h4 h5 pa.isList pb.isList (by
      rcases hx with hx | hx
      · left; simp; omega
      · right; simp; omega) fun h' k => ⟨rfl, ?_⟩
    have kk : ∀ c o, c ∉ [z, TI, TO, i1, i2] → s.heap.get? c = some o → h'.get? c = some o := fun c o hb e =>
      k c o (fun q => hb (by simp [q])) (fun q => hb (by simp [q])) (fun q => hb (by simp [q])) (fun q => hb (by simp [q])) e
    have nt : ∀ c w', H c = some w' → c ∉ [z, TI, TO, i1, i2] := fun c w' e hb => by
      rw [(hf c hb).1] at e; cases e
    show Inv X pins σ _ { s with heap := h', gens := s.gens, drawn := s.drawn, toks := s.toks }
    refine Inv.step (s := s) (h' := h') (t' := s.toks) (g' := s.gens) (d' := s.drawn) (ch := [z, TI, TO, i1, i2]) I (fun c hc => ?_) (fun c o _ _ hb e _ => kk c o hb e) (fun c o _ _ hb e _ => ⟨o.slots, kk c o hb e⟩) (fun _ _ _ _ n => n) (fun c o hb e => ⟨o, kk c o hb e⟩)
      (fun _ _ e => e) (fun _ _ _ e => e) (fun c ps e => ⟨#[], by rw [Array.append_empty]; exact e⟩) (fun m hm => ?_) (fun c w' e => ?_) I.bare
    · obtain ⟨f0, f1, f2, f3, f4, f5⟩ := hf c hc
      exact ⟨f3, f1, f4, f5⟩
    · obtain ⟨o, es, ep, ho, r⟩ := hm
      exact ⟨o, es, ep, kk _ o (fun hb => (hf _ hb).2.1 rfl) ho, r⟩
    · refine (I.hok c w' e).stay (fun d o hd y => kk d o ?_ y) (fun d y => y) fun d zs y => y
      rcases hd with rfl | hd
      · exact nt _ _ e
      · exact nt _ _ hd
  self := fun _ _ _ _ _ st h => wpAny_pyIter_zip st.1 h
theorem boot_zip : bootBuiltins "zip" = some (.type "zip") := by decide +kernel
section
variable {X : Cx}
noncomputable def iZip (K : PySem.W.Frag) (ta : TA) : TI := fun σ H R => ta σ H fun vs H1 => ∃ a b, vs = [.ref a, .ref b] ∧ (∃ xs, SqL K H1 a xs) ∧ (∃ ys, SqL K H1 b ys) ∧ R (Itz K a b) H1
theorem pi_zip {a b : Expr} {ta : TA} {p pos tpos : Pos} {elts : List Expr} {x1 : Nat} (hg : Gl X "zip") (hm : X.mg "zip" = none) (ha : PA X [a, b] ta) (hn : notStar a = true) (hn2 : notStar b = true) : PI X (.Tuple elts x1 tpos) (.Call (.Name "zip" p) [a, b] [] pos) (iZip X.K ta) := by
  intro pins s σ H R I h
  refine Call_ (ld_blt I hg hm boot_zip (PyProof.Rows.callWith_type1 (thn (ha pos pins s σ H _ I h) fun us s1 ⟨vs, H1, I1, r1, q1⟩ => ?_) (star_cons hn) (by rw [star_cons hn2]; rfl)))
  obtain ⟨l, m, e, ⟨xs, hq⟩, ⟨ys, hq2⟩, q⟩ := q1
  subst e
  obtain ⟨u, v, rfl, ru, rv⟩ := vals2 r1
  cases (show u = Value.ref l from ru)
  cases (show v = Value.ref m from rv)
  obtain ⟨ia, ra, pa, _⟩ := I1.list hq
  obtain ⟨ib, rb, pb, _⟩ := I1.list hq2
  have la : l < s1.heap.objs.size := by obtain ⟨o, e, _⟩ := pa.isList; exact Heap.lt_size e
  have lb : m < s1.heap.objs.size := by obtain ⟨o, e, _⟩ := pb.isList; exact Heap.lt_size e
  refine call_zip_2 pa.isList pb.isList fun h' hz hTI hTO st1 st2 sz k => ?_
  refine wpAny_pyIter_zip (s := { s1 with heap := h' }) hz ?_
  refine ⟨s1.heap.objs.size + 4, [s1.heap.objs.size + 4, s1.heap.objs.size + 2, s1.heap.objs.size + 3, s1.heap.objs.size, s1.heap.objs.size + 1], _, _, H1, rfl, I1.kept (t' := s1.toks) k, turn_zip _ _ _ _ _ l m ?_, ⟨hz, hTI, ⟨_, _, hTO⟩, st1, st2⟩, fun c hc => ?_, q⟩
  · have la' : Nat.lt l s1.heap.objs.size := la
    have lb' : Nat.lt m s1.heap.objs.size := lb
    generalize s1.heap.objs.size = N at *
    constructor <;> first | exact Nat.ne_of_lt (by simp only [Nat.lt_eq] at *; omega) | exact Nat.ne_of_gt (by simp only [Nat.lt_eq] at *; omega)
  · have hle : s1.heap.objs.size ≤ c := by
      simp only [List.mem_cons, List.not_mem_nil, or_false] at hc
      rcases hc with rfl | rfl | rfl | rfl | rfl
      · exact Nat.le_add_right _ _
      · exact Nat.le_add_right _ _
      · exact Nat.le_add_right _ _
      · exact Nat.le_refl _
      · exact Nat.le_add_right _ _
    exact I1.fpOk hle (I1.hok.fresh hle)
theorem k_zip {K : PySem.W.Frag} {a b : Expr} {ta : TA} {p pos tpos : Pos} {elts : List Expr} {x1 : Nat} (e : X.K = K) (hg : Gl X "zip") (hm : X.mg "zip" = none) (ha : PA X [a, b] ta) (hn : notStar a = true) (hn2 : notStar b = true) : PI X (.Tuple elts x1 tpos) (.Call (.Name "zip" p) [a, b] [] pos) (iZip K ta) := by subst e; exact pi_zip hg hm ha hn hn2
end
theorem ForW.zip {K : PySem.W.Frag} {a b : Addr} {xs ys : List V} {g : TG} {tb : TS} {D : Ends} {σ : St} {H : Hp} (Pv : Nat → St → Hp → Prop) (h0 : Pv 0 σ H) (hl : ∀ i σ H, Pv i σ H → SqL K H a xs ∧ SqL K H b ys)
    (hs : ∀ (i : Nat) x y σ H p, xs[i]? = some x → ys[i]? = some y → Pv i σ H → H p = none → g (.ref p) σ (upd H p (.tup [x, y])) fun σ2 H2 => tb { D with nx := Pv (i + 1), ct := Pv (i + 1), bk := D.nx } σ2 H2)
    (hd : ∀ σ H, Pv (min xs.length ys.length) σ H → D.nx σ H) : ForW (Itz K a b) g tb D σ H := by
  refine ⟨fun i m σ H => Pv i σ H ∧ i ≤ min xs.length ys.length ∧ m = min xs.length ys.length - i, ⟨_, h0, Nat.zero_le _, rfl⟩, fun i m σ H ⟨h1, h2, h3⟩ => ?_⟩
  obtain ⟨sa, sb⟩ := hl i σ H h1
  by_cases e : i = min xs.length ys.length
  · subst e
    exact .inl ⟨⟨xs, ys, sa, sb, by omega⟩, hd σ H h1⟩
  · have lt : i < min xs.length ys.length := Nat.lt_of_le_of_ne h2 e
    have lx : i < xs.length := by omega
    have ly : i < ys.length := by omega
    refine .inr ⟨⟨xs, ys, xs[i], ys[i], sa, sb, List.getElem?_eq_getElem lx, List.getElem?_eq_getElem ly⟩, Pv (i + 1), fun σ' H' z => ⟨min xs.length ys.length - (i + 1), by omega, z, lt, rfl⟩, fun v H' hy => ?_⟩
    obtain ⟨p, x', y', hp, rfl, hx, hy, rfl⟩ := hy
    exact hs i x' y' σ H p (hx xs sa) (hy ys sb) h1 hp
section
variable {X : Cx}
noncomputable def rGetL (K : PySem.W.Frag) : V → V → Hp → VK → Prop := fun x y H Q => ∃ p xs, ∃ i : Nat, ∃ v, x = .ref p ∧ y = .int i ∧ SqL K H p xs ∧ xs[i]? = some v ∧ Q v H
theorem get_list : PGet X (rGetL X.K) := by
  intro pins s σ H x y v u Q I rx ry h
  obtain ⟨p, xs, i, z, rfl, rfl, hq, he, q⟩ := h
  cases rx
  obtain ⟨t, rfl⟩ := ry
  obtain ⟨its, r, pl, hz⟩ := I.list hq
  obtain ⟨w, ew, rw'⟩ := r.get he
  have hl := r.length
  have hn := line63
  have hi := (List.getElem?_eq_some_iff.mp he).1
  have h63 : (i : Int) < 2 ^ 63 := by omega
  exact wpAny_getItem_list pl.isList (Int.natCast_nonneg _) h63 (by rw [Int.toNat_natCast]; simpa using ew) ⟨z, H, I, rw', q⟩
theorem k_getL {K : PySem.W.Frag} (e : X.K = K) : PGet X (rGetL K) := by subst e; exact get_list
theorem pgl2 (K : PySem.W.Frag) (i j : Nat) {x y : Str} {p1 p2 pos : Pos} {k : Nat} (hN : X.N.Nodup) (e : X.K = K := by rfl) (hc : X.calm = true := by rfl) (hi : X.N[i]? = some x := by rfl) (hj : X.N[j]? = some y := by rfl) (hv : X.env.scope.names.lookup x = some .local := by rfl) (hw : X.env.scope.names.lookup y = some .local := by rfl)
    (h1 : (assignEach [.Name x p1, .Name y p2] X.env).map (·.2) = assign (.Name x p1) X.env :: (assignEach [.Name y p2] X.env).map (·.2) := by rfl) (h2 : (assignEach [.Name y p2] X.env).map (·.2) = assign (.Name y p2) X.env :: (assignEach [] X.env).map (·.2) := by rfl)
    (hn : (assignEach [.Name x p1, .Name y p2] X.env).length = 2 := by rfl) (hst : (assignEach [.Name x p1, .Name y p2] X.env).findIdx? (·.1) = none := by rfl) : PG X (.Tuple [.Name x p1, .Name y p2] k pos) (gTup K 2 (gCons (gName i) (gCons (gName j) gNil))) :=
  k_pgT e hc (pgs_cons (pgl i hN hi hv) (pgs_cons (pgl j hN hj hw) pgs_nil h2) h1) hn hst
end
end L2
set_option maxHeartbeats 4000000
namespace L2
open PySem PySem.Spec PyProof.Rows
section
variable {prog : Program} {w : World} {A : Around} {E : Value → Shared → Prop} {s : Shared}
end
section
variable {prog : Program} {w : World} {A : Around} {R : Result → Shared → Prop} {I : Addr} {fp wr : List Addr} {G : Array GenState → Array GenState → Prop} {n : Nat} {P : Nat → Value → Prop} {St : Nat → Shared → Prop}
variable {α : Type} [DecidableEq α] {knd : PySem.KeyKind prog w α}
end
section
variable {prog : Program} {w : World} {A : Around} {E : Value → Shared → Prop} {s : Shared} {α : Type} [DecidableEq α] {knd : PySem.KeyKind prog w α}
end
section
variable {X : Cx}
end
end L2
set_option maxHeartbeats 4000000
namespace HT
open PySem PySem.Spec PyProof.Rows L2
end HT
namespace L2
open PySem PySem.Spec PyProof.Rows HT
section
variable {prog : Program} {w : World} {A : Around} {E : Value → Shared → Prop} {s : Shared}
end
section
variable {X : Cx}
end
end L2
set_option maxHeartbeats 4000000
namespace L2
open PySem PySem.Spec PyProof.Rows
section
variable {prog : Program} {w : World} {A : Around} {R : Result → Shared → Prop} {I : Addr} {fp wr : List Addr} {n : Nat} {P : Nat → Value → Prop} {St : Nat → Heap → Prop}
end
section
variable {prog : Program} {w : World} {A : Around} {E : Value → Shared → Prop} {s : Shared}
end
section
variable {prog : Program} {w : World} {A : Around} {R : Result → Shared → Prop} {I : Addr} {fp wr : List Addr} {n : Nat} {P : Nat → Value → Prop} {St : Nat → Heap → Prop}
end
section
variable {prog : Program} {w : World} {A : Around} {E : Value → Shared → Prop} {s : Shared}
end
end L2
set_option maxHeartbeats 4000000
namespace L2
open PySem PySem.Spec PyProof.Rows
section
variable {X : Cx}
theorem int_val {zs : List Int} {its : List Value} {i : Nat} {v : Value} (r : Vals (zs.map V.int) its) (hv : its.toArray[i]? = some v) : i < zs.length ∧ ∃ t, v = .int (zs.getD i 0) t := by
  have hv' : its[i]? = some v := by simpa using hv
  have hm : i < zs.length := by
    have := r.length
    rw [List.length_map] at this
    rw [this]
    exact (List.getElem?_eq_some_iff.mp hv').1
  obtain ⟨u, hu, t, e⟩ := r.get (i := i) (x := V.int zs[i]) (by rw [List.getElem?_map, List.getElem?_eq_getElem hm]; rfl)
  rw [hv'] at hu
  cases hu
  exact ⟨hm, t, by rw [List.getD_eq_getElem?_getD, List.getElem?_eq_getElem hm]; exact e⟩
theorem getD_at {α : Type} {l : List α} {i : Nat} {x d : α} (h : l[i]? = some x) : l.getD i d = x := by rw [List.getD_eq_getElem?_getD, h]; rfl
end
end L2
set_option maxHeartbeats 4000000
namespace L2
open PySem PySem.Spec PyProof.Rows
section
variable {X : Cx}
noncomputable def rSumI (K : PySem.W.Frag) : List V → Hp → VK → Prop := fun xs H Q => ∃ l, ∃ zs : List Int, xs = [.ref l] ∧ SqL K H l (zs.map V.int) ∧ Q (.int (zs.foldl (· + ·) 0)) H
theorem preSum_fold (zs : List Int) : ∀ k, k ≤ zs.length → preSum (fun i => zs.getD i 0) k = (zs.take k).foldl (· + ·) 0
  | 0, _ => rfl
  | k + 1, h => by
    have hk : k < zs.length := h
    show preSum (fun i => zs.getD i 0) k + zs.getD k 0 = _
    rw [preSum_fold zs k (by omega), List.take_add_one, List.getElem?_eq_getElem hk, List.foldl_append, getD_at (List.getElem?_eq_getElem hk)]
    rfl
theorem call_sum (hc : X.calm = true) : CallR X (.builtin "sum") (rSumI X.K) := by
  intro pins s σ H xs us Q I r h
  obtain ⟨l, zs, rfl, hq, q⟩ := h
  obtain ⟨lv, rfl, rl⟩ := vals1 r
  cases (show lv = Value.ref l from rl)
  obtain ⟨its, r', pl, hz⟩ := I.list hq
  have hl := r'.length
  rw [List.length_map] at hl
  obtain ⟨ol, hol, hcl⟩ := id pl.isList
  have ll : l < s.heap.objs.size := Heap.lt_size hol
  refine call_sum_walkAnyS (wpAny_pyIter_list pl.isList ⟨s.heap.objs.size, _, _, _, _, _, _, fun i => zs.getD i 0, rfl, (Walks.list (by simp [I.ok.hd hc]) s.heap.objs.size l (Nat.ne_of_lt ll) its.toArray).toS, ⟨⟨_, Heap.get?_push_size _ rfl, rfl, rfl⟩, pl.isList.push _⟩, ?_, fun i v hv => (int_val r' hv).2, fun s' t' mv => ?_⟩)
  · intro b hb
    rw [Heap.size_push]
    simp only [List.mem_cons, List.not_mem_nil, or_false] at hb
    rcases hb with rfl | rfl
    · exact Nat.lt_succ_self _
    · exact Nat.lt_succ_of_lt ll
  · obtain ⟨h', g', d', tk', os'⟩ := s'
    obtain rfl : g' = s.gens := mv.gens
    obtain rfl : d' = s.drawn := mv.drawn
    obtain rfl : os' = s.os := mv.os
    have e : preSum (fun i => zs.getD i 0) its.toArray.size = zs.foldl (· + ·) 0 := by
      rw [List.size_toArray, ← hl, preSum_fold zs zs.length (Nat.le_refl _), List.take_length]
    rw [e]
    refine ⟨.int _, H, I.kept (t' := tk') fun b o hb => ?_, ⟨_, rfl⟩, q⟩
    refine mv.heap b o ?_ (Heap.get?_push_of_some _ hb)
    simp only [List.mem_cons, List.not_mem_nil, or_false]
    exact Nat.ne_of_lt (Heap.lt_size hb)
theorem k_sumI {K : PySem.W.Frag} (e : X.K = K) (hc : X.calm = true) : CallR X (.builtin "sum") (rSumI K) := by subst e; exact call_sum hc
end
end L2
set_option maxHeartbeats 4000000
namespace L2
open PySem PySem.Spec PyProof.Rows
section
variable {X : Cx}
noncomputable def rInD (K : PySem.W.Frag) (neg : Bool) : R2 := fun x y H Q => ∃ d es, Rep K H d x ∧ Rep K H (.list es) y ∧ SeqAt.shaped d = true ∧ SeqAt.shaped (.list es) = true ∧ Q (.bl (if neg then !es.any (fun e => PyData.eqv e d) else es.any (fun e => PyData.eqv e d))) H
theorem shaped_lay {d : PyData} (h : SeqAt.shaped d = true) : d.canLay0 = true ∧ d.depth ≤ 64 := by
  unfold SeqAt.shaped at h
  rw [Bool.and_eq_true] at h
  exact ⟨h.1, by have := of_decide_eq_true h.2; omega⟩
theorem op_inD (hu : X.A.units + 64 < cLine) : OpR X (compareOp .In) (rInD X.K false) := by
  intro pins s σ H x y v u Q I rx ry h
  obtain ⟨d, es, h1, h2, h3, h4, q⟩ := h
  obtain ⟨as, q1⟩ := Rep.reads I d x v h1 rx
  obtain ⟨bs, q2⟩ := Rep.reads I _ y u h2 ry
  have l1 := shaped_lay h3
  have l2 := shaped_lay h4
  have l3 : PyData.canLayAll0 es = true := by simpa [PyData.canLay0] using l2.1
  refine SeqAt.in_list_reads q2 q1 l3 l1.1 ?_ (fin_bl I q rfl)
  have := Nat.min_le_left (PyData.depthAll es) d.depth
  have l5 : PyData.depthAll es + 1 ≤ 64 := by simpa [PyData.depth] using l2.2
  omega
theorem op_notInD (hu : X.A.units + 64 < cLine) : OpR X (compareOp .NotIn) (rInD X.K true) := by
  intro pins s σ H x y v u Q I rx ry h
  obtain ⟨d, es, h1, h2, h3, h4, q⟩ := h
  obtain ⟨as, q1⟩ := Rep.reads I d x v h1 rx
  obtain ⟨bs, q2⟩ := Rep.reads I _ y u h2 ry
  have l1 := shaped_lay h3
  have l2 := shaped_lay h4
  have l3 : PyData.canLayAll0 es = true := by simpa [PyData.canLay0] using l2.1
  refine SeqAt.notIn_list_reads q2 q1 l3 l1.1 ?_ (fin_bl I q rfl)
  have := Nat.min_le_left (PyData.depthAll es) d.depth
  have l5 : PyData.depthAll es + 1 ≤ 64 := by simpa [PyData.depth] using l2.2
  omega
theorem k_inD {K : PySem.W.Frag} (e : X.K = K) (hu : X.A.units + 64 < cLine) : OpR X (compareOp .In) (rInD K false) := by subst e; exact op_inD hu
theorem k_notInD {K : PySem.W.Frag} (e : X.K = K) (hu : X.A.units + 64 < cLine) : OpR X (compareOp .NotIn) (rInD K true) := by subst e; exact op_notInD hu
end
theorem comp_walkG {J : It} {xs : List V} {ok : Hp → Prop} (w : Walk J xs ok) {g : TG} {tt : TT} {te : TE} {fin : List V → Hp → Prop} {σ : St} {H : Hp} (hz : xs.length ≤ sizeLine) (Pv : Nat → List V → St → Hp → Prop) (h0 : Pv 0 [] σ H) (hl : ∀ i zs σ H, Pv i zs σ H → ok H ∧ zs.length ≤ i)
    (hs : ∀ (i : Nat) x zs σ H, xs[i]? = some x → Pv i zs σ H → g x σ H fun σ2 H2 => tt σ2 H2 fun b H3 => if b = true then te σ2 H3 fun y H4 => Pv (i + 1) (zs ++ [y]) σ2 H4 else Pv (i + 1) zs σ2 H3)
    (hd : ∀ zs σ H, Pv xs.length zs σ H → fin zs H) : CompW J g tt te fin σ H := by
  refine ⟨fun i m zs σ H => m = xs.length - i ∧ i ≤ xs.length ∧ Pv i zs σ H, ⟨_, rfl, Nat.zero_le _, h0⟩, ?_⟩
  rintro i m zs σ H ⟨rfl, hi, p⟩
  obtain ⟨q, hy⟩ := hl i zs σ H p
  by_cases hlt : i < xs.length
  · refine .inr ⟨w.go i H q hlt, by omega, Pv (i + 1), fun zs' σ' H' z => ⟨xs.length - (i + 1), by omega, rfl, hlt, z⟩, fun x H' y => ?_⟩
    obtain ⟨e, y'⟩ := w.yld i H x H' q hlt y
    subst e
    exact hs i x zs σ _ y' p
  · have e : i = xs.length := by omega
    subst e
    exact .inl ⟨w.stop H q, hd zs σ H p⟩
end L2
set_option maxHeartbeats 4000000
namespace L2
open PySem PySem.Spec PyProof.Rows
section
noncomputable def All2 {α β : Type} (R : α → β → Prop) (xs : List α) (ys : List β) : Prop := xs.length = ys.length ∧ ∀ (i : Nat) x y, xs[i]? = some x → ys[i]? = some y → R x y
variable {α β : Type} {R S : α → β → Prop} {xs : List α} {ys : List β}
theorem All2.nil : All2 R [] [] := ⟨rfl, fun i x y h => by simp at h⟩
theorem All2.mono (h : All2 R xs ys) (f : ∀ x y, R x y → S x y) : All2 S xs ys := ⟨h.1, fun i x y a b => f x y (h.2 i x y a b)⟩
theorem All2.at {i : Nat} {x : α} (h : All2 R xs ys) (hx : xs[i]? = some x) : ∃ y, ys[i]? = some y ∧ R x y := by
  have hi : i < ys.length := by rw [← h.1]; exact (List.getElem?_eq_some_iff.mp hx).1
  exact ⟨_, List.getElem?_eq_getElem hi, h.2 i x _ hx (List.getElem?_eq_getElem hi)⟩
theorem All2.at' {i : Nat} {y : β} (h : All2 R xs ys) (hy : ys[i]? = some y) : ∃ x, xs[i]? = some x ∧ R x y := by
  have hi : i < xs.length := by rw [h.1]; exact (List.getElem?_eq_some_iff.mp hy).1
  exact ⟨_, List.getElem?_eq_getElem hi, h.2 i _ y (List.getElem?_eq_getElem hi) hy⟩
theorem All2.meml {x : α} (h : All2 R xs ys) (hx : x ∈ xs) : ∃ y ∈ ys, R x y := by
  obtain ⟨i, hi⟩ := List.mem_iff_getElem?.mp hx
  obtain ⟨y, hy, r⟩ := h.at hi
  exact ⟨y, List.mem_of_getElem? hy, r⟩
theorem All2.append {xs' : List α} {ys' : List β} (h : All2 R xs ys) (h' : All2 R xs' ys') : All2 R (xs ++ xs') (ys ++ ys') := by
  refine ⟨by simp [h.1, h'.1], fun i x y a b => ?_⟩
  by_cases c : i < xs.length
  · rw [List.getElem?_append_left c] at a
    rw [List.getElem?_append_left (by rw [← h.1]; exact c)] at b
    exact h.2 i x y a b
  · rw [List.getElem?_append_right (by omega)] at a
    rw [List.getElem?_append_right (by rw [← h.1]; omega), ← h.1] at b
    exact h'.2 _ x y a b
theorem All2.one {x : α} {y : β} (h : R x y) : All2 R [x] [y] := ⟨rfl, fun i a b ha hb => by
  cases i with
  | zero => simp at ha hb; subst ha hb; exact h
  | succ i => simp at ha⟩
theorem All2.snoc {x : α} {y : β} (h : All2 R xs ys) (r : R x y) : All2 R (xs ++ [x]) (ys ++ [y]) := h.append (.one r)
theorem All2.tail {x : α} {y : β} (h : All2 R (x :: xs) (y :: ys)) : R x y ∧ All2 R xs ys :=
  ⟨h.2 0 x y rfl rfl, by simpa using h.1, fun i a b ha hb => h.2 (i + 1) a b (by simpa using ha) (by simpa using hb)⟩
end
theorem nodup_le : ∀ (m : Nat) (l : List Nat), l.Nodup → (∀ x ∈ l, x < m) → l.length ≤ m
  | 0, [], _, _ => Nat.le_refl _
  | 0, x :: l, _, h => absurd (h x List.mem_cons_self) (Nat.not_lt_zero _)
  | m + 1, l, hn, h => by
    by_cases c : m ∈ l
    · have h1 := nodup_le m (l.erase m) (hn.erase m) fun x hx => by
        have := h x (List.mem_of_mem_erase hx)
        have : x ≠ m := fun e => by
          subst e
          exact absurd hx (List.Nodup.not_mem_erase hn)
        omega
      have := List.length_erase_of_mem c
      have : 0 < l.length := List.length_pos_of_mem c
      omega
    · exact Nat.le_succ_of_le (nodup_le m l hn fun x hx => by
        have := h x hx
        have : x ≠ m := fun e => c (e ▸ hx)
        omega)
structure GOk (g : List (List Int)) (R C : Nat) : Prop where
  rows : g.length = R
  cols : ∀ r ∈ g, r.length = C
  pos : ∀ r ∈ g, ∀ x ∈ r, 0 ≤ x
structure Arc where
  a : Int
  b : Int
  l : Int
  u : Int
instance : Inhabited Arc := ⟨⟨0, 0, 0, 0⟩⟩
noncomputable def Arc.vs (A : Arc) : List V := [.int A.a, .int A.b, .int A.l, .int A.u]
noncomputable def ArcAt (H : Hp) (x : V) (A : Arc) : Prop := ∃ p, x = .ref p ∧ H p = some (.tup A.vs)
noncomputable def ArcsV (H : Hp) (xs : List V) (as : List Arc) : Prop := All2 (ArcAt H) xs as
theorem ArcAt.mono {H H' : Hp} {x : V} {A : Arc} (s : Same H H') (h : ArcAt H x A) : ArcAt H' x A := by
  obtain ⟨p, e, g⟩ := h; exact ⟨p, e, s _ _ g⟩
theorem ArcsV.mono {H H' : Hp} {xs : List V} {as : List Arc} (s : Same H H') (h : ArcsV H xs as) : ArcsV H' xs as := All2.mono h fun _ _ => ArcAt.mono s
noncomputable def InN (m : Nat) (A : Arc) : Prop := 0 ≤ A.a ∧ A.a < m ∧ 0 ≤ A.b ∧ A.b < m
noncomputable def StepOk (as : List Arc) (n pl t : Nat) (sg : Int) : Prop := ∃ A, as[pl]? = some A ∧ ((sg = 1 ∧ A.a = n ∧ A.b = t) ∨ (sg = -1 ∧ A.b = n ∧ A.a = t))
noncomputable def StepV (H : Hp) (as : List Arc) (n : Nat) (x : V) : Prop := ∃ (q : Addr) (pl t : Nat) (sg : Int), x = .ref q ∧ H q = some (.tup [.int pl, .int t, .int sg]) ∧ StepOk as n pl t sg
structure StepsAt (H : Hp) (as : List Arc) (D : Nat → Int → Prop) (bnd n : Nat) (p : Addr) : Prop where
  ex : ∃ ts, H p = some (.lst ts) ∧ ts.length ≤ bnd ∧ (∀ t ∈ ts, StepV H as n t) ∧
    ∀ (pl t : Nat) (sg : Int), D pl sg → StepOk as n pl t sg → ∃ q, V.ref q ∈ ts ∧ H q = some (.tup [.int pl, .int t, .int sg])
noncomputable def roomF (as : List Arc) (fl : List Int) (pl : Nat) (sg : Int) : Int := if sg = 1 then (as.getD pl default).u - fl.getD pl 0 else fl.getD pl 0 - (as.getD pl default).l
structure StreamAt (H : Hp) (C x : Addr) (m : Nat) (as : List Arc) (fl : List Int) : Prop where
  ex : ∃ (dx la lb ls : Addr) (xs : List V) (sa : List Addr), H x = some (.ins C dx [("arcs", .ref la), ("borne", .ref lb), ("steps", .ref ls)]) ∧ H la = some (.lst xs) ∧ ArcsV H xs as ∧ H lb = some (.lst (fl.map V.int)) ∧
    H ls = some (.lst (sa.map V.ref)) ∧ sa.length = m ∧ ∀ (n : Nat) p, sa[n]? = some p → StepsAt H as (fun _ _ => True) (2 * as.length) n p
  len : fl.length = as.length
  small : as.length ≤ 1000 ∧ m ≤ 1000
  inn : ∀ A ∈ as, InN m A
theorem StepV.mono {H H' : Hp} {as : List Arc} {n : Nat} {x : V} (s : Same H H') (h : StepV H as n x) : StepV H' as n x := by
  obtain ⟨q, pl, t, sg, e, g, r⟩ := h; exact ⟨q, pl, t, sg, e, s _ _ g, r⟩
theorem StepsAt.mono {H H' : Hp} {as : List Arc} {D : Nat → Int → Prop} {bnd n : Nat} {p : Addr} (s : Same H H') (h : StepsAt H as D bnd n p) : StepsAt H' as D bnd n p := by
  obtain ⟨ts, e, l, a, b⟩ := h.ex
  refine ⟨ts, s _ _ e, l, fun t ht => (a t ht).mono s, fun pl t sg h1 h2 => ?_⟩
  obtain ⟨q, h3, h4⟩ := b pl t sg h1 h2
  exact ⟨q, h3, s _ _ h4⟩
theorem StreamAt.mono {H H' : Hp} {C x : Addr} {m : Nat} {as : List Arc} {fl : List Int} (s : Same H H') (h : StreamAt H C x m as fl) : StreamAt H' C x m as fl := by
  obtain ⟨dx, la, lb, ls, xs, sa, h1, h2, h3, h4, h5, h6, h7⟩ := h.ex
  exact ⟨⟨dx, la, lb, ls, xs, sa, s _ _ h1, s _ _ h2, h3.mono s, s _ _ h4, s _ _ h5, h6, fun n p hp => (h7 n p hp).mono s⟩, h.len, h.small, h.inn⟩
noncomputable def StepTo (as : List Arc) (fl : List Int) (n pl t : Nat) (sg : Int) : Prop := StepOk as n pl t sg ∧ 0 < roomF as fl pl sg
noncomputable abbrev Ent := Nat × Option (Nat × Nat × Int)
noncomputable def keysE (es : List Ent) : List Nat := es.map (·.1)
noncomputable def EntV (H : Hp) (kv : Key × V) (e : Ent) : Prop := kv.1 = Sum.inl (e.1 : Int) ∧ match e.2 with
  | none => kv.2 = .non
  | some (n, pl, sg) => ∃ q, kv.2 = .ref q ∧ H q = some (.tup [.int n, .int pl, .int sg])
theorem EntV.mono {H H' : Hp} {kv : Key × V} {e : Ent} (s : Same H H') (h : EntV H kv e) : EntV H' kv e := by
  obtain ⟨k, o⟩ := e
  cases o with
  | none => exact h
  | some z => obtain ⟨a, q, b, c⟩ := h; exact ⟨a, q, b, s _ _ c⟩
noncomputable def EntsV (H : Hp) (kvs : List (Key × V)) (es : List Ent) : Prop := All2 (EntV H) kvs es
theorem EntsV.mono {H H' : Hp} {kvs : List (Key × V)} {es : List Ent} (s : Same H H') (h : EntsV H kvs es) : EntsV H' kvs es := All2.mono h fun _ _ => EntV.mono s
noncomputable def TSame (H H' : Hp) : Prop := ∀ q zs, H q = some (.tup zs) → H' q = some (.tup zs)
theorem TSame.set {H H' : Hp} (s : TSame H H') {p : Addr} {o o' : HO} (h : H' p = some o) (hn : ∀ zs, o ≠ .tup zs) : TSame H (upd H' p o') := fun q zs z => by
  have h1 := s q zs z
  rw [upd_ne (fun e => by subst e; rw [h] at h1; exact hn zs (Option.some.inj h1))]
  exact h1
theorem TSame.new {H H' : Hp} (s : TSame H H') {p : Addr} {o' : HO} (h : H' p = none) : TSame H (upd H' p o') := fun q zs z => by
  have h1 := s q zs z
  rw [upd_ne (fun e => by subst e; rw [h] at h1; cases h1)]
  exact h1
theorem TSame.refl (H : Hp) : TSame H H := fun _ _ z => z
theorem EntV.monoT {H H' : Hp} {kv : Key × V} {e : Ent} (s : TSame H H') (h : EntV H kv e) : EntV H' kv e := by
  obtain ⟨k, o⟩ := e
  cases o with
  | none => exact h
  | some z => obtain ⟨a, q, b, c⟩ := h; exact ⟨a, q, b, s _ _ c⟩
theorem EntsV.monoT {H H' : Hp} {kvs : List (Key × V)} {es : List Ent} (s : TSame H H') (h : EntsV H kvs es) : EntsV H' kvs es := All2.mono h fun _ _ => EntV.monoT s
theorem StepV.monoT {H H' : Hp} {as : List Arc} {n : Nat} {x : V} (s : TSame H H') (h : StepV H as n x) : StepV H' as n x := by
  obtain ⟨q, pl, t, sg, e, g, r⟩ := h; exact ⟨q, pl, t, sg, e, s _ _ g, r⟩
theorem StepOk.same {as : List Arc} {n n' pl t t' : Nat} {sg : Int} (h : StepOk as n pl t sg) (h' : StepOk as n' pl t' sg) : n = n' ∧ t = t' := by
  obtain ⟨A, hA, c⟩ := h
  obtain ⟨A', hA', c'⟩ := h'
  rw [hA] at hA'
  cases hA'
  rcases c with ⟨rfl, a, b⟩ | ⟨rfl, a, b⟩ <;> rcases c' with ⟨e, a', b'⟩ | ⟨e, a', b'⟩ <;> first | exact ⟨by omega, by omega⟩ | exact absurd e (by decide)
theorem steps_app {H : Hp} {sa : List Addr} (nd : sa.Nodup) {as : List Arc} {D : Nat → Int → Prop} {bnd : Nat} (h : ∀ (n : Nat) a, sa[n]? = some a → StepsAt H as D bnd n a) {N pl t : Nat} {sg : Int} {aN r : Addr} {ts : List V} (hN : sa[N]? = some aN) (so : StepOk as N pl t sg) (hr : H r = none) (hts : H aN = some (.lst ts)) :
    ∀ (n : Nat) a, sa[n]? = some a → StepsAt (upd (upd H r (.tup [.int pl, .int t, .int sg])) aN (.lst (ts ++ [.ref r]))) as (fun pl' sg' => D pl' sg' ∨ (pl' = pl ∧ sg' = sg)) (bnd + 1) n a := by
  intro n a ha
  have nr : aN ≠ r := ne_of_none hts hr
  have tss : TSame H (upd (upd H r (.tup [.int pl, .int t, .int sg])) aN (.lst (ts ++ [.ref r]))) := ((TSame.refl H).new hr).set (by rw [upd_ne nr]; exact hts) (fun _ z => by cases z)
  obtain ⟨ts', e, l, p1, p2⟩ := (h n a ha).ex
  have nar : a ≠ r := ne_of_none e hr
  by_cases c : n = N
  · subst c
    rw [hN] at ha
    cases ha
    rw [hts] at e
    cases e
    refine ⟨ts ++ [.ref r], upd_same, by simp; exact l, fun y hy => ?_, fun pl' t' sg' hd so' => ?_⟩
    · rcases List.mem_append.mp hy with z | z
      · exact (p1 y z).monoT tss
      · exact ⟨r, pl, t, sg, List.mem_singleton.mp z, by rw [upd_ne (Ne.symm nr), upd_same], so⟩
    · rcases hd with hd | ⟨rfl, rfl⟩
      · obtain ⟨q, h3, h4⟩ := p2 pl' t' sg' hd so'
        exact ⟨q, List.mem_append_left _ h3, tss _ _ h4⟩
      · obtain ⟨_, rfl⟩ := so.same so'
        exact ⟨r, List.mem_append_right _ (List.mem_singleton.mpr rfl), by rw [upd_ne (Ne.symm nr), upd_same]⟩
  · have naN : a ≠ aN := fun z => by
      subst z
      exact c ((List.getElem?_inj (List.getElem?_eq_some_iff.mp ha).1 nd).mp (ha.trans hN.symm))
    refine ⟨ts', by rw [upd_ne naN, upd_ne nar]; exact e, by omega, fun y hy => (p1 y hy).monoT tss, fun pl' t' sg' hd so' => ?_⟩
    rcases hd with hd | ⟨rfl, rfl⟩
    · obtain ⟨q, h3, h4⟩ := p2 pl' t' sg' hd so'
      exact ⟨q, h3, tss _ _ h4⟩
    · exact absurd (so'.same so).1 c
noncomputable def SameBut (x : Addr) (H H' : Hp) : Prop := ∀ b o, b ≠ x → H b = some o → H' b = some o
theorem SameBut.new {x : Addr} {H H' : Hp} (s : SameBut x H H') {p : Addr} {o : HO} (h : H' p = none) : SameBut x H (upd H' p o) := fun b q n z => by
  have := s b q n z
  rw [upd_ne (fun e => by subst e; rw [h] at this; cases this)]; exact this
theorem SameBut.at {x : Addr} {H H' : Hp} (s : SameBut x H H') {o : HO} : SameBut x H (upd H' x o) := fun b q n z => by
  rw [upd_ne n]; exact s b q n z
theorem SameBut.set {x : Addr} {H H' : Hp} (s : SameBut x H H') {p : Addr} {o : HO} (h : H p = none) : SameBut x H (upd H' p o) := fun b q n z => by
  rw [upd_ne (fun e => by subst e; rw [h] at z; cases z)]; exact s b q n z
structure CInv (as : List Arc) (fl : List Int) (m start : Nat) (es : List Ent) : Prop where
  hd : ∃ r, es = (start, none) :: r
  some_ : ∀ (i : Nat) e, es[i + 1]? = some e → e.2 ≠ none
  tree : ∀ (i : Nat) k n pl sg, es[i]? = some (k, some (n, pl, sg)) → n ∈ keysE (es.take i) ∧ StepTo as fl n pl k sg
  nd : (keysE es).Nodup
  lt : ∀ k ∈ keysE es, k < m
noncomputable def Closed (as : List Arc) (fl : List Int) (es : List Ent) (n : Nat) : Prop := ∀ pl t sg, StepTo as fl n pl t sg → t ∈ keysE es
theorem keysE_append (a b : List Ent) : keysE (a ++ b) = keysE a ++ keysE b := List.map_append
theorem Closed.more {as : List Arc} {fl : List Int} {es es' : List Ent} {n : Nat} (h : Closed as fl es n) (s : ∀ k ∈ keysE es, k ∈ keysE es') : Closed as fl es' n := fun pl t sg z => s _ (h pl t sg z)
theorem CInv.start {as : List Arc} {fl : List Int} {m s : Nat} (h : s < m) : CInv as fl m s [(s, none)] where
  hd := ⟨_, rfl⟩
  some_ := fun i e h => by simp at h
  tree := fun i k n pl sg h => by
    cases i with
    | zero => simp at h
    | succ i => simp at h
  nd := by simp [keysE]
  lt := fun k hk => by simp [keysE] at hk; omega
theorem CInv.snoc {as : List Arc} {fl : List Int} {m s : Nat} {es : List Ent} (h : CInv as fl m s es) {n pl t : Nat} {sg : Int} (hn : n ∈ keysE es) (st : StepTo as fl n pl t sg) (ht : t ∉ keysE es) (hm : t < m) : CInv as fl m s (es ++ [(t, some (n, pl, sg))]) where
  hd := by obtain ⟨r, e⟩ := h.hd; exact ⟨r ++ [(t, some (n, pl, sg))], by rw [e]; rfl⟩
  some_ := fun i e he => by
    by_cases c : i + 1 < es.length
    · rw [List.getElem?_append_left c] at he; exact h.some_ i e he
    · rw [List.getElem?_append_right (by omega)] at he
      cases j : i + 1 - es.length with
      | zero => rw [j] at he; simp at he; subst he; simp
      | succ j' => rw [j] at he; simp at he
  tree := fun i k n' pl' sg' he => by
    by_cases c : i < es.length
    · rw [List.getElem?_append_left c] at he
      obtain ⟨h1, h2⟩ := h.tree i k n' pl' sg' he
      refine ⟨?_, h2⟩
      rw [List.take_append_of_le_length (by omega)]
      exact h1
    · rw [List.getElem?_append_right (by omega)] at he
      cases j : i - es.length with
      | zero =>
        rw [j] at he
        simp at he
        obtain ⟨rfl, rfl, rfl, rfl⟩ := he
        have e : i = es.length := by omega
        rw [e, List.take_append_of_le_length (Nat.le_refl _), List.take_length]
        exact ⟨hn, st⟩
      | succ j' => rw [j] at he; simp at he
  nd := by
    rw [keysE_append]
    refine List.nodup_append.mpr ⟨h.nd, by simp [keysE], fun a ha b hb => ?_⟩
    simp [keysE] at hb
    subst hb
    exact fun e => ht (e ▸ ha)
  lt := fun k hk => by
    rw [keysE_append] at hk
    rcases List.mem_append.mp hk with z | z
    · exact h.lt k z
    · simp [keysE] at z; omega
theorem CInv.len {as : List Arc} {fl : List Int} {m s : Nat} {es : List Ent} (h : CInv as fl m s es) : es.length ≤ m := by
  have := nodup_le m (keysE es) h.nd h.lt
  unfold keysE at this
  rwa [List.length_map] at this
structure Came (as : List Arc) (fl : List Int) (m start : Nat) (es : List Ent) : Prop extends CInv as fl m start es where
  closed : ∀ n ∈ keysE es, Closed as fl es n
theorem valE_some {H : Hp} : ∀ {kvs : List (Key × V)} {es : List Ent}, EntsV H kvs es → ∀ k : Nat, (valV kvs (Sum.inl (k : Int))).isSome = decide (k ∈ keysE es)
  | [], [], _, k => by simp [valV, keysE]
  | [], _ :: _, h, _ => by have := h.1; simp at this
  | _ :: _, [], h, _ => by have := h.1; simp at this
  | kv :: kvs, e :: es, h, k => by
    obtain ⟨h1, h2⟩ := All2.tail h
    by_cases c : k = e.1
    · rw [valV_pos (by rw [h1.1, c])]
      simp [keysE, c]
    · rw [valV_neg (by rw [h1.1]; intro z; exact c (by have := Sum.inl.inj z; omega)), valE_some h2 k]
      unfold keysE
      rw [List.map_cons]
      simp only [List.mem_cons, c, false_or]
theorem putE_new {H : Hp} {kvs : List (Key × V)} {es : List Ent} (h : EntsV H kvs es) {k : Nat} (hk : k ∉ keysE es) (v : V) : putK kvs (Sum.inl (k : Int)) v = kvs ++ [(Sum.inl (k : Int), v)] := by
  unfold putK
  rw [if_neg]
  intro z
  obtain ⟨kv, hm, he⟩ := List.any_eq_true.mp z
  obtain ⟨e, hem, r⟩ := All2.meml h hm
  have h1 := of_decide_eq_true he
  rw [r.1] at h1
  have h2 : (e.1 : Int) = k := Sum.inl.inj h1
  exact hk (by
    have : e.1 = k := by omega
    rw [← this]
    exact List.mem_map_of_mem hem)
inductive Reach (L : Nat → Nat → Prop) (s : Nat) : Nat → Prop
  | here : Reach L s s
  | step {u v : Nat} : Reach L s u → L u v → Reach L s v
theorem Reach.stays {L : Nat → Nat → Prop} {s v : Nat} {P : Nat → Prop} (h : Reach L s v) (hs : P s) (hc : ∀ a b, P a → L a b → P b) : P v := by
  induction h with
  | here => exact hs
  | step _ l ih => exact hc _ _ ih l
noncomputable def LinkS (as : List Arc) (fl : List Int) (u v : Nat) : Prop := ∃ pl sg, StepTo as fl u pl v sg
theorem CInv.reach {as : List Arc} {fl : List Int} {m s : Nat} {es : List Ent} (h : CInv as fl m s es) : ∀ (i : Nat) e, es[i]? = some e → Reach (LinkS as fl) s e.1 := by
  intro i
  induction i using Nat.strongRecOn with
  | ind i ih =>
    intro e he
    obtain ⟨k, o⟩ := e
    cases o with
    | none =>
      cases i with
      | zero =>
        obtain ⟨r, e⟩ := h.hd
        rw [e] at he
        simp at he
        rw [← he]
        exact .here
      | succ i => exact absurd rfl (h.some_ i _ he)
    | some z =>
      obtain ⟨n, pl, sg⟩ := z
      obtain ⟨h1, h2⟩ := h.tree i k n pl sg he
      unfold keysE at h1
      obtain ⟨e', hm, rfl⟩ := List.mem_map.mp h1
      obtain ⟨j, hj⟩ := List.mem_iff_getElem?.mp hm
      have hji : j < i := by
        have := (List.getElem?_eq_some_iff.mp hj).1
        rw [List.length_take] at this; omega
      rw [List.getElem?_take_of_lt hji] at hj
      exact (ih j hji e' hj).step ⟨pl, sg, h2⟩
theorem Came.iff {as : List Arc} {fl : List Int} {m s : Nat} {es : List Ent} (h : Came as fl m s es) (v : Nat) : v ∈ keysE es ↔ Reach (LinkS as fl) s v := by
  constructor
  · intro hv
    obtain ⟨e, he, rfl⟩ := List.mem_map.mp hv
    obtain ⟨i, hi⟩ := List.mem_iff_getElem?.mp he
    exact h.toCInv.reach i e hi
  · intro hr
    refine hr.stays (P := fun v => v ∈ keysE es) ?_ fun a b ha ⟨pl, sg, st⟩ => h.closed a ha pl b sg st
    obtain ⟨r, e⟩ := h.hd
    rw [e]
    exact List.mem_cons_self
end L2
set_option maxHeartbeats 4000000
namespace L2
open PySem PySem.Spec PyProof.Rows
section
variable {X : Cx}
noncomputable def rMinL (K : PySem.W.Frag) : List V → Hp → VK → Prop := fun xs H Q => ∃ l, ∃ zs : List Int, xs = [.ref l] ∧ SqL K H l (zs.map V.int) ∧ zs ≠ [] ∧ ∀ m ∈ zs, (∀ z ∈ zs, m ≤ z) → Q (.int m) H
theorem call_minL (hc : X.calm = true) : CallR X (.builtin "min") (rMinL X.K) := by
  intro pins s σ H xs us Q I r h
  obtain ⟨l, zs, rfl, hq, hne, q⟩ := h
  obtain ⟨lv, rfl, rl⟩ := vals1 r
  cases (show lv = Value.ref l from rl)
  obtain ⟨its, r', pl, hz⟩ := I.list hq
  have hl := r'.length
  rw [List.length_map] at hl
  have hpos : 0 < zs.length := List.length_pos_iff.mpr hne
  obtain ⟨ol, hol, hcl⟩ := id pl.isList
  have ll : l < s.heap.objs.size := Heap.lt_size hol
  refine call_min_walk (wpAny_pyIter_list pl.isList ⟨s.heap.objs.size, _, _, _, _, _, _, rfl, Walks.list (by simp [I.ok.hd hc]) s.heap.objs.size l (Nat.ne_of_lt ll) its.toArray, ⟨⟨_, Heap.get?_push_size _ rfl, rfl, rfl⟩, pl.isList.push _⟩, ?_, by rw [List.size_toArray]; omega, CmpOf.ints_lt (fun i => zs.getD i 0) (fun i v hv => (int_val r' hv).2), fun v h' tk hv hk => ?_⟩)
  · intro b hb
    rw [Heap.size_push]
    simp only [List.mem_cons, List.not_mem_nil, or_false] at hb
    rcases hb with rfl | rfl
    · exact Nat.lt_succ_self _
    · exact Nat.lt_succ_of_lt ll
  · obtain ⟨h1, h2⟩ := argBest_lt (fun i => zs.getD i 0) (its.toArray.size - 1)
    obtain ⟨t, rfl⟩ := (int_val r' hv).2
    rw [List.size_toArray, ← hl] at h1 h2 ⊢
    generalize argBest (fun i j => decide (zs.getD i 0 < zs.getD j 0)) (zs.length - 1) = k at *
    have hk2 : k < zs.length := by omega
    have ek : zs.getD k 0 = zs[k] := getD_at (List.getElem?_eq_getElem hk2)
    refine ⟨.int (zs.getD k 0), H, I.kept (t' := tk) fun b o hb => ?_, ⟨_, rfl⟩, q _ (by rw [ek]; exact List.getElem_mem hk2) fun z hz => ?_⟩
    · refine hk b o ?_ (Heap.get?_push_of_some _ hb)
      simp only [List.mem_cons, List.not_mem_nil, or_false]
      exact Nat.ne_of_lt (Heap.lt_size hb)
    · obtain ⟨j, hj⟩ := List.mem_iff_getElem?.mp hz
      have hjl := (List.getElem?_eq_some_iff.mp hj).1
      have := h2 j (by omega)
      rw [getD_at hj] at this
      exact this
theorem k_minL {K : PySem.W.Frag} (e : X.K = K) (hc : X.calm = true) : CallR X (.builtin "min") (rMinL K) := by subst e; exact call_minL hc
end
noncomputable def Bnd (as : List Arc) (fl : List Int) : Prop := All2 (fun (A : Arc) (y : Int) => A.l ≤ y ∧ y ≤ A.u) as fl
noncomputable def exF : List Arc → List Int → Int → Int
  | A :: as, y :: fl, v => (if A.b = v then y else 0) - (if A.a = v then y else 0) + exF as fl v
  | _, _, _ => 0
theorem exF_set : ∀ (as : List Arc) (fl : List Int) (pl : Nat) (A : Arc) (y z v : Int), as[pl]? = some A → fl[pl]? = some y → exF as (fl.set pl z) v = exF as fl v + (if A.b = v then z - y else 0) - (if A.a = v then z - y else 0)
  | [], fl, pl, A, y, z, v, h, _ => by simp at h
  | _ :: _, [], pl, A, y, z, v, _, h => by simp at h
  | B :: as, x :: fl, 0, A, y, z, v, h1, h2 => by
    simp at h1 h2
    subst h1 h2
    simp only [List.set_cons_zero, exF]
    split <;> split <;> omega
  | B :: as, x :: fl, pl + 1, A, y, z, v, h1, h2 => by
    simp only [List.set_cons_succ, exF]
    rw [exF_set as fl pl A y z v (by simpa using h1) (by simpa using h2)]
    omega
noncomputable def Back (as : List Arc) (start : Nat) : List (Nat × Int) → Nat → Prop
  | [], v => v = start
  | (pl, sg) :: r, v => ∃ n, StepOk as n pl v sg ∧ Back as start r n
structure WayOk (as : List Arc) (fl : List Int) (start goal : Nat) (tks : List (Nat × Int)) : Prop where
  back : tks ≠ [] → Back as start tks goal
  room : ∀ s ∈ tks, 0 < roomF as fl s.1 s.2
  sgn : ∀ s ∈ tks, s.2 = 1 ∨ s.2 = -1
  lt : ∀ s ∈ tks, s.1 < as.length
  nd : (tks.map (·.1)).Nodup
  none_ : tks = [] → start ≠ goal → ¬ Reach (LinkS as fl) start goal
theorem keys_inj {es : List Ent} (nd : (keysE es).Nodup) {i j : Nat} {e e' : Ent} (hi : es[i]? = some e) (hj : es[j]? = some e') (h : e.1 = e'.1) : i = j := by
  have h1 : (keysE es)[i]? = some e.1 := by unfold keysE; rw [List.getElem?_map, hi]; rfl
  have h2 : (keysE es)[j]? = some e.1 := by unfold keysE; rw [List.getElem?_map, hj, h]; rfl
  exact (List.getElem?_inj (List.getElem?_eq_some_iff.mp h1).1 nd).mp (h1.trans h2.symm)
theorem key_before {es : List Ent} {i n : Nat} (h : n ∈ keysE (es.take i)) : ∃ j e, j < i ∧ es[j]? = some e ∧ e.1 = n := by
  unfold keysE at h
  obtain ⟨e, hm, rfl⟩ := List.mem_map.mp h
  obtain ⟨j, hj⟩ := List.mem_iff_getElem?.mp hm
  have hji : j < i := by
    have := (List.getElem?_eq_some_iff.mp hj).1
    rw [List.length_take] at this; omega
  rw [List.getElem?_take_of_lt hji] at hj
  exact ⟨j, e, hji, hj, rfl⟩
theorem CInv.places {as : List Arc} {fl : List Int} {m s : Nat} {es : List Ent} (h : CInv as fl m s es) {i j k k' n n' pl : Nat} {sg sg' : Int} (hi : es[i]? = some (k, some (n, pl, sg))) (hj : es[j]? = some (k', some (n', pl, sg'))) : ¬ j < i := by
  intro lt
  obtain ⟨hn, ⟨A, hA, hc⟩, _⟩ := h.tree i k n pl sg hi
  obtain ⟨hn', ⟨A', hA', hc'⟩, _⟩ := h.tree j k' n' pl sg' hj
  rw [hA] at hA'
  cases hA'
  have hne : k ≠ k' := fun e => by
    have := keys_inj h.nd hi hj e
    omega
  have hk : k = n' := by
    rcases hc with ⟨_, a, b⟩ | ⟨_, a, b⟩ <;> rcases hc' with ⟨_, a', b'⟩ | ⟨_, a', b'⟩ <;> omega
  obtain ⟨j2, e, l2, he, e1⟩ := key_before hn'
  have := keys_inj h.nd hi he (by rw [e1]; exact hk)
  omega
theorem valE_get {H : Hp} : ∀ {kvs : List (Key × V)} {es : List Ent} {i k : Nat} {o : Option (Nat × Nat × Int)}, EntsV H kvs es → (keysE es).Nodup → es[i]? = some (k, o) → ∃ kv, kvs[i]? = some kv ∧ EntV H kv (k, o) ∧ valV kvs (Sum.inl (k : Int)) = some kv.2
  | [], [], i, k, o, _, _, h => by simp at h
  | [], _ :: _, _, _, _, h, _, _ => by have := h.1; simp at this
  | _ :: _, [], _, _, _, h, _, _ => by have := h.1; simp at this
  | kv :: kvs, e :: es, 0, k, o, h, nd, he => by
    simp at he
    subst he
    obtain ⟨h1, h2⟩ := All2.tail h
    exact ⟨kv, rfl, h1, valV_pos (by rw [h1.1])⟩
  | kv :: kvs, e :: es, i + 1, k, o, h, nd, he => by
    obtain ⟨h1, h2⟩ := All2.tail h
    have nd' : (e.1 :: keysE es).Nodup := nd
    obtain ⟨kv', g1, g2, g3⟩ := valE_get h2 (List.nodup_cons.mp nd').2 (by simpa using he)
    refine ⟨kv', by simpa using g1, g2, ?_⟩
    rw [valV_neg, g3]
    rw [h1.1]
    intro z
    have : e.1 = k := by have := Sum.inl.inj z; omega
    exact (List.nodup_cons.mp nd').1 (by rw [this]; exact List.mem_map_of_mem (f := fun e : Ent => e.1) (List.mem_of_getElem? (by simpa using he)))
noncomputable def putW (t : Int) (fl : List Int) (s : Nat × Int) : List Int := fl.set s.1 (fl.getD s.1 0 + s.2 * t)
theorem putW_len (t : Int) (fl : List Int) (s : Nat × Int) : (putW t fl s).length = fl.length := by unfold putW; rw [List.length_set]
theorem roomF_other {as : List Arc} {fl : List Int} {t : Int} {s s' : Nat × Int} (h : s.1 ≠ s'.1) : roomF as (putW t fl s) s'.1 s'.2 = roomF as fl s'.1 s'.2 := by
  have : (putW t fl s).getD s'.1 0 = fl.getD s'.1 0 := by
    unfold putW
    rw [List.getD_eq_getElem?_getD, List.getElem?_set_ne h, List.getD_eq_getElem?_getD]
  unfold roomF
  rw [this]
theorem putW_bnd {as : List Arc} {fl : List Int} {t : Int} {s : Nat × Int} (hb : Bnd as fl) (hl : s.1 < as.length) (h0 : 0 ≤ t) (hr : t ≤ roomF as fl s.1 s.2) (hs : s.2 = 1 ∨ s.2 = -1) : Bnd as (putW t fl s) := by
  refine ⟨by rw [putW_len]; exact hb.1, fun i A y hA hy => ?_⟩
  by_cases e : s.1 = i
  · subst e
    have hl2 : s.1 < fl.length := by rw [← hb.1]; exact hl
    unfold putW at hy
    rw [List.getElem?_set_self hl2] at hy
    have e1 := List.getElem?_eq_getElem hl2
    obtain ⟨b1, b2⟩ := hb.2 s.1 A _ hA e1
    unfold roomF at hr
    rw [List.getD_eq_getElem?_getD, List.getD_eq_getElem?_getD, hA, e1] at hr
    rw [List.getD_eq_getElem?_getD, e1] at hy
    simp only [Option.getD_some] at hr hy
    have hy := Option.some.inj hy
    rcases hs with hs | hs
    · rw [if_pos hs] at hr
      rw [hs] at hy
      omega
    · rw [if_neg (by rw [hs]; decide)] at hr
      rw [hs] at hy
      omega
  · unfold putW at hy
    rw [List.getElem?_set_ne e] at hy
    exact hb.2 i A y hA hy
theorem exF_putW {as : List Arc} {fl : List Int} {t : Int} {n pl v' : Nat} {sg : Int} (hl : fl.length = as.length) (so : StepOk as n pl v' sg) (v : Int) : exF as (putW t fl (pl, sg)) v = exF as fl v + (if (v' : Int) = v then t else 0) - (if (n : Int) = v then t else 0) := by
  obtain ⟨A, hA, hc⟩ := so
  have hpl : pl < fl.length := by rw [hl]; exact (List.getElem?_eq_some_iff.mp hA).1
  unfold putW
  rw [exF_set as fl pl A _ _ v hA (List.getElem?_eq_getElem hpl), List.getD_eq_getElem?_getD, List.getElem?_eq_getElem hpl]
  simp only [Option.getD_some]
  rcases hc with ⟨rfl, a, b⟩ | ⟨rfl, a, b⟩
  · rw [a, b]
    split <;> split <;> omega
  · rw [a, b]
    split <;> split <;> omega
theorem exF_way {as : List Arc} {t : Int} {start : Nat} : ∀ (tks : List (Nat × Int)) (fl : List Int) (goal : Nat), fl.length = as.length → Back as start tks goal → ∀ v, exF as (tks.foldl (putW t) fl) v = exF as fl v + (if (goal : Int) = v then t else 0) - (if (start : Int) = v then t else 0)
  | [], fl, goal, hl, hb, v => by
    have e : goal = start := hb
    subst e
    simp only [List.foldl_nil]
    omega
  | (pl, sg) :: r, fl, goal, hl, hb, v => by
    obtain ⟨n, so, hr⟩ := hb
    rw [List.foldl_cons, exF_way r _ n (by rw [putW_len]; exact hl) hr v, exF_putW hl so v]
    omega
theorem foldW_bnd {as : List Arc} {t : Int} (h0 : 0 ≤ t) : ∀ (tks : List (Nat × Int)) (fl : List Int), Bnd as fl → (tks.map (·.1)).Nodup → (∀ s ∈ tks, t ≤ roomF as fl s.1 s.2) → (∀ s ∈ tks, s.2 = 1 ∨ s.2 = -1) → (∀ s ∈ tks, s.1 < as.length) → Bnd as (tks.foldl (putW t) fl)
  | [], fl, hb, _, _, _, _ => hb
  | s :: r, fl, hb, nd, hr, hs, hl => by
    rw [List.map_cons, List.nodup_cons] at nd
    rw [List.foldl_cons]
    refine foldW_bnd h0 r _ (putW_bnd hb (hl s List.mem_cons_self) h0 (hr s List.mem_cons_self) (hs s List.mem_cons_self)) nd.2 (fun s' h' => ?_) (fun s' h' => hs s' (List.mem_cons_of_mem _ h')) fun s' h' => hl s' (List.mem_cons_of_mem _ h')
    rw [roomF_other (fun e => nd.1 (by rw [e]; exact List.mem_map_of_mem h'))]
    exact hr s' (List.mem_cons_of_mem _ h')
structure StrmAt (H : Hp) (C x lb : Addr) (m : Nat) (as : List Arc) (fl : List Int) : Prop where
  ex : ∃ (dx la ls : Addr) (xs : List V) (sa : List Addr), H x = some (.ins C dx [("arcs", .ref la), ("borne", .ref lb), ("steps", .ref ls)]) ∧ H la = some (.lst xs) ∧ ArcsV H xs as ∧ H lb = some (.lst (fl.map V.int)) ∧
    H ls = some (.lst (sa.map V.ref)) ∧ sa.length = m ∧ (∀ (n : Nat) p, sa[n]? = some p → StepsAt H as (fun _ _ => True) (2 * as.length) n p) ∧ la ≠ lb ∧ ls ≠ lb ∧ ∀ a ∈ sa, a ≠ lb
  len : fl.length = as.length
  small : as.length ≤ 1000 ∧ m ≤ 1000
  inn : ∀ A ∈ as, InN m A
theorem StrmAt.stream {H : Hp} {C x lb : Addr} {m : Nat} {as : List Arc} {fl : List Int} (h : StrmAt H C x lb m as fl) : StreamAt H C x m as fl := by
  obtain ⟨dx, la, ls, xs, sa, h1, h2, h3, h4, h5, h6, h7, _⟩ := h.ex
  exact ⟨⟨dx, la, lb, ls, xs, sa, h1, h2, h3, h4, h5, h6, h7⟩, h.len, h.small, h.inn⟩
theorem StrmAt.mono {H H' : Hp} {C x lb : Addr} {m : Nat} {as : List Arc} {fl : List Int} (s : Same H H') (h : StrmAt H C x lb m as fl) : StrmAt H' C x lb m as fl := by
  obtain ⟨dx, la, ls, xs, sa, h1, h2, h3, h4, h5, h6, h7, h8⟩ := h.ex
  exact ⟨⟨dx, la, ls, xs, sa, s _ _ h1, s _ _ h2, h3.mono s, s _ _ h4, s _ _ h5, h6, (fun n p hp => (h7 n p hp).mono s), h8⟩, h.len, h.small, h.inn⟩
theorem SameBut.refl (x : Addr) (H : Hp) : SameBut x H H := fun _ _ _ z => z
theorem SameBut.trans {x : Addr} {H H1 H2 : Hp} (a : SameBut x H H1) (b : SameBut x H1 H2) : SameBut x H H2 := fun c o n h => b c o n (a c o n h)
theorem SameBut.same {x : Addr} {H H1 H2 : Hp} (a : SameBut x H H1) (b : Same H1 H2) : SameBut x H H2 := fun c o n h => b c o (a c o n h)
theorem StrmAt.turn {H H' : Hp} {C x lb : Addr} {m : Nat} {as : List Arc} {fl fl' : List Int} (h : StrmAt H C x lb m as fl) (s : SameBut lb H H') (hb : H' lb = some (.lst (fl'.map V.int))) (hl : fl'.length = fl.length) : StrmAt H' C x lb m as fl' := by
  obtain ⟨dx, la, ls, xs, sa, h1, h2, h3, h4, h5, h6, h7, n1, n2, n3⟩ := h.ex
  have nx : x ≠ lb := ne_of h1 h4 (by intro z; cases z)
  have ts : TSame H H' := fun q zs hq => s q _ (ne_of hq h4 (by intro z; cases z)) hq
  refine ⟨⟨dx, la, ls, xs, sa, s _ _ nx h1, s _ _ n1 h2, All2.mono h3 fun _ _ ⟨p, e, g⟩ => ⟨p, e, ts _ _ g⟩, hb, s _ _ n2 h5, h6, fun n p hp => ?_, n1, n2, n3⟩, by rw [hl]; exact h.len, h.small, h.inn⟩
  obtain ⟨ts', t1, t2, t3, t4⟩ := (h7 n p hp).ex
  refine ⟨ts', s _ _ (n3 p (List.mem_of_getElem? hp)) t1, t2, fun t ht => (t3 t ht).monoT ts, fun pl t sg hd so => ?_⟩
  obtain ⟨q, q1, q2⟩ := t4 pl t sg hd so
  exact ⟨q, q1, ts _ _ q2⟩
structure ExcM (mg : Str → Option Value) (n : Str) (a : Addr) : Prop where
  m : mg n = some (.ref a)
end L2
set_option maxHeartbeats 1000000
namespace L2
open PySem PySem.Spec PyProof.Rows
section
variable {X : Cx}
theorem vals3 {x y z : V} {us : List Value} (r : Vals [x, y, z] us) : ∃ u v w, us = [u, v, w] ∧ RelV x u ∧ RelV y v ∧ RelV z w := by
  cases r with
  | cons a r => cases r with
    | cons b r => cases r with
      | cons c r => cases r with
        | nil => exact ⟨_, _, _, rfl, a, b, c⟩
theorem call_max3 (hc : X.calm = true) : CallR X (.builtin "max") (fun xs H Q => ∃ i j k, xs = [.int i, .int j, .int k] ∧ ∀ m, i ≤ m → j ≤ m → k ≤ m → (m = i ∨ m = j ∨ m = k) → Q (.int m) H) := by
  intro pins s σ H xs us Q I r h
  obtain ⟨i, j, k, rfl, q⟩ := h
  obtain ⟨u, v, w', rfl, ⟨t, rfl⟩, ⟨t', rfl⟩, ⟨t2, rfl⟩⟩ := vals3 r
  refine max_three_ints (I.ok.hd hc) fun h' tk k0 => ?_
  by_cases h1 : j > i
  · rw [if_pos h1]
    by_cases h2 : k > j
    · rw [if_pos h2]
      exact ⟨.int k, H, I.kept k0, ⟨_, rfl⟩, q k (by omega) (by omega) (by omega) (.inr (.inr rfl))⟩
    · rw [if_neg h2]
      exact ⟨.int j, H, I.kept k0, ⟨_, rfl⟩, q j (by omega) (by omega) (by omega) (.inr (.inl rfl))⟩
  · rw [if_neg h1]
    by_cases h2 : k > i
    · rw [if_pos h2]
      exact ⟨.int k, H, I.kept k0, ⟨_, rfl⟩, q k (by omega) (by omega) (by omega) (.inr (.inr rfl))⟩
    · rw [if_neg h2]
      exact ⟨.int i, H, I.kept k0, ⟨_, rfl⟩, q i (by omega) (by omega) (by omega) (.inl rfl)⟩
end
end L2
set_option maxHeartbeats 4000000
namespace L2
open PySem
noncomputable def Ris (xs : Array Nat) : Prop := xs.toList.Pairwise (· < ·)
theorem Ris.lt {xs : Array Nat} (h : Ris xs) {i j : Nat} (hij : i < j) (hj : j < xs.size) : xs[i] < xs[j] := by
  have := List.pairwise_iff_getElem.mp h i j (by simp; omega) (by simpa using hj) hij
  simpa using this
theorem below_go {xs : Array Nat} {j : Nat} (h : Ris xs) : ∀ (fuel lo hi : Nat), lo ≤ hi → hi ≤ xs.size → hi - lo ≤ fuel → (∀ k (hk : k < xs.size), k < lo → xs[k] < j) → (∀ k (hk : k < xs.size), hi ≤ k → j ≤ xs[k]) →
    SetTable.below.go xs j fuel lo hi ≤ xs.size ∧ (∀ k (hk : k < xs.size), k < SetTable.below.go xs j fuel lo hi → xs[k] < j) ∧ (∀ k (hk : k < xs.size), SetTable.below.go xs j fuel lo hi ≤ k → j ≤ xs[k])
  | 0, lo, hi, h1, h2, h3, h4, h5 => by
    have e : hi = lo := by omega
    subst e
    exact ⟨h2, h4, h5⟩
  | fuel + 1, lo, hi, h1, h2, h3, h4, h5 => by
    unfold SetTable.below.go
    by_cases c : lo < hi
    · rw [if_pos c]
      have hm : (lo + hi) / 2 < xs.size := by omega
      have eg : xs.getD ((lo + hi) / 2) j = xs[(lo + hi) / 2] := by simp [Array.getD, hm]
      dsimp only
      rw [eg]
      by_cases d : xs[(lo + hi) / 2] < j
      · rw [if_pos d]
        refine below_go h fuel _ hi (by omega) h2 (by omega) (fun k hk hkl => ?_) h5
        by_cases e : k = (lo + hi) / 2
        · subst e; exact d
        · have := h.lt (show k < (lo + hi) / 2 by omega) hm
          omega
      · rw [if_neg d]
        refine below_go h fuel lo _ (by omega) (by omega) (by omega) h4 (fun k hk hkl => ?_)
        by_cases e : k = (lo + hi) / 2
        · subst e; omega
        · have := h.lt (show (lo + hi) / 2 < k by omega) hk
          omega
    · rw [if_neg c]
      have e : hi = lo := by omega
      subst e
      exact ⟨h2, h4, h5⟩
theorem below_ok {xs : Array Nat} (h : Ris xs) (j : Nat) : SetTable.below xs j ≤ xs.size ∧ (∀ k (hk : k < xs.size), k < SetTable.below xs j → xs[k] < j) ∧ (∀ k (hk : k < xs.size), SetTable.below xs j ≤ k → j ≤ xs[k]) :=
  below_go h xs.size 0 xs.size (Nat.zero_le _) (Nat.le_refl _) (by omega) (fun _ _ z => absurd z (Nat.not_lt_zero _)) (fun k hk z => absurd hk (by omega))
theorem below_at {xs : Array Nat} (h : Ris xs) {i j : Nat} (hi : i ≤ xs.size) (h1 : ∀ k (hk : k < xs.size), k < i → xs[k] < j) (h2 : ∀ k (hk : k < xs.size), i ≤ k → j ≤ xs[k]) : SetTable.below xs j = i := by
  obtain ⟨a, b, c⟩ := below_ok h j
  rcases Nat.lt_trichotomy (SetTable.below xs j) i with z | z | z
  · have hk : SetTable.below xs j < xs.size := by omega
    have e1 := h1 _ hk z
    have e2 := c _ hk (Nat.le_refl _)
    omega
  · exact z
  · have hk : i < xs.size := by omega
    have e1 := h2 _ hk (Nat.le_refl _)
    have e2 := b _ hk z
    omega
theorem below_mem {xs : Array Nat} (h : Ris xs) {j : Nat} (hm : j ∈ xs.toList) : xs[SetTable.below xs j]? = some j := by
  obtain ⟨i, hi⟩ := List.mem_iff_getElem?.mp hm
  obtain ⟨hl, e⟩ := List.getElem?_eq_some_iff.mp hi
  have hl' : i < xs.size := by simpa using hl
  have e' : xs[i] = j := by simpa using e
  have : SetTable.below xs j = i := below_at h (Nat.le_of_lt hl') (fun k hk z => by rw [← e']; exact h.lt z hl') fun k hk z => by
    rcases Nat.lt_or_eq_of_le z with z | rfl
    · rw [← e']; exact Nat.le_of_lt (h.lt z hk)
    · omega
  rw [this, Array.getElem?_eq_getElem hl', e']
theorem Ris.ins {xs : Array Nat} (h : Ris xs) {j : Nat} (hm : j ∉ xs.toList) : Ris (SetTable.insertAt xs (SetTable.below xs j) j) := by
  obtain ⟨a, b, c⟩ := below_ok h j
  unfold Ris
  rw [SetTable.toList_insertAt]
  generalize SetTable.below xs j = p at *
  have ht : ∀ x ∈ xs.toList.take p, x < j := fun x hx => by
    obtain ⟨i, hi⟩ := List.mem_iff_getElem?.mp hx
    rw [List.getElem?_take] at hi
    split at hi
    · rename_i hip
      obtain ⟨hl, e⟩ := List.getElem?_eq_some_iff.mp hi
      have hl' : i < xs.size := by simpa using hl
      have := b i hl' hip
      rw [← e]; simpa using this
    · cases hi
  have hd : ∀ x ∈ xs.toList.drop p, j < x := fun x hx => by
    obtain ⟨i, hi⟩ := List.mem_iff_getElem?.mp hx
    rw [List.getElem?_drop] at hi
    obtain ⟨hl, e⟩ := List.getElem?_eq_some_iff.mp hi
    have hl' : p + i < xs.size := by simpa using hl
    have h1 := c (p + i) hl' (by omega)
    have e' : xs[p + i] = x := by simpa using e
    have h2 : x ≠ j := fun z => hm (by rw [← z]; exact List.mem_of_getElem? hi)
    omega
  rw [List.pairwise_append]
  refine ⟨h.sublist (List.take_sublist ..), List.pairwise_cons.mpr ⟨hd, h.sublist (List.drop_sublist ..)⟩, fun x hx y hy => ?_⟩
  rcases List.mem_cons.mp hy with rfl | hy
  · exact ht x hx
  · exact Nat.lt_trans (ht x hx) (hd y hy)
theorem ris_range (n : Nat) : Ris (Array.range n) := by
  unfold Ris
  rw [Array.toList_range]
  exact List.pairwise_lt_range
theorem slot_live {t : SetTable} (h : Ris t.place) {j : Nat} (hm : j ∈ t.place.toList) : ∃ i, t.slot j = .live i := by
  unfold SetTable.slot
  dsimp only
  rw [below_mem h hm]
  exact ⟨SetTable.below t.place j, by rw [if_pos (by simp)]⟩
theorem adv_dummy (t : SetTable) (p : SetTable.Probe) : (t.advance p).dummy = p.dummy := by
  unfold SetTable.advance
  split <;> rfl
theorem probe_go {t : SetTable} {h : Int} : ∀ (fuel : Nat) (p : SetTable.Probe) (j : Nat) (dm : Option Nat), (∀ d, p.dummy = some d → t.slot d = .dummy) → SetTable.probe.go t (fun _ => h + 1) h fuel p = some (.empty j dm) →
    t.slot j = .empty ∧ ∀ d, dm = some d → t.slot d = .dummy
  | 0, p, j, dm, _, e => by simp [SetTable.probe.go] at e
  | fuel + 1, p, j, dm, hp, e => by
    unfold SetTable.probe.go at e
    cases hs : t.slot p.j with
    | empty =>
      rw [hs] at e
      simp only [Option.some.injEq, SetTable.Met.empty.injEq] at e
      obtain ⟨rfl, rfl⟩ := e
      exact ⟨hs, hp⟩
    | dummy =>
      rw [hs] at e
      refine probe_go fuel _ j dm (fun d hd => ?_) e
      rw [adv_dummy] at hd
      cases hd
      exact hs
    | live i =>
      rw [hs] at e
      simp only at e
      rw [if_neg (by simp; omega)] at e
      exact probe_go fuel _ j dm (fun d hd => hp d (by rw [← adv_dummy t]; exact hd)) e
theorem free_ok {t : SetTable} {h : Int} {j : Nat} {b : Bool} (hr : Ris t.place) (e : t.freeSlot h = some (j, b)) : j ∉ t.place.toList := by
  unfold SetTable.freeSlot at e
  split at e
  · rename_i k dm hq
    simp only [Option.some.injEq, Prod.mk.injEq] at e
    obtain ⟨rfl, rfl⟩ := e
    have := probe_go _ _ k dm (fun d hd => by simp [SetTable.probeStart] at hd) hq
    intro hm
    obtain ⟨i, hi⟩ := slot_live hr hm
    cases dm with
    | none => rw [show (Option.getD none k) = k from rfl, this.1] at hi; cases hi
    | some d => rw [show (Option.getD (some d) k) = d from rfl, this.2 d rfl] at hi; cases hi
  · cases e
theorem layNew_ris {t : SetTable} (hr : Ris t.place) (es : Array (Int × Value)) (h : Int) (x : Value) : Ris (layNew t es h x).2.1.place ∧ (layNew t es h x).2.1.led = t.led := by
  unfold layNew
  split
  · rename_i slot wd e
    have hn := free_ok hr e
    have h1 : Ris (t.put slot).1.place := hr.ins hn
    have h2 : (t.put slot).1.led = t.led := rfl
    dsimp only
    unfold SetTable.orStandIn
    split
    · exact ⟨h1, h2⟩
    · exact ⟨ris_range _, h2⟩
  · exact ⟨ris_range _, rfl⟩
theorem relaid_ris {t t' : SetTable} {hs : Array Int} {wanted : Nat} {o : Array Nat} (e : t.relaid hs wanted = some (t', o)) : Ris t'.place ∧ t'.led = t.led := by
  unfold SetTable.relaid SetTable.laid at e
  cases q : SetTable.layClean (SetTable.sizeAbove wanted - 1) hs with
  | none => rw [q] at e; cases e
  | some owner =>
    rw [q] at e
    cases e
    refine ⟨?_, rfl⟩
    unfold Ris
    dsimp only
    rw [List.pairwise_map]
    generalize SetTable.sizeAbove wanted - 1 + 1 = N
    have key : ∀ l : List Nat, l.Pairwise (· < ·) → (l.filterMap fun j => (owner.getD j none).map (j, ·)).Pairwise fun a b => a.1 < b.1 := by
      intro l
      induction l with
      | nil => intro _; exact .nil
      | cons a l ih =>
        intro hp
        obtain ⟨h1, h2⟩ := List.pairwise_cons.mp hp
        cases hq : owner.getD a none with
        | none => rw [List.filterMap_cons_none (by rw [hq]; rfl)]; exact ih h2
        | some c =>
          rw [List.filterMap_cons_some (b := (a, c)) (by rw [hq]; rfl)]
          refine List.pairwise_cons.mpr ⟨fun y hy => ?_, ih h2⟩
          obtain ⟨z, hz, e⟩ := List.mem_filterMap.mp hy
          have : y.1 = z := by
            cases hz2 : owner.getD z none with
            | none => rw [hz2] at e; cases e
            | some c2 => rw [hz2] at e; cases e; rfl
          rw [this]
          exact h1 z hz
    exact key _ List.pairwise_lt_range
theorem relayAll_ris {t : SetTable} (hr : Ris t.place) (es : Array (Int × Value)) (wanted : Nat) : Ris (relayAll t es wanted).2.1.place ∧ (relayAll t es wanted).2.1.led = t.led := by
  unfold relayAll
  split
  · rename_i t' o e
    dsimp only
    split
    · exact relaid_ris e
    · exact ⟨ris_range _, rfl⟩
  · exact ⟨ris_range _, rfl⟩
theorem erase_perm {α : Type} : ∀ (l : List α) (i : Nat) (h : i < l.length), (l[i] :: l.eraseIdx i).Perm l
  | a :: l, 0, h => by simp
  | a :: l, i + 1, h => by
    have := erase_perm l i (by simpa using h)
    simp only [List.getElem_cons_succ, List.eraseIdx_cons_succ]
    exact (List.Perm.swap _ _ _).trans (this.cons a)
theorem pick_go {α : Type} (next : Nat → Nat) : ∀ (fuel k : Nat) (left : List α) (out : Array α), fuel = left.length → (pickOrder.go next fuel k left out).toList.Perm (out.toList ++ left)
  | 0, k, left, out, h => by
    have : left = [] := List.eq_nil_of_length_eq_zero h.symm
    subst this
    simp [pickOrder.go]
  | fuel + 1, k, left, out, h => by
    unfold pickOrder.go
    have hl : next k % left.length < left.length := Nat.mod_lt _ (by omega)
    rw [List.getElem?_eq_getElem hl]
    dsimp only
    refine (pick_go next fuel (k + 1) _ _ (by rw [List.length_eraseIdx_of_lt hl]; omega)).trans ?_
    rw [Array.toList_push, List.append_assoc]
    refine List.Perm.append_left _ ?_
    exact erase_perm left _ hl
theorem pick_perm {α : Type} (next : Nat → Nat) (xs : Array α) : (pickOrder next xs).toList.Perm xs.toList := by
  have := pick_go next xs.size 0 xs.toList #[] (by simp)
  simpa [pickOrder] using this
end L2
set_option maxHeartbeats 4000000
namespace L2
open PySem PySem.Spec PyProof.Rows
noncomputable def kOf (e : Int × Value) : Int := numOf e.2
structure SR (prog : Program) (w : World) (es : Array (Int × Value)) (t : SetTable) (ks : List Int) : Prop where
  el : ElemsOf (intKind prog w) es.toList
  fits : t.fits es.size = true
  ris : Ris t.place
  led : t.led = !(w.params.followText "set-order")
  nd : (es.toList.map kOf).Nodup
  mem : ∀ k, k ∈ es.toList.map kOf ↔ k ∈ ks
  len : es.size ≤ ks.length
noncomputable def SetR (prog : Program) (w : World) (h : Heap) (a : Addr) (ks : List Int) : Prop := ∃ o es ep t, h.get? a = some o ∧ o.ExactSet ∧ o.data = .set es ep t ∧ SR prog w es t ks
theorem isInt_shape {k : Int} {v : Value} {prog : Program} {w : World} (h : (intKind prog w).is k v = true) : ∃ t, v = .int k t := by
  have h' : Value.isInt k v = true := h
  cases v with
  | int j t =>
    have e : (j == k) = true ∨ (k == j) = true := by first | exact .inl h' | exact .inr h'
    rcases e with e | e
    · exact ⟨t, by rw [beq_iff_eq.mp e]⟩
    · exact ⟨t, by rw [beq_iff_eq.mp e]⟩
  | _ => cases h'
section
variable {prog : Program} {w : World} {es : Array (Int × Value)} {t : SetTable} {ks : List Int}
theorem SR.perm {es' : Array (Int × Value)} {t' : SetTable} (h : SR prog w es t ks) (p : es'.toList.Perm es.toList) (f : t'.fits es'.size = true) (r : Ris t'.place) (l : t'.led = t.led) : SR prog w es' t' ks where
  el := h.el.perm p
  fits := f
  ris := r
  led := l.trans h.led
  nd := (p.map kOf).nodup_iff.mpr h.nd
  mem := fun k => ((p.map kOf).mem_iff).trans (h.mem k)
  len := by
    have := p.length_eq
    rw [Array.length_toList, Array.length_toList] at this
    rw [this]; exact h.len
theorem SR.put {k : Int} {tk : Tok} (h : SR prog w es t ks) (hn : k ∉ ks) {es' : Array (Int × Value)} {t' : SetTable} (p : es'.toList.Perm (es.toList ++ [(hashInt k, .int k tk)])) (f : t'.fits es'.size = true) (r : Ris t'.place) (l : t'.led = t.led) : SR prog w es' t' (ks ++ [k]) where
  el := (h.el.push (k := k) (x := .int k tk) (intKind_is _ _ _ _) rfl).perm p
  fits := f
  ris := r
  led := l.trans h.led
  nd := by
    refine (p.map kOf).nodup_iff.mpr ?_
    rw [List.map_append]
    refine List.nodup_append.mpr ⟨h.nd, by simp, fun a ha b hb => ?_⟩
    have : b = k := by simpa [kOf, numOf] using hb
    rw [this]
    intro e
    exact hn ((h.mem k).mp (by rw [← e]; exact ha))
  mem := fun k' => by
    rw [(p.map kOf).mem_iff, List.map_append, List.mem_append, List.mem_append, h.mem k']
    simp [kOf, numOf]
  len := by
    have := p.length_eq
    rw [Array.length_toList, List.length_append, Array.length_toList] at this
    have := h.len
    rw [List.length_append]
    simp only [List.length_cons, List.length_nil] at *
    omega
theorem SR.again {k : Int} (h : SR prog w es t ks) (hk : k ∈ ks) : SR prog w es t (ks ++ [k]) where
  el := h.el
  fits := h.fits
  ris := h.ris
  led := h.led
  nd := h.nd
  mem := fun k' => by
    rw [h.mem k', List.mem_append]
    refine ⟨.inl, fun z => z.elim id fun z => ?_⟩
    rw [List.mem_singleton.mp z]; exact hk
  len := by have := h.len; rw [List.length_append]; omega
end
section
variable {prog : Program} {w : World} {A : Around} {E : Value → Shared → Prop} {s : Shared}
theorem store_R {a : Addr} {o : Obj} {es es' : Array (Int × Value)} {ep : Nat} {t t' : SetTable} (h : Heap) (ho : h.get? a = some o) (hd : o.data = .set es ep t) : (h.update a (Obj.putSet es' t')).get? a = some { o with data := .set es' (ep + 1) t' } := by
  have := Heap.get?_update_self (Obj.putSet es' t') ho (by rw [putSet_of es' t' hd]; rfl)
  rw [putSet_of es' t' hd] at this
  exact this
theorem add_R {a : Addr} {ks : List Int} {k : Int} {tk : Tok} {Q : Bool → Shared → Prop} (h : SetR prog w s.heap a ks) (room : ks.length + 1 < scanBound)
    (hQ : ∀ b h', Heap.SameBut a s.heap h' → SetR prog w h' a (ks ++ [k]) → Q b { s with heap := h' }) : wpAny (model prog w) A (setAddHashed a (.int k tk) (hashInt k)) Q E s := by
  obtain ⟨o, es, ep, t, ho, hex, hd, R⟩ := h
  have hb : es.size < scanBound := by have := R.len; omega
  have hkey : (intKind prog w).is k (.int k tk) = true := intKind_is _ _ _ _
  have hgw : ∀ (b : Bool) {s₁ : Shared} {Q' : Unit → Shared → Prop}, Q' () s₁ → wpAny (model prog w) A (match b with | true => rule "set.scan.the-table-gave-way" | false => pure ()) Q' E s₁ :=
    fun b s₁ Q' hq => by cases b <;> first | exact wpAny_pure hq | exact wpAny_rule hq
  unfold setAddHashed setAddHashedIn
  refine wpAny_holding (wpAny_bind (wpAny_setState_of ho hd R.fits ?_))
  dsimp only
  rw [byScan_of (knd := intKind prog w) rfl hb R.el]
  simp only [↓reduceIte]
  unfold setAddByScan
  refine wpAny_bind (wpAny_bind (wpAny_rule (wpAny_bind (wpAny_setScan_of (knd := intKind prog w) (k := k) hkey ho hd R.fits R.el ?_))))
  cases hr : List.findIdx? (fun e => (intKind prog w).is k e.2) es.toList with
  | some j =>
    dsimp only
    obtain ⟨hj, hpj, _⟩ := List.findIdx?_eq_some_iff_getElem.mp hr
    obtain ⟨t', et⟩ := isInt_shape hpj
    have hk : k ∈ ks := (R.mem k).mp (List.mem_map.mpr ⟨es.toList[j], List.getElem_mem hj, by unfold kOf; rw [et]; rfl⟩)
    have := hQ false s.heap (Heap.SameBut.refl a s.heap) ⟨o, es, ep, t, ho, hex, hd, R.again hk⟩
    exact wpAny_pure (wpAny_pure this)
  | none =>
    dsimp only
    have hk : k ∉ ks := fun z => by
      obtain ⟨e, he, q⟩ := List.mem_map.mp ((R.mem k).mpr z)
      obtain ⟨⟨k', hk', _⟩, _⟩ := R.el e he
      obtain ⟨t', et⟩ := isInt_shape hk'
      have e2 : k' = k := by unfold kOf at q; rw [et] at q; exact q
      subst e2
      have := List.findIdx?_eq_none_iff.mp hr e he
      rw [hk'] at this; exact Bool.noConfusion this
    have hp := layNew_perm t es (hashInt k) (.int k tk)
    have hf := layNew_fits t es (hashInt k) (.int k tk)
    have hrs := layNew_ris R.ris es (hashInt k) (.int k tk)
    generalize layNew t es (hashInt k) (.int k tk) = L at hp hf hrs ⊢
    obtain ⟨es1, t1, wasDummy, gave⟩ := L
    dsimp only at hp hf hrs ⊢
    rw [Array.toList_push] at hp
    have R1 := R.put hk hp hf hrs.1 hrs.2
    have hz1 : es1.size ≤ sizeLine := fits_of_scanBound (by have := R1.len; rw [List.length_append] at this; simp at this; omega)
    refine wpAny_bind (hgw _ ?_)
    have fin : ∀ (t2 : SetTable), t2 = t1 → wpAny (model prog w) A (do
        storeSet a es1 t2
        if (!wasDummy && t2.tooFull) = true then do
            (match (relayAll t2 es1 (SetTable.grown es1.size)).2.2 with | true => rule "set.scan.the-table-gave-way" | false => pure ())
            storeSet a (relayAll t2 es1 (SetTable.grown es1.size)).1 (relayAll t2 es1 (SetTable.grown es1.size)).2.1
            pure (some true)
          else pure (some true)) (fun r s' => wpAny (model prog w) A (match r with | some added => pure added | none => setAddHashedIn a (.int k tk) (hashInt k) 99999) Q E s') E s := by
      intro t2 e2
      rw [e2]
      refine wpAny_bind (wpAny_storeSet_of ho hd ?_ hz1)
      have g1 := store_R (es' := es1) (t' := t1) s.heap ho hd
      have sb := Heap.SameBut.update s.heap a (Obj.putSet es1 t1)
      split
      · have hp2 := relayAll_perm t1 es1 (SetTable.grown es1.size)
        have hf2 := relayAll_fits t1 es1 (SetTable.grown es1.size)
        have hr2 := relayAll_ris R1.ris es1 (SetTable.grown es1.size)
        generalize relayAll t1 es1 (SetTable.grown es1.size) = L2' at hp2 hf2 hr2 ⊢
        obtain ⟨es2, t3, gave2⟩ := L2'
        dsimp only at hp2 hf2 hr2 ⊢
        have R2 := R1.perm hp2 hf2 hr2.1 hr2.2
        have hz2 : es2.size ≤ sizeLine := fits_of_scanBound (by have := R2.len; rw [List.length_append] at this; simp at this; omega)
        refine wpAny_bind (hgw _ (wpAny_bind (wpAny_storeSet_of g1 rfl ?_ hz2)))
        have g2 := store_R (es' := es2) (t' := t3) _ g1 rfl
        exact wpAny_pure (wpAny_pure (hQ _ _ (sb.trans (Heap.SameBut.update _ a _)) ⟨_, es2, _, t3, g2, hex, rfl, R2⟩))
      · exact wpAny_pure (wpAny_pure (hQ _ _ sb ⟨_, es1, _, t1, g1, hex, rfl, R1⟩))
    split
    · refine wpAny_bind ?_
      rw [hashByValue_scannable 8 rfl]
      refine wpAny_pure ?_
      exact fin _ (by simp [plainKind])
    · refine wpAny_bind (wpAny_pure ?_)
      exact fin _ (by simp)
end
end L2
set_option maxHeartbeats 4000000
namespace L2
open PySem PySem.Spec PyProof.Rows
section
variable {prog : Program} {w : World} {A : Around} {R : Result → Shared → Prop} {I : Addr} {fp wr : List Addr} {G : Array GenState → Array GenState → Prop} {n : Nat} {P : Nat → Value → Prop} {St : Nat → Shared → Prop}
theorem fill_R (W : WalksS prog w A.in1 I fp wr G n P St) {b : Addr} (nb : b ∉ fp) {val : Nat → Int} (hv : ∀ i v, P i v → ∃ t, v = .int (val i) t) (room : n + 1 < scanBound) :
    ∀ (m i : Nat) (s : Shared), n - i = m → i ≤ n → St i s → SetR prog w s.heap b ((List.range i).map val) →
      (∀ s', Moved (b :: wr) G s s' → SetR prog w s'.heap b ((List.range n).map val) → R (.ok (.ret .none)) s') →
      codeAny (model prog w) A (.builtin "set.update.loop" ⟨[.ref b, .ref I], []⟩) R s := by
  have nw : b ∉ wr := fun z => nb (W.sub _ z)
  have more : ∀ c ∈ wr, c ∈ b :: wr := fun c hc => List.mem_cons_of_mem _ hc
  have same : ∀ {s s' : Shared} {ks : List Int}, SetR prog w s.heap b ks → Moved wr G s s' → SetR prog w s'.heap b ks := fun {s s' ks} h hm => by
    obtain ⟨o, es, ep, t, ho, r⟩ := h
    exact ⟨o, es, ep, t, hm.heap b _ nw ho, r⟩
  intro m
  induction m with
  | zero =>
    intro i s hm hi hst hS hR
    obtain rfl : i = n := by omega
    refine codeAny_builtin PyProof.Rows.F.entry_set_update_loop ?_
    rw [Around.under_plainId PyProof.Rows.F.plain_set_update_loop _]
    show wpAny _ A.in1 (pyNext (.ref I) >>= _) _ _ s
    exact wpAny_bind (W.done s _ _ hst fun s' mv => wpAny_pure (hR s' (mv.mono more) (same hS mv)))
  | succ m ih =>
    intro i s hm hi hst hS hR
    have lt : i < n := by omega
    refine codeAny_builtin PyProof.Rows.F.entry_set_update_loop ?_
    rw [Around.under_plainId PyProof.Rows.F.plain_set_update_loop _]
    show wpAny _ A.in1 (pyNext (.ref I) >>= _) _ _ s
    refine wpAny_bind (W.item i s _ _ lt hst fun v s' hP hst' mv => ?_)
    obtain ⟨t, rfl⟩ := hv i v hP
    show wpAny _ A.in1 (holding [Value.int (val i) t] (setAdd b (Value.int (val i) t)) >>= _) _ _ s'
    refine wpAny_bind (wpAny_holding ?_)
    unfold setAdd
    refine wpAny_holding (wpAny_bind ((intKind prog w).pyHash (k := val i) (intKind_is _ _ _ _) ?_))
    have hS' := same hS mv
    refine add_R (s := { s' with toks := s'.toks + 1 }) hS' (by simp; omega) fun bo h' sb hS2 => ?_
    have hS3 : SetR prog w h' b ((List.range (i + 1)).map val) := by
      rw [List.range_succ, List.map_append]; exact hS2
    refine wpAny_pure ⟨plainId_quiet PyProof.Rows.F.plain_set_update_loop _, ih (i + 1) _ (by omega) lt (W.frame _ s' _ _ hst' (Nat.le_succ _) fun c hc o e => ?_) hS3 fun s'' mv' hS4 => ?_⟩
    · rw [sb.2 c (fun z : c = b => nb (by rw [← z]; exact hc))]; exact e
    · refine hR s'' (Moved.trans W.gtrans ((mv.mono more).then_heap (Nat.le_succ _) fun c o hc e => ?_) mv') hS4
      rw [sb.2 c (fun z : c = b => hc (by rw [z]; exact List.mem_cons_self))]; exact e
end
section
variable {prog : Program} {w : World} {A : Around} {E : Value → Shared → Prop} {s : Shared}
theorem code_set_newL (a : Value) {Q₁ : Value → Shared → Prop} (h : Q₁ (.ref s.heap.objs.size) { s with heap := s.heap.push (bareSet (!(w.params.followText "set-order"))) }) :
    codeAny (model prog w) A (.call (.builtin "set.__new__") ⟨[.type "set", a], []⟩) (wants Q₁ E) s := by
  refine codeAny_of_tree ?_
  show wpAny _ A.in1 (do checkBuiltinCall "set.__new__" ⟨[.type "set", a], []⟩; again (.builtin "set.__new__" ⟨[.type "set", a], []⟩)) _ _ s
  refine wpAny_bind (wpAny_of_eq (PySem.F.newCall_set_1 a) (wpAny_pure ⟨plainId_quiet PySem.F.plain_set_new _, codeAny_builtin PySem.F.entry_set_new ?_⟩))
  rw [Around.under_plainId PySem.F.plain_set_new _]
  unfold Builtin.«set.__new__» Builtin.Frozenset.newClass
  have hsub := sub_set_self
  obtain ⟨hp, g, d, tk, os⟩ := s
  dsimp only
  wp_walk
  refine wpAny_askSetting (wpAny_pure ?_)
  dsimp only
  simp only [newObj]
  exact wpAny_bind (wpAny_alloc (wpAny_pure (wpAny_pure h)))
set_option maxHeartbeats 3200000 in
theorem set_callL {x : Value} {Q : Value → Shared → Prop} {Z : Heap → Prop}
    (fill : ∀ (E' : Value → Shared → Prop) (Q' : Unit → Shared → Prop), (∀ h' tk, Z h' → Q' () { s with heap := h', toks := tk }) → wpAny (model prog w) A.in1.in1 (Builtin.Frozenset.updateFrom "set.__init__" s.heap.objs.size x) Q' E' { s with heap := s.heap.push (bareSet (!(w.params.followText "set-order"))) })
    (h : ∀ (h' : Heap) (tk : Nat), Z h' → Q (.ref s.heap.objs.size) { s with heap := h', toks := tk }) : wpAny (model prog w) A (call (.type "set") [x]) Q E s := by
  obtain ⟨c, tl, hmro⟩ := PySem.F.called_set.mro
  have g1 := PySem.F.called_set.made
  have g2 := PySem.F.called_set.sub
  have g3 := PySem.F.called_set.notType
  have g4 := PySem.F.called_set.canCreate
  have g5 := PySem.F.typeCall_set_1 x
  refine wpAny_call (codeAny_of_tree ?_)
  show wpAny _ _ (callAny (.type "set") _) _ _ _
  refine wpAny_pure ⟨Code.quiet_builtin _ (by decide +kernel), codeAny_builtin PySem.F.entry_type_call ?_⟩
  rw [Around.under_plain (weight_type_call_type "set" [x] []) rfl]
  repeat (any_goals (first | assumption | wp_step))
  generalize hled : (!(w.params.followText "set-order")) = led at *
  refine codeAny_mono (code_set_newL x (E := E) (Q₁ := fun v s1 => v = .ref s.heap.objs.size ∧ s1 = { s with heap := s.heap.push (bareSet led) }) ⟨rfl, by rw [hled]⟩) fun r s1 hr => ?_
  match r, hr with
  | .error e, hr => exact hr
  | .ok .next, hr => exact hr.elim
  | .ok .brk, hr => exact hr.elim
  | .ok .cont, hr => exact hr.elim
  | .ok (.ret v), hr =>
    obtain ⟨rfl, rfl⟩ := hr
    have at0 : (s.heap.push (bareSet led)).get? s.heap.objs.size = some (bareSet led) := Heap.get?_push_size _ rfl
    have hT : Shared.TypeIs { s with heap := s.heap.push (bareSet led) } (.ref s.heap.objs.size) "set" := ⟨_, at0, rfl⟩
    have i1 := PySem.F.called_set.init.lookup
    have i2 := PySem.F.called_set.init.bind (.ref s.heap.objs.size)
    repeat (any_goals (first | assumption | wp_step))
    refine codeAny_mono (codeAny_call_builtin (R := wants (fun r s2 => r = .none ∧ ∃ h' tk, s2 = { s with heap := h', toks := tk } ∧ Z h') E) PySem.F.called_set.init.plain PySem.F.entry_set_init (check_set_init_1 hT ?_)) fun r2 s2 hr2 => ?_
    · have at1 : ({ s with heap := s.heap.push (bareSet led) } : Shared).heap.get? s.heap.objs.size = some (bareSet led) := at0
      unfold Builtin.«set.__init__» noKeywords
      generalize hU : Builtin.Frozenset.updateFrom = U
      wp_walk
      subst hU
      exact fill _ _ fun h' tk z => wpAny_pure ⟨rfl, h', tk, rfl, z⟩
    · match r2, hr2 with
      | .error e, hr2 => exact hr2
      | .ok .next, hr2 => exact hr2.elim
      | .ok .brk, hr2 => exact hr2.elim
      | .ok .cont, hr2 => exact hr2.elim
      | .ok (.ret v), hr2 =>
        obtain ⟨rfl, h', tk, rfl, z⟩ := hr2
        repeat (any_goals (first | assumption | wp_step))
        exact h _ _ z
theorem set_ofR {l : Addr} {vs : List Value} {zs : List Int} {Q : Value → Shared → Prop} (hh : A.handled = none) (hl : s.heap.IsList l vs.toArray) (hv : IntsAre vs zs) (room : zs.length + 1 < scanBound)
    (h : ∀ (h' : Heap) (tk : Nat), SetR prog w h' s.heap.objs.size zs → (∀ c o, s.heap.get? c = some o → h'.get? c = some o) → Q (.ref s.heap.objs.size) { s with heap := h', toks := tk }) : wpAny (model prog w) A (call (.type "set") [.ref l]) Q E s := by
  have hlen := hv.length
  have erg : (List.range vs.toArray.size).map (fun i => zs.getD i 0) = zs := by
    refine List.ext_getElem? fun i => ?_
    rw [List.getElem?_map]
    by_cases hi : i < zs.length
    · rw [List.getElem?_range (by simp; omega), List.getElem?_eq_getElem hi]
      simp [List.getD_eq_getElem?_getD, List.getElem?_eq_getElem hi]
    · rw [List.getElem?_eq_none (l := List.range _) (by rw [List.length_range, List.size_toArray]; omega), List.getElem?_eq_none (l := zs) (by omega)]
      rfl
  refine set_callL (Z := fun h' => SetR prog w h' s.heap.objs.size zs ∧ ∀ c o, s.heap.get? c = some o → h'.get? c = some o) (fun E' Q' q => ?_) fun h' tk z => h h' tk z.1 z.2
  generalize hled : (!(w.params.followText "set-order")) = led at *
  obtain ⟨ol, hol, hcl, nl, hdl⟩ := id hl
  obtain ⟨ocls, odict, odata, oslots⟩ := ol
  simp only at hcl hdl
  subst hcl; subst hdl
  have at1 : (s.heap.push (bareSet led)).get? l = some { cls := .type "list", dict := odict, data := .seq vs.toArray nl, slots := oslots } := Heap.get?_push_of_some _ hol
  have k1 := PySem.F.sub_list_set
  have k2 := PySem.F.sub_list_frozenset
  have k3 : (Value.type "list" == Value.type "dict") = false := by decide
  have hl1 : (s.heap.push (bareSet led)).IsList l vs.toArray := ⟨_, at1, rfl, nl, rfl⟩
  unfold Builtin.Frozenset.updateFrom
  generalize hP : pyIter = PI
  wp_walk
  subst hP
  refine wpAny_pyIter_list hl1 ?_
  refine wpAny_bind (wpAny_runValue ?_)
  have ll : l < s.heap.objs.size := Heap.lt_size hol
  have sz : (s.heap.push (bareSet led)).objs.size = s.heap.objs.size + 1 := Heap.size_push ..
  refine fill_R (val := fun i => zs.getD i 0) ((Walks.list (by simp [hh]) _ l (by rw [sz]; exact Nat.ne_of_lt (Nat.lt_succ_of_lt ll)) vs.toArray).toS) (b := s.heap.objs.size) (by rw [sz]; simp; exact Nat.ne_of_gt ll) (fun i v hv' => ?_) (by simp; omega) (vs.toArray.size - 0) 0 _ (by omega) (Nat.zero_le _) ⟨⟨_, Heap.get?_push_size _ rfl, rfl, rfl⟩, hl1.push _⟩ ?_ ?_
  · have hv2 : vs[i]? = some v := by simpa using hv'
    have hi : i < zs.length := by
      have := (List.getElem?_eq_some_iff.mp hv2).1
      omega
    obtain ⟨t, ht⟩ := hv.get i _ (List.getElem?_eq_getElem hi)
    rw [hv2] at ht
    cases ht
    exact ⟨t, by rw [List.getD_eq_getElem?_getD, List.getElem?_eq_getElem hi]; rfl⟩
  · have g := Heap.get?_push_of_some (h := s.heap.push (bareSet led)) { cls := .type "list_iterator", data := .fields #[.ref l, .int 0 0] } (Heap.get?_push_size (o := bareSet led) s.heap rfl)
    exact ⟨_, #[], 0, .fresh 0 0 led, g, ⟨rfl, rfl, rfl⟩, rfl, ⟨fun e he => by simp at he, by rfl, List.Pairwise.nil, hled.symm ▸ rfl, by simp, fun k => by simp, by simp⟩⟩
  · intro s' mv hS
    obtain ⟨h', g', d', tk', os'⟩ := s'
    obtain rfl : g' = s.gens := mv.gens
    obtain rfl : d' = s.drawn := mv.drawn
    obtain rfl : os' = s.os := mv.os
    show wpAny _ _ _ _ _ _
    refine wpAny_pure ?_
    rw [erg] at hS
    refine q h' tk' ⟨hS, fun c o e => ?_⟩
    have hc := Heap.lt_size e
    refine mv.heap c o ?_ (Heap.get?_push_of_some _ (Heap.get?_push_of_some _ e))
    rw [sz]
    simp only [List.mem_cons, List.not_mem_nil, or_false, not_or]
    exact ⟨Nat.ne_of_lt hc, Nat.ne_of_lt (Nat.lt_succ_of_lt hc)⟩
end
end L2
set_option maxHeartbeats 4000000
namespace L2
open PySem PySem.Spec PyProof.Rows
theorem entry_set_iter : entryFor table "set.__iter__" = some Builtin.«frozenset.__iter__» :=
  entryFor_alias (id' := "frozenset.__iter__") (by kernel_rfl) rfl (by decide +kernel) (by kernel_rfl)
theorem slot_set_iterator_next : Slot "set_iterator" "__next__" "set_iterator.__next__" :=
  .of (owner := "set_iterator") (n := "__next__") (by rw [typeLookup_type, builtinLookup_eq_fast]; kernel_rfl) (by decide +kernel) (by decide +kernel) (by decide +kernel)
    (by first | exact .inl (by decide +kernel) | exact .inr (by decide +kernel)) (by rw [isSubtype_type]; kernel_rfl)
theorem entry_set_iterator_next : entryFor table "set_iterator.__next__" = some Builtin.«set_iterator.__next__» := entryFor_of_tree (by kernel_rfl)
theorem args_set_iterator_next (a : Value) : argsOk "set_iterator.__next__" ⟨[a], []⟩ := by unfold argsOk; kernel_rfl
theorem slot_set_iterator_iter : Slot "set_iterator" "__iter__" "set_iterator.__iter__" :=
  .of (owner := "set_iterator") (n := "__iter__") (by rw [typeLookup_type, builtinLookup_eq_fast]; kernel_rfl) (by decide +kernel) (by decide +kernel) (by decide +kernel)
    (by first | exact .inl (by decide +kernel) | exact .inr (by decide +kernel)) (by rw [isSubtype_type]; kernel_rfl)
theorem entry_set_iterator_iter : entryFor table "set_iterator.__iter__" = some Builtin.«dict_keyiterator.__iter__» :=
  entryFor_alias (id' := "dict_keyiterator.__iter__") (by kernel_rfl) rfl (by decide +kernel) (by kernel_rfl)
theorem args_set_iterator_iter (a : Value) : argsOk "set_iterator.__iter__" ⟨[a], []⟩ := by unfold argsOk; kernel_rfl
noncomputable abbrev setItO (first : Value) (i : Nat) (a : Addr) (n ep : Nat) : Obj := { cls := .type "set_iterator", data := .fields #[first, .int i 0, .ref a, .int n 0, .int ep 0] }
noncomputable def SetIt (h : Heap) (it : Addr) (first : Value) (i : Nat) (a : Addr) (n ep : Nat) : Prop := ∃ o, h.get? it = some o ∧ o.cls = .type "set_iterator" ∧ o.data = .fields #[first, .int i 0, .ref a, .int n 0, .int ep 0]
section
variable {M : Model} {A : Around} {E : Value → Shared → Prop} {s : Shared}
theorem wpAny_chs {src : Source} {n : Nat} {Q : Nat → Shared → Prop} (hn : n ≠ 0) (h : ∀ i d', i < n → Q i { s with drawn := d' }) : wpAny M A (choose src n) Q E s := fun Γ p hΓ => ⟨hn, h _ _ (Nat.mod_lt _ (by omega))⟩
theorem draw_ok {α : Type} : ∀ (n : Nat) (xs : List α) (s : Shared) {Q : List α → Shared → Prop}, n = xs.length → (∀ l d', l.Perm xs → Q l { s with drawn := d' }) → wpAny M A (drawOrder n xs) Q E s
  | 0, xs, s, Q, hl, h => by
    have : xs = [] := List.eq_nil_of_length_eq_zero hl.symm
    subst this
    exact wpAny_pure (h [] s.drawn (.refl _))
  | n + 1, [], s, Q, hl, h => by cases hl
  | n + 1, x :: xs, s, Q, hl, h => by
    unfold drawOrder
    refine wpAny_bind (wpAny_chs (by simp) fun i d' hi => ?_)
    rw [List.getElem?_eq_getElem hi]
    dsimp only
    refine wpAny_bind (draw_ok n _ _ (by rw [List.length_eraseIdx_of_lt hi]; omega) fun l d2 hp => wpAny_pure ?_)
    exact h _ d2 ((hp.cons _).trans (erase_perm _ _ hi))
end
section
variable {prog : Program} {w : World} {A : Around} {E : Value → Shared → Prop} {s : Shared} {a : Addr} {o : Obj} {es : Array (Int × Value)} {ep : Nat} {t : SetTable} {ks : List Int}
noncomputable abbrev byT (w : World) : Bool := w.params.followText "set-order"
noncomputable abbrev drw (w : World) (es : Array (Int × Value)) (t : SetTable) : Bool := !byT w && (!t.plain && decide (es.size > 1))
theorem pyIter_set {Q : Value → Shared → Prop} (ho : s.heap.get? a = some o) (hex : o.ExactSet) (hd : o.data = .set es ep t) (R : SR prog w es t ks) (hz : es.size ≤ sizeLine)
    (h1 : drw w es t = false → Q (.ref s.heap.objs.size) { s with heap := s.heap.push (setItO (.int 0 0) 0 a es.size ep) })
    (h2 : drw w es t = true → ∀ (l : List Nat) d', l.Perm (List.range es.size) → Q (.ref (s.heap.objs.size + 1 : Nat)) { s with heap := (s.heap.push (seqObj "tuple" (l.map fun (i : Nat) => Value.int i 0).toArray 0)).push (setItO (.ref s.heap.objs.size) 0 a es.size ep), drawn := d' }) :
    wpAny (model prog w) A (pyIter (.ref a)) Q E s := by
  have hT : s.TypeIs (.ref a) "set" := ⟨o, ho, hex.1⟩
  refine wpAny_pyIter_slot hT PySem.F.slot_set_iter (wpAny_call_entry PySem.F.slot_set_iter hT entry_set_iter ?_ (PySem.F.args_set_iter_1 _))
  show wpAny _ _ (Builtin.Frozenset.sizeOf a >>= _) _ _ s
  unfold Builtin.Frozenset.sizeOf
  refine wpAny_bind (wpAny_bind (wpAny_setEntries_of ho hd R.fits (wpAny_pure ?_)))
  refine wpAny_bind ?_
  unfold setDrawn setsByText
  refine wpAny_bind (wpAny_setState_of ho hd R.fits ?_)
  refine wpAny_bind (wpAny_bind (wpAny_askSetting (wpAny_pure ?_)))
  show wpAny _ _ (pure (drw w es t)) _ _ s
  refine wpAny_pure ?_
  cases hD : drw w es t with
  | false =>
    show wpAny _ _ (pure (rawInt 0) >>= _) _ _ s
    refine wpAny_bind (wpAny_pure ?_)
    refine wpAny_bind (wpAny_setEpoch_of ho hd R.fits ?_)
    refine wpAny_bind (wpAny_newObj_type (wpAny_pure ⟨_, rfl, "set_iterator", _, ⟨_, Heap.get?_push_size _ rfl, rfl⟩, slot_set_iterator_next.lookup, ?_⟩) (by size_fits))
    exact h1 hD
  | true =>
    show wpAny _ _ (drawOrder es.size (List.range es.size) >>= _) _ _ s
    refine wpAny_bind (draw_ok _ _ _ (by simp) fun l d' hp => ?_)
    have hll : l.length = es.size := by rw [hp.length_eq]; simp
    refine wpAny_bind (wpAny_newTuple ?_ (by rw [List.length_map, hll]; exact hz))
    have ho' := Heap.get?_push_of_some (h := s.heap) { cls := .type "tuple", data := .seq (l.map fun (i : Nat) => rawInt i).toArray } ho
    refine wpAny_bind (wpAny_setEpoch_of (s := { s with heap := s.heap.push { cls := .type "tuple", data := .seq (l.map fun (i : Nat) => rawInt i).toArray }, drawn := d' }) ho' hd R.fits ?_)
    refine wpAny_bind (wpAny_newObj_type (wpAny_pure ⟨_, rfl, "set_iterator", _, ⟨_, Heap.get?_push_size _ rfl, rfl⟩, slot_set_iterator_next.lookup, ?_⟩) (by size_fits))
    have := h2 hD l d' hp
    rw [show (s.heap.push { cls := .type "tuple", data := .seq (l.map fun (i : Nat) => rawInt i).toArray }).objs.size = s.heap.objs.size + 1 from Heap.size_push ..]
    exact this
theorem SetIt.typeIs {it : Addr} {first : Value} {i n : Nat} (x : SetIt s.heap it first i a n ep) : s.TypeIs (.ref it) "set_iterator" := let ⟨o, ho, hc, _⟩ := x; ⟨o, ho, hc⟩
theorem SetIt.at {h h' : Heap} {it : Addr} {first : Value} {i n : Nat} (x : SetIt h it first i a n ep) (e : ∀ o, h.get? it = some o → h'.get? it = some o) : SetIt h' it first i a n ep := let ⟨o, ho, r⟩ := x; ⟨o, e _ ho, r⟩
theorem setIt_next {it : Addr} {f : Value} {i n : Nat} {Q : Option Value → Shared → Prop} (hit : SetIt s.heap it f i a n ep) (ho : s.heap.get? a = some o) (hd : o.data = .set es ep t) (hf : t.fits es.size = true) (hn : n = es.size)
    (h : wpAny (model prog w) A.in1 (do
      if let .int slot _ := f then
        match ← setNext a slot.toNat i ep with
        | some (x, next) =>
          setField (.ref it) 0 (rawInt next)
          setField (.ref it) 1 (rawInt ((i : Int) + 1))
          ret x
        | none => setField (.ref it) 2 .none; raiseNew (← newExc (.type "StopIteration") [])
      else
        let some places ← seqItems? f | unsupported "internal:set_iterator"
        match places[i]? with
        | some (.int place _) =>
          let x ← setNextDrawn a place.toNat ep
          setField (.ref it) 1 (rawInt ((i : Int) + 1))
          ret x
        | some _ => unsupported "internal:set_iterator"
        | none => setField (.ref it) 0 (rawInt 0); setField (.ref it) 2 .none; raiseNew (← newExc (.type "StopIteration") []))
      (fun fin s' => ∃ r, fin = .done (.ret r) ∧ Q (some r) s') (fun e s' => wpAny (model prog w) A (do if ← isInstance e (.type "StopIteration") then pure none else throw e) Q E s') s) :
    wpAny (model prog w) A (pyNext (.ref it)) Q E s := by
  obtain ⟨oi, hoi, hci, hdi⟩ := id hit
  unfold pyNext
  refine wpAny_bind (wpAny_attempt (wpAny_callSpecial?_slot (name := Str.ofString "__next__") hit.typeIs slot_set_iterator_next
    (wpAny_call_entry slot_set_iterator_next hit.typeIs entry_set_iterator_next ?_ (args_set_iterator_next _))))
  unfold Builtin.«set_iterator.__next__»
  refine wpAny_bind (wpAny_pure ?_)
  refine wpAny_bind (wpAny_fieldsOf hoi hdi ?_)
  dsimp only
  refine wpAny_bind (wpAny_setEntries_of ho hd hf ?_)
  rw [if_neg (by rw [hn]; simp)]
  exact wpAny_mono h (fun fin s' ⟨r, e, q⟩ => ⟨r, e, wpAny_pure q⟩) fun _ _ z => z
theorem setIt_put {h : Heap} {it : Addr} {x0 x1 x2 x3 x4 : Value} {o : Obj} (ho : h.get? it = some o) (hc : o.cls = .type "set_iterator") (hd : o.data = .fields #[x0, x1, x2, x3, x4]) (k : Nat) (v : Value) :
    ∃ o', (h.update it (Obj.mapFields (·.setIfInBounds k v))).get? it = some o' ∧ o'.cls = .type "set_iterator" ∧ o'.data = .fields (#[x0, x1, x2, x3, x4].setIfInBounds k v) :=
  ⟨_, Heap.get?_update_self _ ho (Obj.isFreed_of_fields (Obj.data_mapFields hd _)), (Obj.cls_mapFields ..).trans hc, by rw [Obj.data_mapFields hd]⟩
theorem stop_ok {h : Heap} {Q : Option Value → Shared → Prop} (hh : A.handled = none) (hQ : ∀ h', (∀ b o, h.get? b = some o → h'.get? b = some o) → Q none { s with heap := h' }) :
    wpAny (model prog w) A.in1 (do raiseNew (← newExc (.type "StopIteration") []) : Sem PySem.Fin) (fun fin s' => ∃ r, fin = .done (.ret r) ∧ Q (some r) s') (fun e s' => wpAny (model prog w) A (do if ← isInstance e (.type "StopIteration") then pure none else throw e) Q E s') { s with heap := h } := by
  refine wpAny_bind ?_
  simp only [newExc, newTuple]
  refine wpAny_bind (wpAny_newObj_type ?_ (by size_fits))
  refine wpAny_bind (m := firstArgMember _ _) (wpAny_of_eq (a := Value.none) (by first | rfl | (simp only [firstArgMember]; rfl)) ?_)
  refine wpAny_newObj_type ?_ (by size_fits)
  simp only [raiseNew]
  refine wpAny_bind (wpAny_handled ?_)
  rw [show A.in1.handled = none from hh]
  refine wpAny_bind (wpAny_pure (wpAny_throw ?_))
  refine wpAny_bind (wpAny_isInstance (T := "StopIteration") (b := true) ⟨_, Heap.get?_push_size _ rfl, rfl⟩ isSubtype_stop ?_)
  exact wpAny_pure (hQ _ fun b o e => Heap.get?_push_of_some _ (Heap.get?_push_of_some _ e))
theorem upd_other {h : Heap} {b it : Addr} {f : Obj → Obj} {o : Obj} (hb : b ≠ it) (e : h.get? b = some o) : (h.update it f).get? b = some o := (Heap.get?_update_other _ _ (Ne.symm hb)).trans e
theorem pyIter_setIt {it : Addr} {first : Value} {i n : Nat} {Q : Value → Shared → Prop} (hit : SetIt s.heap it first i a n ep) (h : Q (.ref it) s) : wpAny (model prog w) A (pyIter (.ref it)) Q E s := by
  refine wpAny_pyIter_slot hit.typeIs slot_set_iterator_iter (wpAny_call_entry slot_set_iterator_iter hit.typeIs entry_set_iterator_iter ?_ (args_set_iterator_iter _))
  show wpAny _ _ (ret (.ref it)) _ _ s
  exact wpAny_pure ⟨_, rfl, "set_iterator", _, hit.typeIs, slot_set_iterator_next.lookup, h⟩
theorem walk_setAB (hh : A.handled = none) (I : Addr) (hne : a ≠ I) (hd : o.data = .set es ep t) (hf : t.fits es.size = true) (vs : List Value) (sl : Nat → Nat) (hn : vs.length = es.size)
    (hnx : ∀ (A' : Around) (E' : Value → Shared → Prop) (s' : Shared) (Q' : Option (Value × Nat) → Shared → Prop) (i : Nat) (v : Value), vs[i]? = some v → s'.heap.get? a = some o → Q' (some (v, sl (i + 1))) s' → wpAny (model prog w) A' (setNext a (sl i) i ep) Q' E' s')
    (hen : ∀ (A' : Around) (E' : Value → Shared → Prop) (s' : Shared) (Q' : Option (Value × Nat) → Shared → Prop), s'.heap.get? a = some o → Q' none s' → wpAny (model prog w) A' (setNext a (sl vs.length) vs.length ep) Q' E' s') :
    Walks prog w A I [I, a] [I] vs.length (fun i v => vs[i]? = some v) (fun i h => SetIt h I (.int (sl i) 0) i a vs.length ep ∧ h.get? a = some o) where
  sub := fun b hb => by simp at hb; simp [hb]
  frame := fun _ _ _ st hk => ⟨st.1.at fun o e => hk I (by simp) o e, hk a (by simp) _ st.2⟩
  item := fun i s Q E hi st hQ => by
    obtain ⟨⟨oi, hoi, hci, hdi⟩, hoa⟩ := st
    refine setIt_next ⟨oi, hoi, hci, hdi⟩ hoa hd hf hn ?_
    refine wpAny_bind (hnx _ _ _ _ i vs[i] (List.getElem?_eq_getElem hi) hoa ?_)
    dsimp only
    refine wpAny_bind (wpAny_setField hoi hdi (by simp) ?_)
    obtain ⟨o1, g1, c1, d1⟩ := setIt_put hoi hci hdi 0 (rawInt (sl (i + 1)))
    refine wpAny_bind (wpAny_setField (s := { s with heap := _ }) g1 d1 (by simp) ?_)
    obtain ⟨o2, g2, c2, d2⟩ := setIt_put (x0 := rawInt (sl (i + 1))) g1 c1 (by rw [d1]; rfl) 1 (rawInt ((i : Int) + 1))
    refine wpAny_pure ⟨_, rfl, hQ _ _ s.toks (List.getElem?_eq_getElem hi) ⟨⟨o2, g2, c2, by rw [d2]; rfl⟩, upd_other hne (upd_other hne hoa)⟩ fun b o' hb e => upd_other (by simpa using hb) (upd_other (by simpa using hb) e)⟩
  done := fun s Q E st hQ => by
    obtain ⟨⟨oi, hoi, hci, hdi⟩, hoa⟩ := st
    refine setIt_next ⟨oi, hoi, hci, hdi⟩ hoa hd hf hn ?_
    refine wpAny_bind (hen _ _ _ _ hoa ?_)
    dsimp only
    refine wpAny_bind (wpAny_setField hoi hdi (by simp) ?_)
    refine stop_ok hh fun h' hk => hQ h' s.toks fun b o' hb e => hk _ _ (upd_other (by simpa using hb) e)
  self := fun i s Q E st hQ => pyIter_setIt st.1 hQ
theorem walk_setC (hh : A.handled = none) (I T : Addr) (hne : a ≠ I) (hnT : T ≠ I) (hd : o.data = .set es ep t) (hf : t.fits es.size = true) (l : List Nat) (hl : ∀ i ∈ l, i < es.size) (hn : l.length = es.size) :
    Walks prog w A I [I, a, T] [I] l.length (fun i v => (l.map fun j => (es.getD j (0, Value.none)).2)[i]? = some v)
      (fun i h => SetIt h I (.ref T) i a l.length ep ∧ h.get? a = some o ∧ h.get? T = some (seqObj "tuple" (l.map fun (i : Nat) => Value.int i 0).toArray 0)) where
  sub := fun b hb => by simp at hb; simp [hb]
  frame := fun _ _ _ st hk => ⟨st.1.at fun o e => hk I (by simp) o e, hk a (by simp) _ st.2.1, hk T (by simp) _ st.2.2⟩
  item := fun i s Q E hi st hQ => by
    obtain ⟨⟨oi, hoi, hci, hdi⟩, hoa, hoT⟩ := st
    refine setIt_next ⟨oi, hoi, hci, hdi⟩ hoa hd hf hn ?_
    dsimp only
    have hp : (l.map fun (i : Nat) => Value.int i 0).toArray[i]? = some (Value.int (l[i] : Nat) 0) := by simp [hi]
    have hls : l[i] < es.size := hl _ (List.getElem_mem hi)
    have hv : (l.map fun j => (es.getD j (0, Value.none)).2)[i]? = some es[l[i]].2 := by simp [hi, Array.getD, hls]
    refine wpAny_bind (m := seqItems? (.ref T)) (wpAny_bind (wpAny_load hoT (wpAny_pure ?_)))
    dsimp only
    rw [hp]
    dsimp only
    unfold setNextDrawn
    refine wpAny_bind (wpAny_bind (wpAny_setState_of hoa hd hf ?_))
    dsimp only
    rw [if_neg (by simp), show ((l[i] : Nat) : Int).toNat = l[i] from rfl, Array.getElem?_eq_getElem hls]
    refine wpAny_pure ?_
    refine wpAny_bind (wpAny_setField hoi hdi (by simp) ?_)
    obtain ⟨o2, g2, c2, d2⟩ := setIt_put hoi hci hdi 1 (rawInt ((i : Int) + 1))
    exact wpAny_pure ⟨_, rfl, hQ _ _ s.toks hv ⟨⟨o2, g2, c2, by rw [d2]; rfl⟩, upd_other hne hoa, upd_other hnT hoT⟩ fun b o' hb e => upd_other (by simpa using hb) e⟩
  done := fun s Q E st hQ => by
    obtain ⟨⟨oi, hoi, hci, hdi⟩, hoa, hoT⟩ := st
    refine setIt_next ⟨oi, hoi, hci, hdi⟩ hoa hd hf hn ?_
    dsimp only
    refine wpAny_bind (m := seqItems? (.ref T)) (wpAny_bind (wpAny_load hoT (wpAny_pure ?_)))
    dsimp only
    rw [show (l.map fun (i : Nat) => Value.int i 0).toArray[l.length]? = none by simp]
    dsimp only
    refine wpAny_bind (wpAny_setField hoi hdi (by simp) ?_)
    obtain ⟨o1, g1, c1, d1⟩ := setIt_put hoi hci hdi 0 (rawInt 0)
    refine wpAny_bind (wpAny_setField (s := { s with heap := _ }) g1 d1 (by simp) ?_)
    refine stop_ok hh fun h' hk => hQ h' s.toks fun b o' hb e => hk _ _ (upd_other (by simpa using hb) (upd_other (by simpa using hb) e))
  self := fun i s Q E st hQ => pyIter_setIt st.1 hQ
theorem next_A (hb : byT w = true) (hd : o.data = .set es ep t) (hf : t.fits es.size = true) (A' : Around) (E' : Value → Shared → Prop) (s' : Shared) (Q' : Option (Value × Nat) → Shared → Prop) (i : Nat) (ho : s'.heap.get? a = some o)
    (h : Q' (((pickOrder (w.params.setOrder a ep) es)[i]?).map fun e => (e.2, 0)) s') : wpAny (model prog w) A' (setNext a 0 i ep) Q' E' s' := by
  unfold setNext setsByText
  refine wpAny_bind (wpAny_setState_of ho hd hf ?_)
  dsimp only
  refine wpAny_bind (wpAny_bind (wpAny_askSetting (wpAny_pure ?_)))
  show wpAny _ _ (if byT w = true then _ else _) _ _ _
  rw [if_pos hb, if_neg (by simp)]
  unfold setWalk setsByText
  refine wpAny_bind (wpAny_bind (wpAny_setState_of ho hd hf ?_))
  dsimp only
  refine wpAny_bind (wpAny_bind (wpAny_askSetting (wpAny_pure ?_)))
  show wpAny _ _ (if byT w = true then _ else _) _ _ _
  rw [if_pos hb]
  refine wpAny_bind (wpAny_askSetting (wpAny_pure (wpAny_pure h)))
theorem next_B (hb : byT w = false) (hD : drw w es t = false) (hd : o.data = .set es ep t) (hf : t.fits es.size = true) (hl : t.led = true) (slot : Nat) (A' : Around) (E' : Value → Shared → Prop) (s' : Shared) (Q' : Option (Value × Nat) → Shared → Prop) (i : Nat) (ho : s'.heap.get? a = some o)
    (h : Q' (match es[SetTable.below t.place slot]?, t.place[SetTable.below t.place slot]? with | some (_, x), some j => some (x, j + 1) | _, _ => none) s') : wpAny (model prog w) A' (setNext a slot i ep) Q' E' s' := by
  unfold setNext setsByText
  refine wpAny_bind (wpAny_setState_of ho hd hf ?_)
  dsimp only
  refine wpAny_bind (wpAny_bind (wpAny_askSetting (wpAny_pure ?_)))
  have hD' : (!t.plain && decide (es.size > 1)) = false := by
    have : drw w es t = (!byT w && (!t.plain && decide (es.size > 1))) := rfl
    rw [this, hb] at hD
    simpa using hD
  show wpAny _ _ (if byT w = true then _ else if (!t.plain && decide (es.size > 1)) = true then _ else _) _ _ _
  rw [hb, hD', if_neg Bool.false_ne_true, if_neg Bool.false_ne_true]
  show wpAny _ _ ((if (!t.led && !es.isEmpty) = true then unsupported "set:maker-not-led" else pure ()) >>= _) _ _ _
  rw [hl, if_neg (by simp)]
  exact wpAny_bind (wpAny_pure (wpAny_pure h))
end
end L2
set_option maxHeartbeats 4000000
namespace L2
open PySem PySem.Spec PyProof.Rows
section
variable {prog : Program} {w : World} {es : Array (Int × Value)} {t : SetTable} {ks : List Int}
theorem ints_el {l : List (Int × Value)} : (∀ e ∈ l, ∃ k, (intKind prog w).is k e.2 = true) → IntsAre (l.map (·.2)) (l.map kOf) := by
  induction l with
  | nil => intro _; exact .nil
  | cons e l ih =>
    intro h
    obtain ⟨k, hk⟩ := h e List.mem_cons_self
    obtain ⟨tk, et⟩ := isInt_shape hk
    have e1 : kOf e = k := by unfold kOf; rw [et]; rfl
    rw [List.map_cons, List.map_cons, et, e1]
    exact .cons k tk (ih fun x hx => h x (List.mem_cons_of_mem _ hx))
theorem SR.ints (R : SR prog w es t ks) {l : List (Int × Value)} (p : l.Perm es.toList) : IntsAre (l.map (·.2)) (l.map kOf) ∧ (l.map kOf).Nodup ∧ (∀ k, k ∈ l.map kOf ↔ k ∈ ks) ∧ l.length ≤ ks.length :=
  ⟨ints_el fun e he => let ⟨⟨k, hk, _⟩, _⟩ := R.el e (p.mem_iff.mp he); ⟨k, hk⟩, (p.map kOf).nodup_iff.mpr R.nd, fun k => ((p.map kOf).mem_iff).trans (R.mem k), by rw [p.length_eq, Array.length_toList]; exact R.len⟩
theorem getD_range {α : Type} (es : Array α) (d : α) : (List.range es.size).map (fun j => es.getD j d) = es.toList := by
  refine List.ext_getElem? fun i => ?_
  rw [List.getElem?_map, show es.toList[i]? = es[i]? from Array.getElem?_toList]
  by_cases hi : i < es.size
  · rw [List.getElem?_range hi, Array.getElem?_eq_getElem hi]
    simp [Array.getD, hi]
  · rw [List.getElem?_eq_none (l := List.range _) (by rw [List.length_range]; omega), Array.getElem?_eq_none (by omega)]
    rfl
end
section
variable {prog : Program} {w : World} {A : Around} {E : Value → Shared → Prop} {s : Shared} {a : Addr} {ks : List Int}
theorem iter_R {Q : Value → Shared → Prop} (hh : A.handled = none) (h : SetR prog w s.heap a ks) (hz : ks.length ≤ sizeLine)
    (hQ : ∀ (I : Addr) (h1 : Heap) d1 (fp : List Addr) (St : Nat → Heap → Prop) (vs : List Value) (ms : List Int), Walks prog w A I fp [I] vs.length (fun i v => vs[i]? = some v) St → St 0 h1 → s.heap.objs.size ≤ I → (∀ b ∈ fp, b = a ∨ s.heap.objs.size ≤ b) →
      (∀ b o, s.heap.get? b = some o → h1.get? b = some o) → IntsAre vs ms → ms.Nodup → (∀ k, k ∈ ms ↔ k ∈ ks) → vs.length ≤ ks.length → Q (.ref I) { s with heap := h1, drawn := d1 }) : wpAny (model prog w) A (pyIter (.ref a)) Q E s := by
  obtain ⟨o, es, ep, t, ho, hex, hd, R⟩ := h
  have hfe : t.place.size = es.size := by
    have := R.fits
    simp only [SetTable.fits, Bool.and_eq_true, beq_iff_eq] at this
    exact this.1
  have hla : a < s.heap.objs.size := Heap.lt_size ho
  refine pyIter_set ho hex hd R (Nat.le_trans R.len hz) (fun hD => ?_) fun hD l d' hp => ?_
  · cases hb : byT w with
    | true =>
      have hp := pick_perm (w.params.setOrder a ep) es
      obtain ⟨i1, i2, i3, i4⟩ := R.ints hp
      have hn : ((pickOrder (w.params.setOrder a ep) es).toList.map (·.2)).length = es.size := by rw [List.length_map, hp.length_eq, Array.length_toList]
      refine hQ s.heap.objs.size _ s.drawn _ _ _ _ (walk_setAB hh s.heap.objs.size (Nat.ne_of_lt hla) hd R.fits ((pickOrder (w.params.setOrder a ep) es).toList.map (·.2)) (fun _ => 0) hn (fun A' E' s' Q' i v hv ho' hq => ?_) (fun A' E' s' Q' ho' hq => ?_)) ⟨⟨_, Heap.get?_push_size _ rfl, rfl, by rw [hn]; rfl⟩, Heap.get?_push_of_some _ ho⟩ (Nat.le_refl _) (fun b hb => ?_) (fun b o e => Heap.get?_push_of_some _ e) i1 i2 i3 (by rw [List.length_map]; exact i4)
      · refine next_A hb hd R.fits A' E' s' Q' i ho' ?_
        rw [List.getElem?_map, Array.getElem?_toList] at hv
        obtain ⟨e, he, rfl⟩ := Option.map_eq_some_iff.mp hv
        rw [he]
        exact hq
      · refine next_A hb hd R.fits A' E' s' Q' _ ho' ?_
        rw [List.length_map, Array.length_toList, Array.getElem?_eq_none (Nat.le_refl _)]
        exact hq
      · rcases List.mem_cons.mp hb with rfl | hb
        · exact .inr (Nat.le_refl _)
        · exact .inl (List.mem_singleton.mp hb)
    | false =>
      have hled : t.led = true := by rw [R.led, show w.params.followText "set-order" = false from hb]; rfl
      obtain ⟨i1, i2, i3, i4⟩ := R.ints (.refl _)
      have hn : (es.toList.map (·.2)).length = es.size := by rw [List.length_map, Array.length_toList]
      have hbel : ∀ i, i ≤ es.size → SetTable.below t.place (match i with | 0 => 0 | j + 1 => t.place.getD j 0 + 1) = i := fun i hi => by
        refine below_at R.ris (by omega) (fun k hk hki => ?_) (fun k hk hki => ?_)
        · cases i with
          | zero => omega
          | succ j =>
            have hj : j < t.place.size := by omega
            have e : t.place.getD j 0 = t.place[j] := by simp [Array.getD, hj]
            dsimp only
            rw [e]
            rcases Nat.lt_or_eq_of_le (Nat.le_of_lt_succ hki) with z | rfl
            · exact Nat.lt_succ_of_lt (R.ris.lt z hj)
            · exact Nat.lt_succ_self _
        · cases i with
          | zero => exact Nat.zero_le _
          | succ j =>
            have hj : j < t.place.size := by omega
            have e : t.place.getD j 0 = t.place[j] := by simp [Array.getD, hj]
            dsimp only
            rw [e]
            exact R.ris.lt hki hk
      refine hQ s.heap.objs.size _ s.drawn _ _ _ _ (walk_setAB hh s.heap.objs.size (Nat.ne_of_lt hla) hd R.fits (es.toList.map (·.2)) (fun i => match i with | 0 => 0 | j + 1 => t.place.getD j 0 + 1) hn (fun A' E' s' Q' i v hv ho' hq => ?_) (fun A' E' s' Q' ho' hq => ?_)) ⟨⟨_, Heap.get?_push_size _ rfl, rfl, by rw [hn]; rfl⟩, Heap.get?_push_of_some _ ho⟩ (Nat.le_refl _) (fun b hb => ?_) (fun b o e => Heap.get?_push_of_some _ e) i1 i2 i3 (by rw [List.length_map]; exact i4)
      · refine next_B hb hD hd R.fits hled _ A' E' s' Q' i ho' ?_
        rw [List.getElem?_map, Array.getElem?_toList] at hv
        obtain ⟨e, he, rfl⟩ := Option.map_eq_some_iff.mp hv
        have hi : i < es.size := (Array.getElem?_eq_some_iff.mp he).1
        rw [hbel i (Nat.le_of_lt hi), he, Array.getElem?_eq_getElem (show i < t.place.size by omega)]
        have e2 : t.place.getD i 0 = t.place[i]'(by omega) := by simp [Array.getD, show i < t.place.size by omega]
        dsimp only at hq ⊢
        rw [e2] at hq
        exact hq
      · refine next_B hb hD hd R.fits hled _ A' E' s' Q' _ ho' ?_
        rw [hn, hbel es.size (Nat.le_refl _), Array.getElem?_eq_none (Nat.le_refl _)]
        exact hq
      · rcases List.mem_cons.mp hb with rfl | hb
        · exact .inr (Nat.le_refl _)
        · exact .inl (List.mem_singleton.mp hb)
  · have hlt : ∀ i ∈ l, i < es.size := fun i hi => by simpa using hp.mem_iff.mp hi
    have hll : l.length = es.size := by rw [hp.length_eq]; simp
    have hp2 : (l.map fun j => es.getD j (0, Value.none)).Perm es.toList := by
      rw [← getD_range es (0, Value.none)]
      exact hp.map _
    obtain ⟨i1, i2, i3, i4⟩ := R.ints hp2
    rw [List.length_map] at i4
    have hsz : (s.heap.push (seqObj "tuple" (l.map fun (i : Nat) => Value.int i 0).toArray 0)).objs.size = s.heap.objs.size + 1 := Heap.size_push ..
    have W := walk_setC (prog := prog) (w := w) (A := A) hh (s.heap.objs.size + 1 : Nat) s.heap.objs.size (a := a) (Nat.ne_of_lt (Nat.lt_succ_of_lt hla)) (Nat.ne_of_lt (Nat.lt_succ_self _)) hd R.fits l hlt hll
    have ev : ((l.map fun j => es.getD j (0, Value.none)).map (·.2)) = l.map fun j => (es.getD j (0, Value.none)).2 := by rw [List.map_map]; rfl
    rw [ev] at i1
    have hl2 : (l.map fun j => (es.getD j (0, Value.none)).2).length = l.length := List.length_map ..
    have W2 : Walks prog w A (s.heap.objs.size + 1 : Nat) [(s.heap.objs.size + 1 : Nat), a, s.heap.objs.size] [(s.heap.objs.size + 1 : Nat)] (l.map fun j => (es.getD j (0, Value.none)).2).length (fun i v => (l.map fun j => (es.getD j (0, Value.none)).2)[i]? = some v)
      (fun i h => SetIt h (s.heap.objs.size + 1 : Nat) (.ref s.heap.objs.size) i a l.length ep ∧ h.get? a = some o ∧ h.get? s.heap.objs.size = some (seqObj "tuple" (l.map fun (i : Nat) => Value.int i 0).toArray 0)) := by rw [hl2]; exact W
    refine hQ _ _ d' _ _ _ _ W2 ⟨⟨_, by rw [← hsz]; exact Heap.get?_push_size _ rfl, rfl, by rw [hll]⟩, Heap.get?_push_of_some _ (Heap.get?_push_of_some _ ho), Heap.get?_push_of_some _ (Heap.get?_push_size _ rfl)⟩ (Nat.le_succ _) (fun b hb => ?_) (fun b o e => Heap.get?_push_of_some _ (Heap.get?_push_of_some _ e)) i1 i2 i3 (by rw [hl2]; exact i4)
    rcases List.mem_cons.mp hb with rfl | hb
    · exact .inr (Nat.le_succ _)
    · rcases List.mem_cons.mp hb with rfl | hb
      · exact .inl rfl
      · exact .inr (by rw [List.mem_singleton.mp hb]; exact Nat.le_refl _)
theorem hint_set {Q : Bool → Shared → Prop} {r : Addr} (hT : s.TypeIs (.ref r) "set") (h : Q false s) : wpAny (model prog w) A (Builtin.List.listLengthHint (.ref r)) Q E s := by
  unfold Builtin.List.listLengthHint
  refine wpAny_bind (wpAny_specialOf hT PySem.F.slot_set_len.lookup ?_)
  generalize hid : ("set.__len__" : String) = id0
  wp_delta
  rw [show splitId id0 = some ("set", "__len__") from by subst hid; decide +kernel]
  subst hid
  refine wpAny_bind (wpAny_isInstance (T := "set") (b := true) hT (by rw [isSubtype_type]; kernel_rfl) ?_)
  refine wpAny_ite_split (fun hab => absurd hab (by decide)) (fun _ => ?_)
  refine wpAny_ite_split (fun _ => ?_) (fun hab => absurd (by decide +kernel) hab)
  refine wpAny_bind (wpAny_typeOf hT ?_)
  exact wpAny_pure h
theorem extend_set {R : Result → Shared → Prop} (hh : A.handled = none) (hS0 : SetR prog w s.heap a ks) (hz : ks.length ≤ sizeLine) (S : Addr) (hSa : S ≠ a) (res : Value) (c₀ : Nat) (hS : s.heap.get? S = some { cls := .type "list", data := .seq #[] c₀ })
    (hR : ∀ h' tk d' acc' c' ms, (∀ b o, b ≠ S → s.heap.get? b = some o → h'.get? b = some o) → h'.get? S = some { cls := .type "list", dict := none, data := .seq acc' c', slots := #[] } → IntsAre acc'.toList ms → ms.Nodup → (∀ k, k ∈ ms ↔ k ∈ ks) → ms.length ≤ ks.length →
      R (.ok (.ret res)) { s with heap := h', toks := tk, drawn := d' }) :
    wpAny (model prog w) A.in1 (Builtin.List.listExtendWith (.ref S) (.ref a) res)
      (fun fin s' => match fin with | .done f => R (.ok f) s' | .again c' => c'.quiet = true ∧ codeAny (model prog w) A c' R s') (fun e s' => R (.error e) s') s := by
  have hT : s.TypeIs (.ref a) "set" := by obtain ⟨o, _, _, _, ho, hex, _⟩ := hS0; exact ⟨o, ho, hex.1⟩
  unfold Builtin.List.listExtendWith
  refine wpAny_bind (wpAny_typeOf (T := "set") hT ?_)
  have h1 : Builtin.List.listSameRef (.ref S) (.ref a) = false := by simp [Builtin.List.listSameRef, hSa]
  have h2 : (Value.type "set" == Value.type "list") = false := by decide
  have h3 : (Value.type "set" == Value.type "tuple") = false := by decide
  simp only [h1, h2, h3, Bool.or_false, Bool.false_eq_true, if_false]
  refine wpAny_bind (iter_R (A := A.in1) hh hS0 hz fun I hp1 d1 fp St vs ms W st hI hfp hk hi hnd hmem hle => ?_)
  have hSf : S ∉ fp := fun z => by
    rcases hfp S z with e | e
    · exact hSa e
    · exact absurd (Heap.lt_size hS) (Nat.not_lt.mpr e)
  have hT1 : Shared.TypeIs { s with heap := hp1, drawn := d1 } (.ref a) "set" := by obtain ⟨o, ho, hc⟩ := hT; exact ⟨o, hk _ _ ho, hc⟩
  have hS1 := hk _ _ hS
  refine wpAny_bind (wpAny_holding (hint_set hT1 ?_))
  have key : ∀ (h : Heap) (c₁ tk : Nat), St 0 h → (∀ b o, b ≠ S → s.heap.get? b = some o → h.get? b = some o) →
      h.get? S = some { cls := .type "list", data := .seq #[] c₁ } → codeAny (model prog w) A (.builtin "list.extend.loop" ⟨[.ref S, .ref I, res], []⟩) R { s with heap := h, toks := tk, drawn := d1 } := by
    intro h c₁ tk hst hk' hS₁
    refine codeAny_extend_loopS W.toS (by omega) S hSf res vs.length 0 _ #[] c₁ rfl (Nat.zero_le _) hst hS₁ (ItemsOf.nil _) fun s' acc' c' hm hS' hacc => ?_
    rw [Moved.eq_with hm]
    have ea : acc'.toList = vs := by
      refine List.ext_getElem? fun j => ?_
      rw [Array.getElem?_toList]
      by_cases hj : j < acc'.size
      · rw [Array.getElem?_eq_getElem hj, hacc.2 j _ (Array.getElem?_eq_getElem hj)]
      · have := hacc.1
        rw [Array.getElem?_eq_none (by omega), List.getElem?_eq_none (by omega)]
    refine hR s'.heap s'.toks d1 acc' c' ms (fun b o hb e => hm.heap b o (fun hmem => ?_) (hk' b o hb e)) hS' (by rw [ea]; exact hi) hnd hmem (by rw [← hi.length]; exact hle)
    rcases List.mem_cons.mp hmem with e' | hmem
    · exact hb e'
    · rw [List.mem_singleton.mp hmem] at e
      exact absurd (Heap.lt_size e) (Nat.not_lt.mpr hI)
  refine wpAny_ite_split (fun _ => ?_) (fun _ => wpAny_pure ⟨plainId_quiet PySem.F.plain_extend_loop _, key _ c₀ _ st (fun b o _ e => hk b o e) hS1⟩)
  refine wpAny_bind (wpAny_rule ?_)
  refine wpAny_bind ?_
  show wpAny _ _ (updateSeq S (·.push .none) >>= fun _ => updateSeq S (·.pop)) _ _ _
  refine wpAny_bind (wpAny_updateSeq hS1 rfl ?_)
  have hS₂ := Heap.get?_update_self (Obj.mapSeq (·.push Value.none)) hS1 rfl
  refine wpAny_updateSeq (hz := by seq_fits) hS₂ rfl ?_
  have hS₃ := Heap.get?_update_self (Obj.mapSeq (·.pop)) hS₂ rfl
  refine wpAny_pure ⟨plainId_quiet PySem.F.plain_extend_loop _, key _ _ _ ?_ (fun b o hb e => ?_) hS₃⟩
  · refine W.frame 0 _ _ st fun b hb o e => ?_
    have hbS : b ≠ S := fun h => hSf (h ▸ hb)
    exact upd_other hbS (upd_other hbS e)
  · exact upd_other hb (upd_other hb (hk _ _ e))
theorem proto_set {R : Result → Shared → Prop} (hh : A.handled = none) (hS0 : SetR prog w s.heap a ks) (hz : ks.length ≤ sizeLine)
    (hR : ∀ h' tk d' acc' c' ms, (∀ b o, s.heap.get? b = some o → h'.get? b = some o) → h'.get? s.heap.objs.size = some { cls := .type "list", dict := none, data := .seq acc' c', slots := #[] } → IntsAre acc'.toList ms → ms.Nodup → (∀ k, k ∈ ms ↔ k ∈ ks) → ms.length ≤ ks.length →
      R (.ok (.ret (.ref s.heap.objs.size))) { s with heap := h', toks := tk, drawn := d' }) :
    codeAny (model prog w) A (.builtin "proto.collect" ⟨[.ref a], []⟩) R s := by
  have hla : a < s.heap.objs.size := by obtain ⟨o, _, _, _, ho, _⟩ := hS0; exact Heap.lt_size ho
  refine codeAny_builtin PySem.F.entry_proto_collect ?_
  rw [Around.under_plainId PySem.F.plain_proto_collect _]
  show wpAny _ A.in1 (newList [] >>= fun l => again (.builtin "list.__iadd__" ⟨[l, .ref a], []⟩)) _ _ s
  refine wpAny_bind (wpAny_newObj_type ?_)
  refine wpAny_pure ⟨plainId_quiet PySem.F.plain_list_iadd _, codeAny_builtin PySem.F.entry_list_iadd ?_⟩
  rw [Around.under_plainId PySem.F.plain_list_iadd _]
  have hS : (s.heap.push { cls := .type "list", data := .seq ([] : List Value).toArray }).get? s.heap.objs.size = some { cls := .type "list", data := .seq #[] 0 } := Heap.get?_push_size _ rfl
  show wpAny _ A.in1 (Builtin.List.listExtendWith (.ref s.heap.objs.size) (.ref a) (.ref s.heap.objs.size)) _ _ _
  exact extend_set (s := { s with heap := s.heap.push { cls := .type "list", data := .seq ([] : List Value).toArray } }) (A := A) hh (by obtain ⟨o, es, ep, t, ho, r⟩ := hS0; exact ⟨o, es, ep, t, Heap.get?_push_of_some _ ho, r⟩) hz s.heap.objs.size (Nat.ne_of_gt hla) (.ref s.heap.objs.size) 0 hS
    (fun h' tk d' acc' c' ms hk hS' hi hnd hmem hle => hR h' tk d' acc' c' ms (fun b o e => hk b o (Nat.ne_of_lt (Heap.lt_size e)) (Heap.get?_push_of_some _ e)) hS' hi hnd hmem hle)
theorem collect_set {Q : List Value → Shared → Prop} (hh : A.handled = none) (hS0 : SetR prog w s.heap a ks) (hz : ks.length ≤ sizeLine)
    (hQ : ∀ h' tk d' vs ms, (∀ b o, s.heap.get? b = some o → h'.get? b = some o) → s.heap.objs.size < h'.objs.size → IntsAre vs ms → ms.Nodup → (∀ k, k ∈ ms ↔ k ∈ ks) → ms.length ≤ ks.length → Q vs { s with heap := h', toks := tk, drawn := d' }) : wpAny (model prog w) A (collect (.ref a)) Q E s := by
  unfold collect
  refine wpAny_bind (wpAny_runValue (proto_set hh hS0 hz fun h' tk d' acc' c' ms hk hS' hi hnd hmem hle => ?_))
  show wpAny _ A (load s.heap.objs.size >>= _) _ _ _
  refine wpAny_bind (wpAny_load hS' ?_)
  exact wpAny_pure (hQ h' tk d' acc'.toList ms hk (Heap.lt_size hS') hi hnd hmem hle)
end
end L2
set_option maxHeartbeats 4000000
namespace L2
open PySem PySem.Spec PyProof.Rows
theorem boot_sorted2 : bootBuiltins "sorted" = some (.builtin "sorted") := by decide +kernel
theorem strict_of {ms : List Int} (h : ms.Pairwise (· ≤ ·)) (n : ms.Nodup) : ms.Pairwise (· < ·) := by
  have := List.Pairwise.and h n
  exact this.imp fun ⟨a, b⟩ => by omega
section
variable {X : Cx} {K : PySem.W.Frag} {e : Expr} {te : TE} {p1 p2 q1 q2 : Pos} {pins : List (Addr × Obj)} {σ : St} {H : Hp} {s : Shared}
theorem Inv.drw (I : Inv X pins σ H s) (d) : Inv X pins σ H { s with drawn := d } := ⟨I.ok, I.os, I.bare, I.base, I.loc, I.cell, I.free, I.freeC, I.pin, I.hok, I.len⟩
end
end L2
set_option maxHeartbeats 4000000
namespace L2
open PySem PyProof.Rows
section
variable {M : Model} {A : Around} {E : Value → Shared → Prop} {s : Shared} {τ α : Type} {c : Prop} [Decidable c] {a b : StateT τ Sem α} {Q : α → τ → Prop} {st : τ}
theorem wpS_yes (h : c) (q : wpS M A E s a Q st) : wpS M A E s (if c then a else b) Q st := by rw [if_pos h]; exact q
theorem wpS_no (h : ¬ c) (q : wpS M A E s b Q st) : wpS M A E s (if c then a else b) Q st := by rw [if_neg h]; exact q
end
structure Held (T : Prop) : Prop where
  out : T
theorem both {T R : Prop} (f : Held T → R) (t : T) : R := f ⟨t⟩
noncomputable abbrev Up (rk : Value → Nat) (l : List Keyed) : Prop := l.Pairwise fun x y => rk x.1 ≤ rk y.1
structure MLo (rk : Value → Nat) (la lb o : List Keyed) (ia ib : Nat) : Prop where
  perm : (o ++ (la.drop ia ++ lb.drop ib)).Perm (la ++ lb)
  up : Up rk o
  low : ∀ x ∈ o, ∀ y ∈ la.drop ia ++ lb.drop ib, rk x.1 ≤ rk y.1
section
variable {rk : Value → Nat} {la lb o : List Keyed} {ia ib k : Nat}
theorem MLo.start : MLo rk la lb [] 0 0 := ⟨by simp, .nil, fun x h => nomatch h⟩
theorem MLo.chA (m : MLo rk la lb o ia ib) (ha : Up rk la) (h : ∀ x ∈ (la.drop ia).take k, ∀ y ∈ lb.drop ib, rk x.1 ≤ rk y.1) : MLo rk la lb (o ++ (la.drop ia).take k) (ia + k) ib := by
  have e : la.drop ia = (la.drop ia).take k ++ la.drop (ia + k) := by rw [← List.drop_drop]; exact (List.take_append_drop k _).symm
  have hd : Up rk ((la.drop ia).take k ++ la.drop (ia + k)) := by rw [← e]; exact List.Pairwise.sublist (List.drop_sublist _ _) ha
  obtain ⟨h1, h2, h3⟩ := List.pairwise_append.mp hd
  have mem : ∀ x, x ∈ (la.drop ia).take k → x ∈ la.drop ia := fun x hx => List.mem_of_mem_take hx
  refine ⟨?_, ?_, ?_⟩
  · have p := m.perm
    rw [e] at p
    simpa [List.append_assoc] using p
  · refine List.pairwise_append.mpr ⟨m.up, h1, fun x hx y hy => m.low x hx y (List.mem_append_left _ (mem y hy))⟩
  · intro x hx y hy
    rcases List.mem_append.mp hx with hx | hx
    · refine m.low x hx y ?_
      rcases List.mem_append.mp hy with hy | hy
      · rw [e]; exact List.mem_append_left _ (List.mem_append_right _ hy)
      · exact List.mem_append_right _ hy
    · rcases List.mem_append.mp hy with hy | hy
      · exact h3 x hx y hy
      · exact h x hx y hy
theorem MLo.chB (m : MLo rk la lb o ia ib) (hb : Up rk lb) (h : ∀ x ∈ (lb.drop ib).take k, ∀ y ∈ la.drop ia, rk x.1 ≤ rk y.1) : MLo rk la lb (o ++ (lb.drop ib).take k) ia (ib + k) := by
  have e : lb.drop ib = (lb.drop ib).take k ++ lb.drop (ib + k) := by rw [← List.drop_drop]; exact (List.take_append_drop k _).symm
  have hd : Up rk ((lb.drop ib).take k ++ lb.drop (ib + k)) := by rw [← e]; exact List.Pairwise.sublist (List.drop_sublist _ _) hb
  obtain ⟨h1, h2, h3⟩ := List.pairwise_append.mp hd
  have mem : ∀ x, x ∈ (lb.drop ib).take k → x ∈ lb.drop ib := fun x hx => List.mem_of_mem_take hx
  refine ⟨?_, ?_, ?_⟩
  · have p := m.perm
    rw [e] at p
    refine List.Perm.trans ?_ p
    rw [List.append_assoc]
    refine List.Perm.append_left _ ?_
    rw [← List.append_assoc, ← List.append_assoc]
    exact List.Perm.append_right _ List.perm_append_comm
  · exact List.pairwise_append.mpr ⟨m.up, h1, fun x hx y hy => m.low x hx y (List.mem_append_right _ (mem y hy))⟩
  · intro x hx y hy
    rcases List.mem_append.mp hx with hx | hx
    · refine m.low x hx y ?_
      rcases List.mem_append.mp hy with hy | hy
      · exact List.mem_append_left _ hy
      · rw [e]; exact List.mem_append_right _ (List.mem_append_right _ hy)
    · rcases List.mem_append.mp hy with hy | hy
      · exact h x hx y hy
      · exact h3 x hx y hy
noncomputable def Merged (rk : Value → Nat) (la lb l : List Keyed) : Prop := l.Perm (la ++ lb) ∧ Up rk l
theorem MLo.doneB (m : MLo rk la lb o ia ib) (ha : Up rk la) (hb : Up rk lb) (h : lb.length ≤ ib ∨ la.length ≤ ia) : Merged rk la lb (o ++ la.drop ia ++ lb.drop ib) := by
  rw [List.append_assoc]
  refine ⟨m.perm, List.pairwise_append.mpr ⟨m.up, ?_, m.low⟩⟩
  rcases h with h | h
  · rw [List.drop_eq_nil_of_le h, List.append_nil]; exact List.Pairwise.sublist (List.drop_sublist _ _) ha
  · rw [List.drop_eq_nil_of_le h, List.nil_append]; exact List.Pairwise.sublist (List.drop_sublist _ _) hb
theorem MLo.doneA (m : MLo rk la lb o ia ib) (ha : Up rk la) (hb : Up rk lb) (h : ∀ x ∈ lb, ∀ y ∈ la.drop ia, rk x.1 ≤ rk y.1) : Merged rk la lb (o ++ lb.drop ib ++ la.drop ia) := by
  rw [List.append_assoc]
  refine ⟨List.Perm.trans (List.Perm.append_left _ List.perm_append_comm) m.perm, List.pairwise_append.mpr ⟨m.up, ?_, fun x hx y hy => m.low x hx y ?_⟩⟩
  · exact List.pairwise_append.mpr ⟨List.Pairwise.sublist (List.drop_sublist _ _) hb, List.Pairwise.sublist (List.drop_sublist _ _) ha, fun x hx y hy => h x (List.mem_of_mem_drop hx) y hy⟩
  · rcases List.mem_append.mp hy with hy | hy
    · exact List.mem_append_right _ hy
    · exact List.mem_append_left _ hy
theorem take1 {l : List Keyed} {i : Nat} {p : Keyed} (h : l[i]? = some p) : (l.drop i).take 1 = [p] := by
  obtain ⟨hi, rfl⟩ := List.getElem?_eq_some_iff.mp h
  rw [List.drop_eq_getElem_cons hi]
  rfl
theorem up_from {l : List Keyed} {i : Nat} {p : Keyed} (u : Up rk l) (h : l[i]? = some p) : ∀ y ∈ l.drop i, rk p.1 ≤ rk y.1 := by
  obtain ⟨hi, rfl⟩ := List.getElem?_eq_some_iff.mp h
  have e := List.drop_eq_getElem_cons hi
  have u' : Up rk (l.drop i) := List.Pairwise.sublist (List.drop_sublist _ _) u
  intro y hy
  rw [e] at hy u'
  rcases List.mem_cons.mp hy with rfl | hy
  · exact Nat.le_refl _
  · exact (List.pairwise_cons.mp u').1 y hy
theorem mem_chunk {l : List Keyed} {i k : Nat} {x : Keyed} (h : x ∈ (l.drop i).take k) : ∃ j, j < k ∧ l[i + j]? = some x := by
  obtain ⟨j, hj⟩ := List.mem_iff_getElem?.mp h
  have hjk : j < k := by
    have := (List.getElem?_eq_some_iff.mp hj).1
    rw [List.length_take] at this
    omega
  rw [List.getElem?_take_of_lt hjk, List.getElem?_drop] at hj
  exact ⟨j, hjk, hj⟩
end
noncomputable def gallop' : Bool → Keyed → Array Keyed → Nat → Nat → Nat → StateT SortSt Sem (Option Nat) := sortPriv% PySem.Builtin.gallop
noncomputable def Cmp (prog : Program) (w : World) (A : Around) (s : Shared) (kd : SortKind) (D : Value → Prop) (rk : Value → Nat) : Prop :=
  ∀ (E : Value → Shared → Prop) (x y : Value) (Q : Bool → Shared → Prop), D x → D y → Q (decide (rk x < rk y)) s → wpAny (model prog w) A (keyLt' kd x y) Q E s
section
variable {prog : Program} {w : World} {A : Around} {E : Value → Shared → Prop} {s : Shared} {kd : SortKind} {D : Value → Prop} {rk : Value → Nat}
theorem tim_lt (C : Cmp prog w A s kd D rk) {st : SortSt} {x y : Keyed} {Q : Option Bool → SortSt → Prop} (hk : kindOf st = kd) (hx : D x.1) (hy : D y.1) (h : Q (some (decide (rk x.1 < rk y.1))) st) : wpS (model prog w) A E s (lt' x y) Q st := by
  rw [lt'_eq]
  refine wpS_bind (wpS_get ?_)
  rw [hk]
  exact wpS_bind (wpS_lift (wpAny_attempt (C _ _ _ _ hx hy ⟨rfl, wpS_pure h⟩)))
theorem tim_elem {arr : Array Keyed} {i : Nat} {p : Keyed} {st : SortSt} {Q : Keyed → SortSt → Prop} {M : Model} (hp : arr[i]? = some p) (h : Q p st) : wpS M A E s (elem' arr i) Q st := by
  rw [elem'_eq, hp]
  exact wpS_pure h
noncomputable def bey (rk : Value → Nat) (left : Bool) (key : Keyed) (arr : Array Keyed) (base i : Nat) : Bool :=
  match arr[base + i]? with
  | some p => if left then decide (rk p.1 < rk key.1) else !decide (rk key.1 < rk p.1)
  | none => false
theorem tim_gallop (C : Cmp prog w A s kd D rk) {st : SortSt} {left : Bool} {key : Keyed} {arr : Array Keyed} {base n hint : Nat} {Q : Option Nat → SortSt → Prop} (hk : kindOf st = kd) (hkey : D key.1) (hin : base + n ≤ arr.size) (hD : ∀ p ∈ arr.toList, D p.1) (hh : hint < n)
    (mono : ∀ i j, i ≤ j → j < n → bey rk left key arr base j = true → bey rk left key arr base i = true)
    (h : ∀ k, k ≤ n → (∀ i, i < k → bey rk left key arr base i = true) → (∀ i, k ≤ i → i < n → bey rk left key arr base i = false) → Q (some k) st) : wpS (model prog w) A E s (gallop' left key arr base n hint) Q st := by
  have ask : ∀ (i : Nat) (R : Option Bool → SortSt → Prop), i < n → R (some (bey rk left key arr base i)) st → wpS (model prog w) A E s (elem' arr (base + i) >>= fun x => if left then lt' x key else lt' key x >>= fun r => pure (r.map (!·))) R st := by
    intro i R hi hR
    have hlt : base + i < arr.size := by omega
    have e : arr[base + i]? = some arr[base + i] := getElem?_pos arr (base + i) hlt
    have d : D arr[base + i].1 := hD _ (by simp)
    refine wpS_bind (tim_elem e ?_)
    unfold bey at hR
    rw [e] at hR
    cases left with
    | true => exact tim_lt C hk d hkey hR
    | false => exact wpS_bind (tim_lt C hk hkey d (wpS_pure hR))
  unfold gallop'
  refine wpS_bind (ask hint _ hh ?_)
  have anti : ∀ i j, i ≤ j → j < n → bey rk left key arr base i = false → bey rk left key arr base j = false := fun i j hij hj hf => by
    cases e : bey rk left key arr base j with
    | false => rfl
    | true => rw [mono i j hij hj e] at hf; exact hf
  have fin : ∀ (lo hi : Nat), lo ≤ hi → hi ≤ n → (∀ i, i < lo → bey rk left key arr base i = true) → (∀ i, hi ≤ i → i < n → bey rk left key arr base i = false) → ∀ m, lo ≤ m → m < hi → (bey rk left key arr base m = true → ∀ i, i < m + 1 → bey rk left key arr base i = true) ∧ (bey rk left key arr base m = false → ∀ i, m ≤ i → i < n → bey rk left key arr base i = false) := fun lo hi _ h2 _ _ m _ h6 =>
    ⟨fun e i hi' => mono i m (by omega) (by omega) e, fun e i h1 h2 => anti m i h1 h2 e⟩
  dsimp only
  cases hr : bey rk left key arr base hint with
  | true =>
    rw [if_pos rfl]
    refine wpS_bind (wpS_mono (wpS_forRange (I := fun x c st' => st' = st ∧ ∃ la o, c = (none, la, o) ∧ la < o ∧ x < o ∧ hint + la < n ∧ bey rk left key arr base (hint + la) = true)
      (Q := fun c st' => st' = st ∧ ∃ la o, c = (none, la, o) ∧ la < o ∧ hint + la < n ∧ bey rk left key arr base (hint + la) = true ∧ (n - hint ≤ o ∨ bey rk left key arr base (hint + o) = false)) ?step ?fin ⟨rfl, 0, 1, rfl, by omega, by omega, by omega, hr⟩) ?post)
    case fin =>
      rintro c st' ⟨rfl, la, o, rfl, h1, h2, h3, h4⟩
      exact ⟨rfl, la, o, rfl, h1, h3, h4, .inl (by omega)⟩
    case step =>
      rintro x c st' _ hx ⟨rfl, la, o, rfl, h1, h2, h3, h4⟩
      dsimp only
      by_cases ho : o ≥ n - hint
      · rw [if_pos ho]
        exact wpS_pure ⟨rfl, la, o, rfl, h1, h3, h4, .inl ho⟩
      · rw [if_neg ho]
        refine wpS_bind (ask (hint + o) _ (by omega) ?_)
        dsimp only
        cases hb : bey rk left key arr base (hint + o) with
        | true => exact wpS_pure ⟨rfl, o, 2 * o + 1, rfl, by omega, by omega, by omega, hb⟩
        | false => exact wpS_pure ⟨rfl, la, o, rfl, h1, h3, h4, .inr hb⟩
    case post =>
      rintro c st1 ⟨e1, la, o, rfl, h1, h3, h4, h5⟩
      rw [e1]
      clear e1 st1
      dsimp only
      have a1 : hint + la + 1 ≤ hint + min o (n - hint) := by omega
      have a2 : hint + min o (n - hint) ≤ n := by omega
      have a3 : ∀ i, i < hint + la + 1 → bey rk left key arr base i = true := fun i hi => mono i (hint + la) (by omega) h3 h4
      have a4 : ∀ i, hint + min o (n - hint) ≤ i → i < n → bey rk left key arr base i = false := fun i hi hn => by
        rcases h5 with h5 | h5
        · omega
        · by_cases q : o ≤ n - hint
          · exact anti (hint + o) i (by omega) hn h5
          · omega
      generalize hint + la + 1 = lo at *
      generalize hint + min o (n - hint) = hi at *
      refine wpS_bind (wpS_mono (wpS_forRange (I := fun x c st' => st' = st ∧ ∃ lo hi, c = (none, lo, hi) ∧ lo ≤ hi ∧ hi ≤ n ∧ hi - lo ≤ n - x ∧ (∀ i, i < lo → bey rk left key arr base i = true) ∧ (∀ i, hi ≤ i → i < n → bey rk left key arr base i = false))
        (Q := fun c st' => st' = st ∧ ∃ lo hi, c = (none, lo, hi) ∧ hi ≤ n ∧ (∀ i, i < hi → bey rk left key arr base i = true) ∧ (∀ i, hi ≤ i → i < n → bey rk left key arr base i = false)) ?stepT ?finT ⟨rfl, lo, hi, rfl, a1, a2, by omega, a3, a4⟩) ?postT)
      case finT =>
        rintro c st' ⟨rfl, lo, hi, rfl, b1, b2, b3, b4, b5⟩
        exact ⟨rfl, lo, hi, rfl, b2, fun i hi' => b4 i (by omega), b5⟩
      case stepT =>
        rintro x c st' _ hx ⟨rfl, lo, hi, rfl, b1, b2, b3, b4, b5⟩
        dsimp only
        by_cases hg : lo ≥ hi
        · rw [if_pos hg]
          exact wpS_pure ⟨rfl, lo, hi, rfl, b2, fun i hi' => b4 i (by omega), b5⟩
        · rw [if_neg hg]
          refine wpS_bind (ask (lo + (hi - lo) / 2) _ (by omega) ?_)
          dsimp only
          obtain ⟨f1, f2⟩ := fin lo hi b1 b2 b4 b5 (lo + (hi - lo) / 2) (by omega) (by omega)
          cases hb : bey rk left key arr base (lo + (hi - lo) / 2) with
          | true => exact wpS_pure ⟨rfl, lo + (hi - lo) / 2 + 1, hi, rfl, by omega, b2, by omega, f1 hb, b5⟩
          | false => exact wpS_pure ⟨rfl, lo, lo + (hi - lo) / 2, rfl, by omega, by omega, by omega, b4, f2 hb⟩
      case postT =>
        rintro c st' ⟨rfl, lo, hi, rfl, b2, b4, b5⟩
        exact wpS_pure (h hi b2 b4 b5)
  | false =>
    rw [if_neg (by simp)]
    refine wpS_bind (wpS_mono (wpS_forRange (I := fun x c st' => st' = st ∧ ∃ la o, c = (none, la, o) ∧ la < o ∧ x < o ∧ la ≤ hint ∧ bey rk left key arr base (hint - la) = false)
      (Q := fun c st' => st' = st ∧ ∃ la o, c = (none, la, o) ∧ la < o ∧ la ≤ hint ∧ bey rk left key arr base (hint - la) = false ∧ (hint + 1 ≤ o ∨ bey rk left key arr base (hint - o) = true)) ?step2 ?fin2 ⟨rfl, 0, 1, rfl, by omega, by omega, by omega, hr⟩) ?post2)
    case fin2 =>
      rintro c st' ⟨rfl, la, o, rfl, h1, h2, h3, h4⟩
      exact ⟨rfl, la, o, rfl, h1, h3, h4, .inl (by omega)⟩
    case step2 =>
      rintro x c st' _ hx ⟨rfl, la, o, rfl, h1, h2, h3, h4⟩
      dsimp only
      by_cases ho : o ≥ hint + 1
      · rw [if_pos ho]
        exact wpS_pure ⟨rfl, la, o, rfl, h1, h3, h4, .inl ho⟩
      · rw [if_neg ho]
        refine wpS_bind (ask (hint - o) _ (by omega) ?_)
        dsimp only
        cases hb : bey rk left key arr base (hint - o) with
        | true => exact wpS_pure ⟨rfl, la, o, rfl, h1, h3, h4, .inr hb⟩
        | false => exact wpS_pure ⟨rfl, o, 2 * o + 1, rfl, by omega, by omega, by omega, hb⟩
    case post2 =>
      rintro c st1 ⟨e1, la, o, rfl, h1, h3, h4, h5⟩
      rw [e1]
      clear e1 st1
      dsimp only
      have a1 : hint + 1 - min o (hint + 1) ≤ hint - la := by omega
      have a2 : hint - la ≤ n := by omega
      have a3 : ∀ i, i < hint + 1 - min o (hint + 1) → bey rk left key arr base i = true := fun i hi => by
        rcases h5 with h5 | h5
        · omega
        · exact mono i (hint - o) (by omega) (by omega) h5
      have a4 : ∀ i, hint - la ≤ i → i < n → bey rk left key arr base i = false := fun i hi hn => anti (hint - la) i hi hn h4
      generalize hint + 1 - min o (hint + 1) = lo at *
      generalize hint - la = hi at *
      refine wpS_bind (wpS_mono (wpS_forRange (I := fun x c st' => st' = st ∧ ∃ lo hi, c = (none, lo, hi) ∧ lo ≤ hi ∧ hi ≤ n ∧ hi - lo ≤ n - x ∧ (∀ i, i < lo → bey rk left key arr base i = true) ∧ (∀ i, hi ≤ i → i < n → bey rk left key arr base i = false))
        (Q := fun c st' => st' = st ∧ ∃ lo hi, c = (none, lo, hi) ∧ hi ≤ n ∧ (∀ i, i < hi → bey rk left key arr base i = true) ∧ (∀ i, hi ≤ i → i < n → bey rk left key arr base i = false)) ?stepU ?finU ⟨rfl, lo, hi, rfl, a1, a2, by omega, a3, a4⟩) ?postU)
      case finU =>
        rintro c st' ⟨rfl, lo, hi, rfl, b1, b2, b3, b4, b5⟩
        exact ⟨rfl, lo, hi, rfl, b2, fun i hi' => b4 i (by omega), b5⟩
      case stepU =>
        rintro x c st' _ hx ⟨rfl, lo, hi, rfl, b1, b2, b3, b4, b5⟩
        dsimp only
        by_cases hg : lo ≥ hi
        · rw [if_pos hg]
          exact wpS_pure ⟨rfl, lo, hi, rfl, b2, fun i hi' => b4 i (by omega), b5⟩
        · rw [if_neg hg]
          refine wpS_bind (ask (lo + (hi - lo) / 2) _ (by omega) ?_)
          dsimp only
          obtain ⟨f1, f2⟩ := fin lo hi b1 b2 b4 b5 (lo + (hi - lo) / 2) (by omega) (by omega)
          cases hb : bey rk left key arr base (lo + (hi - lo) / 2) with
          | true => exact wpS_pure ⟨rfl, lo + (hi - lo) / 2 + 1, hi, rfl, by omega, b2, by omega, f1 hb, b5⟩
          | false => exact wpS_pure ⟨rfl, lo, lo + (hi - lo) / 2, rfl, by omega, by omega, by omega, b4, f2 hb⟩
      case postU =>
        rintro c st' ⟨rfl, lo, hi, rfl, b2, b4, b5⟩
        exact wpS_pure (h hi b2 b4 b5)
end
end L2
set_option maxHeartbeats 4000000
namespace L2
open PySem PyProof.Rows
noncomputable def mergeLo' : Array Keyed → Array Keyed → StateT SortSt Sem (Array Keyed) := sortPriv% PySem.Builtin.mergeLo
noncomputable def SameS (st st' : SortSt) : Prop := kindOf st' = kindOf st ∧ arrOf st' = arrOf st ∧ pendingOf st' = pendingOf st ∧ failedOf st' = failedOf st
theorem tl_some {a : Array Keyed} {i : Nat} {p : Keyed} (h : a[i]? = some p) : a.toList[i]? = some p := by rw [Array.getElem?_toList]; exact h
theorem tl_part (a : Array Keyed) (i k : Nat) : (a.extract i (i + k)).toList = (a.toList.drop i).take k := by
  rw [Array.toList_extract, List.extract_eq_drop_take]
  congr 1
  omega
theorem tl_rest (a : Array Keyed) (i : Nat) : (a.extract i a.size).toList = a.toList.drop i := by
  rw [Array.toList_extract, List.extract_eq_drop_take]
  exact List.take_of_length_le (by simp)
section
variable {rk : Value → Nat} {a b : Array Keyed} {o : List Keyed} {ia ib k : Nat} {pa pb : Keyed}
theorem MLo.stB (m : MLo rk a.toList b.toList o ia ib) (ua : Up rk a.toList) (ub : Up rk b.toList) (hb : b[ib]? = some pb) (ha : a[ia]? = some pa) (h : rk pb.1 ≤ rk pa.1) : MLo rk a.toList b.toList (o ++ [pb]) ia (ib + 1) := by
  have q := m.chB (k := 1) ub (fun x hx y hy => by
    rw [take1 (tl_some hb)] at hx
    cases List.mem_singleton.mp hx
    exact Nat.le_trans h (up_from ua (tl_some ha) y hy))
  rw [take1 (tl_some hb)] at q
  exact q
theorem MLo.stA (m : MLo rk a.toList b.toList o ia ib) (ua : Up rk a.toList) (ub : Up rk b.toList) (hb : b[ib]? = some pb) (ha : a[ia]? = some pa) (h : rk pa.1 ≤ rk pb.1) : MLo rk a.toList b.toList (o ++ [pa]) (ia + 1) ib := by
  have q := m.chA (k := 1) ua (fun x hx y hy => by
    rw [take1 (tl_some ha)] at hx
    cases List.mem_singleton.mp hx
    exact Nat.le_trans h (up_from ub (tl_some hb) y hy))
  rw [take1 (tl_some ha)] at q
  exact q
theorem MLo.gaA (m : MLo rk a.toList b.toList o ia ib) (ua : Up rk a.toList) (ub : Up rk b.toList) (hb : b[ib]? = some pb) (h : ∀ i, i < k → bey rk false pb a ia i = true) : MLo rk a.toList b.toList (o ++ (a.extract ia (ia + k)).toList) (ia + k) ib := by
  rw [tl_part]
  refine m.chA ua fun x hx y hy => Nat.le_trans ?_ (up_from ub (tl_some hb) y hy)
  obtain ⟨j, hj, e⟩ := mem_chunk hx
  rw [Array.getElem?_toList] at e
  have q := h j hj
  unfold bey at q
  rw [e] at q
  simpa using q
theorem MLo.gaB (m : MLo rk a.toList b.toList o ia ib) (ua : Up rk a.toList) (ub : Up rk b.toList) (ha : a[ia]? = some pa) (h : ∀ i, i < k → bey rk true pa b ib i = true) : MLo rk a.toList b.toList (o ++ (b.extract ib (ib + k)).toList) ia (ib + k) := by
  rw [tl_part]
  refine m.chB ub fun x hx y hy => Nat.le_trans ?_ (up_from ua (tl_some ha) y hy)
  obtain ⟨j, hj, e⟩ := mem_chunk hx
  rw [Array.getElem?_toList] at e
  have q := h j hj
  unfold bey at q
  rw [e] at q
  exact Nat.le_of_lt (by simpa using q)
theorem bey_mono {left : Bool} {key : Keyed} {n : Nat} (u : Up rk a.toList) (hn : ia + n ≤ a.size) : ∀ i j, i ≤ j → j < n → bey rk left key a ia j = true → bey rk left key a ia i = true := fun i j hij hj h => by
  have hi' : ia + i < a.size := by omega
  have hj' : ia + j < a.size := by omega
  have ei : a[ia + i]? = some a[ia + i] := getElem?_pos a (ia + i) hi'
  have ej : a[ia + j]? = some a[ia + j] := getElem?_pos a (ia + j) hj'
  have le : rk a[ia + i].1 ≤ rk a[ia + j].1 := by
    refine up_from u (tl_some ei) _ ?_
    refine List.mem_iff_getElem?.mpr ⟨j - i, ?_⟩
    rw [List.getElem?_drop, show ia + i + (j - i) = ia + j by omega]
    exact tl_some ej
  unfold bey at h ⊢
  rw [ej] at h
  rw [ei]
  cases left with
  | true => simp only [if_true, decide_eq_true_eq] at h ⊢; omega
  | false => simp only [Bool.false_eq_true, if_false, Bool.not_eq_true', decide_eq_false_iff_not] at h ⊢; omega
end
section
variable {prog : Program} {w : World} {A : Around} {E : Value → Shared → Prop} {s : Shared} {kd : SortKind} {D : Value → Prop} {rk : Value → Nat}
inductive LoI1 (rk : Value → Nat) (a b : Array Keyed) (x : Nat) (c : Option (Array Keyed) × Array Keyed × Nat × Nat × Nat) : Prop
  | mk (o : Array Keyed) (ia ib mg : Nat) (hc : c = (none, o, ia, ib, mg)) (h0 : MLo rk a.toList b.toList o.toList ia ib) (h1 : ia + 1 < a.size) (h2 : ib < b.size) (h3 : x ≤ ia + ib) : LoI1 rk a b x c
inductive LoI2 (rk : Value → Nat) (a b : Array Keyed) (c : Option (Array Keyed) × Array Keyed × Nat × Nat × Nat) : Prop
  | mk (l o : Array Keyed) (ia ib mg : Nat) (hc : c = (some l, o, ia, ib, mg)) (h0 : Merged rk a.toList b.toList l.toList) : LoI2 rk a b c
inductive LoI3 (rk : Value → Nat) (a b : Array Keyed) (x : Nat) (y : Nat) (c : Option (Array Keyed) × Array Keyed × Nat × Nat × Nat × Nat) : Prop
  | mk (o : Array Keyed) (ia ib ac bc : Nat) (hc : c = (none, o, ia, ib, ac, bc)) (h0 : MLo rk a.toList b.toList o.toList ia ib) (h1 : ia + 1 < a.size) (h2 : ib < b.size) (h3 : x ≤ ia + ib) (h4 : y ≤ ia + ib) : LoI3 rk a b x y c
inductive LoI4 (rk : Value → Nat) (a b : Array Keyed) (c : Option (Array Keyed) × Array Keyed × Nat × Nat × Nat × Nat) : Prop
  | mk (l o : Array Keyed) (ia ib ac bc : Nat) (hc : c = (some l, o, ia, ib, ac, bc)) (h0 : Merged rk a.toList b.toList l.toList) : LoI4 rk a b c
inductive LoI5 (rk : Value → Nat) (a b : Array Keyed) (x : Nat) (c : Option (Array Keyed) × Array Keyed × Nat × Nat × Nat × Nat) : Prop
  | mk (o : Array Keyed) (ia ib ac bc : Nat) (hc : c = (none, o, ia, ib, ac, bc)) (h0 : MLo rk a.toList b.toList o.toList ia ib) (h1 : ia + 1 < a.size) (h2 : ib < b.size) (h3 : x + 1 ≤ ia + ib) : LoI5 rk a b x c
inductive LoI6 (rk : Value → Nat) (a b : Array Keyed) (x : Nat) (y : Nat) (c : Option (Array Keyed) × Array Keyed × Nat × Nat × Nat × Nat × Nat) : Prop
  | mk (o : Array Keyed) (ia ib mg ac bc : Nat) (hc : c = (none, o, ia, ib, mg, ac, bc)) (h0 : MLo rk a.toList b.toList o.toList ia ib) (h1 : ia + 1 < a.size) (h2 : ib < b.size) (h3 : x + 1 ≤ ia + ib) (h4 : y ≤ ia + ib) : LoI6 rk a b x y c
inductive LoI7 (rk : Value → Nat) (a b : Array Keyed) (c : Option (Array Keyed) × Array Keyed × Nat × Nat × Nat × Nat × Nat) : Prop
  | mk (l o : Array Keyed) (ia ib mg ac bc : Nat) (hc : c = (some l, o, ia, ib, mg, ac, bc)) (h0 : Merged rk a.toList b.toList l.toList) : LoI7 rk a b c
inductive LoI8 (rk : Value → Nat) (a b : Array Keyed) (x : Nat) (c : Option (Array Keyed) × Array Keyed × Nat × Nat × Nat × Nat × Nat) : Prop
  | mk (o : Array Keyed) (ia ib mg ac bc : Nat) (hc : c = (none, o, ia, ib, mg, ac, bc)) (h0 : MLo rk a.toList b.toList o.toList ia ib) (h1 : ia + 1 < a.size) (h2 : ib < b.size) (h3 : x + 1 ≤ ia + ib) : LoI8 rk a b x c
theorem tim_mergeLo (C : Cmp prog w A s kd D rk) {st : SortSt} {a b : Array Keyed} {Q : Array Keyed → SortSt → Prop} (hk : kindOf st = kd) (hDa : ∀ p ∈ a.toList, D p.1) (hDb : ∀ p ∈ b.toList, D p.1) (ua : Up rk a.toList) (ub : Up rk b.toList) {b0 a0 : Keyed} {n : Nat} {al : Keyed}
    (hb0 : b[0]? = some b0) (ha0 : a[0]? = some a0) (hlt : rk b0.1 ≤ rk a0.1) (hn : a.size = n + 1) (hal : a[n]? = some al) (hlast : ∀ x ∈ b.toList, rk x.1 ≤ rk al.1)
    (h : ∀ l st', SameS st st' → Merged rk a.toList b.toList l.toList → Q l st') : wpS (model prog w) A E s (mergeLo' a b) Q st := by
  have atA : ∀ {i : Nat}, i < a.size → ∃ p, a[i]? = some p ∧ D p.1 := fun {i} hi => ⟨a[i], getElem?_pos a i hi, hDa _ (by simp)⟩
  have atB : ∀ {i : Nat}, i < b.size → ∃ p, b[i]? = some p ∧ D p.1 := fun {i} hi => ⟨b[i], getElem?_pos b i hi, hDb _ (by simp)⟩
  have hbs : 0 < b.size := by
    cases e : b.size with
    | zero => rw [Array.getElem?_eq_none (by omega)] at hb0; cases hb0
    | succ m => omega
  have m1 : MLo rk a.toList b.toList [b0] 0 1 := by simpa using MLo.start.stB ua ub hb0 ha0 hlt
  have dn : ∀ {o : Array Keyed} {ia ib : Nat}, MLo rk a.toList b.toList o.toList ia ib → (ib = b.size ∨ ia = a.size) → Merged rk a.toList b.toList (o ++ a.extract ia a.size ++ b.extract ib b.size).toList := fun {o ia ib} m hh => by
    rw [Array.toList_append, Array.toList_append, tl_rest, tl_rest]
    exact m.doneB ua ub (by rcases hh with rfl | rfl; exact .inl (by simp); exact .inr (by simp))
  have lA : ∀ {o : Array Keyed} {ia ib : Nat}, MLo rk a.toList b.toList o.toList ia ib → ia + 1 = a.size → Merged rk a.toList b.toList (o ++ b.extract ib b.size ++ a.extract ia a.size).toList := fun {o ia ib} m hh => by
    rw [Array.toList_append, Array.toList_append, tl_rest, tl_rest]
    refine m.doneA ua ub fun x hx y hy => Nat.le_trans (hlast x hx) ?_
    obtain rfl : ia = n := by omega
    exact up_from ua (tl_some hal) y hy
  have nx : ∀ {ia k : Nat} {pb : Keyed}, ia + k < a.size → bey rk false pb a ia k = false → ∃ pa, a[ia + k]? = some pa ∧ D pa.1 ∧ rk pb.1 ≤ rk pa.1 := fun {ia k pb} hlt e => by
    obtain ⟨pa, hpa, dpa⟩ := atA hlt
    unfold bey at e
    rw [hpa] at e
    simp at e
    exact ⟨pa, hpa, dpa, by omega⟩
  have ny : ∀ {ib k : Nat} {pa : Keyed}, ib + k < b.size → bey rk true pa b ib k = false → ∃ pc, b[ib + k]? = some pc ∧ rk pa.1 ≤ rk pc.1 := fun {ib k pa} hlt e => by
    obtain ⟨pc, hpc, _⟩ := atB hlt
    unfold bey at e
    rw [hpc] at e
    simp at e
    exact ⟨pc, hpc, by omega⟩
  unfold mergeLo'
  refine wpS_bind (wpS_lift (wpAny_rule ⟨rfl, ?_⟩))
  refine wpS_bind (tim_elem hb0 ?_)
  have hm1 : MLo rk a.toList b.toList (#[b0] : Array Keyed).toList 0 1 := m1
  by_cases h1 : (1 == b.size) = true
  · first | refine wpS_yes h1 ?_ | rw [if_pos h1]
    exact wpS_pure (h _ _ ⟨rfl, rfl, rfl, rfl⟩ (dn hm1 (.inl (beq_iff_eq.mp h1))))
  first | refine wpS_no h1 ?_ | rw [if_neg h1]
  by_cases h2 : (0 + 1 == a.size) = true
  · first | refine wpS_yes h2 ?_ | rw [if_pos h2]
    exact wpS_pure (h _ _ ⟨rfl, rfl, rfl, rfl⟩ (lA hm1 (beq_iff_eq.mp h2)))
  first | refine wpS_no h2 ?_ | rw [if_neg h2]
  have h1' : 1 < b.size := by have : ¬ 1 = b.size := fun z => h1 (beq_iff_eq.mpr z); omega
  have h2' : 0 + 1 < a.size := by have : ¬ 0 + 1 = a.size := fun z => h2 (beq_iff_eq.mpr z); omega
  refine wpS_bind (wpS_get ?_)
  refine wpS_bind (wpS_mono (wpS_forRange (I := fun x c st' => SameS st st' ∧ LoI1 rk a b x c)
    (Q := fun c st' => SameS st st' ∧ LoI2 rk a b c) ?step ?fin ⟨⟨rfl, rfl, rfl, rfl⟩, _, 0, 1, _, rfl, hm1, h2', h1', by omega⟩) ?post)
  case fin =>
    rintro c st' ⟨_, o, ia, ib, mg, rfl, m, b1, b2, b3⟩
    omega
  case post =>
    rintro c st' ⟨sm, l, o, ia, ib, mg, rfl, m⟩
    exact wpS_pure (h l st' sm m)
  case step =>
    rintro x c st1 _ hx ⟨sm, o, ia, ib, mg, rfl, m, b1, b2, b3⟩
    refine wpS_bind (wpS_mono (wpS_forRange (I := fun y c st' => st' = st1 ∧ LoI3 rk a b x y c)
      (Q := fun c st' => st' = st1 ∧ (LoI4 rk a b c ∨ LoI5 rk a b x c)) ?step1 ?fin1 ⟨rfl, o, ia, ib, 0, 0, rfl, m, b1, b2, b3, by omega⟩) ?post1)
    case fin1 =>
      rintro c st' ⟨_, o, ia, ib, ac, bc, rfl, m, b1, b2, b3, b4⟩
      omega
    case step1 =>
      rintro y c st2 _ hy ⟨e2, o, ia, ib, ac, bc, rfl, m, b1, b2, b3, b4⟩
      rw [e2]
      clear e2
      dsimp only
      obtain ⟨pb, hpb, dpb⟩ := atB b2
      obtain ⟨pa, hpa, dpa⟩ := atA (i := ia) (by omega)
      refine wpS_bind (tim_elem hpb (wpS_bind (tim_elem hpa (wpS_bind (tim_lt C (sm.1.trans hk) dpb dpa ?_)))))
      by_cases hw : rk pb.1 < rk pa.1
      · first | refine wpS_yes (decide_eq_true hw) ?_ | rw [if_pos (decide_eq_true hw)]
        refine wpS_bind (tim_elem hpb ?_)
        have m' : MLo rk a.toList b.toList (o.push pb).toList ia (ib + 1) := by rw [Array.toList_push]; exact m.stB ua ub hpb hpa (Nat.le_of_lt hw)
        by_cases g1 : (ib + 1 == b.size) = true
        · first | refine wpS_yes g1 ?_ | rw [if_pos g1]
          exact wpS_pure ⟨rfl, .inl ⟨_, _, _, _, _, _, rfl, dn m' (.inl (beq_iff_eq.mp g1))⟩⟩
        · first | refine wpS_no g1 ?_ | rw [if_neg g1]
          have g1' : ib + 1 < b.size := by have : ¬ ib + 1 = b.size := fun z => g1 (beq_iff_eq.mpr z); omega
          by_cases g2 : bc + 1 ≥ mg
          · first | refine wpS_yes g2 ?_ | rw [if_pos g2]
            exact wpS_pure ⟨rfl, .inr ⟨_, _, _, _, _, rfl, m', b1, g1', by omega⟩⟩
          · first | refine wpS_no g2 ?_ | rw [if_neg g2]
            exact wpS_pure ⟨rfl, _, _, _, _, _, rfl, m', b1, g1', by omega, by omega⟩
      · first | refine wpS_no (by rw [decide_eq_false hw]; exact Bool.false_ne_true) ?_ | rw [if_neg (by rw [decide_eq_false hw]; exact Bool.false_ne_true)]
        refine wpS_bind (tim_elem hpa ?_)
        have m' : MLo rk a.toList b.toList (o.push pa).toList (ia + 1) ib := by rw [Array.toList_push]; exact m.stA ua ub hpb hpa (by omega)
        by_cases g1 : (ia + 1 + 1 == a.size) = true
        · first | refine wpS_yes g1 ?_ | rw [if_pos g1]
          exact wpS_pure ⟨rfl, .inl ⟨_, _, _, _, _, _, rfl, lA m' (beq_iff_eq.mp g1)⟩⟩
        · first | refine wpS_no g1 ?_ | rw [if_neg g1]
          have g1' : ia + 1 + 1 < a.size := by have : ¬ ia + 1 + 1 = a.size := fun z => g1 (beq_iff_eq.mpr z); omega
          by_cases g2 : ac + 1 ≥ mg
          · first | refine wpS_yes g2 ?_ | rw [if_pos g2]
            exact wpS_pure ⟨rfl, .inr ⟨_, _, _, _, _, rfl, m', g1', b2, by omega⟩⟩
          · first | refine wpS_no g2 ?_ | rw [if_neg g2]
            exact wpS_pure ⟨rfl, _, _, _, _, _, rfl, m', g1', b2, by omega, by omega⟩
    case post1 =>
      clear m b1 b2 b3
      rintro c st2 ⟨e2, ⟨l, o, ia, ib, ac, bc, rfl, m⟩ | ⟨o, ia, ib, ac, bc, rfl, m, b1, b2, b3⟩⟩
      · rw [e2]
        exact wpS_pure ⟨sm, l, _, _, _, _, rfl, m⟩
      rw [e2]
      clear e2
      refine wpS_bind (wpS_lift (wpAny_rule ⟨rfl, ?_⟩))
      refine wpS_bind (wpS_mono (wpS_forRange (I := fun y c st' => SameS st st' ∧ LoI6 rk a b x y c)
        (Q := fun c st' => SameS st st' ∧ (LoI7 rk a b c ∨ LoI8 rk a b x c)) ?step3 ?fin3 ⟨sm, o, ia, ib, _, _, _, rfl, m, b1, b2, b3, by omega⟩) ?post3)
      case fin3 =>
        rintro c st' ⟨_, o, ia, ib, mg, ac, bc, rfl, m, b1, b2, b3, b4⟩
        omega
      case post3 =>
        clear m b1 b2 b3
        rintro c st2 ⟨sm, ⟨l, o, ia, ib, mg, ac, bc, rfl, m⟩ | ⟨o, ia, ib, mg, ac, bc, rfl, m, b1, b2, b3⟩⟩
        · exact wpS_pure ⟨sm, l, _, _, _, _, rfl, m⟩
        · exact wpS_bind (wpS_modify (wpS_pure ⟨sm, _, _, _, _, rfl, m, b1, b2, b3⟩))
      case step3 =>
        clear m b1 b2 b3
        rintro y c st2 _ hy ⟨sm2, o, ia, ib, mg2, ac, bc, rfl, m, b1, b2, b3, b4⟩
        dsimp only
        obtain ⟨pb, hpb, dpb⟩ := atB b2
        apply both
        · intro key
          by_cases hg : mg2 > 1
          · rw [if_pos hg]
            generalize mg2 - 1 = mg3
            revert mg3
            exact key.out
          · rw [if_neg hg]
            exact key.out mg2
        · intro mg3
          refine wpS_bind (wpS_modify (wpS_bind (tim_elem hpb ?_)))
          refine wpS_bind (tim_gallop C (sm2.1.trans hk) dpb (by omega) hDa (by omega) (bey_mono ua (by omega)) fun k k1 k2 k3 => ?_)
          apply both
          ·intro key
           have mk := m.gaA ua ub hpb k2
           rw [← Array.toList_append] at mk
           by_cases hk0 : k > 0
           case' pos =>
            first | refine wpS_yes hk0 ?_ | rw [if_pos hk0]
            by_cases g1 : (ia + k + 1 == a.size) = true
            case pos =>
              first | refine wpS_yes g1 ?_ | rw [if_pos g1]
              exact wpS_pure ⟨sm2, .inl ⟨_, _, _, _, _, _, _, rfl, lA mk (beq_iff_eq.mp g1)⟩⟩
            first | refine wpS_no g1 ?_ | rw [if_neg g1]
            by_cases g2 : (ia + k == a.size) = true
            case pos =>
              first | refine wpS_yes g2 ?_ | rw [if_pos g2]
              exact wpS_pure ⟨sm2, .inl ⟨_, _, _, _, _, _, _, rfl, dn mk (.inr (beq_iff_eq.mp g2))⟩⟩
            first | refine wpS_no g2 ?_ | rw [if_neg g2]
            have c1 : ia + k + 1 < a.size := by
              have : ¬ ia + k + 1 = a.size := fun z => g1 (beq_iff_eq.mpr z)
              have : ¬ ia + k = a.size := fun z => g2 (beq_iff_eq.mpr z)
              omega
            have hp : ∃ pa, a[ia + k]? = some pa ∧ D pa.1 ∧ rk pb.1 ≤ rk pa.1 := nx (by omega) (k3 k (Nat.le_refl _) (by omega))
            have b5 : x + 1 ≤ ia + k + ib := by omega
            have b6 : y ≤ ia + k + ib := by omega
            revert mk c1 hp b5 b6
            generalize o ++ a.extract ia (ia + k) = o2
            generalize ia + k = i2
            revert o2 i2
            exact key.out
           case' neg =>
            first | refine wpS_no hk0 ?_ | rw [if_neg hk0]
            obtain rfl : k = 0 := by omega
            have c1 : ia + 1 < a.size := b1
            have hp : ∃ pa, a[ia]? = some pa ∧ D pa.1 ∧ rk pb.1 ≤ rk pa.1 := nx (by omega) (k3 0 (Nat.le_refl _) (by omega))
            have b5 : x + 1 ≤ ia + ib := b3
            have b6 : y ≤ ia + ib := b4
            exact key.out o ia m c1 hp b5 b6
          · intro o2 i2 mk c1 hp b5 b6
            clear m b1 b3 b4 k1 k2 k3
            obtain ⟨pa, hpa, dpa, hle⟩ := hp
            refine wpS_bind (tim_elem hpb ?_)
            have m' : MLo rk a.toList b.toList (o2.push pb).toList i2 (ib + 1) := by rw [Array.toList_push]; exact mk.stB ua ub hpb hpa hle
            by_cases g3 : (ib + 1 == b.size) = true
            case pos =>
              first | refine wpS_yes g3 ?_ | rw [if_pos g3]
              exact wpS_pure ⟨sm2, .inl ⟨_, _, _, _, _, _, _, rfl, dn m' (.inl (beq_iff_eq.mp g3))⟩⟩
            first | refine wpS_no g3 ?_ | rw [if_neg g3]
            have g3' : ib + 1 < b.size := by have : ¬ ib + 1 = b.size := fun z => g3 (beq_iff_eq.mpr z); omega
            refine wpS_bind (tim_elem hpa ?_)
            refine wpS_bind (tim_gallop C (sm2.1.trans hk) dpa (by omega) hDb (by omega) (bey_mono ub (by omega)) fun j j1 j2 j3 => ?_)
            apply both
            ·intro key
             have mj := m'.gaB ua ub hpa j2
             rw [← Array.toList_append] at mj
             by_cases hj0 : j > 0
             case' pos =>
              first | refine wpS_yes hj0 ?_ | rw [if_pos hj0]
              by_cases g4 : (ib + 1 + j == b.size) = true
              case pos =>
                first | refine wpS_yes g4 ?_ | rw [if_pos g4]
                exact wpS_pure ⟨sm2, .inl ⟨_, _, _, _, _, _, _, rfl, dn mj (.inl (beq_iff_eq.mp g4))⟩⟩
              first | refine wpS_no g4 ?_ | rw [if_neg g4]
              have c2 : ib + 1 + j < b.size := by
                have : ¬ ib + 1 + j = b.size := fun z => g4 (beq_iff_eq.mpr z)
                omega
              have hq : ∃ pc, b[ib + 1 + j]? = some pc ∧ rk pa.1 ≤ rk pc.1 := ny c2 (j3 j (Nat.le_refl _) (by omega))
              have b7 : ib < ib + 1 + j := by omega
              revert mj c2 hq b7
              generalize (o2.push pb) ++ b.extract (ib + 1) (ib + 1 + j) = o3
              generalize ib + 1 + j = i3
              revert o3 i3
              exact key.out
             case' neg =>
              first | refine wpS_no hj0 ?_ | rw [if_neg hj0]
              obtain rfl : j = 0 := by omega
              have c2 : ib + 1 < b.size := g3'
              have hq : ∃ pc, b[ib + 1]? = some pc ∧ rk pa.1 ≤ rk pc.1 := ny c2 (j3 0 (Nat.le_refl _) (by omega))
              have b7 : ib < ib + 1 := by omega
              exact key.out _ _ m' c2 hq b7
            · intro o3 i3 mj c2 hq b7
              clear j1 j2 j3
              obtain ⟨pc, hpc, hle2⟩ := hq
              refine wpS_bind (tim_elem hpa ?_)
              have m4 : MLo rk a.toList b.toList (o3.push pa).toList (i2 + 1) i3 := by rw [Array.toList_push]; exact mj.stA ua ub hpc hpa hle2
              by_cases g5 : (i2 + 1 + 1 == a.size) = true
              case pos =>
                first | refine wpS_yes g5 ?_ | rw [if_pos g5]
                exact wpS_pure ⟨sm2, .inl ⟨_, _, _, _, _, _, _, rfl, lA m4 (beq_iff_eq.mp g5)⟩⟩
              first | refine wpS_no g5 ?_ | rw [if_neg g5]
              have g5' : i2 + 1 + 1 < a.size := by have : ¬ i2 + 1 + 1 = a.size := fun z => g5 (beq_iff_eq.mpr z); omega
              split
              · exact wpS_pure ⟨sm2, .inr ⟨_, _, _, _, _, _, rfl, m4, g5', c2, by omega⟩⟩
              · exact wpS_pure ⟨sm2, _, _, _, _, _, _, rfl, m4, g5', c2, by omega, by omega⟩
end
end L2
set_option maxHeartbeats 4000000
namespace L2
open PySem PyProof.Rows
noncomputable def mergeHi' : Array Keyed → Array Keyed → StateT SortSt Sem (Array Keyed) := sortPriv% PySem.Builtin.mergeHi
structure MHi (rk : Value → Nat) (la lb o : List Keyed) (na nb : Nat) : Prop where
  perm : (la.take na ++ lb.take nb ++ o).Perm (la ++ lb)
  up : Up rk o
  hig : ∀ x ∈ la.take na ++ lb.take nb, ∀ y ∈ o, rk x.1 ≤ rk y.1
section
variable {rk : Value → Nat} {la lb o : List Keyed} {na nb k : Nat}
theorem MHi.start : MHi rk la lb [] la.length lb.length := ⟨by simp, .nil, fun x _ y h => nomatch h⟩
theorem cut_take (l : List Keyed) (n : Nat) (h : k ≤ n) : l.take n = l.take k ++ (l.take n).drop k := by
  have e : (l.take n).take k = l.take k := by rw [List.take_take]; congr 1; omega
  rw [← e]
  exact (List.take_append_drop k _).symm
theorem MHi.chA (m : MHi rk la lb o na nb) (hk : k ≤ na) (ha : Up rk la) (h : ∀ x ∈ lb.take nb, ∀ y ∈ (la.take na).drop k, rk x.1 ≤ rk y.1) : MHi rk la lb ((la.take na).drop k ++ o) k nb := by
  have e := cut_take la na hk
  have hd : Up rk (la.take k ++ (la.take na).drop k) := by rw [← e]; exact List.Pairwise.sublist (List.take_sublist _ _) ha
  obtain ⟨h1, h2, h3⟩ := List.pairwise_append.mp hd
  refine ⟨?_, ?_, ?_⟩
  · have p := m.perm
    rw [e] at p
    refine List.Perm.trans ?_ p
    rw [← List.append_assoc]
    refine List.Perm.append_right _ ?_
    rw [List.append_assoc, List.append_assoc]
    exact List.Perm.append_left _ List.perm_append_comm
  · exact List.pairwise_append.mpr ⟨h2, m.up, fun x hx y hy => m.hig x (List.mem_append_left _ (by rw [e]; exact List.mem_append_right _ hx)) y hy⟩
  · intro x hx y hy
    rcases List.mem_append.mp hy with hy | hy
    · rcases List.mem_append.mp hx with hx | hx
      · exact h3 x hx y hy
      · exact h x hx y hy
    · refine m.hig x ?_ y hy
      rcases List.mem_append.mp hx with hx | hx
      · rw [e]; exact List.mem_append_left _ (List.mem_append_left _ hx)
      · exact List.mem_append_right _ hx
theorem MHi.chB (m : MHi rk la lb o na nb) (hk : k ≤ nb) (hb : Up rk lb) (h : ∀ x ∈ la.take na, ∀ y ∈ (lb.take nb).drop k, rk x.1 ≤ rk y.1) : MHi rk la lb ((lb.take nb).drop k ++ o) na k := by
  have e := cut_take lb nb hk
  have hd : Up rk (lb.take k ++ (lb.take nb).drop k) := by rw [← e]; exact List.Pairwise.sublist (List.take_sublist _ _) hb
  obtain ⟨h1, h2, h3⟩ := List.pairwise_append.mp hd
  refine ⟨?_, ?_, ?_⟩
  · have p := m.perm
    rw [e] at p
    simpa [List.append_assoc] using p
  · exact List.pairwise_append.mpr ⟨h2, m.up, fun x hx y hy => m.hig x (List.mem_append_right _ (by rw [e]; exact List.mem_append_right _ hx)) y hy⟩
  · intro x hx y hy
    rcases List.mem_append.mp hy with hy | hy
    · rcases List.mem_append.mp hx with hx | hx
      · exact h x hx y hy
      · exact h3 x hx y hy
    · refine m.hig x ?_ y hy
      rcases List.mem_append.mp hx with hx | hx
      · exact List.mem_append_left _ hx
      · rw [e]; exact List.mem_append_right _ (List.mem_append_left _ hx)
theorem MHi.doneA (m : MHi rk la lb o na nb) (ha : Up rk la) (hb : Up rk lb) (h : na = 0 ∨ nb = 0) : Merged rk la lb (la.take na ++ lb.take nb ++ o) := by
  refine ⟨m.perm, List.pairwise_append.mpr ⟨?_, m.up, m.hig⟩⟩
  rcases h with rfl | rfl
  · simpa using List.Pairwise.sublist (List.take_sublist _ _) hb
  · simpa using List.Pairwise.sublist (List.take_sublist _ _) ha
theorem MHi.doneB (m : MHi rk la lb o na nb) (ha : Up rk la) (hb : Up rk lb) (h : ∀ x ∈ lb.take nb, ∀ y ∈ la, rk x.1 ≤ rk y.1) : Merged rk la lb (lb.take nb ++ la.take na ++ o) := by
  refine ⟨List.Perm.trans (List.Perm.append_right _ List.perm_append_comm) m.perm, List.pairwise_append.mpr ⟨?_, m.up, fun x hx y hy => m.hig x ?_ y hy⟩⟩
  · exact List.pairwise_append.mpr ⟨List.Pairwise.sublist (List.take_sublist _ _) hb, List.Pairwise.sublist (List.take_sublist _ _) ha, fun x hx y hy => h x hx y (List.mem_of_mem_take hy)⟩
  · rcases List.mem_append.mp hx with hx | hx
    · exact List.mem_append_right _ hx
    · exact List.mem_append_left _ hx
theorem last1 {l : List Keyed} {i : Nat} {p : Keyed} (h : l[i]? = some p) : (l.take (i + 1)).drop i = [p] := by
  obtain ⟨hi, rfl⟩ := List.getElem?_eq_some_iff.mp h
  rw [List.take_succ_eq_append_getElem hi, List.drop_append_of_le_length (by simp; omega), List.drop_eq_nil_of_le (by rw [List.length_take]; omega)]
  rfl
theorem up_to {l : List Keyed} {i : Nat} {p : Keyed} (u : Up rk l) (h : l[i]? = some p) : ∀ y ∈ l.take (i + 1), rk y.1 ≤ rk p.1 := by
  have e := cut_take (k := i) l (i + 1) (by omega)
  rw [last1 h] at e
  have u' : Up rk (l.take i ++ [p]) := by rw [← e]; exact List.Pairwise.sublist (List.take_sublist _ _) u
  intro y hy
  rw [e] at hy
  rcases List.mem_append.mp hy with hy | hy
  · exact (List.pairwise_append.mp u').2.2 y hy p (by simp)
  · cases List.mem_singleton.mp hy
    exact Nat.le_refl _
theorem mem_take {l : List Keyed} {n : Nat} {x : Keyed} (h : x ∈ l.take n) : ∃ j, j < n ∧ l[j]? = some x := by
  have := mem_chunk (l := l) (i := 0) (k := n) (by simpa using h)
  simpa using this
theorem mem_td {l : List Keyed} {n k : Nat} {x : Keyed} (h : x ∈ (l.take n).drop k) : ∃ j, k ≤ j ∧ j < n ∧ l[j]? = some x := by
  obtain ⟨j, hj⟩ := List.mem_iff_getElem?.mp h
  rw [List.getElem?_drop] at hj
  have hlt : k + j < n := by
    have := (List.getElem?_eq_some_iff.mp hj).1
    rw [List.length_take] at this
    omega
  rw [List.getElem?_take_of_lt hlt] at hj
  exact ⟨k + j, by omega, hlt, hj⟩
end
theorem tl_first (a : Array Keyed) (n : Nat) : (a.extract 0 n).toList = a.toList.take n := by
  rw [Array.toList_extract, List.extract_eq_drop_take]
  simp
theorem tl_mid (a : Array Keyed) (k n : Nat) : (a.extract k n).toList = (a.toList.take n).drop k := by
  rw [Array.toList_extract, List.extract_eq_drop_take, List.drop_take]
section
variable {rk : Value → Nat} {a b : Array Keyed} {o : List Keyed} {na nb k : Nat} {pa pb : Keyed}
theorem MHi.stA (m : MHi rk a.toList b.toList o (na + 1) nb) (ua : Up rk a.toList) (ha : a[na]? = some pa) (h : ∀ x ∈ b.toList.take nb, rk x.1 ≤ rk pa.1) : MHi rk a.toList b.toList (pa :: o) na nb := by
  have q := m.chA (k := na) (by omega) ua (fun x hx y hy => by
    rw [last1 (tl_some ha)] at hy
    cases List.mem_singleton.mp hy
    exact h x hx)
  rw [last1 (tl_some ha)] at q
  exact q
theorem MHi.stB (m : MHi rk a.toList b.toList o na (nb + 1)) (ub : Up rk b.toList) (hb : b[nb]? = some pb) (h : ∀ x ∈ a.toList.take na, rk x.1 ≤ rk pb.1) : MHi rk a.toList b.toList (pb :: o) na nb := by
  have q := m.chB (k := nb) (by omega) ub (fun x hx y hy => by
    rw [last1 (tl_some hb)] at hy
    cases List.mem_singleton.mp hy
    exact h x hx)
  rw [last1 (tl_some hb)] at q
  exact q
theorem bey_false_le {left : Bool} {i : Nat} {p key : Keyed} (hp : a[i]? = some p) (h : bey rk left key a 0 i = false) : rk key.1 ≤ rk p.1 := by
  unfold bey at h
  rw [Nat.zero_add, hp] at h
  cases left with
  | true => simpa using h
  | false => exact Nat.le_of_lt (by simpa using h)
theorem bey_true_le {left : Bool} {i : Nat} {p key : Keyed} (hp : a[i]? = some p) (h : bey rk left key a 0 i = true) : rk p.1 ≤ rk key.1 := by
  unfold bey at h
  rw [Nat.zero_add, hp] at h
  cases left with
  | true => exact Nat.le_of_lt (by simpa using h)
  | false => simpa using h
theorem MHi.gaA (m : MHi rk a.toList b.toList o na nb) (hkn : k ≤ na) (ua : Up rk a.toList) (h : ∀ i, k ≤ i → i < na → bey rk false pb a 0 i = false) (hb : ∀ x ∈ b.toList.take nb, rk x.1 ≤ rk pb.1) : MHi rk a.toList b.toList ((a.extract k na).toList ++ o) k nb := by
  rw [tl_mid]
  refine m.chA hkn ua fun x hx y hy => Nat.le_trans (hb x hx) ?_
  obtain ⟨j, h1, h2, e⟩ := mem_td hy
  rw [Array.getElem?_toList] at e
  exact bey_false_le e (h j h1 h2)
theorem MHi.gaB (m : MHi rk a.toList b.toList o na nb) (hkn : k ≤ nb) (ub : Up rk b.toList) (h : ∀ i, k ≤ i → i < nb → bey rk true pa b 0 i = false) (ha : ∀ x ∈ a.toList.take na, rk x.1 ≤ rk pa.1) : MHi rk a.toList b.toList ((b.extract k nb).toList ++ o) na k := by
  rw [tl_mid]
  refine m.chB hkn ub fun x hx y hy => Nat.le_trans (ha x hx) ?_
  obtain ⟨j, h1, h2, e⟩ := mem_td hy
  rw [Array.getElem?_toList] at e
  exact bey_false_le e (h j h1 h2)
theorem bey_take {left : Bool} {key : Keyed} (h : ∀ i, i < k → bey rk left key a 0 i = true) : ∀ x ∈ a.toList.take k, rk x.1 ≤ rk key.1 := fun x hx => by
  obtain ⟨j, h1, e⟩ := mem_take hx
  rw [Array.getElem?_toList] at e
  exact bey_true_le e (h j h1)
end
section
variable {prog : Program} {w : World} {A : Around} {E : Value → Shared → Prop} {s : Shared} {kd : SortKind} {D : Value → Prop} {rk : Value → Nat}
inductive HiI1 (rk : Value → Nat) (a b : Array Keyed) (x : Nat) (c : Option (Array Keyed) × Nat × Nat × Array Keyed × Nat) : Prop
  | mk (na nb : Nat) (o : Array Keyed) (mg : Nat) (hc : c = (none, na, nb, o, mg)) (h0 : MHi rk a.toList b.toList o.toList.reverse na nb) (h1 : 0 < na) (h2 : na < a.size) (h3 : 1 < nb) (h4 : nb ≤ b.size) (h5 : x + na + nb ≤ a.size + b.size) : HiI1 rk a b x c
inductive HiI2 (rk : Value → Nat) (a b : Array Keyed) (c : Option (Array Keyed) × Nat × Nat × Array Keyed × Nat) : Prop
  | mk (l : Array Keyed) (na nb : Nat) (o : Array Keyed) (mg : Nat) (hc : c = (some l, na, nb, o, mg)) (h0 : Merged rk a.toList b.toList l.toList) : HiI2 rk a b c
inductive HiI3 (rk : Value → Nat) (a b : Array Keyed) (x : Nat) (y : Nat) (c : Option (Array Keyed) × Nat × Nat × Array Keyed × Nat × Nat) : Prop
  | mk (na nb : Nat) (o : Array Keyed) (ac bc : Nat) (hc : c = (none, na, nb, o, ac, bc)) (h0 : MHi rk a.toList b.toList o.toList.reverse na nb) (h1 : 0 < na) (h2 : na < a.size) (h3 : 1 < nb) (h4 : nb ≤ b.size) (h5 : x + na + nb ≤ a.size + b.size) (h6 : y + na + nb ≤ a.size + b.size) : HiI3 rk a b x y c
inductive HiI4 (rk : Value → Nat) (a b : Array Keyed) (c : Option (Array Keyed) × Nat × Nat × Array Keyed × Nat × Nat) : Prop
  | mk (l : Array Keyed) (na nb : Nat) (o : Array Keyed) (ac bc : Nat) (hc : c = (some l, na, nb, o, ac, bc)) (h0 : Merged rk a.toList b.toList l.toList) : HiI4 rk a b c
inductive HiI5 (rk : Value → Nat) (a b : Array Keyed) (x : Nat) (c : Option (Array Keyed) × Nat × Nat × Array Keyed × Nat × Nat) : Prop
  | mk (na nb : Nat) (o : Array Keyed) (ac bc : Nat) (hc : c = (none, na, nb, o, ac, bc)) (h0 : MHi rk a.toList b.toList o.toList.reverse na nb) (h1 : 0 < na) (h2 : na < a.size) (h3 : 1 < nb) (h4 : nb ≤ b.size) (h5 : x + 1 + na + nb ≤ a.size + b.size) : HiI5 rk a b x c
inductive HiI6 (rk : Value → Nat) (a b : Array Keyed) (x : Nat) (y : Nat) (c : Option (Array Keyed) × Nat × Nat × Array Keyed × Nat × Nat × Nat) : Prop
  | mk (na nb : Nat) (o : Array Keyed) (mg ac bc : Nat) (hc : c = (none, na, nb, o, mg, ac, bc)) (h0 : MHi rk a.toList b.toList o.toList.reverse na nb) (h1 : 0 < na) (h2 : na < a.size) (h3 : 1 < nb) (h4 : nb ≤ b.size) (h5 : x + 1 + na + nb ≤ a.size + b.size) (h6 : y + na + nb ≤ a.size + b.size) : HiI6 rk a b x y c
inductive HiI7 (rk : Value → Nat) (a b : Array Keyed) (c : Option (Array Keyed) × Nat × Nat × Array Keyed × Nat × Nat × Nat) : Prop
  | mk (l : Array Keyed) (na nb : Nat) (o : Array Keyed) (mg ac bc : Nat) (hc : c = (some l, na, nb, o, mg, ac, bc)) (h0 : Merged rk a.toList b.toList l.toList) : HiI7 rk a b c
inductive HiI8 (rk : Value → Nat) (a b : Array Keyed) (x : Nat) (c : Option (Array Keyed) × Nat × Nat × Array Keyed × Nat × Nat × Nat) : Prop
  | mk (na nb : Nat) (o : Array Keyed) (mg ac bc : Nat) (hc : c = (none, na, nb, o, mg, ac, bc)) (h0 : MHi rk a.toList b.toList o.toList.reverse na nb) (h1 : 0 < na) (h2 : na < a.size) (h3 : 1 < nb) (h4 : nb ≤ b.size) (h5 : x + 1 + na + nb ≤ a.size + b.size) : HiI8 rk a b x c
theorem tim_mergeHi (C : Cmp prog w A s kd D rk) {st : SortSt} {a b : Array Keyed} {Q : Array Keyed → SortSt → Prop} (hk : kindOf st = kd) (hDa : ∀ p ∈ a.toList, D p.1) (hDb : ∀ p ∈ b.toList, D p.1) (ua : Up rk a.toList) (ub : Up rk b.toList) {b0 a0 : Keyed} {n : Nat} {al : Keyed}
    (hb0 : b[0]? = some b0) (ha0 : a[0]? = some a0) (hlt : rk b0.1 ≤ rk a0.1) (hn : a.size = n + 1) (hal : a[n]? = some al) (hlast : ∀ x ∈ b.toList, rk x.1 ≤ rk al.1)
    (h : ∀ l st', SameS st st' → Merged rk a.toList b.toList l.toList → Q l st') : wpS (model prog w) A E s (mergeHi' a b) Q st := by
  have atA : ∀ {i : Nat}, i < a.size → ∃ p, a[i]? = some p ∧ D p.1 := fun {i} hi => ⟨a[i], getElem?_pos a i hi, hDa _ (by simp)⟩
  have atB : ∀ {i : Nat}, i < b.size → ∃ p, b[i]? = some p ∧ D p.1 := fun {i} hi => ⟨b[i], getElem?_pos b i hi, hDb _ (by simp)⟩
  have hbs : 0 < b.size := by
    cases e : b.size with
    | zero => rw [Array.getElem?_eq_none (by omega)] at hb0; cases hb0
    | succ m => omega
  have m0 : MHi rk a.toList b.toList [] (n + 1) b.size := by
    have := MHi.start (rk := rk) (la := a.toList) (lb := b.toList)
    simpa [hn] using this
  have m1 : MHi rk a.toList b.toList (#[al] : Array Keyed).toList.reverse n b.size := by
    simpa using m0.stA ua hal fun x hx => hlast x (List.mem_of_mem_take hx)
  have dn : ∀ {o : Array Keyed} {na nb : Nat}, MHi rk a.toList b.toList o.toList.reverse na nb → (na = 0 ∨ nb = 0) → Merged rk a.toList b.toList (a.extract 0 na ++ b.extract 0 nb ++ o.reverse).toList := fun {o na nb} m hh => by
    rw [Array.toList_append, Array.toList_append, tl_first, tl_first, Array.toList_reverse]
    exact m.doneA ua ub hh
  have fB : ∀ {o : Array Keyed} {na nb : Nat}, MHi rk a.toList b.toList o.toList.reverse na nb → nb = 1 → Merged rk a.toList b.toList (b.extract 0 nb ++ a.extract 0 na ++ o.reverse).toList := fun {o na nb} m hh => by
    rw [Array.toList_append, Array.toList_append, tl_first, tl_first, Array.toList_reverse]
    refine m.doneB ua ub fun x hx y hy => ?_
    subst hh
    refine Nat.le_trans (up_to ub (tl_some hb0) x hx) (Nat.le_trans hlt (up_from ua (tl_some ha0) y (by simpa using hy)))
  have eP : ∀ (o : Array Keyed) (p : Keyed), (o.push p).toList.reverse = p :: o.toList.reverse := fun o p => by simp
  have eC : ∀ (o c : Array Keyed), (o ++ c.reverse).toList.reverse = c.toList ++ o.toList.reverse := fun o c => by simp
  unfold mergeHi'
  refine wpS_bind (wpS_lift (wpAny_rule ⟨rfl, ?_⟩))
  have hal' : a[a.size - 1]? = some al := by rw [hn]; exact hal
  refine wpS_bind (tim_elem hal' ?_)
  have en : a.size - 1 = n := by omega
  rw [en]
  by_cases h1 : (n == 0) = true
  · first | refine wpS_yes h1 ?_ | rw [if_pos h1]
    exact wpS_pure (h _ _ ⟨rfl, rfl, rfl, rfl⟩ (dn m1 (.inl (beq_iff_eq.mp h1))))
  first | refine wpS_no h1 ?_ | rw [if_neg h1]
  by_cases h2 : (b.size == 1) = true
  · first | refine wpS_yes h2 ?_ | rw [if_pos h2]
    exact wpS_pure (h _ _ ⟨rfl, rfl, rfl, rfl⟩ (fB m1 (beq_iff_eq.mp h2)))
  first | refine wpS_no h2 ?_ | rw [if_neg h2]
  have h1' : 0 < n := by have : ¬ n = 0 := fun z => h1 (beq_iff_eq.mpr z); omega
  have h2' : 1 < b.size := by have : ¬ b.size = 1 := fun z => h2 (beq_iff_eq.mpr z); omega
  refine wpS_bind (wpS_get ?_)
  refine wpS_bind (wpS_mono (wpS_forRange (I := fun x c st' => SameS st st' ∧ HiI1 rk a b x c)
    (Q := fun c st' => SameS st st' ∧ HiI2 rk a b c) ?step ?fin ⟨⟨rfl, rfl, rfl, rfl⟩, n, b.size, _, _, rfl, m1, h1', by omega, h2', by omega, by omega⟩) ?post)
  case fin =>
    rintro c st' ⟨_, na, nb, o, mg, rfl, m, b1, b2, b3, b4, b5⟩
    omega
  case post =>
    rintro c st' ⟨sm, l, na, nb, o, mg, rfl, m⟩
    exact wpS_pure (h l st' sm m)
  case step =>
    rintro x c st1 _ hx ⟨sm, na, nb, o, mg, rfl, m, b1, b2, b3, b4, b5⟩
    refine wpS_bind (wpS_mono (wpS_forRange (I := fun y c st' => st' = st1 ∧ HiI3 rk a b x y c)
      (Q := fun c st' => st' = st1 ∧ (HiI4 rk a b c ∨ HiI5 rk a b x c)) ?step1 ?fin1 ⟨rfl, na, nb, o, 0, 0, rfl, m, b1, b2, b3, b4, b5, by omega⟩) ?post1)
    case fin1 =>
      rintro c st' ⟨_, na, nb, o, ac, bc, rfl, m, b1, b2, b3, b4, b5, b6⟩
      omega
    case step1 =>
      rintro y c st2 _ hy ⟨e2, na1, nb1, o, ac, bc, rfl, m, b1, b2, b3, b4, b5, b6⟩
      rw [e2]
      clear e2
      obtain ⟨na, rfl⟩ : ∃ q, na1 = q + 1 := ⟨na1 - 1, by omega⟩
      obtain ⟨nb, rfl⟩ : ∃ q, nb1 = q + 1 := ⟨nb1 - 1, by omega⟩
      dsimp only
      simp only [Nat.add_sub_cancel]
      obtain ⟨pb, hpb, dpb⟩ := atB (i := nb) (by omega)
      obtain ⟨pa, hpa, dpa⟩ := atA (i := na) (by omega)
      refine wpS_bind (tim_elem hpb (wpS_bind (tim_elem hpa (wpS_bind (tim_lt C (sm.1.trans hk) dpb dpa ?_)))))
      by_cases hw : rk pb.1 < rk pa.1
      · first | refine wpS_yes (decide_eq_true hw) ?_ | rw [if_pos (decide_eq_true hw)]
        refine wpS_bind (tim_elem hpa ?_)
        have m' : MHi rk a.toList b.toList (o.push pa).toList.reverse na (nb + 1) := by rw [eP]; exact m.stA ua hpa fun z hz => Nat.le_trans (up_to ub (tl_some hpb) z hz) (Nat.le_of_lt hw)
        by_cases g1 : (na == 0) = true
        · first | refine wpS_yes g1 ?_ | rw [if_pos g1]
          exact wpS_pure ⟨rfl, .inl ⟨_, _, _, _, _, _, rfl, dn m' (.inl (beq_iff_eq.mp g1))⟩⟩
        · first | refine wpS_no g1 ?_ | rw [if_neg g1]
          have g1' : 0 < na := by have : ¬ na = 0 := fun z => g1 (beq_iff_eq.mpr z); omega
          by_cases g2 : ac + 1 ≥ mg
          · first | refine wpS_yes g2 ?_ | rw [if_pos g2]
            exact wpS_pure ⟨rfl, .inr ⟨_, _, _, _, _, rfl, m', g1', by omega, b3, b4, by omega⟩⟩
          · first | refine wpS_no g2 ?_ | rw [if_neg g2]
            exact wpS_pure ⟨rfl, _, _, _, _, _, rfl, m', g1', by omega, b3, b4, by omega, by omega⟩
      · first | refine wpS_no (by rw [decide_eq_false hw]; exact Bool.false_ne_true) ?_ | rw [if_neg (by rw [decide_eq_false hw]; exact Bool.false_ne_true)]
        refine wpS_bind (tim_elem hpb ?_)
        have m' : MHi rk a.toList b.toList (o.push pb).toList.reverse (na + 1) nb := by rw [eP]; exact m.stB ub hpb fun z hz => Nat.le_trans (up_to ua (tl_some hpa) z hz) (by omega)
        by_cases g1 : (nb == 1) = true
        · first | refine wpS_yes g1 ?_ | rw [if_pos g1]
          exact wpS_pure ⟨rfl, .inl ⟨_, _, _, _, _, _, rfl, fB m' (beq_iff_eq.mp g1)⟩⟩
        · first | refine wpS_no g1 ?_ | rw [if_neg g1]
          have g1' : 1 < nb := by have : ¬ nb = 1 := fun z => g1 (beq_iff_eq.mpr z); omega
          by_cases g2 : bc + 1 ≥ mg
          · first | refine wpS_yes g2 ?_ | rw [if_pos g2]
            exact wpS_pure ⟨rfl, .inr ⟨_, _, _, _, _, rfl, m', b1, b2, g1', by omega, by omega⟩⟩
          · first | refine wpS_no g2 ?_ | rw [if_neg g2]
            exact wpS_pure ⟨rfl, _, _, _, _, _, rfl, m', b1, b2, g1', by omega, by omega, by omega⟩
    case post1 =>
      clear m b1 b2 b3 b4 b5
      rintro c st2 ⟨e2, ⟨l, na, nb, o, ac, bc, rfl, m⟩ | ⟨na, nb, o, ac, bc, rfl, m, b1, b2, b3, b4, b5⟩⟩
      · rw [e2]
        exact wpS_pure ⟨sm, l, _, _, _, _, rfl, m⟩
      rw [e2]
      clear e2
      refine wpS_bind (wpS_lift (wpAny_rule ⟨rfl, ?_⟩))
      refine wpS_bind (wpS_mono (wpS_forRange (I := fun y c st' => SameS st st' ∧ HiI6 rk a b x y c)
        (Q := fun c st' => SameS st st' ∧ (HiI7 rk a b c ∨ HiI8 rk a b x c)) ?step3 ?fin3 ⟨sm, na, nb, o, _, _, _, rfl, m, b1, b2, b3, b4, b5, by omega⟩) ?post3)
      case fin3 =>
        rintro c st' ⟨_, na, nb, o, mg, ac, bc, rfl, m, b1, b2, b3, b4, b5, b6⟩
        omega
      case post3 =>
        clear m b1 b2 b3 b4 b5
        rintro c st2 ⟨sm, ⟨l, na, nb, o, mg, ac, bc, rfl, m⟩ | ⟨na, nb, o, mg, ac, bc, rfl, m, b1, b2, b3, b4, b5⟩⟩
        · exact wpS_pure ⟨sm, l, _, _, _, _, rfl, m⟩
        · exact wpS_bind (wpS_modify (wpS_pure ⟨sm, _, _, _, _, rfl, m, b1, b2, b3, b4, by omega⟩))
      case step3 =>
        clear m b1 b2 b3 b4 b5
        rintro y c st2 _ hy ⟨sm2, na, nb1, o, mg2, ac, bc, rfl, m, b1, b2, b3, b4, b5, b6⟩
        obtain ⟨nb, rfl⟩ : ∃ q, nb1 = q + 1 := ⟨nb1 - 1, by omega⟩
        dsimp only
        simp only [Nat.add_sub_cancel]
        obtain ⟨pb, hpb, dpb⟩ := atB (i := nb) (by omega)
        apply both
        · intro key
          by_cases hg : mg2 > 1
          · rw [if_pos hg]
            generalize mg2 - 1 = mg3
            revert mg3
            exact key.out
          · rw [if_neg hg]
            exact key.out mg2
        · intro mg3
          refine wpS_bind (wpS_modify (wpS_bind (tim_elem hpb ?_)))
          refine wpS_bind (tim_gallop C (sm2.1.trans hk) dpb (by omega) hDa (by omega) (bey_mono ua (by omega)) fun k k1 k2 k3 => ?_)
          have kt := bey_take k2
          apply both
          ·intro key
           have mk := m.gaA k1 ua k3 (up_to ub (tl_some hpb))
           rw [← eC] at mk
           by_cases hk0 : na - k > 0
           case' pos =>
            first | refine wpS_yes hk0 ?_ | rw [if_pos hk0]
            by_cases g1 : (k == 0) = true
            case pos =>
              first | refine wpS_yes g1 ?_ | rw [if_pos g1]
              exact wpS_pure ⟨sm2, .inl ⟨_, _, _, _, _, _, _, rfl, dn mk (.inl (beq_iff_eq.mp g1))⟩⟩
            first | refine wpS_no g1 ?_ | rw [if_neg g1]
            have c1 : 0 < k := by have : ¬ k = 0 := fun z => g1 (beq_iff_eq.mpr z); omega
            have c2 : k < a.size := by omega
            have c3 : x + 1 + k + nb + 1 ≤ a.size + b.size := by omega
            have c4 : y + k + nb + 1 ≤ a.size + b.size := by omega
            revert mk c1 c2 c3 c4
            generalize na - k = ka
            generalize o ++ (a.extract k na).reverse = o2
            revert ka o2
            exact key.out
           case' neg =>
            first | refine wpS_no hk0 ?_ | rw [if_neg hk0]
            obtain rfl : k = na := by omega
            exact key.out _ _ m b1 b2 (by omega) (by omega)
          · intro ka o2 mk c1 c2 c3 c4
            clear m b1 b2 b5 b6 k2 k3 k1
            refine wpS_bind (tim_elem hpb ?_)
            have m' : MHi rk a.toList b.toList (o2.push pb).toList.reverse k nb := by rw [eP]; exact mk.stB ub hpb kt
            by_cases g3 : (nb == 1) = true
            case pos =>
              first | refine wpS_yes g3 ?_ | rw [if_pos g3]
              exact wpS_pure ⟨sm2, .inl ⟨_, _, _, _, _, _, _, rfl, fB m' (beq_iff_eq.mp g3)⟩⟩
            first | refine wpS_no g3 ?_ | rw [if_neg g3]
            have g3' : 1 < nb := by have : ¬ nb = 1 := fun z => g3 (beq_iff_eq.mpr z); omega
            obtain ⟨k, rfl⟩ : ∃ q, k = q + 1 := ⟨k - 1, by omega⟩
            simp only [Nat.add_sub_cancel]
            obtain ⟨pa, hpa, dpa⟩ := atA (i := k) (by omega)
            refine wpS_bind (tim_elem hpa ?_)
            refine wpS_bind (tim_gallop C (sm2.1.trans hk) dpa (by omega) hDb (by omega) (bey_mono ub (by omega)) fun j j1 j2 j3 => ?_)
            have jt := bey_take j2
            apply both
            ·intro key
             have mj := m'.gaB j1 ub j3 (up_to ua (tl_some hpa))
             rw [← eC] at mj
             by_cases hj0 : nb - j > 0
             case' pos =>
              first | refine wpS_yes hj0 ?_ | rw [if_pos hj0]
              by_cases g4 : (j == 1) = true
              case pos =>
                first | refine wpS_yes g4 ?_ | rw [if_pos g4]
                exact wpS_pure ⟨sm2, .inl ⟨_, _, _, _, _, _, _, rfl, fB mj (beq_iff_eq.mp g4)⟩⟩
              first | refine wpS_no g4 ?_ | rw [if_neg g4]
              by_cases g6 : (j == 0) = true
              case pos =>
                first | refine wpS_yes g6 ?_ | rw [if_pos g6]
                exact wpS_pure ⟨sm2, .inl ⟨_, _, _, _, _, _, _, rfl, dn mj (.inr (beq_iff_eq.mp g6))⟩⟩
              first | refine wpS_no g6 ?_ | rw [if_neg g6]
              have d1 : 1 < j := by
                have : ¬ j = 1 := fun z => g4 (beq_iff_eq.mpr z)
                have : ¬ j = 0 := fun z => g6 (beq_iff_eq.mpr z)
                omega
              have d2 : j ≤ nb := j1
              revert mj d1 d2
              generalize nb - j = kb
              generalize (o2.push pb) ++ (b.extract j nb).reverse = o3
              revert kb o3
              exact key.out
             case' neg =>
              first | refine wpS_no hj0 ?_ | rw [if_neg hj0]
              obtain rfl : j = nb := by omega
              exact key.out _ _ m' g3' (Nat.le_refl _)
            · intro kb o3 mj d1 d2
              clear j1 j2 j3
              refine wpS_bind (tim_elem hpa ?_)
              have m4 : MHi rk a.toList b.toList (o3.push pa).toList.reverse k j := by rw [eP]; exact mj.stA ua hpa jt
              by_cases g5 : (k == 0) = true
              case pos =>
                first | refine wpS_yes g5 ?_ | rw [if_pos g5]
                exact wpS_pure ⟨sm2, .inl ⟨_, _, _, _, _, _, _, rfl, dn m4 (.inl (beq_iff_eq.mp g5))⟩⟩
              first | refine wpS_no g5 ?_ | rw [if_neg g5]
              have g5' : 0 < k := by have : ¬ k = 0 := fun z => g5 (beq_iff_eq.mpr z); omega
              split
              · exact wpS_pure ⟨sm2, .inr ⟨_, _, _, _, _, _, rfl, m4, g5', by omega, d1, by omega, by omega⟩⟩
              · exact wpS_pure ⟨sm2, _, _, _, _, _, _, rfl, m4, g5', by omega, d1, by omega, by omega, by omega⟩
end
end L2
set_option maxHeartbeats 4000000
namespace L2
open PySem PyProof.Rows
theorem laid_at (sa : Nat) : ∀ (l : List Keyed) (k : Nat) (arr : Array Keyed), sa + k + l.length ≤ arr.size → ((l.zipIdx k).foldl (fun a (x : Keyed × Nat) => a.setIfInBounds (sa + x.2) x.1) arr).toList = arr.toList.take (sa + k) ++ (l ++ arr.toList.drop (sa + k + l.length))
  | [], k, arr, h => by simp
  | p :: l, k, arr, h => by
    rw [List.length_cons] at h
    rw [List.zipIdx_cons, List.foldl_cons, laid_at sa l (k + 1) _ (by rw [Array.size_setIfInBounds]; omega), Array.toList_setIfInBounds]
    have hlt : sa + k < arr.toList.length := by rw [Array.length_toList]; omega
    have e1 : (arr.toList.set (sa + k) p).take (sa + (k + 1)) = arr.toList.take (sa + k) ++ [p] := by
      rw [← Nat.add_assoc, List.take_succ_eq_append_getElem (by rw [List.length_set]; exact hlt), List.getElem_set_self, List.take_set_of_le (by omega)]
    have e2 : (arr.toList.set (sa + k) p).drop (sa + (k + 1) + l.length) = arr.toList.drop (sa + k + (p :: l).length) := by
      rw [List.drop_set_of_lt (by omega), List.length_cons]
      congr 1
      omega
    rw [e1, e2]
    simp
theorem pend_one {ps1 ps2 : List (Nat × Nat × Nat)} {x y z : Nat × Nat × Nat} {p : Array (Nat × Nat × Nat)} (h : p.toList = ps1 ++ x :: y :: ps2) : ((p.setIfInBounds ps1.length z).eraseIdxIfInBounds (ps1.length + 1)).toList = ps1 ++ z :: ps2 := by
  rw [Array.toList_eraseIdxIfInBounds, Array.toList_setIfInBounds, h, List.set_append_right _ _ (Nat.le_refl _), Nat.sub_self, List.set_cons_zero, List.eraseIdx_append_of_length_le (by omega)]
  rw [show ps1.length + 1 - ps1.length = 1 by omega]
  rfl
theorem bey_mono2 {rk : Value → Nat} {a : Array Keyed} {base n : Nat} {left : Bool} {key : Keyed} {P l R : List Keyed} (e : a.toList = P ++ (l ++ R)) (hP : P.length = base) (hn : n = l.length) (u : Up rk l) : ∀ i j, i ≤ j → j < n → bey rk left key a base j = true → bey rk left key a base i = true := fun i j hij hj h => by
  have at' : ∀ i, i < n → a[base + i]? = l[i]? := fun i hi => by
    rw [← Array.getElem?_toList, e, List.getElem?_append_right (by omega), hP, List.getElem?_append_left (by omega)]
    congr 1
    omega
  have hi' : i < l.length := by omega
  have hj' : j < l.length := by omega
  have ei := (at' i (by omega)).trans (List.getElem?_eq_getElem hi')
  have ej := (at' j (by omega)).trans (List.getElem?_eq_getElem hj')
  have le : rk l[i].1 ≤ rk l[j].1 := by
    rcases Nat.lt_or_eq_of_le hij with q | rfl
    · exact (List.pairwise_iff_getElem.mp u) i j hi' hj' q
    · exact Nat.le_refl _
  unfold bey at h ⊢
  rw [ej] at h
  rw [ei]
  cases left with
  | true => simp only [if_true, decide_eq_true_eq] at h ⊢; omega
  | false => simp only [Bool.false_eq_true, if_false, Bool.not_eq_true', decide_eq_false_iff_not] at h ⊢; omega
section
variable {prog : Program} {w : World} {A : Around} {E : Value → Shared → Prop} {s : Shared} {kd : SortKind} {D : Value → Prop} {rk : Value → Nat}
theorem tim_set {M : Model} {st st' : SortSt} {Q : PUnit → SortSt → Prop} (h : Q ⟨⟩ st') : wpS M A E s (set st' : StateT SortSt Sem PUnit) Q st := by
  unfold wpS; rw [StateT.run_set]; exact wpAny_pure ⟨rfl, h⟩
theorem tim_mergeAt (C : Cmp prog w A s kd D rk) {st : SortSt} {i sa na pw sb nb pw2 : Nat} {ps1 ps2 : List (Nat × Nat × Nat)} {P la lb R : List Keyed} {Q : Bool → SortSt → Prop} (hk : kindOf st = kd) (hf : failedOf st = none) (hD : ∀ p ∈ (arrOf st).toList, D p.1)
    (hp : (pendingOf st).toList = ps1 ++ (sa, na, pw) :: (sb, nb, pw2) :: ps2) (hi : ps1.length = i) (ha : (arrOf st).toList = P ++ (la ++ (lb ++ R))) (hP : P.length = sa) (hla : la.length = na) (hsb : sb = sa + na) (hlb : lb.length = nb) (a0 : 0 < na) (b0 : 0 < nb) (ua : Up rk la) (ub : Up rk lb)
    (h : ∀ st' l, kindOf st' = kd → failedOf st' = none → Merged rk la lb l → (arrOf st').toList = P ++ (l ++ R) → (pendingOf st').toList = ps1 ++ (sa, na + nb, pw) :: ps2 → Q true st') : wpS (model prog w) A E s (mergeAt' i) Q st := by
  subst hi hP hla hsb hlb
  have p1 : (pendingOf st)[ps1.length]? = some (P.length, la.length, pw) := by rw [← Array.getElem?_toList, hp]; simp
  have p2 : (pendingOf st)[ps1.length + 1]? = some (P.length + la.length, lb.length, pw2) := by rw [← Array.getElem?_toList, hp, List.getElem?_append_right (by omega)]; simp
  have hsz : (arrOf st).size = P.length + (la.length + (lb.length + R.length)) := by rw [← Array.length_toList, ha]; simp
  have atA : ∀ j, j < la.length → (arrOf st)[P.length + j]? = la[j]? := fun j hj => by
    rw [← Array.getElem?_toList, ha, List.getElem?_append_right (by omega), List.getElem?_append_left (by omega)]
    congr 1; omega
  have atB : ∀ j, j < lb.length → (arrOf st)[P.length + la.length + j]? = lb[j]? := fun j hj => by
    rw [← Array.getElem?_toList, ha, List.getElem?_append_right (by omega), List.getElem?_append_right (by omega), List.getElem?_append_left (by omega)]
    congr 1; omega
  have dA : ∀ p ∈ la, D p.1 := fun p hp => hD p (by rw [ha]; simp [hp])
  have dB : ∀ p ∈ lb, D p.1 := fun p hp => hD p (by rw [ha]; simp [hp])
  unfold mergeAt'
  refine wpS_bind (wpS_get ?_)
  have q1 := p1
  have q2 := p2
  unfold pendingOf at q1 q2
  rw [q1, q2]
  refine wpS_bind (tim_set ?_)
  have hst : ∀ (x : SortSt), kindOf x = kindOf st → kindOf x = kd := fun x e => e.trans hk
  obtain ⟨fb, hfb⟩ : ∃ p, lb[0]? = some p := ⟨lb[0], List.getElem?_eq_getElem b0⟩
  have efb : (arrOf st)[P.length + la.length]? = some fb := by have := atB 0 b0; rw [Nat.add_zero, hfb] at this; exact this
  have dfb : D fb.1 := dB _ (List.mem_of_getElem? hfb)
  refine wpS_bind (tim_elem efb ?_)
  refine wpS_bind (tim_gallop C hk dfb (by show _ ≤ (arrOf st).size; omega) hD a0 (bey_mono2 ha rfl rfl ua) fun k k1 k2 k3 => ?_)
  dsimp only
  have eb : ∀ {left : Bool} {key : Keyed} {j : Nat} (hj : j < la.length), bey rk left key (arrOf st) P.length j = (if left then decide (rk la[j].1 < rk key.1) else !decide (rk key.1 < rk la[j].1)) := fun {left key j} hj => by
    unfold bey
    rw [atA j hj, List.getElem?_eq_getElem hj]
  have ec : ∀ {left : Bool} {key : Keyed} {j : Nat} (hj : j < lb.length), bey rk left key (arrOf st) (P.length + la.length) j = (if left then decide (rk lb[j].1 < rk key.1) else !decide (rk key.1 < rk lb[j].1)) := fun {left key j} hj => by
    unfold bey
    rw [atB j hj, List.getElem?_eq_getElem hj]
  have lowA : ∀ x ∈ la.take k, rk x.1 ≤ rk fb.1 := fun x hx => by
    obtain ⟨j, hj, e⟩ := mem_take hx
    have hj' : j < la.length := by omega
    rw [List.getElem?_eq_getElem hj'] at e
    cases e
    have := k2 j hj
    rw [eb hj'] at this
    simpa using this
  have fbB : ∀ y ∈ lb, rk fb.1 ≤ rk y.1 := fun y hy => up_from ub hfb y (by simpa using hy)
  have lk : (la.take k).length = k := by rw [List.length_take]; omega
  by_cases g1 : (la.length - k == 0) = true
  · rw [if_pos g1]
    have ek : k = la.length := by have := beq_iff_eq.mp g1; omega
    refine wpS_pure (h _ (la ++ lb) hk hf ⟨List.Perm.refl _, List.pairwise_append.mpr ⟨ua, ub, fun x hx y hy => Nat.le_trans (lowA x (by rw [ek, List.take_length]; exact hx)) (fbB y hy)⟩⟩ (by rw [List.append_assoc]; exact ha) (pend_one hp))
  rw [if_neg g1]
  have hkl : k < la.length := by have : ¬ la.length - k = 0 := fun z => g1 (beq_iff_eq.mpr z); omega
  obtain ⟨n, hn⟩ : ∃ n, la.length = n + 1 := ⟨la.length - 1, by omega⟩
  obtain ⟨al, hal⟩ : ∃ p, la[n]? = some p := ⟨la[n], List.getElem?_eq_getElem (by omega)⟩
  have eal : (arrOf st)[P.length + k + (la.length - k) - 1]? = some al := by
    have := atA n (by omega)
    rw [hal] at this
    rw [show P.length + k + (la.length - k) - 1 = P.length + n by omega]
    exact this
  have dal : D al.1 := dA _ (List.mem_of_getElem? hal)
  refine wpS_bind (tim_elem eal ?_)
  have ha2 : (arrOf st).toList = (P ++ la) ++ (lb ++ R) := by rw [ha, List.append_assoc]
  refine wpS_bind (tim_gallop C hk dal (by show _ ≤ (arrOf st).size; omega) hD (by omega) (bey_mono2 ha2 (by simp) rfl ub) fun j j1 j2 j3 => ?_)
  dsimp only
  have alA : ∀ x ∈ la, rk x.1 ≤ rk al.1 := fun x hx => up_to ua hal x (by rw [← hn, List.take_length]; exact hx)
  have hiB : ∀ y ∈ lb.drop j, rk al.1 ≤ rk y.1 := fun y hy => by
    obtain ⟨q, hq⟩ := List.mem_iff_getElem?.mp hy
    rw [List.getElem?_drop] at hq
    have hlt : j + q < lb.length := (List.getElem?_eq_some_iff.mp hq).1
    rw [List.getElem?_eq_getElem hlt] at hq
    cases hq
    have := j3 (j + q) (by omega) hlt
    rw [ec hlt] at this
    simpa using this
  have loB : ∀ y ∈ lb.take j, rk y.1 ≤ rk al.1 := fun y hy => by
    obtain ⟨q, hq, e⟩ := mem_take hy
    have hlt : q < lb.length := by omega
    rw [List.getElem?_eq_getElem hlt] at e
    cases e
    have := j2 q hq
    rw [ec hlt] at this
    exact Nat.le_of_lt (by simpa using this)
  by_cases g2 : (j == 0) = true
  · rw [if_pos g2]
    have ej : j = 0 := beq_iff_eq.mp g2
    refine wpS_pure (h _ (la ++ lb) hk hf ⟨List.Perm.refl _, List.pairwise_append.mpr ⟨ua, ub, fun x hx y hy => Nat.le_trans (alA x hx) (hiB y (by rw [ej]; exact hy))⟩⟩ (by rw [List.append_assoc]; exact ha) (pend_one hp))
  rw [if_neg g2]
  have hj0 : 0 < j := by have : ¬ j = 0 := fun z => g2 (beq_iff_eq.mpr z); omega
  have ex : ((arrOf st).extract (P.length + k) (P.length + la.length)).toList = la.drop k := by
    rw [Array.toList_extract, List.extract_eq_drop_take, ha, show P.length + la.length - (P.length + k) = la.length - k by omega, ← List.drop_drop, List.drop_left, List.drop_append_of_le_length (by omega), List.take_left' (by rw [List.length_drop])]
  have ey : ((arrOf st).extract (P.length + la.length) (P.length + la.length + j)).toList = lb.take j := by
    rw [Array.toList_extract, List.extract_eq_drop_take, ha2, show P.length + la.length + j - (P.length + la.length) = j by omega, List.drop_left' (by simp), List.take_append_of_le_length (by omega)]
  generalize (arrOf st).extract (P.length + k) (P.length + la.length) = x at ex
  have ey' : ((arrOf st).extract (P.length + la.length) (P.length + la.length + j)).toList = lb.take j := ey
  clear ey
  generalize (arrOf st).extract (P.length + la.length) (P.length + la.length + j) = y at ey'
  obtain ⟨fa, hfa⟩ : ∃ p, la[k]? = some p := ⟨la[k], List.getElem?_eq_getElem hkl⟩
  have x0 : x[0]? = some fa := by rw [← Array.getElem?_toList, ex, List.getElem?_drop, Nat.add_zero]; exact hfa
  have y0 : y[0]? = some fb := by rw [← Array.getElem?_toList, ey', List.getElem?_take_of_lt hj0]; exact hfb
  have hle : rk fb.1 ≤ rk fa.1 := by
    have := k3 k (Nat.le_refl _) hkl
    rw [show bey rk false fb (arrOf st) P.length k = _ from eb hkl] at this
    have e : la[k] = fa := by have := hfa; rw [List.getElem?_eq_getElem hkl] at this; exact Option.some.inj this
    rw [e] at this
    exact Nat.le_of_lt (by simpa using this)
  have xs : x.size = (n - k) + 1 := by rw [← Array.length_toList, ex, List.length_drop]; omega
  have xl : x[n - k]? = some al := by rw [← Array.getElem?_toList, ex, List.getElem?_drop, show k + (n - k) = n by omega]; exact hal
  have uax : Up rk x.toList := by rw [ex]; exact List.Pairwise.sublist (List.drop_sublist _ _) ua
  have uby : Up rk y.toList := by rw [ey']; exact List.Pairwise.sublist (List.take_sublist _ _) ub
  have dax : ∀ p ∈ x.toList, D p.1 := fun p hp => dA p (by rw [ex] at hp; exact List.mem_of_mem_drop hp)
  have dby : ∀ p ∈ y.toList, D p.1 := fun p hp => dB p (by rw [ey'] at hp; exact List.mem_of_mem_take hp)
  have lst : ∀ z ∈ y.toList, rk z.1 ≤ rk al.1 := fun z hz => loB z (by rw [ey'] at hz; exact hz)
  have key : ∀ (l : Array Keyed) (st2 : SortSt), SameS (SortSt.mk' (kindOf st) (arrOf st) (((pendingOf st).setIfInBounds ps1.length (P.length, la.length + lb.length, pw)).eraseIdxIfInBounds (ps1.length + 1)) (gallopOf st) (failedOf st)) st2 → Merged rk x.toList y.toList l.toList →
      ∀ st3 : SortSt, kindOf st3 = kindOf st2 → pendingOf st3 = pendingOf st2 → failedOf st3 = failedOf st2 → arrOf st3 = l.toList.zipIdx.foldl (fun a (x : Keyed × Nat) => a.setIfInBounds (P.length + k + x.2) x.1) (arrOf st2) → Q true st3 := by
    rintro l st2 ⟨s1, s2, s3, s4⟩ ⟨mp, mu⟩ st3 t1 t2 t3 t4
    have ll : l.toList.length = (la.length - k) + j := by rw [mp.length_eq, List.length_append, ex, ey', List.length_drop, List.length_take]; omega
    have e2 : arrOf st2 = arrOf st := s2
    have hlen : P.length + k + 0 + l.toList.length ≤ (arrOf st).size := by omega
    have e3 : (arrOf st3).toList = (P ++ la.take k) ++ (l.toList ++ (lb.drop j ++ R)) := by
      rw [t4, e2, laid_at (P.length + k) l.toList 0 _ hlen, Nat.add_zero]
      congr 1
      · rw [ha, List.take_append, List.take_of_length_le (by omega), show P.length + k - P.length = k by omega, List.take_append_of_le_length (by omega)]
      · congr 1
        rw [ll, ha2, show P.length + k + (la.length - k + j) = (P ++ la).length + j by rw [List.length_append]; omega, List.drop_append, List.drop_eq_nil_of_le (by omega), show (P ++ la).length + j - (P ++ la).length = j by omega, List.nil_append, List.drop_append_of_le_length (by omega)]
    refine h st3 (la.take k ++ (l.toList ++ lb.drop j)) (t1.trans (s1.trans hk)) (t3.trans (s4.trans hf)) ⟨?_, ?_⟩ ?_ ?_
    · rw [ex, ey'] at mp
      have p1 : (la.take k ++ (l.toList ++ lb.drop j)).Perm (la.take k ++ ((la.drop k ++ lb.take j) ++ lb.drop j)) := List.Perm.append_left _ (List.Perm.append_right _ mp)
      refine p1.trans (List.Perm.of_eq ?_)
      rw [List.append_assoc, List.take_append_drop, ← List.append_assoc, List.take_append_drop]
    · rw [ex, ey'] at mp
      have ud : Up rk (la.take k ++ la.drop k) := by rw [List.take_append_drop]; exact ua
      have ue : Up rk (lb.take j ++ lb.drop j) := by rw [List.take_append_drop]; exact ub
      obtain ⟨u1, u2, u3⟩ := List.pairwise_append.mp ud
      obtain ⟨v1, v2, v3⟩ := List.pairwise_append.mp ue
      refine List.pairwise_append.mpr ⟨u1, List.pairwise_append.mpr ⟨mu, v2, fun z hz y hy => ?_⟩, fun z hz y hy => ?_⟩
      · rcases List.mem_append.mp (mp.mem_iff.mp hz) with q | q
        · exact Nat.le_trans (alA z (List.mem_of_mem_drop q)) (hiB y hy)
        · exact v3 z q y hy
      · rcases List.mem_append.mp hy with q | q
        · rcases List.mem_append.mp (mp.mem_iff.mp q) with q | q
          · exact u3 z hz y q
          · exact Nat.le_trans (lowA z hz) (fbB y (List.mem_of_mem_take q))
        · exact Nat.le_trans (lowA z hz) (fbB y (List.mem_of_mem_drop q))
    · rw [e3]
      simp [List.append_assoc]
    · rw [t2, show pendingOf st2 = _ from s3]
      exact pend_one hp
  by_cases g3 : la.length - k ≤ j
  · rw [if_pos g3]
    refine wpS_bind (tim_mergeLo C hk dax dby uax uby y0 x0 hle xs xl lst fun l st2 sm mm => ?_)
    refine wpS_bind (wpS_modify (wpS_bind (wpS_get (wpS_pure ?_))))
    have e : failedOf st2 = none := sm.2.2.2.trans hf
    have e' : (failedOf st2).isNone = true := by rw [e]; rfl
    show Q (failedOf st2).isNone _
    rw [e']
    exact key l st2 sm mm _ rfl rfl rfl rfl
  · rw [if_neg g3]
    refine wpS_bind (tim_mergeHi C hk dax dby uax uby y0 x0 hle xs xl lst fun l st2 sm mm => ?_)
    refine wpS_bind (wpS_modify (wpS_bind (wpS_get (wpS_pure ?_))))
    have e : failedOf st2 = none := sm.2.2.2.trans hf
    have e' : (failedOf st2).isNone = true := by rw [e]; rfl
    show Q (failedOf st2).isNone _
    rw [e']
    exact key l st2 sm mm _ rfl rfl rfl rfl
end
end L2
set_option maxHeartbeats 4000000
namespace L2
open PySem PyProof.Rows
noncomputable def ra (rk : Value → Nat) (arr : Array Keyed) (i : Nat) : Nat :=
  match arr[i]? with
  | some p => rk p.1
  | none => 0
noncomputable def Inc (rk : Value → Nat) (arr : Array Keyed) (lo n : Nat) : Prop := ∀ i j, i ≤ j → j < n → ra rk arr (lo + i) ≤ ra rk arr (lo + j)
noncomputable def Dec (rk : Value → Nat) (arr : Array Keyed) (lo n : Nat) : Prop := ∀ i j, i ≤ j → j < n → ra rk arr (lo + j) ≤ ra rk arr (lo + i)
theorem ra_mirror {rk : Value → Nat} {xs : Array Keyed} {i j : Nat} (hj : j ≤ xs.size) (k : Nat) : ra rk (mirror xs i j ((j - i) / 2)) k = if i ≤ k ∧ k < j then ra rk xs (i + j - 1 - k) else ra rk xs k := by
  unfold ra
  rw [getElem?_mirror_all hj]
  by_cases q : i ≤ k ∧ k < j
  · rw [if_pos q, if_pos q]
  · rw [if_neg q, if_neg q]
theorem ra_bubble {rk : Value → Nat} {xs : Array Keyed} {src d : Nat} (hs : src < xs.size) (hd : d ≤ src) (k : Nat) : ra rk (bubble xs src d) k = if k = src - d then ra rk xs src else if src - d < k ∧ k ≤ src then ra rk xs (k - 1) else ra rk xs k := by
  unfold ra
  rw [getElem?_bubble hs d hd]
  by_cases q : k = src - d
  · rw [if_pos q, if_pos q]
  · rw [if_neg q, if_neg q]
    by_cases q2 : src - d < k ∧ k ≤ src
    · rw [if_pos q2, if_pos q2]
    · rw [if_neg q2, if_neg q2]
theorem ra_mirror_eq {rk : Value → Nat} {xs : Array Keyed} {i j : Nat} (hj : j ≤ xs.size) (h : ∀ k, i ≤ k → k < j → ra rk xs k = ra rk xs (j - 1)) (k : Nat) : ra rk (mirror xs i j ((j - i) / 2)) k = ra rk xs k := by
  rw [ra_mirror hj]
  split
  · rw [h _ (by omega) (by omega), h k (by omega) (by omega)]
  · rfl
structure SB (st0 st : SortSt) (lo n : Nat) : Prop where
  kind : kindOf st = kindOf st0
  failed : failedOf st = failedOf st0
  pend : pendingOf st = pendingOf st0
  perm : (arrOf st).Perm (arrOf st0)
  out : ∀ i, (i < lo ∨ lo + n ≤ i) → (arrOf st)[i]? = (arrOf st0)[i]?
theorem SB.refl (st : SortSt) (lo n : Nat) : SB st st lo n := ⟨rfl, rfl, rfl, Array.Perm.refl _, fun _ _ => rfl⟩
theorem SB.size {st0 st : SortSt} {lo n : Nat} (h : SB st0 st lo n) : (arrOf st).size = (arrOf st0).size := h.perm.size_eq
theorem SB.mirr {st0 st : SortSt} {lo n i j : Nat} (h : SB st0 st lo n) (hi : lo ≤ i) (hj : j ≤ lo + n) (hz : lo + n ≤ (arrOf st0).size) : SB st0 (setArr st (mirror (arrOf st) i j ((j - i) / 2))) lo n :=
  ⟨h.kind, h.failed, h.pend, (mirror_perm _ _ _ _).trans h.perm, fun k hk => by
    show (mirror (arrOf st) i j ((j - i) / 2))[k]? = _
    rw [getElem?_mirror_all (by rw [h.size]; omega), if_neg (by omega)]
    exact h.out k hk⟩
theorem SB.bubb {st0 st : SortSt} {lo n src d : Nat} (h : SB st0 st lo n) (hs : src < lo + n) (hd : lo + d ≤ src) (hz : lo + n ≤ (arrOf st0).size) : SB st0 (setArr st (bubble (arrOf st) src d)) lo n :=
  ⟨h.kind, h.failed, h.pend, (bubble_perm _ _ _).trans h.perm, fun k hk => by
    show (PyProof.Rows.bubble (arrOf st) src d)[k]? = _
    rw [getElem?_bubble (by rw [h.size]; omega) d (by omega), if_neg (by omega), if_neg (by omega)]
    exact h.out k hk⟩
section
variable {prog : Program} {w : World} {A : Around} {E : Value → Shared → Prop} {s : Shared} {kd : SortKind} {D : Value → Prop} {rk : Value → Nat}
theorem tim_ltAt (C : Cmp prog w A s kd D rk) {st0 st : SortSt} {lo n i j : Nat} {Q : Option Bool → SortSt → Prop} (hB : SB st0 st lo n) (hk : kindOf st0 = kd) (hD : ∀ p ∈ (arrOf st0).toList, D p.1) (hi : i < (arrOf st0).size) (hj : j < (arrOf st0).size)
    (h : Q (some (decide (ra rk (arrOf st) i < ra rk (arrOf st) j))) st) : wpS (model prog w) A E s (ltAt' i j) Q st := by
  have at' : ∀ i, i < (arrOf st0).size → ∃ p, (arrOf st)[i]? = some p ∧ D p.1 ∧ ra rk (arrOf st) i = rk p.1 := fun i hi => by
    have hi' : i < (arrOf st).size := by rw [hB.size]; exact hi
    have e : (arrOf st)[i]? = some (arrOf st)[i] := getElem?_pos (arrOf st) i hi'
    exact ⟨_, e, hD _ ((Array.perm_iff_toList_perm.mp hB.perm).mem_iff.mp (by simp)), by unfold ra; rw [e]⟩
  obtain ⟨p, ep, dp, rp⟩ := at' i hi
  obtain ⟨q, eq, dq, rq⟩ := at' j hj
  rw [rp, rq] at h
  rw [ltAt'_eq]
  exact wpS_bind (wpS_get (wpS_bind (tim_elem ep (wpS_bind (tim_elem eq (tim_lt C (hB.kind.trans hk) dp dq h))))))
theorem inc_snoc {arr : Array Keyed} {lo x : Nat} (h : Inc rk arr lo x) (hx : 1 ≤ x) (hl : ra rk arr (lo + (x - 1)) ≤ ra rk arr (lo + x)) : Inc rk arr lo (x + 1) := fun i j hij hj => by
  by_cases hjx : j < x
  · exact h i j hij hjx
  · obtain rfl : j = x := by omega
    by_cases hi : i = j
    · subst hi; exact Nat.le_refl _
    · exact Nat.le_trans (h i (j - 1) (by omega) (by omega)) hl
theorem dec_snoc {arr : Array Keyed} {lo x : Nat} (h : Dec rk arr lo x) (hx : 1 ≤ x) (hl : ra rk arr (lo + x) ≤ ra rk arr (lo + (x - 1))) : Dec rk arr lo (x + 1) := fun i j hij hj => by
  by_cases hjx : j < x
  · exact h i j hij hjx
  · obtain rfl : j = x := by omega
    by_cases hi : i = j
    · subst hi; exact Nat.le_refl _
    · exact Nat.le_trans hl (h i (j - 1) (by omega) (by omega))
theorem tim_countRun (C : Cmp prog w A s kd D rk) {st : SortSt} {lo nrem : Nat} {Q : Option Nat → SortSt → Prop} (hk : kindOf st = kd) (hD : ∀ p ∈ (arrOf st).toList, D p.1) (hz : lo + nrem ≤ (arrOf st).size) (h1 : 1 ≤ nrem)
    (h : ∀ m st', SB st st' lo nrem → 1 ≤ m → m ≤ nrem → Inc rk (arrOf st') lo m → Q (some m) st') : wpS (model prog w) A E s (countRun' lo nrem) Q st := by
  rw [countRun'_eq]
  refine wpS_bind (wpS_mono (wpS_forRange (I := fun x c st' => st' = st ∧ c = (none, x) ∧ Inc rk (arrOf st) lo x) (Q := fun c st' => st' = st ∧ ∃ n, c = (none, n) ∧ 1 ≤ n ∧ n ≤ nrem ∧ Inc rk (arrOf st) lo n ∧ (n = nrem ∨ ra rk (arrOf st) (lo + n) < ra rk (arrOf st) (lo + n - 1))) ?step ?fin ⟨rfl, rfl, fun i j hij hj => by obtain rfl : i = j := (by omega); exact Nat.le_refl _⟩) ?post)
  case fin =>
    rintro c st' ⟨e, rfl, hs⟩
    rw [show max 1 nrem = nrem by omega] at hs ⊢
    exact ⟨e, nrem, rfl, h1, Nat.le_refl _, hs, .inl rfl⟩
  case step =>
    rintro x c st' hx1 hx2 ⟨e, rfl, hs⟩
    rw [e]
    dsimp only
    refine wpS_bind (tim_ltAt C (SB.refl st lo nrem) hk hD (by omega) (by omega) ?_)
    dsimp only
    by_cases hl : ra rk (arrOf st) (lo + x) < ra rk (arrOf st) (lo + x - 1)
    · rw [if_pos (decide_eq_true hl)]
      exact wpS_pure ⟨rfl, x, rfl, hx1, by omega, hs, .inr hl⟩
    · rw [if_neg (by rw [decide_eq_false hl]; exact Bool.false_ne_true)]
      exact wpS_pure ⟨rfl, rfl, inc_snoc hs hx1 (by rw [show lo + (x - 1) = lo + x - 1 by omega]; omega)⟩
  case post =>
    rintro c st1 ⟨e, n, rfl, n1, n2, hs, hor⟩
    rw [e]
    clear e st1
    dsimp only
    by_cases hn : (n == nrem) = true
    · rw [if_pos hn]
      exact wpS_pure (h n st (SB.refl _ _ _) n1 n2 hs)
    rw [if_neg hn]
    have hne : ¬ n = nrem := fun z => hn (beq_iff_eq.mpr z)
    have hlt := hor.resolve_left hne
    have goD : ∀ st2 : SortSt, SB st st2 lo nrem → (∀ i, ra rk (arrOf st2) i = ra rk (arrOf st) i) → (∀ i, i < n → ra rk (arrOf st) (lo + i) = ra rk (arrOf st) (lo + (n - 1))) → Dec rk (arrOf st2) lo (n + 1) := fun st2 _ e1 e2 => dec_snoc (fun i j hij hj => by rw [e1, e1, e2 i (by omega), e2 j hj]; exact Nat.le_refl _) n1 (by rw [e1, e1, show lo + (n - 1) = lo + n - 1 by omega]; omega)
    apply both
    ·intro key
     by_cases hg : n > 1
     case' pos =>
      rw [if_pos hg]
      refine wpS_bind (tim_ltAt C (SB.refl st lo nrem) hk hD (by omega) (by omega) ?_)
      dsimp only
      by_cases hr : ra rk (arrOf st) lo < ra rk (arrOf st) (lo + n - 1)
      case pos =>
        rw [if_pos (decide_eq_true hr)]
        exact wpS_pure (h n st (SB.refl _ _ _) n1 n2 hs)
      rw [if_neg (by rw [decide_eq_false hr]; exact Bool.false_ne_true)]
      refine wpS_bind (wpS_reverse ?_)
      have hall : ∀ k, lo ≤ k → k < lo + n → ra rk (arrOf st) k = ra rk (arrOf st) (lo + n - 1) := fun k k1 k2 => by
        have a1 := hs 0 (k - lo) (by omega) (by omega)
        have a2 := hs (k - lo) (n - 1) (by omega) (by omega)
        rw [show lo + (k - lo) = k by omega] at a1 a2
        rw [Nat.add_zero] at a1
        rw [show lo + (n - 1) = lo + n - 1 by omega] at a2
        omega
      have hS := (SB.refl st lo nrem).mirr (i := lo) (j := lo + n) (Nat.le_refl _) (by omega) hz
      have hDc := goD _ hS (ra_mirror_eq (by omega) hall) (fun i hi => by rw [hall (lo + i) (by omega) (by omega), show lo + (n - 1) = lo + n - 1 by omega])
      revert hS hDc
      generalize setArr st (mirror (arrOf st) lo (lo + n) ((lo + n - lo) / 2)) = st2
      revert st2
      exact key.out
     case' neg =>
      rw [if_neg hg]
      exact key.out st (SB.refl st lo nrem) (goD st (SB.refl st lo nrem) (fun _ => rfl) (fun i hi => by rw [show i = n - 1 by omega]))
    · intro st2 hS hDc
      have hnn : n + 1 ≤ nrem := by omega
      refine wpS_bind (wpS_lift (wpAny_rule ⟨rfl, ?_⟩))
      refine wpS_bind (wpS_mono (wpS_forRange (I := fun x c st' => ∃ neq, c = (none, x, neq) ∧ SB st st' lo nrem ∧ Dec rk (arrOf st') lo x ∧ neq + 1 ≤ x ∧ ∀ i, x - (neq + 1) ≤ i → i < x → ra rk (arrOf st') (lo + i) = ra rk (arrOf st') (lo + (x - 1)))
        (Q := fun c st' => ∃ m neq, c = (none, m, neq) ∧ SB st st' lo nrem ∧ n + 1 ≤ m ∧ m ≤ nrem ∧ Dec rk (arrOf st') lo m ∧ neq + 1 ≤ m ∧ ∀ i, m - (neq + 1) ≤ i → i < m → ra rk (arrOf st') (lo + i) = ra rk (arrOf st') (lo + (m - 1))) ?stepD ?finD ⟨0, rfl, hS, hDc, by omega, fun i h1 h2 => by congr 1; omega⟩) ?postD)
      case finD =>
        rintro c st' ⟨neq, rfl, hB, hd, q1, q2⟩
        rw [show max (n + 1) nrem = nrem by omega] at hd q1 q2 ⊢
        exact ⟨nrem, neq, rfl, hB, hnn, Nat.le_refl _, hd, q1, q2⟩
      case stepD =>
        rintro x c st' hx1 hx2 ⟨neq, rfl, hB, hd, q1, q2⟩
        dsimp only
        have hsz : lo + x ≤ (arrOf st').size := by rw [hB.size]; omega
        refine wpS_bind (tim_ltAt C hB hk hD (by omega) (by omega) ?_)
        dsimp only
        by_cases hl : ra rk (arrOf st') (lo + x) < ra rk (arrOf st') (lo + x - 1)
        · rw [if_pos (decide_eq_true hl)]
          have hl' : ra rk (arrOf st') (lo + x) ≤ ra rk (arrOf st') (lo + (x - 1)) := by rw [show lo + (x - 1) = lo + x - 1 by omega]; omega
          by_cases hq : neq > 0
          · rw [if_pos hq]
            refine wpS_bind (wpS_reverse ?_)
            have he : ∀ k, lo + x - (neq + 1) ≤ k → k < lo + x → ra rk (arrOf st') k = ra rk (arrOf st') (lo + x - 1) := fun k k1 k2 => by
              have := q2 (k - lo) (by omega) (by omega)
              rw [show lo + (k - lo) = k by omega, show lo + (x - 1) = lo + x - 1 by omega] at this
              exact this
            have em := ra_mirror_eq (rk := rk) (i := lo + x - (neq + 1)) hsz he
            refine wpS_pure ⟨0, rfl, hB.mirr (by omega) (by omega) hz, dec_snoc (fun i j hij hj => ?_) (by omega) ?_, by omega, fun i h1 h2 => by congr 1; omega⟩
            · show ra rk (mirror _ _ _ _) _ ≤ ra rk (mirror _ _ _ _) _
              rw [em, em]; exact hd i j hij hj
            · show ra rk (mirror _ _ _ _) _ ≤ ra rk (mirror _ _ _ _) _
              rw [em, em]; exact hl'
          · rw [if_neg hq]
            exact wpS_pure ⟨0, rfl, hB, dec_snoc hd (by omega) hl', by omega, fun i h1 h2 => by congr 1; omega⟩
        · rw [if_neg (by rw [decide_eq_false hl]; exact Bool.false_ne_true)]
          refine wpS_bind (tim_ltAt C hB hk hD (by omega) (by omega) ?_)
          dsimp only
          by_cases hm : ra rk (arrOf st') (lo + x - 1) < ra rk (arrOf st') (lo + x)
          · rw [if_pos (decide_eq_true hm)]
            exact wpS_pure ⟨x, neq, rfl, hB, hx1, by omega, hd, q1, q2⟩
          · rw [if_neg (by rw [decide_eq_false hm]; exact Bool.false_ne_true)]
            have he : ra rk (arrOf st') (lo + x) = ra rk (arrOf st') (lo + (x - 1)) := by rw [show lo + (x - 1) = lo + x - 1 by omega]; omega
            refine wpS_pure ⟨neq + 1, rfl, hB, dec_snoc hd (by omega) (by omega), by omega, fun i h1 h2 => ?_⟩
            rw [show x + 1 - 1 = x by omega]
            by_cases hi : i = x
            · rw [hi]
            · rw [q2 i (by omega) (by omega), he]
      case postD =>
        rintro c st3 ⟨m, neq, rfl, hB, m1, m2, hd, q1, q2⟩
        dsimp only
        have hsz : lo + m ≤ (arrOf st3).size := by rw [hB.size]; omega
        by_cases hq : neq > 0
        case' pos =>
          rw [if_pos hq]
          refine wpS_bind (wpS_reverse ?_)
          have he : ∀ k, lo + m - (neq + 1) ≤ k → k < lo + m → ra rk (arrOf st3) k = ra rk (arrOf st3) (lo + m - 1) := fun k k1 k2 => by
            have := q2 (k - lo) (by omega) (by omega)
            rw [show lo + (k - lo) = k by omega, show lo + (m - 1) = lo + m - 1 by omega] at this
            exact this
          have em := ra_mirror_eq (rk := rk) (i := lo + m - (neq + 1)) hsz he
          have hB4 := hB.mirr (i := lo + m - (neq + 1)) (j := lo + m) (by omega) (by omega) hz
          have hd4 : Dec rk (arrOf (setArr st3 (mirror (arrOf st3) (lo + m - (neq + 1)) (lo + m) ((lo + m - (lo + m - (neq + 1))) / 2)))) lo m := fun i j hij hj => by
            show ra rk (mirror _ _ _ _) _ ≤ ra rk (mirror _ _ _ _) _
            rw [em, em]; exact hd i j hij hj
          generalize setArr st3 (mirror (arrOf st3) (lo + m - (neq + 1)) (lo + m) ((lo + m - (lo + m - (neq + 1))) / 2)) = st4 at *
        case' neg =>
          rw [if_neg hq]
          have hB4 := hB
          have hd4 := hd
          generalize hst4 : st3 = st4 at hB4 hd4 ⊢
        all_goals
          refine wpS_bind (wpS_reverse ?_)
          have hsz4 : lo + m ≤ (arrOf st4).size := by rw [hB4.size]; omega
          have hB5 := hB4.mirr (i := lo) (j := lo + m) (Nat.le_refl _) (by omega) hz
          have hi5 : Inc rk (arrOf (setArr st4 (mirror (arrOf st4) lo (lo + m) ((lo + m - lo) / 2)))) lo m := fun i j hij hj => by
            show ra rk (mirror _ _ _ _) _ ≤ ra rk (mirror _ _ _ _) _
            rw [ra_mirror hsz4, ra_mirror hsz4, if_pos (by omega), if_pos (by omega)]
            have := hd4 (m - 1 - j) (m - 1 - i) (by omega) (by omega)
            rw [show lo + (m - 1 - j) = lo + (lo + m) - 1 - (lo + j) by omega, show lo + (m - 1 - i) = lo + (lo + m) - 1 - (lo + i) by omega] at this
            exact this
          generalize setArr st4 (mirror (arrOf st4) lo (lo + m) ((lo + m - lo) / 2)) = st5 at *
          refine wpS_bind (wpS_mono (wpS_forRange (I := fun x c st' => st' = st5 ∧ c = (none, x) ∧ Inc rk (arrOf st5) lo x) (Q := fun c st' => st' = st5 ∧ ∃ n, c = (none, n) ∧ 1 ≤ n ∧ n ≤ nrem ∧ Inc rk (arrOf st5) lo n) ?stepE ?finE ⟨rfl, rfl, hi5⟩) ?postE)
          case finE =>
            rintro c st' ⟨e, rfl, hs⟩
            rw [show max m nrem = nrem by omega] at hs ⊢
            exact ⟨e, nrem, rfl, h1, Nat.le_refl _, hs⟩
          case stepE =>
            rintro x c st' hx1 hx2 ⟨e, rfl, hs⟩
            rw [e]
            dsimp only
            refine wpS_bind (tim_ltAt C hB5 hk hD (by omega) (by omega) ?_)
            dsimp only
            by_cases hl : ra rk (arrOf st5) (lo + x) < ra rk (arrOf st5) (lo + x - 1)
            · rw [if_pos (decide_eq_true hl)]
              exact wpS_pure ⟨rfl, x, rfl, by omega, by omega, hs⟩
            · rw [if_neg (by rw [decide_eq_false hl]; exact Bool.false_ne_true)]
              exact wpS_pure ⟨rfl, rfl, inc_snoc hs (by omega) (by rw [show lo + (x - 1) = lo + x - 1 by omega]; omega)⟩
          case postE =>
            rintro c st6 ⟨e, z, rfl, z1, z2, hs⟩
            rw [e]
            exact wpS_pure (h z st5 hB5 z1 z2 hs)
end
end L2
set_option maxHeartbeats 4000000
namespace L2
open PySem PyProof.Rows
section
variable {prog : Program} {w : World} {A : Around} {E : Value → Shared → Prop} {s : Shared} {kd : SortKind} {D : Value → Prop} {rk : Value → Nat}
theorem tim_binarySort (C : Cmp prog w A s kd D rk) {st0 st : SortSt} {lo nn n ok : Nat} {Q : Bool → SortSt → Prop} (hk : kindOf st0 = kd) (hD : ∀ p ∈ (arrOf st0).toList, D p.1) (hz : lo + nn ≤ (arrOf st0).size) (hn : n ≤ nn) (hok : ok ≤ n) (hB : SB st0 st lo nn) (hs : Inc rk (arrOf st) lo ok)
    (h : ∀ st', SB st0 st' lo nn → Inc rk (arrOf st') lo n → Q true st') : wpS (model prog w) A E s (binarySort' lo n ok) Q st := by
  rw [binarySort'_eq]
  refine wpS_bind (wpS_mono (wpS_forRange (I := fun k c st' => c = (none, ()) ∧ SB st0 st' lo nn ∧ Inc rk (arrOf st') lo (min k n)) (Q := fun c st' => c = (none, ()) ∧ SB st0 st' lo nn ∧ Inc rk (arrOf st') lo n) ?step ?fin ?init) ?post)
  case post =>
    rintro c st' ⟨rfl, hB', hs'⟩
    exact wpS_pure (h st' hB' hs')
  case init =>
    refine ⟨rfl, hB, fun i j hij hj => ?_⟩
    by_cases h1 : ok = 0
    · obtain rfl : i = j := by omega
      exact Nat.le_refl _
    · exact hs i j hij (by omega)
  case fin =>
    rintro c st' ⟨hc, hB', hs'⟩
    refine ⟨hc, hB', ?_⟩
    rwa [show min (max (max ok 1) n) n = n by omega] at hs'
  case step =>
    rintro k c st1 hak hkn ⟨rfl, hB', hs'⟩
    rw [show min k n = k by omega] at hs'
    refine wpS_bind (wpS_mono (wpS_forRange (I := fun x c st'' => st'' = st1 ∧ ∃ l r, c = (none, l, r) ∧ l ≤ r ∧ r ≤ k ∧ r - l ≤ k - x ∧ (∀ i, i < l → ra rk (arrOf st1) (lo + i) ≤ ra rk (arrOf st1) (lo + k)) ∧ (∀ i, r ≤ i → i < k → ra rk (arrOf st1) (lo + k) < ra rk (arrOf st1) (lo + i)))
      (Q := fun c st'' => st'' = st1 ∧ ∃ l r, c = (none, l, r) ∧ l ≤ k ∧ (∀ i, i < l → ra rk (arrOf st1) (lo + i) ≤ ra rk (arrOf st1) (lo + k)) ∧ (∀ i, l ≤ i → i < k → ra rk (arrOf st1) (lo + k) < ra rk (arrOf st1) (lo + i))) ?istep ?ifin ?iinit) ?ipost)
    case iinit => exact ⟨rfl, 0, k, rfl, by omega, by omega, by omega, fun i hi => by omega, fun i h1 h2 => by omega⟩
    case ifin =>
      rintro c st2 ⟨e, l, r, rfl, hlr, hrk, hm, hlo, hhi⟩
      obtain rfl : l = r := by omega
      exact ⟨e, l, l, rfl, hrk, hlo, hhi⟩
    case istep =>
      rintro x c st2 _ hxk ⟨e, l, r, rfl, hlr, hrk, hm, hlo, hhi⟩
      rw [e]
      dsimp only
      by_cases hge : l ≥ r
      · rw [if_pos hge]
        obtain rfl : l = r := by omega
        exact wpS_pure ⟨rfl, l, l, rfl, hrk, hlo, hhi⟩
      · rw [if_neg hge]
        refine wpS_bind (tim_ltAt C hB' hk hD (by omega) (by omega) ?_)
        dsimp only
        by_cases hless : ra rk (arrOf st1) (lo + k) < ra rk (arrOf st1) (lo + (l + r) / 2)
        · rw [if_pos (decide_eq_true hless)]
          exact wpS_pure ⟨rfl, l, (l + r) / 2, rfl, by omega, by omega, by omega, hlo, fun i h1 h2 => Nat.lt_of_lt_of_le hless (hs' _ _ h1 h2)⟩
        · rw [if_neg (by rw [decide_eq_false hless]; exact Bool.false_ne_true)]
          exact wpS_pure ⟨rfl, (l + r) / 2 + 1, r, rfl, by omega, by omega, by omega, fun i h1 => Nat.le_trans (hs' i ((l + r) / 2) (by omega) (by omega)) (by omega), hhi⟩
    case ipost =>
      rintro c st2 ⟨e, l, r, rfl, hlk, hlo, hhi⟩
      rw [e]
      show wpS _ _ _ _ (do moveDown' (lo + k) (lo + l); pure (ForInStep.yield (none, ()))) _ _
      rw [moveDown'_eq]
      refine wpS_bind (wpS_modify (wpS_pure ⟨rfl, hB'.bubb (by omega) (by omega) hz, ?_⟩))
      rw [show min (k + 1) n = k + 1 by omega]
      have hks : lo + k < (arrOf st1).size := by rw [hB'.size]; omega
      intro i j hij hj
      show ra rk (bubble (arrOf st1) (lo + k) (lo + k - (lo + l))) (lo + i) ≤ ra rk (bubble (arrOf st1) (lo + k) (lo + k - (lo + l))) (lo + j)
      rw [ra_bubble hks (by omega), ra_bubble hks (by omega), show lo + k - (lo + k - (lo + l)) = lo + l by omega]
      have s1 : ∀ z, l < z → lo + z - 1 = lo + (z - 1) := fun z hz => by omega
      by_cases a1 : lo + i = lo + l
      · rw [if_pos a1]
        by_cases a2 : lo + j = lo + l
        · rw [if_pos a2]; exact Nat.le_refl _
        · rw [if_neg a2, if_pos (by omega), s1 j (by omega)]
          exact Nat.le_of_lt (hhi _ (by omega) (by omega))
      · rw [if_neg a1]
        by_cases a3 : lo + l < lo + i ∧ lo + i ≤ lo + k
        · rw [if_pos a3, if_neg (by omega), if_pos (by omega), s1 i (by omega), s1 j (by omega)]
          exact hs' _ _ (by omega) (by omega)
        · rw [if_neg a3]
          by_cases a2 : lo + j = lo + l
          · rw [if_pos a2]; exact hlo _ (by omega)
          · rw [if_neg a2]
            by_cases a4 : lo + l < lo + j ∧ lo + j ≤ lo + k
            · rw [if_pos a4, s1 j (by omega)]
              exact hs' _ _ (by omega) (by omega)
            · rw [if_neg a4]
              exact hs' _ _ hij (by omega)
end
end L2
set_option maxHeartbeats 4000000
namespace L2
open PySem PyProof.Rows
noncomputable def Runs (rk : Value → Nat) : Nat → List (Nat × Nat × Nat) → List Keyed → Prop
  | _, [], L => L = []
  | b, x :: ps, L => x.1 = b ∧ 0 < x.2.1 ∧ ∃ l L', L = l ++ L' ∧ l.length = x.2.1 ∧ Up rk l ∧ Runs rk (b + x.2.1) ps L'
section
variable {rk : Value → Nat}
theorem Runs.app : ∀ {ps1 ps2 : List (Nat × Nat × Nat)} {b : Nat} {L : List Keyed}, Runs rk b (ps1 ++ ps2) L → ∃ L1 L2, L = L1 ++ L2 ∧ Runs rk b ps1 L1 ∧ Runs rk (b + L1.length) ps2 L2
  | [], ps2, b, L, h => ⟨[], L, rfl, rfl, h⟩
  | x :: ps1, ps2, b, L, ⟨h1, h2, l, L', e, hl, u, r⟩ => by
    obtain ⟨L1, L2, e2, r1, r2⟩ := Runs.app r
    refine ⟨l ++ L1, L2, by rw [e, e2, List.append_assoc], ⟨h1, h2, l, L1, rfl, hl, u, r1⟩, ?_⟩
    rw [List.length_append, ← Nat.add_assoc, hl]
    exact r2
theorem Runs.put : ∀ {ps1 ps2 : List (Nat × Nat × Nat)} {b : Nat} {L1 L2 : List Keyed}, Runs rk b ps1 L1 → Runs rk (b + L1.length) ps2 L2 → Runs rk b (ps1 ++ ps2) (L1 ++ L2)
  | [], ps2, b, L1, L2, h, r => by
    cases (show L1 = [] from h)
    exact r
  | x :: ps1, ps2, b, L1, L2, ⟨h1, h2, l, L', e, hl, u, r1⟩, r => by
    subst e
    refine ⟨h1, h2, l, L' ++ L2, by rw [List.append_assoc], hl, u, Runs.put r1 ?_⟩
    rw [List.length_append, ← Nat.add_assoc, hl] at r
    exact r
theorem Runs.len : ∀ {ps : List (Nat × Nat × Nat)} {b : Nat} {L : List Keyed}, Runs rk b ps L → ps.length ≤ L.length
  | [], _, _, _ => Nat.zero_le _
  | x :: ps, b, L, ⟨h1, h2, l, L', e, hl, u, r⟩ => by
    have := Runs.len r
    rw [e, List.length_append, List.length_cons]
    omega
theorem Runs.pow : ∀ {ps qs : List (Nat × Nat × Nat)} {b : Nat} {L : List Keyed}, Runs rk b ps L → ps.map (fun x => (x.1, x.2.1)) = qs.map (fun x => (x.1, x.2.1)) → Runs rk b qs L
  | [], [], _, _, h, _ => h
  | [], _ :: _, _, _, _, e => by simp at e
  | _ :: _, [], _, _, _, e => by simp at e
  | x :: ps, y :: qs, b, L, ⟨h1, h2, l, L', e, hl, u, r⟩, q => by
    simp only [List.map_cons, List.cons.injEq, Prod.mk.injEq] at q
    obtain ⟨⟨q1, q2⟩, q3⟩ := q
    refine ⟨q1.symm.trans h1, by omega, l, L', e, by omega, u, ?_⟩
    rw [← q2]
    exact Runs.pow r q3
end
structure Core (kd : SortKind) (rk : Value → Nat) (a₀ : Array Keyed) (lo : Nat) (R : List Keyed) (st : SortSt) : Prop where
  kind : kindOf st = kd
  failed : failedOf st = none
  perm : (arrOf st).Perm a₀
  runs : ∃ L, (arrOf st).toList = L ++ R ∧ L.length = lo ∧ Runs rk 0 (pendingOf st).toList L
section
variable {prog : Program} {w : World} {A : Around} {E : Value → Shared → Prop} {s : Shared} {kd : SortKind} {D : Value → Prop} {rk : Value → Nat} {a₀ : Array Keyed}
theorem Core.dom {lo : Nat} {R : List Keyed} {st : SortSt} (h : Core kd rk a₀ lo R st) (hD : ∀ p ∈ a₀.toList, D p.1) : ∀ p ∈ (arrOf st).toList, D p.1 := fun p hp => hD p ((Array.perm_iff_toList_perm.mp h.perm).mem_iff.mp hp)
theorem core_merge (C : Cmp prog w A s kd D rk) (hD : ∀ p ∈ a₀.toList, D p.1) {lo : Nat} {R : List Keyed} {st : SortSt} {i : Nat} {Q : Bool → SortSt → Prop} (hc : Core kd rk a₀ lo R st) (hi : i + 1 < (pendingOf st).size)
    (h : ∀ st', Core kd rk a₀ lo R st' → (pendingOf st').size + 1 = (pendingOf st).size → Q true st') : wpS (model prog w) A E s (mergeAt' i) Q st := by
  obtain ⟨L, eL, hL, hr⟩ := hc.runs
  have hlen : (pendingOf st).toList.length = (pendingOf st).size := Array.length_toList
  generalize hps : (pendingOf st).toList = ps at hr hlen
  have e0 : ps = ps.take i ++ ps.drop i := (List.take_append_drop i ps).symm
  obtain ⟨x, y, ps2, e1⟩ : ∃ x y ps2, ps.drop i = x :: y :: ps2 := by
    have h1 : i < ps.length := by omega
    have h2 : i + 1 < ps.length := by omega
    exact ⟨_, _, _, by rw [List.drop_eq_getElem_cons h1, List.drop_eq_getElem_cons h2]⟩
  rw [e0, e1] at hr
  obtain ⟨L1, L2, e2, r1, r2⟩ := Runs.app hr
  obtain ⟨g1, g2, la, L3, e3, g3, g4, g5, g6, lb, L4, e4, g7, g8, g9⟩ := r2
  obtain ⟨xa, xn, xp⟩ := x
  obtain ⟨ya, yn, yp⟩ := y
  dsimp only at *
  rw [Nat.zero_add] at g1
  subst e3 e4
  refine tim_mergeAt C (P := L1) (la := la) (lb := lb) (R := L4 ++ R) (ps1 := ps.take i) (ps2 := ps2) (sa := xa) (na := xn) (pw := xp) (sb := ya) (nb := yn) (pw2 := yp) hc.kind hc.failed (hc.dom hD) (by rw [hps]; rw [← e1]; exact e0) (by rw [List.length_take]; omega) (by rw [eL, e2]; simp [List.append_assoc]) g1.symm g3 (by omega) g7 g2 g6 g4 g8 fun st' l k1 k2 mm k3 k4 => ?_
  refine h st' ⟨k1, k2, ?_, L1 ++ (l ++ L4), by rw [k3]; simp [List.append_assoc], ?_, ?_⟩ ?_
  · refine Array.perm_iff_toList_perm.mpr ((?_ : (arrOf st').toList.Perm (arrOf st).toList).trans (Array.perm_iff_toList_perm.mp hc.perm))
    rw [k3, eL, e2]
    have := mm.1
    simp only [List.append_assoc]
    refine List.Perm.append_left _ ?_
    rw [← List.append_assoc la]
    exact List.Perm.append_right _ this
  · have q := mm.1.length_eq
    rw [List.length_append] at q
    rw [← hL, e2]
    simp only [List.length_append]
    omega
  · rw [k4]
    refine Runs.put r1 ⟨by rw [Nat.zero_add]; exact g1, (by show 0 < xn + yn; omega), l, L4, rfl, by rw [mm.1.length_eq, List.length_append, g3, g7], mm.2, ?_⟩
    rw [← Nat.add_assoc]
    exact g9
  · have : (pendingOf st').toList.length + 1 = ps.length := by
      rw [k4, e0, e1]
      simp
      omega
    rw [Array.length_toList] at this
    omega
theorem modify_map {α β : Type} (f : α → α) (g : α → β) (hfg : ∀ x, g (f x) = g x) : ∀ (l : List α) (i : Nat), (l.modify i f).map g = l.map g
  | [], i => by simp
  | x :: l, 0 => by simp [hfg]
  | x :: l, i + 1 => by simp [modify_map f g hfg l i]
theorem Core.rest {lo : Nat} {R : List Keyed} {st : SortSt} (h : Core kd rk a₀ lo R st) : lo + R.length = a₀.size := by
  obtain ⟨L, e, hL, _⟩ := h.runs
  rw [← h.perm.size_eq, ← Array.length_toList, e, List.length_append, hL]
theorem Core.pow {lo : Nat} {R : List Keyed} {st : SortSt} (h : Core kd rk a₀ lo R st) (i pw : Nat) : Core kd rk a₀ lo R (setPending st ((pendingOf st).modify i fun x => (x.fst, x.2.fst, pw))) := by
  obtain ⟨L, e, hL, r⟩ := h.runs
  refine ⟨h.kind, h.failed, h.perm, L, e, hL, r.pow ?_⟩
  show _ = List.map _ ((pendingOf st).modify i fun x => (x.fst, x.2.fst, pw)).toList
  rw [Array.toList_modify]
  exact (modify_map (fun x : Nat × Nat × Nat => (x.1, x.2.1, pw)) (fun x => (x.1, x.2.1)) (fun x => rfl) _ _).symm
theorem Core.push {lo n : Nat} {l R : List Keyed} {st : SortSt} (h : Core kd rk a₀ lo (l ++ R) st) (hl : l.length = n) (h1 : 1 ≤ n) (u : Up rk l) : Core kd rk a₀ (lo + n) R (setPending st ((pendingOf st).push (lo, n, 0))) := by
  obtain ⟨L, e, hL, r⟩ := h.runs
  refine ⟨h.kind, h.failed, h.perm, L ++ l, by rw [List.append_assoc]; exact e, by rw [List.length_append, hL, hl], ?_⟩
  show Runs rk 0 ((pendingOf st).push (lo, n, 0)).toList (L ++ l)
  rw [Array.toList_push]
  exact r.put ⟨by rw [Nat.zero_add]; exact hL.symm, h1, l, [], by simp, hl, u, rfl⟩
theorem Core.found {lo n : Nat} {R : List Keyed} {st st2 : SortSt} (h : Core kd rk a₀ lo R st) (hB : SB st st2 lo (a₀.size - lo)) (hi : Inc rk (arrOf st2) lo n) (hn : n ≤ a₀.size - lo) : ∃ l R', Core kd rk a₀ lo (l ++ R') st2 ∧ l.length = n ∧ Up rk l := by
  have hr := h.rest
  obtain ⟨L, e, hL, r⟩ := h.runs
  have hsz : (arrOf st2).size = a₀.size := hB.size.trans h.perm.size_eq
  have et : (arrOf st2).toList.take lo = L := by
    refine List.ext_getElem? fun i => ?_
    by_cases q : i < lo
    · rw [List.getElem?_take_of_lt q, Array.getElem?_toList, hB.out i (.inl q), ← Array.getElem?_toList, e, List.getElem?_append_left (by omega)]
    · rw [List.getElem?_eq_none (by rw [List.length_take]; omega), List.getElem?_eq_none (by omega)]
  have e2 : (arrOf st2).toList = L ++ ((((arrOf st2).toList.drop lo).take n) ++ (((arrOf st2).toList.drop lo).drop n)) := by
    rw [List.take_append_drop, ← et, List.take_append_drop]
  have hl : (((arrOf st2).toList.drop lo).take n).length = n := by
    rw [List.length_take, List.length_drop, Array.length_toList]
    omega
  refine ⟨_, _, ⟨hB.kind.trans h.kind, hB.failed.trans h.failed, hB.perm.trans h.perm, L, e2, hL, by rw [hB.pend]; exact r⟩, hl, ?_⟩
  refine List.pairwise_iff_getElem.mpr fun i j hi' hj' hij => ?_
  have at' : ∀ i (hi : i < (((arrOf st2).toList.drop lo).take n).length), rk ((((arrOf st2).toList.drop lo).take n)[i]).1 = ra rk (arrOf st2) (lo + i) := fun i hi => by
    have q : (((arrOf st2).toList.drop lo).take n)[i]? = (arrOf st2)[lo + i]? := by rw [List.getElem?_take_of_lt (by omega), List.getElem?_drop, Array.getElem?_toList]
    rw [List.getElem?_eq_getElem hi] at q
    unfold ra
    rw [← q]
  rw [at' i hi', at' j hj']
  exact hi i j (by omega) (by omega)
theorem tim_sortRuns (C : Cmp prog w A s kd D rk) (hD : ∀ p ∈ a₀.toList, D p.1) {st : SortSt} {Q : Unit → SortSt → Prop} (hk : kindOf st = kd) (hf : failedOf st = none) (hp : (arrOf st).Perm a₀) (hq : pendingOf st = #[])
    (h : ∀ st', (arrOf st').Perm a₀ → failedOf st' = none → Up rk (arrOf st').toList → Q () st') : wpS (model prog w) A E s sortRuns' Q st := by
  have hsz : (arrOf st).size = a₀.size := hp.size_eq
  rw [sortRuns'_eq]
  refine wpS_bind (wpS_get ?_)
  dsimp only
  rw [hsz]
  generalize minRun' a₀.size a₀.size 0 = mr
  refine wpS_bind (wpS_mono (wpS_forRange (I := fun x c st' => ∃ lo R, c = (none, lo) ∧ x ≤ lo ∧ lo ≤ a₀.size ∧ Core kd rk a₀ lo R st') (Q := fun c st' => c = (none, a₀.size) ∧ Core kd rk a₀ a₀.size [] st') ?step ?fin ⟨0, (arrOf st).toList, rfl, Nat.le_refl _, Nat.zero_le _, hk, hf, hp, [], rfl, rfl, by rw [hq]; exact rfl⟩) ?post)
  case fin =>
    rintro c st' ⟨lo, R, rfl, h1, h2, hc⟩
    obtain rfl : lo = a₀.size := by omega
    have hR : R = [] := List.eq_nil_of_length_eq_zero (by have := hc.rest; omega)
    exact ⟨rfl, hR ▸ hc⟩
  case step =>
    rintro x c st1 _ hx ⟨lo, R, rfl, h1, h2, hc⟩
    dsimp only
    by_cases hlo : lo ≥ a₀.size
    · rw [if_pos hlo]
      obtain rfl : lo = a₀.size := by omega
      have hR : R = [] := List.eq_nil_of_length_eq_zero (by have := hc.rest; omega)
      exact wpS_pure ⟨rfl, hR ▸ hc⟩
    rw [if_neg hlo]
    have hz : lo + (a₀.size - lo) ≤ (arrOf st1).size := by rw [hc.perm.size_eq]; omega
    refine wpS_bind (tim_countRun C hc.kind (hc.dom hD) hz (by omega) fun m st2 hB m1 m2 hi => ?_)
    dsimp only
    by_cases hm : m < mr
    case' pos =>
      rw [if_pos hm]
      refine wpS_bind (wpS_lift (wpAny_rule ⟨rfl, ?_⟩))
      refine wpS_bind (tim_binarySort C hc.kind (hc.dom hD) hz (n := min (a₀.size - lo) mr) (by omega) (by omega) hB hi fun st3 hB3 hi3 => ?_)
      rw [if_neg (by simp)]
      have n1 : 1 ≤ min (a₀.size - lo) mr := by omega
      have n2 : min (a₀.size - lo) mr ≤ a₀.size - lo := by omega
      generalize min (a₀.size - lo) mr = n at *
    case' neg =>
      rw [if_neg hm]
      have n1 := m1
      have n2 := m2
      have hi3 := hi
      have hB3 := hB
      generalize hn : m = n at *
      generalize hst3 : st2 = st3 at *
    all_goals
      obtain ⟨l, R', hc3, hl, hu⟩ := hc.found hB3 hi3 n2
      refine wpS_bind (wpS_get ?_)
      have hpush : ∀ st4 : SortSt, Core kd rk a₀ lo (l ++ R') st4 → ∃ lo' R, ((none : Option Unit), lo + n) = (none, lo') ∧ x + 1 ≤ lo' ∧ lo' ≤ a₀.size ∧ Core kd rk a₀ lo' R (setPending st4 ((pendingOf st4).push (lo, n, 0))) := fun st4 h4 => ⟨lo + n, R', rfl, by omega, by omega, h4.push hl n1 hu⟩
      cases hb : (pendingOf st3).back? with
      | none => exact wpS_bind (wpS_modify (wpS_pure (hpush st3 hc3)))
      | some q =>
        obtain ⟨s1, nn1, pp⟩ := q
        refine wpS_bind (wpS_mono (wpS_forRange (I := fun _ c st' => c = (none, ()) ∧ Core kd rk a₀ lo (l ++ R') st') (Q := fun c st' => c = (none, ()) ∧ Core kd rk a₀ lo (l ++ R') st') ?stepM (fun _ _ z => z) ⟨rfl, hc3⟩) ?postM)
        case postM =>
          rintro c st4 ⟨rfl, h4⟩
          exact wpS_bind (wpS_modify (wpS_bind (wpS_modify (wpS_pure (hpush _ (h4.pow _ _))))))
        case stepM =>
          rintro y c st4 _ hy ⟨rfl, h4⟩
          refine wpS_bind (wpS_get ?_)
          by_cases hs : (pendingOf st4).size > 1
          · rw [if_pos hs]
            have hlt : (pendingOf st4).size - 2 < (pendingOf st4).size := by omega
            rw [getElem?_pos (pendingOf st4) ((pendingOf st4).size - 2) hlt]
            dsimp only
            split
            · exact wpS_pure ⟨rfl, h4⟩
            · refine wpS_bind (core_merge C hD h4 (by omega) fun st5 h5 _ => ?_)
              rw [if_neg (by simp)]
              exact wpS_pure ⟨rfl, h5⟩
          · rw [if_neg hs]
            exact wpS_pure ⟨rfl, h4⟩
  case post =>
    rintro c st1 ⟨rfl, hc⟩
    have hps : (pendingOf st1).size ≤ a₀.size := by
      obtain ⟨L, e, hL, r⟩ := hc.runs
      have := r.len
      rw [Array.length_toList] at this
      omega
    refine wpS_bind (wpS_mono (wpS_forRange (I := fun x c st' => c = (none, ()) ∧ Core kd rk a₀ a₀.size [] st' ∧ ((pendingOf st').size ≤ 1 ∨ (pendingOf st').size + x ≤ a₀.size)) (Q := fun c st' => c = (none, ()) ∧ Core kd rk a₀ a₀.size [] st' ∧ (pendingOf st').size ≤ 1) ?stepF ?finF ⟨rfl, hc, .inr (by omega)⟩) ?postF)
    case finF =>
      rintro c st2 ⟨rfl, h2, h3⟩
      exact ⟨rfl, h2, by rcases h3 with h3 | h3 <;> omega⟩
    case stepF =>
      rintro y c st2 _ hy ⟨rfl, h2, h3⟩
      refine wpS_bind (wpS_get ?_)
      by_cases hs : (pendingOf st2).size ≤ 1
      · rw [if_pos hs]
        exact wpS_pure ⟨rfl, h2, hs⟩
      · rw [if_neg hs]
        have hix : ∀ (c : Prop) [Decidable c], (if c then (pendingOf st2).size - 2 - 1 else (pendingOf st2).size - 2) + 1 < (pendingOf st2).size := fun c _ => by split <;> omega
        refine wpS_bind (core_merge C hD h2 (hix _) fun st5 h5 h6 => ?_)
        rw [if_neg (by simp)]
        exact wpS_pure ⟨rfl, h5, .inr (by omega)⟩
    case postF =>
      rintro c st2 ⟨rfl, h2, h3⟩
      refine wpS_pure (h st2 h2.perm h2.failed ?_)
      obtain ⟨L, e, hL, r⟩ := h2.runs
      rw [e, List.append_nil]
      have hlen : (pendingOf st2).toList.length ≤ 1 := by rw [Array.length_toList]; exact h3
      generalize (pendingOf st2).toList = ps at r hlen
      match ps, r, hlen with
      | [], r, _ => cases (show L = [] from r); exact .nil
      | [p], ⟨_, _, l, L', e2, _, u, r2⟩, _ =>
        cases (show L' = [] from r2)
        rw [e2, List.append_nil]
        exact u
      | _ :: _ :: _, _, hlen => simp at hlen
end
end L2
set_option maxHeartbeats 4000000
namespace L2
open PySem PyProof.Rows
theorem count_less {α : Type} {p q : α → Bool} : ∀ {l : List α}, (∀ z ∈ l, p z = true → q z = true) → l.countP p ≤ l.countP q
  | [], _ => Nat.le_refl _
  | x :: l, h => by
    have ih := count_less (p := p) (q := q) (l := l) fun z hz => h z (List.mem_cons_of_mem _ hz)
    rw [List.countP_cons, List.countP_cons]
    have hx := h x List.mem_cons_self
    cases e : p x with
    | true => rw [hx e]; simp; exact ih
    | false => simp; split <;> omega
theorem count_under {α : Type} {p q : α → Bool} {a : α} : ∀ {l : List α}, (∀ z ∈ l, p z = true → q z = true) → a ∈ l → q a = true → p a = false → l.countP p < l.countP q
  | x :: l, h, ha, h1, h2 => by
    have sub : ∀ z ∈ l, p z = true → q z = true := fun z hz => h z (List.mem_cons_of_mem _ hz)
    rw [List.countP_cons, List.countP_cons]
    rcases List.mem_cons.mp ha with rfl | ha
    · have := count_less sub
      rw [h1, h2]; simp; omega
    · have ih := count_under sub ha h1 h2
      have hx := h x List.mem_cons_self
      cases e : p x with
      | true => rw [hx e]; simp; exact ih
      | false => simp; split <;> omega
noncomputable def rankIn (O : KeyOrd) (l : List O.α) (x : O.α) : Nat := l.countP fun z => O.blt z x
theorem rank_lt {O : KeyOrd} {l : List O.α} {a b : O.α} (ha : a ∈ l) : decide (rankIn O l a < rankIn O l b) = O.blt a b := by
  cases e : O.blt a b with
  | true => exact decide_eq_true (count_under (fun z _ hz => O.trans z a b hz e) ha e (O.irrefl a))
  | false =>
    refine decide_eq_false (Nat.not_lt.mpr (count_less fun z _ hz => ?_))
    rcases O.negTrans z a b hz with q | q
    · exact q
    · rw [e] at q; cases q
theorem rank_le {O : KeyOrd} {l : List O.α} {a b : O.α} (hb : b ∈ l) (h : rankIn O l a ≤ rankIn O l b) : O.blt b a = false := by
  rw [← rank_lt (l := l) hb]
  exact decide_eq_false (by omega)
section
variable {prog : Program} {w : World} {A : Around} {E : Value → Shared → Prop} {s : Shared} {kd : SortKind} {D : Value → Prop} {rk : Value → Nat}
theorem list_sort_tim {a : Addr} {vs : List Value} {n : Nat} {P : PySem.Fin → Shared → Prop} (C : ∀ s', Cmp prog w A s' kd D rk) (hD : ∀ v ∈ vs, D v) (ho : s.heap.get? a = some (seqObj "list" vs.toArray n)) (hkk : 2 ≤ vs.length → keyKind' vs.toArray = pure kd) (hlen : vs.length ≤ 1000)
    (h : ∀ st' : SortSt, (arrOf st').Perm (pairsOf vs) → Up rk (arrOf st').toList → P (.done (.ret .none)) { s with heap := sortedHeap s.heap a vs ((arrOf st').map (·.2)) }) : wpAny (model prog w) A (Builtin.«list.sort» ⟨[.ref a], []⟩) P E s := by
  have room : vs.toArray.size ≤ sizeLine := by rw [List.size_toArray, sizeLine_eq]; omega
  rw [list_sort_plain]
  have ha : a < s.heap.objs.size := Heap.lt_size ho
  refine wpAny_bind (listItems_at ho rfl (wpAny_bind (listUpdate_at ho rfl ?_ room (by simp))))
  obtain ⟨e1, ho1⟩ : ∃ e1, (s.heap.update a (Obj.mapSeq fun _ => #[])).get? a = some (seqObj "list" #[] e1) := ⟨_, get?_update_seq ho (fun _ => #[])⟩
  refine wpAny_bind (seqEpoch_at ho1 rfl (wpAny_bind (wpAny_newTuple ?_ (hsz := by simpa using room))))
  refine wpAny_bind (wpAny_newList (wpAny_holding ?_))
  generalize hG : ((s.heap.update a (Obj.mapSeq fun _ => #[])).push (seqObj "tuple" vs.toArray 0)).push (seqObj "list" #[] 0) = G
  have ho6 : G.get? a = some (seqObj "list" #[] e1) := by
    subst hG
    exact Heap.get?_push_of_some _ (Heap.get?_push_of_some _ ho1)
  show wpAny (model prog w) A _ P E { s with heap := G }
  by_cases h2 : vs.toArray.size < 2
  case' pos =>
    rw [if_pos h2, if_pos h2]
    refine wpAny_bind (wpAny_pure (wpAny_bind ?_))
    rw [StateT.run_pure]
    refine wpAny_pure ?_
    have hf : failedOf (SortSt.mk' general' (vs.toArray.zip vs.toArray) #[] 7 none) = none := rfl
    have hp : (arrOf (SortSt.mk' general' (vs.toArray.zip vs.toArray) #[] 7 none)).Perm (pairsOf vs) := Array.Perm.refl _
    have hu : Up rk (arrOf (SortSt.mk' general' (vs.toArray.zip vs.toArray) #[] 7 none)).toList := by
      have hl : (vs.toArray.zip vs.toArray).toList.length ≤ 1 := by simp at h2 ⊢; omega
      show Up rk (vs.toArray.zip vs.toArray).toList
      generalize (vs.toArray.zip vs.toArray).toList = l at hl
      match l, hl with
      | [], _ => exact .nil
      | [x], _ => exact List.pairwise_singleton _ _
      | _ :: _ :: _, hl => simp at hl
    generalize SortSt.mk' general' (vs.toArray.zip vs.toArray) #[] 7 none = st' at *
  case' neg =>
    rw [if_neg h2, if_neg h2, hkk (by simpa using h2)]
    refine wpAny_bind (wpAny_pure (wpAny_bind (wpAny_mono (tim_sortRuns (C { s with heap := G }) (a₀ := pairsOf vs) (st := SortSt.mk' kd (vs.toArray.zip vs.toArray) #[] 7 none) (Q := fun _ st' => failedOf st' = none ∧ (arrOf st').Perm (pairsOf vs) ∧ Up rk (arrOf st').toList) (fun p hp => ?_) rfl rfl (Array.Perm.refl _) rfl fun st' a1 a2 a3 => ⟨a2, a1, a3⟩) ?_ fun _ _ e => e)))
    case refine_1 =>
      refine hD _ ?_
      unfold pairsOf at hp
      simp at hp
      exact (List.of_mem_zip hp).1
    rintro ⟨⟨⟩, st'⟩ s' ⟨rfl, hf, hp, hu⟩
  all_goals
    have hz : ((arrOf st').map (·.2)).size ≤ sizeLine + 1 := by
      rw [Array.size_map, hp.size_eq, pairsOf_size, sizeLine_eq]; omega
    refine wpAny_bind (seqEpoch_at ho6 rfl (wpAny_bind (listUpdate_at ho6 rfl ?_ (by simp) hz)))
    dsimp only
    rw [hf]
    simp only [bne_self_eq_false, Bool.false_eq_true, if_false]
    have q := h st' hp hu
    unfold sortedHeap at q
    rw [hG] at q
    exact wpAny_pure q
end
end L2
set_option maxHeartbeats 4000000
namespace L2
open PySem PyProof.Rows
noncomputable def intOrd : KeyOrd where
  α := Int
  blt := fun a b => decide (a < b)
  irrefl := fun a => by simp
  trans := fun a b c h1 h2 => by simp only [decide_eq_true_eq] at *; omega
  negTrans := fun a b c h => by simp only [decide_eq_true_eq] at *; omega
  total := fun a b h1 h2 => by simp only [decide_eq_false_iff_not] at *; omega
noncomputable def rkI (ns : List Int) : Value → Nat
  | .int i _ => rankIn intOrd ns i
  | _ => 0
noncomputable def DI (ns : List Int) (v : Value) : Prop := ∃ i t, v = .int i t ∧ i ∈ ns
theorem ints_all : ∀ {us : List Value} {ns : List Int}, IntsAre us ns → ∀ u ∈ us, DI ns u
  | _, _, .nil, u, hu => nomatch hu
  | _, _, .cons i t r, u, hu => by
    rcases List.mem_cons.mp hu with rfl | hu
    · exact ⟨i, t, rfl, List.mem_cons_self⟩
    · obtain ⟨j, q, e, hj⟩ := ints_all r u hu
      exact ⟨j, q, e, List.mem_cons_of_mem _ hj⟩
theorem ints_by : ∀ (us : List Value), (∀ u ∈ us, ∃ i t, u = Value.int i t) → IntsAre us (us.map numOf)
  | [], _ => .nil
  | u :: us, h => by
    obtain ⟨i, t, rfl⟩ := h u List.mem_cons_self
    exact .cons i t (ints_by us fun v hv => h v (List.mem_cons_of_mem _ hv))
section
variable {prog : Program} {w : World} {A : Around} {E : Value → Shared → Prop} {s : Shared}
theorem cmpI (ns : List Int) : Cmp prog w A s oneType' (DI ns) (rkI ns) := by
  rintro E x y Q ⟨i, t, rfl, hi⟩ ⟨j, u, rfl, hj⟩ h
  rw [keyLt'_oneType]
  refine oneLt_int ?_
  have e : decide (rkI ns (.int i t) < rkI ns (.int j u)) = decide (i < j) := rank_lt (O := intOrd) hi
  rw [← e]
  exact h
theorem list_sort_int {a : Addr} {vs : List Value} {ns : List Int} {n : Nat} {P : PySem.Fin → Shared → Prop} (ho : s.heap.get? a = some (seqObj "list" vs.toArray n)) (hI : IntsAre vs ns) (hlen : vs.length ≤ 1000)
    (h : ∀ (out : Array Value) (ns' : List Int), IntsAre out.toList ns' → ns'.Perm ns → ns'.Pairwise (· ≤ ·) → P (.done (.ret .none)) { s with heap := sortedHeap s.heap a vs out }) : wpAny (model prog w) A (Builtin.«list.sort» ⟨[.ref a], []⟩) P E s := by
  refine list_sort_tim (fun s' => cmpI ns) (ints_all hI) ho (fun h2 => ?_) hlen fun st' hp hu => ?_
  · match vs, hI, h2 with
    | [], _, h2 => simp at h2
    | [_], _, h2 => simp at h2
    | v₁ :: v₂ :: rest, hI, _ => exact keyKind_ints hI
  · have hl : (arrOf st').toList.Perm (vs.zip vs) := by
      have := Array.perm_iff_toList_perm.mp hp
      unfold pairsOf at this
      simpa using this
    have mem : ∀ p ∈ (arrOf st').toList, p.1 = p.2 ∧ p.1 ∈ vs := fun p hp' => by
      have q := hl.mem_iff.mp hp'
      have zz : ∀ (l : List Value) (p : Value × Value), p ∈ l.zip l → p.1 = p.2 := fun l => by
        induction l with
        | nil => intro p hp; simp at hp
        | cons x l ih =>
          intro p hp
          rw [List.zip_cons_cons] at hp
          rcases List.mem_cons.mp hp with rfl | hp
          · rfl
          · exact ih p hp
      exact ⟨zz _ p q, (List.of_mem_zip q).1⟩
    have el : ((arrOf st').map (·.2)).toList = (arrOf st').toList.map (·.2) := by simp
    refine h _ (((arrOf st').toList.map (·.2)).map numOf) ?_ ?_ ?_
    · rw [el]
      refine ints_by _ fun u hu' => ?_
      obtain ⟨p, hp', rfl⟩ := List.mem_map.mp hu'
      obtain ⟨e, hm⟩ := mem p hp'
      obtain ⟨i, t, e2, _⟩ := ints_all hI p.1 hm
      exact ⟨i, t, e ▸ e2⟩
    · have q := (hl.map (·.2)).map numOf
      have e2 : (vs.zip vs).map (·.2) = vs := List.map_snd_zip (Nat.le_refl _)
      rw [e2, hI.nums] at q
      exact q
    · rw [List.pairwise_map, List.pairwise_map]
      refine List.Pairwise.imp_of_mem (fun {x y} hx hy hxy => ?_) hu
      obtain ⟨ex, mx⟩ := mem x hx
      obtain ⟨ey, my⟩ := mem y hy
      obtain ⟨i, t, e1, hi⟩ := ints_all hI x.1 mx
      obtain ⟨j, u, e2, hj⟩ := ints_all hI y.1 my
      rw [e1, e2] at hxy
      rw [← ex, ← ey, e1, e2]
      have := rank_le (O := intOrd) (l := ns) hj hxy
      simp only [intOrd, decide_eq_false_iff_not] at this
      show i ≤ j
      omega
end
end L2
set_option maxHeartbeats 4000000
namespace L2
open PySem PySem.Spec PyProof.Rows
section
variable {prog : Program} {w : World} {A : Around} {E : Value → Shared → Prop} {s : Shared} {T : String} {r d : Addr} {n : Nat} {P : Nat → Value → Prop} {OK : Heap → Prop}
theorem sorted_srcB {ns : List Int} {Q : Value → Shared → Prop} (K : PySem.W.KdlSrc prog w T r d n P OK) (hh : A.handled = none) (hok : OK s.heap) (hn : n ≤ 1000) (hI : ∀ acc : Array Value, ItemsOf P acc n → IntsAre acc.toList ns)
    (hQ : ∀ h' tk p vs' ns' e, (∀ b o, s.heap.get? b = some o → h'.get? b = some o) → s.heap.objs.size ≤ p → h'.get? p = some (seqObj "list" vs' e) → IntsAre vs'.toList ns' → ns'.Perm ns → ns'.Pairwise (· ≤ ·) → Q (.ref p) { s with heap := h', toks := tk }) :
    wpAny (model prog w) A (call (.builtin "sorted") [.ref r]) Q E s := by
  refine Calls.call_function_entry kind_sorted plain_sorted entry_sorted (args_sorted1 _) ?_
  unfold Builtin.«sorted»
  refine wpAny_bind (m := checkCount "sorted" 1 1 _) (wpAny_pure ?_)
  refine wpAny_bind (collect_src K hh hok (by rw [sizeLine_eq]; omega) fun h1 tk acc hk hsz hacc => ?_)
  refine wpAny_bind (wpAny_newList ?_ (hsz := by rw [Array.length_toList, hacc.1, sizeLine_eq]; omega))
  have hoL : (h1.push (seqObj "list" acc.toList.toArray 0)).get? h1.objs.size = some (seqObj "list" acc.toList.toArray 0) := Heap.get?_push_size _ rfl
  show wpAny _ _ _ _ _ { s with heap := h1.push (seqObj "list" acc.toList.toArray 0), toks := tk }
  refine wpAny_bind (wpAny_holding (wpAny_call_entry slot_list_sort ⟨_, hoL, rfl⟩ entry_list_sort (list_sort_int hoL (hI acc hacc) (by rw [Array.length_toList, hacc.1]; exact hn) fun out ns' a1 a2 a3 => ⟨_, rfl, ?_⟩) (args_list_sort _)))
  obtain ⟨e, he⟩ := sortedHeap_at (out := out) hoL
  exact wpAny_pure ⟨_, rfl, hQ _ tk h1.objs.size out ns' e (fun b o eb => by
    rw [sortedHeap_old (Nat.ne_of_lt (Heap.lt_size (hk b o eb))) (by rw [size_push']; exact Nat.lt_succ_of_lt (Heap.lt_size (hk b o eb)))]
    exact Heap.get?_push_of_some _ (hk b o eb)) (Nat.le_of_lt hsz) he a1 a2 a3⟩
end
section
variable {X : Cx}
noncomputable def rSortDB : List V → Hp → VK → Prop := fun xs H Q => ∃ d kvs, ∃ ks : List Int, xs = [.ref d] ∧ H d = some (.dK kvs) ∧ kvs.map (·.1) = ks.map Sum.inl ∧ kvs.length ≤ 1000 ∧
  ∀ p, ∀ ms : List Int, H p = none → ms.Perm ks → ms.Pairwise (· ≤ ·) → Q (.ref p) (upd H p (.lst (ms.map V.int)))
theorem call_sortedDB (hc : X.calm = true) : CallR X (.builtin "sorted") rSortDB := by
  intro pins s σ H xs us Q I r h
  obtain ⟨d, kvs, ks, rfl, hH, hk, h64, q⟩ := h
  obtain ⟨u, rfl, ru⟩ := vals1 r
  cases ru
  obtain ⟨z, hd, vs, rel, dd⟩ := dk_of I.hok hH
  have hlen := rel.length
  obtain ⟨o, es, ep, ho, hx, hdat, hkn, hp, hnd⟩ := id dd
  have hkl : ks.length = kvs.length := by have := congrArg List.length hk; simpa using this.symm
  have hm : s.heap.DictAt (mixKind X.prog X.w) d vs ep := ⟨o, es, ho, hx, hdat, hkn, hp, hnd⟩
  refine sorted_srcB (ns := ks) (PySem.W.kdl_dict (kvs := vs) (ep := ep) hd) (I.ok.hd hc) hm (by omega) (fun acc hacc => ?_) (fun h' tk p vs' ns' e hkp hpz hpe hi hperm hsort => ?_)
  · refine ints_of_ix (by rw [Array.length_toList, hacc.1]; omega) fun i v k hv hki => ?_
    obtain ⟨k', x, hx', hy'⟩ := hacc.2 i v (by rw [← Array.getElem?_toList]; exact hv)
    have e1 : vs.map (·.1) = ks.map Sum.inl := by rw [← hk]; exact rel.keys.symm
    have e2 : (vs.map (·.1))[i]? = some k' := by rw [List.getElem?_map, hx']; rfl
    rw [e1, List.getElem?_map, hki] at e2
    cases e2
    exact keyIs_inl hy'
  · have hv := vals_of_ints hi
    refine ⟨.ref p, upd H p (.lst (ns'.map V.int)), I.laid (t' := tk) hkp hpz (show ObjOk X.prog X.w _ h' _ (.lst (ns'.map V.int)) from ⟨by rw [List.length_map, hperm.length_eq, sizeLine_eq]; omega, vs'.toList, e, hv, hpe⟩), rfl, q p ns' (I.hok.fresh hpz) hperm hsort⟩
end
end L2
set_option maxHeartbeats 4000000
namespace L2
open PySem PySem.Spec PyProof.Rows
section
variable {prog : Program} {w : World} {A : Around} {E : Value → Shared → Prop} {s : Shared} {a : Addr} {ks : List Int}
theorem sorted_setB {Q : Value → Shared → Prop} (hh : A.handled = none) (hS0 : SetR prog w s.heap a ks) (hz : ks.length ≤ 1000)
    (hQ : ∀ h' tk d' p vs' ms e, (∀ b o, s.heap.get? b = some o → h'.get? b = some o) → s.heap.objs.size ≤ p → h'.get? p = some (seqObj "list" vs' e) → IntsAre vs'.toList ms → ms.Nodup → (∀ k, k ∈ ms ↔ k ∈ ks) → ms.length ≤ ks.length → ms.Pairwise (· ≤ ·) → Q (.ref p) { s with heap := h', toks := tk, drawn := d' }) :
    wpAny (model prog w) A (call (.builtin "sorted") [.ref a]) Q E s := by
  refine Calls.call_function_entry kind_sorted plain_sorted entry_sorted (args_sorted1 _) ?_
  unfold Builtin.«sorted»
  refine wpAny_bind (m := checkCount "sorted" 1 1 _) (wpAny_pure ?_)
  refine wpAny_bind (collect_set hh hS0 (by rw [sizeLine_eq]; omega) fun h1 tk d1 vs ms hk hsz hi hnd hmem hle => ?_)
  have hvl : vs.length = ms.length := hi.length
  refine wpAny_bind (wpAny_newList ?_ (hsz := by rw [sizeLine_eq]; omega))
  have hoL : (h1.push (seqObj "list" vs.toArray 0)).get? h1.objs.size = some (seqObj "list" vs.toArray 0) := Heap.get?_push_size _ rfl
  show wpAny _ _ _ _ _ { s with heap := h1.push (seqObj "list" vs.toArray 0), toks := tk, drawn := d1 }
  refine wpAny_bind (wpAny_holding (wpAny_call_entry slot_list_sort ⟨_, hoL, rfl⟩ entry_list_sort (list_sort_int hoL hi (by omega) fun out ns' a1 a2 a3 => ⟨_, rfl, ?_⟩) (args_list_sort _)))
  obtain ⟨e, he⟩ := sortedHeap_at (out := out) hoL
  exact wpAny_pure ⟨_, rfl, hQ _ tk d1 h1.objs.size out ns' e (fun b o eb => by
    rw [sortedHeap_old (Nat.ne_of_lt (Heap.lt_size (hk b o eb))) (by rw [size_push']; exact Nat.lt_succ_of_lt (Heap.lt_size (hk b o eb)))]
    exact Heap.get?_push_of_some _ (hk b o eb)) (Nat.le_of_lt hsz) he a1 (a2.nodup_iff.mpr hnd) (fun k => a2.mem_iff.trans (hmem k)) (by rw [a2.length_eq]; exact hle) a3⟩
end
section
variable {X : Cx} {K : PySem.W.Frag} {e : Expr} {te : TE} {p1 p2 q1 q2 : Pos} {pins : List (Addr × Obj)} {σ : St} {H : Hp} {s : Shared}
noncomputable def tSortSetB (K : PySem.W.Frag) (te : TE) : TE := fun σ H Q => te σ H fun x H1 => ∃ l, ∃ zs : List Int, x = .ref l ∧ SqL K H1 l (zs.map V.int) ∧ zs.length ≤ 1000 ∧
  ∀ D, ∀ ms : List Int, H1 D = none → ms.Pairwise (· < ·) → (∀ k, k ∈ ms ↔ k ∈ zs) → ms.length ≤ zs.length → Q (.ref D) (upd H1 D (.lst (ms.map V.int)))
theorem pe_sortSetB (ek : X.K = K) (hc : X.calm = true) (hm1 : X.mg "sorted" = none) (hm2 : X.mg "set" = none) (hg1 : Gl X "sorted") (hg2 : Gl X "set") (hs : notStar e = true) (he : PE X e te) : PE X (.Call (.Name "sorted" p1) [.Call (.Name "set" p2) [e] [] q2] [] q1) (tSortSetB K te) := by
  subst ek
  intro pins s σ H Q I h
  refine wpAny_Call_Name_kw (ld_blt I hg1 hm1 boot_sorted2 ?_ (by decide) (by decide))
  refine PyProof.Rows.callWith_builtin1 ?_ (star_cons rfl) (back_none rfl)
  rw [star_cons (e := .Call (.Name "set" p2) [e] [] q2) (es := []) rfl]
  refine Calls.spliced_cons (wpAny_Call_Name_kw (ld_blt I hg2 hm2 bt_set ?_ (by decide) (by decide)))
  refine PyProof.Rows.callWith_type1 ?_ (star_cons hs) (back_none rfl)
  rw [star_cons (e := e) (es := []) hs]
  refine Calls.spliced_cons (thn (he pins s σ H _ I h) fun u s1 ⟨x, H1, I1, r1, q1⟩ => Calls.spliced_nil ?_)
  obtain ⟨l, zs, rfl, hq, hz64, q⟩ := q1
  cases r1
  obtain ⟨its, r, pl, hz⟩ := I1.list hq
  have hi : IntsAre its zs := by
    refine ints_of_ix (by rw [← r.length, List.length_map]) fun i v k hv hk => ?_
    obtain ⟨u, hu, ru⟩ := r.get (i := i) (x := V.int k) (by rw [List.getElem?_map, hk]; rfl)
    rw [hv] at hu
    cases hu
    exact ru
  refine set_ofR (I1.ok.hd hc) pl.isList hi (by unfold scanBound; omega) fun h' tk hS hk => Calls.spliced_nil ?_
  refine sorted_setB (s := { s1 with heap := h', toks := tk }) (I1.ok.hd hc) hS hz64 fun h2 tk2 d2 p vs' ms e hk2 hpz hpe hi' hnd hmem hle hso => ?_
  have hsz : s1.heap.objs.size ≤ h'.objs.size := by
    obtain ⟨o, _, _, _, ho, _⟩ := hS
    exact Nat.le_of_lt (Heap.lt_size ho)
  have hp1 : s1.heap.objs.size ≤ p := Nat.le_trans hsz hpz
  refine ⟨.ref p, upd H1 p (.lst (ms.map V.int)), (I1.drw d2).laid (t' := tk2) (fun b o eb => hk2 b o (hk b o eb)) hp1 (show ObjOk X.prog X.w _ h2 _ (.lst (ms.map V.int)) from ⟨by rw [List.length_map, sizeLine_eq]; omega, vs'.toList, e, vals_of_ints hi', hpe⟩), rfl, q p ms (I1.hok.fresh hp1) (strict_of hso hnd) hmem hle⟩
end
end L2
set_option maxHeartbeats 4000000
namespace L2
open PySem PySem.Spec PyProof.Rows
theorem comp_enum {K : PySem.W.Frag} {a : Addr} {xs : List V} {g : TG} {tt : TT} {te : TE} {fin : List V → Hp → Prop} {σ : St} {H : Hp} (hz : xs.length ≤ sizeLine) (Pv : Nat → List V → St → Hp → Prop) (h0 : Pv 0 [] σ H) (hl : ∀ i zs σ H, Pv i zs σ H → SqL K H a xs ∧ zs.length ≤ i)
    (hs : ∀ (i : Nat) x zs σ H p, xs[i]? = some x → Pv i zs σ H → H p = none → g (.ref p) σ (upd H p (.tup [.int i, x])) fun σ2 H2 => tt σ2 H2 fun b H3 => if b = true then te σ2 H3 fun y H4 => Pv (i + 1) (zs ++ [y]) σ2 H4 else Pv (i + 1) zs σ2 H3)
    (hd : ∀ zs σ H, Pv xs.length zs σ H → fin zs H) : CompW (Ite K a) g tt te fin σ H := by
  refine ⟨fun i m zs σ H => m = xs.length - i ∧ i ≤ xs.length ∧ Pv i zs σ H, ⟨_, rfl, Nat.zero_le _, h0⟩, ?_⟩
  rintro i m zs σ H ⟨rfl, hi, p⟩
  obtain ⟨sa, hy⟩ := hl i zs σ H p
  by_cases e : i = xs.length
  · subst e
    exact .inl ⟨⟨xs, sa, Nat.le_refl _⟩, hd zs σ H p⟩
  · have lt : i < xs.length := Nat.lt_of_le_of_ne hi e
    refine .inr ⟨⟨xs, xs[i], sa, List.getElem?_eq_getElem lt⟩, by omega, Pv (i + 1), fun zs' σ' H' z => ⟨xs.length - (i + 1), by omega, rfl, lt, z⟩, fun v H' hv => ?_⟩
    obtain ⟨q, x', hq, rfl, hx, rfl⟩ := hv
    exact hs i x' zs σ H q (hx xs sa) p hq
end L2
namespace NS
open PySem L2
seal L2.PE L2.PT L2.PA L2.PS L2.PSs L2.PG L2.PI L2.PTs L2.PW L2.PO L2.PGs L2.PPs L2.OpR L2.CallR L2.IxR L2.SlR L2.UnR L2.PSet
noncomputable def top (i : Nat) : Stmt := PySem.Challenge.pw_crosshall_k32_whole_a_flow_or_a_cut.main.body.getD i (.Pass ⟨0, 0, 0, 0⟩)
noncomputable abbrev s_asked_arc : Stmt := top 6
noncomputable abbrev s_asked_net : Stmt := top 7
noncomputable abbrev s_gains : Stmt := top 8
noncomputable abbrev s_flow_or_cut : Stmt := top 11
noncomputable abbrev s_flow_of : Stmt := top 12
noncomputable abbrev s_l_draw : Stmt := top 14
noncomputable abbrev s_l_any_arcs : Stmt := top 15
noncomputable abbrev s_l_round_arcs : Stmt := top 16
noncomputable abbrev s_l_turned : Stmt := top 17
noncomputable abbrev s_l_wholes : Stmt := top 18
noncomputable abbrev s_l_is_flow : Stmt := top 19
noncomputable abbrev s_l_is_cut : Stmt := top 20
noncomputable abbrev s_l_right : Stmt := top 21
noncomputable abbrev s_law : Stmt := top 22
noncomputable abbrev s_Stream___init__ : Stmt := inCls (top 10) 0
noncomputable abbrev s_Stream_room : Stmt := inCls (top 10) 1
noncomputable abbrev s_Stream_reach : Stmt := inCls (top 10) 2
noncomputable abbrev s_Stream_way : Stmt := inCls (top 10) 3
noncomputable abbrev s_Stream_push : Stmt := inCls (top 10) 4
theorem sc_asked_arc : FnScope ["many", "arc"] ["many", "arc"] (defScope s_asked_arc) := ⟨rfl, rfl, rfl, by decide +kernel, rfl, by decide +kernel, by decide +kernel⟩
theorem sc_asked_net : FnScope ["many", "arcs"] ["many", "arcs"] (defScope s_asked_net) := ⟨rfl, rfl, rfl, by decide +kernel, rfl, by decide +kernel, by decide +kernel⟩
theorem sc_gains : FnScope ["many", "arcs", "flow", "told", "arc", "number"] ["many", "arcs", "flow"] (defScope s_gains) := ⟨rfl, rfl, rfl, by decide +kernel, rfl, by decide +kernel, by decide +kernel⟩
theorem sc_flow_or_cut : FnScope ["many", "arcs", "leasts", "over", "drawn", "given", "due", "stream"] ["many", "arcs"] (defScope s_flow_or_cut) := ⟨rfl, rfl, rfl, by decide +kernel, rfl, by decide +kernel, by decide +kernel⟩
theorem sc_flow_of : FnScope ["many", "arcs"] ["many", "arcs"] (defScope s_flow_of) := ⟨rfl, rfl, rfl, by decide +kernel, rfl, by decide +kernel, by decide +kernel⟩
theorem sc_l_draw : FnScope ["_law_script", "_law_k", "_law_many", "_law_number"] ["_law_script", "_law_k", "_law_many"] (defScope s_l_draw) := ⟨rfl, rfl, rfl, by decide +kernel, rfl, by decide +kernel, by decide +kernel⟩
theorem sc_l_any_arcs : FnScope ["_law_script", "_law_nodes", "_law_size", "_law_unit", "_law_arcs", "_law_k", "_law_one", "_law_other", "_law_number", "_law_least"] ["_law_script", "_law_nodes", "_law_size", "_law_unit"] (defScope s_l_any_arcs) := ⟨rfl, rfl, rfl, by decide +kernel, rfl, by decide +kernel, by decide +kernel⟩
theorem sc_l_round_arcs : FnScope ["_law_script", "_law_nodes", "_law_size", "_law_unit", "_law_arcs", "_law_at", "_law_amount", "_law_first", "_law_now", "_law_j", "_law_number", "_law_behind"] ["_law_script", "_law_nodes", "_law_size", "_law_unit"] (defScope s_l_round_arcs) := ⟨rfl, rfl, rfl, by decide +kernel, rfl, by decide +kernel, by decide +kernel⟩
theorem sc_l_turned : FnScope ["_law_row", "_law_number", "_law_cut"] ["_law_row", "_law_number"] (defScope s_l_turned) := ⟨rfl, rfl, rfl, by decide +kernel, rfl, by decide +kernel, by decide +kernel⟩
theorem sc_l_wholes : FnScope ["_law_found"] ["_law_found"] (defScope s_l_wholes) := ⟨rfl, rfl, rfl, by decide +kernel, rfl, by decide +kernel, by decide +kernel⟩
theorem sc_l_is_flow : FnScope ["_law_nodes", "_law_arcs", "_law_flow", "_law_gains", "_law_k"] ["_law_nodes", "_law_arcs", "_law_flow"] (defScope s_l_is_flow) := ⟨rfl, rfl, rfl, by decide +kernel, rfl, by decide +kernel, by decide +kernel⟩
theorem sc_l_is_cut : FnScope ["_law_nodes", "_law_arcs", "_law_some", "_law_out"] ["_law_nodes", "_law_arcs", "_law_some"] (defScope s_l_is_cut) := ⟨rfl, rfl, rfl, by decide +kernel, rfl, by decide +kernel, by decide +kernel⟩
theorem sc_l_right : FnScope ["_law_nodes", "_law_arcs", "_law_found", "_law_sure"] ["_law_nodes", "_law_arcs", "_law_found", "_law_sure"] (defScope s_l_right) := ⟨rfl, rfl, rfl, by decide +kernel, rfl, by decide +kernel, by decide +kernel⟩
theorem sc_law : FnScope ["_law_script", "_law_nodes", "_law_size", "_law_unit", "_law_arcs", "_law_sure", "_law_at", "_law_one", "_law_other", "_law_least", "_law_most", "_law_handed", "_law_found"] ["_law_script"] (defScope s_law) := ⟨rfl, rfl, rfl, by decide +kernel, rfl, by decide +kernel, by decide +kernel⟩
theorem sc_Stream___init__ : FnScope ["self", "many", "arcs", "flow", "place", "arc"] ["self", "many", "arcs", "flow"] (defScope s_Stream___init__) := ⟨rfl, rfl, rfl, by decide +kernel, rfl, by decide +kernel, by decide +kernel⟩
theorem sc_Stream_room : FnScope ["self", "place", "sign"] ["self", "place", "sign"] (defScope s_Stream_room) := ⟨rfl, rfl, rfl, by decide +kernel, rfl, by decide +kernel, by decide +kernel⟩
theorem sc_Stream_reach : FnScope ["self", "start", "came", "rim", "further", "node", "place", "to", "sign"] ["self", "start"] (defScope s_Stream_reach) := ⟨rfl, rfl, rfl, by decide +kernel, rfl, by decide +kernel, by decide +kernel⟩
theorem sc_Stream_way : FnScope ["self", "start", "goal", "came", "taken", "node"] ["self", "start", "goal"] (defScope s_Stream_way) := ⟨rfl, rfl, rfl, by decide +kernel, rfl, by decide +kernel, by decide +kernel⟩
theorem sc_Stream_push : FnScope ["self", "start", "goal", "limit", "pushed", "way", "through", "place", "sign"] ["self", "start", "goal", "limit"] (defScope s_Stream_push) := ⟨rfl, rfl, rfl, by decide +kernel, rfl, by decide +kernel, by decide +kernel⟩
structure Txt (K : PySem.W.Frag) (mg : Str → Option Value) (f : Nat → Addr) (fd : Nat → FuncData) : Prop where
  d_asked_arc : DefOk K mg "asked_arc" s_asked_arc ["many", "arc"] (f 6) (fd 6)
  d_asked_net : DefOk K mg "asked_net" s_asked_net ["many", "arcs"] (f 7) (fd 7)
  d_gains : DefOk K mg "gains" s_gains ["many", "arcs", "flow"] (f 8) (fd 8)
  d_flow_or_cut : DefOk K mg "flow_or_cut" s_flow_or_cut ["many", "arcs"] (f 11) (fd 11)
  d_flow_of : DefOk K mg "flow_of" s_flow_of ["many", "arcs"] (f 12) (fd 12)
  d_l_draw : DefOk K mg "_law_draw" s_l_draw ["_law_script", "_law_k", "_law_many"] (f 14) (fd 14)
  d_l_any_arcs : DefOk K mg "_law_any_arcs" s_l_any_arcs ["_law_script", "_law_nodes", "_law_size", "_law_unit"] (f 15) (fd 15)
  d_l_round_arcs : DefOk K mg "_law_round_arcs" s_l_round_arcs ["_law_script", "_law_nodes", "_law_size", "_law_unit"] (f 16) (fd 16)
  d_l_turned : DefOk K mg "_law_turned" s_l_turned ["_law_row", "_law_number"] (f 17) (fd 17)
  d_l_wholes : DefOk K mg "_law_wholes" s_l_wholes ["_law_found"] (f 18) (fd 18)
  d_l_is_flow : DefOk K mg "_law_is_flow" s_l_is_flow ["_law_nodes", "_law_arcs", "_law_flow"] (f 19) (fd 19)
  d_l_is_cut : DefOk K mg "_law_is_cut" s_l_is_cut ["_law_nodes", "_law_arcs", "_law_some"] (f 20) (fd 20)
  d_l_right : DefOk K mg "_law_right" s_l_right ["_law_nodes", "_law_arcs", "_law_found", "_law_sure"] (f 21) (fd 21)
  d_law : DefOk K mg "law" s_law ["_law_script"] (f 22) (fd 22)
  d_Stream___init__ : MthOk K "__init__" "Stream.__init__" s_Stream___init__ ["self", "many", "arcs", "flow"] (f 11000) (fd 11000)
  d_Stream_room : MthOk K "room" "Stream.room" s_Stream_room ["self", "place", "sign"] (f 11001) (fd 11001)
  d_Stream_reach : MthOk K "reach" "Stream.reach" s_Stream_reach ["self", "start"] (f 11002) (fd 11002)
  d_Stream_way : MthOk K "way" "Stream.way" s_Stream_way ["self", "start", "goal"] (f 11003) (fd 11003)
  d_Stream_push : MthOk K "push" "Stream.push" s_Stream_push ["self", "start", "goal", "limit"] (f 11004) (fd 11004)
  x_CrossError : ExcM mg "CrossError" (f 1)
  x_NoNet : ExcM mg "NoNet" (f 2)
  o_Stream : OwnOk K mg "Stream" (f 10) (f 11000)
  m_Stream_room : Meth K (f 10) "room" (f 11001)
  m_Stream_reach : Meth K (f 10) "reach" (f 11002)
  m_Stream_way : Meth K (f 10) "way" (f 11003)
  m_Stream_push : Meth K (f 10) "push" (f 11004)
  na_Stream_arcs : PySem.W.findIn K (.ref (f 10)) "arcs" = some none
  na_Stream_borne : PySem.W.findIn K (.ref (f 10)) "borne" = some none
  na_Stream_steps : PySem.W.findIn K (.ref (f 10)) "steps" = some none
  n_all : mg "all" = none
  n_bool : mg "bool" = none
  n_enumerate : mg "enumerate" = none
  n_int : mg "int" = none
  n_isinstance : mg "isinstance" = none
  n_len : mg "len" = none
  n_list : mg "list" = none
  n_max : mg "max" = none
  n_min : mg "min" = none
  n_range : mg "range" = none
  n_set : mg "set" = none
  n_sorted : mg "sorted" = none
  n_sum : mg "sum" = none
  n_tuple : mg "tuple" = none
  n_zip : mg "zip" = none
  g_MOST_NODES : ∃ tk, mg "MOST_NODES" = some (.int (120) tk)
  g_MOST_ARCS : ∃ tk, mg "MOST_ARCS" = some (.int (300) tk)
theorem len0 {α : Type} {C : List α → Prop} (h : C []) (us : List α) (e : us.length = 0) : C us := (List.length_eq_zero_iff.mp e) ▸ h
theorem lenS {α : Type} {n : Nat} {C : List α → Prop} (h : ∀ (a : α) (us : List α), us.length = n → C (a :: us)) (us : List α) (e : us.length = n + 1) : C us := by
  cases us with
  | nil => cases e
  | cons a r => exact h a r (Nat.succ.inj e)
theorem lenB1 {fd : FuncData} {ps : List Str} (h : ∀ a : Value, bindArgs fd ⟨[a], []⟩ = pure (ps.zip [a])) (us : List Value) (e : us.length = 1) : bindArgs fd ⟨us, []⟩ = pure (ps.zip us) := by
  revert us
  exact lenS fun a => len0 (h a)
theorem lenB2 {fd : FuncData} {ps : List Str} (h : ∀ a b : Value, bindArgs fd ⟨[a, b], []⟩ = pure (ps.zip [a, b])) (us : List Value) (e : us.length = 2) : bindArgs fd ⟨us, []⟩ = pure (ps.zip us) := by
  revert us
  exact lenS fun a => lenS fun b => len0 (h a b)
theorem lenB3 {fd : FuncData} {ps : List Str} (h : ∀ a b c : Value, bindArgs fd ⟨[a, b, c], []⟩ = pure (ps.zip [a, b, c])) (us : List Value) (e : us.length = 3) : bindArgs fd ⟨us, []⟩ = pure (ps.zip us) := by
  revert us
  exact lenS fun a => lenS fun b => lenS fun c => len0 (h a b c)
theorem lenB4 {fd : FuncData} {ps : List Str} (h : ∀ a b c d : Value, bindArgs fd ⟨[a, b, c, d], []⟩ = pure (ps.zip [a, b, c, d])) (us : List Value) (e : us.length = 4) : bindArgs fd ⟨us, []⟩ = pure (ps.zip us) := by
  revert us
  exact lenS fun a => lenS fun b => lenS fun c => lenS fun d => len0 (h a b c d)
theorem txt_mk {K : PySem.W.Frag} {h : Heap} {mg : Str → Option Value} (X : K.In h) (G : h.Ns mainGlobals mg)
    {f6 : Addr} {od6 an6 : Option Addr} {sl6 : Array (Option Value)} {oc6 kV6 dc6 pm6 cd6 ct6 : Value}
    {f7 : Addr} {od7 an7 : Option Addr} {sl7 : Array (Option Value)} {oc7 kV7 dc7 pm7 cd7 ct7 : Value}
    {f8 : Addr} {od8 an8 : Option Addr} {sl8 : Array (Option Value)} {oc8 kV8 dc8 pm8 cd8 ct8 : Value}
    {f11 : Addr} {od11 an11 : Option Addr} {sl11 : Array (Option Value)} {oc11 kV11 dc11 pm11 cd11 ct11 : Value}
    {f12 : Addr} {od12 an12 : Option Addr} {sl12 : Array (Option Value)} {oc12 kV12 dc12 pm12 cd12 ct12 : Value}
    {f14 : Addr} {od14 an14 : Option Addr} {sl14 : Array (Option Value)} {oc14 kV14 dc14 pm14 cd14 ct14 : Value}
    {f15 : Addr} {od15 an15 : Option Addr} {sl15 : Array (Option Value)} {oc15 kV15 dc15 pm15 cd15 ct15 : Value}
    {f16 : Addr} {od16 an16 : Option Addr} {sl16 : Array (Option Value)} {oc16 kV16 dc16 pm16 cd16 ct16 : Value}
    {f17 : Addr} {od17 an17 : Option Addr} {sl17 : Array (Option Value)} {oc17 kV17 dc17 pm17 cd17 ct17 : Value}
    {f18 : Addr} {od18 an18 : Option Addr} {sl18 : Array (Option Value)} {oc18 kV18 dc18 pm18 cd18 ct18 : Value}
    {f19 : Addr} {od19 an19 : Option Addr} {sl19 : Array (Option Value)} {oc19 kV19 dc19 pm19 cd19 ct19 : Value}
    {f20 : Addr} {od20 an20 : Option Addr} {sl20 : Array (Option Value)} {oc20 kV20 dc20 pm20 cd20 ct20 : Value}
    {f21 : Addr} {od21 an21 : Option Addr} {sl21 : Array (Option Value)} {oc21 kV21 dc21 pm21 cd21 ct21 : Value}
    {f22 : Addr} {od22 an22 : Option Addr} {sl22 : Array (Option Value)} {oc22 kV22 dc22 pm22 cd22 ct22 : Value}
    {f11000 : Addr} {od11000 an11000 : Option Addr} {sl11000 : Array (Option Value)} {oc11000 kV11000 dc11000 pm11000 cd11000 ct11000 : Value}
    {f11001 : Addr} {od11001 an11001 : Option Addr} {sl11001 : Array (Option Value)} {oc11001 kV11001 dc11001 pm11001 cd11001 ct11001 : Value}
    {f11002 : Addr} {od11002 an11002 : Option Addr} {sl11002 : Array (Option Value)} {oc11002 kV11002 dc11002 pm11002 cd11002 ct11002 : Value}
    {f11003 : Addr} {od11003 an11003 : Option Addr} {sl11003 : Array (Option Value)} {oc11003 kV11003 dc11003 pm11003 cd11003 ct11003 : Value}
    {f11004 : Addr} {od11004 an11004 : Option Addr} {sl11004 : Array (Option Value)} {oc11004 kV11004 dc11004 pm11004 cd11004 ct11004 : Value}
    {f1 : Addr}
    {f2 : Addr}
    {f10 : Addr}
    (a1 : PySem.W.nsIn K mainGlobals "CrossError" = some (some (.ref f1)))
    (a2 : PySem.W.nsIn K mainGlobals "NoNet" = some (some (.ref f2)))
    (a10 : PySem.W.nsIn K mainGlobals "Stream" = some (some (.ref f10)))
    (a6 : PySem.W.nsIn K mainGlobals "asked_arc" = some (some (.ref f6)))
    (l6 : K.lookup f6 = some ⟨oc6, od6, .func (PySem.W.fnOf "asked_arc" "asked_arc" (defArgs s_asked_arc) (defBody s_asked_arc) (defScope s_asked_arc) .none kV6 dc6 pm6 an6 cd6 ct6), sl6⟩) (c6 : PySem.W.codeIn K cd6 "asked_arc" = true) (k6 : PySem.W.keepIn K (.ref f6) = true)
    (a7 : PySem.W.nsIn K mainGlobals "asked_net" = some (some (.ref f7)))
    (l7 : K.lookup f7 = some ⟨oc7, od7, .func (PySem.W.fnOf "asked_net" "asked_net" (defArgs s_asked_net) (defBody s_asked_net) (defScope s_asked_net) .none kV7 dc7 pm7 an7 cd7 ct7), sl7⟩) (c7 : PySem.W.codeIn K cd7 "asked_net" = true) (k7 : PySem.W.keepIn K (.ref f7) = true)
    (a8 : PySem.W.nsIn K mainGlobals "gains" = some (some (.ref f8)))
    (l8 : K.lookup f8 = some ⟨oc8, od8, .func (PySem.W.fnOf "gains" "gains" (defArgs s_gains) (defBody s_gains) (defScope s_gains) .none kV8 dc8 pm8 an8 cd8 ct8), sl8⟩) (c8 : PySem.W.codeIn K cd8 "gains" = true) (k8 : PySem.W.keepIn K (.ref f8) = true)
    (a11 : PySem.W.nsIn K mainGlobals "flow_or_cut" = some (some (.ref f11)))
    (l11 : K.lookup f11 = some ⟨oc11, od11, .func (PySem.W.fnOf "flow_or_cut" "flow_or_cut" (defArgs s_flow_or_cut) (defBody s_flow_or_cut) (defScope s_flow_or_cut) .none kV11 dc11 pm11 an11 cd11 ct11), sl11⟩) (c11 : PySem.W.codeIn K cd11 "flow_or_cut" = true) (k11 : PySem.W.keepIn K (.ref f11) = true)
    (a12 : PySem.W.nsIn K mainGlobals "flow_of" = some (some (.ref f12)))
    (l12 : K.lookup f12 = some ⟨oc12, od12, .func (PySem.W.fnOf "flow_of" "flow_of" (defArgs s_flow_of) (defBody s_flow_of) (defScope s_flow_of) .none kV12 dc12 pm12 an12 cd12 ct12), sl12⟩) (c12 : PySem.W.codeIn K cd12 "flow_of" = true) (k12 : PySem.W.keepIn K (.ref f12) = true)
    (a14 : PySem.W.nsIn K mainGlobals "_law_draw" = some (some (.ref f14)))
    (l14 : K.lookup f14 = some ⟨oc14, od14, .func (PySem.W.fnOf "_law_draw" "_law_draw" (defArgs s_l_draw) (defBody s_l_draw) (defScope s_l_draw) .none kV14 dc14 pm14 an14 cd14 ct14), sl14⟩) (c14 : PySem.W.codeIn K cd14 "_law_draw" = true) (k14 : PySem.W.keepIn K (.ref f14) = true)
    (a15 : PySem.W.nsIn K mainGlobals "_law_any_arcs" = some (some (.ref f15)))
    (l15 : K.lookup f15 = some ⟨oc15, od15, .func (PySem.W.fnOf "_law_any_arcs" "_law_any_arcs" (defArgs s_l_any_arcs) (defBody s_l_any_arcs) (defScope s_l_any_arcs) .none kV15 dc15 pm15 an15 cd15 ct15), sl15⟩) (c15 : PySem.W.codeIn K cd15 "_law_any_arcs" = true) (k15 : PySem.W.keepIn K (.ref f15) = true)
    (a16 : PySem.W.nsIn K mainGlobals "_law_round_arcs" = some (some (.ref f16)))
    (l16 : K.lookup f16 = some ⟨oc16, od16, .func (PySem.W.fnOf "_law_round_arcs" "_law_round_arcs" (defArgs s_l_round_arcs) (defBody s_l_round_arcs) (defScope s_l_round_arcs) .none kV16 dc16 pm16 an16 cd16 ct16), sl16⟩) (c16 : PySem.W.codeIn K cd16 "_law_round_arcs" = true) (k16 : PySem.W.keepIn K (.ref f16) = true)
    (a17 : PySem.W.nsIn K mainGlobals "_law_turned" = some (some (.ref f17)))
    (l17 : K.lookup f17 = some ⟨oc17, od17, .func (PySem.W.fnOf "_law_turned" "_law_turned" (defArgs s_l_turned) (defBody s_l_turned) (defScope s_l_turned) .none kV17 dc17 pm17 an17 cd17 ct17), sl17⟩) (c17 : PySem.W.codeIn K cd17 "_law_turned" = true) (k17 : PySem.W.keepIn K (.ref f17) = true)
    (a18 : PySem.W.nsIn K mainGlobals "_law_wholes" = some (some (.ref f18)))
    (l18 : K.lookup f18 = some ⟨oc18, od18, .func (PySem.W.fnOf "_law_wholes" "_law_wholes" (defArgs s_l_wholes) (defBody s_l_wholes) (defScope s_l_wholes) .none kV18 dc18 pm18 an18 cd18 ct18), sl18⟩) (c18 : PySem.W.codeIn K cd18 "_law_wholes" = true) (k18 : PySem.W.keepIn K (.ref f18) = true)
    (a19 : PySem.W.nsIn K mainGlobals "_law_is_flow" = some (some (.ref f19)))
    (l19 : K.lookup f19 = some ⟨oc19, od19, .func (PySem.W.fnOf "_law_is_flow" "_law_is_flow" (defArgs s_l_is_flow) (defBody s_l_is_flow) (defScope s_l_is_flow) .none kV19 dc19 pm19 an19 cd19 ct19), sl19⟩) (c19 : PySem.W.codeIn K cd19 "_law_is_flow" = true) (k19 : PySem.W.keepIn K (.ref f19) = true)
    (a20 : PySem.W.nsIn K mainGlobals "_law_is_cut" = some (some (.ref f20)))
    (l20 : K.lookup f20 = some ⟨oc20, od20, .func (PySem.W.fnOf "_law_is_cut" "_law_is_cut" (defArgs s_l_is_cut) (defBody s_l_is_cut) (defScope s_l_is_cut) .none kV20 dc20 pm20 an20 cd20 ct20), sl20⟩) (c20 : PySem.W.codeIn K cd20 "_law_is_cut" = true) (k20 : PySem.W.keepIn K (.ref f20) = true)
    (a21 : PySem.W.nsIn K mainGlobals "_law_right" = some (some (.ref f21)))
    (l21 : K.lookup f21 = some ⟨oc21, od21, .func (PySem.W.fnOf "_law_right" "_law_right" (defArgs s_l_right) (defBody s_l_right) (defScope s_l_right) .none kV21 dc21 pm21 an21 cd21 ct21), sl21⟩) (c21 : PySem.W.codeIn K cd21 "_law_right" = true) (k21 : PySem.W.keepIn K (.ref f21) = true)
    (a22 : PySem.W.nsIn K mainGlobals "law" = some (some (.ref f22)))
    (l22 : K.lookup f22 = some ⟨oc22, od22, .func (PySem.W.fnOf "law" "law" (defArgs s_law) (defBody s_law) (defScope s_law) .none kV22 dc22 pm22 an22 cd22 ct22), sl22⟩) (c22 : PySem.W.codeIn K cd22 "law" = true) (k22 : PySem.W.keepIn K (.ref f22) = true)
    (a11000 : PySem.W.findIn K (.ref f10) "__init__" = some (some (.ref f11000)))
    (l11000 : K.lookup f11000 = some ⟨oc11000, od11000, .func (PySem.W.fnOf "__init__" "Stream.__init__" (defArgs s_Stream___init__) (defBody s_Stream___init__) (defScope s_Stream___init__) .none kV11000 dc11000 pm11000 an11000 cd11000 ct11000), sl11000⟩) (c11000 : PySem.W.codeIn K cd11000 "Stream.__init__" = true) (k11000 : PySem.W.keepIn K (.ref f11000) = true)
    (b11000 : PySem.W.isFn K (.ref f11000) = true)
    (a11001 : PySem.W.findIn K (.ref f10) "room" = some (some (.ref f11001)))
    (l11001 : K.lookup f11001 = some ⟨oc11001, od11001, .func (PySem.W.fnOf "room" "Stream.room" (defArgs s_Stream_room) (defBody s_Stream_room) (defScope s_Stream_room) .none kV11001 dc11001 pm11001 an11001 cd11001 ct11001), sl11001⟩) (c11001 : PySem.W.codeIn K cd11001 "Stream.room" = true) (k11001 : PySem.W.keepIn K (.ref f11001) = true)
    (b11001 : PySem.W.isFn K (.ref f11001) = true)
    (a11002 : PySem.W.findIn K (.ref f10) "reach" = some (some (.ref f11002)))
    (l11002 : K.lookup f11002 = some ⟨oc11002, od11002, .func (PySem.W.fnOf "reach" "Stream.reach" (defArgs s_Stream_reach) (defBody s_Stream_reach) (defScope s_Stream_reach) .none kV11002 dc11002 pm11002 an11002 cd11002 ct11002), sl11002⟩) (c11002 : PySem.W.codeIn K cd11002 "Stream.reach" = true) (k11002 : PySem.W.keepIn K (.ref f11002) = true)
    (b11002 : PySem.W.isFn K (.ref f11002) = true)
    (a11003 : PySem.W.findIn K (.ref f10) "way" = some (some (.ref f11003)))
    (l11003 : K.lookup f11003 = some ⟨oc11003, od11003, .func (PySem.W.fnOf "way" "Stream.way" (defArgs s_Stream_way) (defBody s_Stream_way) (defScope s_Stream_way) .none kV11003 dc11003 pm11003 an11003 cd11003 ct11003), sl11003⟩) (c11003 : PySem.W.codeIn K cd11003 "Stream.way" = true) (k11003 : PySem.W.keepIn K (.ref f11003) = true)
    (b11003 : PySem.W.isFn K (.ref f11003) = true)
    (a11004 : PySem.W.findIn K (.ref f10) "push" = some (some (.ref f11004)))
    (l11004 : K.lookup f11004 = some ⟨oc11004, od11004, .func (PySem.W.fnOf "push" "Stream.push" (defArgs s_Stream_push) (defBody s_Stream_push) (defScope s_Stream_push) .none kV11004 dc11004 pm11004 an11004 cd11004 ct11004), sl11004⟩) (c11004 : PySem.W.codeIn K cd11004 "Stream.push" = true) (k11004 : PySem.W.keepIn K (.ref f11004) = true)
    (b11004 : PySem.W.isFn K (.ref f11004) = true)
    (o_Stream_pg : PySem.W.plainGet K f10 Str.empty = true)
    (o_Stream_hd : PySem.W.hasDictIn K f10 = true)
    (o_Stream_po : PySem.W.plainOver K f10 = true)
    (o_Stream_sa : PySem.W.findIn K (.ref f10) "__setattr__" = some (some (.builtin "object.__setattr__")))
    (o_Stream_ma : PySem.W.makesIn K f10 = true)
    (o_Stream_kp : PySem.W.keepIn K (.ref f10) = true)
    (v_na_Stream_arcs : PySem.W.findIn K (.ref f10) "arcs" = some none)
    (v_na_Stream_borne : PySem.W.findIn K (.ref f10) "borne" = some none)
    (v_na_Stream_steps : PySem.W.findIn K (.ref f10) "steps" = some none)
    (z_all : PySem.W.nsIn K mainGlobals "all" = some none)
    (z_bool : PySem.W.nsIn K mainGlobals "bool" = some none)
    (z_enumerate : PySem.W.nsIn K mainGlobals "enumerate" = some none)
    (z_int : PySem.W.nsIn K mainGlobals "int" = some none)
    (z_isinstance : PySem.W.nsIn K mainGlobals "isinstance" = some none)
    (z_len : PySem.W.nsIn K mainGlobals "len" = some none)
    (z_list : PySem.W.nsIn K mainGlobals "list" = some none)
    (z_max : PySem.W.nsIn K mainGlobals "max" = some none)
    (z_min : PySem.W.nsIn K mainGlobals "min" = some none)
    (z_range : PySem.W.nsIn K mainGlobals "range" = some none)
    (z_set : PySem.W.nsIn K mainGlobals "set" = some none)
    (z_sorted : PySem.W.nsIn K mainGlobals "sorted" = some none)
    (z_sum : PySem.W.nsIn K mainGlobals "sum" = some none)
    (z_tuple : PySem.W.nsIn K mainGlobals "tuple" = some none)
    (z_zip : PySem.W.nsIn K mainGlobals "zip" = some none)
    {tk_MOST_NODES : Tok} (y_MOST_NODES : PySem.W.nsIn K mainGlobals "MOST_NODES" = some (some (.int (120) tk_MOST_NODES)))
    {tk_MOST_ARCS : Tok} (y_MOST_ARCS : PySem.W.nsIn K mainGlobals "MOST_ARCS" = some (some (.int (300) tk_MOST_ARCS)))
    : ∃ f fd, Txt K mg f fd ∧ f 22 = f22 ∧ ∃ kV dc pm an cd ct, fd 22 = PySem.W.fnOf "law" "law" (defArgs s_law) (defBody s_law) (defScope s_law) .none kV dc pm an cd ct := by
  refine ⟨fun i => match i with | 6 => f6 | 7 => f7 | 8 => f8 | 11 => f11 | 12 => f12 | 14 => f14 | 15 => f15 | 16 => f16 | 17 => f17 | 18 => f18 | 19 => f19 | 20 => f20 | 21 => f21 | 22 => f22 | 11000 => f11000 | 11001 => f11001 | 11002 => f11002 | 11003 => f11003 | 11004 => f11004 | 1 => f1 | 2 => f2 | 10 => f10 | _ => 0, fun i => match i with | 6 => PySem.W.fnOf "asked_arc" "asked_arc" (defArgs s_asked_arc) (defBody s_asked_arc) (defScope s_asked_arc) .none kV6 dc6 pm6 an6 cd6 ct6 | 7 => PySem.W.fnOf "asked_net" "asked_net" (defArgs s_asked_net) (defBody s_asked_net) (defScope s_asked_net) .none kV7 dc7 pm7 an7 cd7 ct7 | 8 => PySem.W.fnOf "gains" "gains" (defArgs s_gains) (defBody s_gains) (defScope s_gains) .none kV8 dc8 pm8 an8 cd8 ct8 | 11 => PySem.W.fnOf "flow_or_cut" "flow_or_cut" (defArgs s_flow_or_cut) (defBody s_flow_or_cut) (defScope s_flow_or_cut) .none kV11 dc11 pm11 an11 cd11 ct11 | 12 => PySem.W.fnOf "flow_of" "flow_of" (defArgs s_flow_of) (defBody s_flow_of) (defScope s_flow_of) .none kV12 dc12 pm12 an12 cd12 ct12 | 14 => PySem.W.fnOf "_law_draw" "_law_draw" (defArgs s_l_draw) (defBody s_l_draw) (defScope s_l_draw) .none kV14 dc14 pm14 an14 cd14 ct14 | 15 => PySem.W.fnOf "_law_any_arcs" "_law_any_arcs" (defArgs s_l_any_arcs) (defBody s_l_any_arcs) (defScope s_l_any_arcs) .none kV15 dc15 pm15 an15 cd15 ct15 | 16 => PySem.W.fnOf "_law_round_arcs" "_law_round_arcs" (defArgs s_l_round_arcs) (defBody s_l_round_arcs) (defScope s_l_round_arcs) .none kV16 dc16 pm16 an16 cd16 ct16 | 17 => PySem.W.fnOf "_law_turned" "_law_turned" (defArgs s_l_turned) (defBody s_l_turned) (defScope s_l_turned) .none kV17 dc17 pm17 an17 cd17 ct17 | 18 => PySem.W.fnOf "_law_wholes" "_law_wholes" (defArgs s_l_wholes) (defBody s_l_wholes) (defScope s_l_wholes) .none kV18 dc18 pm18 an18 cd18 ct18 | 19 => PySem.W.fnOf "_law_is_flow" "_law_is_flow" (defArgs s_l_is_flow) (defBody s_l_is_flow) (defScope s_l_is_flow) .none kV19 dc19 pm19 an19 cd19 ct19 | 20 => PySem.W.fnOf "_law_is_cut" "_law_is_cut" (defArgs s_l_is_cut) (defBody s_l_is_cut) (defScope s_l_is_cut) .none kV20 dc20 pm20 an20 cd20 ct20 | 21 => PySem.W.fnOf "_law_right" "_law_right" (defArgs s_l_right) (defBody s_l_right) (defScope s_l_right) .none kV21 dc21 pm21 an21 cd21 ct21 | 22 => PySem.W.fnOf "law" "law" (defArgs s_law) (defBody s_law) (defScope s_law) .none kV22 dc22 pm22 an22 cd22 ct22 | 11000 => PySem.W.fnOf "__init__" "Stream.__init__" (defArgs s_Stream___init__) (defBody s_Stream___init__) (defScope s_Stream___init__) .none kV11000 dc11000 pm11000 an11000 cd11000 ct11000 | 11001 => PySem.W.fnOf "room" "Stream.room" (defArgs s_Stream_room) (defBody s_Stream_room) (defScope s_Stream_room) .none kV11001 dc11001 pm11001 an11001 cd11001 ct11001 | 11002 => PySem.W.fnOf "reach" "Stream.reach" (defArgs s_Stream_reach) (defBody s_Stream_reach) (defScope s_Stream_reach) .none kV11002 dc11002 pm11002 an11002 cd11002 ct11002 | 11003 => PySem.W.fnOf "way" "Stream.way" (defArgs s_Stream_way) (defBody s_Stream_way) (defScope s_Stream_way) .none kV11003 dc11003 pm11003 an11003 cd11003 ct11003 | 11004 => PySem.W.fnOf "push" "Stream.push" (defArgs s_Stream_push) (defBody s_Stream_push) (defScope s_Stream_push) .none kV11004 dc11004 pm11004 an11004 cd11004 ct11004 | _ => PySem.W.fnOf "law" "law" (defArgs s_law) (defBody s_law) (defScope s_law) .none kV22 dc22 pm22 an22 cd22 ct22, ⟨?_, ?_, ?_, ?_, ?_, ?_, ?_, ?_, ?_, ?_, ?_, ?_, ?_, ?_, ?_, ?_, ?_, ?_, ?_, ?_, ?_, ?_, ?_, ?_, ?_, ?_, ?_, ?_, ?_, ?_, ?_, ?_, ?_, ?_, ?_, ?_, ?_, ?_, ?_, ?_, ?_, ?_, ?_, ?_, ?_, ?_⟩, rfl, _, _, _, _, _, _, rfl⟩
  · exact (by have F := fun_mk (st := s_asked_arc) l6 c6 k6; exact ⟨F, F.binds (ps := ["many", "arc"]) fun _ _ _ _ _ _ us hl => lenB2 (fun _ _ => rfl) us hl, PySem.W.mg_of X G a6⟩)
  · exact (by have F := fun_mk (st := s_asked_net) l7 c7 k7; exact ⟨F, F.binds (ps := ["many", "arcs"]) fun _ _ _ _ _ _ us hl => lenB2 (fun _ _ => rfl) us hl, PySem.W.mg_of X G a7⟩)
  · exact (by have F := fun_mk (st := s_gains) l8 c8 k8; exact ⟨F, F.binds (ps := ["many", "arcs", "flow"]) fun _ _ _ _ _ _ us hl => lenB3 (fun _ _ _ => rfl) us hl, PySem.W.mg_of X G a8⟩)
  · exact (by have F := fun_mk (st := s_flow_or_cut) l11 c11 k11; exact ⟨F, F.binds (ps := ["many", "arcs"]) fun _ _ _ _ _ _ us hl => lenB2 (fun _ _ => rfl) us hl, PySem.W.mg_of X G a11⟩)
  · exact (by have F := fun_mk (st := s_flow_of) l12 c12 k12; exact ⟨F, F.binds (ps := ["many", "arcs"]) fun _ _ _ _ _ _ us hl => lenB2 (fun _ _ => rfl) us hl, PySem.W.mg_of X G a12⟩)
  · exact (by have F := fun_mk (st := s_l_draw) l14 c14 k14; exact ⟨F, F.binds (ps := ["_law_script", "_law_k", "_law_many"]) fun _ _ _ _ _ _ us hl => lenB3 (fun _ _ _ => rfl) us hl, PySem.W.mg_of X G a14⟩)
  · exact (by have F := fun_mk (st := s_l_any_arcs) l15 c15 k15; exact ⟨F, F.binds (ps := ["_law_script", "_law_nodes", "_law_size", "_law_unit"]) fun _ _ _ _ _ _ us hl => lenB4 (fun _ _ _ _ => rfl) us hl, PySem.W.mg_of X G a15⟩)
  · exact (by have F := fun_mk (st := s_l_round_arcs) l16 c16 k16; exact ⟨F, F.binds (ps := ["_law_script", "_law_nodes", "_law_size", "_law_unit"]) fun _ _ _ _ _ _ us hl => lenB4 (fun _ _ _ _ => rfl) us hl, PySem.W.mg_of X G a16⟩)
  · exact (by have F := fun_mk (st := s_l_turned) l17 c17 k17; exact ⟨F, F.binds (ps := ["_law_row", "_law_number"]) fun _ _ _ _ _ _ us hl => lenB2 (fun _ _ => rfl) us hl, PySem.W.mg_of X G a17⟩)
  · exact (by have F := fun_mk (st := s_l_wholes) l18 c18 k18; exact ⟨F, F.binds (ps := ["_law_found"]) fun _ _ _ _ _ _ us hl => lenB1 (fun _ => rfl) us hl, PySem.W.mg_of X G a18⟩)
  · exact (by have F := fun_mk (st := s_l_is_flow) l19 c19 k19; exact ⟨F, F.binds (ps := ["_law_nodes", "_law_arcs", "_law_flow"]) fun _ _ _ _ _ _ us hl => lenB3 (fun _ _ _ => rfl) us hl, PySem.W.mg_of X G a19⟩)
  · exact (by have F := fun_mk (st := s_l_is_cut) l20 c20 k20; exact ⟨F, F.binds (ps := ["_law_nodes", "_law_arcs", "_law_some"]) fun _ _ _ _ _ _ us hl => lenB3 (fun _ _ _ => rfl) us hl, PySem.W.mg_of X G a20⟩)
  · exact (by have F := fun_mk (st := s_l_right) l21 c21 k21; exact ⟨F, F.binds (ps := ["_law_nodes", "_law_arcs", "_law_found", "_law_sure"]) fun _ _ _ _ _ _ us hl => lenB4 (fun _ _ _ _ => rfl) us hl, PySem.W.mg_of X G a21⟩)
  · exact (by have F := fun_mk (st := s_law) l22 c22 k22; exact ⟨F, F.binds (ps := ["_law_script"]) fun _ _ _ _ _ _ us hl => lenB1 (fun _ => rfl) us hl, PySem.W.mg_of X G a22⟩)
  · exact (by have F := fun_mk (st := s_Stream___init__) l11000 c11000 k11000; exact ⟨F, F.binds (ps := ["self", "many", "arcs", "flow"]) fun _ _ _ _ _ _ us hl => lenB4 (fun _ _ _ _ => rfl) us hl, b11000⟩)
  · exact (by have F := fun_mk (st := s_Stream_room) l11001 c11001 k11001; exact ⟨F, F.binds (ps := ["self", "place", "sign"]) fun _ _ _ _ _ _ us hl => lenB3 (fun _ _ _ => rfl) us hl, b11001⟩)
  · exact (by have F := fun_mk (st := s_Stream_reach) l11002 c11002 k11002; exact ⟨F, F.binds (ps := ["self", "start"]) fun _ _ _ _ _ _ us hl => lenB2 (fun _ _ => rfl) us hl, b11002⟩)
  · exact (by have F := fun_mk (st := s_Stream_way) l11003 c11003 k11003; exact ⟨F, F.binds (ps := ["self", "start", "goal"]) fun _ _ _ _ _ _ us hl => lenB3 (fun _ _ _ => rfl) us hl, b11003⟩)
  · exact (by have F := fun_mk (st := s_Stream_push) l11004 c11004 k11004; exact ⟨F, F.binds (ps := ["self", "start", "goal", "limit"]) fun _ _ _ _ _ _ us hl => lenB4 (fun _ _ _ _ => rfl) us hl, b11004⟩)
  · exact ⟨PySem.W.mg_of X G a1⟩
  · exact ⟨PySem.W.mg_of X G a2⟩
  · exact (own_mk X G a10 o_Stream_pg o_Stream_hd o_Stream_po o_Stream_sa o_Stream_ma a11000 b11000 o_Stream_kp)
  · exact ⟨a11001, b11001, k11001⟩
  · exact ⟨a11002, b11002, k11002⟩
  · exact ⟨a11003, b11003, k11003⟩
  · exact ⟨a11004, b11004, k11004⟩
  · exact v_na_Stream_arcs
  · exact v_na_Stream_borne
  · exact v_na_Stream_steps
  · exact (PySem.W.mg_none_of X G z_all)
  · exact (PySem.W.mg_none_of X G z_bool)
  · exact (PySem.W.mg_none_of X G z_enumerate)
  · exact (PySem.W.mg_none_of X G z_int)
  · exact (PySem.W.mg_none_of X G z_isinstance)
  · exact (PySem.W.mg_none_of X G z_len)
  · exact (PySem.W.mg_none_of X G z_list)
  · exact (PySem.W.mg_none_of X G z_max)
  · exact (PySem.W.mg_none_of X G z_min)
  · exact (PySem.W.mg_none_of X G z_range)
  · exact (PySem.W.mg_none_of X G z_set)
  · exact (PySem.W.mg_none_of X G z_sorted)
  · exact (PySem.W.mg_none_of X G z_sum)
  · exact (PySem.W.mg_none_of X G z_tuple)
  · exact (PySem.W.mg_none_of X G z_zip)
  · exact ⟨_, PySem.W.mg_of X G y_MOST_NODES⟩
  · exact ⟨_, PySem.W.mg_of X G y_MOST_ARCS⟩
section
variable {P : Program} {w : World} {K : PySem.W.Frag} {mg : Str → Option Value} {base : Heap} {f : Nat → Addr} {fd : Nat → FuncData}
theorem scal_ss (i j : Str) : scal (.str i) (.str j) = true := rfl
theorem scal_ii (i j : Int) : scal (.int i) (.int j) = true := rfl
theorem scal_bb (i j : Bool) : scal (.bl i) (.bl j) = true := rfl
local macro_rules | `(tactic| walk_at "dl") => `(tactic| ((try dsimp only [cxOf, L2.Cx.inTry, L2.Cx.inHand]); simp only [L2.start, tSeq, tNext, tIfS, tRet, tRetN, tAsg, tDrop, gName, tVar, tC, tOp, tUn, tCall, tCB, tCons, tNil, tTest, tB, tNot, tAnd, tOr, tAndV, tOrV, tNotV, tIf, tChain, tLst, tTup, tBM, tBM0, rI, rI0, rU, rEq, rNe, scal_ii, scal_bb, scal_ss, tComp, iStr, iList, iTup, iRng1, iRng2, tYes, rIsP, rAll, rLenS, rLenV, rListOf, rTupleOf, tDisp, tPairs, tSl, tPart, tNoPart, rSlS, rSlL, rFind, rStarts, rIntT, rStrA, rRepS, tCallX, tRaise, tRaiseI, tTry, tAs, offE, tXF, sXset, tMethX, tMakeX, rIsX, tFld, sFld, tMeth, rSortDB, rSumI, rDPop, tDNewK, tDIn, tDNotIn, tDGet, sDPut, rIndexS, tStop, tAugS, ipI, iZip, gSub, tAug, iEnum, tMake, tDisp, tPairs, tBreak, tSortSetB, iEnum, 
  List.map_cons, List.map_nil, List.cons_append, List.nil_append, List.length_cons, List.length_nil, List.getElem?_cons_zero, List.getElem?_cons_succ, Option.some.injEq, exists_eq_left', exists_eq_left, List.set_cons_zero, List.set_cons_succ, List.cons.injEq, and_true, true_and, V.int.injEq, V.str.injEq, V.bl.injEq, V.ref.injEq, V.ty.injEq, exists_and_left, exists_and_right, List.append_nil, reduceCtorEq, false_and, and_false, exists_false, or_false, false_or, decide_true, decide_false, Bool.not_true, Bool.not_false, if_true, if_false, Bool.false_eq_true, ite_true, ite_false, and_assoc, Nat.reduceAdd, Nat.reduceSub, List.replicate_succ, List.replicate_zero, Nat.zero_add, Nat.add_zero, Nat.sub_self, Int.reduceEq, Int.reduceLT, Int.reduceLE, ↓reduceIte, decide_eq_true_eq]))
theorem getD_of {α : Type} {l : List α} {i : Nat} {x d : α} (h : l[i]? = some x) : l.getD i d = x := by rw [List.getD_eq_getElem?_getD, h]; rfl
theorem ixN_nat {n j : Nat} (h : j < n) : ixN n (j : Int) = some j := by
  unfold ixN
  rw [if_pos (by omega), if_pos (by omega), Int.toNat_natCast]
theorem ints_reps {K : PySem.W.Frag} {H : Hp} : ∀ zs : List Int, Reps K H (zs.map .int) (zs.map V.int) ∧ PyData.canLayAll0 (zs.map .int) = true ∧ PyData.depthAll (zs.map .int) = 0
  | [] => by simp [Reps, PyData.canLayAll0, PyData.depthAll]
  | z :: zs => by
    obtain ⟨h1, h2, h3⟩ := ints_reps (K := K) (H := H) zs
    refine ⟨?_, ?_, ?_⟩
    · simp only [List.map_cons, Reps]
      exact ⟨_, _, rfl, by simp [Rep], h1⟩
    · simp [PyData.canLayAll0, PyData.canLay0, h2]
    · simp [PyData.depthAll, PyData.depth, h3]
theorem ints_eqv : ∀ a b : List Int, PyData.eqvAll (a.map .int) (b.map .int) = decide (a = b)
  | [], [] => by simp [PyData.eqvAll]
  | [], _ :: _ => by simp [PyData.eqvAll]
  | _ :: _, [] => by simp [PyData.eqvAll]
  | x :: a, y :: b => by
    simp only [List.map_cons, PyData.eqvAll, ints_eqv a b]
    by_cases e : x = y <;> simp [PyData.eqv, e]
theorem rep_zero (m : Nat) : (List.replicate m [V.int 0]).flatten = (List.replicate m (0 : Int)).map V.int := by
  induction m with
  | zero => rfl
  | succ m ih => rw [List.replicate_succ, List.flatten_cons, ih, List.replicate_succ]; rfl
theorem eqI_of {K : PySem.W.Frag} {H : Hp} {a b : Addr} {x y : List Int} {neg : Bool} {Q : VK} (h1 : H a = some (.lst (x.map V.int))) (h2 : H b = some (.lst (y.map V.int))) (q : Q (.bl (if neg then !decide (x = y) else decide (x = y))) H) : rEqD K neg (.ref a) (.ref b) H Q := by
  have sh : ∀ zs : List Int, SeqAt.shaped (.list (zs.map .int)) = true := fun zs => by
    obtain ⟨_, r2, r3⟩ := ints_reps (K := K) (H := H) zs
    unfold SeqAt.shaped
    simp only [PyData.canLay0, PyData.depth, r2, Bool.true_and]
    exact decide_eq_true (by omega)
  refine ⟨.list (x.map .int), .list (y.map .int), ?_, ?_, sh x, sh y, ?_⟩
  · simp only [Rep]; exact ⟨a, _, rfl, .of h1, (ints_reps x).1⟩
  · simp only [Rep]; exact ⟨b, _, rfl, .of h2, (ints_reps y).1⟩
  · have e : PyData.eqv (.list (x.map .int)) (.list (y.map .int)) = decide (x = y) := by simp only [PyData.eqv]; exact ints_eqv x y
    rw [e]
    exact q
noncomputable def stepG (g : List Int) (A : Arc) (x : Int) : List Int := (g.set A.a.toNat (g.getD A.a.toNat 0 - x)).set A.b.toNat ((g.set A.a.toNat (g.getD A.a.toNat 0 - x)).getD A.b.toNat 0 + x)
noncomputable def gainsF (m : Nat) (as : List Arc) (fl : List Int) : Nat → List Int
  | 0 => List.replicate m 0
  | i + 1 => stepG (gainsF m as fl i) (as.getD i default) (fl.getD i 0)
theorem gainsF_len (m : Nat) (as : List Arc) (fl : List Int) : ∀ i, (gainsF m as fl i).length = m
  | 0 => List.length_replicate
  | i + 1 => by
    show (stepG (gainsF m as fl i) _ _).length = m
    unfold stepG
    rw [List.length_set, List.length_set, gainsF_len m as fl i]
theorem map_set_int (fl : List Int) (k : Nat) (v : Int) : (fl.map V.int).set k (.int v) = (fl.set k v).map V.int := by rw [List.map_set]
noncomputable def sp_Stream_room (K : PySem.W.Frag) (f : Nat → Addr) : Sp := fun vs H Q _ => ∃ (x : Addr) (pl m : Nat) (sg : Int) (as : List Arc) (fl : List Int), vs = [.ref x, .int pl, .int sg] ∧ StreamAt H (f 10) x m as fl ∧ pl < as.length ∧ Q (.int (roomF as fl pl sg)) H
theorem ok_Stream_room (T : Txt K mg f fd) : FnOk P w K mg base CX0 1 (f 11001) (fd 11001) ["self", "place", "sign"] (sp_Stream_room K f) := by
  refine T.d_Stream_room.F.ok sc_Stream_room (fun vs H Q E h => ?_) (fun cdv A outer s H vs Q E hr h => ?_)
  · obtain ⟨x, pl, m, sg, as, fl, rfl, _⟩ := h
    rfl
  · obtain ⟨x, pl, m, sg, as, fl, rfl, S, hp, k⟩ := h
    refine ⟨_, (pss_cons (ps_if (pt_cmpR op_eq (pvl 2) pe_int (nomark _))
     (pss_one (ps_ret (pe_op op_sub (pe_ix (k_ixT rfl) (pe_ix (k_ixL rfl) (pe_fld (pvl 0) rfl) (pvl 1) (fun _ _ => rfl)) pe_int (fun _ _ => rfl)) (pe_ix (k_ixL rfl) (pe_fld (pvl 0) rfl) (pvl 1) (fun _ _ => rfl)))))
     pss_nil)
     (pss_one (ps_ret (pe_op op_sub (pe_ix (k_ixL rfl) (pe_fld (pvl 0) rfl) (pvl 1) (fun _ _ => rfl)) (pe_ix (k_ixT rfl) (pe_ix (k_ixL rfl) (pe_fld (pvl 0) rfl) (pvl 1) (fun _ _ => rfl)) pe_int (fun _ _ => rfl)))))), ?_⟩
    walk_at "dl"
    obtain ⟨dx, la, lb, ls, xs, sa, h1, h2, h3, h4, h5, h6, h7⟩ := S.ex
    have e1 := List.getElem?_eq_getElem hp
    have hp2 : pl < fl.length := by rw [S.len]; exact hp
    have e2 := List.getElem?_eq_getElem hp2
    obtain ⟨v, hv, pa, rfl, hpa⟩ := All2.at' h3 e1
    unfold roomF at k
    rw [getD_of e1, getD_of e2] at k
    by_cases c : sg = 1
    · rw [if_pos c] at k ⊢
      exact ⟨_, _, _, h1, T.o_Stream.cls, T.na_Stream_arcs, _, rfl, la, _, _, _, rfl, rfl, .of h2, atI_nat hv, pa, _, _, _, rfl, rfl, .of hpa, atI_nat (j := 3) rfl, _, _, _, h1, T.o_Stream.cls, T.na_Stream_borne, _, rfl, lb, _, _, _, rfl, rfl, .of h4, atI_nat (by rw [List.getElem?_map, e2]; rfl), _, rfl, _, rfl, k⟩
    · rw [if_neg c] at k ⊢
      exact ⟨_, _, _, h1, T.o_Stream.cls, T.na_Stream_borne, _, rfl, lb, _, _, _, rfl, rfl, .of h4, atI_nat (by rw [List.getElem?_map, e2]; rfl), _, _, _, h1, T.o_Stream.cls, T.na_Stream_arcs, _, rfl, la, _, _, _, rfl, rfl, .of h2, atI_nat hv, pa, _, _, _, rfl, rfl, .of hpa, atI_nat (j := 2) rfl, _, rfl, _, rfl, k⟩
noncomputable def sp_Stream_reach (K : PySem.W.Frag) (f : Nat → Addr) : Sp := fun vs H Q _ => ∃ (x : Addr) (st m : Nat) (as : List Arc) (fl : List Int), vs = [.ref x, .int st] ∧ StreamAt H (f 10) x m as fl ∧ st < m ∧
  ∀ H' p kvs es, Same H H' → H' p = some (.dK kvs) → EntsV H' kvs es → Came as fl m st es → Q (.ref p) H'
structure Mid (as : List Arc) (fl : List Int) (m st : Nat) (es : List Ent) (rim fu : List Nat) : Prop extends CInv as fl m st es where
  rimIn : ∀ n ∈ rim, n ∈ keysE es
  fuIn : ∀ n ∈ fu, n ∈ keysE es
  done : ∀ n ∈ keysE es, n ∈ rim ∨ n ∈ fu ∨ Closed as fl es n
noncomputable def natV (n : Nat) : V := V.int (n : Int)
theorem natsV_get {ns : List Nat} {i : Nat} {x : V} (h : (ns.map natV)[i]? = some x) : ∃ n, ns[i]? = some n ∧ x = .int (n : Int) := by
  rw [List.getElem?_map] at h
  obtain ⟨n, hn, rfl⟩ := Option.map_eq_some_iff.mp h
  exact ⟨n, hn, rfl⟩
theorem TruL {H : Hp} {q : Addr} {xs : List V} {k : Bool} (h : H q = some (.lst xs)) (e : k = !xs.isEmpty) : TruV K (.ref q) H k := .inl ⟨xs, .of h, e⟩
noncomputable def RchP (H : Hp) (x p : Addr) (st m : Nat) (as : List Arc) (fl : List Int) (μ : Nat) (σ : St) (H' : Hp) : Prop := ∃ (q : Addr) (kvs : List (Key × V)) (es : List Ent) (rim : List Nat), (∃ v4 v5 v6 v7 v8, σ = [some (V.ref x), some (V.int (st : Int)), some (V.ref p), some (V.ref q), v4, v5, v6, v7, v8]) ∧ Same H H' ∧ H q = none ∧ H' p = some (.dK kvs) ∧ EntsV H' kvs es ∧ H' q = some (.lst (rim.map natV)) ∧ Mid as fl m st es rim [] ∧ μ = 2 * (m - es.length) + (if rim = [] then 0 else 1)
noncomputable def RndP (H : Hp) (x p q u : Addr) (st m : Nat) (as : List Arc) (fl : List Int) (es0 : List Ent) (rim : List Nat) (i : Nat) (σ : St) (H' : Hp) : Prop := ∃ (kvs : List (Key × V)) (es : List Ent) (fu : List Nat), (∃ v5 v6 v7 v8, σ = [some (V.ref x), some (V.int (st : Int)), some (V.ref p), some (V.ref q), some (V.ref u), v5, v6, v7, v8]) ∧ Same H H' ∧ H' p = some (.dK kvs) ∧ EntsV H' kvs es ∧ H' q = some (.lst (rim.map natV)) ∧ H' u = some (.lst (fu.map natV)) ∧ Mid as fl m st es (rim.drop i) fu ∧ es.length = es0.length + fu.length
noncomputable def StpP (H : Hp) (x p q u : Addr) (st m : Nat) (as : List Arc) (fl : List Int) (es0 : List Ent) (rim : List Nat) (i nd : Nat) (ts : List V) (j : Nat) (σ : St) (H' : Hp) : Prop := ∃ (kvs : List (Key × V)) (es : List Ent) (fu : List Nat), (∃ v6 v7 v8, σ = [some (V.ref x), some (V.int (st : Int)), some (V.ref p), some (V.ref q), some (V.ref u), some (natV nd), v6, v7, v8]) ∧ Same H H' ∧ H' p = some (.dK kvs) ∧ EntsV H' kvs es ∧ H' q = some (.lst (rim.map natV)) ∧ H' u = some (.lst (fu.map natV)) ∧ Mid as fl m st es (rim.drop i) fu ∧ es.length = es0.length + fu.length ∧
  ∀ (r : Addr) (pl t : Nat) (sg : Int), V.ref r ∈ ts.take j → H r = some (.tup [.int pl, .int t, .int sg]) → 0 < roomF as fl pl sg → t ∈ keysE es
theorem ok_Stream_reach (T : Txt K mg f fd) : FnOk P w K mg base CX0 2 (f 11002) (fd 11002) ["self", "start"] (sp_Stream_reach K f) := by
  refine T.d_Stream_reach.F.ok sc_Stream_reach (fun vs H Q E h => ?_) (fun cdv A outer s H vs Q E hr h => ?_)
  · obtain ⟨x, st, m, as, fl, rfl, _⟩ := h
    rfl
  · obtain ⟨x, st, m, as, fl, rfl, S, hst, k⟩ := h
    refine ⟨_, (pss_cons (psl 2 sc_Stream_reach.nd (pe_disp (pps_cons (pvl 1) pe_non pps_nil) rfl rfl (List.cons_ne_nil _ _) (by show 1 ≤ 15; decide)))
     (pss_cons (psl 3 sc_Stream_reach.nd (pe_lst (pal rfl (pvl 1) pa_nil)))
     (pss_cons (ps_while PassesOwn.never (pt_truth (pvl 3) (fun _ => rfl))
     (pss_cons (psl 4 sc_Stream_reach.nd (pe_lst pa_nil))
     (pss_cons (ps_for PassesOwn.never rfl (k_piL rfl (pvl 3)) (pgl 5 sc_Stream_reach.nd)
     (pss_one (ps_for PassesOwn.never rfl (k_piL rfl (pe_ix (k_ixL rfl) (pe_fld (pvl 0) rfl) (pvl 5) (fun _ _ => rfl))) (k_pgT rfl rfl (pgs_cons (pgl 6 sc_Stream_reach.nd) (pgs_cons (pgl 7 sc_Stream_reach.nd) (pgs_cons (pgl 8 sc_Stream_reach.nd) pgs_nil))))
     (pss_one (ps_if (PW.pt (pw_and (pt_cmp (pc_dnotin (hu_of hr) (pvl 7) (pvl 2))) (pw_and1 (pt_cmpR op_gt (pe_meth (pvl 0) T.o_Stream.cls T.m_Stream_room (ok_Stream_room T) (hr.mono (by decide)) T.d_Stream_room.b .nil pass0 (pal rfl (pvl 6) (pal rfl (pvl 8) pa_nil)) rfl rfl rfl) pe_int (nomark _)))))
     (pss_cons (ps_dput (hu_of hr) (pvl 2) (pvl 7) (pe_tup (pal rfl (pvl 5) (pal rfl (pvl 6) (pal rfl (pvl 8) pa_nil)))) rfl)
     (pss_one (ps_expr (k_bmL rfl PySem.F.plainAttrs_list PySem.F.slot_list_append PySem.F.type_list_append mt_append rfl rfl rfl rfl (pvl 4) (pal rfl (pvl 7) pa_nil)))))
     pss_nil)))))
     (pss_one (psl 3 sc_Stream_reach.nd (pvl 4))))))
     (pss_one (ps_ret (pvl 2)))))), ?_⟩
    walk_at "dl"
    intro p hp
    have u0 := Same.upd_new hp (HO.dK [])
    refine ⟨upd_same, [(Sum.inl (st : Int), .non)], rfl, (by show 1 ≤ 15; decide), ?_⟩
    rw [upd_upd]
    have em : mergeK [] [(Sum.inl (st : Int), V.non)] = [(Sum.inl (st : Int), V.non)] := rfl
    rw [em]
    have s1 := Same.upd_new hp (HO.dK [(Sum.inl (st : Int), V.non)])
    have g1 : upd H p (HO.dK [(Sum.inl (st : Int), V.non)]) p = some (.dK [(Sum.inl (st : Int), V.non)]) := upd_same
    generalize upd H p (HO.dK [(Sum.inl (st : Int), V.non)]) = H1 at *
    refine ⟨small_line (by decide), fun q hq => ?_⟩
    have hqH : H q = none := s1.free hq
    have g1' := Same.upd_new hq (HO.lst [V.int (st : Int)]) _ _ g1
    have s2 := s1.new hq (HO.lst [V.int (st : Int)])
    have g2 : upd H1 q (HO.lst [V.int (st : Int)]) q = some (.lst ([st].map natV)) := upd_same
    generalize upd H1 q (HO.lst [V.int (st : Int)]) = H2 at *
    refine while_in (RchP H x p st m as fl) ⟨_, q, _, [(st, none)], [st], ⟨none, none, none, none, none, rfl⟩, s2, hqH, g1', All2.one ⟨rfl, rfl⟩, g2, ⟨CInv.start hst, fun n hn => by simpa [keysE] using hn, (fun _ h => nomatch h), fun n hn => .inl (by simpa [keysE] using hn)⟩, rfl⟩ ?_
    clear g2 s2 g1' hqH hq s1 g1
    rintro μ σ H3 ⟨q, kvs, es, rim, ⟨v4, v5, v6, v7, v8, rfl⟩, s3, hqH, g3, e3, r3, M, hμ⟩
    walk_at "dl"
    by_cases cr : rim = []
    · subst cr
      refine ⟨false, TruL r3 rfl, ?_⟩
      rw [if_neg Bool.false_ne_true]
      exact k H3 p kvs es s3 g3 e3 ⟨M.toCInv, fun n hn => by
        rcases M.done n hn with z | z | z
        · cases z
        · cases z
        · exact z⟩
    refine ⟨true, TruL r3 (by cases rim with | nil => exact absurd rfl cr | cons => rfl), ?_⟩
    rw [if_pos rfl]
    refine WGo.of ?_
    walk_at "dl"
    refine ⟨Nat.zero_le _, fun u hu => ?_⟩
    have huH := s3.free hu
    have hqu : q ≠ u := ne_of_none r3 hu
    have u4 := Same.upd_new hu (HO.lst [])
    have g4 : upd H3 u (HO.lst []) u = some (.lst (([] : List Nat).map natV)) := upd_same
    have s4 := s3.trans u4
    have g3' := u4 _ _ g3
    have e3' := e3.mono u4
    have r3' := u4 _ _ r3
    generalize upd H3 u (HO.lst []) = H4 at *
    refine for_in ?_
    walk_at "dl"
    refine ⟨⟨_, .of r3'⟩, ?_⟩
    refine ForW.of walk_list (RndP H x p q u st m as fl es rim) ⟨kvs, es, [], ⟨v5, v6, v7, v8, rfl⟩, s4, g3', e3', r3', g4, M, rfl⟩ (fun i σ H' _ ⟨_, _, _, _, _, _, _, z, _⟩ => .of z) ?_ ?_
    · rintro i y σ H5 hy ⟨kvs5, es5, fu5, ⟨v5, v6, v7, v8, rfl⟩, s5, g5, e5, r5, f5, M5, l5⟩
      obtain ⟨nd, hnd, rfl⟩ := natsV_get hy
      walk_at "dl"
      refine for_in ?_
      walk_at "dl"
      obtain ⟨dx, la, lb, ls, xs, sa, h1, h2, h3, h4, h5, h6, h7⟩ := S.ex
      have ndK : nd ∈ keysE es5 := M5.rimIn nd (List.mem_of_getElem? (i := 0) (by rw [List.getElem?_drop, Nat.add_zero]; exact hnd))
      have ndm : nd < m := M5.lt nd ndK
      have hsa := List.getElem?_eq_getElem (show nd < sa.length by omega)
      generalize sa[nd]'(show nd < sa.length by omega) = na at hsa
      obtain ⟨ts, hts, lts, sok, scp⟩ := (h7 nd na hsa).ex
      refine ⟨_, _, _, s5 _ _ h1, T.o_Stream.cls, T.na_Stream_steps, _, rfl, ls, _, _, _, rfl, rfl, .of (s5 _ _ h5), atI_nat (by rw [List.getElem?_map, hsa]; rfl), na, rfl, ⟨_, .of (s5 _ _ hts)⟩, ?_⟩
      refine ForW.of walk_list (StpP H x p q u st m as fl es rim i nd ts) ⟨kvs5, es5, fu5, ⟨v6, v7, v8, rfl⟩, s5, g5, e5, r5, f5, M5, l5, fun _ _ _ _ z => nomatch z⟩ (fun j σ H' _ ⟨_, _, _, _, z, _⟩ => .of (z _ _ hts)) ?_ ?_
      · rintro j y σ H6 hj ⟨kvs6, es6, fu6, ⟨v6, v7, v8, rfl⟩, s6, g6, e6, r6, f6, M6, l6, d6⟩
        obtain ⟨r, pl, t, sg, rfl, hr', so⟩ := sok _ (List.mem_of_getElem? hj)
        refine ⟨r, _, rfl, .of (s6 _ _ hr'), rfl, ?_⟩
        simp only [gCons, gNil, gName]
        walk_at "dl"
        obtain ⟨A0, hA0, hcase⟩ := so
        have hpl : pl < as.length := (List.getElem?_eq_some_iff.mp hA0).1
        have inA := S.inn A0 (List.mem_of_getElem? hA0)
        have htm : t < m := by
          obtain ⟨i1, i2, i3, i4⟩ := inA
          rcases hcase with ⟨_, _, z⟩ | ⟨_, _, z⟩ <;> omega
        have old : ∀ (es' : List Ent), (∀ k ∈ keysE es6, k ∈ keysE es') → (0 < roomF as fl pl sg → t ∈ keysE es') → ∀ (r' : Addr) (pl' t' : Nat) (sg' : Int), V.ref r' ∈ ts.take (j + 1) → H r' = some (.tup [.int pl', .int t', .int sg']) → 0 < roomF as fl pl' sg' → t' ∈ keysE es' := by
          intro es' sub new r' pl' t' sg' hm hr2 hroom
          rw [List.take_succ, hj] at hm
          rcases List.mem_append.mp hm with z | z
          · exact sub _ (d6 r' pl' t' sg' z hr2 hroom)
          · simp at z
            subst z
            rw [hr'] at hr2
            simp at hr2
            obtain ⟨a1, a2, a3⟩ := hr2
            have : pl = pl' := by omega
            have : t = t' := by omega
            subst a3
            subst pl'
            subst t'
            exact new hroom
        refine ⟨_, DGet.k (k := Sum.inl (t : Int)) g6, ?_⟩
        rw [valE_some e6 t]
        by_cases ck : t ∈ keysE es6
        · rw [if_neg (by simp [ck])]
          exact ⟨kvs6, es6, fu6, ⟨_, _, _, rfl⟩, s6, g6, e6, r6, f6, M6, l6, old es6 (fun _ z => z) fun _ => ck⟩
        rw [if_pos (by simp [ck])]
        refine ⟨_, _, s6 _ _ h1, rfl, x, pl, m, sg, as, fl, rfl, S.mono s6, hpl, _, rfl, ?_⟩
        by_cases cr : 0 < roomF as fl pl sg
        · rw [if_pos (by simpa using cr)]
          refine ⟨small_line (by decide), fun pt hpt => ?_⟩
          have n1 : p ≠ pt := ne_of_none g6 hpt
          have n2 : u ≠ pt := ne_of_none f6 hpt
          have n3 : u ≠ p := ne_of f6 g6 (by intro z; cases z)
          have n4 : q ≠ pt := ne_of_none r6 hpt
          have n5 : q ≠ p := ne_of r6 g6 (by intro z; cases z)
          have n6 := hqu
          have lk : kvs6.length ≤ m := by rw [e6.1]; exact M6.toCInv.len
          have hm := S.small.2
          have lf : fu6.length ≤ m := by have := M6.toCInv.len; omega
          refine ⟨_, DPut.k (k := Sum.inl (t : Int)) (by rw [upd_ne n1]; exact g6) (small_line (by omega)), .inl ⟨rfl, _, .of (by rw [upd_ne n3, upd_ne n2]; exact f6)⟩, u, fu6.map natV, .int (t : Int), rfl, rfl, by rw [upd_ne n3, upd_ne n2]; exact f6, by rw [List.length_map, sizeLine_eq]; omega, ?_⟩
          rw [putE_new e6 ck]
          have ndk : nd ∈ keysE es6 := M6.rimIn nd (List.mem_of_getElem? (i := 0) (by rw [List.getElem?_drop, Nat.add_zero]; exact hnd))
          have C7 := M6.toCInv.snoc ndk ⟨⟨A0, hA0, hcase⟩, cr⟩ ck htm
          have sub : ∀ k ∈ keysE es6, k ∈ keysE (es6 ++ [(t, some (nd, pl, sg))]) := fun k hk => by rw [keysE_append]; exact List.mem_append_left _ hk
          have tin : t ∈ keysE (es6 ++ [(t, some (nd, pl, sg))]) := by rw [keysE_append]; exact List.mem_append_right _ (by simp [keysE])
          have ts7 : TSame H6 (upd (upd (upd H6 pt (HO.tup [natV nd, V.int ↑pl, V.int sg])) p (.dK (kvs6 ++ [(Sum.inl (t : Int), V.ref pt)]))) u (.lst (fu6.map natV ++ [.int (t : Int)]))) :=
            (((TSame.refl H6).new hpt).set (by rw [upd_ne n1]; exact g6) (fun _ z => by cases z)).set (by rw [upd_ne n3, upd_ne n2]; exact f6) (fun _ z => by cases z)
          refine ⟨_, es6 ++ [(t, some (nd, pl, sg))], fu6 ++ [t], ⟨_, _, _, rfl⟩, ((s6.new hpt _).set hp _).set huH _, by rw [upd_ne (Ne.symm n3), upd_same], All2.snoc (e6.monoT ts7) ⟨rfl, pt, rfl, by rw [upd_ne (Ne.symm n2), upd_ne (Ne.symm n1), upd_same]; rfl⟩, by rw [upd_ne n6, upd_ne n5, upd_ne n4]; exact r6, by rw [upd_same, List.map_append]; rfl, ⟨C7, fun n hn => sub n (M6.rimIn n hn), fun n hn => ?_, fun n hn => ?_⟩, by simp; omega, old _ sub fun _ => tin⟩
          · rcases List.mem_append.mp hn with z | z
            · exact sub n (M6.fuIn n z)
            · rw [List.mem_singleton.mp z]; exact tin
          · rw [keysE_append] at hn
            rcases List.mem_append.mp hn with z | z
            · rcases M6.done n z with y | y | y
              · exact .inl y
              · exact .inr (.inl (List.mem_append_left _ y))
              · exact .inr (.inr (y.more sub))
            · exact .inr (.inl (List.mem_append_right _ (by simpa [keysE] using z)))
        · rw [if_neg (by simpa using cr)]
          exact ⟨kvs6, es6, fu6, ⟨_, _, _, rfl⟩, s6, g6, e6, r6, f6, M6, l6, old es6 (fun _ z => z) fun z => absurd z cr⟩
      · rintro σ H6 ⟨kvs6, es6, fu6, ⟨v6, v7, v8, rfl⟩, s6, g6, e6, r6, f6, M6, l6, d6⟩
        rw [List.take_length] at d6
        have hdr : rim.drop i = nd :: rim.drop (i + 1) := by
          have hi := (List.getElem?_eq_some_iff.mp hnd)
          rw [List.drop_eq_getElem_cons hi.1, hi.2]
        refine ⟨kvs6, es6, fu6, ⟨_, _, _, _, rfl⟩, s6, g6, e6, r6, f6, ⟨M6.toCInv, fun n hn => M6.rimIn n (by rw [hdr]; exact List.mem_cons_of_mem _ hn), M6.fuIn, fun n hn => ?_⟩, l6⟩
        have cnd : Closed as fl es6 nd := fun pl t sg ⟨⟨A0, hA0, hcase⟩, hroom⟩ => by
          have hpl : pl < as.length := (List.getElem?_eq_some_iff.mp hA0).1
          obtain ⟨q', m1, m2⟩ := scp pl t sg trivial ⟨A0, hA0, hcase⟩
          exact d6 q' pl t sg m1 m2 hroom
        rcases M6.done n hn with z | z | z
        · rw [hdr] at z
          rcases List.mem_cons.mp z with rfl | z
          · exact .inr (.inr cnd)
          · exact .inl z
        · exact .inr (.inl z)
        · exact .inr (.inr z)
    · rintro σ H5 ⟨kvs5, es5, fu5, ⟨v5, v6, v7, v8, rfl⟩, s5, g5, e5, r5, f5, M5, l5⟩
      walk_at "dl"
      have lm := M5.toCInv.len
      refine ⟨_, ?_, u, kvs5, es5, fu5, ⟨_, _, _, _, _, rfl⟩, s5, huH, g5, e5, f5, ⟨M5.toCInv, M5.fuIn, (fun _ h => nomatch h), fun n hn => ?_⟩, rfl⟩
      · rw [hμ, if_neg cr]
        by_cases cf : fu5 = []
        · rw [if_pos cf]
          rw [cf] at l5
          simp at l5
          omega
        · rw [if_neg cf]
          have : 0 < fu5.length := List.length_pos_iff.mpr cf
          omega
      · rcases M5.done n hn with z | z | z
        · rw [List.length_map, List.drop_length] at z; cases z
        · exact .inl z
        · exact .inr (.inr z)
noncomputable def sp_Stream___init__ (K : PySem.W.Frag) (f : Nat → Addr) : Sp := fun vs H Q _ => ∃ (x dx la lf : Addr) (m : Nat) (xs : List V) (as : List Arc) (fl : List Int), vs = [.ref x, .int m, .ref la, .ref lf] ∧ H x = some (.ins (f 10) dx []) ∧ m ≤ 1000 ∧ H la = some (.lst xs) ∧ ArcsV H xs as ∧ as.length ≤ 1000 ∧ (∀ A ∈ as, InN m A) ∧ H lf = some (.lst (fl.map V.int)) ∧ fl.length = as.length ∧
  ∀ H' lb, SameBut x H H' → H lb = none → StrmAt H' (f 10) x lb m as fl → Q .non H'
structure IniQ (H : Hp) (C x dx p1 p2 ls : Addr) (xs : List V) (as : List Arc) (fl : List Int) (sa : List Addr) (D : Nat → Int → Prop) (bnd : Nat) (H' : Hp) : Prop where
  B : SameBut x H H'
  hx : H' x = some (.ins C dx [("arcs", .ref p1), ("borne", .ref p2), ("steps", .ref ls)])
  g : H' p1 = some (.lst xs)
  k : H' p2 = some (.lst (fl.map V.int))
  l : H' ls = some (.lst (sa.map V.ref))
  st : ∀ (n : Nat) a, sa[n]? = some a → StepsAt H' as D bnd n a
noncomputable def IniP (H : Hp) (C x dx la lf p1 p2 ls : Addr) (m : Nat) (xs : List V) (as : List Arc) (fl : List Int) (sa : List Addr) (i : Nat) (σ : St) (H' : Hp) : Prop := (∃ v4 v5, σ = [some (V.ref x), some (V.int (m : Int)), some (V.ref la), some (V.ref lf), v4, v5]) ∧ IniQ H C x dx p1 p2 ls xs as fl sa (fun pl _ => pl < i) (2 * i) H'
theorem IniQ.app {H H' : Hp} {C x dx p1 p2 ls : Addr} {xs : List V} {as : List Arc} {fl : List Int} {sa : List Addr} {D : Nat → Int → Prop} {bnd : Nat} (J : IniQ H C x dx p1 p2 ls xs as fl sa D bnd H') (nd : sa.Nodup) (fr : ∀ (n : Nat) a, sa[n]? = some a → H a = none ∧ a ≠ x ∧ a ≠ p1 ∧ a ≠ p2 ∧ a ≠ ls)
    {N pl t : Nat} {sg : Int} {aN : Addr} (hN : sa[N]? = some aN) (so : StepOk as N pl t sg) : ∃ ts, H' aN = some (.lst ts) ∧ ts.length ≤ bnd ∧ ∀ r, H' r = none →
      IniQ H C x dx p1 p2 ls xs as fl sa (fun pl' sg' => D pl' sg' ∨ (pl' = pl ∧ sg' = sg)) (bnd + 1) (upd (upd H' r (.tup [.int pl, .int t, .int sg])) aN (.lst (ts ++ [.ref r]))) := by
  obtain ⟨ts, h1, h2, _⟩ := (J.st N aN hN).ex
  obtain ⟨f1, f2, f3, f4, f5⟩ := fr N aN hN
  refine ⟨ts, h1, h2, fun r hr => ⟨(J.B.new hr).set f1, ?_, ?_, ?_, ?_, steps_app nd J.st hN so hr h1⟩⟩
  · rw [upd_ne (Ne.symm f2), upd_ne (ne_of_none J.hx hr)]; exact J.hx
  · rw [upd_ne (Ne.symm f3), upd_ne (ne_of_none J.g hr)]; exact J.g
  · rw [upd_ne (Ne.symm f4), upd_ne (ne_of_none J.k hr)]; exact J.k
  · rw [upd_ne (Ne.symm f5), upd_ne (ne_of_none J.l hr)]; exact J.l
theorem IniQ.keep {H H' H2 : Hp} {C x dx p1 p2 ls : Addr} {xs : List V} {as : List Arc} {fl : List Int} {sa : List Addr} {D : Nat → Int → Prop} {bnd : Nat} (J : IniQ H C x dx p1 p2 ls xs as fl sa D bnd H') (s : Same H' H2) : IniQ H C x dx p1 p2 ls xs as fl sa D bnd H2 :=
  ⟨fun b o n z => s _ _ (J.B b o n z), s _ _ J.hx, s _ _ J.g, s _ _ J.k, s _ _ J.l, fun n a ha => (J.st n a ha).mono s⟩
theorem ok_Stream___init__ (T : Txt K mg f fd) : FnOk P w K mg base CX0 1 (f 11000) (fd 11000) ["self", "many", "arcs", "flow"] (sp_Stream___init__ K f) := by
  refine T.d_Stream___init__.F.ok sc_Stream___init__ (fun vs H Q E h => ?_) (fun cdv A outer s H vs Q E hr h => ?_)
  · obtain ⟨x, dx, la, lf, m, xs, as, fl, rfl, _⟩ := h
    rfl
  · obtain ⟨x, dx, la, lf, m, xs, as, fl, rfl, hx, hm, hla, hA, h1000, hin, hlf, hlen, k⟩ := h
    refine ⟨_, (pss_cons (ps_fld (pvl 0) (pe_cTy (k_list rfl) T.n_list bt_list rfl (by decide) (by decide) rfl (pal rfl (pvl 2) pa_nil)) rfl)
     (pss_cons (ps_fld (pvl 0) (pe_cTy (k_list rfl) T.n_list bt_list rfl (by decide) (by decide) rfl (pal rfl (pvl 3) pa_nil)) rfl)
     (pss_cons (ps_fld (pvl 0) (pe_comp ["node"] ["self", "many", "arcs", "flow", "place", "arc"] rfl (show CompSc _ (defScope s_Stream___init__) ["self", "many", "arcs", "flow", "place", "arc"] ["self", "many", "arcs", "flow", "place", "arc"] from compOk_is (by decide +kernel)) (pi_range1 rfl T.n_range (pal rfl (pvl 1) pa_nil)) (fun _ _ _ _ _ => (pgl 0 (show (["node", "self", "many", "arcs", "flow", "place", "arc"] : List Str).Nodup by decide +kernel))) (fun _ _ _ _ _ => pts_nil) (fun _ _ _ _ _ => (pe_lst pa_nil))) rfl)
     (pss_one (ps_for PassesOwn.never rfl (pi_enum rfl T.n_enumerate (pal rfl (pvl 2) pa_nil) rfl) (k_pgT rfl rfl (pgs_cons (pgl 4 sc_Stream___init__.nd) (pgs_cons (pgl 5 sc_Stream___init__.nd) pgs_nil)))
     (pss_cons (ps_expr (k_bmL rfl PySem.F.plainAttrs_list PySem.F.slot_list_append PySem.F.type_list_append mt_append rfl rfl rfl rfl (pe_ix (k_ixL rfl) (pe_fld (pvl 0) rfl) (pe_ix (k_ixT rfl) (pvl 5) pe_int (fun _ _ => rfl)) (fun _ _ => rfl)) (pal rfl (pe_tup (pal rfl (pvl 4) (pal rfl (pe_ix (k_ixT rfl) (pvl 5) pe_int (fun _ _ => rfl)) (pal rfl pe_int pa_nil)))) pa_nil)))
     (pss_one (ps_expr (k_bmL rfl PySem.F.plainAttrs_list PySem.F.slot_list_append PySem.F.type_list_append mt_append rfl rfl rfl rfl (pe_ix (k_ixL rfl) (pe_fld (pvl 0) rfl) (pe_ix (k_ixT rfl) (pvl 5) pe_int (fun _ _ => rfl)) (fun _ _ => rfl)) (pal rfl (pe_tup (pal rfl (pvl 4) (pal rfl (pe_ix (k_ixT rfl) (pvl 5) pe_int (fun _ _ => rfl)) (pal rfl (pe_un un_neg pe_int) pa_nil)))) pa_nil)))))))))), ?_⟩
    walk_at "dl"
    have nxla : la ≠ x := ne_of hla hx (by intro z; cases z)
    have nxlf : lf ≠ x := ne_of hlf hx (by intro z; cases z)
    refine ⟨xs, .inl (.of hla), fun p1 hp1 => ?_⟩
    have n1 : x ≠ p1 := ne_of_none hx hp1
    have B1 : SameBut x H (upd H p1 (.lst xs)) := SameBut.new (fun _ _ _ z => z) hp1
    have hx1 : upd H p1 (.lst xs) x = some (.ins (f 10) dx []) := by rw [upd_ne n1]; exact hx
    have g1 : upd H p1 (.lst xs) p1 = some (.lst xs) := upd_same
    generalize upd H p1 (.lst xs) = H1 at *
    refine ⟨_, _, _, hx1, T.o_Stream.cls, T.na_Stream_arcs, by decide, ?_⟩
    have B2 : SameBut x H (upd H1 x (.ins (f 10) dx (putF ("arcs" : Str) (.ref p1) []))) := B1.at
    have hx2 : upd H1 x (.ins (f 10) dx (putF ("arcs" : Str) (.ref p1) [])) x = some (.ins (f 10) dx [("arcs", .ref p1)]) := upd_same
    have g2 : upd H1 x (.ins (f 10) dx (putF ("arcs" : Str) (.ref p1) [])) p1 = some (.lst xs) := by rw [upd_ne (Ne.symm n1)]; exact g1
    generalize upd H1 x (.ins (f 10) dx (putF ("arcs" : Str) (.ref p1) [])) = H2 at *
    refine ⟨fl.map V.int, .inl (.of (B2 _ _ nxlf hlf)), fun p2 hp2 => ?_⟩
    have n2 : x ≠ p2 := ne_of_none hx2 hp2
    have hp2H : H p2 = none := by
      cases e : H p2 with
      | none => rfl
      | some o => rw [B2 p2 o (Ne.symm n2) e] at hp2; cases hp2
    have n3 : p1 ≠ p2 := ne_of_none g2 hp2
    have B3 : SameBut x H (upd H2 p2 (.lst (fl.map V.int))) := B2.new hp2
    have hx3 : upd H2 p2 (.lst (fl.map V.int)) x = some (.ins (f 10) dx [("arcs", .ref p1)]) := by rw [upd_ne n2]; exact hx2
    have g3 : upd H2 p2 (.lst (fl.map V.int)) p1 = some (.lst xs) := by rw [upd_ne n3]; exact g2
    have k3 : upd H2 p2 (.lst (fl.map V.int)) p2 = some (.lst (fl.map V.int)) := upd_same
    generalize upd H2 p2 (.lst (fl.map V.int)) = H3 at *
    refine ⟨_, _, _, hx3, T.o_Stream.cls, T.na_Stream_borne, (by show 1 < 1000; decide), ?_⟩
    have ep : putF (Str.ofString "borne") (V.ref p2) [(("arcs" : Str), V.ref p1)] = ([("arcs", .ref p1), ("borne", .ref p2)] : List (Str × V)) := by
      show (if (("arcs" : Str) = "borne") then _ else _) = _
      rw [if_neg (by decide)]
      rfl
    rw [ep]
    have B4 : SameBut x H (upd H3 x (.ins (f 10) dx [("arcs", .ref p1), ("borne", .ref p2)])) := B3.at
    have hx4 : upd H3 x (.ins (f 10) dx [("arcs", .ref p1), ("borne", .ref p2)]) x = some (.ins (f 10) dx [("arcs", .ref p1), ("borne", .ref p2)]) := upd_same
    have g4 : upd H3 x (.ins (f 10) dx [("arcs", .ref p1), ("borne", .ref p2)]) p1 = some (.lst xs) := by rw [upd_ne (Ne.symm n1)]; exact g3
    have k4 : upd H3 x (.ins (f 10) dx [("arcs", .ref p1), ("borne", .ref p2)]) p2 = some (.lst (fl.map V.int)) := by rw [upd_ne (Ne.symm n2)]; exact k3
    generalize upd H3 x (.ins (f 10) dx [("arcs", .ref p1), ("borne", .ref p2)]) = H4 at *
    refine ⟨by omega, by omega, ?_⟩
    rw [Int.toNat_natCast]
    have fr : ∀ a, H4 a = none → H a = none := fun a ha => by
      cases e : H a with
      | none => rfl
      | some o => rw [B4 a o (fun z => by subst z; rw [hx4] at ha; cases ha) e] at ha; cases ha
    refine comp_walk walk_range (by rw [rangeV_len]; exact small_line (by omega)) (fun i ys H' => Same H4 H' ∧ ∃ sa : List Addr, ys = sa.map V.ref ∧ sa.length = i ∧ sa.Nodup ∧ ∀ a ∈ sa, H4 a = none ∧ H' a = some (.lst [])) ⟨Same.refl _, [], rfl, rfl, List.nodup_nil, fun _ z => nomatch z⟩ (fun _ _ _ _ _ => trivial) (fun i ys H' q => by obtain ⟨_, sa, rfl, h2, _⟩ := q; rw [List.length_map, h2]; exact Nat.le_refl _) ?_ ?_
    · rintro i y ys H5 hy ⟨s5, sa, rfl, l5, n5, a5⟩
      walk_at "dl"
      refine ⟨Nat.zero_le _, fun a ha => ⟨⟨_, rfl⟩, s5.new ha _, sa ++ [a], by rw [List.map_append]; rfl, by simp [l5], List.nodup_append.mpr ⟨n5, by simp, fun b hb c hc => ?_⟩, fun b hb => ?_⟩⟩
      · rw [List.mem_singleton.mp hc]
        intro e
        subst e
        rw [(a5 _ hb).2] at ha; cases ha
      · rcases List.mem_append.mp hb with z | z
        · have : b ≠ a := fun e => by subst e; rw [(a5 _ z).2] at ha; cases ha
          exact ⟨(a5 b z).1, by rw [upd_ne this]; exact (a5 b z).2⟩
        · rw [List.mem_singleton.mp z]
          exact ⟨s5.free ha, upd_same⟩
    · rintro ys H5 ⟨s5, sa, rfl, l5, n5, a5⟩ ls hls
      rw [rangeV_len] at l5
      have nxl : x ≠ ls := ne_of_none (s5 _ _ hx4) hls
      refine ⟨_, _, _, by rw [upd_ne nxl]; exact s5 _ _ hx4, T.o_Stream.cls, T.na_Stream_steps, (by show 2 < 1000; decide), ?_⟩
      have ep : putF (Str.ofString "steps") (V.ref ls) [(("arcs" : Str), V.ref p1), ("borne", V.ref p2)] = ([("arcs", .ref p1), ("borne", .ref p2), ("steps", .ref ls)] : List (Str × V)) := by
        show (if (("arcs" : Str) = "steps") then _ else _ :: (if (("borne" : Str) = "steps") then _ else _)) = _
        rw [if_neg (by decide), if_neg (by decide)]
        rfl
      rw [ep]
      have n7' : p2 ≠ ls := ne_of_none (s5 _ _ k4) hls
      have B5 : SameBut x H H5 := fun b o nb hb => s5 _ _ (B4 b o nb hb)
      refine for_in ?_
      walk_at "dl"
      have I0 : IniP H (f 10) x dx la lf p1 p2 ls m xs as fl sa 0 [some (V.ref x), some (V.int (m : Int)), some (V.ref la), some (V.ref lf), none, none] (upd (upd H5 ls (.lst (sa.map V.ref))) x (.ins (f 10) dx [("arcs", .ref p1), ("borne", .ref p2), ("steps", .ref ls)])) := by
        have n6 : p1 ≠ ls := ne_of_none (s5 _ _ g4) hls
        have n7 : p2 ≠ ls := ne_of_none (s5 _ _ k4) hls
        refine ⟨⟨none, none, rfl⟩, (B5.new hls).at, upd_same, by rw [upd_ne (Ne.symm n1), upd_ne n6]; exact s5 _ _ g4, by rw [upd_ne (Ne.symm n2), upd_ne n7]; exact s5 _ _ k4, by rw [upd_ne (Ne.symm nxl), upd_same], fun n a ha => ⟨[], ?_, Nat.zero_le _, (fun _ z => nomatch z), fun pl _ _ z => absurd z (Nat.not_lt_zero _)⟩⟩
        have h1 := a5 a (List.mem_of_getElem? ha)
        have e1 : a ≠ x := fun e => by subst e; rw [hx4] at h1; cases h1.1
        have e2 : a ≠ ls := ne_of_none h1.2 hls
        rw [upd_ne e1, upd_ne e2]; exact h1.2
      have hsaH : ∀ (n : Nat) a, sa[n]? = some a → H a = none ∧ a ≠ x ∧ a ≠ p1 ∧ a ≠ p2 ∧ a ≠ ls := fun n a ha => by
        have h1 := a5 a (List.mem_of_getElem? ha)
        exact ⟨fr a h1.1, (fun e => by subst e; rw [hx4] at h1; cases h1.1), (fun e => by subst e; rw [g4] at h1; cases h1.1), (fun e => by subst e; rw [k4] at h1; cases h1.1), ne_of_none h1.2 hls⟩
      generalize upd (upd H5 ls (.lst (sa.map V.ref))) x (.ins (f 10) dx [("arcs", .ref p1), ("borne", .ref p2), ("steps", .ref ls)]) = H6 at *
      refine ⟨⟨xs, .of (I0.2.B _ _ nxla hla)⟩, ?_⟩
      refine ForW.enum (xs := xs) (IniP H (f 10) x dx la lf p1 p2 ls m xs as fl sa) I0 (fun i σ H' q => .of (q.2.B _ _ nxla hla)) ?_ ?_
      · rintro i y σ H7 q hy ⟨⟨v4, v5, rfl⟩, J7⟩ hq
        obtain ⟨A0, hA0, pa, rfl, hpa⟩ := All2.at hA hy
        have npa : pa ≠ x := ne_of hpa hx (by intro z; cases z)
        have u8 := Same.upd_new hq (HO.tup [V.int (i : Int), V.ref pa])
        have g8 : upd H7 q (HO.tup [V.int (i : Int), V.ref pa]) q = some (HO.tup [V.int (i : Int), V.ref pa]) := upd_same
        have J8 := J7.keep u8
        generalize upd H7 q (HO.tup [V.int (i : Int), V.ref pa]) = H8 at *
        refine ⟨q, _, rfl, .of g8, rfl, ?_⟩
        simp only [gCons, gNil, gName]
        walk_at "dl"
        obtain ⟨i1, i2, i3, i4⟩ := hin A0 (List.mem_of_getElem? hA0)
        have hil : i < as.length := (List.getElem?_eq_some_iff.mp hA0).1
        obtain ⟨aa, ab, al, au⟩ := A0
        simp only at i1 i2 i3 i4
        obtain ⟨na, rfl⟩ : ∃ na : Nat, aa = (na : Int) := ⟨aa.toNat, by omega⟩
        obtain ⟨nb, rfl⟩ : ∃ nb : Nat, ab = (nb : Int) := ⟨ab.toNat, by omega⟩
        unfold Arc.vs at hpa
        simp only at hpa
        have ha := List.getElem?_eq_getElem (show na < sa.length by omega)
        generalize sa[na]'(show na < sa.length by omega) = pna at ha
        have hb := List.getElem?_eq_getElem (show nb < sa.length by omega)
        generalize sa[nb]'(show nb < sa.length by omega) = pnb at hb
        obtain ⟨ts, t1, t2, t3⟩ := J8.app n5 hsaH ha (pl := i) (t := nb) (sg := 1) ⟨_, hA0, .inl ⟨rfl, rfl, rfl⟩⟩
        have pa8 := J8.B _ _ npa hpa
        refine ⟨_, _, _, J8.hx, T.o_Stream.cls, T.na_Stream_steps, _, rfl, pa, _, _, _, rfl, rfl, .of pa8, atI_nat (j := 0) rfl, ls, _, _, V.ref pna, rfl, rfl, .of J8.l, atI_nat (by rw [List.getElem?_map, ha]; rfl), .inl ⟨rfl, _, .of t1⟩, pa, _, _, _, rfl, rfl, .of pa8, atI_nat (j := 1) rfl, small_line (by decide), fun r hr => ?_⟩
        have J9 := t3 r hr
        have nr : pna ≠ r := ne_of_none t1 hr
        refine ⟨pna, ts, _, rfl, rfl, by rw [upd_ne nr]; exact t1, by rw [sizeLine_eq]; omega, ?_⟩
        generalize upd (upd H8 r (HO.tup [V.int (i : Int), V.int (nb : Int), V.int 1])) pna (HO.lst (ts ++ [V.ref r])) = H9 at *
        obtain ⟨ts', t1', t2', t3'⟩ := J9.app n5 hsaH hb (pl := i) (t := na) (sg := -1) ⟨_, hA0, .inr ⟨rfl, rfl, rfl⟩⟩
        have pa9 := J9.B _ _ npa hpa
        refine ⟨_, _, _, J9.hx, T.o_Stream.cls, T.na_Stream_steps, _, rfl, pa, _, _, _, rfl, rfl, .of pa9, atI_nat (j := 1) rfl, ls, _, _, V.ref pnb, rfl, rfl, .of J9.l, atI_nat (by rw [List.getElem?_map, hb]; rfl), .inl ⟨rfl, _, .of t1'⟩, pa, _, _, _, rfl, rfl, .of pa9, atI_nat (j := 0) rfl, small_line (by decide), fun r' hr' => ?_⟩
        have J10 := t3' r' hr'
        have nr' : pnb ≠ r' := ne_of_none t1' hr'
        refine ⟨pnb, ts', _, rfl, rfl, by rw [upd_ne nr']; exact t1', by rw [sizeLine_eq]; omega, ⟨_, _, rfl⟩, J10.B, J10.hx, J10.g, J10.k, J10.l, fun n a hna => ?_⟩
        obtain ⟨ts'', z1, z2, z3, z4⟩ := (J10.st n a hna).ex
        refine ⟨ts'', z1, by omega, z3, fun pl t sg hd so => z4 pl t sg ?_ so⟩
        by_cases e : pl = i
        · subst e
          obtain ⟨A1, _, c⟩ := so
          rcases c with ⟨rfl, _⟩ | ⟨rfl, _⟩
          · exact .inl (.inr ⟨rfl, rfl⟩)
          · exact .inr ⟨rfl, rfl⟩
        · exact .inl (.inl (by omega))
      · rintro σ H7 ⟨⟨v4, v5, rfl⟩, J7⟩
        refine k H7 p2 J7.B hp2H ⟨⟨dx, p1, ls, xs, sa, J7.hx, J7.g, ?_, J7.k, J7.l, l5, fun n a ha => ?_, n3, Ne.symm n7', (fun a ha => by obtain ⟨n, hn⟩ := List.mem_iff_getElem?.mp ha; exact (hsaH n a hn).2.2.2.1)⟩, hlen, ⟨h1000, hm⟩, hin⟩
        · exact All2.mono hA fun v A ⟨pa, e, hpa⟩ => ⟨pa, e, J7.B _ _ (ne_of hpa hx (by intro z; cases z)) hpa⟩
        · obtain ⟨ts, t1, t2, t3, t4⟩ := (J7.st n a ha).ex
          rw [hA.1] at t2 t4
          exact ⟨ts, t1, t2, t3, fun pl t sg _ so => t4 pl t sg (by obtain ⟨A0, hA0, _⟩ := so; exact (List.getElem?_eq_some_iff.mp hA0).1) so⟩
noncomputable def StpAt (H : Hp) (x : V) (s : Nat × Int) : Prop := ∃ q, x = .ref q ∧ H q = some (.tup [.int s.1, .int s.2])
noncomputable def StpsV (H : Hp) (xs : List V) (tks : List (Nat × Int)) : Prop := All2 (StpAt H) xs tks
theorem StpsV.mono {H H' : Hp} {xs : List V} {tks : List (Nat × Int)} (s : Same H H') (h : StpsV H xs tks) : StpsV H' xs tks := All2.mono h fun _ _ ⟨q, e, g⟩ => ⟨q, e, s _ _ g⟩
theorem StpsV.monoT {H H' : Hp} {xs : List V} {tks : List (Nat × Int)} (s : TSame H H') (h : StpsV H xs tks) : StpsV H' xs tks := All2.mono h fun _ _ ⟨q, e, g⟩ => ⟨q, e, s _ _ g⟩
noncomputable def sp_Stream_way (K : PySem.W.Frag) (f : Nat → Addr) : Sp := fun vs H Q _ => ∃ (x : Addr) (st gl m : Nat) (as : List Arc) (fl : List Int), vs = [.ref x, .int st, .int gl] ∧ StreamAt H (f 10) x m as fl ∧ st < m ∧ gl < m ∧
  ∀ H' p zs tks, Same H H' → H' p = some (.lst zs) → StpsV H' zs tks → WayOk as fl st gl tks → Q (.ref p) H'
structure BackP (as : List Arc) (fl : List Int) (es : List Ent) (st gl i : Nat) (tk : List (Nat × Int)) : Prop where
  join : ∀ r nd, (∃ o, es[i]? = some (nd, o)) → Back as st r nd → Back as st (tk ++ r) gl
  src : ∀ s ∈ tk, ∃ j k n, i < j ∧ es[j]? = some (k, some (n, s.1, s.2))
  nd : (tk.map (·.1)).Nodup
noncomputable def WayP (H : Hp) (x pc pt : Addr) (st gl : Nat) (as : List Arc) (fl : List Int) (es : List Ent) (μ : Nat) (σ : St) (H' : Hp) : Prop := ∃ (nd : Nat) (o : Option (Nat × Nat × Int)) (zs : List V) (tk : List (Nat × Int)), σ = [some (V.ref x), some (V.int (st : Int)), some (V.int (gl : Int)), some (V.ref pc), some (V.ref pt), some (V.int (nd : Int))] ∧ Same H H' ∧ H' pt = some (.lst zs) ∧ StpsV H' zs tk ∧ es[μ]? = some (nd, o) ∧ tk.length + μ ≤ es.length ∧ BackP as fl es st gl μ tk
theorem ok_Stream_way (T : Txt K mg f fd) : FnOk P w K mg base CX0 3 (f 11003) (fd 11003) ["self", "start", "goal"] (sp_Stream_way K f) := by
  refine T.d_Stream_way.F.ok sc_Stream_way (fun vs H Q E h => ?_) (fun cdv A outer s H vs Q E hr h => ?_)
  · obtain ⟨x, st, gl, m, as, fl, rfl, _⟩ := h
    rfl
  · obtain ⟨x, st, gl, m, as, fl, rfl, S, hst, hgl, k⟩ := h
    refine ⟨_, (pss_cons (psl 3 sc_Stream_way.nd (pe_meth (pvl 0) T.o_Stream.cls T.m_Stream_reach (ok_Stream_reach T) (hr.mono (by decide)) T.d_Stream_reach.b .nil pass0 (pal rfl (pvl 1) pa_nil) rfl rfl rfl))
     (pss_cons (psl 4 sc_Stream_way.nd (pe_lst pa_nil))
     (pss_cons (psl 5 sc_Stream_way.nd (pe_ifExp (pt_cmp (pc_din (hu_of hr) (pvl 2) (pvl 3))) (pvl 2) (pvl 1)))
     (pss_cons (ps_while PassesOwn.never (pt_cmpR op_ne (pvl 5) (pvl 1) (nomark _))
     (pss_cons (ps_expr (k_bmL rfl PySem.F.plainAttrs_list PySem.F.slot_list_append PySem.F.type_list_append mt_append rfl rfl rfl rfl (pvl 4) (pal rfl (pe_slice (k_slT rfl) (pe_dget (hu_of hr) (pvl 3) (pvl 5) (fun _ _ => rfl)) (po_some pe_int) po_none) pa_nil)))
     (pss_one (psl 5 sc_Stream_way.nd (pe_ix (k_ixT rfl) (pe_dget (hu_of hr) (pvl 3) (pvl 5) (fun _ _ => rfl)) pe_int (fun _ _ => rfl))))))
     (pss_one (ps_ret (pvl 4))))))), ?_⟩
    walk_at "dl"
    obtain ⟨dx, la, lb, ls, xs, sa, h1, _⟩ := S.ex
    refine ⟨dx, _, h1, rfl, x, st, m, as, fl, rfl, S, hst, fun H1 pc kvs es s1 hpc he hcm => ⟨Nat.zero_le _, fun pt hpt => ?_⟩⟩
    have hptH := s1.free hpt
    have u2 := Same.upd_new hpt (HO.lst [])
    have g2 : upd H1 pt (HO.lst []) pt = some (.lst []) := upd_same
    have hpc2 := u2 _ _ hpc
    have he2 := he.mono u2
    have s2 := s1.trans u2
    generalize upd H1 pt (HO.lst []) = H2 at *
    generalize hW : tWhile _ _ = W
    generalize hD : Ends.mk _ _ _ _ = D1
    have far : gl ∉ keysE es → W D1 [some (V.ref x), some (V.int (st : Int)), some (V.int (gl : Int)), some (V.ref pc), some (V.ref pt), some (V.int (st : Int))] H2 := by
      intro hno
      subst hW
      subst hD
      refine while_in (fun μ σ H' => σ = [some (V.ref x), some (V.int (st : Int)), some (V.int (gl : Int)), some (V.ref pc), some (V.ref pt), some (V.int (st : Int))] ∧ H' = H2) ⟨0, rfl, rfl⟩ ?_
      rintro μ σ H3 ⟨rfl, rfl⟩
      walk_at "dl"
      exact k H3 pt [] [] s2 g2 All2.nil ⟨fun z => absurd rfl z, (fun _ z => nomatch z), (fun _ z => nomatch z), (fun _ z => nomatch z), by simp, fun _ _ r => hno ((hcm.iff gl).mpr r)⟩
    have near : gl ∈ keysE es → W D1 [some (V.ref x), some (V.int (st : Int)), some (V.int (gl : Int)), some (V.ref pc), some (V.ref pt), some (V.int (gl : Int))] H2 := by
      intro hin
      subst hW
      subst hD
      obtain ⟨e0, he0, heq⟩ := List.mem_map.mp hin
      obtain ⟨i0, hi0⟩ := List.mem_iff_getElem?.mp he0
      obtain ⟨k0, o0⟩ := e0
      simp only at heq
      subst heq
      have hlt := (List.getElem?_eq_some_iff.mp hi0).1
      refine while_in (WayP H1 x pc pt st k0 as fl es) ⟨i0, k0, o0, [], [], rfl, u2, g2, All2.nil, hi0, by simp; omega, ⟨fun r nd ⟨o, ho⟩ hb => ?_, (fun _ z => nomatch z), by simp⟩⟩ ?_
      · rw [hi0] at ho
        cases ho
        exact hb
      rintro μ σ H3 ⟨nd, o, zs, tk, rfl, s3, hzs, htk, hμ, hln, B⟩
      walk_at "dl"
      by_cases ce : nd = st
      · rw [if_neg (by simp [ce])]
        have hbk : Back as st tk k0 := by
          have := B.join [] nd ⟨o, hμ⟩ ce
          rwa [List.append_nil] at this
        refine k H3 pt zs tk (s1.trans s3) hzs htk ⟨fun _ => hbk, fun s' hs' => ?_, fun s' hs' => ?_, fun s' hs' => ?_, B.nd, fun z ne => ?_⟩
        · obtain ⟨j, k', n, _, hj⟩ := B.src s' hs'
          exact (hcm.tree j k' n _ _ hj).2.2
        · obtain ⟨j, k', n, _, hj⟩ := B.src s' hs'
          obtain ⟨A0, _, hc⟩ := (hcm.tree j k' n _ _ hj).2.1
          rcases hc with ⟨e, _⟩ | ⟨e, _⟩
          · exact .inl e
          · exact .inr e
        · obtain ⟨j, k', n, _, hj⟩ := B.src s' hs'
          obtain ⟨A0, hA0, _⟩ := (hcm.tree j k' n _ _ hj).2.1
          exact (List.getElem?_eq_some_iff.mp hA0).1
        · rw [z] at hbk
          exact absurd hbk.symm ne
      rw [if_pos (by simp; omega)]
      refine WGo.of ?_
      walk_at "dl"
      obtain ⟨n, pl, sg, rfl⟩ : ∃ n pl sg, o = some (n, pl, sg) := by
        cases o with
        | some z => exact ⟨z.1, z.2.1, z.2.2, rfl⟩
        | none =>
          cases μ with
          | zero =>
            obtain ⟨r, er⟩ := hcm.hd
            rw [er] at hμ
            simp at hμ
            exact absurd hμ.symm ce
          | succ μ => exact absurd rfl (hcm.some_ μ _ hμ)
      obtain ⟨hnk, so, hroom⟩ := hcm.tree μ nd n pl sg hμ
      obtain ⟨j, e', hjm, hj, rfl⟩ := key_before hnk
      obtain ⟨kv, hkv, ⟨_, q, eq, hq⟩, hval⟩ := valE_get he hcm.nd hμ
      have hq3 := s3 _ _ hq
      rw [eq] at hval
      refine ⟨.inl ⟨rfl, _, .of hzs⟩, .ref q, ?_, q, _, rfl, .of hq3, (by show ¬ (HT.sIx 3 0 (some 1) = 0 ∧ HT.sIx 3 3 none = 3); decide), fun p4 hp4 => ?_⟩
      · have := DGet.k (k := Sum.inl (nd : Int)) (s3 _ _ hpc)
        rw [hval] at this
        exact this
      have ec : cutV [V.int (e'.1 : Int), V.int (pl : Int), V.int sg] (some 1) none = [V.int (pl : Int), V.int sg] := rfl
      rw [ec]
      have u4 := Same.upd_new hp4 (HO.tup [V.int (pl : Int), V.int sg])
      have g4 : upd H3 p4 (HO.tup [V.int (pl : Int), V.int sg]) p4 = some (.tup [V.int (pl : Int), V.int sg]) := upd_same
      have s4 := s3.trans u4
      have hzs4 := u4 _ _ hzs
      have htk4 := htk.mono u4
      generalize upd H3 p4 (HO.tup [V.int (pl : Int), V.int sg]) = H4 at *
      have hlz := htk.1
      have hel := hcm.toCInv.len
      have hm := S.small.2
      refine ⟨pt, zs, .ref p4, rfl, rfl, hzs4, by rw [sizeLine_eq]; omega, ?_⟩
      have s5 := s4.set hpt (HO.lst (zs ++ [V.ref p4]))
      have g5 : upd H4 pt (HO.lst (zs ++ [V.ref p4])) pt = some (.lst (zs ++ [V.ref p4])) := upd_same
      have ts5 : TSame H4 (upd H4 pt (HO.lst (zs ++ [V.ref p4]))) := (TSame.refl _).set hzs4 (fun _ z => by cases z)
      have htk5 := htk4.monoT ts5
      have g45 := ts5 _ _ g4
      generalize upd H4 pt (HO.lst (zs ++ [V.ref p4])) = H5 at *
      refine ⟨.ref q, ?_, q, _, _, _, rfl, rfl, .of (s5 _ _ hq), atI_nat (j := 0) rfl, j, hjm, e'.1, e'.2, _, tk ++ [(pl, sg)], rfl, s5, g5, All2.snoc htk5 ⟨p4, rfl, g45⟩, hj, by simp; omega, ⟨fun r nd' ⟨o', ho'⟩ hb => ?_, fun s' hs' => ?_, ?_⟩⟩
      · have := DGet.k (k := Sum.inl (nd : Int)) (s5 _ _ hpc)
        rw [hval] at this
        exact this
      · rw [hj] at ho'
        have e1 : e'.1 = nd' := by
          have := Option.some.inj ho'
          rw [this]
        rw [← e1] at hb
        have := B.join ((pl, sg) :: r) nd ⟨_, hμ⟩ ⟨e'.1, so, hb⟩
        rw [List.append_assoc]
        exact this
      · rcases List.mem_append.mp hs' with z | z
        · obtain ⟨j', k', n', l', h'⟩ := B.src s' z
          exact ⟨j', k', n', by omega, h'⟩
        · rw [List.mem_singleton.mp z]
          exact ⟨μ, nd, e'.1, hjm, hμ⟩
      · rw [List.map_append]
        refine List.nodup_append.mpr ⟨B.nd, by simp, fun a ha b hb' e => ?_⟩
        have hbp : b = pl := by simpa using hb'
        obtain ⟨s', hs', rfl⟩ := List.mem_map.mp ha
        obtain ⟨j', k', n', l', h'⟩ := B.src s' hs'
        rw [e, hbp] at h'
        exact hcm.toCInv.places h' hμ l'
    refine ⟨pc, rfl, _, DGet.k (k := Sum.inl (gl : Int)) hpc2, ?_⟩
    rw [valE_some he2]
    by_cases ck : gl ∈ keysE es
    · rw [if_pos (by simp [ck])]
      exact near ck
    · rw [if_neg (by simp [ck])]
      exact far ck
structure Pushed (as : List Arc) (fl fl' : List Int) (st gl : Nat) (d : Int) : Prop where
  bnd : Bnd as fl'
  ex : ∀ v, exF as fl' v = exF as fl v + (if (gl : Int) = v then d else 0) - (if (st : Int) = v then d else 0)
  same : d = 0 → fl' = fl
  rch : 0 < d → Reach (LinkS as fl) st gl
theorem back_reach {as : List Arc} {fl : List Int} {st : Nat} : ∀ (tks : List (Nat × Int)) (gl : Nat), Back as st tks gl → (∀ s ∈ tks, 0 < roomF as fl s.1 s.2) → Reach (LinkS as fl) st gl
  | [], gl, hb, _ => by
    have e : gl = st := hb
    rw [e]
    exact .here
  | (pl, sg) :: r, gl, hb, hr => by
    obtain ⟨n, so, hb'⟩ := hb
    exact (back_reach r n hb' fun s hs => hr s (List.mem_cons_of_mem _ hs)).step ⟨pl, sg, so, hr _ List.mem_cons_self⟩
noncomputable def sp_Stream_push (K : PySem.W.Frag) (f : Nat → Addr) : Sp := fun vs H Q _ => ∃ (x lb : Addr) (st gl m : Nat) (lim : Int) (as : List Arc) (fl : List Int), vs = [.ref x, .int st, .int gl, .int lim] ∧ StrmAt H (f 10) x lb m as fl ∧ Bnd as fl ∧ st < m ∧ gl < m ∧ st ≠ gl ∧ 0 ≤ lim ∧
  ∀ H' fl' d, SameBut lb H H' → StrmAt H' (f 10) x lb m as fl' → Pushed as fl fl' st gl d → 0 ≤ d → d ≤ lim → (d = lim ∨ ¬ Reach (LinkS as fl') st gl) → Q (.int d) H'
noncomputable def PshP (H : Hp) (C x lb : Addr) (st gl m : Nat) (lim : Int) (as : List Arc) (fl : List Int) (μ : Nat) (σ : St) (H' : Hp) : Prop := ∃ (d : Int) (fl' : List Int), (∃ v5 v6 v7 v8, σ = [some (V.ref x), some (V.int (st : Int)), some (V.int (gl : Int)), some (V.int lim), some (V.int d), v5, v6, v7, v8]) ∧ SameBut lb H H' ∧ StrmAt H' C x lb m as fl' ∧ Pushed as fl fl' st gl d ∧ 0 ≤ d ∧ d ≤ lim ∧ μ = (lim - d).toNat
theorem ok_Stream_push (T : Txt K mg f fd) : FnOk P w K mg base CX0 4 (f 11004) (fd 11004) ["self", "start", "goal", "limit"] (sp_Stream_push K f) := by
  refine T.d_Stream_push.F.ok sc_Stream_push (fun vs H Q E h => ?_) (fun cdv A outer s H vs Q E hr h => ?_)
  · obtain ⟨x, lb, st, gl, m, lim, as, fl, rfl, _⟩ := h
    rfl
  · obtain ⟨x, lb, st, gl, m, lim, as, fl, rfl, S, hB, hst, hgl, hne, hlim, k⟩ := h
    refine ⟨_, (pss_cons (psl 4 sc_Stream_push.nd pe_int)
     (pss_cons (ps_while PassesOwn.never (pt_cmpR op_lt (pvl 4) (pvl 3) (nomark _))
     (pss_cons (psl 5 sc_Stream_push.nd (pe_meth (pvc 0) T.o_Stream.cls T.m_Stream_way (ok_Stream_way T) (hr.mono (by decide)) T.d_Stream_way.b .nil pass0 (pal rfl (pvl 1) (pal rfl (pvl 2) pa_nil)) rfl rfl rfl))
     (pss_cons (ps_if (pt_not (pt_truth (pvl 5) (fun _ => rfl)))
     (pss_one ps_break)
     pss_nil)
     (pss_cons (psl 6 sc_Stream_push.nd (pe_cB (k_minL rfl rfl) T.n_min bt_min rfl (by decide) (by decide) rfl (pal rfl (pe_op op_cat (pe_lst (pal rfl (pe_op op_sub (pvl 3) (pvl 4)) pa_nil)) (pe_comp ["place", "sign"] ["self", "start", "goal", "limit", "pushed", "way", "through", "#7", "#8"] rfl (show CompSc _ (defScope s_Stream_push) ["self", "start", "goal", "limit", "pushed", "way", "through", "place", "sign"] ["self", "start", "goal", "limit", "pushed", "way", "through", "#7", "#8"] from compOk_is (by decide +kernel)) (k_piL rfl (pvl 5)) (fun _ _ _ _ _ => (pgl2 K 0 1 (show (["place", "sign", "self", "start", "goal", "limit", "pushed", "way", "through", "#7", "#8"] : List Str).Nodup by decide +kernel))) (fun _ _ _ _ _ => pts_nil) (fun _ _ _ _ _ => (pe_meth (pvc 2) T.o_Stream.cls T.m_Stream_room (ok_Stream_room T) (hr.mono (by decide)) T.d_Stream_room.b .nil pass0 (pal rfl (pvl 0) (pal rfl (pvl 1) pa_nil)) rfl rfl rfl)))) pa_nil)))
     (pss_cons (ps_for PassesOwn.never rfl (k_piL rfl (pvl 5)) (k_pgT rfl rfl (pgs_cons (pgl 7 sc_Stream_push.nd) (pgs_cons (pgl 8 sc_Stream_push.nd) pgs_nil)))
     (pss_one (ps_augS (pe_fld (pvc 0) rfl) (pvl 7) (k_getL rfl) (pe_op op_mul (pvl 8) (pvl 6)) ip_add set_list)))
     (pss_one (ps_aug sc_Stream_push.nd (i := 4) rfl (.inl rfl) (pvl 6) ip_add)))))))
     (pss_one (ps_ret (pvl 4))))), ?_⟩
    walk_at "dl"
    refine while_in (PshP H (f 10) x lb st gl m lim as fl) ⟨_, 0, fl, ⟨none, none, none, none, rfl⟩, SameBut.refl _ _, S, ⟨hB, (fun v => by split <;> split <;> omega), (fun _ => rfl), (fun z => absurd z (by decide))⟩, Int.le_refl _, hlim, rfl⟩ ?_
    rintro μ σ H1 ⟨d, fl1, ⟨v5, v6, v7, v8, rfl⟩, s1, S1, P1, d0, dl, hμ⟩
    walk_at "dl"
    by_cases cl : d < lim
    · rw [if_pos cl]
      refine WGo.of ?_
      walk_at "dl"
      obtain ⟨dx, la, ls, xs, sa, hx1, _, _, hb1, _⟩ := S1.ex
      refine ⟨dx, _, hx1, rfl, x, st, gl, m, as, fl1, rfl, S1.stream, hst, hgl, fun H2 pw zs tks s2 hpw hz W => ?_⟩
      have S2 := S1.mono s2
      dsimp only
      by_cases ct : tks = []
      · subst ct
        obtain rfl : zs = [] := List.eq_nil_of_length_eq_zero hz.1
        refine ⟨false, TruL hpw rfl, ?_⟩
        rw [if_pos (by decide)]
        exact k H2 fl1 d (s1.same s2) S2 P1 d0 dl (.inr (W.none_ rfl hne))
      have hzl := hz.1
      have hzne : zs ≠ [] := fun z => ct (by rw [z] at hzl; exact List.eq_nil_of_length_eq_zero hzl.symm)
      refine ⟨true, TruL hpw (by cases zs with | nil => exact absurd rfl hzne | cons => rfl), ?_⟩
      rw [if_neg (by decide)]
      have htl : tks.length ≤ 1000 := by
        have h1 : (tks.map (·.1)).length ≤ as.length := nodup_le as.length _ W.nd fun a ha => by
          obtain ⟨s', hs', rfl⟩ := List.mem_map.mp ha
          exact W.lt s' hs'
        rw [List.length_map] at h1
        have := S1.small.1
        omega
      refine ⟨small_line (by decide), fun p3 hp3 => ?_⟩
      have u3 := Same.upd_new hp3 (HO.lst [V.int (lim - d)])
      have g3 : upd H2 p3 (HO.lst [V.int (lim - d)]) p3 = some (.lst [V.int (lim - d)]) := upd_same
      have s13 := s2.trans u3
      have hpw3 := u3 _ _ hpw
      have hz3 := hz.mono u3
      have S3 := S2.mono u3
      generalize upd H2 p3 (HO.lst [V.int (lim - d)]) = H3 at *
      refine ⟨pw, rfl, ⟨_, .of hpw3⟩, ?_⟩
      refine comp_walkG walk_list (by rw [hzl]; exact small_line (by omega)) (fun i ys σ H' => (∃ v0 v1, σ = [v0, v1, some (V.ref x), some (V.int (st : Int)), some (V.int (gl : Int)), some (V.int lim), some (V.int d), some (V.ref pw), v6, v7, v8]) ∧ Same H3 H' ∧ ys = ((tks.take i).map fun s' => roomF as fl1 s'.1 s'.2).map V.int) ⟨⟨none, none, rfl⟩, Same.refl _, rfl⟩ (fun i ys σ H' q => ⟨.of (q.2.1 _ _ hpw3), by rw [q.2.2, List.length_map, List.length_map, List.length_take]; omega⟩) ?_ ?_
      · rintro i y ys σ H4 hy ⟨⟨v0, v1, rfl⟩, s4, rfl⟩
        obtain ⟨s', hs', q, rfl, hq⟩ := All2.at hz3 hy
        refine ⟨q, _, rfl, .of (s4 _ _ hq), rfl, ?_⟩
        simp only [gCons, gNil, gName]
        walk_at "dl"
        obtain ⟨dx4, _, _, _, _, hx4, _⟩ := (S3.mono s4).ex
        refine ⟨dx4, _, hx4, rfl, s'.1, rfl, m, as, fl1, (S3.mono s4).stream, W.lt s' (List.mem_of_getElem? hs'), ⟨_, rfl⟩, s4, ?_⟩
        rw [List.take_succ, hs', List.map_append, List.map_append]
        rfl
      · rintro ys σ H4 ⟨⟨v0, v1, rfl⟩, s4, rfl⟩ D hD
        rw [List.take_of_length_le (by rw [hzl]; exact Nat.le_refl _)]
        generalize hrs : (tks.map fun s' => roomF as fl1 s'.1 s'.2) = rs
        have hrl : rs.length ≤ 1000 := by rw [← hrs, List.length_map]; exact htl
        have u5 := Same.upd_new hD (HO.lst (rs.map V.int))
        have g5 : upd H4 D (HO.lst (rs.map V.int)) D = some (.lst (rs.map V.int)) := upd_same
        have s35 := s4.trans u5
        generalize upd H4 D (HO.lst (rs.map V.int)) = H5 at *
        refine ⟨p3, D, _, _, rfl, rfl, s35 _ _ g3, g5, by rw [List.length_map]; exact small_line (by simp; omega), fun p6 hp6 => ?_⟩
        have u6 := Same.upd_new hp6 (HO.lst ([V.int (lim - d)] ++ rs.map V.int))
        have g6 : upd H5 p6 (HO.lst ([V.int (lim - d)] ++ rs.map V.int)) p6 = some (.lst (((lim - d) :: rs).map V.int)) := upd_same
        have s36 := s35.trans u6
        generalize upd H5 p6 (HO.lst ([V.int (lim - d)] ++ rs.map V.int)) = H6 at *
        refine ⟨p6, (lim - d) :: rs, rfl, .of g6, by simp, fun t ht hle => ?_⟩
        have t1 : t ≤ lim - d := hle _ List.mem_cons_self
        have t2 : ∀ s' ∈ tks, t ≤ roomF as fl1 s'.1 s'.2 := fun s' hs' => hle _ (List.mem_cons_of_mem _ (by rw [← hrs]; exact List.mem_map_of_mem hs'))
        have t0 : 0 < t := by
          rcases List.mem_cons.mp ht with e | e
          · omega
          · rw [← hrs] at e
            obtain ⟨s', hs', rfl⟩ := List.mem_map.mp e
            exact W.room s' hs'
        have S6 := S3.mono s36
        have hpw6 := s36 _ _ hpw3
        have hz6 := hz3.mono s36
        have B6 : SameBut lb H H6 := (s1.same s13).same s36
        dsimp only
        refine for_in ?_
        walk_at "dl"
        refine ⟨⟨_, .of hpw6⟩, ?_⟩
        obtain ⟨dx6, la6, ls6, xs6, sa6, hx6, hla6, _, hb6, hls6, _⟩ := S6.ex
        have npw : pw ≠ lb := by
          intro e
          subst e
          rw [hb6] at hpw6
          have e2 : zs = fl1.map V.int := by injection hpw6 with h; injection h with h; exact h.symm
          cases zs with
          | nil => exact hzne rfl
          | cons z zs =>
            obtain ⟨_, _, q, rfl, _⟩ := All2.at hz (i := 0) rfl
            cases hf : fl1 with
            | nil => rw [hf] at e2; cases e2
            | cons a b => rw [hf] at e2; simp at e2
        refine ForW.of walk_list (fun i σ H' => (∃ v7 v8, σ = [some (V.ref x), some (V.int (st : Int)), some (V.int (gl : Int)), some (V.int lim), some (V.int d), some (V.ref pw), some (V.int t), v7, v8]) ∧ SameBut lb H6 H' ∧ StrmAt H' (f 10) x lb m as ((tks.take i).foldl (putW t) fl1)) ⟨⟨v7, v8, rfl⟩, SameBut.refl _ _, S6⟩ (fun i σ H' _ q => .of (q.2.1 _ _ npw hpw6)) ?_ ?_
        · rintro i y σ H7 hy ⟨⟨v7, v8, rfl⟩, B7, S7⟩
          obtain ⟨s', hs', q, rfl, hq⟩ := All2.at hz6 hy
          have hq7 := B7 _ _ (ne_of hq hb6 (by intro z; cases z)) hq
          refine ⟨q, _, rfl, .of hq7, rfl, ?_⟩
          simp only [gCons, gNil, gName]
          walk_at "dl"
          obtain ⟨dx7, la7, ls7, xs7, sa7, hx7, _, _, hb7, _⟩ := S7.ex
          rw [List.take_succ, hs', List.foldl_append]
          generalize hf7 : (tks.take i).foldl (putW t) fl1 = fl7 at *
          have hl7 : s'.1 < fl7.length := by rw [S7.len]; exact W.lt s' (List.mem_of_getElem? hs')
          have e7 := List.getElem?_eq_getElem hl7
          have hsg := W.sgn s' (List.mem_of_getElem? hs')
          refine ⟨_, _, _, hx7, T.o_Stream.cls, T.na_Stream_borne, _, rfl, lb, _, s'.1, V.int fl7[s'.1], rfl, rfl, .of hb7, by rw [List.getElem?_map, e7]; rfl, .inl ⟨by omega, by omega⟩, _, rfl, lb, _, _, s'.1, rfl, rfl, hb7, ixN_nat (by rw [List.length_map]; exact hl7), ⟨_, rfl⟩, B7.at, ?_⟩
          have ep : (fl7.map V.int).set s'.1 (V.int (fl7[s'.1] + s'.2 * t)) = (putW t fl7 s').map V.int := by
            unfold putW
            rw [List.map_set, getD_of e7]
          refine S7.turn (SameBut.refl _ _).at ?_ (putW_len t fl7 s')
          rw [upd_same, ep]
          rfl
        · rintro σ H7 ⟨⟨v7, v8, rfl⟩, B7, S7⟩
          rw [hzl, List.take_length] at S7
          walk_at "dl"
          have hwb := W.back ct
          refine ⟨_, ?_, d + t, _, ⟨_, _, _, _, rfl⟩, B6.trans B7, S7, ⟨foldW_bnd (by omega) tks fl1 P1.bnd W.nd t2 W.sgn W.lt, fun v => ?_, fun z => by omega, fun _ => ?_⟩, by omega, by omega, rfl⟩
          · omega
          · rw [exF_way tks fl1 gl S1.len hwb v, P1.ex v]
            split <;> split <;> omega
          · by_cases cz : d = 0
            · have e := P1.same cz
              subst e
              exact back_reach tks gl hwb W.room
            · exact P1.rch (by omega)
    · rw [if_neg cl]
      exact k H1 fl1 d s1 S1 P1 d0 dl (.inl (by omega))
noncomputable def sp_gains (K : PySem.W.Frag) : Sp := fun vs H Q _ => ∃ (m : Nat) (la lf : Addr) (xs : List V) (as : List Arc) (fl : List Int), vs = [.int m, .ref la, .ref lf] ∧ m ≤ 120 ∧ H la = some (.lst xs) ∧ ArcsV H xs as ∧ H lf = some (.lst (fl.map V.int)) ∧ fl.length = as.length ∧ as.length ≤ 1000 ∧ (∀ A ∈ as, InN m A) ∧
  ∀ H' p, Same H H' → H' p = some (.lst ((gainsF m as fl as.length).map V.int)) → Q (.ref p) H'
theorem ok_gains (T : Txt K mg f fd) : FnOk P w K mg base CX0 1 (f 8) (fd 8) ["many", "arcs", "flow"] (sp_gains K) := by
  refine T.d_gains.F.ok sc_gains (fun vs H Q E h => ?_) (fun cdv A outer s H vs Q E hr h => ?_)
  · obtain ⟨m, la, lf, xs, as, fl, rfl, _⟩ := h
    rfl
  · obtain ⟨m, la, lf, xs, as, fl, rfl, hm, hla, hA, hlf, hlen, h1000, hin, k⟩ := h
    refine ⟨_, (pss_cons (psl 3 sc_gains.nd (pe_op op_rep (pe_lst (pal rfl pe_int pa_nil)) (pvl 0)))
     (pss_cons (ps_for PassesOwn.never rfl (k_zip rfl rfl T.n_zip (pal rfl (pvl 1) (pal rfl (pvl 2) pa_nil)) rfl rfl) (k_pgT rfl rfl (pgs_cons (pgl 4 sc_gains.nd) (pgs_cons (pgl 5 sc_gains.nd) pgs_nil)))
     (pss_cons (ps_augS (pvl 3) (pe_ix (k_ixT rfl) (pvl 4) pe_int (fun _ _ => rfl)) (k_getL rfl) (pvl 5) ip_sub set_list)
     (pss_one (ps_augS (pvl 3) (pe_ix (k_ixT rfl) (pvl 4) pe_int (fun _ _ => rfl)) (k_getL rfl) (pvl 5) ip_add set_list))))
     (pss_one (ps_ret (pvl 3))))), ?_⟩
    walk_at "dl"
    refine ⟨small_line (by decide), fun p0 hp0 => ?_⟩
    have u0 := Same.upd_new hp0 (HO.lst [V.int 0])
    have g0 : upd H p0 (HO.lst [V.int 0]) p0 = some (.lst [V.int 0]) := upd_same
    generalize upd H p0 (HO.lst [V.int 0]) = H0 at *
    refine ⟨p0, (m : Int), [V.int 0], rfl, rfl, g0, by omega, by omega, by rw [Int.toNat_natCast]; exact small_line (by simp; omega), fun p hp => ?_⟩
    rw [Int.toNat_natCast, rep_zero]
    have hpH : H p = none := by
      cases e : H p with
      | none => rfl
      | some o => rw [u0 _ _ e] at hp; cases hp
    have s1 := u0.new hp (HO.lst ((List.replicate m (0 : Int)).map V.int))
    have g1 : upd H0 p (HO.lst ((List.replicate m (0 : Int)).map V.int)) p = some (.lst ((List.replicate m (0 : Int)).map V.int)) := upd_same
    generalize upd H0 p (HO.lst ((List.replicate m (0 : Int)).map V.int)) = H1 at *
    refine for_in ?_
    walk_at "dl"
    refine ⟨⟨_, .of (s1 _ _ hla)⟩, ⟨_, .of (s1 _ _ hlf)⟩, ?_⟩
    have hxl := hA.1
    refine ForW.zip (xs := xs) (ys := fl.map V.int) (fun i σ H' => (∃ v4 v5, σ = [some (V.int (m : Int)), some (V.ref la), some (V.ref lf), some (V.ref p), v4, v5]) ∧ Same H H' ∧ H' p = some (.lst ((gainsF m as fl i).map V.int))) ⟨⟨none, none, rfl⟩, s1, g1⟩ (fun _ _ H' q => ⟨.of (q.2.1 _ _ hla), .of (q.2.1 _ _ hlf)⟩) ?_ ?_
    · rintro i x y σ H2 q hx hy ⟨⟨v4, v5, rfl⟩, s2, g2⟩ hq
      obtain ⟨A, hAi, pa, rfl, hpa⟩ := All2.at hA hx
      rw [List.getElem?_map] at hy
      obtain ⟨n, hn, rfl⟩ := Option.map_eq_some_iff.mp hy
      have u3 := Same.upd_new hq (HO.tup [V.ref pa, V.int n])
      refine ⟨q, _, rfl, .of upd_same, rfl, ?_⟩
      have g3 := u3 _ _ g2
      have s3 := s2.trans u3
      have hpa3 := s3 _ _ hpa
      generalize upd H2 q (HO.tup [V.ref pa, V.int n]) = H3 at *
      unfold Arc.vs at hpa3
      simp only [gCons, gNil, gName]
      walk_at "dl"
      obtain ⟨i1, i2, i3, i4⟩ := hin A (List.mem_of_getElem? hAi)
      have eG : gainsF m as fl (i + 1) = stepG (gainsF m as fl i) A n := by
        show stepG (gainsF m as fl i) (as.getD i default) (fl.getD i 0) = _
        rw [getD_of hAi, getD_of hn]
      have lG := gainsF_len m as fl i
      rw [eG]
      generalize gainsF m as fl i = G at *
      obtain ⟨aa, ab, al, au⟩ := A
      simp only at i1 i2 i3 i4 hpa3
      obtain ⟨na, rfl⟩ : ∃ na : Nat, aa = (na : Int) := ⟨aa.toNat, by omega⟩
      obtain ⟨nb, rfl⟩ : ∃ nb : Nat, ab = (nb : Int) := ⟨ab.toNat, by omega⟩
      have ha : na < G.length := by omega
      have ea : G.getD na 0 = G[na] := getD_of (List.getElem?_eq_getElem ha)
      have hb : nb < (G.set na (G[na] - n)).length := by rw [List.length_set]; omega
      have eb : (G.set na (G[na] - n)).getD nb 0 = (G.set na (G[na] - n))[nb] := getD_of (List.getElem?_eq_getElem hb)
      have npa : pa ≠ p := fun e => by rw [e, g3] at hpa3; cases hpa3
      refine ⟨pa, _, _, _, rfl, rfl, .of hpa3, atI_nat (j := 0) rfl, p, _, na, _, rfl, rfl, .of g3, by rw [List.getElem?_map, List.getElem?_eq_getElem ha]; rfl, _, rfl, p, _, _, na, rfl, rfl, g3, ixN_nat (by rw [List.length_map]; exact ha), ?_⟩
      rw [map_set_int]
      refine ⟨pa, _, _, _, rfl, rfl, .of (by rw [upd_ne npa]; exact hpa3), atI_nat (j := 1) rfl, p, _, nb, _, rfl, rfl, .of upd_same, by rw [List.getElem?_map, List.getElem?_eq_getElem hb]; rfl, _, rfl, p, _, _, nb, rfl, rfl, upd_same, ixN_nat (by rw [List.length_map]; exact hb), ⟨_, rfl⟩, ?_, ?_⟩
      · rw [upd_upd]
        exact s3.set hpH _
      · rw [upd_same, map_set_int]
        unfold stepG
        simp only [Int.toNat_natCast, ea, eb]
    · rintro σ H2 ⟨⟨v4, v5, rfl⟩, s2, g2⟩
      rw [List.length_map, hxl, hlen, Nat.min_self] at g2
      walk_at "dl"
      exact k _ p s2 g2
structure ArcOk (m : Nat) (A : Arc) : Prop where
  inn : InN m A
  ne : A.a ≠ A.b
  lo : 0 ≤ A.l
  hi : A.l ≤ A.u
noncomputable def sp_asked_arc (K : PySem.W.Frag) : Sp := fun vs H Q _ => ∃ (m : Nat) (v : V) (A : Arc), vs = [.int m, v] ∧ ArcAt H v A ∧ ArcOk m A ∧ Q (.bl true) H
theorem ok_asked_arc (T : Txt K mg f fd) : FnOk P w K mg base CX0 1 (f 6) (fd 6) ["many", "arc"] (sp_asked_arc K) := by
  refine T.d_asked_arc.F.ok sc_asked_arc (fun vs H Q E h => ?_) (fun cdv A outer s H vs Q E hr h => ?_)
  · obtain ⟨m, v, A, rfl, _⟩ := h
    rfl
  · obtain ⟨m, v, A, rfl, ⟨p, rfl, hp⟩, ok, k⟩ := h
    obtain ⟨i1, i2, i3, i4⟩ := ok.inn
    have n1 := ok.ne
    have n2 := ok.lo
    have n3 := ok.hi
    unfold Arc.vs at hp
    refine ⟨_, (pss_cons (ps_if (PW.pt (pw_or (pt_not (pt_chain op_le op_lt pe_int (pe_ix (k_ixT rfl) (pvl 1) pe_int (fun _ _ => rfl)) (pvl 0))) (pw_or1 (pt_not (pt_chain op_le op_lt pe_int (pe_ix (k_ixT rfl) (pvl 1) pe_int (fun _ _ => rfl)) (pvl 0))))))
     (pss_one ps_never)
     pss_nil)
     (pss_cons (ps_if (pt_cmpR op_eq (pe_ix (k_ixT rfl) (pvl 1) pe_int (fun _ _ => rfl)) (pe_ix (k_ixT rfl) (pvl 1) pe_int (fun _ _ => rfl)) (nomark _))
     (pss_one ps_never)
     pss_nil)
     (pss_cons (ps_if (pt_not (pt_chain op_le op_le pe_int (pe_ix (k_ixT rfl) (pvl 1) pe_int (fun _ _ => rfl)) (pe_ix (k_ixT rfl) (pvl 1) pe_int (fun _ _ => rfl))))
     (pss_one ps_never)
     pss_nil)
     (pss_one (ps_ret pe_bl))))), ?_⟩
    walk_at "dl"
    refine ⟨p, _, _, _, rfl, rfl, .of hp, atI_nat (j := 0) rfl, _, rfl, ?_⟩
    rw [if_pos (by omega)]
    refine ⟨_, rfl, ?_⟩
    rw [if_neg (by simp; omega)]
    refine ⟨p, _, _, _, rfl, rfl, .of hp, atI_nat (j := 1) rfl, _, rfl, ?_⟩
    rw [if_pos (by omega)]
    refine ⟨_, rfl, ?_⟩
    rw [if_neg (by simp; omega)]
    refine ⟨p, _, _, _, rfl, rfl, .of hp, atI_nat (j := 0) rfl, p, _, _, _, rfl, rfl, .of hp, atI_nat (j := 1) rfl, rfl, ?_⟩
    rw [if_neg (by simpa using n1)]
    refine ⟨p, _, _, _, rfl, rfl, .of hp, atI_nat (j := 2) rfl, _, rfl, ?_⟩
    rw [if_pos (by omega)]
    refine ⟨p, _, _, _, rfl, rfl, .of hp, atI_nat (j := 3) rfl, _, rfl, _, rfl, ?_⟩
    rw [if_neg (by simp; omega)]
    exact k
noncomputable def sp_asked_net (K : PySem.W.Frag) : Sp := fun vs H Q _ => ∃ (m : Nat) (la : Addr) (xs : List V) (as : List Arc), vs = [.int m, .ref la] ∧ H la = some (.lst xs) ∧ ArcsV H xs as ∧ 1 ≤ m ∧ m ≤ 120 ∧ as.length ≤ 300 ∧ (∀ A ∈ as, ArcOk m A) ∧ ∀ H', Same H H' → Q (.bl true) H'
theorem ok_asked_net (T : Txt K mg f fd) : FnOk P w K mg base CX0 2 (f 7) (fd 7) ["many", "arcs"] (sp_asked_net K) := by
  refine T.d_asked_net.F.ok sc_asked_net (fun vs H Q E h => ?_) (fun cdv A outer s H vs Q E hr h => ?_)
  · obtain ⟨m, la, xs, as, rfl, _⟩ := h
    rfl
  · obtain ⟨m, la, xs, as, rfl, hla, hA, h1, h2, h3, hok, k⟩ := h
    refine ⟨_, (pss_cons (ps_if (pt_not (pt_chain op_le op_le pe_int (pvc 0) (pgi T.g_MOST_NODES)))
     (pss_one ps_never)
     pss_nil)
     (pss_cons (ps_if (pt_cmpR op_gt (pe_cB (k_len rfl) T.n_len bt_len rfl (by decide) (by decide) rfl (pal rfl (pvl 1) pa_nil)) (pgi T.g_MOST_ARCS) (nomark _))
     (pss_one ps_never)
     pss_nil)
     (pss_one (ps_ret (pe_cB (k_all rfl rfl) T.n_all bt_all rfl (by decide) (by decide) rfl (pal rfl (pe_comp ["arc"] ["many", "arcs"] rfl (show CompSc _ (defScope s_asked_net) ["many", "arcs"] ["many", "arcs"] from compOk_is (by decide +kernel)) (k_piL rfl (pvl 1)) (fun _ _ _ _ _ => (pgl 0 (show (["arc", "many", "arcs"] : List Str).Nodup by decide +kernel))) (fun _ _ _ _ _ => pts_nil) (fun _ _ _ _ _ => (pe_defL T.d_asked_arc (ok_asked_arc T) (hr.mono (by decide)) rfl (by decide) rfl (pal rfl (pvc 1) (pal rfl (pvl 0) pa_nil))))) pa_nil)))))), ?_⟩
    walk_at "dl"
    have hl := hA.1
    rw [if_pos (by omega), if_neg (by simp; omega)]
    refine ⟨_, .inl (.of hla), ?_⟩
    rw [if_neg (by omega)]
    refine ⟨⟨_, .of hla⟩, ?_⟩
    refine comp_walk walk_list (small_line (by omega)) (fun i ys H' => Same H H' ∧ ys = (List.replicate i true).map V.bl) ⟨Same.refl _, rfl⟩ (fun _ _ H' _ q => .of (q.1 _ _ hla)) (fun i ys H' q => by rw [q.2, List.length_map, List.length_replicate]; exact Nat.le_refl _) ?_ ?_
    · rintro i x ys H3 hx ⟨s3, rfl⟩
      obtain ⟨A, hAi, hpa⟩ := All2.at hA hx
      walk_at "dl"
      refine ⟨m, rfl, A, hpa.mono s3, hok A (List.mem_of_getElem? hAi), ⟨_, rfl⟩, s3, by rw [List.map_replicate, ← List.replicate_succ', List.replicate_succ]⟩
    · rintro ys H3 ⟨s3, rfl⟩ D hD
      refine ⟨_, .of upd_same, ?_⟩
      have e : (List.replicate xs.length true).all id = true := by rw [List.all_eq_true]; intro x hx; rw [List.eq_of_mem_replicate hx]; rfl
      rw [e]
      exact k _ (s3.new hD _)
structure NetAt (H : Hp) (la lf : Addr) (xs : List V) (m : Nat) (as : List Arc) (fl : List Int) : Prop where
  la : H la = some (.lst xs)
  arcs : ArcsV H xs as
  lf : H lf = some (.lst (fl.map V.int))
  m1 : 1 ≤ m
  m2 : m ≤ 120
  len : as.length ≤ 300
  ok : ∀ A ∈ as, ArcOk m A
  fl2 : fl.length ≤ 301
theorem NetAt.mono {H H' : Hp} {la lf : Addr} {xs : List V} {m : Nat} {as : List Arc} {fl : List Int} (s : Same H H') (h : NetAt H la lf xs m as fl) : NetAt H' la lf xs m as fl := ⟨s _ _ h.la, h.arcs.mono s, s _ _ h.lf, h.m1, h.m2, h.len, h.ok, h.fl2⟩
theorem cut_to {xs : List V} {k : Nat} (h : k ≤ xs.length) : cutV xs none (some (k : Int)) = xs.take k := by
  unfold cutV HT.sIx
  dsimp only
  rw [if_neg (by omega), Int.toNat_natCast, Nat.min_eq_left h]
  simp
theorem cut_fr {xs : List V} {k : Nat} (h : k ≤ xs.length) : cutV xs (some (k : Int)) none = xs.drop k := by
  unfold cutV HT.sIx
  dsimp only
  rw [if_neg (by omega), Int.toNat_natCast, Nat.min_eq_left h, List.take_of_length_le (by rw [List.length_drop]; exact Nat.le_refl _)]
theorem all2_take {α β : Type} {R : α → β → Prop} {xs : List α} {ys : List β} (h : All2 R xs ys) (k : Nat) : All2 R (xs.take k) (ys.take k) := by
  refine ⟨by rw [List.length_take, List.length_take, h.1], fun i x y hx hy => ?_⟩
  have hi : i < k := by
    have := (List.getElem?_eq_some_iff.mp hx).1
    rw [List.length_take] at this; omega
  rw [List.getElem?_take_of_lt hi] at hx hy
  exact h.2 i x y hx hy
theorem all2_drop {α β : Type} {R : α → β → Prop} {xs : List α} {ys : List β} (h : All2 R xs ys) (k : Nat) : All2 R (xs.drop k) (ys.drop k) := by
  refine ⟨by rw [List.length_drop, List.length_drop, h.1], fun i x y hx hy => ?_⟩
  rw [List.getElem?_drop] at hx hy
  exact h.2 _ x y hx hy
theorem all2_reverse {α β : Type} {S : α → β → Prop} {xs : List α} {ys : List β} (h : All2 S xs ys) : All2 S xs.reverse ys.reverse := by
  refine ⟨by rw [List.length_reverse, List.length_reverse]; exact h.1, fun i x y hx hy => ?_⟩
  have hi := (List.getElem?_eq_some_iff.mp hx).1
  rw [List.length_reverse] at hi
  have hl := h.1
  rw [List.getElem?_reverse hi] at hx
  rw [List.getElem?_reverse (by omega), ← hl] at hy
  exact h.2 _ x y hx hy
noncomputable def exS (as : List Arc) (fl : List Int) : List Int → Int
  | [] => 0
  | v :: vs => exF as fl v + exS as fl vs
noncomputable def ind (vs : List Int) (v : Int) : Int := if v ∈ vs then 1 else 0
theorem ind_cons {v : Int} {vs : List Int} (h1 : v ∉ vs) (z y : Int) : ind (v :: vs) z * y = (if z = v then y else 0) + ind vs z * y := by
  unfold ind
  by_cases e : z = v
  · subst e
    rw [if_pos List.mem_cons_self, if_pos rfl, if_neg h1]
    omega
  · by_cases m : z ∈ vs
    · rw [if_pos (List.mem_cons_of_mem _ m), if_neg e, if_pos m]; omega
    · rw [if_neg (fun q => by rcases List.mem_cons.mp q with q | q; exact e q; exact m q), if_neg e, if_neg m]; omega
theorem exS_cons {A : Arc} {as : List Arc} {y : Int} {fl : List Int} : ∀ {vs : List Int}, vs.Nodup → exS (A :: as) (y :: fl) vs = ind vs A.b * y - ind vs A.a * y + exS as fl vs
  | [], _ => by simp [exS, ind]
  | v :: vs, h => by
    obtain ⟨h1, h2⟩ := List.nodup_cons.mp h
    show (if A.b = v then y else 0) - (if A.a = v then y else 0) + exF as fl v + exS (A :: as) (y :: fl) vs = _
    rw [exS_cons h2, ind_cons h1, ind_cons h1]
    show _ = _ + (exF as fl v + exS as fl vs)
    omega
theorem exF_snoc {v : Int} : ∀ (as : List Arc) (fl : List Int) (A : Arc) (y : Int), fl.length = as.length → exF (as ++ [A]) (fl ++ [y]) v = exF as fl v + ((if A.b = v then y else 0) - (if A.a = v then y else 0))
  | [], [], A, y, _ => by simp [exF]
  | [], _ :: _, _, _, h => by simp at h
  | _ :: _, [], _, _, h => by simp at h
  | B :: as, x :: fl, A, y, h => by
    show _ - _ + exF (as ++ [A]) (fl ++ [y]) v = _ - _ + exF as fl v + _
    rw [exF_snoc as fl A y (by simpa using h)]
    omega
structure Flow (as : List Arc) (fl : List Int) : Prop where
  bnd : Bnd as fl
  ex : ∀ v, exF as fl v = 0
theorem Flow.len {as : List Arc} {fl : List Int} (h : Flow as fl) : fl.length = as.length := h.bnd.1.symm
theorem map_range_set {m a : Nat} {G : Nat → Int} {x : Int} : ((List.range m).map G).set a x = (List.range m).map fun n => if n = a then x else G n := by
  refine List.ext_getElem? fun i => ?_
  by_cases hi : i < m
  · by_cases e : i = a
    · subst e
      rw [List.getElem?_set_self (by simpa using hi), List.getElem?_map, List.getElem?_range hi]
      simp
    · rw [List.getElem?_set_ne (Ne.symm e), List.getElem?_map, List.getElem?_map, List.getElem?_range hi]
      simp [e]
  · rw [List.getElem?_eq_none (by simp; omega), List.getElem?_eq_none (by simp; omega)]
theorem map_range_getD {m a : Nat} {G : Nat → Int} (h : a < m) : ((List.range m).map G).getD a 0 = G a := getD_of (by rw [List.getElem?_map, List.getElem?_range h]; rfl)
theorem gains_ex {m : Nat} {as : List Arc} {fl : List Int} (hin : ∀ A ∈ as, InN m A) (hl : fl.length = as.length) : ∀ i, i ≤ as.length → gainsF m as fl i = (List.range m).map fun n : Nat => exF (as.take i) (fl.take i) (n : Int)
  | 0, _ => by
    show List.replicate m 0 = (List.range m).map fun n : Nat => (0 : Int)
    rw [List.map_const', List.length_range]
  | i + 1, h => by
    obtain ⟨A, hA⟩ : ∃ A, as[i]? = some A := ⟨_, List.getElem?_eq_getElem (by omega)⟩
    obtain ⟨y, hy⟩ : ∃ y, fl[i]? = some y := ⟨_, List.getElem?_eq_getElem (by omega)⟩
    obtain ⟨a0, a1, b0, b1⟩ := hin A (List.mem_of_getElem? hA)
    obtain ⟨a, ea⟩ := Int.eq_ofNat_of_zero_le a0
    obtain ⟨b, eb⟩ := Int.eq_ofNat_of_zero_le b0
    show stepG (gainsF m as fl i) (as.getD i default) (fl.getD i 0) = _
    rw [gains_ex hin hl i (by omega), getD_of hA, getD_of hy]
    unfold stepG
    rw [ea, eb, Int.toNat_natCast, Int.toNat_natCast, map_range_getD (by omega), map_range_set, map_range_getD (by omega), map_range_set]
    refine List.map_congr_left fun n hn => ?_
    rw [List.take_succ, List.take_succ, hA, hy, show (some A).toList = [A] from rfl, show (some y).toList = [y] from rfl, exF_snoc _ _ _ _ (by rw [List.length_take, List.length_take]; omega), ea, eb]
    by_cases e1 : n = b <;> by_cases e2 : n = a
    · subst e1 e2
      simp
    · subst e1
      rw [if_pos rfl, if_neg e2, if_pos rfl, if_neg (by omega)]; omega
    · subst e2
      rw [if_neg e1, if_pos rfl, if_neg (by omega), if_pos rfl]; omega
    · rw [if_neg e1, if_neg e2, if_neg (by omega), if_neg (by omega)]; omega
theorem exS_snoc {A : Arc} {y : Int} {vs : List Int} (hn : vs.Nodup) : ∀ {as : List Arc} {fl : List Int}, fl.length = as.length → exS (as ++ [A]) (fl ++ [y]) vs = exS as fl vs + (ind vs A.b * y - ind vs A.a * y)
  | [], [], _ => by
    show exS [A] [y] vs = _
    rw [exS_cons hn]
    omega
  | [], _ :: _, h => by simp at h
  | _ :: _, [], h => by simp at h
  | B :: as, x :: fl, h => by
    rw [List.cons_append, List.cons_append, exS_cons hn, exS_cons hn, exS_snoc hn (by simpa using h)]
    omega
noncomputable def eA (vs : List Int) (A : Arc) (y : Int) : Int := ind vs A.b * y - ind vs A.a * y
noncomputable def eN (as : List Arc) (fl : List Int) (vs : List Int) (k : Nat) : Nat → Int
  | 0 => 0
  | n + 1 => eN as fl vs k n + (if n = k then 0 else eA vs (as.getD n default) (fl.getD n 0))
noncomputable def cA (vs : List Int) (A : Arc) : Int := if A.a ∈ vs then (if A.b ∈ vs then 0 else -A.u) else (if A.b ∈ vs then A.l else 0)
noncomputable def cN (as : List Arc) (vs : List Int) (k : Nat) : Nat → Int
  | 0 => 0
  | n + 1 => cN as vs k n + (if n = k then 0 else cA vs (as.getD n default))
theorem eN_exS {as : List Arc} {fl vs : List Int} {k : Nat} (hn : vs.Nodup) (hl : fl.length = as.length) : ∀ n, n ≤ as.length → exS (as.take n) (fl.take n) vs = eN as fl vs k n + (if k < n then eA vs (as.getD k default) (fl.getD k 0) else 0)
  | 0, _ => by
    have : ∀ vs : List Int, exS [] [] vs = 0 := fun vs => by
      induction vs with
      | nil => rfl
      | cons v vs ih => show exF [] [] v + exS [] [] vs = 0; rw [ih]; rfl
    rw [if_neg (by omega)]
    show exS [] [] vs = 0 + 0
    rw [this]
    rfl
  | n + 1, h => by
    obtain ⟨A, hA⟩ : ∃ A, as[n]? = some A := ⟨_, List.getElem?_eq_getElem (by omega)⟩
    obtain ⟨y, hy⟩ : ∃ y, fl[n]? = some y := ⟨_, List.getElem?_eq_getElem (by omega)⟩
    rw [List.take_succ, List.take_succ, hA, hy, show (some A).toList = [A] from rfl, show (some y).toList = [y] from rfl, exS_snoc hn (by rw [List.length_take, List.length_take]; omega), eN_exS (k := k) hn hl n (by omega)]
    show _ = eN as fl vs k n + (if n = k then 0 else eA vs (as.getD n default) (fl.getD n 0)) + _
    rw [getD_of hA, getD_of hy]
    by_cases e : n = k
    · subst e
      rw [if_neg (by omega), if_pos rfl, if_pos (by omega), getD_of hA, getD_of hy]
      unfold eA
      omega
    · rw [if_neg e]
      by_cases c : k < n
      · rw [if_pos c, if_pos (by omega)]; unfold eA; omega
      · rw [if_neg c, if_neg (by omega)]; unfold eA; omega
theorem eA_ge {vs : List Int} {A : Arc} {y : Int} (h1 : A.l ≤ y) (h2 : y ≤ A.u) : cA vs A ≤ eA vs A y := by
  unfold cA eA ind
  by_cases a : A.a ∈ vs <;> by_cases b : A.b ∈ vs
  · rw [if_pos a, if_pos b, if_pos b, if_pos a]; omega
  · rw [if_pos a, if_neg b, if_neg b, if_pos a]; omega
  · rw [if_neg a, if_pos b, if_pos b, if_neg a]; omega
  · rw [if_neg a, if_neg b, if_neg b, if_neg a]; omega
theorem eA_eq {vs : List Int} {A : Arc} {y : Int} (h1 : A.a ∈ vs → A.b ∉ vs → y = A.u) (h2 : A.a ∉ vs → A.b ∈ vs → y = A.l) : eA vs A y = cA vs A := by
  unfold cA eA ind
  by_cases a : A.a ∈ vs <;> by_cases b : A.b ∈ vs
  · simp only [a, b, if_true]; omega
  · rw [h1 a b]; simp only [a, b, if_true, if_false]; omega
  · rw [h2 a b]; simp only [a, b, if_true, if_false]; omega
  · simp only [a, b, if_false]; omega
theorem eN_ge {as : List Arc} {fl vs : List Int} {k : Nat} (h : Bnd as fl) : ∀ n, n ≤ as.length → cN as vs k n ≤ eN as fl vs k n
  | 0, _ => Int.le_refl _
  | n + 1, hn => by
    have ih := eN_ge (vs := vs) (k := k) h n (by omega)
    obtain ⟨A, hA⟩ : ∃ A, as[n]? = some A := ⟨_, List.getElem?_eq_getElem (by omega)⟩
    obtain ⟨y, hy, h1, h2⟩ := All2.at h hA
    show cN as vs k n + (if n = k then 0 else cA vs (as.getD n default)) ≤ eN as fl vs k n + (if n = k then 0 else eA vs (as.getD n default) (fl.getD n 0))
    rw [getD_of hA, getD_of hy]
    have := eA_ge (vs := vs) h1 h2
    split <;> omega
theorem eN_eq {as : List Arc} {fl vs : List Int} {k : Nat} (hl : fl.length = as.length) (h : ∀ (n : Nat) A y, n ≠ k → as[n]? = some A → fl[n]? = some y → (A.a ∈ vs → A.b ∉ vs → y = A.u) ∧ (A.a ∉ vs → A.b ∈ vs → y = A.l)) : ∀ n, n ≤ as.length → eN as fl vs k n = cN as vs k n
  | 0, _ => rfl
  | n + 1, hn => by
    have ih := eN_eq (vs := vs) (k := k) hl h n (by omega)
    obtain ⟨A, hA⟩ : ∃ A, as[n]? = some A := ⟨_, List.getElem?_eq_getElem (by omega)⟩
    obtain ⟨y, hy⟩ : ∃ y, fl[n]? = some y := ⟨_, List.getElem?_eq_getElem (by omega)⟩
    show eN as fl vs k n + (if n = k then 0 else eA vs (as.getD n default) (fl.getD n 0)) = cN as vs k n + (if n = k then 0 else cA vs (as.getD n default))
    rw [getD_of hA, getD_of hy, ih]
    by_cases e : n = k
    · rw [if_pos e, if_pos e]
    · rw [if_neg e, if_neg e, eA_eq (h n A y e hA hy).1 (h n A y e hA hy).2]
theorem exS_zero {as : List Arc} {fl : List Int} (h : ∀ v, exF as fl v = 0) : ∀ vs : List Int, exS as fl vs = 0
  | [] => rfl
  | v :: vs => by show exF as fl v + exS as fl vs = 0; rw [h v, exS_zero h vs]; rfl
noncomputable abbrev natsI (zs : List Nat) : List Int := zs.map fun z : Nat => (z : Int)
theorem natV_ints (zs : List Nat) : zs.map natV = (natsI zs).map V.int := by rw [List.map_map]; rfl
theorem mem_natsI {zs : List Nat} {n : Nat} : (n : Int) ∈ natsI zs ↔ n ∈ zs := by
  rw [List.mem_map]
  exact ⟨fun ⟨u, hu, e⟩ => by have e' : u = n := by omega
                              exact e' ▸ hu, fun h => ⟨n, h, rfl⟩⟩
noncomputable def sumN (F : Nat → Int) : Nat → Int
  | 0 => 0
  | n + 1 => sumN F n + F n
theorem sumN_le {F G : Nat → Int} : ∀ n, (∀ v, v < n → F v ≤ G v) → sumN F n ≤ sumN G n
  | 0, _ => Int.le_refl _
  | n + 1, h => by
    have h1 := sumN_le n fun v hv => h v (by omega)
    have h2 := h n (by omega)
    show sumN F n + F n ≤ sumN G n + G n
    omega
theorem sumN_eq {F G : Nat → Int} : ∀ n, (∀ v, v < n → F v ≤ G v) → sumN F n = sumN G n → ∀ v, v < n → F v = G v
  | 0, _, _, _, h => absurd h (Nat.not_lt_zero _)
  | n + 1, h, e, v, hv => by
    have h1 := sumN_le n fun v hv => h v (by omega)
    have h2 := h n (by omega)
    have e' : sumN F n + F n = sumN G n + G n := e
    by_cases c : v = n
    · subst c; omega
    · exact sumN_eq n (fun v hv => h v (by omega)) (by omega) v (by omega)
theorem sumN_congr {F G : Nat → Int} : ∀ n, (∀ v, v < n → F v = G v) → sumN F n = sumN G n
  | 0, _ => rfl
  | n + 1, h => by
    show sumN F n + F n = sumN G n + G n
    rw [sumN_congr n fun v hv => h v (by omega), h n (by omega)]
theorem sumN_sub {F G : Nat → Int} : ∀ n, sumN (fun v => F v - G v) n = sumN F n - sumN G n
  | 0 => rfl
  | n + 1 => by
    show sumN (fun v => F v - G v) n + (F n - G n) = sumN F n + F n - (sumN G n + G n)
    rw [sumN_sub n]; omega
theorem sumN_add {F G : Nat → Int} : ∀ n, sumN (fun v => F v + G v) n = sumN F n + sumN G n
  | 0 => rfl
  | n + 1 => by
    show sumN (fun v => F v + G v) n + (F n + G n) = sumN F n + F n + (sumN G n + G n)
    rw [sumN_add n]; omega
theorem sumN_nil : ∀ {F : Nat → Int} n, (∀ v, v < n → F v = 0) → sumN F n = 0
  | _, 0, _ => rfl
  | F, n + 1, h => by
    show sumN F n + F n = 0
    rw [sumN_nil n fun v hv => h v (by omega), h n (by omega)]; rfl
theorem sumN_one {F : Nat → Int} {a : Nat} : ∀ m, a < m → (∀ v, v < m → v ≠ a → F v = 0) → sumN F m = F a
  | 0, h, _ => absurd h (Nat.not_lt_zero _)
  | m + 1, h, z => by
    show sumN F m + F m = F a
    by_cases c : a = m
    · subst c
      rw [sumN_nil a fun v hv => z v (by omega) (by omega)]; omega
    · rw [sumN_one m (by omega) fun v hv hn => z v (by omega) hn, z m (by omega) (Ne.symm c)]; omega
noncomputable def sumL (F : Nat → Int) : List Nat → Int
  | [] => 0
  | v :: vs => F v + sumL F vs
theorem sumL_congr {F G : Nat → Int} : ∀ {ns : List Nat}, (∀ v ∈ ns, F v = G v) → sumL F ns = sumL G ns
  | [], _ => rfl
  | v :: vs, h => by
    show F v + sumL F vs = G v + sumL G vs
    rw [h v List.mem_cons_self, sumL_congr fun v hv => h v (List.mem_cons_of_mem _ hv)]
theorem sum_ns {m : Nat} : ∀ {ns : List Nat} {F : Nat → Int}, ns.Nodup → (∀ v ∈ ns, v < m) → (∀ v, v < m → v ∉ ns → F v = 0) → sumL F ns = sumN F m
  | [], F, _, _, z => (sumN_nil m fun v hv => z v hv (by simp)).symm
  | a :: ns, F, hn, hl, z => by
    obtain ⟨h1, h2⟩ := List.nodup_cons.mp hn
    have ih := sum_ns (m := m) (ns := ns) (F := fun v => if v = a then 0 else F v) h2 (fun v hv => hl v (List.mem_cons_of_mem _ hv)) fun v hv hn => by
      by_cases c : v = a
      · rw [if_pos c]
      · rw [if_neg c]; exact z v hv (fun q => by rcases List.mem_cons.mp q with q | q; exact c q; exact hn q)
    have e1 : sumL (fun v => if v = a then 0 else F v) ns = sumL F ns := sumL_congr fun v hv => by
      rw [if_neg (fun q : v = a => h1 (q ▸ hv))]
    have e2 : sumN F m = sumN (fun v => if v = a then F v else 0) m + sumN (fun v => if v = a then 0 else F v) m := by
      rw [← sumN_add]
      refine sumN_congr m fun v _ => ?_
      split <;> omega
    have e3 : sumN (fun v => if v = a then F v else 0) m = F a := by
      rw [sumN_one m (hl a List.mem_cons_self) fun v _ hn => if_neg hn]
      exact if_pos rfl
    show F a + sumL F ns = sumN F m
    omega
theorem exS_sumL {as : List Arc} {fl : List Int} {F : Nat → Int} : ∀ {ns : List Nat}, (∀ v ∈ ns, exF as fl (v : Nat) = F v) → exS as fl (natsI ns) = sumL F ns
  | [], _ => rfl
  | v :: vs, h => by
    show exF as fl (v : Nat) + exS as fl (natsI vs) = F v + sumL F vs
    rw [h v List.mem_cons_self, exS_sumL fun v hv => h v (List.mem_cons_of_mem _ hv)]
theorem exF_append {v : Int} {bs : List Arc} {g : List Int} : ∀ {as : List Arc} {f : List Int}, as.length = f.length → exF (as ++ bs) (f ++ g) v = exF as f v + exF bs g v
  | [], [], _ => by show exF bs g v = 0 + exF bs g v; omega
  | [], _ :: _, h => by simp at h
  | _ :: _, [], h => by simp at h
  | A :: as, y :: f, h => by
    show _ - _ + exF (as ++ bs) (f ++ g) v = _ - _ + exF as f v + _
    rw [exF_append (by simpa using h)]; omega
theorem exF_rep {v : Int} : ∀ (as : List Arc) (n : Nat), exF as (List.replicate n 0) v = 0
  | [], n => by cases n <;> rfl
  | A :: as, 0 => rfl
  | A :: as, n + 1 => by
    show (if A.b = v then (0 : Int) else 0) - (if A.a = v then (0 : Int) else 0) + exF as (List.replicate n 0) v = 0
    rw [exF_rep as n]
    split <;> split <;> omega
theorem exF_out {m : Nat} {v : Int} (hv : (m : Int) ≤ v) : ∀ {as : List Arc} {f : List Int}, (∀ A ∈ as, InN m A) → exF as f v = 0
  | [], f, _ => by cases f <;> rfl
  | A :: as, [], _ => rfl
  | A :: as, y :: f, h => by
    obtain ⟨a0, a1, b0, b1⟩ := h A List.mem_cons_self
    show _ - _ + exF as f v = 0
    rw [exF_out hv fun B hB => h B (List.mem_cons_of_mem _ hB), if_neg (by omega), if_neg (by omega)]; rfl
theorem exF_all {m : Nat} : ∀ {as : List Arc} {f : List Int}, (∀ A ∈ as, InN m A) → sumN (fun v => exF as f (v : Nat)) m = 0
  | [], f, _ => sumN_nil m fun v _ => by cases f <;> rfl
  | A :: as, [], _ => sumN_nil m fun v _ => rfl
  | A :: as, y :: f, h => by
    obtain ⟨a0, a1, b0, b1⟩ := h A List.mem_cons_self
    obtain ⟨a, ea⟩ := Int.eq_ofNat_of_zero_le a0
    obtain ⟨b, eb⟩ := Int.eq_ofNat_of_zero_le b0
    show sumN (fun v : Nat => (if A.b = (v : Int) then y else 0) - (if A.a = (v : Int) then y else 0) + exF as f (v : Nat)) m = 0
    rw [sumN_add (F := fun v : Nat => (if A.b = (v : Int) then y else 0) - (if A.a = (v : Int) then y else 0)), exF_all fun B hB => h B (List.mem_cons_of_mem _ hB), sumN_sub (F := fun v : Nat => if A.b = (v : Int) then y else 0), sumN_one (a := b) m (by omega) fun v _ hn => if_neg (by omega), sumN_one (a := a) m (by omega) fun v _ hn => if_neg (by omega), if_pos (by omega), if_pos (by omega)]
    omega
noncomputable def posP (x : Int) : Int := if 0 < x then x else 0
noncomputable def negP (x : Int) : Int := if x < 0 then -x else 0
theorem posP_yes {x : Int} (h : 0 < x) : posP x = x := if_pos h
theorem posP_no {x : Int} (h : ¬ 0 < x) : posP x = 0 := if_neg h
theorem negP_yes {x : Int} (h : x < 0) : negP x = -x := if_pos h
theorem negP_no {x : Int} (h : ¬ x < 0) : negP x = 0 := if_neg h
theorem pos_neg (x : Int) : posP x - negP x = x := by
  unfold posP negP
  split <;> split <;> omega
noncomputable def drN (m : Nat) (G : Nat → Int) : Nat → List Arc
  | 0 => []
  | n + 1 => drN m G n ++ (if 0 < G n then [⟨(m : Int), (n : Int), 0, G n⟩] else [])
noncomputable def gvN (m : Nat) (G : Nat → Int) : Nat → List Arc
  | 0 => []
  | n + 1 => gvN m G n ++ (if G n < 0 then [⟨(n : Int), (m : Int) + 1, 0, -G n⟩] else [])
theorem dr_len (m : Nat) (G : Nat → Int) : ∀ n, (drN m G n).length ≤ n
  | 0 => Nat.le_refl _
  | n + 1 => by
    have := dr_len m G n
    show (drN m G n ++ _).length ≤ n + 1
    rw [List.length_append]
    split
    · rw [List.length_singleton]; omega
    · rw [List.length_nil]; omega
theorem gv_len (m : Nat) (G : Nat → Int) : ∀ n, (gvN m G n).length ≤ n
  | 0 => Nat.le_refl _
  | n + 1 => by
    have := gv_len m G n
    show (gvN m G n ++ _).length ≤ n + 1
    rw [List.length_append]
    split
    · rw [List.length_singleton]; omega
    · rw [List.length_nil]; omega
theorem dr_in {m : Nat} {G : Nat → Int} : ∀ {n : Nat}, n ≤ m → ∀ A ∈ drN m G n, InN (m + 2) A ∧ A.l = 0 ∧ 0 ≤ A.u
  | 0, _, A, h => by cases h
  | n + 1, hn, A, h => by
    rcases List.mem_append.mp (show A ∈ drN m G n ++ (if 0 < G n then [⟨(m : Int), (n : Int), 0, G n⟩] else []) from h) with q | q
    · exact dr_in (by omega) A q
    · split at q
      · rw [List.mem_singleton.mp q]
        exact ⟨⟨by show (0 : Int) ≤ m; omega, by show (m : Int) < ((m + 2 : Nat) : Int); omega, by show (0 : Int) ≤ n; omega, by show (n : Int) < ((m + 2 : Nat) : Int); omega⟩, rfl, by show 0 ≤ G n; omega⟩
      · cases q
theorem gv_in {m : Nat} {G : Nat → Int} : ∀ {n : Nat}, n ≤ m → ∀ A ∈ gvN m G n, InN (m + 2) A ∧ A.l = 0 ∧ 0 ≤ A.u
  | 0, _, A, h => by cases h
  | n + 1, hn, A, h => by
    rcases List.mem_append.mp (show A ∈ gvN m G n ++ (if G n < 0 then [⟨(n : Int), (m : Int) + 1, 0, -G n⟩] else []) from h) with q | q
    · exact gv_in (by omega) A q
    · split at q
      · rw [List.mem_singleton.mp q]
        exact ⟨⟨by show (0 : Int) ≤ n; omega, by show (n : Int) < ((m + 2 : Nat) : Int); omega, by show (0 : Int) ≤ (m : Int) + 1; omega, by show (m : Int) + 1 < ((m + 2 : Nat) : Int); omega⟩, rfl, by show 0 ≤ -G n; omega⟩
      · cases q
theorem all2_split {α β : Type} {R : α → β → Prop} {xs zs : List α} {ys : List β} (h : All2 R (xs ++ zs) ys) : All2 R xs (ys.take xs.length) ∧ All2 R zs (ys.drop xs.length) := by
  have h1 := all2_take h xs.length
  have h2 := all2_drop h xs.length
  rw [List.take_left] at h1
  rw [List.drop_left] at h2
  exact ⟨h1, h2⟩
theorem bnd_snoc {as : List Arc} {A : Arc} {f : List Int} (h : Bnd (as ++ [A]) f) : ∃ f' y, f = f' ++ [y] ∧ Bnd as f' ∧ A.l ≤ y ∧ y ≤ A.u := by
  obtain ⟨h1, h2⟩ := all2_split h
  obtain ⟨y, hy, q⟩ := All2.at h2 (i := 0) (x := A) rfl
  refine ⟨_, y, ?_, h1, q⟩
  have e : f.drop as.length = [y] := by
    have hl := h2.1
    rw [List.length_singleton] at hl
    match hd : f.drop as.length, hl, hy with
    | [z], _, hy => simpa using hy
  rw [← e, List.take_append_drop]
theorem dr_ex {m : Nat} {G : Nat → Int} : ∀ {n : Nat} {f : List Int}, n ≤ m → Bnd (drN m G n) f → ∃ D : Nat → Int, (∀ v, 0 ≤ D v ∧ D v ≤ posP (G v)) ∧ (∀ v, n ≤ v → D v = 0) ∧ (∀ v : Nat, v < m → exF (drN m G n) f v = D v) ∧ exF (drN m G n) f m = -sumN D n ∧ exF (drN m G n) f ((m : Int) + 1) = 0 ∧ ∀ v, v < n → 0 < G v → ∃ k : Nat, (drN m G n)[k]? = some ⟨(m : Int), (v : Int), 0, G v⟩ ∧ f[k]? = some (D v)
  | 0, f, _, _ => ⟨fun _ => 0, fun v => ⟨Int.le_refl _, by show (0 : Int) ≤ posP (G v); unfold posP; split <;> omega⟩, fun _ _ => rfl, fun v _ => by cases f <;> rfl, by cases f <;> rfl, by cases f <;> rfl, fun v hv => absurd hv (Nat.not_lt_zero _)⟩
  | n + 1, f, hn, hb => by
    by_cases c : 0 < G n
    · have e : drN m G (n + 1) = drN m G n ++ [⟨(m : Int), (n : Int), 0, G n⟩] := by show drN m G n ++ _ = _; rw [if_pos c]
      rw [e] at hb ⊢
      obtain ⟨f', y, rfl, hb', y0, y1⟩ := bnd_snoc hb
      obtain ⟨D, d1, d2, d3, d4, d5, d6⟩ := dr_ex (by omega) hb'
      have sn : ∀ v : Int, exF (drN m G n ++ [⟨(m : Int), (n : Int), 0, G n⟩]) (f' ++ [y]) v = exF (drN m G n) f' v + ((if (n : Int) = v then y else 0) - (if (m : Int) = v then y else 0)) := fun v => exF_snoc _ _ _ _ hb'.1.symm
      have dn := d2 n (Nat.le_refl _)
      have y0' : 0 ≤ y := y0
      have y1' : y ≤ G n := y1
      refine ⟨fun v => if v = n then y else D v, fun v => ?_, fun v hv => ?_, fun v hv => ?_, ?_, ?_, fun v hv hg => ?_⟩
      · dsimp only
        by_cases q : v = n
        · rw [if_pos q, q, posP_yes c]; exact ⟨y0', y1'⟩
        · rw [if_neg q]; exact d1 v
      · dsimp only
        rw [if_neg (by omega)]; exact d2 v (by omega)
      · dsimp only
        rw [sn, d3 v hv]
        by_cases q : v = n
        · subst q
          rw [if_pos rfl, if_neg (by omega), if_pos rfl]; omega
        · rw [if_neg (by omega), if_neg (by omega), if_neg q]; omega
      · rw [sn, d4, if_neg (by omega), if_pos rfl]
        show _ = -(sumN (fun v => if v = n then y else D v) n + (if n = n then y else D n))
        rw [if_pos rfl, sumN_congr n fun v hv => if_neg (by omega)]; omega
      · rw [sn, d5, if_neg (by omega), if_neg (by omega)]; rfl
      · dsimp only
        by_cases q : v = n
        · subst q
          refine ⟨(drN m G v).length, ?_, ?_⟩
          · rw [List.getElem?_append_right (Nat.le_refl _), Nat.sub_self]; rfl
          · rw [if_pos rfl, show (drN m G v).length = f'.length from hb'.1, List.getElem?_append_right (Nat.le_refl _), Nat.sub_self]; rfl
        · obtain ⟨k, k1, k2⟩ := d6 v (by omega) hg
          refine ⟨k, ?_, ?_⟩
          · rw [List.getElem?_append_left (List.getElem?_eq_some_iff.mp k1).1]; exact k1
          · rw [if_neg q, List.getElem?_append_left (List.getElem?_eq_some_iff.mp k2).1]; exact k2
    · have e : drN m G (n + 1) = drN m G n := by show drN m G n ++ _ = _; rw [if_neg c, List.append_nil]
      rw [e] at hb ⊢
      obtain ⟨D, d1, d2, d3, d4, d5, d6⟩ := dr_ex (by omega) hb
      refine ⟨D, d1, fun v hv => d2 v (by omega), d3, ?_, d5, fun v hv hg => ?_⟩
      · rw [d4]
        show _ = -(sumN D n + D n)
        rw [d2 n (Nat.le_refl _)]; omega
      · by_cases q : v = n
        · exact absurd (q ▸ hg) c
        · exact d6 v (by omega) hg
theorem gv_ex {m : Nat} {G : Nat → Int} : ∀ {n : Nat} {f : List Int}, n ≤ m → Bnd (gvN m G n) f → ∃ D : Nat → Int, (∀ v, 0 ≤ D v ∧ D v ≤ negP (G v)) ∧ (∀ v, n ≤ v → D v = 0) ∧ (∀ v : Nat, v < m → exF (gvN m G n) f v = -D v) ∧ exF (gvN m G n) f m = 0 ∧ exF (gvN m G n) f ((m : Int) + 1) = sumN D n ∧ ∀ v, v < n → G v < 0 → ∃ k : Nat, (gvN m G n)[k]? = some ⟨(v : Int), (m : Int) + 1, 0, -G v⟩ ∧ f[k]? = some (D v)
  | 0, f, _, _ => ⟨fun _ => 0, fun v => ⟨Int.le_refl _, by show (0 : Int) ≤ negP (G v); unfold negP; split <;> omega⟩, fun _ _ => rfl, fun v _ => by cases f <;> rfl, by cases f <;> rfl, by cases f <;> rfl, fun v hv => absurd hv (Nat.not_lt_zero _)⟩
  | n + 1, f, hn, hb => by
    by_cases c : G n < 0
    · have e : gvN m G (n + 1) = gvN m G n ++ [⟨(n : Int), (m : Int) + 1, 0, -G n⟩] := by show gvN m G n ++ _ = _; rw [if_pos c]
      rw [e] at hb ⊢
      obtain ⟨f', y, rfl, hb', y0, y1⟩ := bnd_snoc hb
      obtain ⟨D, d1, d2, d3, d4, d5, d6⟩ := gv_ex (by omega) hb'
      have sn : ∀ v : Int, exF (gvN m G n ++ [⟨(n : Int), (m : Int) + 1, 0, -G n⟩]) (f' ++ [y]) v = exF (gvN m G n) f' v + ((if (m : Int) + 1 = v then y else 0) - (if (n : Int) = v then y else 0)) := fun v => exF_snoc _ _ _ _ hb'.1.symm
      have dn := d2 n (Nat.le_refl _)
      have y0' : 0 ≤ y := y0
      have y1' : y ≤ -G n := y1
      refine ⟨fun v => if v = n then y else D v, fun v => ?_, fun v hv => ?_, fun v hv => ?_, ?_, ?_, fun v hv hg => ?_⟩
      · dsimp only
        by_cases q : v = n
        · rw [if_pos q, q, negP_yes c]; exact ⟨y0', y1'⟩
        · rw [if_neg q]; exact d1 v
      · dsimp only
        rw [if_neg (by omega)]; exact d2 v (by omega)
      · dsimp only
        rw [sn, d3 v hv]
        by_cases q : v = n
        · subst q
          rw [if_neg (by omega), if_pos rfl, if_pos rfl]; omega
        · rw [if_neg (by omega), if_neg (by omega), if_neg q]; omega
      · rw [sn, d4, if_neg (by omega), if_neg (by omega)]; rfl
      · rw [sn, d5, if_pos rfl, if_neg (by omega)]
        show _ = sumN (fun v => if v = n then y else D v) n + (if n = n then y else D n)
        rw [if_pos rfl, sumN_congr n fun v hv => if_neg (by omega)]; omega
      · dsimp only
        by_cases q : v = n
        · subst q
          refine ⟨(gvN m G v).length, ?_, ?_⟩
          · rw [List.getElem?_append_right (Nat.le_refl _), Nat.sub_self]; rfl
          · rw [if_pos rfl, show (gvN m G v).length = f'.length from hb'.1, List.getElem?_append_right (Nat.le_refl _), Nat.sub_self]; rfl
        · obtain ⟨k, k1, k2⟩ := d6 v (by omega) hg
          refine ⟨k, ?_, ?_⟩
          · rw [List.getElem?_append_left (List.getElem?_eq_some_iff.mp k1).1]; exact k1
          · rw [if_neg q, List.getElem?_append_left (List.getElem?_eq_some_iff.mp k2).1]; exact k2
    · have e : gvN m G (n + 1) = gvN m G n := by show gvN m G n ++ _ = _; rw [if_neg c, List.append_nil]
      rw [e] at hb ⊢
      obtain ⟨D, d1, d2, d3, d4, d5, d6⟩ := gv_ex (by omega) hb
      refine ⟨D, d1, fun v hv => d2 v (by omega), d3, d4, ?_, fun v hv hg => ?_⟩
      · rw [d5]
        show _ = sumN D n + D n
        rw [d2 n (Nat.le_refl _)]; omega
      · by_cases q : v = n
        · exact absurd (q ▸ hg) c
        · exact d6 v (by omega) hg
structure CutOk (m : Nat) (as : List Arc) (ns : List Nat) : Prop where
  so : ns.Pairwise (· < ·)
  lt : ∀ x ∈ ns, x < m
  pos : 0 < cN as (natsI ns) as.length as.length
theorem nats_nodup {ns : List Nat} (h : ns.Pairwise (· < ·)) : (natsI ns).Nodup := List.pairwise_map.mpr (h.imp fun h => by omega)
theorem no_cut {m : Nat} {as : List Arc} {fl : List Int} {ns : List Nat} (F : Flow as fl) (h : CutOk m as ns) : False := by
  have h1 := eN_exS (k := as.length) (nats_nodup h.so) F.len as.length (Nat.le_refl _)
  rw [List.take_of_length_le (Nat.le_refl _), List.take_of_length_le (Nat.le_of_eq F.len), exS_zero F.ex, if_neg (by omega)] at h1
  have h2 := eN_ge (vs := natsI ns) (k := as.length) F.bnd as.length (Nat.le_refl _)
  have := h.pos
  omega
noncomputable def wide (m : Nat) (G : Nat → Int) (as : List Arc) : List Arc := as ++ drN m G m ++ gvN m G m
noncomputable def low (as : List Arc) : List Int := as.map (·.l)
structure Psh (m : Nat) (as : List Arc) (G : Nat → Int) (fl' : List Int) (d : Int) where
  f1 : List Int
  D : Nat → Int
  E : Nat → Int
  e : f1 = fl'.take as.length
  bnd : Bnd as f1
  hD : ∀ v, 0 ≤ D v ∧ D v ≤ posP (G v)
  hE : ∀ v, 0 ≤ E v ∧ E v ≤ negP (G v)
  ex : ∀ v : Nat, v < m → exF as f1 v + D v - E v = G v
  sD : sumN D m = d
  sE : sumN E m = d
  atD : ∀ v, v < m → 0 < G v → ∃ k : Nat, (wide m G as)[k]? = some ⟨(m : Int), (v : Int), 0, G v⟩ ∧ fl'[k]? = some (D v)
  atE : ∀ v, v < m → G v < 0 → ∃ k : Nat, (wide m G as)[k]? = some ⟨(v : Int), (m : Int) + 1, 0, -G v⟩ ∧ fl'[k]? = some (E v)
theorem psh_of {m : Nat} {as : List Arc} {G : Nat → Int} {fl' : List Int} {d : Int} {n0 : Nat} (hin : ∀ A ∈ as, InN m A) (hG : ∀ v : Nat, v < m → exF as (low as) v = G v) (hP : Pushed (wide m G as) (low as ++ List.replicate n0 0) fl' m (m + 1) d) : Nonempty (Psh m as G fl' d) := by
  have hb : Bnd (as ++ drN m G m ++ gvN m G m) fl' := hP.bnd
  obtain ⟨b12, b3⟩ := all2_split hb
  obtain ⟨b1, b2⟩ := all2_split b12
  have l0 : as.length = (low as).length := (List.length_map ..).symm
  rw [List.take_take, Nat.min_eq_left (by rw [List.length_append]; omega)] at b1
  obtain ⟨D, d1, d2, d3, d4, d5, d6⟩ := dr_ex (Nat.le_refl _) b2
  obtain ⟨E, e1, e2, e3, e4, e5, e6⟩ := gv_ex (Nat.le_refl _) b3
  have spl : fl' = fl'.take as.length ++ (fl'.take (as ++ drN m G m).length).drop as.length ++ fl'.drop (as ++ drN m G m).length := by
    have h1 := List.take_append_drop as.length (fl'.take (as ++ drN m G m).length)
    rw [List.take_take, Nat.min_eq_left (by rw [List.length_append]; omega)] at h1
    rw [h1, List.take_append_drop]
  have ex0 : ∀ v, exF (wide m G as) (low as ++ List.replicate n0 0) v = exF as (low as) v := fun v => by
    unfold wide
    rw [List.append_assoc, exF_append l0, exF_rep]; omega
  have ex1 : ∀ v, exF (wide m G as) fl' v = exF as (fl'.take as.length) v + exF (drN m G m) ((fl'.take (as ++ drN m G m).length).drop as.length) v + exF (gvN m G m) (fl'.drop (as ++ drN m G m).length) v := fun v => by
    unfold wide
    rw [← exF_append b1.1, ← exF_append (by have h1 := b1.1; have h2 := b2.1; rw [List.length_append] at h2 ⊢; rw [List.length_append]; omega), ← spl]
  have ex2 : ∀ v : Int, exF as (fl'.take as.length) v + exF (drN m G m) ((fl'.take (as ++ drN m G m).length).drop as.length) v + exF (gvN m G m) (fl'.drop (as ++ drN m G m).length) v = exF as (low as) v + (if ((m + 1 : Nat) : Int) = v then d else 0) - (if (m : Int) = v then d else 0) := fun v => by
    rw [← ex1, ← ex0]; exact hP.ex v
  refine ⟨⟨_, D, E, rfl, b1, d1, e1, fun v hv => ?_, ?_, ?_, fun v hv hg => ?_, fun v hv hg => ?_⟩⟩
  · have := ex2 v
    rw [d3 v hv, e3 v hv, hG v hv, if_neg (by omega), if_neg (by omega)] at this
    omega
  · have := ex2 m
    rw [d4, e4, exF_out (Int.le_refl _) hin, exF_out (Int.le_refl _) hin, if_neg (by omega), if_pos rfl] at this
    omega
  · have := ex2 ((m : Int) + 1)
    rw [d5, e5, exF_out (by omega) hin, exF_out (by omega) hin, if_pos (by omega), if_neg (by omega)] at this
    omega
  · obtain ⟨k, k1, k2⟩ := d6 v hv hg
    have kl := (List.getElem?_eq_some_iff.mp k1).1
    refine ⟨as.length + k, ?_, ?_⟩
    · unfold wide
      rw [List.getElem?_append_left (by rw [List.length_append]; omega), List.getElem?_append_right (by omega), Nat.add_sub_cancel_left]; exact k1
    · rw [List.getElem?_drop, List.getElem?_take_of_lt (by rw [List.length_append]; omega)] at k2
      exact k2
  · obtain ⟨k, k1, k2⟩ := e6 v hv hg
    refine ⟨(as ++ drN m G m).length + k, ?_, ?_⟩
    · unfold wide
      rw [List.getElem?_append_right (by omega), Nat.add_sub_cancel_left]; exact k1
    · rw [List.getElem?_drop] at k2
      exact k2
theorem flow_of_psh {m : Nat} {as : List Arc} {G : Nat → Int} {fl' : List Int} {d : Int} (hin : ∀ A ∈ as, InN m A) (hG : ∀ v : Nat, v < m → exF as (low as) v = G v) (h : Psh m as G fl' d) (hd : d = sumN (fun v => posP (G v)) m) : Flow as (fl'.take as.length) := by
  rw [← h.e]
  have s0 : sumN G m = 0 := by rw [← sumN_congr m hG]; exact exF_all hin
  have s1 : sumN G m = sumN (fun v => posP (G v)) m - sumN (fun v => negP (G v)) m := by rw [← sumN_sub]; exact sumN_congr m fun v _ => (pos_neg (G v)).symm
  have q1 := sumN_eq m (fun v _ => (h.hD v).2) (h.sD.trans hd)
  have q2 := sumN_eq m (fun v _ => (h.hE v).2) (h.sE.trans (by omega))
  refine ⟨h.bnd, fun v => ?_⟩
  by_cases c : (m : Int) ≤ v
  · exact exF_out c hin
  · by_cases n : v < 0
    · have : ∀ {as : List Arc} {f : List Int}, (∀ A ∈ as, InN m A) → exF as f v = 0 := by
        intro as
        induction as with
        | nil => intro f _; cases f <;> rfl
        | cons A as ih =>
          intro f h
          cases f with
          | nil => rfl
          | cons y f =>
            obtain ⟨a0, a1, b0, b1⟩ := h A List.mem_cons_self
            show _ - _ + exF as f v = 0
            rw [ih fun B hB => h B (List.mem_cons_of_mem _ hB), if_neg (by omega), if_neg (by omega)]; rfl
      exact this hin
    · obtain ⟨z, rfl⟩ := Int.eq_ofNat_of_zero_le (by omega : 0 ≤ v)
      have hz : z < m := by omega
      have a1 := h.ex z hz
      have a2 := q1 z hz
      have a3 := q2 z hz
      have a4 := pos_neg (G z)
      omega
theorem cut_of_psh {m : Nat} {as : List Arc} {G : Nat → Int} {fl' : List Int} {d : Int} {ns : List Nat} (hin : ∀ A ∈ as, InN m A) (h : Psh m as G fl' d) (hd : d < sumN (fun v => posP (G v)) m)
    (hr : ¬ Reach (LinkS (wide m G as) fl') m (m + 1)) (hso : ns.Pairwise (· < ·)) (hns : ∀ x, x ∈ ns ↔ Reach (LinkS (wide m G as) fl') m x ∧ x < m) : CutOk m as ns := by
  have hD : ∀ v, v < m → v ∉ ns → h.D v = posP (G v) := fun v hv hn => by
    skip
    have b := h.hD v
    by_cases g : 0 < G v
    · obtain ⟨k, k1, k2⟩ := h.atD v hv g
      rw [posP_yes g] at b ⊢
      by_cases c : h.D v < G v
      · exact absurd ((hns v).mpr ⟨.step .here ⟨k, 1, ⟨_, k1, .inl ⟨rfl, rfl, rfl⟩⟩, by unfold roomF; rw [if_pos rfl, getD_of k1, getD_of k2]; show 0 < G v - h.D v; omega⟩, hv⟩) hn
      · omega
    · rw [posP_no g] at b ⊢
      omega
  have hE : ∀ v, v ∈ ns → h.E v = negP (G v) := fun v hv => by
    obtain ⟨r, hvm⟩ := (hns v).mp hv
    have b := h.hE v
    by_cases g : G v < 0
    · obtain ⟨k, k1, k2⟩ := h.atE v hvm g
      rw [negP_yes g] at b ⊢
      by_cases c : h.E v < -G v
      · exact absurd (r.step ⟨k, 1, ⟨_, k1, .inl ⟨rfl, rfl, rfl⟩⟩, by unfold roomF; rw [if_pos rfl, getD_of k1, getD_of k2]; show 0 < -G v - h.E v; omega⟩) hr
      · omega
    · rw [negP_no g] at b ⊢
      omega
  have lt : ∀ x ∈ ns, x < m := fun x hx => ((hns x).mp hx).2
  have hl : h.f1.length = as.length := h.bnd.1.symm
  have cu : eN as h.f1 (natsI ns) as.length as.length = cN as (natsI ns) as.length as.length := by
    refine eN_eq hl (fun i B z _ hB hz => ?_) _ (Nat.le_refl _)
    obtain ⟨zl, zu⟩ := h.bnd.2 i B z hB hz
    obtain ⟨p0, p1, q0, q1⟩ := hin B (List.mem_of_getElem? hB)
    obtain ⟨p, ep⟩ := Int.eq_ofNat_of_zero_le p0
    obtain ⟨q, eq⟩ := Int.eq_ofNat_of_zero_le q0
    have hi := (List.getElem?_eq_some_iff.mp hB).1
    have hB' : (wide m G as)[i]? = some B := by
      unfold wide
      rw [List.append_assoc, List.getElem?_append_left hi]; exact hB
    have hz' : fl'[i]? = some z := by
      have := hz
      rw [h.e, List.getElem?_take_of_lt hi] at this
      exact this
    rw [ep, eq, mem_natsI, mem_natsI, hns, hns]
    constructor
    · intro r1 r2
      by_cases c : z < B.u
      · exact absurd ⟨r1.1.step ⟨i, 1, ⟨B, hB', .inl ⟨rfl, ep, eq⟩⟩, by unfold roomF; rw [if_pos rfl, getD_of hB', getD_of hz']; omega⟩, by omega⟩ r2
      · omega
    · intro r1 r2
      by_cases c : B.l < z
      · exact absurd ⟨r2.1.step ⟨i, -1, ⟨B, hB', .inr ⟨rfl, eq, ep⟩⟩, by unfold roomF; rw [if_neg (by decide), getD_of hB', getD_of hz']; omega⟩, by omega⟩ r1
      · omega
  have h1 := eN_exS (k := as.length) (nats_nodup hso) hl as.length (Nat.le_refl _)
  rw [List.take_of_length_le (Nat.le_refl _), List.take_of_length_le (Nat.le_of_eq hl), if_neg (by omega), cu] at h1
  have h2 : exS as h.f1 (natsI ns) = sumL (fun v => posP (G v) - h.D v) ns := exS_sumL fun v hv => by
    have a1 := h.ex v (lt v hv)
    have a2 := hE v hv
    have a3 := pos_neg (G v)
    omega
  have h3 := sum_ns (m := m) (ns := ns) (F := fun v => posP (G v) - h.D v) (hso.imp fun h => Nat.ne_of_lt h) lt fun v hv hn => by
    have : h.D v = posP (G v) := hD v hv hn
    omega
  rw [sumN_sub, h.sD] at h3
  refine ⟨hso, lt, ?_⟩
  omega
theorem ents_keys {H : Hp} : ∀ {kvs : List (Key × V)} {es : List Ent}, EntsV H kvs es → kvs.map (·.1) = ((keysE es).map fun n : Nat => (n : Int)).map Sum.inl
  | [], [], _ => rfl
  | [], _ :: _, h => by have := h.1; simp at this
  | _ :: _, [], h => by have := h.1; simp at this
  | kv :: kvs, e :: es, h => by
    obtain ⟨h1, h2⟩ := All2.tail h
    have ih := ents_keys h2
    unfold keysE at *
    rw [List.map_cons, List.map_cons, List.map_cons, List.map_cons, ih, h1.1]
theorem sorted_nats {ks : List Nat} {ms : List Int} (hp : ms.Perm (ks.map fun n : Nat => (n : Int))) (hs : ms.Pairwise (· ≤ ·)) (hd : ks.Nodup) : ∃ ns : List Nat, ms.map V.int = ns.map natV ∧ ns.Perm ks ∧ ns.Pairwise (· < ·) := by
  have hpos : ∀ m ∈ ms, ∃ n : Nat, m = (n : Int) := fun m hm => by
    obtain ⟨n, _, e⟩ := List.mem_map.mp (hp.mem_iff.mp hm)
    exact ⟨n, e.symm⟩
  have hpm : (ms.map Int.toNat).Perm ks := by
    have := hp.map Int.toNat
    rw [List.map_map] at this
    have e : (Int.toNat ∘ fun n : Nat => (n : Int)) = id := by funext n; simp
    rwa [e, List.map_id] at this
  have hle : (ms.map Int.toNat).Pairwise (· ≤ ·) := by
    rw [List.pairwise_map]
    refine List.Pairwise.imp_of_mem (fun {a b} ha hb hab => ?_) hs
    obtain ⟨n, rfl⟩ := hpos a ha
    obtain ⟨m, rfl⟩ := hpos b hb
    simp only [Int.toNat_natCast]
    omega
  refine ⟨ms.map Int.toNat, ?_, hpm, (hle.and (hpm.nodup_iff.mpr hd)).imp fun ⟨x, y⟩ => by omega⟩
  rw [List.map_map]
  refine List.map_congr_left fun m hm => ?_
  obtain ⟨n, rfl⟩ := hpos m hm
  rfl
structure NetA (H : Hp) (la : Addr) (xs : List V) (m : Nat) (as : List Arc) : Prop where
  la : H la = some (.lst xs)
  arcs : ArcsV H xs as
  m1 : 1 ≤ m
  m2 : m ≤ 120
  len : as.length ≤ 300
  ok : ∀ A ∈ as, ArcOk m A
theorem NetA.mono {H H' : Hp} {la : Addr} {xs : List V} {m : Nat} {as : List Arc} (s : Same H H') (h : NetA H la xs m as) : NetA H' la xs m as := ⟨s _ _ h.la, h.arcs.mono s, h.m1, h.m2, h.len, h.ok⟩
noncomputable def fcS (g : Bool) : Str := if g then "flow" else "cut"
structure FcR (m : Nat) (as : List Arc) (g : Bool) (zs : List Int) : Prop where
  flow : g = true → Flow as zs
  cut : g = false → ∃ ns, zs = natsI ns ∧ CutOk m as ns
noncomputable def fcSp (f : Nat → Addr) : Sp := fun vs H Q _ => ∃ (m : Nat) (la : Addr) (xs : List V) (as : List Arc), vs = [.int m, .ref la] ∧ NetA H la xs m as ∧
  ∀ H' t pl g zs, Same H H' → H' t = some (.tup [.str (fcS g), .ref pl]) → H pl = none → H' pl = some (.lst (zs.map V.int)) → FcR m as g zs → Q (.ref t) H'
theorem due_sum {m : Nat} {G : Nat → Int} : ∀ n, ((drN m G n).map Arc.u).foldl (· + ·) 0 = sumN (fun v => posP (G v)) n
  | 0 => rfl
  | n + 1 => by
    show ((drN m G n ++ (if 0 < G n then [(⟨(m : Int), (n : Int), 0, G n⟩ : Arc)] else [])).map Arc.u).foldl (· + ·) 0 = sumN (fun v => posP (G v)) n + posP (G n)
    rw [List.map_append, List.foldl_append, due_sum n]
    by_cases c : 0 < G n
    · rw [if_pos c, posP_yes c]; rfl
    · rw [if_neg c, posP_no c]
      show sumN _ n = _ + 0
      omega
noncomputable def sp_flow_or_cut (K : PySem.W.Frag) (f : Nat → Addr) : Sp := fcSp f
theorem ok_flow_or_cut (T : Txt K mg f fd) : FnOk P w K mg base CX0 5 (f 11) (fd 11) ["many", "arcs"] (sp_flow_or_cut K f) := by
  refine T.d_flow_or_cut.F.ok sc_flow_or_cut (fun vs H Q E h => ?_) (fun cdv A outer s H vs Q E hr h => ?_)
  · obtain ⟨m, la, xs, as, rfl, _⟩ := h
    rfl
  · obtain ⟨m, la, xs, as, rfl, N, k⟩ := h
    refine ⟨_, (pss_cons (ps_comp ["arc"] ["many", "arcs", "leasts", "over", "drawn", "given", "due", "stream"] rfl (show CompSc _ (defScope s_flow_or_cut) ["many", "arcs", "leasts", "over", "drawn", "given", "due", "stream"] ["many", "arcs", "leasts", "over", "drawn", "given", "due", "stream"] from compOk_is (by decide +kernel)) sc_flow_or_cut.nd (i := 2) rfl rfl (k_piL rfl (pvl 1)) (fun _ _ _ _ _ => (pgl 0 (show (["arc", "many", "arcs", "leasts", "over", "drawn", "given", "due", "stream"] : List Str).Nodup by decide +kernel))) (fun _ _ _ _ _ => pts_nil) (fun _ _ _ _ _ => (pe_ix (k_ixT rfl) (pvl 0) pe_int (fun _ _ => rfl))))
     (pss_cons (psl 3 sc_flow_or_cut.nd (pe_defL T.d_gains (ok_gains T) (hr.mono (by decide)) rfl (by decide) rfl (pal rfl (pvc 0) (pal rfl (pvl 1) (pal rfl (pvl 2) pa_nil)))))
     (pss_cons (ps_comp ["node", "number"] ["many", "arcs", "leasts", "over", "drawn", "given", "due", "stream"] rfl (show CompSc _ (defScope s_flow_or_cut) ["many", "arcs", "leasts", "over", "drawn", "given", "due", "stream"] ["many", "arcs", "leasts", "over", "drawn", "given", "due", "stream"] from compOk_is (by decide +kernel)) sc_flow_or_cut.nd (i := 4) rfl rfl (pi_enum rfl T.n_enumerate (pal rfl (pvl 3) pa_nil) rfl) (fun _ _ _ _ _ => (pgl2 K 0 1 (show (["node", "number", "many", "arcs", "leasts", "over", "drawn", "given", "due", "stream"] : List Str).Nodup by decide +kernel))) (fun _ _ _ _ _ => (pts_one (pt_cmpR op_gt (pvl 1) pe_int (nomark _)))) (fun _ _ _ _ _ => (pe_tup (pal rfl (pvc 2) (pal rfl (pvl 0) (pal rfl pe_int (pal rfl (pvl 1) pa_nil)))))))
     (pss_cons (ps_comp ["node", "number"] ["many", "arcs", "leasts", "over", "drawn", "given", "due", "stream"] rfl (show CompSc _ (defScope s_flow_or_cut) ["many", "arcs", "leasts", "over", "drawn", "given", "due", "stream"] ["many", "arcs", "leasts", "over", "drawn", "given", "due", "stream"] from compOk_is (by decide +kernel)) sc_flow_or_cut.nd (i := 5) rfl rfl (pi_enum rfl T.n_enumerate (pal rfl (pvl 3) pa_nil) rfl) (fun _ _ _ _ _ => (pgl2 K 0 1 (show (["node", "number", "many", "arcs", "leasts", "over", "drawn", "given", "due", "stream"] : List Str).Nodup by decide +kernel))) (fun _ _ _ _ _ => (pts_one (pt_cmpR op_lt (pvl 1) pe_int (nomark _)))) (fun _ _ _ _ _ => (pe_tup (pal rfl (pvl 0) (pal rfl (pe_op op_add (pvc 2) pe_int) (pal rfl pe_int (pal rfl (pe_un un_neg (pvl 1)) pa_nil)))))))
     (pss_cons (psl 6 sc_flow_or_cut.nd (pe_cB (k_sumI rfl rfl) T.n_sum bt_sum rfl (by decide) (by decide) rfl (pal rfl (pe_comp ["arc"] ["many", "arcs", "leasts", "over", "drawn", "given", "due", "stream"] rfl (show CompSc _ (defScope s_flow_or_cut) ["many", "arcs", "leasts", "over", "drawn", "given", "due", "stream"] ["many", "arcs", "leasts", "over", "drawn", "given", "due", "stream"] from compOk_is (by decide +kernel)) (k_piL rfl (pvl 4)) (fun _ _ _ _ _ => (pgl 0 (show (["arc", "many", "arcs", "leasts", "over", "drawn", "given", "due", "stream"] : List Str).Nodup by decide +kernel))) (fun _ _ _ _ _ => pts_nil) (fun _ _ _ _ _ => (pe_ix (k_ixT rfl) (pvl 0) pe_int (fun _ _ => rfl)))) pa_nil)))
     (pss_cons (psl 7 sc_flow_or_cut.nd (pe_make T.o_Stream.mkr (ok_Stream___init__ T) (hr.mono (by decide)) rfl T.o_Stream.m T.d_Stream___init__.b .nil pass0 (pal rfl (pe_op op_add (pvc 0) pe_int) (pal rfl (pe_op op_cat (pe_op op_cat (pvl 1) (pvl 4)) (pvl 5)) (pal rfl (pe_op op_cat (pvl 2) (pe_op op_rep (pe_lst (pal rfl pe_int pa_nil)) (pe_cB (k_len rfl) T.n_len bt_len rfl (by decide) (by decide) rfl (pal rfl (pe_op op_cat (pvl 4) (pvl 5)) pa_nil)))) pa_nil))) (by decide) rfl rfl))
     (pss_cons (ps_if (pt_cmpR op_eq (pe_meth (pvl 7) T.o_Stream.cls T.m_Stream_push (ok_Stream_push T) (hr.mono (by decide)) T.d_Stream_push.b .nil pass0 (pal rfl (pvc 0) (pal rfl (pe_op op_add (pvc 0) pe_int) (pal rfl (pvl 6) pa_nil))) rfl rfl rfl) (pvl 6) (nomark _))
     (pss_one (ps_ret (pe_tup (pal rfl pe_str (pal rfl (pe_slice (k_slL rfl) (pe_fld (pvl 7) rfl) po_none (po_some (pe_cB (k_len rfl) T.n_len bt_len rfl (by decide) (by decide) rfl (pal rfl (pvl 1) pa_nil)))) pa_nil)))))
     pss_nil)
     (pss_one (ps_ret (pe_tup (pal rfl pe_str (pal rfl (pe_comp ["node"] ["many", "arcs", "leasts", "over", "drawn", "given", "due", "stream"] rfl (show CompSc _ (defScope s_flow_or_cut) ["many", "arcs", "leasts", "over", "drawn", "given", "due", "stream"] ["many", "arcs", "leasts", "over", "drawn", "given", "due", "stream"] from compOk_is (by decide +kernel)) (k_piL rfl (pe_cB (call_sortedDB rfl) T.n_sorted bt_sorted rfl (by decide) (by decide) rfl (pal rfl (pe_meth (pvl 7) T.o_Stream.cls T.m_Stream_reach (ok_Stream_reach T) (hr.mono (by decide)) T.d_Stream_reach.b .nil pass0 (pal rfl (pvc 0) pa_nil) rfl rfl rfl) pa_nil))) (fun _ _ _ _ _ => (pgl 0 (show (["node", "many", "arcs", "leasts", "over", "drawn", "given", "due", "stream"] : List Str).Nodup by decide +kernel))) (fun _ _ _ _ _ => (pts_one (pt_cmpR op_lt (pvl 0) (pvc 1) (nomark _)))) (fun _ _ _ _ _ => (pvl 0))) pa_nil)))))))))))), ?_⟩
    generalize hB : tSeq (tAsg _ (gName 7)) _ = B
    generalize hB6 : tSeq _ B = B6
    generalize hB5 : tSeq _ B6 = B5
    generalize hB4 : tSeq _ B5 = B4
    generalize hB3 : tSeq _ B4 = B3
    walk_at "dl"
    have hxl := N.arcs.1
    have hlen := N.len
    have hm2 := N.m2
    have hin : ∀ A ∈ as, InN m A := fun A hA => (N.ok A hA).inn
    refine ⟨⟨_, .of N.la⟩, ?_⟩
    refine comp_walk walk_list (by rw [hxl]; exact small_line (by omega)) (fun i ys H' => Same H H' ∧ ys = (low (as.take i)).map V.int) ⟨Same.refl _, rfl⟩ (fun _ _ _ _ q => .of (q.1 _ _ N.la)) (fun i ys H' q => by rw [q.2]; unfold low; rw [List.length_map, List.length_map, List.length_take]; omega) ?_ ?_
    · rintro i x ys H1 hx ⟨s1, rfl⟩
      obtain ⟨A, hAi, pa, rfl, hpa⟩ := All2.at N.arcs hx
      walk_at "dl"
      unfold Arc.vs at hpa
      refine ⟨pa, _, _, _, rfl, rfl, .of (s1 _ _ hpa), atI_nat (j := 2) rfl, ⟨_, rfl⟩, s1, ?_⟩
      unfold low
      rw [List.take_succ, hAi, List.map_append, List.map_append]
      rfl
    rintro ys H1 ⟨s1, rfl⟩ p1 hp1
    rw [List.take_of_length_le (by omega)]
    have u1 := s1.new hp1 (HO.lst ((low as).map V.int))
    have g1 : upd H1 p1 (HO.lst ((low as).map V.int)) p1 = some (.lst ((low as).map V.int)) := upd_same
    generalize upd H1 p1 (HO.lst ((low as).map V.int)) = H2 at *
    have ll : (low as).length = as.length := List.length_map ..
    subst hB3
    walk_at "dl"
    refine ⟨m, la, p1, xs, as, low as, rfl, hm2, u1 _ _ N.la, N.arcs.mono u1, g1, ll, by omega, hin, fun H3 p3 s3 g3 => ?_⟩
    rw [gains_ex hin ll _ (Nat.le_refl _), List.take_of_length_le (Nat.le_refl _), List.take_of_length_le (Nat.le_of_eq ll)] at g3
    obtain ⟨G, hG⟩ : ∃ G : Nat → Int, (fun n : Nat => exF as (low as) (n : Int)) = G := ⟨_, rfl⟩
    rw [hG] at g3
    have hGv : ∀ v : Nat, v < m → exF as (low as) v = G v := fun v _ => congrFun hG v
    have s03 := u1.trans s3
    have g13 := s3 _ _ g1
    clear s1 hp1 u1 g1 s3 hG
    subst hB4
    walk_at "dl"
    refine ⟨⟨_, .of g3⟩, ?_⟩
    have lG : (((List.range m).map G).map V.int).length = m := by rw [List.length_map, List.length_map, List.length_range]
    have atG : ∀ (i : Nat) x, (((List.range m).map G).map V.int)[i]? = some x → i < m ∧ x = V.int (G i) := fun i x hx => by
      have hi := (List.getElem?_eq_some_iff.mp hx).1
      rw [lG] at hi
      rw [List.getElem?_map, List.getElem?_map, List.getElem?_range hi] at hx
      exact ⟨hi, (Option.some.inj hx).symm⟩
    refine comp_enum (by rw [lG]; exact small_line (by omega)) (fun i zs σ H' => (∃ o0 o1, σ = [o0, o1, some (V.int (m : Int)), some (V.ref la), some (V.ref p1), some (V.ref p3), none, none, none, none]) ∧ Same H3 H' ∧ ArcsV H' zs (drN m G i)) ⟨⟨none, none, rfl⟩, Same.refl _, All2.nil⟩ (fun i zs σ H' q => ⟨.of (q.2.1 _ _ g3), by rw [q.2.2.1]; exact dr_len m G i⟩) ?_ ?_
    · rintro i x zs σ H4 q hx ⟨⟨o0, o1, rfl⟩, s4, A4⟩ hq
      obtain ⟨hi, rfl⟩ := atG i x hx
      refine ⟨q, _, rfl, .of upd_same, rfl, ?_⟩
      simp only [gCons, gNil, gName]
      walk_at "dl"
      have s5 := s4.new hq (HO.tup [V.int (i : Int), V.int (G i)])
      have A5 := A4.mono (Same.upd_new hq (HO.tup [V.int (i : Int), V.int (G i)]))
      generalize upd H4 q (HO.tup [V.int (i : Int), V.int (G i)]) = H5 at *
      have e : drN m G (i + 1) = drN m G i ++ (if 0 < G i then [⟨(m : Int), (i : Int), 0, G i⟩] else []) := rfl
      by_cases c : 0 < G i
      · rw [if_pos c]
        rw [if_pos c] at e
        refine ⟨small_line (by decide), fun p hp => ⟨⟨_, rfl⟩, s5.new hp _, ?_⟩⟩
        rw [e]
        exact All2.snoc (A5.mono (Same.upd_new hp _)) ⟨p, rfl, upd_same⟩
      · rw [if_neg c]
        rw [if_neg c, List.append_nil] at e
        rw [e]
        exact ⟨⟨_, rfl⟩, s5, A5⟩
    rintro zs1 σ1 H4 ⟨_, s4, A4⟩ p4 hp4
    rw [lG] at A4
    have A5 := A4.mono (Same.upd_new hp4 (HO.lst zs1))
    have s5 := s4.new hp4 (HO.lst zs1)
    have g5 : upd H4 p4 (HO.lst zs1) p4 = some (.lst zs1) := upd_same
    generalize upd H4 p4 (HO.lst zs1) = H5 at *
    clear A4 s4 hp4
    subst hB5
    walk_at "dl"
    refine ⟨⟨_, .of (s5 _ _ g3)⟩, ?_⟩
    refine comp_enum (by rw [lG]; exact small_line (by omega)) (fun i zs σ H' => (∃ o0 o1, σ = [o0, o1, some (V.int (m : Int)), some (V.ref la), some (V.ref p1), some (V.ref p3), some (V.ref p4), none, none, none]) ∧ Same H5 H' ∧ ArcsV H' zs (gvN m G i)) ⟨⟨none, none, rfl⟩, Same.refl _, All2.nil⟩ (fun i zs σ H' q => ⟨.of (q.2.1 _ _ (s5 _ _ g3)), by rw [q.2.2.1]; exact gv_len m G i⟩) ?_ ?_
    · rintro i x zs σ H6 q hx ⟨⟨o0, o1, rfl⟩, s6, A6⟩ hq
      obtain ⟨hi, rfl⟩ := atG i x hx
      refine ⟨q, _, rfl, .of upd_same, rfl, ?_⟩
      simp only [gCons, gNil, gName]
      walk_at "dl"
      have s7 := s6.new hq (HO.tup [V.int (i : Int), V.int (G i)])
      have A7 := A6.mono (Same.upd_new hq (HO.tup [V.int (i : Int), V.int (G i)]))
      generalize upd H6 q (HO.tup [V.int (i : Int), V.int (G i)]) = H7 at *
      have e : gvN m G (i + 1) = gvN m G i ++ (if G i < 0 then [⟨(i : Int), (m : Int) + 1, 0, -G i⟩] else []) := rfl
      by_cases c : G i < 0
      · rw [if_pos c]
        rw [if_pos c] at e
        refine ⟨small_line (by decide), fun p hp => ⟨⟨_, rfl⟩, s7.new hp _, ?_⟩⟩
        rw [e]
        exact All2.snoc (A7.mono (Same.upd_new hp _)) ⟨p, rfl, upd_same⟩
      · rw [if_neg c]
        rw [if_neg c, List.append_nil] at e
        rw [e]
        exact ⟨⟨_, rfl⟩, s7, A7⟩
    rintro zs2 σ2 H6 ⟨_, s6, A6⟩ p6 hp6
    rw [lG] at A6
    have A7 := A6.mono (Same.upd_new hp6 (HO.lst zs2))
    have s57 := s6.new hp6 (HO.lst zs2)
    have g7 : upd H6 p6 (HO.lst zs2) p6 = some (.lst zs2) := upd_same
    generalize upd H6 p6 (HO.lst zs2) = H7 at *
    clear A6 s6 hp6
    have g57 := s57 _ _ g5
    have A57 := A5.mono s57
    have s37 := s5.trans s57
    subst hB6
    walk_at "dl"
    refine ⟨⟨_, .of g57⟩, ?_⟩
    have hzl := A5.1
    have hz2 := A7.1
    have hd1 := dr_len m G m
    have hd2 := gv_len m G m
    refine comp_walk walk_list (by rw [hzl]; exact small_line (by omega)) (fun i ys H' => Same H7 H' ∧ ys = (((drN m G m).take i).map Arc.u).map V.int) ⟨Same.refl _, rfl⟩ (fun _ _ _ _ q => .of (q.1 _ _ g57)) (fun i ys H' q => by rw [q.2, List.length_map, List.length_map, List.length_take]; omega) ?_ ?_
    · rintro i x ys H8 hx ⟨s8, rfl⟩
      obtain ⟨A, hAi, pa, rfl, hpa⟩ := All2.at A57 hx
      walk_at "dl"
      unfold Arc.vs at hpa
      refine ⟨pa, _, _, _, rfl, rfl, .of (s8 _ _ hpa), atI_nat (j := 3) rfl, ⟨_, rfl⟩, s8, ?_⟩
      rw [List.take_succ, hAi, List.map_append, List.map_append]
      rfl
    rintro ys H8 ⟨s8, rfl⟩ p8 hp8
    rw [List.take_of_length_le (by omega)]
    refine ⟨_, .of upd_same, ?_⟩
    rw [due_sum]
    have s79 := s8.new hp8 (HO.lst (((drN m G m).map Arc.u).map V.int))
    generalize upd H8 p8 (HO.lst (((drN m G m).map Arc.u).map V.int)) = H9 at *
    have s09 := (s03.trans s37).trans s79
    have g19 := s79 _ _ (s37 _ _ g13)
    have g49 := s79 _ _ g57
    have g69 := s79 _ _ g7
    have A49 := A57.mono s79
    have A69 := A7.mono s79
    have A09 := N.arcs.mono s09
    have g09 := s09 _ _ N.la
    clear s79 s37 s57 g57 g7 A57 A7 A5 g5 s5 hp8 s8 g3 g13 s03 atG lG
    have fin : ∀ (H' : Hp) (t pl : Addr) (g : Bool) (zs : List Int), Same H9 H' → H' t = some (.tup [.str (fcS g), .ref pl]) → H9 pl = none → H' pl = some (.lst (zs.map V.int)) → FcR m as g zs → Q (.ref t) H' := fun H' t pl g zs s ht hp hl R => k H' t pl g zs (s09.trans s) ht (s09.free hp) hl R
    clear k
    subst hB
    generalize hB : tSeq (tIfS _ _ _) _ = B
    walk_at "dl"
    have l0 := hxl
    refine ⟨la, p4, _, _, rfl, rfl, g09, g49, small_line (by omega), fun q1 hq1 => ?_⟩
    have u1 := Same.upd_new hq1 (HO.lst (xs ++ zs1))
    have k1 : upd H9 q1 (HO.lst (xs ++ zs1)) q1 = some (.lst (xs ++ zs1)) := upd_same
    generalize upd H9 q1 (HO.lst (xs ++ zs1)) = H10 at *
    refine ⟨q1, p6, _, _, rfl, rfl, k1, u1 _ _ g69, by rw [List.length_append]; exact small_line (by omega), fun q2 hq2 => ?_⟩
    have u2 := u1.new hq2 (HO.lst (xs ++ zs1 ++ zs2))
    have k2 : upd H10 q2 (HO.lst (xs ++ zs1 ++ zs2)) q2 = some (.lst (xs ++ zs1 ++ zs2)) := upd_same
    generalize upd H10 q2 (HO.lst (xs ++ zs1 ++ zs2)) = H11 at *
    refine ⟨small_line (by decide), fun q3 hq3 => ?_⟩
    have u3 := Same.upd_new hq3 (HO.lst [V.int 0])
    have k3 : upd H11 q3 (HO.lst [V.int 0]) q3 = some (.lst [V.int 0]) := upd_same
    have v3 := u2.trans u3
    generalize upd H11 q3 (HO.lst [V.int 0]) = H12 at *
    refine ⟨p4, p6, _, _, rfl, rfl, v3 _ _ g49, v3 _ _ g69, small_line (by omega), fun q4 hq4 => ?_⟩
    have u4 := Same.upd_new hq4 (HO.lst (zs1 ++ zs2))
    have k4 : upd H12 q4 (HO.lst (zs1 ++ zs2)) q4 = some (.lst (zs1 ++ zs2)) := upd_same
    have v4 := v3.trans u4
    generalize upd H12 q4 (HO.lst (zs1 ++ zs2)) = H13 at *
    have l12 : (zs1 ++ zs2).length = (drN m G m).length + (gvN m G m).length := by rw [List.length_append]; omega
    refine ⟨q4, rfl, _, .inl (.of k4), q3, ((zs1 ++ zs2).length : Nat), [V.int 0], rfl, rfl, u4 _ _ k3, by omega, by omega, by rw [Int.toNat_natCast]; exact small_line (by simp; omega), fun q5 hq5 => ?_⟩
    rw [Int.toNat_natCast, rep_zero]
    have u5 := Same.upd_new hq5 (HO.lst ((List.replicate (zs1 ++ zs2).length (0 : Int)).map V.int))
    have k5 : upd H13 q5 (HO.lst ((List.replicate (zs1 ++ zs2).length (0 : Int)).map V.int)) q5 = some (.lst ((List.replicate (zs1 ++ zs2).length (0 : Int)).map V.int)) := upd_same
    have v5 := v4.trans u5
    generalize upd H13 q5 (HO.lst ((List.replicate (zs1 ++ zs2).length (0 : Int)).map V.int)) = H14 at *
    refine ⟨p1, q5, _, _, rfl, rfl, v5 _ _ g19, k5, by rw [List.length_map, List.length_map, List.length_replicate, ll]; exact small_line (by omega), fun q6 hq6 => ?_⟩
    rw [← List.map_append]
    generalize hn0 : (zs1 ++ zs2).length = n0 at *
    have u6 := Same.upd_new hq6 (HO.lst ((low as ++ List.replicate n0 0).map V.int))
    have k6 : upd H14 q6 (HO.lst ((low as ++ List.replicate n0 0).map V.int)) q6 = some (.lst ((low as ++ List.replicate n0 0).map V.int)) := upd_same
    have v6 := v5.trans u6
    have k26 := u6 _ _ (u5 _ _ (u4 _ _ (u3 _ _ k2)))
    generalize upd H14 q6 (HO.lst ((low as ++ List.replicate n0 0).map V.int)) = H15 at *
    have AW : ArcsV H15 (xs ++ zs1 ++ zs2) (wide m G as) := All2.append (All2.append (A09.mono v6) (A49.mono v6)) (A69.mono v6)
    clear u1 u2 u3 u4 u5 u6 k1 k2 k3 k4 k5 v3 v4 v5 hq1 hq2 hq3 hq4 hq5 hq6 A49 A69 A09 g49 g69
    intro x dx hx hdx hne
    have u7 := (Same.upd_new hdx (HO.own x)).new (show upd H15 dx (HO.own x) x = none by rw [upd_ne (Ne.symm hne)]; exact hx) (HO.ins (f 10) dx [])
    have hwl : (wide m G as).length = as.length + n0 := by unfold wide; rw [List.length_append, List.length_append]; omega
    have hinW : ∀ A ∈ wide m G as, InN (m + 2) A := fun A hA => by
      rcases List.mem_append.mp hA with hA | hA
      · rcases List.mem_append.mp hA with hA | hA
        · obtain ⟨a0, a1, b0, b1⟩ := hin A hA
          exact ⟨a0, by omega, b0, by omega⟩
        · exact (dr_in (Nat.le_refl _) A hA).1
      · exact (gv_in (Nat.le_refl _) A hA).1
    have hbW : Bnd (wide m G as) (low as ++ List.replicate n0 0) := by
      refine ⟨by rw [hwl, List.length_append, List.length_replicate, ll], fun i A y hA hy => ?_⟩
      have hi := (List.getElem?_eq_some_iff.mp hA).1
      unfold wide at hA
      rw [List.append_assoc] at hA
      by_cases c : i < as.length
      · rw [List.getElem?_append_left c] at hA
        rw [List.getElem?_append_left (by omega)] at hy
        unfold low at hy
        rw [List.getElem?_map, hA] at hy
        cases hy
        exact ⟨Int.le_refl _, (N.ok A (List.mem_of_getElem? hA)).hi⟩
      · rw [List.getElem?_append_right (by omega)] at hA hy
        rw [List.getElem?_replicate, if_pos (by omega)] at hy
        cases hy
        rcases List.mem_append.mp (List.mem_of_getElem? hA) with hA | hA
        · have := (dr_in (Nat.le_refl _) A hA).2
          omega
        · have := (gv_in (Nat.le_refl _) A hA).2
          omega
    have due0 : 0 ≤ sumN (fun v => posP (G v)) m := by
      have := sumN_le (F := fun _ => 0) (G := fun v => posP (G v)) m fun v _ => by
        show (0 : Int) ≤ posP (G v)
        unfold posP
        split <;> omega
      rw [sumN_nil m fun _ _ => rfl] at this
      exact this
    refine ⟨x, dx, q2, q6, m + 2, xs ++ zs1 ++ zs2, wide m G as, low as ++ List.replicate n0 0, by simp, upd_same, by omega, u7 _ _ k26, AW.mono u7, by omega, hinW, u7 _ _ k6, by rw [hwl, List.length_append, List.length_replicate, ll], fun H16 lb B16 hlb S16 => ⟨rfl, ?_⟩⟩
    have s16 : Same H9 H16 := fun b o hbo => by
      have h5 := v6 _ _ hbo
      exact B16 b o (fun e => by subst e; rw [hx] at h5; cases h5) (u7 _ _ h5)
    have fl0 : H9 lb = none := v6.free (u7.free hlb)
    generalize hdue : sumN (fun v => posP (G v)) m = due at *
    clear B16 u7 k6 k26 AW hx hdx hne v6 hlb
    subst hB
    walk_at "dl"
    obtain ⟨dx0, la', ls', xs', sa', hx0, _⟩ := S16.ex
    refine ⟨dx0, _, hx0, rfl, x, lb, m, m + 1, m + 2, due, _, _, rfl, S16, hbW, by omega, by omega, by omega, due0, fun H17 fl2 d B17 S17 P17 d0 dl hor => ⟨rfl, ?_⟩⟩
    have s17 : Same H9 H17 := fun b o e => B17 b o (fun z => by subst z; rw [fl0] at e; cases e) (s16 _ _ e)
    obtain ⟨dx3, la3, ls3, xs3, sa3, hx3, _, _, hb3, _⟩ := S17.ex
    have hl2 := S17.len
    obtain ⟨PS⟩ := psh_of hin hGv P17
    by_cases c0 : V.int d = V.int due
    · rw [if_pos c0]
      refine ⟨_, _, _, hx3, T.o_Stream.cls, T.na_Stream_borne, _, rfl, _, .inl (.of (s17 _ _ g09)), lb, rfl, _, .of hb3, fun p hp => ⟨small_line (by decide), fun t ht => ?_⟩⟩
      rw [hxl, cut_to (by rw [List.length_map]; omega), ← List.map_take] at *
      refine fin _ t p true (fl2.take as.length) ((s17.new hp _).new ht _) upd_same (s17.free hp) (Same.upd_new ht _ _ _ upd_same) ⟨fun _ => flow_of_psh hin hGv PS (by rw [hdue]; injection c0), fun z => by cases z⟩
    · rw [if_neg c0]
      refine ⟨dx3, _, hx3, rfl, x, m, m + 2, _, _, rfl, S17.stream, by omega, fun H18 pd kvs es s18 hpd he hcm => ⟨pd, rfl, kvs, hpd, _, ents_keys he, ?_, fun p5 ms hp5 hperm hsort => ?_⟩⟩
      · have h1 := hcm.toCInv.len
        rw [he.1]
        omega
      · obtain ⟨ns, e1, e2, e3⟩ := sorted_nats hperm hsort hcm.nd
        rw [e1]
        have ln : ns.length ≤ m + 2 := by rw [e2.length_eq]; have h1 := hcm.toCInv.len; unfold keysE; rw [List.length_map]; omega
        have s19 := (s17.trans s18).new hp5 (HO.lst (ns.map natV))
        have g20 : upd H18 p5 (HO.lst (ns.map natV)) p5 = some (.lst (ns.map natV)) := upd_same
        generalize upd H18 p5 (HO.lst (ns.map natV)) = H19 at *
        refine ⟨⟨_, .of g20⟩, ?_⟩
        refine comp_walk (xs := ns.map natV) walk_list (by rw [List.length_map]; exact small_line (by omega)) (fun i ys H' => H' = H19 ∧ ys = ((ns.take i).filter (· < m)).map natV) ⟨rfl, rfl⟩ (fun _ _ _ _ q => by rw [q.1]; exact .of g20) (fun i ys H' q => by rw [q.2, List.length_map]; exact Nat.le_trans (List.length_filter_le _ _) (by rw [List.length_take]; omega)) ?_ ?_
        · rintro i y ys H20 hy ⟨rfl, rfl⟩
          rw [List.getElem?_map] at hy
          obtain ⟨n, hn, rfl⟩ := Option.map_eq_some_iff.mp hy
          unfold natV
          walk_at "dl"
          rw [List.take_succ, hn, List.filter_append, List.map_append]
          by_cases c : n < m
          · rw [if_pos (by omega)]
            refine ⟨⟨_, rfl⟩, ?_⟩
            simp [c, natV]
          · rw [if_neg (by omega)]
            refine ⟨⟨_, rfl⟩, ?_⟩
            simp [c]
        · rintro ys H20 ⟨rfl, rfl⟩ p6' hp6'
          rw [List.length_map, List.take_of_length_le (Nat.le_refl _), natV_ints]
          refine ⟨small_line (by decide), fun t ht => ?_⟩
          refine fin _ t p6' false (natsI (ns.filter (· < m))) ((s19.new hp6' _).new ht _) upd_same (s19.free hp6') (Same.upd_new ht _ _ _ upd_same) ⟨(fun z => by cases z), fun _ => ⟨_, rfl, cut_of_psh hin PS ?_ ?_ (e3.filter _) fun y => ?_⟩⟩
          · have : d ≠ due := fun z => c0 (by rw [z])
            rw [hdue]
            omega
          · exact hor.resolve_left fun z => c0 (by rw [z])
          · rw [List.mem_filter, e2.mem_iff, decide_eq_true_iff]
            exact and_congr (hcm.iff y) Iff.rfl
noncomputable def sp_flow_of (K : PySem.W.Frag) (f : Nat → Addr) : Sp := fcSp f
theorem ok_flow_of (T : Txt K mg f fd) : FnOk P w K mg base CX0 6 (f 12) (fd 12) ["many", "arcs"] (sp_flow_of K f) := by
  refine T.d_flow_of.F.ok sc_flow_of (fun vs H Q E h => ?_) (fun cdv A outer s H vs Q E hr h => ?_)
  · obtain ⟨m, la, xs, as, rfl, _⟩ := h
    rfl
  · obtain ⟨m, la, xs, as, rfl, N, k⟩ := h
    refine ⟨_, (pss_cons (ps_expr (pe_defL T.d_asked_net (ok_asked_net T) (hr.mono (by decide)) rfl (by decide) rfl (pal rfl (pvl 0) (pal rfl (pvl 1) pa_nil))))
     (pss_one (ps_ret (pe_defL T.d_flow_or_cut (ok_flow_or_cut T) (hr.mono (by decide)) rfl (by decide) rfl (pal rfl (pvl 0) (pal rfl (pvl 1) pa_nil)))))), ?_⟩
    walk_at "dl"
    exact ⟨m, la, xs, as, rfl, N.la, N.arcs, N.m1, N.m2, N.len, N.ok, fun H1 s1 => ⟨m, la, xs, as, rfl, N.mono s1, fun H' t pl g zs s ht hp hl R => k H' t pl g zs (s1.trans s) ht (s1.free hp) hl R⟩⟩
noncomputable def sp_l_draw (K : PySem.W.Frag) : Sp := fun vs H Q _ => ∃ (a : Addr) (ns : List Int) (k m : Int), vs = [.ref a, .int k, .int m] ∧ SqL K H a (ns.map V.int) ∧ 0 ≤ k ∧ k < 1000000 ∧ 0 < m ∧ ∀ v, 0 ≤ v → v < m → Q (.int v) H
theorem ok_l_draw (T : Txt K mg f fd) : FnOk P w K mg base CX0 1 (f 14) (fd 14) ["_law_script", "_law_k", "_law_many"] (sp_l_draw K) := by
  refine T.d_l_draw.F.ok sc_l_draw (fun vs H Q E h => ?_) (fun cdv A outer s H vs Q E hr h => ?_)
  · obtain ⟨a, ns, k, m, rfl, _⟩ := h
    rfl
  · obtain ⟨a, ns, i, m, rfl, hs, h0, h1, hm, k⟩ := h
    refine ⟨_, (pss_cons (ps_if (pt_cmpR op_lt (pvl 1) (pe_cB (k_len rfl) T.n_len bt_len rfl (by decide) (by decide) rfl (pal rfl (pvl 0) pa_nil)) (nomark _))
     (pss_one (ps_ret (pe_op op_mod (pe_ix (k_ixL rfl) (pvl 0) (pvl 1) (fun _ _ => rfl)) (pvl 2))))
     pss_nil)
     (pss_cons (psl 3 sc_l_draw.nd (pe_op op_add (pe_op op_mul (pvl 1) (pvl 1)) pe_int))
     (pss_cons (ps_if (pt_cmpR op_gt (pe_cB (k_len rfl) T.n_len bt_len rfl (by decide) (by decide) rfl (pal rfl (pvl 0) pa_nil)) pe_int (nomark _))
     (pss_one (psl 3 sc_l_draw.nd (pe_op op_add (pvl 3) (pe_op op_mod (pe_ix (k_ixL rfl) (pvl 0) (pe_op op_mod (pvl 1) (pe_cB (k_len rfl) T.n_len bt_len rfl (by decide) (by decide) rfl (pal rfl (pvl 0) pa_nil))) (fun _ _ => rfl)) pe_int))))
     pss_nil)
     (pss_one (ps_ret (pe_op op_mod (pe_op op_mod (pe_op op_mul (pe_op op_add (pe_op op_mod (pe_op op_mul (pvl 3) pe_int) pe_int) pe_int) pe_int) pe_int) (pvl 2))))))), ?_⟩
    ((try dsimp only [cxOf, L2.Cx.inTry, L2.Cx.inHand]); simp only [L2.start, tSeq, tNext, tIfS, tRet, tRetN, tAsg, tDrop, gName, tVar, tC, tOp, tUn, tCall, tCB, tCons, tNil, tTest, tB, tNot, tAnd, tOr, tAndV, tOrV, tNotV, tIf, tChain, tLst, tTup, tBM, tBM0, rI, rI0, rU, rEq, rNe, scal_ii, scal_bb, scal_ss, tComp, iStr, iList, iTup, iRng1, iRng2, tYes, rIsP, rAll, rLenS, rLenV, rListOf, rTupleOf, tDisp, tPairs, tSl, tPart, tNoPart, rSlS, rSlL, rFind, rStarts, rIntT, rStrA, rRepS, tCallX, tRaise, tRaiseI, tTry, tAs, offE, tXF, sXset, tMethX, tMakeX, rIsX, tFld, sFld, tMeth, rSortDB, rSumI, rDPop, tDNewK, tDIn, tDNotIn, tDGet, sDPut, rIndexS, tStop, tAugS, ipI, iZip, gSub, 
  List.map_cons, List.map_nil, List.cons_append, List.nil_append, List.length_cons, List.length_nil, List.getElem?_cons_zero, List.getElem?_cons_succ, Option.some.injEq, exists_eq_left', exists_eq_left, List.set_cons_zero, List.set_cons_succ, List.cons.injEq, and_true, true_and, V.int.injEq, V.str.injEq, V.bl.injEq, V.ref.injEq, V.ty.injEq, exists_and_left, exists_and_right, List.append_nil, reduceCtorEq, false_and, and_false, exists_false, or_false, false_or, decide_true, decide_false, Bool.not_true, Bool.not_false, if_true, if_false, Bool.false_eq_true, ite_true, ite_false, and_assoc, Nat.reduceAdd, Nat.reduceSub, List.replicate_succ, List.replicate_zero, Nat.zero_add, Nat.add_zero, Nat.sub_self])
    have cm : ∀ x : Int, 0 ≤ x % m ∧ x % m < m := fun x => ⟨Int.emod_nonneg _ (by omega), Int.emod_lt_of_pos _ hm⟩
    have fin : ∀ x : Int, Q (V.int (x % m)) H := fun x => k _ (cm x).1 (cm x).2
    refine ⟨_, .inl hs, ?_⟩
    rw [List.length_map]
    by_cases c : i < (ns.length : Int)
    · rw [if_pos (decide_eq_true c)]
      obtain ⟨j, rfl⟩ : ∃ j : Nat, i = (j : Int) := ⟨i.toNat, by omega⟩
      have hj : j < ns.length := by omega
      exact ⟨a, _, _, .int ns[j], rfl, rfl, hs, atI_nat (by rw [List.getElem?_map, List.getElem?_eq_getElem hj]; rfl), _, rfl, hm, fin _⟩
    · rw [if_neg (by simpa using c)]
      refine ⟨.inl ⟨by omega, by omega⟩, _, .inl hs, ?_⟩
      rw [List.length_map]
      have c48 : ∀ x : Int, CMul x 48271 := fun x => .inr ⟨by decide, by decide⟩
      have c40 : ∀ x : Int, CMul x 40692 := fun x => .inr ⟨by decide, by decide⟩
      by_cases c0 : (0 : Int) < (ns.length : Int)
      · rw [if_pos (decide_eq_true c0)]
        refine ⟨_, .inl hs, ?_⟩
        rw [List.length_map]
        refine ⟨c0, ?_⟩
        have b1 := Int.emod_nonneg i (show (ns.length : Int) ≠ 0 by omega)
        have b2 := Int.emod_lt_of_pos i c0
        obtain ⟨j, hj'⟩ : ∃ j : Nat, i % (ns.length : Int) = (j : Int) := ⟨(i % (ns.length : Int)).toNat, by omega⟩
        rw [hj'] at b2 ⊢
        have hj : j < ns.length := by omega
        exact ⟨a, _, _, .int ns[j], rfl, rfl, hs, atI_nat (by rw [List.getElem?_map, List.getElem?_eq_getElem hj]; rfl), _, rfl, by decide, c48 _, by decide, c40 _, by decide, hm, fin _⟩
      · rw [if_neg (by simpa using c0)]
        exact ⟨c48 _, by decide, c40 _, by decide, hm, fin _⟩
noncomputable abbrev AY := Arc × Int
theorem same_toT {H H' : Hp} (s : Same H H') : TSame H H' := fun q zs h => s _ _ h
noncomputable def exZ (v : Int) : List AY → Int
  | [] => 0
  | z :: zs => (if z.1.b = v then z.2 else 0) - (if z.1.a = v then z.2 else 0) + exZ v zs
theorem exZ_append (v : Int) : ∀ xs ys : List AY, exZ v (xs ++ ys) = exZ v xs + exZ v ys
  | [], ys => by show exZ v ys = 0 + exZ v ys; omega
  | x :: xs, ys => by
    show _ - _ + exZ v (xs ++ ys) = _ - _ + exZ v xs + exZ v ys
    rw [exZ_append v xs ys]
    omega
theorem exZ_perm {v : Int} {xs ys : List AY} (h : xs.Perm ys) : exZ v xs = exZ v ys := by
  induction h with
  | nil => rfl
  | cons x _ ih => show _ - _ + exZ v _ = _ - _ + exZ v _; rw [ih]
  | swap x y l => show _ - _ + (_ - _ + exZ v l) = _ - _ + (_ - _ + exZ v l); omega
  | trans _ _ h1 h2 => rw [h1, h2]
theorem exZ_F {v : Int} : ∀ zs : List AY, exF (zs.map (·.1)) (zs.map (·.2)) v = exZ v zs
  | [] => rfl
  | z :: zs => by
    show _ - _ + exF (zs.map (·.1)) (zs.map (·.2)) v = _ - _ + exZ v zs
    rw [exZ_F zs]
noncomputable def OneOk (m : Nat) (z : AY) : Prop := ArcOk m z.1 ∧ z.1.l ≤ z.2 ∧ z.2 ≤ z.1.u
structure RndOk (m : Nat) (zs : List AY) : Prop where
  one : ∀ z ∈ zs, OneOk m z
  ex : ∀ v, exZ v zs = 0
theorem RndOk.perm {m : Nat} {xs ys : List AY} (h : RndOk m xs) (p : xs.Perm ys) : RndOk m ys := ⟨fun z hz => h.one z (p.mem_iff.mpr hz), fun v => by rw [← exZ_perm p]; exact h.ex v⟩
theorem RndOk.flow {m : Nat} {zs : List AY} (h : RndOk m zs) : Flow (zs.map (·.1)) (zs.map (·.2)) := by
  refine ⟨⟨by simp, fun i A y hA hy => ?_⟩, fun v => by rw [exZ_F]; exact h.ex v⟩
  rw [List.getElem?_map] at hA hy
  obtain ⟨z, hz, rfl⟩ := Option.map_eq_some_iff.mp hA
  rw [hz] at hy
  cases hy
  exact (h.one z (List.mem_of_getElem? hz)).2
noncomputable def path (a b y v : Int) : Int := (if b = v then y else 0) - (if a = v then y else 0)
theorem exZ_step {zs : List AY} {v f n b y l u : Int} (h : exZ v zs = path f n y v) : exZ v (zs ++ [(⟨n, b, l, u⟩, y)]) = path f b y v := by
  rw [exZ_append, h]
  show _ + ((if b = v then y else 0) - (if n = v then y else 0) + 0) = _
  unfold path
  omega
theorem mod_turn {x R : Int} (h0 : 0 ≤ x) (h1 : x < 2 * R) : x % R = x ∨ (R ≤ x ∧ x % R = x - R) := by
  by_cases c : x < R
  · exact .inl (Int.emod_eq_of_lt h0 c)
  · refine .inr ⟨by omega, ?_⟩
    have e : x % R = (x - R) % R := by rw [← Int.add_emod_right (x - R) R, Int.sub_add_cancel]
    rw [e, Int.emod_eq_of_lt (by omega) (by omega)]
theorem other_ne {o k R : Int} (h0 : 0 ≤ o) (h1 : o < R) (k0 : 0 ≤ k) (k1 : k < R - 1) : 0 ≤ (o + 1 + k) % R ∧ (o + 1 + k) % R < R ∧ (o + 1 + k) % R ≠ o := by
  have h2 := Int.emod_nonneg (o + 1 + k) (show R ≠ 0 by omega)
  have h3 := Int.emod_lt_of_pos (o + 1 + k) (show 0 < R by omega)
  rcases mod_turn (x := o + 1 + k) (R := R) (by omega) (by omega) with e | ⟨e1, e⟩ <;> omega
theorem arcs_monoT {H H' : Hp} {xs : List V} {as : List Arc} (s : TSame H H') (h : ArcsV H xs as) : ArcsV H' xs as := All2.mono h fun _ _ ⟨p, e, hp⟩ => ⟨p, e, s _ _ hp⟩
theorem arc_app {H : Hp} {p q : Addr} {ws : List V} {as : List Arc} {A : Arc} (hp : H p = some (.lst ws)) (h : ArcsV H ws as) (hq : H q = none) : upd H q (.tup A.vs) p = some (.lst ws) ∧ ArcsV (upd (upd H q (.tup A.vs)) p (.lst (ws ++ [.ref q]))) (ws ++ [.ref q]) (as ++ [A]) := by
  have hp1 : upd H q (.tup A.vs) p = some (.lst ws) := Same.upd_new hq _ _ _ hp
  have ts : TSame H (upd (upd H q (.tup A.vs)) p (.lst (ws ++ [.ref q]))) := ((TSame.refl _).new hq).set hp1 (fun _ z => by cases z)
  have n2 : q ≠ p := fun e => by rw [e, hp] at hq; cases hq
  exact ⟨hp1, All2.snoc (arcs_monoT ts h) ⟨q, rfl, by rw [upd_ne n2, upd_same]⟩⟩
noncomputable abbrev RaI (H : Hp) (a p : Addr) (m sz : Nat) (un : Int) (μ : Nat) (σ : St) (H' : Hp) : Prop := (∃ v6 v7 v8 v9 v10 v11, ∃ at_ : Nat, σ = [some (V.ref a), some (V.int (m : Int)), some (V.int (sz : Int)), some (V.int un), some (V.ref p), some (V.int (at_ : Int)), v6, v7, v8, v9, v10, v11] ∧ at_ + 8 * μ ≤ 2326 ∧ ∃ ws, ∃ zs : List AY, H' p = some (.lst ws) ∧ ArcsV H' ws (zs.map (·.1)) ∧ RndOk m zs ∧ zs.length ≤ sz + 4 ∧ sz ≤ zs.length + μ) ∧ Same H H'
noncomputable abbrev RaJ (H : Hp) (a p : Addr) (m sz : Nat) (un : Int) (at_ : Nat) (am fi : Int) (n0 j : Nat) (σ : St) (H' : Hp) : Prop := (∃ v9 v10 v11, ∃ nw : Int, σ = [some (V.ref a), some (V.int (m : Int)), some (V.int (sz : Int)), some (V.int un), some (V.ref p), some (V.int (at_ : Int)), some (V.int am), some (V.int fi), some (V.int nw), v9, v10, v11] ∧ 0 ≤ nw ∧ nw < m ∧ ∃ ws2, ∃ zs2 : List AY, H' p = some (.lst ws2) ∧ ArcsV H' ws2 (zs2.map (·.1)) ∧ (∀ z ∈ zs2, OneOk m z) ∧ (∀ v, exZ v zs2 = path fi nw am v) ∧ zs2.length = n0 + j) ∧ Same H H'
noncomputable def sp_l_round_arcs (K : PySem.W.Frag) : Sp := fun vs H Q _ => ∃ (a : Addr) (ns : List Int) (m sz : Nat) (un : Int), vs = [.ref a, .int m, .int sz, .int un] ∧ SqL K H a (ns.map V.int) ∧ 2 ≤ m ∧ m ≤ 120 ∧ 1 ≤ sz ∧ sz ≤ 290 ∧ 0 ≤ un ∧
  ∀ H' p ws zs, Same H H' → H p = none → H' p = some (.lst ws) → ArcsV H' ws (zs.map (·.1)) → zs.length ≤ 294 → RndOk m zs → Q (.ref p) H'
theorem ok_l_round_arcs (T : Txt K mg f fd) : FnOk P w K mg base CX0 2 (f 16) (fd 16) ["_law_script", "_law_nodes", "_law_size", "_law_unit"] (sp_l_round_arcs K) := by
  refine T.d_l_round_arcs.F.ok sc_l_round_arcs (fun vs H Q E h => ?_) (fun cdv A outer s H vs Q E hr h => ?_)
  · obtain ⟨a, ns, m, sz, un, rfl, _⟩ := h
    rfl
  · obtain ⟨a, ns, m, sz, un, rfl, hs, hm1, hm2, hz1, hz2, hu, k⟩ := h
    refine ⟨_, (pss_cons (psl 4 sc_l_round_arcs.nd (pe_lst pa_nil))
     (pss_cons (psl 5 sc_l_round_arcs.nd pe_int)
     (pss_cons (ps_while PassesOwn.never (pt_cmpR op_lt (pe_cB (k_len rfl) T.n_len bt_len rfl (by decide) (by decide) rfl (pal rfl (pvl 4) pa_nil)) (pvl 2) (nomark _))
     (pss_cons (psl 6 sc_l_round_arcs.nd (pe_op op_mul (pe_defL T.d_l_draw (ok_l_draw T) (hr.mono (by decide)) rfl (by decide) rfl (pal rfl (pvl 0) (pal rfl (pvl 5) (pal rfl pe_int pa_nil)))) (pvl 3)))
     (pss_cons (psl 7 sc_l_round_arcs.nd (pe_defL T.d_l_draw (ok_l_draw T) (hr.mono (by decide)) rfl (by decide) rfl (pal rfl (pvl 0) (pal rfl (pe_op op_add (pvl 5) pe_int) (pal rfl (pvl 1) pa_nil)))))
     (pss_cons (psl 8 sc_l_round_arcs.nd (pvl 7))
     (pss_cons (ps_for PassesOwn.never rfl (pi_range1 rfl T.n_range (pal rfl (pe_op op_add pe_int (pe_defL T.d_l_draw (ok_l_draw T) (hr.mono (by decide)) rfl (by decide) rfl (pal rfl (pvl 0) (pal rfl (pe_op op_add (pvl 5) pe_int) (pal rfl pe_int pa_nil))))) pa_nil)) (pgl 9 sc_l_round_arcs.nd)
     (pss_cons (psl 10 sc_l_round_arcs.nd (pe_defL T.d_l_draw (ok_l_draw T) (hr.mono (by decide)) rfl (by decide) rfl (pal rfl (pvl 0) (pal rfl (pe_op op_add (pe_op op_add (pvl 5) pe_int) (pvl 9)) (pal rfl (pe_op op_mul pe_int (pvl 1)) pa_nil)))))
     (pss_cons (psl 11 sc_l_round_arcs.nd (pe_op op_mod (pe_op op_add (pe_op op_add (pvl 8) pe_int) (pe_op op_mod (pe_op op_fdiv (pvl 10) pe_int) (pe_op op_sub (pvl 1) pe_int))) (pvl 1)))
     (pss_cons (ps_expr (k_bmL rfl PySem.F.plainAttrs_list PySem.F.slot_list_append PySem.F.type_list_append mt_append rfl rfl rfl rfl (pvl 4) (pal rfl (pe_tup (pal rfl (pvl 8) (pal rfl (pvl 11) (pal rfl (pe_cB (call_max2 rfl) T.n_max bt_max rfl (by decide) (by decide) rfl (pal rfl pe_int (pal rfl (pe_op op_sub (pvl 6) (pe_op op_mod (pvl 10) pe_int)) pa_nil))) (pal rfl (pe_op op_add (pvl 6) (pe_op op_mod (pe_op op_fdiv (pvl 10) pe_int) pe_int)) pa_nil))))) pa_nil)))
     (pss_one (psl 8 sc_l_round_arcs.nd (pvl 11)))))))
     (pss_cons (ps_if (pt_cmpR op_ne (pvl 8) (pvl 7) (nomark _))
     (pss_one (ps_expr (k_bmL rfl PySem.F.plainAttrs_list PySem.F.slot_list_append PySem.F.type_list_append mt_append rfl rfl rfl rfl (pvl 4) (pal rfl (pe_tup (pal rfl (pvl 8) (pal rfl (pvl 7) (pal rfl (pe_cB (call_max2 rfl) T.n_max bt_max rfl (by decide) (by decide) rfl (pal rfl pe_int (pal rfl (pe_op op_sub (pvl 6) pe_int) pa_nil))) (pal rfl (pvl 6) pa_nil))))) pa_nil))))
     pss_nil)
     (pss_one (psl 5 sc_l_round_arcs.nd (pe_op op_add (pvl 5) pe_int)))))))))
     (pss_one (ps_ret (pvl 4)))))), ?_⟩
    walk_at "dl"
    refine ⟨Nat.zero_le _, fun p hp => ?_⟩
    have s1 := Same.upd_new hp (HO.lst [])
    have g1 : upd H p (HO.lst []) p = some (.lst []) := upd_same
    generalize upd H p (HO.lst []) = H1 at *
    refine while_in (RaI H a p m sz un) ⟨sz, ⟨none, none, none, none, none, none, 6, rfl, by omega, [], [], g1, All2.nil, ⟨(fun _ z => nomatch z), fun _ => rfl⟩, by simp, by simp⟩, s1⟩ ?_
    rintro μ σ H2 ⟨⟨v6, v7, v8, v9, v10, v11, at_, rfl, hat, ws, zs, hws, hzs, hr0, hl1, hl2⟩, s2⟩
    walk_at "dl"
    have hwl := hzs.1
    rw [List.length_map] at hwl
    refine ⟨_, .inl (.of hws), ?_⟩
    by_cases cl : (ws.length : Int) < (sz : Int)
    · rw [if_pos cl]
      refine WGo.of ?_
      generalize hT : tSeq (tIfS (tTest (tOp rNe _ _)) _ _) _ = T1
      walk_at "dl"
      have hs2 := s2.seq hs
      refine ⟨a, ns, _, _, rfl, hs2, by omega, by omega, by decide, fun d1 d10 d11 => ⟨d1, rfl, .inl ⟨by omega, by omega⟩, a, ns, _, _, rfl, hs2, by omega, by omega, by omega, fun fi f0 f1 => ?_⟩⟩
      have ham : 0 ≤ d1 * un := Int.mul_nonneg d10 hu
      generalize d1 * un = am at *
      refine for_in ?_
      walk_at "dl"
      refine ⟨a, ns, _, _, rfl, hs2, by omega, by omega, by decide, fun r r0 r1 => ⟨r, rfl, by omega, by omega, ?_⟩⟩
      obtain ⟨nr, enr, n1, n2⟩ : ∃ nr : Nat, (1 + r).toNat = nr ∧ 1 ≤ nr ∧ nr ≤ 4 := ⟨_, rfl, by omega, by omega⟩
      rw [enr]
      refine ForW.of walk_range (RaJ H a p m sz un at_ am fi zs.length) ⟨⟨v9, v10, v11, fi, rfl, f0, f1, ws, zs, hws, hzs, hr0.one, (fun v => by rw [hr0.ex v]; unfold path; split <;> omega), rfl⟩, s2⟩ (fun _ _ _ _ _ => trivial) ?_ ?_
      · rintro j x σ H3 hx ⟨⟨v9', v10', v11', nw, rfl, w0, w1, ws3, zs3, hws3, hzs3, ho3, he3, hl3⟩, s3⟩
        obtain ⟨hj, rfl⟩ := range_item hx
        have hwl3 := hzs3.1
        rw [List.length_map] at hwl3
        walk_at "dl"
        refine ⟨.inl ⟨by decide, by decide⟩, a, ns, _, _, rfl, s3.seq hs, by omega, by omega, by omega, fun nm nm0 nm1 => ?_⟩
        dsimp only
        have b0 := Int.emod_nonneg (nm / 9) (show (m : Int) - 1 ≠ 0 by omega)
        have b1 := Int.emod_lt_of_pos (nm / 9) (show (0 : Int) < (m : Int) - 1 by omega)
        obtain ⟨o1, o2, o3⟩ := other_ne (o := nw) (k := nm / 9 % ((m : Int) - 1)) (R := m) w0 w1 b0 b1
        have q0 := Int.emod_nonneg nm (show (3 : Int) ≠ 0 by decide)
        have c0 := Int.emod_nonneg (nm / 3) (show (3 : Int) ≠ 0 by decide)
        refine ⟨nm, rfl, ⟨by decide, by decide⟩, by omega, by omega, .inl ⟨rfl, _, .of hws3⟩, nm, rfl, nm, rfl, ⟨by decide, by decide⟩, small_line (by decide), fun q hq => ?_⟩
        generalize (nw + 1 + nm / 9 % ((m : Int) - 1)) % (m : Int) = bh at *
        generalize nm % 3 = wl at *
        generalize nm / 3 % 3 = wu at *
        obtain ⟨hp5, hP5⟩ := arc_app (A := ⟨nw, bh, if am - wl > 0 then am - wl else 0, am + wu⟩) hws3 hzs3 hq
        have ok5 : OneOk m (⟨nw, bh, if am - wl > 0 then am - wl else 0, am + wu⟩, am) := ⟨⟨⟨w0, w1, o1, o2⟩, Ne.symm o3, (by show 0 ≤ if am - wl > 0 then am - wl else 0; split <;> omega), by show (if am - wl > 0 then am - wl else 0) ≤ am + wu; split <;> omega⟩, by show (if am - wl > 0 then am - wl else 0) ≤ am; split <;> omega, by show am ≤ am + wu; omega⟩
        refine ⟨p, ws3, V.ref q, rfl, rfl, hp5, (show ws3.length < sizeLine from by rw [sizeLine_eq]; omega), ⟨_, _, _, bh, rfl, o1, o2, _, zs3 ++ [(⟨nw, bh, if am - wl > 0 then am - wl else 0, am + wu⟩, am)], upd_same, by rw [List.map_append]; exact hP5, fun z hz => ?_, fun v => exZ_step (he3 v), by simp; omega⟩, (s3.new hq _).set hp _⟩
        rcases List.mem_append.mp hz with e | e
        · exact ho3 z e
        · rw [List.mem_singleton.mp e]; exact ok5
      · rintro σ H3 ⟨⟨v9', v10', v11', nw, rfl, w0, w1, ws3, zs3, hws3, hzs3, ho3, he3, hl3⟩, s3⟩
        rw [rangeV_len] at hl3
        have hwl3 := hzs3.1
        rw [List.length_map] at hwl3
        subst hT
        walk_at "dl"
        by_cases cn : nw = fi
        · rw [if_neg (by simp [cn])]
          refine ⟨sz - zs3.length, by omega, ⟨_, _, _, _, _, _, at_ + 8, rfl, by omega, ws3, zs3, hws3, hzs3, ⟨ho3, fun v => ?_⟩, by omega, by omega⟩, s3⟩
          rw [he3 v, cn]
          unfold path
          split <;> omega
        · rw [if_pos (by simp [cn])]
          refine ⟨.inl ⟨rfl, _, .of hws3⟩, small_line (by decide), fun q hq => ?_⟩
          obtain ⟨hp5, hP5⟩ := arc_app (A := ⟨nw, fi, if am - 1 > 0 then am - 1 else 0, am⟩) hws3 hzs3 hq
          have ok5 : OneOk m (⟨nw, fi, if am - 1 > 0 then am - 1 else 0, am⟩, am) := ⟨⟨⟨w0, w1, f0, f1⟩, cn, (by show 0 ≤ if am - 1 > 0 then am - 1 else 0; split <;> omega), by show (if am - 1 > 0 then am - 1 else 0) ≤ am; split <;> omega⟩, by show (if am - 1 > 0 then am - 1 else 0) ≤ am; split <;> omega, Int.le_refl _⟩
          refine ⟨p, ws3, V.ref q, rfl, rfl, hp5, (show ws3.length < sizeLine from by rw [sizeLine_eq]; omega), sz - (zs3.length + 1), by omega, ⟨_, _, _, _, _, _, at_ + 8, rfl, by omega, _, zs3 ++ [(⟨nw, fi, if am - 1 > 0 then am - 1 else 0, am⟩, am)], upd_same, by rw [List.map_append]; exact hP5, ⟨fun z hz => ?_, fun v => ?_⟩, by simp; omega, by simp; omega⟩, (s3.new hq _).set hp _⟩
          · rcases List.mem_append.mp hz with e | e
            · exact ho3 z e
            · rw [List.mem_singleton.mp e]; exact ok5
          · rw [exZ_step (he3 v)]
            unfold path
            split <;> omega
    · rw [if_neg cl]
      exact k H2 p ws zs s2 hp hws hzs (by omega) hr0
noncomputable abbrev AaI (H : Hp) (a p : Addr) (m sz : Nat) (un : Int) (i : Nat) (σ : St) (H' : Hp) : Prop := (∃ v5 v6 v7 v8 v9, σ = [some (V.ref a), some (V.int (m : Int)), some (V.int (sz : Int)), some (V.int un), some (V.ref p), v5, v6, v7, v8, v9] ∧ ∃ ws as, H' p = some (.lst ws) ∧ ArcsV H' ws as ∧ (∀ A ∈ as, ArcOk m A) ∧ as.length = i) ∧ Same H H'
noncomputable def sp_l_any_arcs (K : PySem.W.Frag) : Sp := fun vs H Q _ => ∃ (a : Addr) (ns : List Int) (m sz : Nat) (un : Int), vs = [.ref a, .int m, .int sz, .int un] ∧ SqL K H a (ns.map V.int) ∧ 2 ≤ m ∧ m ≤ 120 ∧ sz ≤ 290 ∧ 0 ≤ un ∧
  ∀ H' p ws as, Same H H' → H p = none → H' p = some (.lst ws) → ArcsV H' ws as → as.length ≤ 294 → (∀ A ∈ as, ArcOk m A) → Q (.ref p) H'
theorem ok_l_any_arcs (T : Txt K mg f fd) : FnOk P w K mg base CX0 2 (f 15) (fd 15) ["_law_script", "_law_nodes", "_law_size", "_law_unit"] (sp_l_any_arcs K) := by
  refine T.d_l_any_arcs.F.ok sc_l_any_arcs (fun vs H Q E h => ?_) (fun cdv A outer s H vs Q E hr h => ?_)
  · obtain ⟨a, ns, m, sz, un, rfl, _⟩ := h
    rfl
  · obtain ⟨a, ns, m, sz, un, rfl, hs, hm1, hm2, hz2, hu, k⟩ := h
    refine ⟨_, (pss_cons (psl 4 sc_l_any_arcs.nd (pe_lst pa_nil))
     (pss_cons (ps_for PassesOwn.never rfl (pi_range1 rfl T.n_range (pal rfl (pvl 2) pa_nil)) (pgl 5 sc_l_any_arcs.nd)
     (pss_cons (psl 6 sc_l_any_arcs.nd (pe_defL T.d_l_draw (ok_l_draw T) (hr.mono (by decide)) rfl (by decide) rfl (pal rfl (pvl 0) (pal rfl (pe_op op_add pe_int (pe_op op_mul pe_int (pvl 5))) (pal rfl (pvl 1) pa_nil)))))
     (pss_cons (psl 7 sc_l_any_arcs.nd (pe_op op_mod (pe_op op_add (pe_op op_add (pvl 6) pe_int) (pe_defL T.d_l_draw (ok_l_draw T) (hr.mono (by decide)) rfl (by decide) rfl (pal rfl (pvl 0) (pal rfl (pe_op op_add pe_int (pe_op op_mul pe_int (pvl 5))) (pal rfl (pe_op op_sub (pvl 1) pe_int) pa_nil))))) (pvl 1)))
     (pss_cons (psl 8 sc_l_any_arcs.nd (pe_defL T.d_l_draw (ok_l_draw T) (hr.mono (by decide)) rfl (by decide) rfl (pal rfl (pvl 0) (pal rfl (pe_op op_add pe_int (pe_op op_mul pe_int (pvl 5))) (pal rfl pe_int pa_nil)))))
     (pss_cons (psl 9 sc_l_any_arcs.nd (pe_op op_mul (pe_ix (k_ixL rfl) (pe_lst (pal rfl pe_int (pal rfl pe_int (pal rfl pe_int (pal rfl pe_int (pal rfl pe_int (pal rfl pe_int pa_nil))))))) (pe_op op_mod (pvl 8) pe_int) (fun _ _ => rfl)) (pvl 3)))
     (pss_one (ps_expr (k_bmL rfl PySem.F.plainAttrs_list PySem.F.slot_list_append PySem.F.type_list_append mt_append rfl rfl rfl rfl (pvl 4) (pal rfl (pe_tup (pal rfl (pvl 6) (pal rfl (pvl 7) (pal rfl (pvl 9) (pal rfl (pe_op op_add (pvl 9) (pe_op op_mul (pe_op op_mod (pe_op op_fdiv (pvl 8) pe_int) pe_int) (pvl 3))) pa_nil))))) pa_nil)))))))))
     (pss_one (ps_ret (pvl 4))))), ?_⟩
    walk_at "dl"
    refine ⟨Nat.zero_le _, fun p hp => ?_⟩
    have s1 := Same.upd_new hp (HO.lst [])
    have g1 : upd H p (HO.lst []) p = some (.lst []) := upd_same
    generalize upd H p (HO.lst []) = H1 at *
    refine for_in ?_
    walk_at "dl"
    refine ⟨by omega, by omega, ?_⟩
    rw [Int.toNat_natCast]
    refine ForW.of walk_range (AaI H a p m sz un) ⟨⟨none, none, none, none, none, rfl, [], [], g1, All2.nil, (fun _ z => nomatch z), rfl⟩, s1⟩ (fun _ _ _ _ _ => trivial) ?_ ?_
    · rintro i x σ H2 hx ⟨⟨v5, v6, v7, v8, v9, rfl, ws, as, hws, hA, hok, hl⟩, s2⟩
      obtain ⟨hi, rfl⟩ := range_item hx
      have hs2 := s2.seq hs
      have hwl := hA.1
      walk_at "dl"
      refine ⟨.inl ⟨by decide, by decide⟩, a, ns, _, _, rfl, hs2, by omega, by omega, by omega, fun o o0 o1 => ?_⟩
      refine ⟨o, rfl, .inl ⟨by decide, by decide⟩, a, ns, _, _, rfl, hs2, by omega, by omega, by omega, fun r r0 r1 => ⟨r, rfl, by omega, .inl ⟨by decide, by decide⟩, a, ns, _, _, rfl, hs2, by omega, by omega, by decide, fun nm nm0 nm1 => ⟨small_line (by decide), fun pl hpl => ?_⟩⟩⟩
      obtain ⟨t1, t2, t3⟩ := other_ne (o := o) (k := r) (R := m) o0 o1 r0 r1
      generalize (o + 1 + r) % (m : Int) = bh at *
      have s3 := s2.new hpl (HO.lst [V.int 0, V.int 0, V.int 0, V.int 1, V.int 2, V.int 3])
      have g3 : upd H2 pl (HO.lst [V.int 0, V.int 0, V.int 0, V.int 1, V.int 2, V.int 3]) pl = some (.lst [V.int 0, V.int 0, V.int 0, V.int 1, V.int 2, V.int 3]) := upd_same
      have hws3 : upd H2 pl (HO.lst [V.int 0, V.int 0, V.int 0, V.int 1, V.int 2, V.int 3]) p = _ := Same.upd_new hpl _ _ _ hws
      have hA3 := hA.mono (Same.upd_new hpl (HO.lst [V.int 0, V.int 0, V.int 0, V.int 1, V.int 2, V.int 3]))
      generalize upd H2 pl (HO.lst [V.int 0, V.int 0, V.int 0, V.int 1, V.int 2, V.int 3]) = H3 at *
      have c0 := Int.emod_nonneg nm (show (6 : Int) ≠ 0 by decide)
      have c1 := Int.emod_lt_of_pos nm (show (0 : Int) < 6 by decide)
      have e0 := Int.emod_nonneg (nm / 6) (show (6 : Int) ≠ 0 by decide)
      have e1 := Int.emod_lt_of_pos (nm / 6) (show (0 : Int) < 6 by decide)
      refine ⟨nm, rfl, ixL_of (.of g3) c0 c1 fun wv hwv => ?_⟩
      obtain ⟨wn, rfl, wn0, wn1⟩ : ∃ wn, wv = .int wn ∧ 0 ≤ wn ∧ wn ≤ 3 := by
        rcases (by omega : nm % 6 = 0 ∨ nm % 6 = 1 ∨ nm % 6 = 2 ∨ nm % 6 = 3 ∨ nm % 6 = 4 ∨ nm % 6 = 5) with e | e | e | e | e | e <;> rw [e] at hwv <;> exact ⟨_, (Option.some.inj hwv).symm, by decide, by decide⟩
      have mu1 := Int.mul_nonneg wn0 hu
      have mu2 := Int.mul_nonneg e0 hu
      refine ⟨wn, rfl, .inl ⟨by omega, by omega⟩, .inl ⟨rfl, _, .of hws3⟩, nm, rfl, ⟨by decide, by decide⟩, .inl ⟨by omega, by omega⟩, small_line (by decide), fun q hq => ?_⟩
      generalize wn * un = l at *
      generalize nm / 6 % 6 * un = u at *
      obtain ⟨hp5, hP5⟩ := arc_app (A := ⟨o, bh, l, l + u⟩) hws3 hA3 hq
      refine ⟨p, ws, V.ref q, rfl, rfl, hp5, (show ws.length < sizeLine from by rw [sizeLine_eq]; omega), ⟨_, _, _, _, _, rfl, _, _, upd_same, hP5, fun A hA => ?_, by simp; omega⟩, (s3.new hq _).set hp _⟩
      rcases List.mem_append.mp hA with e | e
      · exact hok A e
      · rw [List.mem_singleton.mp e]
        exact ⟨⟨o0, o1, t1, t2⟩, Ne.symm t3, mu1, by show l ≤ l + u; omega⟩
    · rintro σ H2 ⟨⟨v5, v6, v7, v8, v9, rfl, ws, as, hws, hA, hok, hl⟩, s2⟩
      rw [rangeV_len] at hl
      walk_at "dl"
      exact k H2 p ws as s2 hp hws hA (by omega) hok
noncomputable def turnL {α : Type} (t : Nat) (r : Bool) (xs : List α) : List α := if r then (xs.drop t ++ xs.take t).reverse else xs.drop t ++ xs.take t
theorem turn_map {α β : Type} (g : α → β) (t : Nat) (r : Bool) (xs : List α) : (turnL t r xs).map g = turnL t r (xs.map g) := by
  unfold turnL
  cases r <;> simp [List.map_append, List.map_drop, List.map_take, List.map_reverse]
theorem turn_perm {α : Type} (t : Nat) (r : Bool) (xs : List α) : xs.Perm (turnL t r xs) := by
  have pm : xs.Perm (xs.drop t ++ xs.take t) := by
    have := List.perm_append_comm (l₁ := xs.take t) (l₂ := xs.drop t)
    rwa [List.take_append_drop] at this
  unfold turnL
  cases r
  · exact pm
  · exact pm.trans (List.reverse_perm _).symm
noncomputable def sp_l_turned (K : PySem.W.Frag) : Sp := fun vs H Q _ => ∃ (l : Addr) (xs : List V) (as : List Arc) (n : Int), vs = [.ref l, .int n] ∧ H l = some (.lst xs) ∧ ArcsV H xs as ∧ xs.length ≤ 300 ∧ ∀ H' p ys t r, Same H H' → H' p = some (.lst ys) → ArcsV H' ys (turnL t r as) → Q (.ref p) H'
theorem ok_l_turned (T : Txt K mg f fd) : FnOk P w K mg base CX0 1 (f 17) (fd 17) ["_law_row", "_law_number"] (sp_l_turned K) := by
  refine T.d_l_turned.F.ok sc_l_turned (fun vs H Q E h => ?_) (fun cdv A outer s H vs Q E hr h => ?_)
  · obtain ⟨l, xs, as, n, rfl, _⟩ := h
    rfl
  · obtain ⟨l, xs, as, n, rfl, hl, hz, h2, k⟩ := h
    refine ⟨_, (pss_cons (psl 2 sc_l_turned.nd (pe_op op_mod (pe_op op_fdiv (pvl 1) pe_int) (pe_cB (call_max2 rfl) T.n_max bt_max rfl (by decide) (by decide) rfl (pal rfl pe_int (pal rfl (pe_cB (k_len rfl) T.n_len bt_len rfl (by decide) (by decide) rfl (pal rfl (pvl 0) pa_nil)) pa_nil)))))
     (pss_cons (psl 0 sc_l_turned.nd (pe_op op_cat (pe_slice (k_slL rfl) (pvl 0) (po_some (pvl 2)) po_none) (pe_slice (k_slL rfl) (pvl 0) po_none (po_some (pvl 2)))))
     (pss_cons (ps_if (pt_cmpR op_eq (pe_op op_mod (pvl 1) pe_int) pe_int (nomark _))
     (pss_one (ps_expr (k_bm0 rfl PySem.F.plainAttrs_list PySem.F.slot_list_reverse PySem.F.type_list_reverse mt_reverse (pvl 0))))
     pss_nil)
     (pss_one (ps_ret (pvl 0)))))), ?_⟩
    walk_at "dl"
    refine ⟨⟨by decide, by decide⟩, _, .inl (.of hl), ?_⟩
    generalize em : (if (xs.length : Int) > 1 then (xs.length : Int) else 1) = L
    have hL : 1 ≤ L ∧ (L ≤ xs.length ∨ xs.length = 0 ∧ L = 1) := by split at em <;> omega
    refine ⟨by omega, ?_⟩
    have c1 := Int.emod_nonneg (n / 2) (show L ≠ 0 by omega)
    have c2 := Int.emod_lt_of_pos (n / 2) (show (0 : Int) < L by omega)
    obtain ⟨t, ht⟩ : ∃ t : Nat, n / 2 % L = (t : Int) := ⟨(n / 2 % L).toNat, by omega⟩
    rw [ht] at c2 ⊢
    refine ⟨xs, .of hl, fun p1 hp1 => ?_⟩
    rw [cut_fr (by omega)]
    have u1 := Same.upd_new hp1 (HO.lst (xs.drop t))
    have g1 : upd H p1 (HO.lst (xs.drop t)) p1 = some (.lst (xs.drop t)) := upd_same
    generalize upd H p1 (HO.lst (xs.drop t)) = H1 at *
    refine ⟨xs, .of (u1 _ _ hl), fun p2 hp2 => ?_⟩
    rw [cut_to (by omega)]
    have u2 := Same.upd_new hp2 (HO.lst (xs.take t))
    have g2 : upd H1 p2 (HO.lst (xs.take t)) p2 = some (.lst (xs.take t)) := upd_same
    have g1' := u2 _ _ g1
    have s2 := u1.trans u2
    generalize upd H1 p2 (HO.lst (xs.take t)) = H2 at *
    have ll : (xs.drop t).length + (xs.take t).length = xs.length := by rw [List.length_drop, List.length_take]; omega
    refine ⟨p1, p2, _, _, rfl, rfl, g1', g2, by rw [ll]; exact small_line (by omega), fun p3 hp3 => ?_⟩
    have hz2 := hz.mono s2
    have hz3 : ArcsV H2 (xs.drop t ++ xs.take t) (as.drop t ++ as.take t) := All2.append (all2_drop hz2 t) (all2_take hz2 t)
    dsimp only
    by_cases c : n % 2 = 1
    · rw [if_pos c]
      refine ⟨.inl ⟨rfl, _, .of upd_same⟩, p3, _, rfl, rfl, upd_same, ?_⟩
      rw [upd_upd]
      exact k _ p3 _ t true (s2.new hp3 _) upd_same (arcs_monoT ((TSame.refl _).new hp3) (all2_reverse hz3))
    · rw [if_neg c]
      exact k _ p3 _ t false (s2.new hp3 _) upd_same (arcs_monoT ((TSame.refl _).new hp3) hz3)
noncomputable def sp_l_wholes (K : PySem.W.Frag) : Sp := fun vs H Q _ => ∃ (l : Addr) (zs : List Int), vs = [.ref l] ∧ H l = some (.lst (zs.map V.int)) ∧ zs.length ≤ 1000 ∧ ∀ H', Same H H' → Q (.bl true) H'
theorem ok_l_wholes (T : Txt K mg f fd) : FnOk P w K mg base CX0 1 (f 18) (fd 18) ["_law_found"] (sp_l_wholes K) := by
  refine T.d_l_wholes.F.ok sc_l_wholes (fun vs H Q E h => ?_) (fun cdv A outer s H vs Q E hr h => ?_)
  · obtain ⟨l, zs, rfl, _⟩ := h
    rfl
  · obtain ⟨l, zs, rfl, hl, hz, k⟩ := h
    refine ⟨_, (pss_cons (ps_if (pt_not (pt_val (pe_cB (k_isP rfl) T.n_isinstance bt_isinstance rfl (by decide) (by decide) rfl (pal rfl (pvl 0) (pal rfl (pty T.n_list bt_list) pa_nil)))))
     (pss_one (ps_ret pe_bl))
     pss_nil)
     (pss_one (ps_ret (pe_cB (k_all rfl rfl) T.n_all bt_all rfl (by decide) (by decide) rfl (pal rfl (pe_comp ["_law_number"] ["_law_found"] rfl (show CompSc _ (defScope s_l_wholes) ["_law_found"] ["_law_found"] from compOk_is (by decide +kernel)) (k_piL rfl (pvl 0)) (fun _ _ _ _ _ => (pgl 0 (show (["_law_number", "_law_found"] : List Str).Nodup by decide +kernel))) (fun _ _ _ _ _ => pts_nil) (fun _ _ _ _ _ => (pe_and (pe_cB (k_isP rfl) T.n_isinstance bt_isinstance rfl (by decide) (by decide) rfl (pal rfl (pvl 0) (pal rfl (pty T.n_int bt_int) pa_nil))) (pe_one (pe_not (pe_cB (k_isP rfl) T.n_isinstance bt_isinstance rfl (by decide) (by decide) rfl (pal rfl (pvl 0) (pal rfl (pty T.n_bool bt_bool) pa_nil)))))))) pa_nil))))), ?_⟩
    walk_at "dl"
    refine ⟨_, Pl.of_lst hl, by decide, ?_⟩
    rw [show isiN "list" "list" = true from rfl, if_neg (by decide)]
    refine ⟨⟨_, .of hl⟩, ?_⟩
    refine comp_of (as := zs) (g := V.int) walk_list (small_line (by omega)) (fun H' q => .of (q _ _ hl)) (fun _ => true) (fun _ => V.bl true) (fun n H1 Q' _ s1 q => ?_) (fun n H1 Q' _ _ s1 q => ?_) (fun H1 s1 D hD => ?_)
    · exact q H1 (Same.refl _)
    · walk_at "dl"
      refine ⟨_, Pl.of_int, by decide, ?_⟩
      rw [show isiN "int" "int" = true from rfl, if_pos rfl]
      refine ⟨_, Pl.of_int, by decide, ?_⟩
      rw [show isiN "int" "bool" = false from rfl]
      exact q H1 (Same.refl _)
    · have eb : ((zs.filter fun _ => true).map fun _ => V.bl true) = ((zs.map fun _ => true).map V.bl) := by
        rw [List.filter_eq_self.mpr (fun _ _ => rfl), List.map_map]
        rfl
      rw [eb]
      refine ⟨_, .of upd_same, ?_⟩
      rw [show (zs.map fun _ => true).all id = true by simp]
      exact k _ (s1.new hD _)
noncomputable def sp_l_is_flow (K : PySem.W.Frag) : Sp := fun vs H Q _ => ∃ (m : Nat) (la lf : Addr) (xs : List V) (as : List Arc) (fl : List Int), vs = [.int m, .ref la, .ref lf] ∧ NetAt H la lf xs m as fl ∧ Flow as fl ∧ ∀ H', Same H H' → Q (.bl true) H'
theorem ok_l_is_flow (T : Txt K mg f fd) : FnOk P w K mg base CX0 2 (f 19) (fd 19) ["_law_nodes", "_law_arcs", "_law_flow"] (sp_l_is_flow K) := by
  refine T.d_l_is_flow.F.ok sc_l_is_flow (fun vs H Q E h => ?_) (fun cdv A outer s H vs Q E hr h => ?_)
  · obtain ⟨m, la, lf, xs, as, fl, rfl, _⟩ := h
    rfl
  · obtain ⟨m, la, lf, xs, as, fl, rfl, N, F, k⟩ := h
    refine ⟨_, (pss_cons (ps_if (PW.pt (pw_or (pt_not (pt_val (pe_defL T.d_l_wholes (ok_l_wholes T) (hr.mono (by decide)) rfl (by decide) rfl (pal rfl (pvl 2) pa_nil)))) (pw_or1 (pt_cmpR op_ne (pe_cB (k_len rfl) T.n_len bt_len rfl (by decide) (by decide) rfl (pal rfl (pvl 2) pa_nil)) (pe_cB (k_len rfl) T.n_len bt_len rfl (by decide) (by decide) rfl (pal rfl (pvl 1) pa_nil)) (nomark _)))))
     (pss_one (ps_ret pe_bl))
     pss_nil)
     (pss_cons (psl 3 sc_l_is_flow.nd (pe_op op_rep (pe_lst (pal rfl pe_int pa_nil)) (pvl 0)))
     (pss_cons (ps_for PassesOwn.never rfl (pi_range1 rfl T.n_range (pal rfl (pe_cB (k_len rfl) T.n_len bt_len rfl (by decide) (by decide) rfl (pal rfl (pvl 1) pa_nil)) pa_nil)) (pgl 4 sc_l_is_flow.nd)
     (pss_cons (ps_if (PW.pt (pw_or (pt_cmpR op_lt (pe_ix (k_ixL rfl) (pvl 2) (pvl 4) (fun _ _ => rfl)) (pe_ix (k_ixT rfl) (pe_ix (k_ixL rfl) (pvl 1) (pvl 4) (fun _ _ => rfl)) pe_int (fun _ _ => rfl)) (nomark _)) (pw_or1 (pt_cmpR op_gt (pe_ix (k_ixL rfl) (pvl 2) (pvl 4) (fun _ _ => rfl)) (pe_ix (k_ixT rfl) (pe_ix (k_ixL rfl) (pvl 1) (pvl 4) (fun _ _ => rfl)) pe_int (fun _ _ => rfl)) (nomark _)))))
     (pss_one (ps_ret pe_bl))
     pss_nil)
     (pss_cons (ps_asg (pe_op op_sub (pe_ix (k_ixL rfl) (pvl 3) (pe_ix (k_ixT rfl) (pe_ix (k_ixL rfl) (pvl 1) (pvl 4) (fun _ _ => rfl)) pe_int (fun _ _ => rfl)) (fun _ _ => rfl)) (pe_ix (k_ixL rfl) (pvl 2) (pvl 4) (fun _ _ => rfl))) (pg_sub (pvl 3) (pe_ix (k_ixT rfl) (pe_ix (k_ixL rfl) (pvl 1) (pvl 4) (fun _ _ => rfl)) pe_int (fun _ _ => rfl)) set_list))
     (pss_one (ps_asg (pe_op op_add (pe_ix (k_ixL rfl) (pvl 3) (pe_ix (k_ixT rfl) (pe_ix (k_ixL rfl) (pvl 1) (pvl 4) (fun _ _ => rfl)) pe_int (fun _ _ => rfl)) (fun _ _ => rfl)) (pe_ix (k_ixL rfl) (pvl 2) (pvl 4) (fun _ _ => rfl))) (pg_sub (pvl 3) (pe_ix (k_ixT rfl) (pe_ix (k_ixL rfl) (pvl 1) (pvl 4) (fun _ _ => rfl)) pe_int (fun _ _ => rfl)) set_list))))))
     (pss_one (ps_ret (pe_cmpR (k_eqD rfl hr.units) (pvl 3) (pe_op op_rep (pe_lst (pal rfl pe_int pa_nil)) (pvl 0)) (nomark _))))))), ?_⟩
    walk_at "dl"
    have hl := F.len
    have hxl := N.arcs.1
    have hlen := N.len
    have hm2 := N.m2
    refine ⟨lf, fl, rfl, N.lf, by omega, fun H1 s1 => ⟨true, rfl, ?_⟩⟩
    rw [if_neg (by decide)]
    refine ⟨_, .inl (.of (s1 _ _ N.lf)), _, .inl (.of (s1 _ _ N.la)), ?_⟩
    rw [List.length_map, hxl, hl, if_neg (by simp)]
    refine ⟨small_line (by decide), fun p0 hp0 => ?_⟩
    have u0 := Same.upd_new hp0 (HO.lst [V.int 0])
    have g0 : upd H1 p0 (HO.lst [V.int 0]) p0 = some (.lst [V.int 0]) := upd_same
    have s2 := s1.trans u0
    generalize upd H1 p0 (HO.lst [V.int 0]) = H2 at *
    refine ⟨p0, (m : Int), [V.int 0], rfl, rfl, g0, by omega, by omega, by rw [Int.toNat_natCast]; exact small_line (by simp; omega), fun p hp => ?_⟩
    rw [Int.toNat_natCast, rep_zero]
    have hpH : H p = none := s2.free hp
    have s3 := s2.new hp (HO.lst ((List.replicate m (0 : Int)).map V.int))
    have g3 : upd H2 p (HO.lst ((List.replicate m (0 : Int)).map V.int)) p = some (.lst ((List.replicate m (0 : Int)).map V.int)) := upd_same
    generalize upd H2 p (HO.lst ((List.replicate m (0 : Int)).map V.int)) = H3 at *
    refine for_in ?_
    walk_at "dl"
    refine ⟨_, .inl (.of (s3 _ _ N.la)), by omega, by omega, ?_⟩
    rw [Int.toNat_natCast]
    refine ForW.of walk_range (fun i σ H' => (∃ v4, σ = [some (V.int (m : Int)), some (V.ref la), some (V.ref lf), some (V.ref p), v4]) ∧ Same H H' ∧ H' p = some (.lst ((gainsF m as fl i).map V.int))) ⟨⟨none, rfl⟩, s3, g3⟩ (fun _ _ _ _ _ => trivial) ?_ ?_
    · rintro i x σ H4 hx ⟨⟨v4, rfl⟩, s4, g4⟩
      obtain ⟨hi, rfl⟩ := range_item hx
      obtain ⟨A, hA⟩ : ∃ A, as[i]? = some A := ⟨_, List.getElem?_eq_getElem (by omega)⟩
      obtain ⟨y, hy, yl, yu⟩ := All2.at F.bnd hA
      obtain ⟨xa, hxa, pa, rfl, hpa⟩ := All2.at' N.arcs hA
      have hya : atI (fl.map V.int) (0 + (i : Int)) = some (V.int y) := by rw [Int.zero_add]; exact atI_nat (by rw [List.getElem?_map, hy]; rfl)
      have hxa' : atI xs (0 + (i : Int)) = some (V.ref pa) := by rw [Int.zero_add]; exact atI_nat hxa
      have hpa4 := s4 _ _ hpa
      unfold Arc.vs at hpa4
      generalize hB : tSeq (tAsg _ (gSub _ _ _)) _ = B
      walk_at "dl"
      refine ⟨lf, _, _, _, rfl, rfl, .of (s4 _ _ N.lf), hya, la, _, _, _, rfl, rfl, .of (s4 _ _ N.la), hxa', pa, _, _, _, rfl, rfl, .of hpa4, atI_nat (j := 2) rfl, _, rfl, _, rfl, ?_⟩
      rw [if_neg (by omega)]
      refine ⟨lf, _, _, _, rfl, rfl, .of (s4 _ _ N.lf), hya, la, _, _, _, rfl, rfl, .of (s4 _ _ N.la), hxa', pa, _, _, _, rfl, rfl, .of hpa4, atI_nat (j := 3) rfl, _, rfl, _, rfl, ?_⟩
      rw [if_neg (by omega)]
      subst hB
      walk_at "dl"
      obtain ⟨i1, i2, i3, i4⟩ := (N.ok A (List.mem_of_getElem? hA)).inn
      have eG : gainsF m as fl (i + 1) = stepG (gainsF m as fl i) A y := by
        show stepG (gainsF m as fl i) (as.getD i default) (fl.getD i 0) = _
        rw [getD_of hA, getD_of hy]
      have lG := gainsF_len m as fl i
      rw [eG]
      generalize gainsF m as fl i = G at *
      obtain ⟨aa, ab, al, au⟩ := A
      simp only at i1 i2 i3 i4 hpa4
      obtain ⟨na, rfl⟩ : ∃ na : Nat, aa = (na : Int) := ⟨aa.toNat, by omega⟩
      obtain ⟨nb, rfl⟩ : ∃ nb : Nat, ab = (nb : Int) := ⟨ab.toNat, by omega⟩
      have ha : na < G.length := by omega
      have ea : G.getD na 0 = G[na] := getD_of (List.getElem?_eq_getElem ha)
      have hb : nb < (G.set na (G[na] - y)).length := by rw [List.length_set]; omega
      have eb : (G.set na (G[na] - y)).getD nb 0 = (G.set na (G[na] - y))[nb] := getD_of (List.getElem?_eq_getElem hb)
      have npa : pa ≠ p := fun e => by rw [e, g4] at hpa4; cases hpa4
      refine ⟨la, _, _, _, rfl, rfl, .of (s4 _ _ N.la), hxa', pa, _, _, _, rfl, rfl, .of hpa4, atI_nat (j := 0) rfl, p, _, _, V.int G[na], rfl, rfl, .of g4, atI_nat (by rw [List.getElem?_map, List.getElem?_eq_getElem ha]; rfl), lf, _, _, _, rfl, rfl, .of (s4 _ _ N.lf), hya, _, rfl, _, rfl, la, _, _, _, rfl, rfl, .of (s4 _ _ N.la), hxa', pa, _, _, _, rfl, rfl, .of hpa4, atI_nat (j := 0) rfl, p, _, _, na, rfl, rfl, g4, ixN_nat (by rw [List.length_map]; exact ha), ?_⟩
      rw [map_set_int]
      have s5 := s4.set hpH (HO.lst ((G.set na (G[na] - y)).map V.int))
      have g5 : upd H4 p (HO.lst ((G.set na (G[na] - y)).map V.int)) p = some (.lst ((G.set na (G[na] - y)).map V.int)) := upd_same
      have hpa5 : upd H4 p (HO.lst ((G.set na (G[na] - y)).map V.int)) pa = _ := (upd_ne npa).trans hpa4
      generalize upd H4 p (HO.lst ((G.set na (G[na] - y)).map V.int)) = H5 at *
      refine ⟨la, _, _, _, rfl, rfl, .of (s5 _ _ N.la), hxa', pa, _, _, _, rfl, rfl, .of hpa5, atI_nat (j := 1) rfl, p, _, _, V.int (G.set na (G[na] - y))[nb], rfl, rfl, .of g5, atI_nat (by rw [List.getElem?_map, List.getElem?_eq_getElem hb]; rfl), lf, _, _, _, rfl, rfl, .of (s5 _ _ N.lf), hya, _, rfl, _, rfl, la, _, _, _, rfl, rfl, .of (s5 _ _ N.la), hxa', pa, _, _, _, rfl, rfl, .of hpa5, atI_nat (j := 1) rfl, p, _, _, nb, rfl, rfl, g5, ixN_nat (by rw [List.length_map]; exact hb), ⟨_, rfl⟩, s5.set hpH _, ?_⟩
      rw [upd_same, map_set_int]
      unfold stepG
      simp only [Int.toNat_natCast, ea, eb]
    · rintro σ H4 ⟨⟨v4, rfl⟩, s4, g4⟩
      rw [rangeV_len, hxl, gains_ex (fun A hA => (N.ok A hA).inn) hl _ (Nat.le_refl _), List.take_of_length_le (Nat.le_refl _), List.take_of_length_le (Nat.le_of_eq hl), show (fun n : Nat => exF as fl (n : Int)) = fun _ => (0 : Int) from funext fun n => F.ex n, List.map_const', List.length_range] at g4
      walk_at "dl"
      refine ⟨small_line (by decide), fun p5 hp5 => ?_⟩
      have u5 := Same.upd_new hp5 (HO.lst [V.int 0])
      have g5 : upd H4 p5 (HO.lst [V.int 0]) p5 = some (.lst [V.int 0]) := upd_same
      generalize upd H4 p5 (HO.lst [V.int 0]) = H5 at *
      refine ⟨p5, (m : Int), [V.int 0], rfl, rfl, g5, by omega, by omega, by rw [Int.toNat_natCast]; exact small_line (by simp; omega), fun p6 hp6 => ?_⟩
      rw [Int.toNat_natCast, rep_zero]
      have u6 := Same.upd_new hp6 (HO.lst ((List.replicate m (0 : Int)).map V.int))
      refine eqI_of (u6 _ _ (u5 _ _ g4)) upd_same ?_
      rw [if_neg (by decide), decide_eq_true rfl]
      exact k _ ((s4.trans u5).trans u6)
theorem natIn_of {H : Hp} {a : Addr} {i : Int} {zs : List Nat} {neg : Bool} {Q : VK} (ha : H a = some (.lst (zs.map natV))) (q : Q (.bl (if neg then !decide (i ∈ natsI zs) else decide (i ∈ natsI zs))) H) : rInD K neg (.int i) (.ref a) H Q := by
  obtain ⟨r1, r2, r3⟩ := ints_reps (K := K) (H := H) (natsI zs)
  refine ⟨.int i, (natsI zs).map .int, by simp [Rep], by rw [Rep]; exact ⟨a, _, rfl, .of (by rw [← natV_ints]; exact ha), r1⟩, by simp [SeqAt.shaped, PyData.canLay0, PyData.depth], ?_, ?_⟩
  · unfold SeqAt.shaped
    simp only [PyData.canLay0, PyData.depth, r2, Bool.true_and]
    exact decide_eq_true (by omega)
  · have e : ((natsI zs).map PyData.int).any (fun e => PyData.eqv e (.int i)) = decide (i ∈ natsI zs) := by
      rw [List.any_map, Bool.eq_iff_iff, List.any_eq_true, decide_eq_true_iff]
      constructor
      · rintro ⟨z, hz, e⟩
        have e' : z = i := by simpa [PyData.eqv] using e
        exact e' ▸ hz
      · intro h
        exact ⟨i, h, by simp [PyData.eqv]⟩
    rw [e]
    exact q
noncomputable def val (g : Bool) (A : Arc) : Int := if g then A.u else A.l
noncomputable def ovN (as : List Arc) (vs : List Int) (k : Nat) (g into : Bool) : Nat → Int
  | 0 => 0
  | n + 1 => ovN as vs k g into n + (if n ≠ k ∧ decide ((as.getD n default).a ∈ vs) ≠ decide ((as.getD n default).b ∈ vs) ∧ decide ((as.getD n default).b ∈ vs) = into then val g (as.getD n default) else 0)
theorem ov_c {as : List Arc} {vs : List Int} {k : Nat} : ∀ n, ovN as vs k false true n - ovN as vs k true false n = cN as vs k n
  | 0 => rfl
  | n + 1 => by
    have ih := ov_c (as := as) (vs := vs) (k := k) n
    show ovN as vs k false true n + (if n ≠ k ∧ decide ((as.getD n default).a ∈ vs) ≠ decide ((as.getD n default).b ∈ vs) ∧ decide ((as.getD n default).b ∈ vs) = true then val false (as.getD n default) else 0) - (ovN as vs k true false n + (if n ≠ k ∧ decide ((as.getD n default).a ∈ vs) ≠ decide ((as.getD n default).b ∈ vs) ∧ decide ((as.getD n default).b ∈ vs) = false then val true (as.getD n default) else 0)) = cN as vs k n + (if n = k then 0 else cA vs (as.getD n default))
    generalize as.getD n default = A
    by_cases e : n = k
    · rw [if_neg (fun z => z.1 e), if_neg (fun z => z.1 e), if_pos e]
      omega
    · rw [if_neg e]
      have key : (if n ≠ k ∧ decide (A.a ∈ vs) ≠ decide (A.b ∈ vs) ∧ decide (A.b ∈ vs) = true then val false A else 0) - (if n ≠ k ∧ decide (A.a ∈ vs) ≠ decide (A.b ∈ vs) ∧ decide (A.b ∈ vs) = false then val true A else 0) = cA vs A := by
        unfold cA val
        by_cases a : A.a ∈ vs <;> by_cases b : A.b ∈ vs <;> simp [e, a, b]
      omega
theorem rise_eq : ∀ {a b : List Int}, a.Pairwise (· < ·) → b.Pairwise (· < ·) → (∀ k, k ∈ a ↔ k ∈ b) → a = b
  | [], [], _, _, _ => rfl
  | [], y :: b, _, _, h => absurd ((h y).mpr List.mem_cons_self) (by simp)
  | x :: a, [], _, _, h => absurd ((h x).mp List.mem_cons_self) (by simp)
  | x :: a, y :: b, ha, hb, h => by
    obtain ⟨a1, a2⟩ := List.pairwise_cons.mp ha
    obtain ⟨b1, b2⟩ := List.pairwise_cons.mp hb
    have e : x = y := by
      rcases List.mem_cons.mp ((h x).mp List.mem_cons_self) with z | z
      · exact z
      · rcases List.mem_cons.mp ((h y).mpr List.mem_cons_self) with w | w
        · exact w.symm
        · have := b1 x z
          have := a1 y w
          omega
    subst e
    rw [rise_eq a2 b2 fun k => ⟨fun hk => ?_, fun hk => ?_⟩]
    · rcases List.mem_cons.mp ((h k).mp (List.mem_cons_of_mem _ hk)) with z | z
      · have := a1 k hk; omega
      · exact z
    · rcases List.mem_cons.mp ((h k).mpr (List.mem_cons_of_mem _ hk)) with z | z
      · have := b1 k hk; omega
      · exact z
theorem cN_nil {as : List Arc} {k : Nat} : ∀ n, cN as [] k n = 0
  | 0 => rfl
  | n + 1 => by
    show cN as [] k n + (if n = k then 0 else cA [] (as.getD n default)) = 0
    rw [cN_nil n]
    unfold cA
    simp
theorem ov_out {as : List Arc} {vs : List Int} {i : Nat} {A : Arc} (hi : i < as.length) (hA : as[i]? = some A) (c1 : A.a ∈ vs) (c2 : A.b ∉ vs) : ovN as vs as.length true false (i + 1) = ovN as vs as.length true false i + A.u := by
  show ovN as vs as.length true false i + _ = _
  rw [getD_of hA, if_pos ⟨by omega, by simp [c1, c2], by simp [c2]⟩]
  rfl
theorem ov_into {as : List Arc} {vs : List Int} {i : Nat} {A : Arc} (hi : i < as.length) (hA : as[i]? = some A) (c1 : A.b ∈ vs) (c2 : A.a ∉ vs) : ovN as vs as.length false true (i + 1) = ovN as vs as.length false true i + A.l := by
  show ovN as vs as.length false true i + _ = _
  rw [getD_of hA, if_pos ⟨by omega, by simp [c1, c2], by simp [c1]⟩]
  rfl
theorem ov_no {as : List Arc} {vs : List Int} {i : Nat} {A : Arc} {g into : Bool} (hA : as[i]? = some A) (h : ¬ (decide (A.a ∈ vs) = !into ∧ decide (A.b ∈ vs) = into)) : ovN as vs as.length g into (i + 1) = ovN as vs as.length g into i := by
  show ovN as vs as.length g into i + _ = _
  rw [getD_of hA, if_neg fun ⟨_, z1, z2⟩ => h ⟨by rw [z2] at z1; cases into <;> simpa using z1, z2⟩]
  omega
noncomputable def sp_l_is_cut (K : PySem.W.Frag) : Sp := fun vs H Q _ => ∃ (m : Nat) (la ls : Addr) (xs : List V) (as : List Arc) (ns : List Nat), vs = [.int m, .ref la, .ref ls] ∧ NetA H la xs m as ∧ H ls = some (.lst (ns.map natV)) ∧ CutOk m as ns ∧ ∀ H', Same H H' → Q (.bl true) H'
theorem ok_l_is_cut (T : Txt K mg f fd) : FnOk P w K mg base CX0 2 (f 20) (fd 20) ["_law_nodes", "_law_arcs", "_law_some"] (sp_l_is_cut K) := by
  refine T.d_l_is_cut.F.ok sc_l_is_cut (fun vs H Q E h => ?_) (fun cdv A outer s H vs Q E hr h => ?_)
  · obtain ⟨m, la, ls, xs, as, ns, rfl, _⟩ := h
    rfl
  · obtain ⟨m, la, ls, xs, as, ns, rfl, N, hls, C, k⟩ := h
    refine ⟨_, (pss_cons (ps_if (PW.pt (pw_or (pt_not (pt_val (pe_defL T.d_l_wholes (ok_l_wholes T) (hr.mono (by decide)) rfl (by decide) rfl (pal rfl (pvc 2) pa_nil)))) (pw_or (pt_cmpR (k_neD rfl hr.units) (pe_sortSetB rfl rfl T.n_sorted T.n_set rfl rfl rfl (pvc 2)) (pvc 2) (nomark _)) (pw_or1 (pt_cmpR op_eq (pe_cB (k_len rfl) T.n_len bt_len rfl (by decide) (by decide) rfl (pal rfl (pvc 2) pa_nil)) pe_int (nomark _))))))
     (pss_one (ps_ret pe_bl))
     pss_nil)
     (pss_cons (ps_if (PW.pt (pw_or (pt_cmpR op_lt (pe_ix (k_ixL rfl) (pvc 2) pe_int (fun _ _ => rfl)) pe_int (nomark _)) (pw_or1 (pt_cmpR op_ge (pe_ix (k_ixL rfl) (pvc 2) (pe_un un_neg pe_int) (fun _ _ => rfl)) (pvl 0) (nomark _)))))
     (pss_one (ps_ret pe_bl))
     pss_nil)
     (pss_cons (psl 3 sc_l_is_cut.nd (pe_cB (k_sumI rfl rfl) T.n_sum bt_sum rfl (by decide) (by decide) rfl (pal rfl (pe_comp ["_law_arc"] ["_law_nodes", "_law_arcs", "_law_some", "_law_out"] rfl (show CompSc _ (defScope s_l_is_cut) ["_law_nodes", "_law_arcs", "_law_some", "_law_out"] ["_law_nodes", "_law_arcs", "_law_some", "_law_out"] from compOk_is (by decide +kernel)) (k_piL rfl (pvl 1)) (fun _ _ _ _ _ => (pgl 0 (show (["_law_arc", "_law_nodes", "_law_arcs", "_law_some", "_law_out"] : List Str).Nodup by decide +kernel))) (fun _ _ _ _ _ => (pts_one (PW.pt (pw_and (pt_cmpR (k_inD rfl hr.units) (pe_ix (k_ixT rfl) (pvl 0) pe_int (fun _ _ => rfl)) (pvc 3) rfl) (pw_and1 (pt_cmpR (k_notInD rfl hr.units) (pe_ix (k_ixT rfl) (pvl 0) pe_int (fun _ _ => rfl)) (pvc 3) rfl)))))) (fun _ _ _ _ _ => (pe_ix (k_ixT rfl) (pvl 0) pe_int (fun _ _ => rfl)))) pa_nil)))
     (pss_one (ps_ret (pe_cmpR op_lt (pvl 3) (pe_cB (k_sumI rfl rfl) T.n_sum bt_sum rfl (by decide) (by decide) rfl (pal rfl (pe_comp ["_law_arc"] ["_law_nodes", "_law_arcs", "_law_some", "_law_out"] rfl (show CompSc _ (defScope s_l_is_cut) ["_law_nodes", "_law_arcs", "_law_some", "_law_out"] ["_law_nodes", "_law_arcs", "_law_some", "_law_out"] from compOk_is (by decide +kernel)) (k_piL rfl (pvl 1)) (fun _ _ _ _ _ => (pgl 0 (show (["_law_arc", "_law_nodes", "_law_arcs", "_law_some", "_law_out"] : List Str).Nodup by decide +kernel))) (fun _ _ _ _ _ => (pts_one (PW.pt (pw_and (pt_cmpR (k_inD rfl hr.units) (pe_ix (k_ixT rfl) (pvl 0) pe_int (fun _ _ => rfl)) (pvc 3) rfl) (pw_and1 (pt_cmpR (k_notInD rfl hr.units) (pe_ix (k_ixT rfl) (pvl 0) pe_int (fun _ _ => rfl)) (pvc 3) rfl)))))) (fun _ _ _ _ _ => (pe_ix (k_ixT rfl) (pvl 0) pe_int (fun _ _ => rfl)))) pa_nil)) (nomark _))))))), ?_⟩
    generalize hB : tSeq (tAsg _ (gName 3)) _ = B
    walk_at "dl"
    have hm2 := N.m2
    have lns : ns.length ≤ m := nodup_le m ns (C.so.imp fun h => Nat.ne_of_lt h) C.lt
    refine ⟨ls, natsI ns, rfl, by rw [← natV_ints]; exact hls, by rw [List.length_map]; omega, fun H1 s1 => ⟨true, rfl, ?_⟩⟩
    rw [if_neg (by decide)]
    have hls1 := s1 _ _ hls
    refine ⟨natsI ns, .of (by rw [← natV_ints]; exact hls1), by rw [List.length_map]; omega, fun D ms hD hms hmem _ => ?_⟩
    have em : ms = natsI ns := rise_eq hms (List.pairwise_map.mpr (C.so.imp fun h => by omega)) hmem
    rw [em]
    have u6 := Same.upd_new hD (HO.lst ((natsI ns).map V.int))
    have hls6 := u6 _ _ hls1
    refine eqI_of (x := natsI ns) (y := natsI ns) upd_same (by have h3 := hls6; rw [natV_ints] at h3; exact h3) ⟨_, rfl, ?_⟩
    rw [if_neg (by simp)]
    have s6 := s1.trans u6
    generalize upd H1 D (HO.lst ((natsI ns).map V.int)) = H6 at *
    have e2 : ns ≠ [] := fun z => by
      have := C.pos
      rw [z, show natsI [] = [] from rfl, cN_nil] at this
      omega
    obtain ⟨w, hw⟩ : ∃ w, (ns.map natV)[0]? = some (natV w) := by
      cases ns with
      | nil => exact absurd rfl e2
      | cons w r => exact ⟨w, rfl⟩
    obtain ⟨z, hzm, hz⟩ : ∃ z, z ∈ ns ∧ atI (ns.map natV) (-1) = some (natV z) := by
      rcases List.eq_nil_or_concat ns with e | ⟨ys, z, e⟩
      · exact absurd e e2
      · exact ⟨z, by rw [e]; simp, by rw [e, List.concat_eq_append, List.map_append]; exact atI_last _ _⟩
    refine ⟨_, .inl (.of hls6), ?_⟩
    rw [if_neg (by cases ns with | nil => exact absurd rfl e2 | cons => simp; omega)]
    refine ⟨ls, _, _, natV w, rfl, rfl, .of hls6, atI_nat (j := 0) hw, _, rfl, ?_⟩
    rw [if_neg (by omega)]
    refine ⟨ls, _, _, natV z, rfl, rfl, .of hls6, hz, _, rfl, ?_⟩
    have hzl := C.lt z hzm
    rw [if_neg (by omega)]
    have hla6 := s6 _ _ N.la
    have A6 := N.arcs.mono s6
    have hxl := N.arcs.1
    have hlen := N.len
    clear hz hw hzm hD em hms hmem u6
    subst hB
    generalize hB : tRet _ = B
    walk_at "dl"
    refine ⟨⟨_, .of hla6⟩, ?_⟩
    refine comp_walk walk_list (by rw [hxl]; exact small_line (by omega)) (fun i ys H' => H' = H6 ∧ ∃ vals : List Int, ys = vals.map V.int ∧ vals.length ≤ i ∧ vals.foldl (· + ·) 0 = ovN as (natsI ns) as.length true false i) ⟨rfl, [], rfl, Nat.le_refl _, rfl⟩ (fun _ _ _ _ q => by rw [q.1]; exact .of hla6) (fun i ys H' q => by obtain ⟨_, vals, rfl, h, _⟩ := q; rw [List.length_map]; exact h) ?_ ?_
    · rintro i x ys H7 hx ⟨rfl, vals, rfl, hv, hf⟩
      obtain ⟨A, hAi, pa, rfl, hpa⟩ := All2.at A6 hx
      unfold Arc.vs at hpa
      have hi := (List.getElem?_eq_some_iff.mp hAi).1
      walk_at "dl"
      refine ⟨pa, _, _, _, rfl, rfl, .of hpa, atI_nat (j := 0) rfl, natIn_of hls6 ⟨_, rfl, ?_⟩⟩
      simp only [Bool.false_eq_true, if_false]
      by_cases c1 : A.a ∈ natsI ns
      · rw [if_pos (decide_eq_true c1)]
        refine ⟨pa, _, _, _, rfl, rfl, .of hpa, atI_nat (j := 1) rfl, natIn_of hls6 ⟨_, rfl, ?_⟩⟩
        by_cases c2 : A.b ∈ natsI ns
        · rw [if_neg (by simp [c2])]
          exact ⟨⟨_, rfl⟩, rfl, vals, rfl, by omega, by rw [ov_no hAi (by simp [c1, c2])]; exact hf⟩
        · rw [if_pos (by simp [c2])]
          refine ⟨pa, _, _, _, rfl, rfl, .of hpa, atI_nat (j := 3) rfl, ⟨_, rfl⟩, rfl, vals ++ [A.u], by simp, by simp; omega, ?_⟩
          rw [List.foldl_append, hf, ov_out hi hAi c1 c2]
          rfl
      · rw [if_neg (by simp [c1])]
        exact ⟨⟨_, rfl⟩, trivial, vals, rfl, by omega, by rw [ov_no hAi (by simp [c1])]; exact hf⟩
    rintro ys H7 ⟨rfl, vals, rfl, _, hf⟩ p7 hp7
    refine ⟨vals, .of upd_same, ?_⟩
    rw [hf, hxl]
    clear hf
    have u8 := Same.upd_new hp7 (HO.lst (vals.map V.int))
    have s8 := s6.trans u8
    have hla8 := u8 _ _ hla6
    have hls8 := u8 _ _ hls6
    have A8 := A6.mono u8
    generalize upd H7 p7 (HO.lst (vals.map V.int)) = H8 at *
    subst hB
    walk_at "dl"
    refine ⟨⟨_, .of hla8⟩, ?_⟩
    refine comp_walk walk_list (by rw [hxl]; exact small_line (by omega)) (fun i ys H' => H' = H8 ∧ ∃ vals : List Int, ys = vals.map V.int ∧ vals.length ≤ i ∧ vals.foldl (· + ·) 0 = ovN as (natsI ns) as.length false true i) ⟨rfl, [], rfl, Nat.le_refl _, rfl⟩ (fun _ _ _ _ q => by rw [q.1]; exact .of hla8) (fun i ys H' q => by obtain ⟨_, vals, rfl, h, _⟩ := q; rw [List.length_map]; exact h) ?_ ?_
    · rintro i x ys H9 hx ⟨rfl, vals, rfl, hv, hf⟩
      obtain ⟨A, hAi, pa, rfl, hpa⟩ := All2.at A8 hx
      unfold Arc.vs at hpa
      have hi := (List.getElem?_eq_some_iff.mp hAi).1
      walk_at "dl"
      refine ⟨pa, _, _, _, rfl, rfl, .of hpa, atI_nat (j := 1) rfl, natIn_of hls8 ⟨_, rfl, ?_⟩⟩
      simp only [Bool.false_eq_true, if_false]
      by_cases c1 : A.b ∈ natsI ns
      · rw [if_pos (decide_eq_true c1)]
        refine ⟨pa, _, _, _, rfl, rfl, .of hpa, atI_nat (j := 0) rfl, natIn_of hls8 ⟨_, rfl, ?_⟩⟩
        by_cases c2 : A.a ∈ natsI ns
        · rw [if_neg (by simp [c2])]
          exact ⟨⟨_, rfl⟩, rfl, vals, rfl, by omega, by rw [ov_no hAi (by simp [c1, c2])]; exact hf⟩
        · rw [if_pos (by simp [c2])]
          refine ⟨pa, _, _, _, rfl, rfl, .of hpa, atI_nat (j := 2) rfl, ⟨_, rfl⟩, rfl, vals ++ [A.l], by simp, by simp; omega, ?_⟩
          rw [List.foldl_append, hf, ov_into hi hAi c1 c2]
          rfl
      · rw [if_neg (by simp [c1])]
        exact ⟨⟨_, rfl⟩, trivial, vals, rfl, by omega, by rw [ov_no hAi (by simp [c1])]; exact hf⟩
    rintro ys H9 ⟨rfl, vals', rfl, _, hf⟩ p9 hp9
    refine ⟨vals', .of upd_same, ?_⟩
    have oc := ov_c (as := as) (vs := natsI ns) (k := as.length) as.length
    have pos := C.pos
    rw [hf, hxl, decide_eq_true (by omega)]
    exact k _ (s8.new hp9 _)
noncomputable def sp_l_right (K : PySem.W.Frag) : Sp := fun vs H Q _ => ∃ (m : Nat) (la t pl : Addr) (xs : List V) (as : List Arc) (g su : Bool) (zs : List Int), vs = [.int m, .ref la, .ref t, .bl su] ∧ NetA H la xs m as ∧ H t = some (.tup [.str (fcS g), .ref pl]) ∧ H pl = some (.lst (zs.map V.int)) ∧ FcR m as g zs ∧ (su = true → ∃ fl, Flow as fl) ∧ ∀ H', Same H H' → Q (.bl true) H'
theorem ok_l_right (T : Txt K mg f fd) : FnOk P w K mg base CX0 3 (f 21) (fd 21) ["_law_nodes", "_law_arcs", "_law_found", "_law_sure"] (sp_l_right K) := by
  refine T.d_l_right.F.ok sc_l_right (fun vs H Q E h => ?_) (fun cdv A outer s H vs Q E hr h => ?_)
  · obtain ⟨m, la, t, pl, xs, as, g, su, zs, rfl, _⟩ := h
    rfl
  · obtain ⟨m, la, t, pl, xs, as, g, su, zs, rfl, N, ht, hpl, R, hsu, k⟩ := h
    refine ⟨_, (pss_cons (ps_if (PW.pt (pw_or (pt_not (pt_val (pe_cB (k_isP rfl) T.n_isinstance bt_isinstance rfl (by decide) (by decide) rfl (pal rfl (pvl 2) (pal rfl (pty T.n_tuple bt_tuple) pa_nil))))) (pw_or1 (pt_cmpR op_ne (pe_cB (k_len rfl) T.n_len bt_len rfl (by decide) (by decide) rfl (pal rfl (pvl 2) pa_nil)) pe_int (nomark _)))))
     (pss_one (ps_ret pe_bl))
     pss_nil)
     (pss_cons (ps_if (pt_cmpR op_eq (pe_ix (k_ixT rfl) (pvl 2) pe_int (fun _ _ => rfl)) pe_str (nomark _))
     (pss_one (ps_ret (pe_defL T.d_l_is_flow (ok_l_is_flow T) (hr.mono (by decide)) rfl (by decide) rfl (pal rfl (pvl 0) (pal rfl (pvl 1) (pal rfl (pe_ix (k_ixT rfl) (pvl 2) pe_int (fun _ _ => rfl)) pa_nil))))))
     pss_nil)
     (pss_one (ps_ret (pe_and (pe_not (pvl 3)) (pe_and (pe_cmpR op_eq (pe_ix (k_ixT rfl) (pvl 2) pe_int (fun _ _ => rfl)) pe_str (nomark _)) (pe_one (pe_defL T.d_l_is_cut (ok_l_is_cut T) (hr.mono (by decide)) rfl (by decide) rfl (pal rfl (pvl 0) (pal rfl (pvl 1) (pal rfl (pe_ix (k_ixT rfl) (pvl 2) pe_int (fun _ _ => rfl)) pa_nil))))))))))), ?_⟩
    walk_at "dl"
    refine ⟨_, Pl.of_tup ht, by decide, ?_⟩
    rw [show isiN "tuple" "tuple" = true from rfl, if_neg (by decide)]
    refine ⟨_, .inr (.of ht), ?_⟩
    rw [if_neg (by simp)]
    refine ⟨t, _, _, _, rfl, rfl, .of ht, atI_nat (j := 0) rfl, rfl, ?_⟩
    cases g with
    | true =>
      have F := R.flow rfl
      have hl := F.len
      have hlen := N.len
      rw [if_pos (show V.str (fcS true) = V.str (Str.ofString "flow") from rfl)]
      exact ⟨t, _, _, _, rfl, rfl, .of ht, atI_nat (j := 1) rfl, m, la, pl, xs, as, zs, rfl, ⟨N.la, N.arcs, hpl, N.m1, N.m2, N.len, N.ok, by omega⟩, F, k⟩
    | false =>
      obtain ⟨ns, rfl, C⟩ := R.cut rfl
      rw [if_neg (by decide)]
      have es : su = false := by
        cases su with
        | false => rfl
        | true => exact absurd (no_cut (hsu rfl).choose_spec C) id
      subst es
      rw [if_pos (by decide)]
      refine ⟨t, _, _, _, rfl, rfl, .of ht, atI_nat (j := 0) rfl, rfl, ?_⟩
      rw [if_pos (show V.str (fcS false) = V.str (Str.ofString "cut") from rfl)]
      exact ⟨t, _, _, _, rfl, rfl, .of ht, atI_nat (j := 1) rfl, m, la, pl, xs, as, ns, rfl, N, by rw [natV_ints]; exact hpl, C, k⟩
noncomputable def arcD (A : Arc) : PyData := .tuple [.int A.a, .int A.b, .int A.l, .int A.u]
theorem arcs_reps {H : Hp} : ∀ {xs : List V} {as : List Arc}, ArcsV H xs as → Reps K H (as.map arcD) xs ∧ PyData.canLayAll0 (as.map arcD) = true ∧ PyData.depthAll (as.map arcD) ≤ 1 ∧ PyData.eqvAll (as.map arcD) (as.map arcD) = true
  | [], [], _ => by simp [Reps, PyData.canLayAll0, PyData.depthAll, PyData.eqvAll]
  | [], _ :: _, h => by have := h.1; simp at this
  | _ :: _, [], h => by have := h.1; simp at this
  | x :: xs, A :: as, h => by
    obtain ⟨⟨p, rfl, hp⟩, h2⟩ := All2.tail h
    obtain ⟨r1, r2, r3, r4⟩ := arcs_reps h2
    unfold Arc.vs at hp
    refine ⟨?_, ?_, ?_, ?_⟩
    · rw [List.map_cons, Reps]
      exact ⟨_, _, rfl, by unfold arcD; rw [Rep]; exact ⟨p, _, rfl, .of hp, by simp [Reps, Rep]⟩, r1⟩
    · simp [arcD, PyData.canLayAll0, PyData.canLay0, r2]
    · simp only [List.map_cons, arcD, PyData.depthAll, PyData.depth]
      omega
    · rw [List.map_cons, PyData.eqvAll, r4]
      simp [arcD, PyData.eqv, PyData.eqvAll]
theorem arcsEq_of {H : Hp} {p q : Addr} {xs ys : List V} {as : List Arc} {neg : Bool} {Q : VK} (hp : H p = some (.lst xs)) (hA : ArcsV H xs as) (hq : H q = some (.lst ys)) (hA' : ArcsV H ys as) (k : Q (.bl (!neg)) H) : rEqD K neg (.ref p) (.ref q) H Q := by
  obtain ⟨r1, r2, r3, r4⟩ := arcs_reps (K := K) hA
  obtain ⟨q1, _⟩ := arcs_reps (K := K) hA'
  have sh : SeqAt.shaped (.list (as.map arcD)) = true := by
    simp only [SeqAt.shaped, PyData.canLay0, PyData.depth, r2, Bool.true_and]
    exact decide_eq_true (by omega)
  refine ⟨.list (as.map arcD), .list (as.map arcD), by rw [Rep]; exact ⟨p, _, rfl, .of hp, r1⟩, by rw [Rep]; exact ⟨q, _, rfl, .of hq, q1⟩, sh, sh, ?_⟩
  have e : PyData.eqv (.list (as.map arcD)) (.list (as.map arcD)) = true := by simp only [PyData.eqv, r4]
  rw [e]
  cases neg <;> exact k
theorem arc_set {H : Hp} {p q : Addr} {ws : List V} {as : List Arc} {A : Arc} {i : Nat} (hp : H p = some (.lst ws)) (h : ArcsV H ws as) (hq : H q = none) : upd H q (.tup A.vs) p = some (.lst ws) ∧ ArcsV (upd (upd H q (.tup A.vs)) p (.lst (ws.set i (.ref q)))) (ws.set i (.ref q)) (as.set i A) := by
  have hp1 : upd H q (.tup A.vs) p = some (.lst ws) := Same.upd_new hq _ _ _ hp
  have ts : TSame H (upd (upd H q (.tup A.vs)) p (.lst (ws.set i (.ref q)))) := ((TSame.refl _).new hq).set hp1 (fun _ z => by cases z)
  have n2 : q ≠ p := fun e => by rw [e, hp] at hq; cases hq
  refine ⟨hp1, by rw [List.length_set, List.length_set]; exact h.1, fun j x B hx hB => ?_⟩
  by_cases e : i = j
  · subst e
    have h1 := (List.getElem?_eq_some_iff.mp hx).1
    have h2 := (List.getElem?_eq_some_iff.mp hB).1
    rw [List.length_set] at h1 h2
    rw [List.getElem?_set_self h1] at hx
    rw [List.getElem?_set_self h2] at hB
    cases hx
    cases hB
    exact ⟨q, rfl, by rw [upd_ne n2, upd_same]⟩
  · rw [List.getElem?_set_ne e] at hx hB
    exact (arcs_monoT ts h).2 j x B hx hB
theorem fc_len {m : Nat} {as : List Arc} {g : Bool} {zs : List Int} (R : FcR m as g zs) (hm : m ≤ 120) (hl : as.length ≤ 300) : zs.length ≤ 300 := by
  cases g with
  | true => rw [(R.flow rfl).len]; exact hl
  | false =>
    obtain ⟨ns, rfl, C⟩ := R.cut rfl
    have := nodup_le m ns (C.so.imp fun h => Nat.ne_of_lt h) C.lt
    rw [List.length_map]
    omega
noncomputable def sp_law (K : PySem.W.Frag) : Sp := fun vs H Q _ => ∃ (a : Addr) (ns : List Int), vs = [.ref a] ∧ SqL K H a (ns.map V.int) ∧ ns.length ≤ 63 ∧ ∀ H', Q (.bl true) H'
theorem ok_law (T : Txt K mg f fd) : FnOk P w K mg base CX0 7 (f 22) (fd 22) ["_law_script"] (sp_law K) := by
  refine T.d_law.F.ok sc_law (fun vs H Q E h => ?_) (fun cdv A outer s H vs Q E hr h => ?_)
  · obtain ⟨a, ns, rfl, _⟩ := h
    rfl
  · obtain ⟨a, ns, rfl, hs, hns, k⟩ := h
    refine ⟨_, (pss_cons (psl 1 sc_law.nd (pe_op op_add pe_int (pe_defL T.d_l_draw (ok_l_draw T) (hr.mono (by decide)) rfl (by decide) rfl (pal rfl (pvl 0) (pal rfl pe_int (pal rfl pe_int pa_nil))))))
     (pss_cons (ps_if (pt_cmpR op_eq (pe_op op_fdiv (pe_defL T.d_l_draw (ok_l_draw T) (hr.mono (by decide)) rfl (by decide) rfl (pal rfl (pvl 0) (pal rfl pe_int (pal rfl pe_int pa_nil)))) pe_int) pe_int (nomark _))
     (pss_one (psl 1 sc_law.nd pe_int))
     pss_nil)
     (pss_cons (psl 2 sc_law.nd (pe_cB (call_min2 rfl) T.n_min bt_min rfl (by decide) (by decide) rfl (pal rfl pe_int (pal rfl (pe_cB (call_max3 rfl) T.n_max bt_max rfl (by decide) (by decide) rfl (pal rfl pe_int (pal rfl (pe_op op_fdiv (pe_op op_sub (pe_cB (k_len rfl) T.n_len bt_len rfl (by decide) (by decide) rfl (pal rfl (pvl 0) pa_nil)) pe_int) pe_int) (pal rfl (pe_defL T.d_l_draw (ok_l_draw T) (hr.mono (by decide)) rfl (by decide) rfl (pal rfl (pvl 0) (pal rfl pe_int (pal rfl pe_int pa_nil)))) pa_nil)))) pa_nil))))
     (pss_cons (psl 3 sc_law.nd (pe_ix (k_ixL rfl) (pe_lst (pal rfl pe_int (pal rfl pe_int (pal rfl (pe_op op_pow pe_int pe_int) pa_nil)))) (pe_defL T.d_l_draw (ok_l_draw T) (hr.mono (by decide)) rfl (by decide) rfl (pal rfl (pvl 0) (pal rfl pe_int (pal rfl pe_int pa_nil)))) (fun _ _ => rfl)))
     (pss_cons (psl 4 sc_law.nd (pe_lst pa_nil))
     (pss_cons (psl 5 sc_law.nd (pe_cmpR op_eq (pe_defL T.d_l_draw (ok_l_draw T) (hr.mono (by decide)) rfl (by decide) rfl (pal rfl (pvl 0) (pal rfl pe_int (pal rfl pe_int pa_nil)))) pe_int (nomark _)))
     (pss_cons (ps_if (pt_cmpR op_eq (pe_op op_fdiv (pe_defL T.d_l_draw (ok_l_draw T) (hr.mono (by decide)) rfl (by decide) rfl (pal rfl (pvl 0) (pal rfl pe_int (pal rfl pe_int pa_nil)))) pe_int) pe_int (nomark _))
     (pss_cons (psl 1 sc_law.nd pe_int)
     (pss_cons (psl 2 sc_law.nd pe_int)
     (pss_one (psl 5 sc_law.nd pe_bl))))
     pss_nil)
     (pss_cons (ps_if (PW.pt (pw_and (pt_cmpR op_gt (pvl 1) pe_int (nomark _)) (pw_and1 (pt_val (pvl 5)))))
     (pss_one (psl 4 sc_law.nd (pe_defL T.d_l_round_arcs (ok_l_round_arcs T) (hr.mono (by decide)) rfl (by decide) rfl (pal rfl (pvl 0) (pal rfl (pvl 1) (pal rfl (pvl 2) (pal rfl (pvl 3) pa_nil)))))))
     (pss_one (ps_if (pt_cmpR op_gt (pvl 1) pe_int (nomark _))
     (pss_one (psl 4 sc_law.nd (pe_defL T.d_l_any_arcs (ok_l_any_arcs T) (hr.mono (by decide)) rfl (by decide) rfl (pal rfl (pvl 0) (pal rfl (pvl 1) (pal rfl (pvl 2) (pal rfl (pvl 3) pa_nil)))))))
     pss_nil)))
     (pss_cons (ps_if (PW.pt (pw_and (pt_val (pvl 5)) (pw_and (pt_cmpR op_gt (pe_cB (k_len rfl) T.n_len bt_len rfl (by decide) (by decide) rfl (pal rfl (pvl 4) pa_nil)) pe_int (nomark _)) (pw_and1 (pt_cmpR op_eq (pe_defL T.d_l_draw (ok_l_draw T) (hr.mono (by decide)) rfl (by decide) rfl (pal rfl (pvl 0) (pal rfl pe_int (pal rfl pe_int pa_nil)))) pe_int (nomark _))))))
     (pss_cons (psl 6 sc_law.nd (pe_defL T.d_l_draw (ok_l_draw T) (hr.mono (by decide)) rfl (by decide) rfl (pal rfl (pvl 0) (pal rfl pe_int (pal rfl (pe_cB (k_len rfl) T.n_len bt_len rfl (by decide) (by decide) rfl (pal rfl (pvl 4) pa_nil)) pa_nil)))))
     (pss_cons (ps_asg (pe_ix (k_ixL rfl) (pvl 4) (pvl 6) (fun _ _ => rfl)) (k_pgT rfl rfl (pgs_cons (pgl 7 sc_law.nd) (pgs_cons (pgl 8 sc_law.nd) (pgs_cons (pgl 9 sc_law.nd) (pgs_cons (pgl 10 sc_law.nd) pgs_nil))))))
     (pss_cons (ps_asg (pe_tup (pal rfl (pvl 7) (pal rfl (pvl 8) (pal rfl (pe_cB (call_min2 rfl) T.n_min bt_min rfl (by decide) (by decide) rfl (pal rfl (pvl 9) (pal rfl (pe_cB (call_max2 rfl) T.n_max bt_max rfl (by decide) (by decide) rfl (pal rfl pe_int (pal rfl (pe_op op_sub (pvl 10) pe_int) pa_nil))) pa_nil))) (pal rfl (pe_cB (call_max2 rfl) T.n_max bt_max rfl (by decide) (by decide) rfl (pal rfl pe_int (pal rfl (pe_op op_sub (pvl 10) pe_int) pa_nil))) pa_nil))))) (pg_sub (pvl 4) (pvl 6) set_list))
     (pss_one (psl 5 sc_law.nd pe_bl)))))
     pss_nil)
     (pss_cons (psl 4 sc_law.nd (pe_defL T.d_l_turned (ok_l_turned T) (hr.mono (by decide)) rfl (by decide) rfl (pal rfl (pvl 4) (pal rfl (pe_defL T.d_l_draw (ok_l_draw T) (hr.mono (by decide)) rfl (by decide) rfl (pal rfl (pvl 0) (pal rfl pe_int (pal rfl pe_int pa_nil)))) pa_nil))))
     (pss_cons (psl 11 sc_law.nd (pe_cTy (k_list rfl) T.n_list bt_list rfl (by decide) (by decide) rfl (pal rfl (pvl 4) pa_nil)))
     (pss_cons (psl 12 sc_law.nd (pe_defL T.d_flow_of (ok_flow_of T) (hr.mono (by decide)) rfl (by decide) rfl (pal rfl (pvl 1) (pal rfl (pvl 11) pa_nil))))
     (pss_cons (ps_if (PW.pt (pw_or (pt_cmpR (k_neD rfl hr.units) (pvl 11) (pvl 4) (nomark _)) (pw_or1 (pt_not (pt_val (pe_defL T.d_l_right (ok_l_right T) (hr.mono (by decide)) rfl (by decide) rfl (pal rfl (pvl 1) (pal rfl (pvl 4) (pal rfl (pvl 12) (pal rfl (pvl 5) pa_nil))))))))))
     (pss_one (ps_ret pe_bl))
     pss_nil)
     (pss_cons (ps_if (pt_cmpR op_gt (pe_cB (k_len rfl) T.n_len bt_len rfl (by decide) (by decide) rfl (pal rfl (pe_ix (k_ixT rfl) (pvl 12) pe_int (fun _ _ => rfl)) pa_nil)) pe_int (nomark _))
     (pss_one (ps_asg (pe_un un_neg pe_int) (pg_sub (pe_ix (k_ixT rfl) (pvl 12) pe_int (fun _ _ => rfl)) pe_int set_list)))
     pss_nil)
     (pss_cons (ps_expr (k_bmL rfl PySem.F.plainAttrs_list PySem.F.slot_list_append PySem.F.type_list_append mt_append rfl rfl rfl rfl (pe_ix (k_ixT rfl) (pvl 12) pe_int (fun _ _ => rfl)) (pal rfl pe_int pa_nil)))
     (pss_one (ps_ret (pe_and (pe_defL T.d_l_right (ok_l_right T) (hr.mono (by decide)) rfl (by decide) rfl (pal rfl (pvl 1) (pal rfl (pvl 4) (pal rfl (pe_defL T.d_flow_of (ok_flow_of T) (hr.mono (by decide)) rfl (by decide) rfl (pal rfl (pvl 1) (pal rfl (pvl 11) pa_nil))) (pal rfl (pvl 5) pa_nil))))) (pe_one (pe_cmpR (k_eqD rfl hr.units) (pvl 11) (pvl 4) (nomark _))))))))))))))))))))), ?_⟩
    generalize hB9 : tSeq (tAsg (tCall _ _ _ _) (gName 4)) _ = B9
    have fin9 : ∀ (H1 : Hp) (m : Nat) (p : Addr) (ws : List V) (as : List Arc) (su : Bool) (v2 v3 v6 v7 v8 v9 v10 : Option V), Same H H1 → 1 ≤ m → m ≤ 120 → H1 p = some (.lst ws) → ArcsV H1 ws as → as.length ≤ 300 → (∀ A ∈ as, ArcOk m A) → (su = true → ∃ zs : List AY, zs.map (·.1) = as ∧ RndOk m zs) →
        B9 { nx := fun x H' => Q V.non H', rt := Q } [some (V.ref a), some (V.int (m : Int)), v2, v3, some (V.ref p), some (V.bl su), v6, v7, v8, v9, v10, none, none] H1 := by
      intro H1 m p ws as su v2 v3 v6 v7 v8 v9 v10 s1 m1 m2 hp hA hl hok hsu
      subst hB9
      generalize hC6 : tSeq (tDrop _) _ = C6
      generalize hC5 : tSeq _ C6 = C5
      generalize hC4 : tSeq _ C5 = C4
      walk_at "dl"
      refine ⟨a, ns, _, _, rfl, s1.seq hs, by decide, by decide, by decide, fun tn _ _ => ⟨p, ws, as, tn, rfl, hp, hA, by rw [hA.1]; exact hl, fun H2 p2 ys t r s2 hp2 hA2 => ⟨p2, rfl, _, .inl (.of hp2), fun l hl2 => ?_⟩⟩⟩
      have pm := turn_perm t r as
      have hok2 : ∀ A ∈ turnL t r as, ArcOk m A := fun A hA => hok A (pm.mem_iff.mpr hA)
      have hl3 : (turnL t r as).length ≤ 300 := by rw [← pm.length_eq]; exact hl
      have hsu2 : su = true → ∃ fl, Flow (turnL t r as) fl := fun z => by
        obtain ⟨zs, e, R⟩ := hsu z
        have F := (R.perm (turn_perm t r zs)).flow
        rw [turn_map, e] at F
        exact ⟨_, F⟩
      generalize turnL t r as = as' at *
      clear pm hok hl hA hp hsu
      have u3 := Same.upd_new hl2 (HO.lst ys)
      have N : NetA (upd H2 l (HO.lst ys)) l ys m as' := ⟨upd_same, hA2.mono u3, m1, m2, hl3, hok2⟩
      have N2 : NetA (upd H2 l (HO.lst ys)) p2 ys m as' := ⟨u3 _ _ hp2, hA2.mono u3, m1, m2, hl3, hok2⟩
      generalize upd H2 l (HO.lst ys) = H3 at *
      refine ⟨m, l, ys, as', rfl, N, fun H4 tt pl g zs s4 ht hpl0 hpl R => ?_⟩
      subst hC4
      walk_at "dl"
      refine arcsEq_of (s4 _ _ N.la) (N.arcs.mono s4) (s4 _ _ N2.la) (N2.arcs.mono s4) ⟨_, rfl, ?_⟩
      rw [if_neg (by decide)]
      refine ⟨m, p2, tt, pl, ys, as', g, su, zs, rfl, N2.mono s4, ht, hpl, R, hsu2, fun H5 s5 => ⟨true, rfl, ?_⟩⟩
      rw [if_neg (by decide)]
      have zl := fc_len R m2 hl3
      have s35 := s4.trans s5
      have ht5 := s5 _ _ ht
      have hpl5 := s5 _ _ hpl
      have fin : ∀ (H6 : Hp) (vs : List V), Same H3 H6 → H6 tt = some (.tup [.str (fcS g), .ref pl]) → H6 pl = some (.lst vs) → vs.length ≤ 300 → C6 { nx := fun x H' => Q V.non H', rt := Q } [some (V.ref a), some (V.int (m : Int)), v2, v3, some (V.ref p2), some (V.bl su), v6, v7, v8, v9, v10, some (V.ref l), some (V.ref tt)] H6 := by
        subst hC6
        intro H6 vs s6 ht6 hpl6 hv
        walk_at "dl"
        refine ⟨tt, _, _, _, rfl, rfl, .of ht6, atI_nat (j := 1) rfl, .inl ⟨rfl, _, .of hpl6⟩, pl, vs, V.int 7, rfl, rfl, hpl6, (show vs.length < sizeLine from by rw [sizeLine_eq]; omega), ?_⟩
        have s7 := s6.set hpl0 (HO.lst (vs ++ [V.int 7]))
        generalize upd H6 pl (HO.lst (vs ++ [V.int 7])) = H7 at *
        refine ⟨m, l, ys, as', rfl, N.mono s7, fun H8 t8 pl8 g8 zs8 s8 ht8 _ hpl8 R8 => ?_⟩
        have s38 := s7.trans s8
        refine ⟨m, p2, t8, pl8, ys, as', g8, su, zs8, rfl, N2.mono s38, ht8, hpl8, R8, hsu2, fun H9 s9 => ⟨true, rfl, ?_⟩⟩
        have s39 := s38.trans s9
        rw [if_pos rfl]
        exact arcsEq_of (s39 _ _ N.la) (N.arcs.mono s39) (s39 _ _ N2.la) (N2.arcs.mono s39) (k _)
      subst hC5
      walk_at "dl"
      refine ⟨tt, _, _, _, rfl, rfl, .of ht5, atI_nat (j := 1) rfl, pl, rfl, _, .inl (.of hpl5), ?_⟩
      rw [List.length_map]
      by_cases c : (0 : Int) < (zs.length : Int)
      · rw [if_pos c]
        refine ⟨tt, _, _, _, rfl, rfl, .of ht5, atI_nat (j := 1) rfl, pl, _, 0, 0, rfl, rfl, hpl5, ixN_nat (j := 0) (by rw [List.length_map]; omega), ?_⟩
        exact fin _ _ (s35.set hpl0 _) ((upd_ne (fun e => by rw [e, hpl5] at ht5; cases ht5)).trans ht5) upd_same (by rw [List.length_set, List.length_map]; exact zl)
      · rw [if_neg c]
        exact fin _ _ s35 ht5 hpl5 (by rw [List.length_map]; exact zl)
    generalize hB8 : tSeq _ B9 = B8
    have fin8 : ∀ (H1 : Hp) (m : Nat) (p : Addr) (ws : List V) (as : List Arc) (su : Bool) (v2 v3 : Option V), Same H H1 → H p = none → 1 ≤ m → m ≤ 120 → H1 p = some (.lst ws) → ArcsV H1 ws as → as.length ≤ 294 → (∀ A ∈ as, ArcOk m A) → (su = true → ∃ zs : List AY, zs.map (·.1) = as ∧ RndOk m zs) →
        B8 { nx := fun x H' => Q V.non H', rt := Q } [some (V.ref a), some (V.int (m : Int)), v2, v3, some (V.ref p), some (V.bl su), none, none, none, none, none, none, none] H1 := by
      intro H1 m p ws as su v2 v3 s1 hp0 m1 m2 hp hA hl hok hsu
      subst hB8
      have hs1 := s1.seq hs
      have hwl := hA.1
      cases su with
      | false =>
        walk_at "dl"
        exact fin9 H1 m p ws as false v2 v3 none none none none none s1 m1 m2 hp hA (by omega) hok hsu
      | true =>
        walk_at "dl"
        refine ⟨_, .inl (.of hp), ?_⟩
        by_cases c : (0 : Int) < (ws.length : Int)
        · rw [if_pos c]
          refine ⟨a, ns, _, _, rfl, hs1, by decide, by decide, by decide, fun d d0 d1 => ⟨rfl, ?_⟩⟩
          by_cases c0 : V.int d = V.int 0
          · rw [if_pos c0]
            refine ⟨_, .inl (.of hp), a, ns, _, _, rfl, hs1, by decide, by decide, by omega, fun e e0 e1 => ?_⟩
            obtain ⟨kk, rfl⟩ : ∃ kk : Nat, e = (kk : Int) := ⟨e.toNat, by omega⟩
            obtain ⟨A, hAk⟩ : ∃ A, as[kk]? = some A := ⟨_, List.getElem?_eq_getElem (by omega)⟩
            obtain ⟨xa, hxa, pa, rfl, hpa⟩ := All2.at' hA hAk
            unfold Arc.vs at hpa
            refine ⟨p, _, _, _, rfl, rfl, .of hp, atI_nat hxa, pa, _, rfl, .of hpa, rfl, ?_⟩
            simp only [gCons, gNil, gName]
            walk_at "dl"
            refine ⟨small_line (by decide), fun q hq => ?_⟩
            obtain ⟨i1, i2, i3, i4⟩ := hok A (List.mem_of_getElem? hAk)
            obtain ⟨hp5, hP5⟩ := arc_set (i := kk) (A := ⟨A.a, A.b, if (if A.u - 1 > 0 then A.u - 1 else 0) < A.l then (if A.u - 1 > 0 then A.u - 1 else 0) else A.l, if A.u - 1 > 0 then A.u - 1 else 0⟩) hp hA hq
            refine ⟨p, ws, _, kk, rfl, rfl, hp5, ixN_nat (by omega), ?_⟩
            refine fin9 _ m p _ _ false v2 v3 _ _ _ _ _ ((s1.new hq _).set hp0 _) m1 m2 upd_same hP5 (by rw [List.length_set]; omega) (fun B hB => ?_) (fun z => by cases z)
            rcases List.mem_or_eq_of_mem_set hB with hB | rfl
            · exact hok B hB
            · refine ⟨i1, i2, ?_, ?_⟩
              · show 0 ≤ if (if A.u - 1 > 0 then A.u - 1 else 0) < A.l then (if A.u - 1 > 0 then A.u - 1 else 0) else A.l
                split <;> split <;> omega
              · show (if (if A.u - 1 > 0 then A.u - 1 else 0) < A.l then (if A.u - 1 > 0 then A.u - 1 else 0) else A.l) ≤ if A.u - 1 > 0 then A.u - 1 else 0
                split <;> omega
          · rw [if_neg c0]
            exact fin9 H1 m p ws as true v2 v3 none none none none none s1 m1 m2 hp hA (by omega) hok hsu
        · rw [if_neg c]
          exact fin9 H1 m p ws as true v2 v3 none none none none none s1 m1 m2 hp hA (by omega) hok hsu
    clear hB8 fin9
    generalize hB7 : tSeq _ B8 = B7
    have fin7 : ∀ (H1 : Hp) (m sz : Nat) (un : Int) (p : Addr) (su : Bool), Same H H1 → H p = none → 1 ≤ m → m ≤ 120 → 1 ≤ sz → sz ≤ 290 → 0 ≤ un → H1 p = some (.lst []) →
        B7 { nx := fun x H' => Q V.non H', rt := Q } [some (V.ref a), some (V.int (m : Int)), some (V.int (sz : Int)), some (V.int un), some (V.ref p), some (V.bl su), none, none, none, none, none, none, none] H1 := by
      intro H1 m sz un p su s1 hp0 m1 m2 z1 z2 hu hp
      subst hB7
      have hs1 := s1.seq hs
      by_cases c : (1 : Int) < (m : Int)
      · cases su with
        | true =>
          walk_at "dl"
          rw [if_pos c]
          exact ⟨a, ns, m, sz, un, rfl, hs1, by omega, m2, z1, z2, hu, fun H2 p2 ws zs s2 hp2 g2 A2 l2 R => fin8 H2 m p2 ws _ true _ _ (s1.trans s2) (s1.free hp2) m1 m2 g2 A2 (by rw [List.length_map]; exact l2) (fun A hA => by
            obtain ⟨z, hz, rfl⟩ := List.mem_map.mp hA
            exact (R.one z hz).1) fun _ => ⟨zs, rfl, R⟩⟩
        | false =>
          walk_at "dl"
          rw [if_pos c, if_pos c]
          exact ⟨a, ns, m, sz, un, rfl, hs1, by omega, m2, z2, hu, fun H2 p2 ws as s2 hp2 g2 A2 l2 hok => fin8 H2 m p2 ws as false _ _ (s1.trans s2) (s1.free hp2) m1 m2 g2 A2 l2 hok (fun z => by cases z)⟩
      · walk_at "dl"
        rw [if_neg c, if_neg c]
        exact fin8 H1 m p [] [] su _ _ s1 hp0 m1 m2 hp All2.nil (by simp) (fun _ z => nomatch z) fun _ => ⟨[], rfl, (fun _ z => nomatch z), fun _ => rfl⟩
    clear hB7 fin8
    generalize hB3 : tSeq (tAsg _ (gName 3)) _ = B3
    have fin3 : ∀ (H1 : Hp) (m sz : Nat), Same H H1 → 1 ≤ m → m ≤ 120 → 1 ≤ sz → sz ≤ 290 →
        B3 { nx := fun x H' => Q V.non H', rt := Q } [some (V.ref a), some (V.int (m : Int)), some (V.int (sz : Int)), none, none, none, none, none, none, none, none, none, none] H1 := by
      intro H1 m sz s1 m1 m2 z1 z2
      subst hB3
      walk_at "dl"
      refine ⟨⟨by decide, by decide, by decide⟩, small_line (by decide), fun p0 hp0 => ?_⟩
      have s2 := s1.new hp0 (HO.lst [V.int 1, V.int 1, V.int (10 ^ Int.toNat 57)])
      have g0 : upd H1 p0 (HO.lst [V.int 1, V.int 1, V.int (10 ^ Int.toNat 57)]) p0 = some (.lst [V.int 1, V.int 1, V.int (10 ^ Int.toNat 57)]) := upd_same
      generalize upd H1 p0 (HO.lst [V.int 1, V.int 1, V.int (10 ^ Int.toNat 57)]) = H2 at *
      refine ⟨a, ns, _, _, rfl, s2.seq hs, by decide, by decide, by decide, fun ui ui1 ui2 => ixL_of (.of g0) ui1 ui2 fun uv huv => ?_⟩
      obtain ⟨un, rfl, hu⟩ : ∃ un, uv = .int un ∧ 0 ≤ un := by
        rcases (by omega : ui = 0 ∨ ui = 1 ∨ ui = 2) with rfl | rfl | rfl
        · exact ⟨_, (Option.some.inj huv).symm, by decide⟩
        · exact ⟨_, (Option.some.inj huv).symm, by decide⟩
        · exact ⟨_, (Option.some.inj huv).symm, by decide⟩
      clear huv g0 ui1 ui2
      refine ⟨Nat.zero_le _, fun p hp => ?_⟩
      have s3 := s2.new hp (HO.lst [])
      have g3 : upd H2 p (HO.lst []) p = some (.lst []) := upd_same
      have hp3 : H p = none := s2.free hp
      generalize upd H2 p (HO.lst []) = H3 at *
      refine ⟨a, ns, _, _, rfl, s3.seq hs, by decide, by decide, by decide, fun d d0 d1 => ⟨rfl, a, ns, _, _, rfl, s3.seq hs, by decide, by decide, by decide, fun e e0 e1 => ⟨e, rfl, ⟨by decide, by decide⟩, ?_⟩⟩⟩
      split
      · exact fin7 H3 120 290 un p true s3 hp3 (by omega) (by omega) (by omega) (by omega) hu g3
      · exact fin7 H3 m sz un p _ s3 hp3 m1 m2 z1 z2 hu g3
    clear hB3 fin7
    walk_at "dl"
    refine ⟨a, ns, _, _, rfl, hs, by decide, by decide, by decide, fun d d0 d1 => ⟨d, rfl, a, ns, _, _, rfl, hs, by decide, by decide, by decide, fun e e0 e1 => ⟨e, rfl, ⟨by decide, by decide⟩, ?_⟩⟩⟩
    have key : ∀ m : Nat, 1 ≤ m → m ≤ 120 → ∃ x, (SqL K H a x ∨ SqT K H a x) ∧ CDiv ((x.length : Int) - 6) 3 ∧ sp_l_draw K [V.ref a, V.int 1, V.int 40] H (fun x_2 H1 => ∃ x_3, x_2 = V.int x_3 ∧ ∀ (mx : Int), 6 ≤ mx → ((x.length : Int) - 6) / 3 ≤ mx → x_3 ≤ mx → mx = 6 ∨ mx = ((x.length : Int) - 6) / 3 ∨ mx = x_3 →
        B3 { nx := fun x H' => Q V.non H', rt := Q } [some (V.ref a), some (V.int (m : Int)), some (V.int (if mx < 80 then mx else 80)), none, none, none, none, none, none, none, none, none, none] H1) E0 := by
      intro m m1 m2
      refine ⟨_, .inl hs, ⟨by decide, by decide⟩, ?_⟩
      rw [List.length_map]
      refine ⟨a, ns, _, _, rfl, hs, by decide, by decide, by decide, fun g g0 g1 => ⟨g, rfl, fun mx q1 q2 q3 q4 => ?_⟩⟩
      obtain ⟨sz, ez, q1, q2⟩ : ∃ sz : Nat, (if mx < 80 then mx else 80) = (sz : Int) ∧ 1 ≤ sz ∧ sz ≤ 80 := by
        split
        · exact ⟨mx.toNat, by omega, by omega, by omega⟩
        · exact ⟨80, rfl, by omega, by omega⟩
      rw [ez]
      exact fin3 H m sz (Same.refl _) m1 m2 q1 (by omega)
    split
    · exact key 30 (by omega) (by omega)
    · obtain ⟨m, em⟩ : ∃ m : Nat, 1 + d = (m : Int) := ⟨(1 + d).toNat, by omega⟩
      rw [em]
      exact key m (by omega) (by omega)
end
theorem walk {l : PySem.W.OpenLaw} {q : Program} {loose : List Str} {XP : (Str → Option Value) → Heap → Prop} {YP : World → Heap → Prop} {d : DefRec} {K : Params → PySem.W.Frag} (hn : l.most = some 63) (hdf : d.params.defaults = [])
    (hY : ∀ (w : World) (h : Heap), YP w h → (K w.params).In h)
    (F : ∀ (w : World) (mg : Str → Option Value) (fa : Addr) (h : Heap), (K w.params).In h → h.Ns mainGlobals mg → mg d.name = some (.ref fa) →
      ∃ fd : FuncData, (∀ (s : Shared) (u : Value), BindsTo s fd ⟨[u], []⟩ [("_law_script", u)]) ∧ ∀ base : Heap, (K w.params).In base → base.Ns mainGlobals mg → FnOk l.prog w (K w.params) mg base CX0 7 fa fd ["_law_script"] (sp_law (K w.params))) :
    PySem.W.WalkO q loose XP YP l.row.toRowW d [] (fun f vs => PySem.call f vs) :=
  L2.walk_of (n := 63) (k := 7) (x := "_law_script") (CX := fun _ => CX0) (sp := fun w => sp_law (K w.params)) hn (by decide) hdf ⟨rfl, by decide, by decide⟩ hY F (fun _ _ a ns hl _ hS => ⟨a, ns, rfl, hS, hl, fun _ => rfl⟩) fun _ _ _ _ _ z => z
theorem all_mk {l : PySem.W.OpenLaw} {w : World} {K : PySem.W.Frag} {h : Heap} {mg : Str → Option Value} {fa : Addr} (X : K.In h) (G : h.Ns mainGlobals mg) (hfa : mg "law" = some (.ref fa)) (T : ∃ f fd, Txt K mg f fd ∧ f 22 = f 22 ∧ ∃ kV dc pm an cd ct, fd 22 = PySem.W.fnOf "law" "law" (defArgs s_law) (defBody s_law) (defScope s_law) .none kV dc pm an cd ct) :
    ∃ fd : FuncData, (∀ (s : Shared) (v : Value), BindsTo s fd ⟨[v], []⟩ [("_law_script", v)]) ∧ ∀ base : Heap, K.In base → base.Ns mainGlobals mg → FnOk l.prog w K mg base CX0 7 fa fd ["_law_script"] (sp_law K) := by
  obtain ⟨f, fd, T, _, kV, dc, pm, an, cd, ct, e⟩ := T
  have e2 := hfa.symm.trans T.d_law.m
  cases e2
  exact ⟨fd 22, fun s v => by rw [e]; exact .of_eq rfl, fun base _ _ => ok_law T⟩
end NS
open PySem PySem.W PyProof.Rows
set_option maxRecDepth 100000 in
set_option maxHeartbeats 0 in
theorem PySem.Challenge.cw_crosshall_k32_whole_a_flow_or_a_cut_holds : PySem.Challenge.rw_crosshall_k32_whole_a_flow_or_a_cut.Holds := by
  w_on; o_law; k_head; (case hw => w_witness2)
  k_fill
  refine NS.walk (l := PySem.Challenge.rw_crosshall_k32_whole_a_flow_or_a_cut) rfl rfl (fun w h Y => PySem.W.kIn_of Y) ?F
  case F =>
    intro w mg fa h KX G hmg
    refine NS.all_mk KX G hmg ?_
    suffices TT : ∃ f fd, NS.Txt (L2.KOf KX) mg f fd ∧ f 22 = f 22 ∧ ∃ kV dc pm an cd ct, fd 22 = PySem.W.fnOf "law" "law" (L2.defArgs NS.s_law) (L2.defBody NS.s_law) (L2.defScope NS.s_law) .none kV dc pm an cd ct from TT
    dsimp only [L2.KOf]
    obtain ⟨f, fd, T, _, z⟩ : ∃ f fd, NS.Txt _ mg f fd ∧ f 22 = _ ∧ ∃ kV dc pm an cd ct, fd 22 = PySem.W.fnOf "law" "law" (L2.defArgs NS.s_law) (L2.defBody NS.s_law) (L2.defScope NS.s_law) .none kV dc pm an cd ct := by
      refine' NS.txt_mk KX G ?a1 ?a2 ?a10 ?a6 ?l6 ?c6 ?k6 ?a7 ?l7 ?c7 ?k7 ?a8 ?l8 ?c8 ?k8 ?a11 ?l11 ?c11 ?k11 ?a12 ?l12 ?c12 ?k12 ?a14 ?l14 ?c14 ?k14 ?a15 ?l15 ?c15 ?k15 ?a16 ?l16 ?c16 ?k16 ?a17 ?l17 ?c17 ?k17 ?a18 ?l18 ?c18 ?k18 ?a19 ?l19 ?c19 ?k19 ?a20 ?l20 ?c20 ?k20 ?a21 ?l21 ?c21 ?k21 ?a22 ?l22 ?c22 ?k22 ?a11000 ?l11000 ?c11000 ?k11000 ?b11000 ?a11001 ?l11001 ?c11001 ?k11001 ?b11001 ?a11002 ?l11002 ?c11002 ?k11002 ?b11002 ?a11003 ?l11003 ?c11003 ?k11003 ?b11003 ?a11004 ?l11004 ?c11004 ?k11004 ?b11004 ?o_Stream_pg ?o_Stream_hd ?o_Stream_po ?o_Stream_sa ?o_Stream_ma ?o_Stream_kp ?v_na_Stream_arcs ?v_na_Stream_borne ?v_na_Stream_steps ?z_all ?z_bool ?z_enumerate ?z_int ?z_isinstance ?z_len ?z_list ?z_max ?z_min ?z_range ?z_set ?z_sorted ?z_sum ?z_tuple ?z_zip ?y_MOST_NODES ?y_MOST_ARCS
      (case a1 => k_is)
      (case a2 => k_is)
      (case a10 => k_is)
      (case a6 => k_is)
      (case l6 => k_is)
      (case c6 => k_is)
      (case k6 => k_is)
      (case a7 => k_is)
      (case l7 => k_is)
      (case c7 => k_is)
      (case k7 => k_is)
      (case a8 => k_is)
      (case l8 => k_is)
      (case c8 => k_is)
      (case k8 => k_is)
      (case a11 => k_is)
      (case l11 => k_is)
      (case c11 => k_is)
      (case k11 => k_is)
      (case a12 => k_is)
      (case l12 => k_is)
      (case c12 => k_is)
      (case k12 => k_is)
      (case a14 => k_is)
      (case l14 => k_is)
      (case c14 => k_is)
      (case k14 => k_is)
      (case a15 => k_is)
      (case l15 => k_is)
      (case c15 => k_is)
      (case k15 => k_is)
      (case a16 => k_is)
      (case l16 => k_is)
      (case c16 => k_is)
      (case k16 => k_is)
      (case a17 => k_is)
      (case l17 => k_is)
      (case c17 => k_is)
      (case k17 => k_is)
      (case a18 => k_is)
      (case l18 => k_is)
      (case c18 => k_is)
      (case k18 => k_is)
      (case a19 => k_is)
      (case l19 => k_is)
      (case c19 => k_is)
      (case k19 => k_is)
      (case a20 => k_is)
      (case l20 => k_is)
      (case c20 => k_is)
      (case k20 => k_is)
      (case a21 => k_is)
      (case l21 => k_is)
      (case c21 => k_is)
      (case k21 => k_is)
      (case a22 => k_is)
      (case l22 => k_is)
      (case c22 => k_is)
      (case k22 => k_is)
      (case a11000 => k_is)
      (case l11000 => k_is)
      (case c11000 => k_is)
      (case k11000 => k_is)
      (case b11000 => k_is)
      (case a11001 => k_is)
      (case l11001 => k_is)
      (case c11001 => k_is)
      (case k11001 => k_is)
      (case b11001 => k_is)
      (case a11002 => k_is)
      (case l11002 => k_is)
      (case c11002 => k_is)
      (case k11002 => k_is)
      (case b11002 => k_is)
      (case a11003 => k_is)
      (case l11003 => k_is)
      (case c11003 => k_is)
      (case k11003 => k_is)
      (case b11003 => k_is)
      (case a11004 => k_is)
      (case l11004 => k_is)
      (case c11004 => k_is)
      (case k11004 => k_is)
      (case b11004 => k_is)
      (case o_Stream_pg => k_is)
      (case o_Stream_hd => k_is)
      (case o_Stream_po => k_is)
      (case o_Stream_sa => k_is)
      (case o_Stream_ma => k_is)
      (case o_Stream_kp => k_is)
      (case v_na_Stream_arcs => k_is)
      (case v_na_Stream_borne => k_is)
      (case v_na_Stream_steps => k_is)
      (case z_all => k_is)
      (case z_bool => k_is)
      (case z_enumerate => k_is)
      (case z_int => k_is)
      (case z_isinstance => k_is)
      (case z_len => k_is)
      (case z_list => k_is)
      (case z_max => k_is)
      (case z_min => k_is)
      (case z_range => k_is)
      (case z_set => k_is)
      (case z_sorted => k_is)
      (case z_sum => k_is)
      (case z_tuple => k_is)
      (case z_zip => k_is)
      (case y_MOST_NODES => k_is)
      (case y_MOST_ARCS => k_is)
    exact ⟨f, fd, T, rfl, z⟩
