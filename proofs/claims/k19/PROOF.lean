import PyProof.Rows.All
import Wide.All
import OpenK.AllK
import Wide.FinOn
import Lean
import PyProof.EqAt
import PyProof.EqKinds
import PyProof.TupleCall
import OpenK.KOwn
import PyProof.InstStoreFacts
import PyProof.EnumFor
import PyProof.EnumMake
import PyProof.EnumStmt
import KE.KDictList
import PyProof.ListRange
import PyProof.Rows.SetFrom
import PyProof.WalksMore
import PyProof.ZipIter
import PyProof.AttrMissSeq
import KE.KDictOf
import PyProof.MinMaxWalk
import PyProof.Rows.CallKwBuiltin
import KE.KMinKey
import KE.KRevSl
import PyProof.SumAny
import PyProof.P3In
import PyProof.SeqI3
import PyProof.DictItems
import PyProof.DictItemsLoops
import PyProof.Rows.StrNews2
import KE.KPairComp
import PyProof.TupleIter
import PySem.Challenge.RW_crosshall_k19_refusals_apart
-- CHANGE: your row's module here, as the last of these rows
set_option compiler.extract_closed false
set_option Elab.async false
set_option linter.all false
set_option maxRecDepth 100000
namespace L2
open PySem PySem.Spec PyProof.Rows
noncomputable abbrev Key := Sum Int Str
noncomputable def keyIs : Key → Value → Bool
  | .inl k, v => Value.isInt k v
  | .inr x, v => Value.isStrOf x v
noncomputable def keyH (w : World) : Key → Int
  | .inl k => hashInt k
  | .inr x => hashStr w x
theorem keyIs_shape : ∀ {k : Key} {v : Value}, keyIs k v = true → (∃ i t, k = Sum.inl i ∧ v = Value.int i t) ∨ (∃ x t, k = Sum.inr x ∧ v = Value.str x t)
  | .inl i, v, h => by
    obtain ⟨t, e⟩ := Value.isInt_shape (k := i) (v := v) h
    exact .inl ⟨i, t, rfl, e⟩
  | .inr x, v, h => by
    obtain ⟨t, e⟩ := Value.isStrOf_shape (x := x) (v := v) h
    exact .inr ⟨x, t, rfl, e⟩
theorem keyIs_int (i : Int) (t : Tok) : keyIs (.inl i) (.int i t) = true := by simp [keyIs, Value.isInt]
theorem keyIs_str (x : Str) (t : Tok) : keyIs (.inr x) (.str x t) = true := by simp [keyIs, Value.isStrOf]
theorem key_ll (a b : Int) : decide ((Sum.inl a : Key) = Sum.inl b) = (a == b) := by
  by_cases e : a = b
  · subst e; simp
  · have h : ¬ (Sum.inl a : Key) = Sum.inl b := fun q => e (Sum.inl.inj q)
    rw [decide_eq_false h]
    exact (beq_eq_false_iff_ne.mpr e).symm
theorem key_rr (a b : Str) : decide ((Sum.inr a : Key) = Sum.inr b) = decide (a = b) := by
  by_cases e : a = b
  · subst e; simp
  · have h : ¬ (Sum.inr a : Key) = Sum.inr b := fun q => e (Sum.inr.inj q)
    rw [decide_eq_false h, decide_eq_false e]
theorem key_lr (a : Int) (b : Str) : decide ((Sum.inl a : Key) = Sum.inr b) = false := decide_eq_false (fun q => nomatch q)
theorem key_rl (a : Str) (b : Int) : decide ((Sum.inr a : Key) = Sum.inl b) = false := decide_eq_false (fun q => nomatch q)
noncomputable def mixKind (prog : Program) (w : World) : PySem.KeyKind prog w Key where
  is := keyIs
  hash := keyH w
  inj := fun v a b ha hb => by
    rcases keyIs_shape ha with ⟨i, t, rfl, rfl⟩ | ⟨x, t, rfl, rfl⟩
    · rcases keyIs_shape hb with ⟨j, u, rfl, e⟩ | ⟨y, u, rfl, e⟩
      · injection e with e1 _; rw [e1]
      · exact nomatch e
    · rcases keyIs_shape hb with ⟨j, u, rfl, e⟩ | ⟨y, u, rfl, e⟩
      · exact nomatch e
      · injection e with e1 _; rw [e1]
  byValue := fun k v h => by
    rcases keyIs_shape h with ⟨i, t, rfl, rfl⟩ | ⟨x, t, rfl, rfl⟩ <;> rfl
  pyHash := fun hv h => by
    rcases keyIs_shape hv with ⟨i, t, rfl, rfl⟩ | ⟨x, t, rfl, rfl⟩
    · exact wpAny_pyHash_int h
    · exact wpAny_pyHash_str h
  eqBool := fun hu hv h => by
    rcases keyIs_shape hu with ⟨i, t, rfl, rfl⟩ | ⟨x, t, rfl, rfl⟩
    · rcases keyIs_shape hv with ⟨j, u, rfl, rfl⟩ | ⟨y, u, rfl, rfl⟩
      · rw [key_ll] at h; exact wpAny_eqBool_int h
      · rw [key_lr] at h; exact SeqAt.EqAt.int_str i t y u _ _ _ _ h
    · rcases keyIs_shape hv with ⟨j, u, rfl, rfl⟩ | ⟨y, u, rfl, rfl⟩
      · rw [key_rl] at h; exact SeqAt.EqAt.str_int x t j u _ _ _ _ h
      · rw [key_rr] at h; exact wpAny_eqBool_str h
  «strs» := fun k x t v h => by
    rcases keyIs_shape h with ⟨i, u, rfl, e⟩ | ⟨y, u, rfl, e⟩
    · exact nomatch e
    · injection e with e1 _
      subst e1
      cases v <;> rfl
theorem mixKind_int (prog : Program) (w : World) (i : Int) (t : Tok) : (mixKind prog w).is (.inl i) (.int i t) = true := keyIs_int i t
theorem mixKind_str (prog : Program) (w : World) (x : Str) (t : Tok) : (mixKind prog w).is (.inr x) (.str x t) = true := keyIs_str x t
noncomputable abbrev NKey := Option Key
noncomputable def nIs : NKey → Value → Bool
  | none, .none => true
  | none, _ => false
  | some k, v => keyIs k v
noncomputable def nH (w : World) : NKey → Int
  | none => reduceHash 0xFCA86420
  | some k => keyH w k
theorem nIs_shape : ∀ {k : NKey} {v : Value}, nIs k v = true → (k = none ∧ v = Value.none) ∨ ∃ q, k = some q ∧ keyIs q v = true
  | none, v, h => by cases v <;> first | exact .inl ⟨rfl, rfl⟩ | exact nomatch h
  | some k, v, h => .inr ⟨k, rfl, h⟩
theorem key_not_none {q : Key} (h : keyIs q Value.none = true) : False := by
  rcases keyIs_shape h with ⟨_, _, _, e⟩ | ⟨_, _, _, e⟩ <;> exact nomatch e
theorem pyHash_none {prog : Program} {w : World} {A : Around} {E : Value → Shared → Prop} {s : Shared} {Q : Int → Shared → Prop} (h : Q (reduceHash 0xFCA86420) { s with toks := s.toks + 1 }) : wpAny (model prog w) A (pyHash .none) Q E s :=
  PySem.W.pyHash_slot (T := "NoneType") rfl F.slot_NoneType_hash F.entry_NoneType_hash (F.args_NoneType_hash_1 _) (beq_builtin_none _) (.inl rfl) (wpAny_bind (wpAny_pure (wpAny_bind (wpAny_mkInt (wpAny_pure ⟨_, _, rfl, h⟩)))))
theorem eqBool_none {prog : Program} {w : World} {A : Around} {E : Value → Shared → Prop} {s : Shared} {Q : Bool → Shared → Prop} (h : Q true s) : wpAny (model prog w) A (eqBool .none .none) Q E s := by
  unfold eqBool
  try with_reducible refine wpAny_holding ?_
  show wpAny _ _ (if (Value.none == Value.none) = true then _ else _) Q E s
  rw [if_pos (by decide)]
  exact wpAny_bind (wpAny_rule (wpAny_pure h))
noncomputable def optKind (prog : Program) (w : World) : PySem.KeyKind prog w NKey where
  is := nIs
  hash := nH w
  inj := fun v a b ha hb => by
    rcases nIs_shape ha with ⟨rfl, rfl⟩ | ⟨q, rfl, hq⟩
    · rcases nIs_shape hb with ⟨rfl, _⟩ | ⟨q', rfl, hq'⟩
      · rfl
      · exact (key_not_none hq').elim
    · rcases nIs_shape hb with ⟨rfl, rfl⟩ | ⟨q', rfl, hq'⟩
      · exact (key_not_none hq).elim
      · rw [(mixKind prog w).inj v q q' hq hq']
  byValue := fun k v h => by
    rcases nIs_shape h with ⟨rfl, rfl⟩ | ⟨q, rfl, hq⟩
    · rfl
    · exact (mixKind prog w).byValue q v hq
  pyHash := fun hv h => by
    rcases nIs_shape hv with ⟨rfl, rfl⟩ | ⟨q, rfl, hq⟩
    · exact pyHash_none h
    · exact (mixKind prog w).pyHash hq h
  eqBool := fun {A E s a b u v Q} hu hv h => by
    rcases nIs_shape hu with ⟨rfl, rfl⟩ | ⟨q, rfl, hq⟩
    · rcases nIs_shape hv with ⟨rfl, rfl⟩ | ⟨q', rfl, hq'⟩
      · exact eqBool_none (by simpa using h)
      · have h' : Q false s := by simpa using h
        rcases keyIs_shape hq' with ⟨i, t, rfl, rfl⟩ | ⟨x, t, rfl, rfl⟩
        · exact SeqAt.EqAt.none_int i t _ _ _ _ h'
        · exact SeqAt.EqAt.none_str x t _ _ _ _ h'
    · rcases nIs_shape hv with ⟨rfl, rfl⟩ | ⟨q', rfl, hq'⟩
      · have h' : Q false s := by simpa using h
        rcases keyIs_shape hq with ⟨i, t, rfl, rfl⟩ | ⟨x, t, rfl, rfl⟩
        · exact SeqAt.EqAt.int_none i t _ _ _ _ h'
        · exact SeqAt.EqAt.str_none x t _ _ _ _ h'
      · refine (mixKind prog w).eqBool hq hq' ?_
        have e : decide ((some q : NKey) = some q') = decide (q = q') := by simp
        rw [← e]; exact h
  «strs» := fun k x t v h => by
    rcases nIs_shape h with ⟨rfl, e⟩ | ⟨q, rfl, hq⟩
    · exact nomatch e
    · exact (mixKind prog w).strs q x t v hq
end L2
namespace L2
open PySem PySem.Spec PyProof.Rows
inductive V where
  | non | bl (b : Bool) | int (i : Int) | str (x : Str) | byt (b : Array UInt8) | flt (b : UInt64) | ref (a : Addr) | ty (n : String)
  deriving DecidableEq
noncomputable def RelV : V → Value → Prop
  | .non, u => u = Value.none
  | .bl b, u => u = Value.bool b
  | .int i, u => ∃ t, u = Value.int i t
  | .str x, u => ∃ t, u = Value.str x t
  | .byt b, u => ∃ t, u = Value.bytes b t
  | .flt b, u => ∃ t, u = Value.float b t
  | .ref a, u => u = Value.ref a
  | .ty n, u => u = Value.type n
noncomputable abbrev Vals : List V → List Value → Prop := Paired RelV
theorem Vals.length {xs : List V} {us : List Value} (r : Vals xs us) : xs.length = us.length := Paired.length r
theorem Vals.get : ∀ {xs : List V} {us : List Value} {i : Nat} {x : V}, Vals xs us → xs[i]? = some x → ∃ u, us[i]? = some u ∧ RelV x u
  | _, _, _, _, .nil, e => by simp at e
  | _, _, 0, _, .cons r _, e => by simp at e; subst e; exact ⟨_, rfl, r⟩
  | _, _, i + 1, x, .cons _ t, e => by
    obtain ⟨u, h1, h2⟩ := Vals.get (i := i) (x := x) t (by simpa using e)
    exact ⟨u, by simpa using h1, h2⟩
theorem Vals.append : ∀ {xs ys : List V} {us ws : List Value}, Vals xs us → Vals ys ws → Vals (xs ++ ys) (us ++ ws)
  | _, _, _, _, .nil, s => s
  | _, _, _, _, .cons r t, s => .cons r (Vals.append t s)
noncomputable def RelO : Option V → Option Value → Prop
  | some v, some u => RelV v u
  | none, none => True
  | _, _ => False
noncomputable def KV {κ : Type} : List (κ × V) → List (κ × Value) → Prop := Paired fun (p : κ × V) (q : κ × Value) => p.1 = q.1 ∧ RelV p.2 q.2
noncomputable def kV : Key → V
  | .inl i => .int i
  | .inr x => .str x
noncomputable def nV : NKey → V
  | none => .non
  | some k => kV k
inductive HO where
  | lst (xs : List V)
  | tup (xs : List V)
  | dK (kvs : List (Key × V)) | dT (kvs : List (List NKey × V))
  | set (S : Int → Bool) (n : Nat)
  | ins (C dx : Addr) (fs : List (Str × V))
  | own (x : Addr)
  | xd (fs : List (Str × V))
  | met (f x : Addr)
  | rng (lo hi : Int)
  | frz (o : Obj) (u : HO)
  | tbl (ps : Array Value)
  | ext (φ : Heap → Prop)
noncomputable abbrev Hp := Addr → Option HO
noncomputable def upd (H : Hp) (a : Addr) (o : HO) : Hp := fun b => if b = a then some o else H b
theorem upd_same {H : Hp} {a : Addr} {o : HO} : upd H a o a = some o := by unfold upd; rw [if_pos rfl]
theorem upd_ne {H : Hp} {a b : Addr} {o : HO} (h : b ≠ a) : upd H a o b = H b := by unfold upd; rw [if_neg h]
theorem upd_upd {H : Hp} {a : Addr} {o u : HO} : upd (upd H a o) a u = upd H a u := by
  funext b; unfold upd; split <;> rfl
theorem ne_of {H : Hp} {a b : Addr} {o u : HO} (h : H a = some o) (h' : H b = some u) (d : o ≠ u) : a ≠ b := by
  intro e; subst e; rw [h] at h'; exact d (Option.some.inj h')
theorem ne_of_none {H : Hp} {a b : Addr} {o : HO} (h : H a = some o) (h' : H b = none) : a ≠ b := by
  intro e; subst e; rw [h] at h'; cases h'
section
variable (P : Program) (w : World)
noncomputable def ObjOk (H : Hp) (h : Heap) (a : Addr) : HO → Prop
  | .lst xs => xs.length ≤ sizeLine ∧ ∃ (its : List Value) (n : Nat), Vals xs its ∧ h.get? a = some { cls := .type "list", data := .seq its.toArray n }
  | .tup xs => xs.length ≤ sizeLine ∧ ∃ its : List Value, Vals xs its ∧ IsTup h a its.toArray
  | .dK kvs => kvs.length ≤ sizeLine ∧ (a == sysModules) = false ∧ ∃ vs, KV kvs vs ∧ h.DictOf (mixKind P w) a vs
  | .dT kvs => kvs.length ≤ sizeLine ∧ (a == sysModules) = false ∧ ∃ xs : List (List NKey × Addr × Value),
      Paired (fun (p : List NKey × V) (q : List NKey × Addr × Value) => p.1 = q.1 ∧ H q.2.1 = some (.tup (p.1.map nV)) ∧ RelV p.2 q.2.2) kvs xs ∧
      ∃ o es ep, h.get? a = some o ∧ o.ExactDict ∧ o.data = .dict es ep ∧ es.toList = xs.map (entryOfKey (tupleKind (optKind P w))) ∧ (xs.map (·.1)).Nodup
  | .set S n => h.SetOf (intKind P w) a S n
  | .ins C dx fs => H dx = some (.own a) ∧ fs.length ≤ 1000 ∧ dx ≠ a ∧ h.get? a = some (PySem.W.instObj C dx) ∧
      ∃ mA, h.Ns1 dx mA ∧ (∀ f, RelO (fs.lookup f) (mA f)) ∧ PySem.Within mA (fs.map (·.1))
  | .own _ => ∃ o, h.get? a = some o
  | .xd fs => ∃ mA, h.Ns1 a mA ∧ ∀ f, RelO (fs.lookup f) (mA f)
  | .rng lo hi => ∃ t u v, h.get? a = some { cls := .type "range", data := .fields #[.int lo t, .int hi u, .int 1 v] }
  | .frz o u => h.get? a = some o ∧ ObjOk H h a u
  | .tbl ps => h.get? a = some { cls := .none, data := .fields ps }
  | .met f x => h.get? a = some (PySem.W.methodObj (.ref f) (.ref x))
  | .ext φ => φ h ∧ (∃ o, h.get? a = some o) ∧ ∀ h1 h2 : Heap, φ h1 → (∀ o, h1.get? a = some o → h2.get? a = some o) → φ h2
noncomputable def HOk (H : Hp) (h : Heap) : Prop := ∀ a o, H a = some o → ObjOk P w H h a o
end
section
variable {P : Program} {w : World} {H H' : Hp} {h h' : Heap} {a : Addr} {o : HO}
theorem ObjOk.lt (x : ObjOk P w H h a o) : a < h.objs.size := by
  cases o with
  | lst xs => obtain ⟨_, _, _, _, e⟩ := x; exact Heap.lt_size e
  | tup xs => obtain ⟨_, _, _, p⟩ := x; exact p.lt
  | dK kvs => obtain ⟨_, _, _, _, o, _, _, e, _⟩ := x; exact Heap.lt_size e
  | dT kvs => obtain ⟨_, _, _, _, o, _, _, e, _⟩ := x; exact Heap.lt_size e
  | set S n => obtain ⟨o, _, _, _, e, _⟩ := x; exact Heap.lt_size e
  | ins C dx fs => obtain ⟨_, _, _, e, _⟩ := x; exact Heap.lt_size e
  | own y => obtain ⟨_, e⟩ := x; exact Heap.lt_size e
  | xd fs => obtain ⟨_, ⟨_, _, _, e, _⟩, _⟩ := x; exact Heap.lt_size e
  | rng lo hi => obtain ⟨_, _, _, e⟩ := x; exact Heap.lt_size e
  | frz ob u => obtain ⟨e, _⟩ := x; exact Heap.lt_size e
  | tbl ps => exact Heap.lt_size (show h.get? a = some _ from x)
  | met f y => exact Heap.lt_size (show h.get? a = some _ from x)
  | ext φ => obtain ⟨_, ⟨_, e⟩, _⟩ := x; exact Heap.lt_size e
theorem Paired.mapP {α β : Type} {F G : α → β → Prop} : ∀ {l₁ : List α} {l₂ : List β}, Paired F l₁ l₂ → (∀ a b, F a b → G a b) → Paired G l₁ l₂
  | _, _, .nil, _ => .nil
  | _, _, .cons r t, f => .cons (f _ _ r) (Paired.mapP t f)
theorem ObjOk.stay (x : ObjOk P w H h a o) (k : ∀ b u, (b = a ∨ H b = some (.own a)) → h.get? b = some u → h'.get? b = some u)
    (ho : ∀ b, H b = some (.own a) → H' b = some (.own a)) (ht : ∀ b xs, H b = some (.tup xs) → H' b = some (.tup xs)) : ObjOk P w H' h' a o := by
  induction o with
  | lst xs => obtain ⟨z, its, n, r, e⟩ := x; exact ⟨z, its, n, r, k _ _ (.inl rfl) e⟩
  | tup xs => obtain ⟨z, its, r, ob, e, c⟩ := x; exact ⟨z, its, r, ob, k _ _ (.inl rfl) e, c⟩
  | dK kvs => obtain ⟨z, y, vs, r, ob, es, ep, e, c⟩ := x; exact ⟨z, y, vs, r, ob, es, ep, k _ _ (.inl rfl) e, c⟩
  | dT kvs =>
    obtain ⟨z, y, xs, r, ob, es, ep, e, c⟩ := x
    exact ⟨z, y, xs, Paired.mapP r fun p q z => ⟨z.1, ht _ _ z.2.1, z.2.2⟩, ob, es, ep, k _ _ (.inl rfl) e, c⟩
  | set S n => obtain ⟨ob, es, ep, t, e, c⟩ := x; exact ⟨ob, es, ep, t, k _ _ (.inl rfl) e, c⟩
  | ins C dx fs =>
    obtain ⟨d, z, ne, e, mA, ⟨od, es, ep, e2, c⟩, r⟩ := x
    exact ⟨ho _ d, z, ne, k _ _ (.inl rfl) e, mA, ⟨od, es, ep, k _ _ (.inr d) e2, c⟩, r⟩
  | own y => obtain ⟨ob, e⟩ := x; exact ⟨ob, k _ _ (.inl rfl) e⟩
  | xd fs => obtain ⟨mA, ⟨od, es, ep, e, c⟩, r⟩ := x; exact ⟨mA, ⟨od, es, ep, k _ _ (.inl rfl) e, c⟩, r⟩
  | rng lo hi => obtain ⟨t, u, v, e⟩ := x; exact ⟨t, u, v, k _ _ (.inl rfl) e⟩
  | frz ob u ih => obtain ⟨e, q⟩ := x; exact ⟨k _ _ (.inl rfl) e, ih q⟩
  | tbl ps =>
    have e : h.get? a = some { cls := .none, data := .fields ps } := x
    show h'.get? a = some { cls := .none, data := .fields ps }
    exact k a _ (.inl rfl) e
  | met f y =>
    have e : h.get? a = some (PySem.W.methodObj (.ref f) (.ref y)) := x
    show h'.get? a = some (PySem.W.methodObj (.ref f) (.ref y))
    exact k a _ (.inl rfl) e
  | ext φ => obtain ⟨p, ⟨o, e⟩, st⟩ := x; exact ⟨st _ _ p fun o q => k _ _ (.inl rfl) q, ⟨o, k _ _ (.inl rfl) e⟩, st⟩
theorem HOk.lt (x : HOk P w H h) (e : H a = some o) : a < h.objs.size := (x a o e).lt
theorem HOk.fresh (x : HOk P w H h) (e : h.objs.size ≤ a) : H a = none := by
  cases q : H a with
  | none => rfl
  | some u => exact absurd (Nat.lt_of_lt_of_le (x.lt q) e) (Nat.lt_irrefl _)
theorem HOk.kept (x : HOk P w H h) (k : ∀ b u, h.get? b = some u → h'.get? b = some u) : HOk P w H h' := fun a o e =>
  (x a o e).stay (fun b u _ q => k b u q) (fun _ q => q) fun _ _ q => q
theorem HOk.laid (x : HOk P w H h) (k : ∀ b u, h.get? b = some u → h'.get? b = some u) (hp : h.objs.size ≤ a) (new : ObjOk P w (upd H a o) h' a o) : HOk P w (upd H a o) h' := fun b u e => by
  have hn := x.fresh hp
  by_cases hb : b = a
  · subst hb; rw [upd_same] at e; cases e; exact new
  · rw [upd_ne hb] at e
    exact (x b u e).stay (fun c v _ q => k c v q) (fun c q => by rw [upd_ne (ne_of_none q hn)]; exact q) fun c xs q => by rw [upd_ne (ne_of_none q hn)]; exact q
end
noncomputable def Rd (H : Hp) (a : Addr) (u : HO) : Prop := H a = some u ∨ ∃ o, H a = some (.frz o u)
theorem Rd.ok {P : Program} {w : World} {H : Hp} {h : Heap} {a : Addr} {u : HO} (r : Rd H a u) (x : HOk P w H h) : ObjOk P w H h a u := by
  rcases r with r | ⟨o, r⟩
  · exact x a u r
  · obtain ⟨_, q⟩ := x a _ r
    exact q
noncomputable def Mut : Option HO → Prop
  | some (.lst _) => True
  | some (.dK _) => True
  | some (.dT _) => True
  | some (.set _ _) => True
  | some (.ins _ _ _) => True
  | some (.ext _) => True
  | _ => False
section
variable {P : Program} {w : World} {H : Hp} {h h' : Heap} {x e : Addr} {o' : HO}
theorem HOk.write (ok : HOk P w H h) (mu : Mut (H x)) (he : e = x ∨ H e = some (.own x)) (k : ∀ b u, b ≠ e → h.get? b = some u → h'.get? b = some u) (heo : ∃ u, h'.get? e = some u)
    (new : ObjOk P w (upd H x o') h' x o') : HOk P w (upd H x o') h' := fun b u q => by
  have nown : ∀ c y, H c = some (.own y) → c ≠ x := fun c y r z => by subst z; rw [r] at mu; exact mu
  have ntup : ∀ c xs, H c = some (.tup xs) → c ≠ x := fun c xs r z => by subst z; rw [r] at mu; exact mu
  by_cases hb : b = x
  · subst hb; rw [upd_same] at q; cases q; exact new
  · rw [upd_ne hb] at q
    by_cases hbe : b = e
    · have q' : H b = some (.own x) := by
        rcases he with z | z
        · exact absurd (hbe.trans z) hb
        · rw [hbe]; exact z
      rw [q] at q'; cases q'
      obtain ⟨v, hv⟩ := heo
      exact ⟨v, by rw [hbe]; exact hv⟩
    · refine (ok b u q).stay (fun c v hc r => k c v ?_ r) (fun c r => by rw [upd_ne (nown c b r)]; exact r) fun c xs r => by rw [upd_ne (ntup c xs r)]; exact r
      rcases hc with rfl | hc
      · exact hbe
      · rintro rfl
        rcases he with z | z
        · exact nown c b hc z
        · rw [hc] at z; cases z; exact hb rfl
end
structure Un (fs ex : List Addr) (H H' : Hp) (h h' : Heap) : Prop where
  keep : ∀ b o, h.get? b = some o → H b = none → b ∉ fs → b ∉ ex → h'.get? b = some o
  slot : ∀ b o, h.get? b = some o → H b = none → b ∈ fs → b ∉ ex → ∃ sl, h'.get? b = some { o with slots := sl }
  free : ∀ b o, h.get? b = some o → H b = none → b ∉ ex → H' b = none
  there : ∀ b o, h.get? b = some o → b ∉ ex → ∃ o', h'.get? b = some o'
  tups : ∀ b xs, H b = some (.tup xs) → H' b = some (.tup xs)
  frzs : ∀ b o u, H b = some (.frz o u) → H' b = some (.frz o u)
  tbls : ∀ b ps, H b = some (.tbl ps) → ∃ more, H' b = some (.tbl (ps ++ more))
section
variable {fs fs' ex ex' : List Addr} {H H1 H2 : Hp} {h h1 h2 h' : Heap} {a x e : Addr} {o : HO}
theorem Un.any (u : Un fs ex H H1 h h1) {b : Addr} {ob : Obj} (q : h.get? b = some ob) (n : H b = none) (hx : b ∉ ex) : ∃ sl, h1.get? b = some { ob with slots := sl } := by
  by_cases hb : b ∈ fs
  · exact u.slot b ob q n hb hx
  · exact ⟨ob.slots, u.keep b ob q n hb hx⟩
theorem Un.kept (k : ∀ b u, h.get? b = some u → h'.get? b = some u) : Un fs ex H H h h' :=
  ⟨fun b ob q _ _ _ => k b ob q, fun b ob q _ _ _ => ⟨ob.slots, k b ob q⟩, fun _ _ _ n _ => n, fun b ob q _ => ⟨ob, k b ob q⟩, fun _ _ q => q, fun _ _ _ q => q, fun _ ps q => ⟨#[], by rw [q]; simp⟩⟩
theorem Un.refl : Un fs ex H H h h := Un.kept fun _ _ q => q
theorem Un.laid (k : ∀ b u, h.get? b = some u → h'.get? b = some u) (hp : h.objs.size ≤ a) (hn : H a = none) : Un fs ex H (upd H a o) h h' where
  keep := fun b u q _ _ _ => k b u q
  slot := fun b u q _ _ _ => ⟨u.slots, k b u q⟩
  free := fun b u q n _ => by rw [upd_ne (Nat.ne_of_lt (Nat.lt_of_lt_of_le (Heap.lt_size q) hp))]; exact n
  there := fun b u q _ => ⟨u, k b u q⟩
  tups := fun b xs q => by rw [upd_ne (ne_of_none q hn)]; exact q
  frzs := fun b u xs q => by rw [upd_ne (ne_of_none q hn)]; exact q
  tbls := fun b ps q => ⟨#[], by rw [upd_ne (ne_of_none q hn), q]; simp⟩
theorem Un.write (mu : Mut (H x)) (he : e = x ∨ H e = some (.own x)) (k : ∀ b u, b ≠ e → h.get? b = some u → h'.get? b = some u) (heo : ∃ u, h'.get? e = some u) : Un fs ex H (upd H x o) h h' := by
  have hx : ∀ b, H b = none → b ≠ x := fun b n z => by subst z; rw [n] at mu; exact mu
  have hb : ∀ b, H b = none → b ≠ e := fun b n z => by
    subst z
    rcases he with r | r
    · exact hx b n r
    · rw [n] at r; cases r
  have hm : ∀ b u, H b = some u → ¬ Mut (some u) → b ≠ x := fun b u q nm z => by subst z; rw [q] at mu; exact nm mu
  refine ⟨fun b u q n _ _ => k b u (hb b n) q, fun b u q n _ _ => ⟨u.slots, k b u (hb b n) q⟩, fun b u q n _ => by rw [upd_ne (hx b n)]; exact n, fun b u q _ => ?_,
    fun b xs q => by rw [upd_ne (hm b _ q fun z => z)]; exact q, fun b u xs q => by rw [upd_ne (hm b _ q fun z => z)]; exact q, fun b ps q => ⟨#[], by rw [upd_ne (hm b _ q fun z => z), q]; simp⟩⟩
  by_cases hbe : b = e
  · subst hbe; exact heo
  · exact ⟨u, k b u hbe q⟩
end
noncomputable def trk (h : Heap) (H : Hp) : List Addr := (List.range h.objs.size).filter fun a => (H a).isSome
noncomputable def hidT (h : Heap) (H : Hp) : Heap := PySem.W.hideAll h (trk h H)
theorem hidT_size (h : Heap) (H : Hp) : (hidT h H).objs.size = h.objs.size := PySem.W.hideAll_size _ _
theorem hidT_get {h : Heap} {H : Hp} {b : Addr} {o : Obj} (e : h.get? b = some o) (n : H b = none) : (hidT h H).get? b = some o :=
  PySem.W.hideAll_get _ e fun hm => by
    have q : (H b).isSome = true := (List.mem_filter.mp hm).2
    rw [n] at q; simp at q
theorem of_hidT {h : Heap} {H : Hp} {b : Addr} {o : Obj} (e : (hidT h H).get? b = some o) : h.get? b = some o ∧ H b = none := by
  have e' : h.get? b = some o := PySem.W.of_hideAll (trk h H) e
  refine ⟨e', ?_⟩
  cases q : H b with
  | none => rfl
  | some x =>
    have hm : b ∈ trk h H := List.mem_filter.mpr ⟨List.mem_range.mpr (Heap.lt_size e'), by simp [q]⟩
    have z : (hidT h H).get? b = none := PySem.W.hideAll_none (trk h H) hm
    rw [z] at e; cases e
end L2
namespace L2
open PySem PySem.Spec PyProof.Rows
structure Mod (K : PySem.W.Frag) (mg : Str → Option Value) (base : Heap) : Prop where
  kin : K.In base
  glob : base.Ns mainGlobals mg
  blt : ∃ mb, base.Ns builtinsNs mb ∧ ∀ x : Str, x ≠ "__name__" → mb x = bootBuiltins x
  nolimit : base.NoLimit
structure Cx where
  prog : Program
  w : World
  K : PySem.W.Frag
  mg : Str → Option Value
  base : Heap
  A : Around
  N : List Str
  s₀ : Shared
  H₀ : Hp
  env : Env
  outer : List Env
  stack : List Env
  ex : List Addr
  fn : Str → Bool
  calm : Bool
  pn : List (Addr × Obj)
  xe : Value → Shared → Prop
noncomputable def frs (l : List Env) : List Addr := l.filterMap (·.frame)
noncomputable abbrev Cx.fs (X : Cx) : List Addr := frs X.outer
noncomputable def Vis (sc : Scope) (x : Str) : Prop := sc.names.lookup x = some .local ∨ sc.names.lookup x = some .cell ∨ sc.names.lookup x = some .free
noncomputable def Loc (sc : Scope) (x : Str) : Prop := sc.names.lookup x = some .local ∨ sc.names.lookup x = some .cell
noncomputable def Look (env : Env) (h : Heap) (m : Str → Option Value) (x : Str) (u : Value) : Prop :=
  (env.kindOf x = some .local ∧ m x = some u) ∨ ((env.kindOf x = some .cell ∨ env.kindOf x = some .free) ∧ ∃ c, env.cells.lookup x = some c ∧ h.IsCell c (some u))
structure Cx.Ok (X : Cx) : Prop where
  mod : Mod X.K X.mg X.base
  kind : X.env.scope.kind = .function
  glob : X.env.globals = mainGlobals
  blt : X.env.builtins = builtinsNs
  above : X.s₀.heap.objs.size ≤ X.env.locals
  inj : ∀ x y c, X.env.cells.lookup x = some c → X.env.cells.lookup y = some c → x = y
  has : ∀ x, (X.env.kindOf x = some .cell ∨ X.env.kindOf x = some .free) → ∃ c, X.env.cells.lookup x = some c
  cab : ∀ x c, X.fn x = true → X.env.cells.lookup x = some c → X.s₀.heap.objs.size ≤ c
  hd : X.calm = true → X.A.handled = none
  frames : X.A.frames = some X.stack
  stk : X.stack = X.outer ∨ (X.stack = X.env :: X.outer ∧ X.env.frame = some X.env.locals)
  exf : ∀ b ∈ X.ex, b ≠ X.env.locals ∧ ∀ x c, X.env.cells.lookup x = some c → c ≠ b
  bs : ∀ b o, X.base.get? b = some o → X.s₀.heap.get? b = some o ∧ X.H₀ b = none
  bsz : X.base.objs.size ≤ X.s₀.heap.objs.size
  noex : ∀ b o, X.base.get? b = some o → b ∉ X.ex
  exfs : ∀ b ∈ X.ex, b ∉ X.fs
  funs : X.s₀.heap.FunFrames X.base X.outer
  frf : ∀ b ∈ X.fs, X.H₀ b = none
structure Inv (X : Cx) (pins : List (Addr × Obj)) (σ : List (Option V)) (H : Hp) (s : Shared) : Prop where
  ok : X.Ok
  os : s.os = X.s₀.os
  bare : AllBare s.gens
  base : Un X.fs X.ex X.H₀ H X.s₀.heap s.heap
  loc : ∃ m, s.heap.Ns X.env.locals m ∧ ∀ (i : Nat) (x : Str) (v : V), X.N[i]? = some x → σ[i]? = some (some v) → Vis X.env.scope x → ∃ u, RelV v u ∧ Look X.env s.heap m x u
  cell : ∀ x c, X.env.cells.lookup x = some c → ∃ v, s.heap.IsCell c v
  free : H X.env.locals = none
  freeC : ∀ x c, X.env.cells.lookup x = some c → H c = none
  pin : ∀ p ∈ X.pn ++ pins, s.heap.get? p.1 = some p.2 ∧ H p.1 = none ∧ p.1 ≠ X.env.locals ∧ p.1 ∉ X.fs ∧ ∀ v, p.2.data ≠ .cell v
  hok : HOk X.prog X.w H s.heap
  len : σ.length = X.N.length
section
variable {X : Cx} {pins : List (Addr × Obj)} {σ : List (Option V)} {H H' : Hp} {s : Shared} {h' : Heap}
theorem Cx.Ok.nofr (ok : X.Ok) {b : Addr} {o : Obj} (e : X.base.get? b = some o) : b ∉ X.fs := fun hb => by
  have := (ok.funs.mem hb).1
  rw [e] at this; cases this
theorem Inv.bs (I : Inv X pins σ H s) : ∀ b o, X.base.get? b = some o → s.heap.get? b = some o ∧ H b = none := fun b o e =>
  ⟨I.base.keep b o (I.ok.bs b o e).1 (I.ok.bs b o e).2 (I.ok.nofr e) (I.ok.noex b o e), I.base.free b o (I.ok.bs b o e).1 (I.ok.bs b o e).2 (I.ok.noex b o e)⟩
theorem Inv.bk (I : Inv X pins σ H s) : ∀ b o, X.base.get? b = some o → s.heap.get? b = some o := fun b o e => (I.bs b o e).1
theorem Inv.mod (I : Inv X pins σ H s) : Mod X.K X.mg X.base := I.ok.mod
theorem Inv.kIn (I : Inv X pins σ H s) : X.K.In s.heap := I.ok.mod.kin.keeps I.bk
theorem Inv.lt (I : Inv X pins σ H s) : X.env.locals < s.heap.objs.size := let ⟨_, hn, _⟩ := I.loc; hn.lt
theorem Inv.sz (I : Inv X pins σ H s) : X.s₀.heap.objs.size ≤ s.heap.objs.size := Nat.le_trans I.ok.above (Nat.le_of_lt I.lt)
theorem Inv.nofs (I : Inv X pins σ H s) {a : Addr} (h : s.heap.objs.size ≤ a) : a ∉ X.fs := fun hb => by
  obtain ⟨_, o, ho, _⟩ := I.ok.funs.mem hb
  exact absurd (Nat.lt_of_lt_of_le (Heap.lt_size ho) (Nat.le_trans I.sz h)) (Nat.lt_irrefl _)
theorem Inv.cne (I : Inv X pins σ H s) : ∀ x c, X.env.cells.lookup x = some c → c ≠ X.env.locals := fun x c e z => by
  obtain ⟨v, o, ho, hd⟩ := I.cell x c e
  obtain ⟨m, ⟨o', es, ep, ho', hd', _⟩, _⟩ := I.loc
  rw [z, ho'] at ho; cases ho; rw [hd'] at hd; cases hd
theorem Inv.funs (I : Inv X pins σ H s) : s.heap.FunFrames X.base X.outer := by
  have all : ∀ (l : List Env), (∀ b ∈ frs l, b ∈ X.fs) → X.s₀.heap.FunFrames X.base l → s.heap.FunFrames X.base l := by
    intro l
    induction l with
    | nil => intro _ _; trivial
    | cons env r ih =>
      intro hs hl
      obtain ⟨hk, ⟨L, o, hf, hn, ho, hd⟩, hr⟩ := hl
      have hL : L ∈ X.fs := hs L (by unfold frs; rw [List.filterMap_cons, hf]; exact List.mem_cons_self)
      obtain ⟨sl, e⟩ := I.base.slot L o ho (I.ok.frf L hL) hL fun z => I.ok.exfs L z hL
      exact ⟨hk, ⟨L, _, hf, hn, e, hd⟩, ih (fun b hb => hs b (by unfold frs; rw [List.filterMap_cons, hf]; exact List.mem_cons_of_mem _ hb)) hr⟩
  exact all X.outer (fun _ hb => hb) I.ok.funs
theorem Inv.stack (I : Inv X pins σ H s) : s.heap.FunFrames X.base X.stack := by
  rcases I.ok.stk with e | ⟨e, hf⟩
  · rw [e]; exact I.funs
  · rw [e]
    obtain ⟨m, hn, _⟩ := I.loc
    refine .cons (by rw [I.ok.kind]; decide) hf hn ?_ I.funs
    exact Heap.get?_none_of_le (Nat.le_trans I.ok.bsz I.ok.above)
theorem Inv.stkSub (I : Inv X pins σ H s) : ∀ b ∈ frs X.stack, b ∈ X.env.locals :: X.fs := fun b hb => by
  rcases I.ok.stk with e | ⟨e, hf⟩
  · rw [e] at hb; exact List.mem_cons_of_mem _ hb
  · rw [e] at hb
    unfold frs at hb
    rw [List.filterMap_cons, hf] at hb
    exact hb
theorem Inv.stkFree (I : Inv X pins σ H s) : ∀ b ∈ frs X.stack, H b = none := fun b hb => by
  rcases List.mem_cons.mp (I.stkSub b hb) with e | hb
  · rw [e]; exact I.free
  · obtain ⟨_, o, ho, _⟩ := I.ok.funs.mem hb
    exact I.base.free b o ho (I.ok.frf b hb) fun z => I.ok.exfs b z hb
theorem Inv.step {g' : Array GenState} {t' : Nat} {d' : Drawn} {ch : List Addr} (I : Inv X pins σ H s)
    (hch : ∀ b ∈ ch, (b ∈ X.ex ∨ X.s₀.heap.objs.size ≤ b) ∧ b ≠ X.env.locals ∧ (∀ x c, X.env.cells.lookup x = some c → c ≠ b) ∧ ∀ p ∈ X.pn ++ pins, p.1 ≠ b)
    (keep : ∀ b o, b ≠ X.env.locals → b ∉ X.fs → b ∉ ch → s.heap.get? b = some o → H b = none → h'.get? b = some o)
    (slot : ∀ b o, b ≠ X.env.locals → b ∈ X.fs → b ∉ ch → s.heap.get? b = some o → H b = none → ∃ sl, h'.get? b = some { o with slots := sl }) (free : ∀ b o, b ∉ ch → s.heap.get? b = some o → H b = none → H' b = none)
    (there : ∀ b o, b ∉ ch → s.heap.get? b = some o → ∃ o', h'.get? b = some o')
    (tups : ∀ b xs, H b = some (.tup xs) → H' b = some (.tup xs)) (frzs : ∀ b o u, H b = some (.frz o u) → H' b = some (.frz o u)) (tbls : ∀ b ps, H b = some (.tbl ps) → ∃ more, H' b = some (.tbl (ps ++ more)))
    (ns : ∀ m, s.heap.Ns X.env.locals m → h'.Ns X.env.locals m) (hok : HOk X.prog X.w H' h') (hg : AllBare g') :
    Inv X pins σ H' { s with heap := h', gens := g', drawn := d', toks := t' } := by
  have neL : ∀ b o, X.s₀.heap.get? b = some o → b ≠ X.env.locals := fun b o e => Nat.ne_of_lt (Nat.lt_of_lt_of_le (Heap.lt_size e) I.ok.above)
  have neC : ∀ b o, X.s₀.heap.get? b = some o → b ∉ X.ex → b ∉ ch := fun b o e hx hb => by
    rcases (hch b hb).1 with z | z
    · exact hx z
    · exact absurd (Nat.lt_of_lt_of_le (Heap.lt_size e) z) (Nat.lt_irrefl _)
  have cellK : ∀ x c, X.env.cells.lookup x = some c → ∀ v, s.heap.IsCell c v → h'.IsCell c v := fun x c e v ⟨o, ho, hd⟩ => by
    have nch : c ∉ ch := fun z => (hch c z).2.2.1 x c e rfl
    by_cases hc : c ∈ X.fs
    · obtain ⟨sl, q⟩ := slot c o (I.cne x c e) hc nch ho (I.freeC x c e)
      exact ⟨_, q, hd⟩
    · exact ⟨o, keep c o (I.cne x c e) hc nch ho (I.freeC x c e), hd⟩
  refine ⟨I.ok, I.os, hg, ⟨fun b o e n hb hx => ?_, fun b o e n hb hx => ?_, fun b o e n hx => ?_, fun b o e hx => ?_, fun b xs e => tups b xs (I.base.tups b xs e), fun b o xs e => frzs b o xs (I.base.frzs b o xs e), fun b ps e => ?_⟩, ?_, fun x c e => ?_, ?_, fun x c e => ?_, fun p hp => ?_, hok, I.len⟩
  · exact keep b o (neL b o e) hb (neC b o e hx) (I.base.keep b o e n hb hx) (I.base.free b o e n hx)
  · obtain ⟨sl, e1⟩ := I.base.slot b o e n hb hx
    obtain ⟨sl', e2⟩ := slot b _ (neL b o e) hb (neC b o e hx) e1 (I.base.free b o e n hx)
    exact ⟨sl', e2⟩
  · obtain ⟨o', e1⟩ := I.base.there b o e hx
    exact free b o' (neC b o e hx) e1 (I.base.free b o e n hx)
  · obtain ⟨o', e1⟩ := I.base.there b o e hx
    exact there b o' (neC b o e hx) e1
  · obtain ⟨m1, e1⟩ := I.base.tbls b ps e
    obtain ⟨m2, e2⟩ := tbls b _ e1
    exact ⟨m1 ++ m2, by rw [e2, Array.append_assoc]⟩
  · obtain ⟨m, hn, hl⟩ := I.loc
    refine ⟨m, ns m hn, fun i x v e1 e2 e3 => ?_⟩
    obtain ⟨u, r, l⟩ := hl i x v e1 e2 e3
    refine ⟨u, r, ?_⟩
    rcases l with l | ⟨k, c, e, z⟩
    · exact .inl l
    · exact .inr ⟨k, c, e, cellK x c e _ z⟩
  · obtain ⟨v, z⟩ := I.cell x c e
    exact ⟨v, cellK x c e v z⟩
  · obtain ⟨m, ⟨o, _, _, ho, _⟩, _⟩ := I.loc
    exact free _ o (fun z => (hch _ z).2.1 rfl) ho I.free
  · obtain ⟨v, o, ho, hd⟩ := I.cell x c e
    exact free c o (fun z => (hch c z).2.2.1 x c e rfl) ho (I.freeC x c e)
  · obtain ⟨e, n, ne, nf, d⟩ := I.pin p hp
    have nch : p.1 ∉ ch := fun z => (hch p.1 z).2.2.2 p hp rfl
    exact ⟨keep p.1 p.2 ne nf nch e n, free p.1 p.2 nch e n, ne, nf, d⟩
theorem Inv.un {t' : Nat} (I : Inv X pins σ H s) (u : Un X.fs [] H H' s.heap h') (hok : HOk X.prog X.w H' h') : Inv X pins σ H' { s with heap := h', toks := t' } := by
  obtain ⟨m, ⟨o, es, ep, ho, r⟩, _⟩ := id I.loc
  obtain ⟨sl, hL⟩ := u.any ho I.free (by simp)
  exact I.step (g' := s.gens) (d' := s.drawn) (ch := []) (fun _ z => nomatch z) (fun b o _ hb _ e n => u.keep b o e n hb (by simp)) (fun b o _ hb _ e n => u.slot b o e n hb (by simp)) (fun b o _ e n => u.free b o e n (by simp)) (fun b o _ e => u.there b o e (by simp)) u.tups u.frzs u.tbls (fun m' hm => by
    obtain ⟨o', es', ep', ho', r'⟩ := hm
    rw [ho] at ho'; cases ho'
    exact ⟨_, es', ep', hL, r'⟩) hok I.bare
theorem Inv.call {g' : Array GenState} {t' : Nat} {d' : Drawn} {ch : List Addr} (I : Inv X pins σ H s) (u : Un (frs X.stack) ch H H' s.heap h') (hok : HOk X.prog X.w H' h') (hg : AllBare g')
    (hch : ∀ b ∈ ch, (b ∈ X.ex ∨ X.s₀.heap.objs.size ≤ b) ∧ b ≠ X.env.locals ∧ (∀ x c, X.env.cells.lookup x = some c → c ≠ b) ∧ ∀ p ∈ X.pn ++ pins, p.1 ≠ b) :
    Inv X pins σ H' { s with heap := h', gens := g', drawn := d', toks := t' } := by
  obtain ⟨m, ⟨o, es, ep, ho, r⟩, _⟩ := id I.loc
  obtain ⟨sl, hL⟩ := u.any ho I.free fun z => (hch _ z).2.1 rfl
  exact I.step (ch := ch) hch (fun b o hL hb hc e n => u.keep b o e n (fun z => (List.mem_cons.mp (I.stkSub b z)).elim hL hb) hc) (fun b o _ _ hc e n => u.any e n hc) (fun b o hc e n => u.free b o e n hc) (fun b o hc e => u.there b o e hc) u.tups u.frzs u.tbls (fun m' hm => by
    obtain ⟨o', es', ep', ho', r'⟩ := hm
    rw [ho] at ho'; cases ho'
    exact ⟨_, es', ep', hL, r'⟩) hok hg
theorem Inv.turned {t' : Nat} {it : Addr} (I : Inv X pins σ H s) (k : ∀ b o, b ≠ it → s.heap.get? b = some o → h'.get? b = some o) (hn : H it = none) (hL : it ≠ X.env.locals)
    (h1 : it ∈ X.ex ∨ X.s₀.heap.objs.size ≤ it) (h2 : ∀ x c, X.env.cells.lookup x = some c → c ≠ it) (h3 : ∀ p ∈ X.pn ++ pins, p.1 ≠ it) : Inv X pins σ H { s with heap := h', toks := t' } := by
  have nit : ∀ b u, H b = some u → b ≠ it := fun b u e z => by rw [z, hn] at e; cases e
  refine I.step (g' := s.gens) (d' := s.drawn) (ch := [it]) (fun b hb => ?_) (fun b o _ _ hc e _ => k b o (fun z => hc (by simp [z])) e) (fun b o _ _ hc e _ => ⟨o.slots, k b o (fun z => hc (by simp [z])) e⟩) (fun _ _ _ _ n => n)
    (fun b o hc e => ⟨o, k b o (fun z => hc (by simp [z])) e⟩) (fun _ _ e => e) (fun _ _ _ e => e) (fun b ps e => ⟨#[], by rw [e]; simp⟩) (fun m hm => ?_) (fun b u e => ?_) I.bare
  · have e : b = it := by simpa using hb
    subst e
    exact ⟨h1, hL, h2, h3⟩
  · obtain ⟨o, es, ep, ho, r⟩ := hm
    exact ⟨o, es, ep, k _ o (Ne.symm hL) ho, r⟩
  · refine (I.hok b u e).stay (fun c v hc q => k c v ?_ q) (fun _ q => q) fun _ _ q => q
    rcases hc with z | z
    · rw [z]; exact nit b u e
    · exact nit c _ z
theorem Inv.tok (I : Inv X pins σ H s) (t : Nat) : Inv X pins σ H { s with toks := t } := I.un (h' := s.heap) (t' := t) Un.refl I.hok
theorem Inv.kept {t' : Nat} (I : Inv X pins σ H s) (k : ∀ b u, s.heap.get? b = some u → h'.get? b = some u) : Inv X pins σ H { s with heap := h', toks := t' } := I.un (Un.kept k) (I.hok.kept k)
theorem Inv.laid {a : Addr} {o : HO} {t' : Nat} (I : Inv X pins σ H s) (k : ∀ b u, s.heap.get? b = some u → h'.get? b = some u) (hp : s.heap.objs.size ≤ a) (new : ObjOk X.prog X.w (upd H a o) h' a o) :
    Inv X pins σ (upd H a o) { s with heap := h', toks := t' } := I.un (Un.laid k hp (I.hok.fresh hp)) (I.hok.laid k hp new)
theorem Inv.write {x e : Addr} {o : HO} {t' : Nat} (I : Inv X pins σ H s) (mu : Mut (H x)) (he : e = x ∨ H e = some (.own x)) (k : ∀ b u, b ≠ e → s.heap.get? b = some u → h'.get? b = some u) (heo : ∃ u, h'.get? e = some u)
    (new : ObjOk X.prog X.w (upd H x o) h' x o) : Inv X pins σ (upd H x o) { s with heap := h', toks := t' } := I.un (Un.write mu he k heo) (I.hok.write mu he k heo new)
theorem Inv.pins_of {pins' : List (Addr × Obj)} (I : Inv X pins σ H s) (h : ∀ p ∈ pins', s.heap.get? p.1 = some p.2 ∧ H p.1 = none ∧ p.1 ≠ X.env.locals ∧ p.1 ∉ X.fs ∧ ∀ v, p.2.data ≠ .cell v) : Inv X pins' σ H s :=
  ⟨I.ok, I.os, I.bare, I.base, I.loc, I.cell, I.free, I.freeC, fun p hp => (List.mem_append.mp hp).elim (fun z => I.pin p (List.mem_append_left _ z)) (h p), I.hok, I.len⟩
theorem nodup_ix {N : List Str} (hN : N.Nodup) {i j : Nat} {x : Str} (a : N[i]? = some x) (b : N[j]? = some x) : i = j := by
  obtain ⟨h1, e1⟩ := List.getElem?_eq_some_iff.mp a
  obtain ⟨h2, e2⟩ := List.getElem?_eq_some_iff.mp b
  exact (List.getElem_inj hN).mp (e1.trans e2.symm)
theorem store_ok2 {M : Model} {A : Around} {E : Value → Shared → Prop} {i : Nat} {x : Str} {v : V} {u : Value} {Q : Unit → Shared → Prop} (I : Inv X pins σ H s) (hN : X.N.Nodup) (hi : X.N[i]? = some x) (hx : Loc X.env.scope x) (r : RelV v u)
    (h : ∀ s', Inv X pins (σ.set i (some v)) H s' → (∃ a, Heap.SameBut a s.heap s'.heap ∧ (a = X.env.locals ∨ X.env.cells.lookup x = some a)) → Q () s') (hf : X.fn x = true ∨ X.env.scope.names.lookup x = some .local := by first | exact .inl rfl | exact .inr rfl | assumption) : wpAny M A (storeName X.env x u) Q E s := by
  obtain ⟨m, hn, hl⟩ := id I.loc
  have hcls : (X.env.scope.kind == .class || (X.env.scope.kind == .module && X.env.locals != X.env.globals)) = false := by rw [I.ok.kind]; rfl
  have hiσ : i < σ.length := by rw [I.len]; exact (List.getElem?_eq_some_iff.mp hi).1
  have cne := I.cne
  have tracked : ∀ {a : Addr} {h' : Heap}, (∃ o, s.heap.get? a = some o ∧ H a = none) → Heap.SameBut a s.heap h' → HOk X.prog X.w H h' := fun {a h'} ha hs b ob e => by
    obtain ⟨_, _, hfree⟩ := ha
    refine (I.hok b ob e).stay (fun c w' hc q => (hs.2 c ?_).trans q) (fun _ q => q) fun _ _ q => q
    rintro rfl
    rcases hc with rfl | hc
    · rw [hfree] at e; cases e
    · rw [hfree] at hc; cases hc
  rcases hx with hk | hk
  · refine wpAny_storeName_local hk hn (fun h' hn' hs => ?_) hcls
    obtain ⟨oL, _, _, hoL, _⟩ := id hn
    refine h _ ⟨I.ok, I.os, I.bare, ⟨fun b o e n hb hx => ?_, fun b o e n hb hx => ?_, I.base.free, fun b o e hx => ?_, I.base.tups, I.base.frzs, I.base.tbls⟩, ⟨_, hn', fun j y v' e1 e2 e3 => ?_⟩, fun y c e => ?_, I.free, I.freeC, fun p hp => ?_, tracked ⟨oL, hoL, I.free⟩ hs, by simpa using I.len⟩ ⟨_, hs, .inl rfl⟩
    · exact (hs.2 b (Nat.ne_of_lt (Nat.lt_of_lt_of_le (Heap.lt_size e) I.ok.above))).trans (I.base.keep b o e n hb hx)
    · obtain ⟨sl, e1⟩ := I.base.slot b o e n hb hx
      exact ⟨sl, (hs.2 b (Nat.ne_of_lt (Nat.lt_of_lt_of_le (Heap.lt_size e) I.ok.above))).trans e1⟩
    · obtain ⟨o', e1⟩ := I.base.there b o e hx
      exact ⟨o', (hs.2 b (Nat.ne_of_lt (Nat.lt_of_lt_of_le (Heap.lt_size e) I.ok.above))).trans e1⟩
    · by_cases hj : j = i
      · subst hj
        rw [hi] at e1; cases e1
        rw [List.getElem?_set_self hiσ] at e2
        cases e2
        exact ⟨u, r, .inl ⟨hk, by simp⟩⟩
      · rw [List.getElem?_set_ne (Ne.symm hj)] at e2
        obtain ⟨u', r', q⟩ := hl j y v' e1 e2 e3
        refine ⟨u', r', ?_⟩
        rcases q with ⟨k, e⟩ | ⟨k, c, e, z⟩
        · refine .inl ⟨k, ?_⟩
          have : y ≠ x := fun e => hj (nodup_ix hN e1 (e ▸ hi))
          simp [this, e]
        · exact .inr ⟨k, c, e, z.sameBut hs (cne y c e)⟩
    · obtain ⟨w', z⟩ := I.cell y c e
      exact ⟨w', z.sameBut hs (cne y c e)⟩
    · obtain ⟨e, n, ne, nf, d⟩ := I.pin p hp
      exact ⟨(hs.2 p.1 ne).trans e, n, ne, nf, d⟩
  · have hfn : X.fn x = true := by
      rcases hf with z | z
      · exact z
      · rw [z] at hk; cases hk
    obtain ⟨c, hc⟩ := I.ok.has x (.inl hk)
    obtain ⟨w', z⟩ := I.cell x c hc
    refine wpAny_storeName_cell I.ok.kind hk hc z (fun h' hc' hs => ?_)
    obtain ⟨oc, hoc, hocd⟩ := id z
    refine h { s with heap := h' } ⟨I.ok, I.os, I.bare, ⟨fun b o e n hb hx => ?_, fun b o e n hb hx => ?_, I.base.free, fun b o e hx => ?_, I.base.tups, I.base.frzs, I.base.tbls⟩, ⟨m, hn.sameBut hs (Ne.symm (cne x c hc)), fun j y v' e1 e2 e3 => ?_⟩, fun y c' e => ?_, I.free, I.freeC, fun p hp => ?_, tracked ⟨oc, hoc, I.freeC x c hc⟩ hs, by simpa using I.len⟩ ⟨c, hs, .inr hc⟩
    · exact (hs.2 b (Nat.ne_of_lt (Nat.lt_of_lt_of_le (Heap.lt_size e) (I.ok.cab x c hfn hc)))).trans (I.base.keep b o e n hb hx)
    · obtain ⟨sl, e1⟩ := I.base.slot b o e n hb hx
      exact ⟨sl, (hs.2 b (Nat.ne_of_lt (Nat.lt_of_lt_of_le (Heap.lt_size e) (I.ok.cab x c hfn hc)))).trans e1⟩
    · obtain ⟨o', e1⟩ := I.base.there b o e hx
      exact ⟨o', (hs.2 b (Nat.ne_of_lt (Nat.lt_of_lt_of_le (Heap.lt_size e) (I.ok.cab x c hfn hc)))).trans e1⟩
    · by_cases hj : j = i
      · subst hj
        rw [hi] at e1; cases e1
        rw [List.getElem?_set_self hiσ] at e2
        cases e2
        exact ⟨u, r, .inr ⟨.inl hk, c, hc, hc'⟩⟩
      · rw [List.getElem?_set_ne (Ne.symm hj)] at e2
        obtain ⟨u', r', q⟩ := hl j y v' e1 e2 e3
        refine ⟨u', r', ?_⟩
        rcases q with q | ⟨k, c', e, z'⟩
        · exact .inl q
        · refine .inr ⟨k, c', e, z'.sameBut hs ?_⟩
          rintro rfl
          exact hj (nodup_ix hN e1 (I.ok.inj _ _ _ e hc ▸ hi))
    · by_cases hcc : c' = c
      · subst hcc; exact ⟨_, hc'⟩
      · obtain ⟨w2, z2⟩ := I.cell y c' e
        exact ⟨w2, z2.sameBut hs hcc⟩
    · obtain ⟨e, n, ne, nf, d⟩ := I.pin p hp
      refine ⟨(hs.2 p.1 ?_).trans e, n, ne, nf, d⟩
      intro q
      rw [q, hoc] at e
      have q' : oc = p.2 := Option.some.inj e
      exact d w' (by rw [← q']; exact hocd)
theorem store_ok {M : Model} {A : Around} {E : Value → Shared → Prop} {i : Nat} {x : Str} {v : V} {u : Value} {Q : Unit → Shared → Prop} (I : Inv X pins σ H s) (hN : X.N.Nodup) (hi : X.N[i]? = some x) (hx : Loc X.env.scope x) (r : RelV v u)
    (h : ∀ s', Inv X pins (σ.set i (some v)) H s' → Q () s') (hf : X.fn x = true ∨ X.env.scope.names.lookup x = some .local := by first | exact .inl rfl | exact .inr rfl | assumption) : wpAny M A (storeName X.env x u) Q E s :=
  store_ok2 I hN hi hx r (fun s' I' _ => h s' I') hf
theorem Inv.call' {s' : Shared} {ch : List Addr} (I : Inv X pins σ H s) (ho : s'.os = s.os) (u : Un (frs X.stack) ch H H' s.heap s'.heap) (hok : HOk X.prog X.w H' s'.heap) (hg : AllBare s'.gens)
    (hch : ∀ b ∈ ch, (b ∈ X.ex ∨ X.s₀.heap.objs.size ≤ b) ∧ b ≠ X.env.locals ∧ (∀ x c, X.env.cells.lookup x = some c → c ≠ b) ∧ ∀ p ∈ X.pn ++ pins, p.1 ≠ b) : Inv X pins σ H' s' := by
  obtain ⟨h', g', d', t', o'⟩ := s'
  have e : o' = s.os := ho
  subst e
  exact I.call (g' := g') (t' := t') (d' := d') u hok hg hch
end
noncomputable abbrev XK := Value → Option Addr → Hp → Prop
noncomputable abbrev St := List (Option V)
noncomputable abbrev VK := V → Hp → Prop
noncomputable abbrev TE := St → Hp → VK → Prop
noncomputable abbrev TT := St → Hp → (Bool → Hp → Prop) → Prop
noncomputable abbrev TA := St → Hp → (List V → Hp → Prop) → Prop
structure Ends where
  nx : St → Hp → Prop
  rt : VK
  bk : St → Hp → Prop := fun _ _ => False
  ct : St → Hp → Prop := fun _ _ => False
noncomputable abbrev TS := Ends → St → Hp → Prop
noncomputable def EP (X : Cx) (pins : List (Addr × Obj)) (σ : St) (Q : VK) (u : Value) (s' : Shared) : Prop := ∃ v H', Inv X pins σ H' s' ∧ RelV v u ∧ Q v H'
noncomputable def TP (X : Cx) (pins : List (Addr × Obj)) (σ : St) (Q : Bool → Hp → Prop) (b : Bool) (s' : Shared) : Prop := ∃ H', Inv X pins σ H' s' ∧ Q b H'
noncomputable def AP (X : Cx) (pins : List (Addr × Obj)) (σ : St) (Q : List V → Hp → Prop) (us : List Value) (s' : Shared) : Prop := ∃ vs H', Inv X pins σ H' s' ∧ Vals vs us ∧ Q vs H'
noncomputable def SP (X : Cx) (pins : List (Addr × Obj)) (D : Ends) (f : Flow) (s' : Shared) : Prop :=
  match f with
  | .next => ∃ σ' H', Inv X pins σ' H' s' ∧ D.nx σ' H'
  | .brk => ∃ σ' H', Inv X pins σ' H' s' ∧ D.bk σ' H'
  | .cont => ∃ σ' H', Inv X pins σ' H' s' ∧ D.ct σ' H'
  | .ret u => ∃ v σ' H', Inv X pins σ' H' s' ∧ RelV v u ∧ D.rt v H'
noncomputable def PE (X : Cx) (e : Expr) (t : TE) : Prop :=
  ∀ (pins : List (Addr × Obj)) (s : Shared) (σ : St) (H : Hp) (Q : VK), Inv X pins σ H s → t σ H Q → wpAny (model X.prog X.w) X.A (eval e X.env) (EP X pins σ Q) X.xe s
noncomputable def PT (X : Cx) (e : Expr) (t : TT) : Prop :=
  ∀ (pins : List (Addr × Obj)) (s : Shared) (σ : St) (H : Hp) (Q : Bool → Hp → Prop), Inv X pins σ H s → t σ H Q → wpAny (model X.prog X.w) X.A (isTrue e X.env (eval e X.env)) (TP X pins σ Q) X.xe s
noncomputable def PW (X : Cx) (e : Expr) (t : TT) : Prop :=
  ∀ (whole : Sem Value) (pins : List (Addr × Obj)) (s : Shared) (σ : St) (H : Hp) (Q : Bool → Hp → Prop), Inv X pins σ H s → t σ H Q → wpAny (model X.prog X.w) X.A (isTrue e X.env whole) (TP X pins σ Q) X.xe s
theorem PW.pt {X : Cx} {e : Expr} {t : TT} (h : PW X e t) : PT X e t := h _
noncomputable def PA (X : Cx) (es : List Expr) (t : TA) : Prop :=
  ∀ (pos : Pos) (pins : List (Addr × Obj)) (s : Shared) (σ : St) (H : Hp) (Q : List V → Hp → Prop), Inv X pins σ H s → t σ H Q → wpAny (model X.prog X.w) X.A (spliced (backTo pos (starEach es X.env))) (AP X pins σ Q) X.xe s
noncomputable def PS (X : Cx) (st : Stmt) (t : TS) : Prop :=
  ∀ (pins : List (Addr × Obj)) (s : Shared) (σ : St) (H : Hp) (D : Ends), Inv X pins σ H s → t D σ H → wpAny (model X.prog X.w) X.A (exec st X.env) (SP X pins D) X.xe s
noncomputable def PSs (X : Cx) (st : List Stmt) (t : TS) : Prop :=
  ∀ (pins : List (Addr × Obj)) (s : Shared) (σ : St) (H : Hp) (D : Ends), Inv X pins σ H s → t D σ H → wpAny (model X.prog X.w) X.A (execs st X.env) (SP X pins D) X.xe s
theorem thn {α : Type} {t : Sem α} {Q Q' : α → Shared → Prop} {M : Model} {A : Around} {E : Value → Shared → Prop} {s : Shared} (h : wpAny M A t Q E s) (hQ : ∀ a s, Q a s → Q' a s) : wpAny M A t Q' E s := wpAny_mono h hQ fun _ _ x => x
end L2
namespace L2
open PySem PySem.Spec PyProof.Rows
section
variable {X : Cx}
noncomputable def tVar (i : Nat) : TE := fun σ H Q => match σ[i]? with | some (some v) => Q v H | _ => False
theorem tVar_ex {i : Nat} {σ : St} {H : Hp} {Q : VK} (h : tVar i σ H Q) : ∃ v, σ[i]? = some (some v) ∧ Q v H := by
  unfold tVar at h
  split at h
  · rename_i v e; exact ⟨v, e, h⟩
  · exact h.elim
noncomputable def tC (v : V) : TE := fun _ H Q => Q v H
theorem pe_var {i : Nat} {x : Str} {pos : Pos} (hN : X.N[i]? = some x) (hv : Vis X.env.scope x) (hd : (x == ("__debug__" : Str)) = false := by decide) (hcd : (x == ("__classdict__" : Str)) = false := by decide) : PE X (.Name x pos) (tVar i) := by
  intro pins s σ H Q I h
  obtain ⟨v, e, h⟩ := tVar_ex h
  obtain ⟨m, hn, hl⟩ := I.loc
  obtain ⟨u, r, l⟩ := hl i x v hN e hv
  have fin : EP X pins σ Q u s := ⟨v, H, I, r, h⟩
  rcases l with ⟨hk, hm⟩ | ⟨hk, c, hc, hcell⟩
  · exact wpAny_Name (wpAny_loadName_local I.ok.kind hk hn hm fin) hd
  · rcases hk with hk | hk
    · exact wpAny_Name (wpAny_loadName_cell I.ok.kind hk hc hcell fin) hd
    · exact wpAny_Name (wpAny_loadName_free I.ok.kind hk hc hcell fin hcd) hd
theorem pe_int {i j pos} : PE X (.Constant (.int i) j pos) (tC (.int i)) := fun _ _ _ H _ I h => wpAny_Constant_int ⟨.int i, H, I.tok _, ⟨_, rfl⟩, h⟩
theorem pe_bl {b j pos} : PE X (.Constant (.bool b) j pos) (tC (.bl b)) := fun _ _ _ H _ I h => Constant_bool ⟨.bl b, H, I, rfl, h⟩
theorem pe_non {j pos} : PE X (.Constant .none j pos) (tC .non) := fun _ _ _ H _ I h => Constant_none ⟨.non, H, I, rfl, h⟩
theorem pe_str {x j pos} : PE X (.Constant (.str x) j pos) (tC (.str x)) := fun _ _ _ H _ I h => Calls.Constant_str ⟨.str x, H, I.tok _, ⟨_, rfl⟩, h⟩
noncomputable def Gl (X : Cx) (x : Str) : Prop := X.env.kindOf x = some .globalImplicit
theorem ld_glob {E : Value → Shared → Prop} {pins : List (Addr × Obj)} {s : Shared} {σ : St} {H : Hp} {x : Str} {u : Value} {pos : Pos} {Q : Value → Shared → Prop} (I : Inv X pins σ H s) (hg : Gl X x) (hm : X.mg x = some u) (h : Q u s)
    (hd : (x == ("__debug__" : Str)) = false := by decide) : wpAny (model X.prog X.w) X.A (eval (.Name x pos) X.env) Q E s :=
  Calls.Name_function_global I.ok.kind hg (Calls.loadGlobal_global (by rw [I.ok.glob]; exact I.mod.glob.keeps I.bk) hm h) hd
theorem ld_blt {E : Value → Shared → Prop} {pins : List (Addr × Obj)} {s : Shared} {σ : St} {H : Hp} {x : Str} {u : Value} {pos : Pos} {Q : Value → Shared → Prop} (I : Inv X pins σ H s) (hg : Gl X x) (hm : X.mg x = none) (hv : bootBuiltins x = some u) (h : Q u s)
    (hn : x ≠ "__name__" := by decide) (hd : (x == ("__debug__" : Str)) = false := by decide) : wpAny (model X.prog X.w) X.A (eval (.Name x pos) X.env) Q E s := by
  obtain ⟨mb, h1, h2⟩ := I.mod.blt
  exact Calls.Name_function_global I.ok.kind hg (Calls.loadGlobal_builtin (by rw [I.ok.glob]; exact I.mod.glob.keeps I.bk) hm (by rw [I.ok.blt]; exact h1.keeps I.bk) ((h2 x hn).trans hv) h) hd
theorem pe_glob {x : Str} {v : V} {u : Value} {pos : Pos} (hg : Gl X x) (hm : X.mg x = some u) (r : RelV v u) (hd : (x == ("__debug__" : Str)) = false := by decide) : PE X (.Name x pos) (tC v) :=
  fun _ _ _ H _ I h => ld_glob I hg hm ⟨v, H, I, r, h⟩ hd
theorem pe_bltn {x : Str} {v : V} {u : Value} {pos : Pos} (hg : Gl X x) (hm : X.mg x = none) (hv : bootBuiltins x = some u) (r : RelV v u) (hn : x ≠ "__name__" := by decide) (hd : (x == ("__debug__" : Str)) = false := by decide) : PE X (.Name x pos) (tC v) :=
  fun _ _ _ H _ I h => ld_blt I hg hm hv ⟨v, H, I, r, h⟩ hn hd
variable {a b : Expr} {ta tb : TE} {pos : Pos}
noncomputable def PC (X : Cx) (op : CmpOp) (a b : Expr) (t : TE) : Prop :=
  ∀ (pins : List (Addr × Obj)) (s : Shared) (σ : St) (H : Hp) (Q : VK), Inv X pins σ H s → t σ H Q →
    wpAny (model X.prog X.w) X.A (eval a X.env) (fun v s₁ => wpAny (model X.prog X.w) X.A (eval b X.env) (fun u s₂ => wpAny (model X.prog X.w) X.A (compareOp op v u) (EP X pins σ Q) X.xe s₂) X.xe s₁) X.xe s
noncomputable def tB (t : TE) : TT := fun σ H Q => t σ H fun x H1 => ∃ c, x = .bl c ∧ Q c H1
theorem pt_cmp {op : CmpOp} {t : TE} (h : PC X op a b t) (h1 : behindInMarks op b = false := by first | exact nobehind _ (by decide) (by decide) | rfl) : PT X (.Compare a [op] [b] pos) (tB t) := by
  intro pins s σ H Q I hw
  refine wpAny_isTrue_Compare1 (thn (h pins s σ H _ I hw) fun v s1 h1 => thn h1 fun u s2 h2 => thn h2 fun c s3 ⟨x, H1, I1, r1, q1⟩ => ?_) h1
  obtain ⟨d, rfl, q⟩ := q1
  cases r1
  exact wpAny_truthy_bool ⟨H1, I1, q⟩
theorem pt_val {e : Expr} {t : TE} (h : PE X e t) (he : ∀ whole, isTrue e X.env whole = (do let v ← whole; standAt e.pos; holding [v] (truthy v)) := by intro _; rfl) : PT X e (tB t) := by
  intro pins s σ H Q I hw
  refine isTrue_plain (thn (h pins s σ H _ I hw) fun v s1 ⟨x, H1, I1, r1, q1⟩ => ?_) (he _)
  obtain ⟨d, rfl, q⟩ := q1
  cases r1
  exact wpAny_truthy_bool ⟨H1, I1, q⟩
variable {tA tB' : TT} {rest : List Expr}
noncomputable def tAnd (t u : TT) : TT := fun σ H Q => t σ H fun c H1 => if c = true then u σ H1 Q else Q false H1
noncomputable def tOr (t u : TT) : TT := fun σ H Q => t σ H fun c H1 => if c = true then Q true H1 else u σ H1 Q
noncomputable def tNot (t : TT) : TT := fun σ H Q => t σ H fun c H1 => Q (!c) H1
theorem pw_and1 (ha : PT X a tA) : PW X (.BoolOp .And [a] pos) tA := by
  intro wh pins s σ H Q I h
  refine isTrue_and (thn (ha pins s σ H Q I h) fun c s1 e => ?_)
  cases c with
  | true => exact isTrue_and_nil e
  | false => exact e
theorem pw_or1 (ha : PT X a tA) : PW X (.BoolOp .Or [a] pos) tA := by
  intro wh pins s σ H Q I h
  refine isTrue_or (thn (ha pins s σ H Q I h) fun c s1 e => ?_)
  cases c with
  | false => exact isTrue_or_nil e
  | true => exact e
theorem pw_and (ha : PT X a tA) (hb : PW X (.BoolOp .And (b :: rest) pos) tB') : PW X (.BoolOp .And (a :: b :: rest) pos) (tAnd tA tB') := by
  intro wh pins s σ H Q I h
  refine isTrue_and (thn (ha pins s σ H _ I h) fun c s1 ⟨H1, I1, q1⟩ => ?_)
  cases c with
  | true => exact hb wh pins s1 σ H1 Q I1 q1
  | false => exact ⟨H1, I1, q1⟩
theorem pw_or (ha : PT X a tA) (hb : PW X (.BoolOp .Or (b :: rest) pos) tB') : PW X (.BoolOp .Or (a :: b :: rest) pos) (tOr tA tB') := by
  intro wh pins s σ H Q I h
  refine isTrue_or (thn (ha pins s σ H _ I h) fun c s1 ⟨H1, I1, q1⟩ => ?_)
  cases c with
  | true => exact ⟨H1, I1, q1⟩
  | false => exact hb wh pins s1 σ H1 Q I1 q1
theorem pt_not (ha : PT X a tA) : PT X (.UnaryOp .Not a pos) (tNot tA) := by
  intro pins s σ H Q I h
  exact isTrue_not (ha pins s σ H (fun c H1 => Q (!c) H1) I h)
noncomputable def tAndV (ta tb : TE) : TE := fun σ H Q => ta σ H fun x H1 => ∃ c, x = .bl c ∧ if c = true then tb σ H1 Q else Q (.bl false) H1
noncomputable def tOrV (ta tb : TE) : TE := fun σ H Q => ta σ H fun x H1 => ∃ c, x = .bl c ∧ if c = true then Q (.bl true) H1 else tb σ H1 Q
noncomputable def tNotV (ta : TE) : TE := fun σ H Q => ta σ H fun x H1 => ∃ c, x = .bl c ∧ Q (.bl (!c)) H1
theorem pe_one {op} {t : TE} (h : PE X a t) : PE X (.BoolOp op [a] pos) t := fun pins s σ H Q I hw => BoolOp_one (h pins s σ H Q I hw)
theorem pe_and (ha : PE X a ta) (hb : PE X (.BoolOp .And (b :: rest) pos) tb) : PE X (.BoolOp .And (a :: b :: rest) pos) (tAndV ta tb) := by
  intro pins s σ H Q I h
  refine BoolOp_and (thn (ha pins s σ H _ I h) fun v s1 ⟨x, H1, I1, r1, q1⟩ => ?_)
  obtain ⟨c, rfl, q1⟩ := q1
  cases r1
  refine wpAny_truthy_bool ?_
  cases c with
  | true => exact hb pins s1 σ H1 Q I1 q1
  | false => exact ⟨.bl false, H1, I1, rfl, q1⟩
noncomputable def tIf (t : TT) (ta tb : TE) : TE := fun σ H Q => t σ H fun c H1 => if c = true then ta σ H1 Q else tb σ H1 Q
end
end L2
namespace L2
open PySem PySem.Spec PyProof.Rows
noncomputable def SqL (K : PySem.W.Frag) (H : Hp) (a : Addr) (xs : List V) : Prop :=
  Rd H a (.lst xs) ∨
    ∃ (o : Obj) (its : Array Value) (n : Nat), K.lookup a = some o ∧ o.cls = .type "list" ∧ o.dict = none ∧ o.data = .seq its n ∧ its.size ≤ sizeLine ∧ Vals xs its.toList
noncomputable def SqT (K : PySem.W.Frag) (H : Hp) (a : Addr) (xs : List V) : Prop :=
  Rd H a (.tup xs) ∨
    ∃ (o : Obj) (its : Array Value) (n : Nat), K.lookup a = some o ∧ o.cls = .type "tuple" ∧ o.data = .seq its n ∧ its.size ≤ sizeLine ∧ Vals xs its.toList
noncomputable def absV : Value → Option V
  | .none => some .non
  | .bool b => some (.bl b)
  | .int i _ => some (.int i)
  | .str x _ => some (.str x)
  | .bytes b _ => some (.byt b)
  | .float b _ => some (.flt b)
  | .ref a => some (.ref a)
  | .type n => some (.ty n)
  | _ => none
theorem RelV.abs {x : V} {u : Value} (r : RelV x u) : absV u = some x := by
  cases x with
  | non => cases r; rfl
  | bl _ => cases r; rfl
  | int _ => obtain ⟨t, rfl⟩ := r; rfl
  | str _ => obtain ⟨t, rfl⟩ := r; rfl
  | byt _ => obtain ⟨t, rfl⟩ := r; rfl
  | flt _ => obtain ⟨t, rfl⟩ := r; rfl
  | ref _ => cases r; rfl
  | ty _ => cases r; rfl
theorem RelV.inj {x y : V} {u : Value} (r : RelV x u) (q : RelV y u) : x = y := Option.some.inj (r.abs.symm.trans q.abs)
theorem Vals.inj : ∀ {xs ys : List V} {us : List Value}, Vals xs us → Vals ys us → xs = ys
  | _, _, _, .nil, .nil => rfl
  | _, _, _, .cons r t, .cons r' t' => by rw [r.inj r', Vals.inj t t']
section
variable {X : Cx} {pins : List (Addr × Obj)} {σ : St} {H : Hp} {s : Shared} {a : Addr} {xs ys : List V}
theorem SqL.of {K : PySem.W.Frag} (h : H a = some (.lst xs)) : SqL K H a xs := .inl (.inl h)
theorem SqT.of {K : PySem.W.Frag} (h : H a = some (.tup xs)) : SqT K H a xs := .inl (.inl h)
theorem Inv.list (I : Inv X pins σ H s) (h : SqL X.K H a xs) : ∃ its : List Value, Vals xs its ∧ PlainL s.heap a its.toArray ∧ xs.length ≤ sizeLine := by
  rcases h with h | ⟨o, its, n, hk, hc, hd, hs, hz, r⟩
  · obtain ⟨z, its, n, r, e⟩ := h.ok I.hok
    exact ⟨its, r, ⟨_, n, e, rfl, rfl, rfl⟩, z⟩
  · refine ⟨its.toList, r, ⟨o, n, I.kIn a o hk, hc, hd, by simpa using hs⟩, ?_⟩
    have e := r.length
    simp only [Array.length_toList] at e
    omega
theorem Inv.tuple (I : Inv X pins σ H s) (h : SqT X.K H a xs) : ∃ its : List Value, Vals xs its ∧ IsTup s.heap a its.toArray ∧ xs.length ≤ sizeLine := by
  rcases h with h | ⟨o, its, n, hk, hc, hs, hz, r⟩
  · obtain ⟨z, its, r, p⟩ := h.ok I.hok
    exact ⟨its, r, p, z⟩
  · refine ⟨its.toList, r, ⟨o, I.kIn a o hk, hc, n, by simpa using hs⟩, ?_⟩
    have e := r.length
    simp only [Array.length_toList] at e
    omega
theorem Inv.list_inj (I : Inv X pins σ H s) (h : SqL X.K H a xs) (h' : SqL X.K H a ys) : xs = ys := by
  obtain ⟨its, r, ⟨o, n, e, _, _, d⟩, _⟩ := I.list h
  obtain ⟨its', r', ⟨o', n', e', _, _, d'⟩, _⟩ := I.list h'
  rw [e] at e'; cases e'
  rw [d] at d'
  injection d' with d1 _
  have : its = its' := by simpa using congrArg Array.toList d1
  subst this
  exact r.inj r'
theorem Inv.tuple_inj (I : Inv X pins σ H s) (h : SqT X.K H a xs) (h' : SqT X.K H a ys) : xs = ys := by
  obtain ⟨its, r, ⟨o, e, _, n, d⟩, _⟩ := I.tuple h
  obtain ⟨its', r', ⟨o', e', _, n', d'⟩, _⟩ := I.tuple h'
  rw [e] at e'; cases e'
  rw [d] at d'
  injection d' with d1 _
  have : its = its' := by simpa using congrArg Array.toList d1
  subst this
  exact r.inj r'
end
noncomputable abbrev Cx.wish (X : Cx) (E : Value → Shared → Prop) : Cx := { X with xe := E }
noncomputable abbrev Cx.nox (X : Cx) : Cx := X.wish fun _ _ => False
theorem Cx.Ok.wish {X : Cx} (ok : X.Ok) (E : Value → Shared → Prop) : (X.wish E).Ok :=
  ⟨ok.mod, ok.kind, ok.glob, ok.blt, ok.above, ok.inj, ok.has, ok.cab, ok.hd, ok.frames, ok.stk, ok.exf, ok.bs, ok.bsz, ok.noex, ok.exfs, ok.funs, ok.frf⟩
theorem Cx.Ok.unwish {X : Cx} {E : Value → Shared → Prop} (ok : (X.wish E).Ok) : X.Ok :=
  ⟨ok.mod, ok.kind, ok.glob, ok.blt, ok.above, ok.inj, ok.has, ok.cab, ok.hd, ok.frames, ok.stk, ok.exf, ok.bs, ok.bsz, ok.noex, ok.exfs, ok.funs, ok.frf⟩
section
variable {X : Cx} {pins : List (Addr × Obj)} {σ : St} {H : Hp} {s : Shared} {E : Value → Shared → Prop}
theorem Inv.wish (I : Inv X pins σ H s) (E : Value → Shared → Prop) : Inv (X.wish E) pins σ H s := ⟨I.ok.wish E, I.os, I.bare, I.base, I.loc, I.cell, I.free, I.freeC, I.pin, I.hok, I.len⟩
theorem Inv.unwish (I : Inv (X.wish E) pins σ H s) : Inv X pins σ H s := ⟨I.ok.unwish, I.os, I.bare, I.base, I.loc, I.cell, I.free, I.freeC, I.pin, I.hok, I.len⟩
theorem SP.unwish {D : Ends} {f : Flow} {s' : Shared} (h : SP (X.wish E) pins D f s') : SP X pins D f s' := by
  cases f with
  | next => obtain ⟨σ', H', I, q⟩ := h; exact ⟨σ', H', I.unwish, q⟩
  | brk => obtain ⟨σ', H', I, q⟩ := h; exact ⟨σ', H', I.unwish, q⟩
  | cont => obtain ⟨σ', H', I, q⟩ := h; exact ⟨σ', H', I.unwish, q⟩
  | ret u => obtain ⟨v, σ', H', I, r, q⟩ := h; exact ⟨v, σ', H', I.unwish, r, q⟩
theorem PSs.nox {st : List Stmt} {t : TS} (h : PSs X.nox st t) : PSs X st t := fun pins s σ H D I hw =>
  wpAny_mono (h pins s σ H D (I.wish _) hw) (fun _ _ q => q.unwish) fun _ _ z => False.elim z
end
section
variable {X : Cx} {st : Stmt} {rest : List Stmt} {t u : TS} {e : Expr} {te : TE} {pos : Pos}
noncomputable def tNext : TS := fun D σ H => D.nx σ H
noncomputable def tSeq (t u : TS) : TS := fun D σ H => t { D with nx := u D } σ H
theorem pss_nil : PSs X [] tNext := fun _ _ σ H _ I h => wpAny_execs_nil ⟨σ, H, I, h⟩
theorem pss_cons (h1 : PS X st t) (h2 : PSs X rest u) : PSs X (st :: rest) (tSeq t u) := by
  intro pins s σ H D I h
  refine wpAny_execs_cons (thn (h1 pins s σ H { D with nx := u D } I h) fun f s1 q => ?_)
  cases f with
  | next =>
    obtain ⟨σ', H', I', q⟩ := q
    exact h2 pins s1 σ' H' D I' q
  | ret v => exact q
  | brk => exact q
  | cont => exact q
theorem pss_one (h1 : PS X st t) : PSs X [st] t := by
  intro pins s σ H D I h
  refine wpAny_execs_cons (thn (h1 pins s σ H D I h) fun f s1 q => ?_)
  cases f with
  | next => exact wpAny_execs_nil q
  | ret v => exact q
  | brk => exact q
  | cont => exact q
noncomputable def tBreak : TS := fun D σ H => D.bk σ H
theorem Inv.quiet {pins : List (Addr × Obj)} {σ : St} {H : Hp} {s : Shared} (I : Inv X pins σ H s) : interactive X.env = false := by simp [interactive, I.ok.kind]
noncomputable def tDrop (te : TE) : TS := fun D σ H => te σ H fun _ H1 => D.nx σ H1
theorem ps_expr (he : PE X e te) (hs : swapsWith e none pos.line X.env = pure false := by rfl) : PS X (.Expr e pos) (tDrop te) := by
  intro pins s σ H D I h
  exact wpAny_Expr_any (thn (he pins s σ H _ I h) fun v s1 ⟨x, H1, I1, r1, q1⟩ => ⟨σ, H1, I1, q1⟩) I.quiet hs
noncomputable def tRet (te : TE) : TS := fun D σ H => te σ H D.rt
theorem ps_ret (he : PE X e te) : PS X (.Return (some e) pos) (tRet te) := by
  intro pins s σ H D I h
  exact wpAny_Return_some (thn (he pins s σ H _ I h) fun v s1 ⟨x, H1, I1, r1, q1⟩ => ⟨x, σ, H1, I1, r1, q1⟩)
noncomputable def tRetN : TS := fun D _ H => D.rt .non H
noncomputable def tIfS (c : TT) (t u : TS) : TS := fun D σ H => c σ H fun b H1 => if b = true then t D σ H1 else u D σ H1
theorem ps_if {c : Expr} {a b : List Stmt} {tc : TT} (hc : PT X c tc) (ha : PSs X a t) (hb : PSs X b u) : PS X (.If c a b pos) (tIfS tc t u) := by
  intro pins s σ H D I h
  refine wpAny_If (thn (hc pins s σ H _ I h) fun d s1 ⟨H1, I1, q1⟩ => ?_)
  cases d with
  | true => exact ha pins s1 σ H1 D I1 q1
  | false => exact hb pins s1 σ H1 D I1 q1
noncomputable def tNever : TS := fun _ _ _ => False
theorem ps_never : PS X st tNever := fun _ _ _ _ _ _ h => h.elim
end
noncomputable abbrev TG := V → St → Hp → (St → Hp → Prop) → Prop
noncomputable abbrev TGs := List V → St → Hp → (St → Hp → Prop) → Prop
noncomputable def PG (X : Cx) (target : Expr) (t : TG) : Prop :=
  ∀ (pins : List (Addr × Obj)) (s : Shared) (σ : St) (H : Hp) (v : V) (u : Value) (Q : St → Hp → Prop), Inv X pins σ H s → RelV v u → t v σ H Q →
    wpAny (model X.prog X.w) X.A (assign target X.env u) (fun _ s' => ∃ σ' H', Inv X pins σ' H' s' ∧ Q σ' H') X.xe s
noncomputable def PGs (X : Cx) (ts : List Expr) (t : TGs) : Prop :=
  ∀ (pins : List (Addr × Obj)) (s : Shared) (σ : St) (H : Hp) (vs : List V) (us : List Value) (Q : St → Hp → Prop), Inv X pins σ H s → Vals vs us → t vs σ H Q →
    wpAny (model X.prog X.w) X.A (assignInOrder ((assignEach ts X.env).map (·.2)) us) (fun _ s' => ∃ σ' H', Inv X pins σ' H' s' ∧ Q σ' H') X.xe s
noncomputable abbrev TSet := V → V → V → Hp → (Hp → Prop) → Prop
noncomputable def PSet (X : Cx) (t : TSet) : Prop :=
  ∀ (pins : List (Addr × Obj)) (s : Shared) (σ : St) (H : Hp) (o i v : V) (ov iv u : Value) (Q : Hp → Prop), Inv X pins σ H s → RelV o ov → RelV i iv → RelV v u → t o i v H Q →
    wpAny (model X.prog X.w) X.A (setItem ov iv u) (fun _ s' => ∃ H', Inv X pins σ H' s' ∧ Q H') X.xe s
noncomputable abbrev TIp := V → V → Hp → VK → Prop
section
variable {X : Cx} {pos : Pos}
noncomputable def gName (i : Nat) : TG := fun v σ H Q => Q (σ.set i (some v)) H
theorem pg_name {i : Nat} {x : Str} (hN : X.N.Nodup) (hi : X.N[i]? = some x) (hx : Loc X.env.scope x) (hf : X.fn x = true ∨ X.env.scope.names.lookup x = some .local := by first | exact .inl rfl | exact .inr rfl | assumption) : PG X (.Name x pos) (gName i) := by
  intro pins s σ H v u Q I r h
  exact wpAny_assign_Name (store_ok I hN hi hx r (fun s' I' => ⟨_, H, I', h⟩) hf)
noncomputable def gNil : TGs := fun vs σ H Q => vs = [] ∧ Q σ H
noncomputable def gCons (t : TG) (u : TGs) : TGs := fun vs σ H Q => ∃ v r, vs = v :: r ∧ t v σ H fun σ' H' => u r σ' H' Q
theorem pgs_nil : PGs X [] gNil := by
  intro pins s σ H vs us Q I r h
  obtain ⟨e, h⟩ := h
  subst e
  cases r
  exact assignInOrder_nil ⟨σ, H, I, h⟩
theorem pgs_cons {e : Expr} {es : List Expr} {t : TG} {u : TGs} (h1 : PG X e t) (h2 : PGs X es u)
    (hs : (assignEach (e :: es) X.env).map (·.2) = assign e X.env :: (assignEach es X.env).map (·.2) := by rfl) : PGs X (e :: es) (gCons t u) := by
  intro pins s σ H vs us Q I r h
  obtain ⟨v, vr, e1, h⟩ := h
  subst e1
  cases r with
  | cons r rr =>
    rw [hs]
    refine assignInOrder_cons (thn (h1 pins s σ H _ _ _ I r h) fun _ s1 ⟨σ1, H1, I1, q1⟩ => ?_)
    exact h2 pins s1 σ1 H1 _ _ Q I1 rr q1
noncomputable def gTup (K : PySem.W.Frag) (n : Nat) (t : TGs) : TG := fun v σ H Q => ∃ a xs, v = .ref a ∧ SqT K H a xs ∧ xs.length = n ∧ t xs σ H Q
theorem pg_tup {es : List Expr} {k : Nat} {t : TGs} {n : Nat} (hc : X.calm = true) (h : PGs X es t)
    (hn : (assignEach es X.env).length = n := by rfl) (hst : (assignEach es X.env).findIdx? (·.1) = none := by rfl) : PG X (.Tuple es k pos) (gTup X.K n t) := by
  intro pins s σ H v u Q I r hw
  obtain ⟨a, xs, e1, hq, hl, hw⟩ := hw
  subst e1
  cases r
  obtain ⟨its, rv, ht, hz⟩ := I.tuple hq
  refine assign_Tuple_tuple (I.ok.hd hc) ht (by simp [hn, ← hl, rv.length]) hst fun h' hx => ?_
  have I1 : Inv X pins σ H { s with heap := h' } := I.kept (t' := s.toks) fun b o e => hx b o (Nat.ne_of_lt (Heap.lt_size e)) e
  exact h pins _ σ H xs _ Q I1 (by simpa using rv) hw
noncomputable def gSub (to ti : TE) (t : TSet) : TG := fun v σ H Q => to σ H fun o H1 => ti σ H1 fun i H2 => t o i v H2 fun H3 => Q σ H3
noncomputable def tAsg (te : TE) (g : TG) : TS := fun D σ H => te σ H fun x H1 => g x σ H1 D.nx
theorem ps_set {i : Nat} {x : Str} {e : Expr} {te : TE} {pos' : Pos} (hN : X.N.Nodup) (hi : X.N[i]? = some x) (hx : Loc X.env.scope x) (he : PE X e te) (hs : swapsWith e (some (.Name x pos')) pos.line X.env = pure false := by rfl) (hf : X.fn x = true ∨ X.env.scope.names.lookup x = some .local := by first | exact .inl rfl | exact .inr rfl | assumption) :
    PS X (.Assign [.Name x pos'] e pos) (tAsg te (gName i)) := by
  intro pins s σ H D I h
  refine wpAny_Assign_Name (thn (he pins s σ H _ I h) fun v s1 ⟨y, H1, I1, r1, q1⟩ => ?_) hs
  exact store_ok I1 hN hi hx r1 (fun s2 I2 => ⟨_, H1, I2, q1⟩) hf
noncomputable def tAug (i : Nat) (te : TE) (ti : TIp) : TS := fun D σ H => ∃ x, σ[i]? = some (some x) ∧ te σ H fun y H1 => ti x y H1 fun z H2 => D.nx (σ.set i (some z)) H2
noncomputable def tAugS (to ti te : TE) (tget : V → V → Hp → VK → Prop) (tip : TIp) (tset : TSet) : TS := fun D σ H => to σ H fun o H1 => ti σ H1 fun i H2 => tget o i H2 fun x H3 => te σ H3 fun y H4 => tip x y H4 fun z H5 => tset o i z H5 fun H6 => D.nx σ H6
noncomputable def ipI (f : Int → Int → Int) : TIp := fun x y H Q => ∃ i j, x = .int i ∧ y = .int j ∧ Q (.int (f i j)) H
end
section
variable {X : Cx} {pos : Pos}
noncomputable def tWhile (c : TT) (tb : TS) : TS := fun D σ H => ∃ W : Nat → St → Hp → Prop, (∃ m, W m σ H) ∧ ∀ m σ H, W m σ H →
  c σ H fun b H1 => if b = true then ∃ N : St → Hp → Prop, (∀ σ' H', N σ' H' → ∃ m', m' < m ∧ W m' σ' H') ∧ tb { D with nx := N, ct := N, bk := D.nx } σ H1 else D.nx σ H1
theorem ps_while {c : Expr} {body : List Stmt} {tc : TT} {tb : TS} (hp : PassesOwn (model X.prog X.w) X.A X.env X.xe) (hc : PT X c tc) (hb : PSs X body tb) : PS X (.While c body [] pos) (tWhile tc tb) := by
  intro pins s σ H D I h
  obtain ⟨W, ⟨m0, w0⟩, turn⟩ := h
  refine wpAny_While (codeAny_whileLoop (fun n s' => ∃ σ' H', Inv X pins σ' H' s' ∧ W n σ' H') ?_ m0 ⟨σ, H, I, w0⟩)
  rintro n s1 ⟨σ1, H1, I1, w1⟩
  refine wpAny_passesOwn hp (thn (hc pins s1 σ1 H1 _ I1 (turn n σ1 H1 w1)) fun b s2 ⟨H2, I2, q2⟩ => ?_)
  cases b with
  | true =>
    obtain ⟨N, hN, q2⟩ := q2
    rw [if_pos rfl]
    refine wpAny_passesOwn hp (thn (hb pins s2 σ1 H2 _ I2 q2) fun f s3 q3 => ?_)
    cases f with
    | next =>
      obtain ⟨σ3, H3, I3, n3⟩ := q3
      obtain ⟨m', hm, w3⟩ := hN σ3 H3 n3
      exact ⟨m', hm, σ3, H3, I3, w3⟩
    | cont =>
      obtain ⟨σ3, H3, I3, n3⟩ := q3
      obtain ⟨m', hm, w3⟩ := hN σ3 H3 n3
      exact ⟨m', hm, σ3, H3, I3, w3⟩
    | brk => exact q3
    | ret v => exact q3
  | false =>
    rw [if_neg Bool.false_ne_true]
    exact wpAny_execs_nil ⟨σ1, H2, I2, q2⟩
end
structure It where
  go : Nat → Hp → Prop
  yld : Nat → Hp → V → Hp → Prop
  stop : Nat → Hp → Prop
noncomputable def FpOk (X : Cx) (pins : List (Addr × Obj)) (H : Hp) (b : Addr) : Prop :=
  H b = none ∧ b ≠ X.env.locals ∧ b ∉ X.fs ∧ (b ∈ X.ex ∨ X.s₀.heap.objs.size ≤ b) ∧ (∀ x c, X.env.cells.lookup x = some c → c ≠ b) ∧ ∀ p ∈ X.pn ++ pins, p.1 ≠ b
theorem Inv.fpOk {X : Cx} {pins : List (Addr × Obj)} {σ : St} {H H' : Hp} {s : Shared} {b : Addr} (I : Inv X pins σ H s) (hb : s.heap.objs.size ≤ b) (hn : H' b = none) : FpOk X pins H' b := by
  refine ⟨hn, Nat.ne_of_gt (Nat.lt_of_lt_of_le I.lt hb), I.nofs hb, .inr (Nat.le_trans I.sz hb), fun x c e z => ?_, fun p hp z => ?_⟩
  · obtain ⟨v, q⟩ := I.cell x c e
    exact absurd (Nat.lt_of_lt_of_le q.lt (by rw [z]; exact hb)) (Nat.lt_irrefl _)
  · exact absurd (Nat.lt_of_lt_of_le (Heap.lt_size (I.pin p hp).1) (by rw [z]; exact hb)) (Nat.lt_irrefl _)
structure Turn (P : Program) (w : World) (K : PySem.W.Frag) (tg : Expr) (J : It) (fp : List Addr) (it : Addr) (tn : Nat → Heap → Prop) : Prop where
  mem : it ∈ fp
  obj : ∀ i h, tn i h → ∀ b ∈ fp, ∃ o, h.get? b = some o ∧ ∀ v, o.data ≠ .cell v
  keep : ∀ i h h', tn i h → (∀ b ∈ fp, ∀ o, h.get? b = some o → h'.get? b = some o) → tn i h'
  item : ∀ (X : Cx), X.prog = P → X.w = w → X.K = K → X.calm = true → ∀ (i : Nat) (pins : List (Addr × Obj)) (s : Shared) (σ : St) (H : Hp) (E : Value → Shared → Prop), Inv X pins σ H s → (∀ b ∈ fp, FpOk X pins H b) → tn i s.heap → J.go i H →
    wpAny (model P w) X.A (pyNext (.ref it)) (fun r s1 => ∃ u, r = some u ∧
      wpAny (model P w) X.A (letOwnedTupleGo tg (.ref it) u) (fun _ s2 => ∃ x H', Inv X pins σ H' s2 ∧ RelV x u ∧ J.yld i H x H' ∧ tn (i + 1) s2.heap ∧ ∀ b ∈ fp, H' b = none) E s1) E s
  done : ∀ (X : Cx), X.prog = P → X.w = w → X.K = K → X.calm = true → ∀ (i : Nat) (pins : List (Addr × Obj)) (s : Shared) (σ : St) (H : Hp) (E : Value → Shared → Prop), Inv X pins σ H s → (∀ b ∈ fp, FpOk X pins H b) → tn i s.heap → J.stop i H →
    wpAny (model P w) X.A (pyNext (.ref it)) (fun r s1 => r = none ∧ Inv X pins σ H s1) E s
  self : ∀ (A : Around) (i : Nat) (s : Shared) (Q : Value → Shared → Prop) (E : Value → Shared → Prop), tn i s.heap → Q (.ref it) s → wpAny (model P w) A (pyIter (.ref it)) Q E s
noncomputable abbrev TI := St → Hp → (It → Hp → Prop) → Prop
noncomputable def PIE (X : Cx) (pins : List (Addr × Obj)) (σ : St) (tg : Expr) (R : It → Hp → Prop) (itv : Value) (s2 : Shared) : Prop :=
  ∃ (it : Addr) (fp : List Addr) (tn : Nat → Heap → Prop) (J : It) (H' : Hp), itv = .ref it ∧ Inv X pins σ H' s2 ∧ Turn X.prog X.w X.K tg J fp it tn ∧ tn 0 s2.heap ∧ (∀ b ∈ fp, FpOk X pins H' b) ∧ R J H'
noncomputable def PI (X : Cx) (tg iter : Expr) (wi : TI) : Prop :=
  ∀ (pins : List (Addr × Obj)) (s : Shared) (σ : St) (H : Hp) (R : It → Hp → Prop), Inv X pins σ H s → wi σ H R →
    wpAny (model X.prog X.w) X.A (eval iter X.env) (fun v s1 => wpAny (model X.prog X.w) X.A (pyIter v) (PIE X pins σ tg R) X.xe s1) X.xe s
theorem go_of {M : Model} {A : Around} {E : Value → Shared → Prop} {s : Shared} {tg : Expr} {it : Addr} {u : Value} {o : Obj} {n : String} {vs : Array Value} {Q : Unit → Shared → Prop} (ho : s.heap.get? it = some o) (hc : o.cls = .type n) (hd : o.data = .fields vs)
    (hn : ["enumerate", "zip", "dict_itemiterator", "dict_reverseitemiterator", "odict_iterator", "itertools.zip_longest", "itertools.pairwise"].contains n = false) (hQ : Q () s) : wpAny M A (letOwnedTupleGo tg (.ref it) u) Q E s := by
  unfold letOwnedTupleGo
  cases tg <;> first
    | exact wpAny_pure hQ
    | (cases u <;> first
        | exact wpAny_pure hQ
        | (refine wpAny_bind (wpAny_load ho ?_)
           rw [hc, hd]
           show wpAny M A (if (["enumerate", "zip", "dict_itemiterator", "dict_reverseitemiterator", "odict_iterator", "itertools.zip_longest", "itertools.pairwise"].contains n && vs[0]? == some (rawInt _)) = true then _ else _) Q E s
           rw [if_neg (by intro h; rw [hn, Bool.false_and] at h; cases h)]
           exact wpAny_pure hQ))
noncomputable def Itl (K : PySem.W.Frag) (a : Addr) : It :=
  ⟨fun i H => ∃ xs x, SqL K H a xs ∧ xs[i]? = some x, fun i H x H' => H' = H ∧ ∀ xs, SqL K H a xs → xs[i]? = some x, fun i H => ∃ xs, SqL K H a xs ∧ xs.length ≤ i⟩
noncomputable def Itt (K : PySem.W.Frag) (a : Addr) : It :=
  ⟨fun i H => ∃ xs x, SqT K H a xs ∧ xs[i]? = some x, fun i H x H' => H' = H ∧ ∀ xs, SqT K H a xs → xs[i]? = some x, fun i H => ∃ xs, SqT K H a xs ∧ xs.length ≤ i⟩
noncomputable def Itr (lo : Int) (n : Nat) : It := ⟨fun i _ => i < n, fun i H x H' => H' = H ∧ x = .int (lo + i), fun i _ => n ≤ i⟩
theorem turn_list {P : Program} {w : World} {K : PySem.W.Frag} {tg : Expr} (a it : Addr) : Turn P w K tg (Itl K a) [it] it (fun i h => h.IsListIter it a i) where
  mem := by simp
  obj := fun i h st b hb => by
    have e : b = it := by simpa using hb
    subst e
    obtain ⟨o, e, c, d⟩ := st
    exact ⟨o, e, fun v z => by rw [d] at z; cases z⟩
  keep := fun i h h' st k => st.at fun o e => k it (by simp) o e
  item := by
    intro X hP hw hK hc i pins s σ H E I hf st hg
    subst hP hw hK
    obtain ⟨xs, x, hq, hx⟩ := hg
    obtain ⟨its, rv, p, hz⟩ := I.list hq
    obtain ⟨u, hu, ru⟩ := rv.get hx
    obtain ⟨f0, f1, f2, f3, f4, f5⟩ := hf it (by simp)
    refine wpAny_pyNext_list_item st p.isList (x := u) (by simpa using hu) fun h' st' sb => ?_
    have I1 : Inv X pins σ H { s with heap := h' } := I.turned (t' := s.toks) (fun b o hb e => (sb.2 b hb).trans e) f0 f1 f3 f4 f5
    obtain ⟨o, e, c, d⟩ := id st'
    exact ⟨u, rfl, go_of (s := { s with heap := h' }) e c d (by decide) ⟨x, H, I1, ru, ⟨rfl, fun ys hy => by rw [I.list_inj hy hq]; exact hx⟩, st', fun b hb => (hf b hb).1⟩⟩
  done := by
    intro X hP hw hK hc i pins s σ H E I hf st hg
    subst hP hw hK
    obtain ⟨xs, hq, hx⟩ := hg
    obtain ⟨its, rv, p, hz⟩ := I.list hq
    obtain ⟨f0, f1, f2, f3, f4, f5⟩ := hf it (by simp)
    have hl := rv.length
    exact wpAny_pyNext_list_end (I.ok.hd hc) st p.isList (by simp; omega) fun h' eb => ⟨rfl, I.turned (t' := s.toks) (fun b o hb e => eb b o hb e) f0 f1 f3 f4 f5⟩
  self := fun _ _ _ _ _ st h => wpAny_pyIter_listiter st h
theorem turn_tuple {P : Program} {w : World} {K : PySem.W.Frag} {tg : Expr} (a it : Addr) : Turn P w K tg (Itt K a) [it] it (fun i h => h.IsTupleIter it a i) where
  mem := by simp
  obj := fun i h st b hb => by
    have e : b = it := by simpa using hb
    subst e
    obtain ⟨o, e, c, d⟩ := st
    exact ⟨o, e, fun v z => by rw [d] at z; cases z⟩
  keep := fun i h h' st k => st.at fun o e => k it (by simp) o e
  item := by
    intro X hP hw hK hc i pins s σ H E I hf st hg
    subst hP hw hK
    obtain ⟨xs, x, hq, hx⟩ := hg
    obtain ⟨its, rv, p, hz⟩ := I.tuple hq
    obtain ⟨u, hu, ru⟩ := rv.get hx
    obtain ⟨f0, f1, f2, f3, f4, f5⟩ := hf it (by simp)
    refine wpAny_pyNext_tuple_item st (show s.heap.IsTuple a its.toArray from p) (x := u) (by simpa using hu) fun h' st' sb => ?_
    have I1 : Inv X pins σ H { s with heap := h' } := I.turned (t' := s.toks) (fun b o hb e => (sb.2 b hb).trans e) f0 f1 f3 f4 f5
    obtain ⟨o, e, c, d⟩ := id st'
    exact ⟨u, rfl, go_of (s := { s with heap := h' }) e c d (by decide) ⟨x, H, I1, ru, ⟨rfl, fun ys hy => by rw [I.tuple_inj hy hq]; exact hx⟩, st', fun b hb => (hf b hb).1⟩⟩
  done := by
    intro X hP hw hK hc i pins s σ H E I hf st hg
    subst hP hw hK
    obtain ⟨xs, hq, hx⟩ := hg
    obtain ⟨its, rv, p, hz⟩ := I.tuple hq
    obtain ⟨f0, f1, f2, f3, f4, f5⟩ := hf it (by simp)
    have hl := rv.length
    exact wpAny_pyNext_tuple_end (I.ok.hd hc) st (show s.heap.IsTuple a its.toArray from p) (by simp; omega) fun h' eb => ⟨rfl, I.turned (t' := s.toks) (fun b o hb e => eb b o hb e) f0 f1 f3 f4 f5⟩
  self := fun _ _ _ _ _ st h => wpAny_pyIter_tupleiter st h
theorem turn_range {P : Program} {w : World} {K : PySem.W.Frag} {tg : Expr} (it : Addr) (lo : Int) (n : Nat) : Turn P w K tg (Itr lo n) [it] it (fun i h => IsRangeIter h it (lo + (i : Nat) * 1) ((n : Int) - (i : Nat)) 1) where
  mem := by simp
  obj := fun i h st b hb => by
    have e : b = it := by simpa using hb
    subst e
    exact ⟨_, st, fun v z => by
      have z' : Data.fields _ = Data.cell v := z
      cases z'⟩
  keep := fun i h h' st k => k it (by simp) _ st
  item := by
    intro X hP hw hK hc i pins s σ H E I hf st hg
    subst hP hw hK
    obtain ⟨f0, f1, f2, f3, f4, f5⟩ := hf it (by simp)
    have W := Walks.range (prog := X.prog) (w := X.w) (I.ok.hd hc) it lo 1 n
    refine W.item i s _ _ hg st fun v h' tk hv st' kk => ?_
    obtain ⟨t, rfl⟩ := hv
    have I1 : Inv X pins σ H { s with heap := h', toks := tk } := I.turned (fun b o hb e => kk b o (by simpa using hb) e) f0 f1 f3 f4 f5
    refine ⟨_, rfl, go_of (s := { s with heap := h', toks := tk }) (n := "range_iterator") st' rfl rfl (by decide) ⟨.int (lo + i), H, I1, ⟨t, ?_⟩, ⟨rfl, rfl⟩, st', fun b hb => (hf b hb).1⟩⟩
    rw [Int.mul_one]
  done := by
    intro X hP hw hK hc i pins s σ H E I hf st hg
    subst hP hw hK
    obtain ⟨f0, f1, f2, f3, f4, f5⟩ := hf it (by simp)
    exact wpAny_pyNext_range_end (I.ok.hd hc) st (by have : n ≤ i := hg; omega) fun h' eb => ⟨rfl, I.turned (t' := s.toks) (fun b o hb e => eb b o hb e) f0 f1 f3 f4 f5⟩
  self := fun _ _ _ _ _ st h => wpAny_pyIter_rangeiter st h
end L2
namespace L2
open PySem PySem.Spec PyProof.Rows
section
variable {X : Cx} {tg : Expr}
noncomputable def iList (K : PySem.W.Frag) (tl : TE) : TI := fun σ H R => tl σ H fun x H1 => ∃ a, x = .ref a ∧ (∃ xs, SqL K H1 a xs) ∧ R (Itl K a) H1
noncomputable def iTup (K : PySem.W.Frag) (tl : TE) : TI := fun σ H R => tl σ H fun x H1 => ∃ a, x = .ref a ∧ (∃ xs, SqT K H1 a xs) ∧ R (Itt K a) H1
theorem pi_list {l : Expr} {tl : TE} (hl : PE X l tl) : PI X tg l (iList X.K tl) := by
  intro pins s σ H R I h
  refine thn (hl pins s σ H _ I h) fun v s1 ⟨x, H1, I1, r1, q1⟩ => ?_
  obtain ⟨a, e, ⟨xs, hq⟩, q⟩ := q1
  subst e
  cases r1
  obtain ⟨its, rv, p, hz⟩ := I1.list hq
  refine wpAny_pyIter_list p.isList ?_
  refine ⟨s1.heap.objs.size, [s1.heap.objs.size], _, _, H1, rfl, I1.kept (t' := s1.toks) fun b o e => Heap.get?_push_of_some _ e, turn_list a _, ⟨_, Heap.get?_push_size _ rfl, rfl, rfl⟩, fun b hb => ?_, q⟩
  have e : b = s1.heap.objs.size := by simpa using hb
  subst e
  exact I1.fpOk (Nat.le_refl _) (I1.hok.fresh (Nat.le_refl _))
theorem pi_tup {l : Expr} {tl : TE} (hl : PE X l tl) : PI X tg l (iTup X.K tl) := by
  intro pins s σ H R I h
  refine thn (hl pins s σ H _ I h) fun v s1 ⟨x, H1, I1, r1, q1⟩ => ?_
  obtain ⟨a, e, ⟨xs, hq⟩, q⟩ := q1
  subst e
  cases r1
  obtain ⟨its, rv, p, hz⟩ := I1.tuple hq
  refine wpAny_pyIter_tuple (show s1.heap.IsTuple a its.toArray from p) ?_
  refine ⟨s1.heap.objs.size, [s1.heap.objs.size], _, _, H1, rfl, I1.kept (t' := s1.toks) fun b o e => Heap.get?_push_of_some _ e, turn_tuple a _, ⟨_, Heap.get?_push_size _ rfl, rfl, rfl⟩, fun b hb => ?_, q⟩
  have e : b = s1.heap.objs.size := by simpa using hb
  subst e
  exact I1.fpOk (Nat.le_refl _) (I1.hok.fresh (Nat.le_refl _))
theorem range_it {pins : List (Addr × Obj)} {σ : St} {H : Hp} {s : Shared} {R : It → Hp → Prop} {E : Value → Shared → Prop} {lo hi : Int} {t u v : Tok} {tk : Nat} (I : Inv X pins σ H s) (h1 : -(2 ^ 62) ≤ lo) (h2 : lo < 2 ^ 62) (h3 : -(2 ^ 62) ≤ hi) (h4 : hi < 2 ^ 62)
    (q : R (Itr lo (hi - lo).toNat) H) : wpAny (model X.prog X.w) X.A (pyIter (.ref s.heap.objs.size)) (PIE X pins σ tg R) E { s with heap := s.heap.push { cls := .type "range", data := .fields #[.int lo t, .int hi u, .int 1 v] }, toks := tk } := by
  refine wpAny_pyIter_range (IsRange.new ..) (small_one h1 h2 h3 h4) ?_
  have I1 : Inv X pins σ H { s with heap := s.heap.push { cls := .type "range", data := .fields #[.int lo t, .int hi u, .int 1 v] }, toks := tk } := I.kept fun b o e => Heap.get?_push_of_some _ e
  refine ⟨(s.heap.push { cls := .type "range", data := .fields #[.int lo t, .int hi u, .int 1 v] }).objs.size, [(s.heap.push { cls := .type "range", data := .fields #[.int lo t, .int hi u, .int 1 v] }).objs.size], _, _, H, rfl,
    I1.kept (t' := tk) fun b o e => Heap.get?_push_of_some _ e, turn_range _ lo (hi - lo).toNat, ?_, fun b hb => ?_, q⟩
  · have e1 : lo + ((0 : Nat) : Int) * 1 = lo := by simp
    have e2 : (((hi - lo).toNat : Nat) : Int) - ((0 : Nat) : Int) = Builtin.Range.rangeSize lo hi 1 := by rw [rangeSize_one]; split <;> omega
    show IsRangeIter _ _ (lo + ((0 : Nat) : Int) * 1) ((((hi - lo).toNat : Nat) : Int) - ((0 : Nat) : Int)) 1
    rw [e1, e2]
    exact Heap.get?_push_size _ rfl
  · have e : b = (s.heap.push { cls := .type "range", data := .fields #[.int lo t, .int hi u, .int 1 v] }).objs.size := by simpa using hb
    subst e
    exact I1.fpOk (Nat.le_refl _) (I1.hok.fresh (Nat.le_refl _))
noncomputable def iRng1 (ta : TA) : TI := fun σ H R => ta σ H fun vs H1 => ∃ j : Int, vs = [.int j] ∧ -(2 ^ 62) ≤ j ∧ j < 2 ^ 62 ∧ R (Itr 0 j.toNat) H1
noncomputable def iRng2 (ta : TA) : TI := fun σ H R => ta σ H fun vs H1 => ∃ i j : Int, vs = [.int i, .int j] ∧ (-(2 ^ 62) ≤ i ∧ i < 2 ^ 62 ∧ -(2 ^ 62) ≤ j ∧ j < 2 ^ 62) ∧ R (Itr i (j - i).toNat) H1
theorem pi_range1 {a : Expr} {ta : TA} {p pos : Pos} (hg : Gl X "range") (hm : X.mg "range" = none) (ha : PA X [a] ta) (hs : starEach [a] X.env = [(false, eval a X.env)] := by rfl) : PI X tg (.Call (.Name "range" p) [a] [] pos) (iRng1 ta) := by
  intro pins s σ H R I h
  refine Call_ (ld_blt I hg hm boot_range (PyProof.Rows.callWith_type1 (thn (ha pos pins s σ H _ I h) fun us s1 ⟨vs, H1, I1, r1, q1⟩ => ?_) hs rfl))
  obtain ⟨j, e, q1, q2, q⟩ := q1
  subst e
  cases r1 with
  | cons r rr =>
    cases rr
    obtain ⟨t, rfl⟩ := r
    exact call_range_1 (range_it I1 (by omega) (by omega) q1 q2 (by simpa using q))
noncomputable def tFor (wi : TI) (g : TG) (tb : TS) : TS := fun D σ H => wi σ H fun J H1 => ∃ W : Nat → Nat → St → Hp → Prop, (∃ m, W 0 m σ H1) ∧ ∀ i m σ H, W i m σ H →
  (J.stop i H ∧ D.nx σ H) ∨ (J.go i H ∧ ∃ N : St → Hp → Prop, (∀ σ' H', N σ' H' → ∃ m', m' < m ∧ W (i + 1) m' σ' H') ∧ ∀ x H', J.yld i H x H' → g x σ H' fun σ2 H2 => tb { D with nx := N, ct := N, bk := D.nx } σ2 H2)
noncomputable def pinsAt (fp : List Addr) (h : Heap) : List (Addr × Obj) := fp.filterMap fun b => (h.get? b).map fun o => (b, o)
theorem mem_pinsAt {fp : List Addr} {h : Heap} {b : Addr} {o : Obj} (hb : b ∈ fp) (e : h.get? b = some o) : (b, o) ∈ pinsAt fp h := List.mem_filterMap.mpr ⟨b, hb, by rw [e]; rfl⟩
theorem of_pinsAt {fp : List Addr} {h : Heap} {p : Addr × Obj} (hp : p ∈ pinsAt fp h) : p.1 ∈ fp ∧ h.get? p.1 = some p.2 := by
  obtain ⟨b, hb, e⟩ := List.mem_filterMap.mp hp
  cases q : h.get? b with
  | none => rw [q] at e; cases e
  | some o =>
    rw [q] at e
    have e' : (b, o) = p := Option.some.inj e
    subst e'
    exact ⟨hb, q⟩
theorem Inv.pinned {pins : List (Addr × Obj)} {σ : St} {H : Hp} {s : Shared} {fp : List Addr} (I : Inv X pins σ H s) (hf : ∀ b ∈ fp, FpOk X pins H b) (ho : ∀ b ∈ fp, ∃ o, s.heap.get? b = some o ∧ ∀ v, o.data ≠ .cell v) : Inv X (pins ++ pinsAt fp s.heap) σ H s :=
  I.pins_of fun p hp => (List.mem_append.mp hp).elim (fun z => I.pin p (List.mem_append_right _ z)) fun z => by
    obtain ⟨hb, e⟩ := of_pinsAt z
    obtain ⟨f0, f1, f2, _⟩ := hf p.1 hb
    obtain ⟨o, e', d⟩ := ho p.1 hb
    rw [e] at e'; cases e'
    exact ⟨e, f0, f1, f2, d⟩
theorem Inv.unpinned {pins pl : List (Addr × Obj)} {σ : St} {H : Hp} {s : Shared} (I : Inv X (pins ++ pl) σ H s) : Inv X pins σ H s := I.pins_of fun p hp => I.pin p (List.mem_append_right _ (List.mem_append_left _ hp))
theorem ps_for {iter : Expr} {body : List Stmt} {wi : TI} {g : TG} {tb : TS} {pos : Pos} (hp : PassesOwn (model X.prog X.w) X.A X.env X.xe) (hc : X.calm = true) (hi : PI X tg iter wi) (hg : PG X tg g) (hb : PSs X body tb)
    (hs : ∀ x, foldedSetIterable iter X.env x = pure x := by intro _; rfl) : PS X (.For tg iter body [] pos) (tFor wi g tb) := by
  intro pins s σ H D I h
  refine wpAny_For (thn (hi pins s σ H _ I h) fun v s1 h1 => thn h1 fun itv s2 h2 => ?_) hs
  obtain ⟨it, fp, tn, J, H2, e, I2, T, st2, f2, W, ⟨m0, w0⟩, turn⟩ := h2
  subst e
  -- what stays true of the iterator's objects through the loop
  have stat : ∀ {H' : Hp}, (∀ b ∈ fp, H' b = none) → ∀ b ∈ fp, FpOk X pins H' b := fun hn b hb => ⟨hn b hb, (f2 b hb).2⟩
  refine codeAny_forLoop_any (fun n s' => ∃ i σ' H', Inv X pins σ' H' s' ∧ tn i s'.heap ∧ (∀ b ∈ fp, H' b = none) ∧ W i n σ' H') ?_ m0 ⟨0, σ, H2, I2, st2, fun b hb => (f2 b hb).1, w0⟩
  rintro n s3 ⟨i, σ3, H3, I3, st3, fr3, w3⟩
  rcases turn i n σ3 H3 w3 with ⟨stop, qn⟩ | ⟨go, N, hN, step⟩
  · refine wpAny_passesOwn hp (thn (T.done X rfl rfl rfl hc i pins s3 σ3 H3 X.xe I3 (stat fr3) st3 stop) fun r s4 ⟨hr, I4⟩ => ?_)
    subst hr
    exact wpAny_execs_nil ⟨σ3, H3, I4, qn⟩
  · refine wpAny_passesOwn hp (thn (T.item X rfl rfl rfl hc i pins s3 σ3 H3 X.xe I3 (stat fr3) st3 go) fun r s4 ⟨u, hr, h4⟩ => ?_)
    subst hr
    refine wpAny_passesOwn hp (thn h4 fun _ s5 ⟨x, H5, I5, r5, y5, st5, fr5⟩ => ?_)
    have I5' := I5.pinned (stat fr5) (T.obj _ _ st5)
    refine wpAny_passesOwn hp (thn (hg _ s5 σ3 H5 x u _ I5' r5 (step x H5 y5)) fun _ s6 ⟨σ6, H6, I6, q6⟩ => ?_)
    refine wpAny_passesOwn hp (thn (hb _ s6 σ6 H6 _ I6 q6) fun f s7 q7 => ?_)
    have again : ∀ {σ7 : St} {H7 : Hp}, Inv X (pins ++ pinsAt fp s5.heap) σ7 H7 s7 → N σ7 H7 → ∃ m, m < n ∧ ∃ i σ' H', Inv X pins σ' H' s7 ∧ tn i s7.heap ∧ (∀ b ∈ fp, H' b = none) ∧ W i m σ' H' := fun {σ7 H7} I7 n7 => by
      obtain ⟨m', hm, w7⟩ := hN σ7 H7 n7
      refine ⟨m', hm, i + 1, σ7, H7, I7.unpinned, T.keep _ _ _ st5 fun b hb o e => (I7.pin (b, o) (List.mem_append_right _ (List.mem_append_right _ (mem_pinsAt hb e)))).1, fun b hb => ?_, w7⟩
      obtain ⟨o, e, d⟩ := T.obj _ _ st5 b hb
      exact (I7.pin (b, o) (List.mem_append_right _ (List.mem_append_right _ (mem_pinsAt hb e)))).2.1
    cases f with
    | next => obtain ⟨σ7, H7, I7, n7⟩ := q7; exact again I7 n7
    | cont => obtain ⟨σ7, H7, I7, n7⟩ := q7; exact again I7 n7
    | brk => obtain ⟨σ7, H7, I7, q7⟩ := q7; exact ⟨σ7, H7, I7.unpinned, q7⟩
    | ret v => obtain ⟨x7, σ7, H7, I7, r7, q7⟩ := q7; exact ⟨x7, σ7, H7, I7.unpinned, r7, q7⟩
end
end L2
namespace L2
open PySem PySem.Spec PyProof.Rows
noncomputable abbrev R2 := V → V → Hp → VK → Prop
noncomputable def OpR (X : Cx) (f : Value → Value → Sem Value) (r : R2) : Prop :=
  ∀ (pins : List (Addr × Obj)) (s : Shared) (σ : St) (H : Hp) (x y : V) (v u : Value) (Q : VK), Inv X pins σ H s → RelV x v → RelV y u → r x y H Q →
    wpAny (model X.prog X.w) X.A (f v u) (EP X pins σ Q) X.xe s
noncomputable def UnR (X : Cx) (f : Value → Sem Value) (r : V → Hp → VK → Prop) : Prop :=
  ∀ (pins : List (Addr × Obj)) (s : Shared) (σ : St) (H : Hp) (x : V) (v : Value) (Q : VK), Inv X pins σ H s → RelV x v → r x H Q →
    wpAny (model X.prog X.w) X.A (f v) (EP X pins σ Q) X.xe s
noncomputable def CallR (X : Cx) (f : Value) (r : List V → Hp → VK → Prop) : Prop :=
  ∀ (pins : List (Addr × Obj)) (s : Shared) (σ : St) (H : Hp) (xs : List V) (us : List Value) (Q : VK), Inv X pins σ H s → Vals xs us → r xs H Q →
    wpAny (model X.prog X.w) X.A (call f us) (EP X pins σ Q) X.xe s
noncomputable def tOp (r : R2) (ta tb : TE) : TE := fun σ H Q => ta σ H fun x H1 => tb σ H1 fun y H2 => r x y H2 Q
noncomputable def tUn (r : V → Hp → VK → Prop) (ta : TE) : TE := fun σ H Q => ta σ H fun x H1 => r x H1 Q
noncomputable def rI (C : Int → Int → Prop) (g : Int → Int → V) : R2 := fun x y H Q => ∃ i j, x = .int i ∧ y = .int j ∧ C i j ∧ Q (g i j) H
noncomputable def rI0 (g : Int → Int → V) : R2 := fun x y H Q => ∃ i j, x = .int i ∧ y = .int j ∧ Q (g i j) H
noncomputable def rU (g : Int → V) : V → Hp → VK → Prop := fun x H Q => ∃ i, x = .int i ∧ Q (g i) H
section
variable {X : Cx} {a b c : Expr} {ta tb tc : TE} {pos : Pos}
theorem binT (ha : PE X a ta) (hb : PE X b tb) {pins : List (Addr × Obj)} {s : Shared} {σ : St} {H : Hp} {R : V → V → Hp → Prop} (I : Inv X pins σ H s)
    (h : ta σ H fun x H1 => tb σ H1 fun y H2 => R x y H2) {Q : Value → Shared → Prop} {f : Value → Value → Sem Value}
    (hf : ∀ v u s2 x y H2, Inv X pins σ H2 s2 → RelV x v → RelV y u → R x y H2 → wpAny (model X.prog X.w) X.A (f v u) Q X.xe s2) :
    wpAny (model X.prog X.w) X.A (eval a X.env) (fun v s₁ => wpAny (model X.prog X.w) X.A (eval b X.env) (fun u s₂ => wpAny (model X.prog X.w) X.A (f v u) Q X.xe s₂) X.xe s₁) X.xe s := by
  refine thn (ha pins s σ H _ I h) fun v s1 ⟨x, H1, I1, r1, q1⟩ => ?_
  refine thn (hb pins s1 σ H1 _ I1 q1) fun u s2 ⟨y, H2, I2, r2, q2⟩ => ?_
  exact hf v u s2 x y H2 I2 r1 r2 q2
theorem pe_op {op : Operator} {r : R2} (ho : OpR X (binaryOp op) r) (ha : PE X a ta) (hb : PE X b tb) : PE X (.BinOp a op b pos) (tOp r ta tb) := by
  intro pins s σ H Q I h
  exact wpAny_BinOp (binT ha hb I h fun v u s2 x y H2 I2 rx ry q => ho pins s2 σ H2 x y v u Q I2 rx ry q)
theorem opI {f : Value → Value → Sem Value} {C : Int → Int → Prop} {g : Int → Int → Int}
    (rule : ∀ (i j : Int) (t u : Tok) (s : Shared) (Q : Value → Shared → Prop) (E : Value → Shared → Prop), C i j → Q (.int (g i j) s.toks) { s with toks := s.toks + 1 } → wpAny (model X.prog X.w) X.A (f (.int i t) (.int j u)) Q E s) :
    OpR X f (rI C fun i j => .int (g i j)) := by
  intro pins s σ H x y v u Q I rx ry h
  obtain ⟨i, j, rfl, rfl, hc, q⟩ := h
  obtain ⟨t, rfl⟩ := rx
  obtain ⟨t', rfl⟩ := ry
  exact rule i j t t' s _ _ hc ⟨.int (g i j), H, I.tok _, ⟨_, rfl⟩, q⟩
theorem opI0 {f : Value → Value → Sem Value} {g : Int → Int → Int}
    (rule : ∀ (i j : Int) (t u : Tok) (s : Shared) (Q : Value → Shared → Prop) (E : Value → Shared → Prop), Q (.int (g i j) s.toks) { s with toks := s.toks + 1 } → wpAny (model X.prog X.w) X.A (f (.int i t) (.int j u)) Q E s) :
    OpR X f (rI0 fun i j => .int (g i j)) := by
  intro pins s σ H x y v u Q I rx ry h
  obtain ⟨i, j, rfl, rfl, q⟩ := h
  obtain ⟨t, rfl⟩ := rx
  obtain ⟨t', rfl⟩ := ry
  exact rule i j t t' s _ _ ⟨.int (g i j), H, I.tok _, ⟨_, rfl⟩, q⟩
theorem opB0 {f : Value → Value → Sem Value} {g : Int → Int → Bool}
    (rule : ∀ (i j : Int) (t u : Tok) (s : Shared) (Q : Value → Shared → Prop) (E : Value → Shared → Prop), Q (.bool (g i j)) s → wpAny (model X.prog X.w) X.A (f (.int i t) (.int j u)) Q E s) :
    OpR X f (rI0 fun i j => .bl (g i j)) := by
  intro pins s σ H x y v u Q I rx ry h
  obtain ⟨i, j, rfl, rfl, q⟩ := h
  obtain ⟨t, rfl⟩ := rx
  obtain ⟨t', rfl⟩ := ry
  exact rule i j t t' s _ _ ⟨.bl (g i j), H, I, rfl, q⟩
noncomputable def CDiv (i j : Int) : Prop := 0 < j ∧ j < 1073741824
noncomputable def CPow (i j : Int) : Prop := 0 ≤ j ∧ j ≤ 1000000 ∧ i.natAbs < 2 ^ 64
noncomputable def CMul (i j : Int) : Prop := (-(2 ^ 64) < i ∧ i < 2 ^ 64) ∨ (-(2 ^ 64) < j ∧ j < 2 ^ 64)
theorem CMul.ok {i j : Int} (h : CMul i j) : IntMulOk i j := by
  rcases h with ⟨h1, h2⟩ | ⟨h1, h2⟩
  · exact .of_left (intBits_le_64 h1 h2)
  · exact .of_right (intBits_le_64 h1 h2)
theorem op_add : OpR X (binaryOp .Add) (rI0 fun i j => .int (i + j)) := opI0 fun _ _ _ _ _ _ _ q => add_int q
theorem op_mul : OpR X (binaryOp .Mult) (rI CMul fun i j => .int (i * j)) := opI fun _ _ _ _ _ _ _ hc q => mul_int q hc.ok
theorem op_fdiv : OpR X (binaryOp .FloorDiv) (rI CDiv fun i j => .int (i / j)) := opI fun i j _ _ _ _ _ hc q => by
  have h1 : (0 : Int) < j := hc.1
  have h2 : j < 1073741824 := hc.2
  exact floordiv_int (by omega) (by rw [Int.fdiv_eq_ediv_of_nonneg i (by omega)]; exact q) (.inl (PyProof.noPylong_small (by omega)))
theorem op_mod : OpR X (binaryOp .Mod) (rI (fun _ j => 0 < j) fun i j => .int (i % j)) := opI fun i j _ _ _ _ _ hc q => by
  have h1 : (0 : Int) < j := hc
  exact mod_int' (by omega) (by rw [Int.fmod_eq_emod_of_nonneg i (by omega)]; exact q)
theorem op_pow : OpR X (binaryOp .Pow) (rI CPow fun i j => .int (i ^ j.toNat)) := opI fun _ _ _ _ _ _ _ hc q => pow_int_small hc.1 hc.2.1 hc.2.2 q
end
noncomputable def scal : V → V → Bool
  | .non, .non => true | .non, .int _ => true | .int _, .non => true | .non, .bl _ => true | .bl _, .non => true | .non, .str _ => true | .str _, .non => true
  | .int _, .int _ => true | .bl _, .bl _ => true | .str _, .str _ => true | .byt _, .byt _ => true
  | .int _, .str _ => true | .str _, .int _ => true | .bl _, .str _ => true | .str _, .bl _ => true
  | _, _ => false
noncomputable def rEq : R2 := fun x y H Q => scal x y = true ∧ Q (.bl (decide (x = y))) H
noncomputable def rNe : R2 := fun x y H Q => scal x y = true ∧ Q (.bl (!decide (x = y))) H
theorem dec_int {i j : Int} : decide (V.int i = V.int j) = (i == j) := by
  rw [Bool.eq_iff_iff]
  simp
theorem dec_bl {i j : Bool} : decide (V.bl i = V.bl j) = (i == j) := by
  rw [Bool.eq_iff_iff]
  simp
theorem dec_str {i j : Str} : decide (V.str i = V.str j) = (i == j) := by
  rw [Bool.eq_iff_iff]
  simp
theorem dec_byt {i j : Array UInt8} : decide (V.byt i = V.byt j) = (i.toList == j.toList) := by
  rw [Bool.eq_iff_iff]
  cases i
  cases j
  simp
section
variable {X : Cx} {a b c : Expr} {ta tb tc : TE} {pos : Pos}
theorem fin_bl {pins : List (Addr × Obj)} {σ : St} {H : Hp} {s : Shared} {Q : VK} {k k' : Bool} (I : Inv X pins σ H s) (q : Q (.bl k) H) (e : k = k') : EP X pins σ Q (.bool k') s := by
  subst e
  exact ⟨.bl k, H, I, rfl, q⟩
theorem op_eq : OpR X (compareOp .Eq) rEq := by
  intro pins s σ H x y v u Q I rx ry h
  obtain ⟨hs, q⟩ := h
  cases x with
  | non =>
    cases rx
    cases y with
    | non => cases ry; exact PySem.EqNone.eq_none_none (fin_bl I q (by simp))
    | bl j => cases ry; exact PySem.EqNone.eq_none_bool (fin_bl I q (by simp))
    | int j => obtain ⟨t', rfl⟩ := ry; exact PySem.EqNone.eq_none_int (fin_bl I q (by simp))
    | str j => obtain ⟨t', rfl⟩ := ry; exact PySem.EqNone.eq_none_str (fin_bl I q (by simp))
    | _ => exact absurd (show false = true from hs) Bool.false_ne_true
  | bl i =>
    cases rx
    cases y with
    | non => cases ry; exact PySem.EqNone.eq_bool_none (fin_bl I q (by simp))
    | bl j => cases ry; exact eq_bool (fin_bl I q dec_bl)
    | str j => obtain ⟨t', rfl⟩ := ry; exact PySem.EqMixed.eq_bool_str (fin_bl I q (by simp))
    | _ => exact absurd (show false = true from hs) Bool.false_ne_true
  | int i =>
    obtain ⟨t, rfl⟩ := rx
    cases y with
    | non => cases ry; exact PySem.EqNone.eq_int_none (fin_bl I q (by simp))
    | int j => obtain ⟨t', rfl⟩ := ry; exact eq_int (fin_bl I q dec_int)
    | str j => obtain ⟨t', rfl⟩ := ry; exact PySem.EqMixed.eq_int_str (fin_bl I q (by simp))
    | _ => exact absurd (show false = true from hs) Bool.false_ne_true
  | str i =>
    obtain ⟨t, rfl⟩ := rx
    cases y with
    | non => cases ry; exact PySem.EqNone.eq_str_none (fin_bl I q (by simp))
    | bl j => cases ry; exact PySem.EqMixed.eq_str_bool (fin_bl I q (by simp))
    | int j => obtain ⟨t', rfl⟩ := ry; exact PySem.EqMixed.eq_str_int (fin_bl I q (by simp))
    | str j => obtain ⟨t', rfl⟩ := ry; exact eq_str (fin_bl I q dec_str)
    | _ => exact absurd (show false = true from hs) Bool.false_ne_true
  | byt i =>
    obtain ⟨t, rfl⟩ := rx
    cases y with
    | byt j => obtain ⟨t', rfl⟩ := ry; exact PySem.W.eq_bytes (fin_bl I q dec_byt)
    | _ => exact absurd (show false = true from hs) Bool.false_ne_true
  | _ => cases y <;> exact absurd (show false = true from hs) Bool.false_ne_true
theorem op_ne : OpR X (compareOp .NotEq) rNe := by
  intro pins s σ H x y v u Q I rx ry h
  obtain ⟨hs, q⟩ := h
  cases x with
  | non =>
    cases rx
    cases y with
    | non => cases ry; exact PySem.EqNone.ne_none_none (fin_bl I q (by simp))
    | bl j => cases ry; exact PySem.EqNone.ne_none_bool (fin_bl I q (by simp))
    | int j => obtain ⟨t', rfl⟩ := ry; exact PySem.EqNone.ne_none_int (fin_bl I q (by simp))
    | str j => obtain ⟨t', rfl⟩ := ry; exact PySem.EqNone.ne_none_str (fin_bl I q (by simp))
    | _ => exact absurd (show false = true from hs) Bool.false_ne_true
  | bl i =>
    cases rx
    cases y with
    | non => cases ry; exact PySem.EqNone.ne_bool_none (fin_bl I q (by simp))
    | bl j => cases ry; exact ne_bool (fin_bl I q (congrArg not dec_bl))
    | str j => obtain ⟨t', rfl⟩ := ry; exact PySem.EqMixed.ne_bool_str (fin_bl I q (by simp))
    | _ => exact absurd (show false = true from hs) Bool.false_ne_true
  | int i =>
    obtain ⟨t, rfl⟩ := rx
    cases y with
    | non => cases ry; exact PySem.EqNone.ne_int_none (fin_bl I q (by simp))
    | int j => obtain ⟨t', rfl⟩ := ry; exact ne_int (fin_bl I q (congrArg not dec_int))
    | str j => obtain ⟨t', rfl⟩ := ry; exact PySem.EqMixed.ne_int_str (fin_bl I q (by simp))
    | _ => exact absurd (show false = true from hs) Bool.false_ne_true
  | str i =>
    obtain ⟨t, rfl⟩ := rx
    cases y with
    | non => cases ry; exact PySem.EqNone.ne_str_none (fin_bl I q (by simp))
    | bl j => cases ry; exact PySem.EqMixed.ne_str_bool (fin_bl I q (by simp))
    | int j => obtain ⟨t', rfl⟩ := ry; exact PySem.EqMixed.ne_str_int (fin_bl I q (by simp))
    | str j => obtain ⟨t', rfl⟩ := ry; exact ne_str (fin_bl I q (congrArg not dec_str))
    | _ => exact absurd (show false = true from hs) Bool.false_ne_true
  | byt i =>
    obtain ⟨t, rfl⟩ := rx
    cases y with
    | byt j => obtain ⟨t', rfl⟩ := ry; exact PySem.W.ne_bytes (fin_bl I q (congrArg not dec_byt))
    | _ => exact absurd (show false = true from hs) Bool.false_ne_true
  | _ => cases y <;> exact absurd (show false = true from hs) Bool.false_ne_true
theorem op_lt : OpR X (compareOp .Lt) (rI0 fun i j => .bl (decide (i < j))) := opB0 fun _ _ _ _ _ _ _ q => lt_int q
theorem op_le : OpR X (compareOp .LtE) (rI0 fun i j => .bl (decide (i ≤ j))) := opB0 fun _ _ _ _ _ _ _ q => le_int q
theorem op_gt : OpR X (compareOp .Gt) (rI0 fun i j => .bl (decide (j < i))) := opB0 fun _ _ _ _ _ _ _ q => gt_int q
theorem op_ge : OpR X (compareOp .GtE) (rI0 fun i j => .bl (decide (j ≤ i))) := opB0 fun _ _ _ _ _ _ _ q => ge_int q
theorem op_in_str : OpR X (compareOp .In) (fun x y H Q => ∃ i j, x = .str i ∧ y = .str j ∧ Q (.bl (!(Builtin.Str.occurrences j i 0 j.length 1).isEmpty)) H) := by
  intro pins s σ H x y v u Q I rx ry h
  obtain ⟨i, j, rfl, rfl, q⟩ := h
  obtain ⟨t, rfl⟩ := rx
  obtain ⟨t', rfl⟩ := ry
  exact in_str (fin_bl I q rfl)
theorem op_isN : OpR X (compareOp .Is) (fun x y H Q => y = .non ∧ Q (.bl (decide (x = .non))) H) := by
  intro pins s σ H x y v u Q I rx ry h
  obtain ⟨rfl, q⟩ := h
  cases ry
  refine is_none_gen (fin_bl I q ?_)
  cases x <;> first
    | (cases rx; rfl)
    | (obtain ⟨t, rfl⟩ := rx; rfl)
theorem nomark (b : Expr) {op : CmpOp} (h : op ≠ .In := by decide) (h2 : op ≠ .NotIn := by decide) : behindInMarks op b = false := by
  have e1 : (op == CmpOp.In) = false := by cases op <;> first | rfl | exact absurd rfl h
  have e2 : (op == CmpOp.NotIn) = false := by cases op <;> first | rfl | exact absurd rfl h2
  cases b <;> simp [behindInMarks, e1, e2]
theorem pe_cmpR {op : CmpOp} {r : R2} (ho : OpR X (compareOp op) r) (ha : PE X a ta) (hb : PE X b tb) (hm : behindInMarks op b = false) : PE X (.Compare a [op] [b] pos) (tOp r ta tb) := by
  intro pins s σ H Q I h
  exact wpAny_Compare1 (binT ha hb I h fun v u s2 x y H2 I2 rx ry q => ho pins s2 σ H2 x y v u Q I2 rx ry q) hm
noncomputable def tTest (t : TE) : TT := fun σ H Q => t σ H fun x H' => ∃ k, x = .bl k ∧ Q k H'
theorem pt_cmpR {op : CmpOp} {r : R2} (ho : OpR X (compareOp op) r) (ha : PE X a ta) (hb : PE X b tb) (hm : behindInMarks op b = false) : PT X (.Compare a [op] [b] pos) (tTest (tOp r ta tb)) := by
  intro pins s σ H Q I h
  refine wpAny_isTrue_Compare1 (thn (ha pins s σ H _ I h) fun v s1 ⟨x, H1, I1, r1, q1⟩ => thn (hb pins s1 σ H1 _ I1 q1) fun u s2 ⟨y, H2, I2, r2, q2⟩ =>
    thn (ho pins s2 σ H2 x y v u _ I2 r1 r2 q2) fun c s3 ⟨z, H3, I3, r3, k, e, q3⟩ => ?_) hm
  subst e
  cases r3
  exact wpAny_truthy_bool ⟨H3, I3, q3⟩
noncomputable def tChain (r r' : R2) (ta tb tc : TE) : TE := fun σ H Q => ta σ H fun x H1 => tb σ H1 fun y H2 => r x y H2 fun z H3 => ∃ k, z = .bl k ∧
  (if k = true then tc σ H3 fun w' H4 => r' y w' H4 Q else Q (.bl false) H3)
theorem pe_chain {op op' : CmpOp} {r r' : R2} (ho : OpR X (compareOp op) r) (ho' : OpR X (compareOp op') r') (ha : PE X a ta) (hb : PE X b tb) (hc : PE X c tc)
    (hm : lastMarks [op, op'] [b, c] = false := by with_unfolding_all rfl) : PE X (.Compare a [op, op'] [b, c] pos) (tChain r r' ta tb tc) := by
  intro pins s σ H Q I h
  refine Compare_chain (thn (ha pins s σ H _ I h) fun v s1 ⟨x, H1, I1, r1, q1⟩ => chain_link (thn (hb pins s1 σ H1 _ I1 q1) fun u s2 ⟨y, H2, I2, r2, q2⟩ =>
    thn (ho pins s2 σ H2 x y v u _ I2 r1 r2 q2) fun d s3 ⟨z, H3, I3, r3, k, e, q3⟩ => ?_)) hm
  subst e
  cases r3
  refine wpAny_truthy_bool ?_
  cases k with
  | false => exact ite_ff ⟨.bl false, H3, I3, rfl, q3⟩
  | true => exact ite_tt (chain_last (thn (hc pins s3 σ H3 _ I3 q3) fun w' s4 ⟨z', H4, I4, r4, q4⟩ => ho' pins s4 σ H4 y z' u w' Q I4 r2 r4 q4))
theorem pt_chain {op op' : CmpOp} {r r' : R2} (ho : OpR X (compareOp op) r) (ho' : OpR X (compareOp op') r') (ha : PE X a ta) (hb : PE X b tb) (hc : PE X c tc)
    (hm : lastMarks [op, op'] [b, c] = false := by with_unfolding_all rfl) : PT X (.Compare a [op, op'] [b, c] pos) (tTest (tChain r r' ta tb tc)) := by
  intro pins s σ H Q I h
  refine isTrue_chain (thn (ha pins s σ H _ I h) fun v s1 ⟨x, H1, I1, r1, q1⟩ => test_link (thn (hb pins s1 σ H1 _ I1 q1) fun u s2 ⟨y, H2, I2, r2, q2⟩ =>
    thn (ho pins s2 σ H2 x y v u _ I2 r1 r2 q2) fun d s3 ⟨z, H3, I3, r3, k, e, q3⟩ => ?_)) hm
  subst e
  cases r3
  refine wpAny_truthy_bool ?_
  cases k with
  | false =>
    obtain ⟨k', e', q'⟩ := q3
    cases e'
    exact ite_ff ⟨H3, I3, q'⟩
  | true =>
    refine ite_tt (test_last (thn (hc pins s3 σ H3 _ I3 q3) fun w' s4 ⟨z', H4, I4, r4, q4⟩ => thn (ho' pins s4 σ H4 y z' u w' _ I4 r2 r4 q4) fun d' s5 ⟨z2, H5, I5, r5, k2, e2, q5⟩ => ?_))
    subst e2
    cases r5
    exact wpAny_truthy_bool ⟨H5, I5, q5⟩
theorem line63 : (sizeLine : Nat) < 2 ^ 63 := by rw [sizeLine_eq]; decide
theorem op_add_str : OpR X (binaryOp .Add) (fun x y H Q => ∃ i j, x = .str i ∧ y = .str j ∧ i.length + j.length ≤ sizeLine ∧ Q (.str (i ++ j)) H) := by
  intro pins s σ H x y v u Q I rx ry h
  obtain ⟨i, j, rfl, rfl, hz, q⟩ := h
  obtain ⟨t, rfl⟩ := rx
  obtain ⟨t', rfl⟩ := ry
  exact add_str (fun t' tk => ⟨.str (i ++ j), H, I.tok _, ⟨_, rfl⟩, q⟩) hz
theorem vals1 {x : V} {us : List Value} (r : Vals [x] us) : ∃ u, us = [u] ∧ RelV x u := by
  cases r with
  | cons r1 r2 => cases r2; exact ⟨_, rfl, r1⟩
theorem vals2 {x y : V} {us : List Value} (r : Vals [x, y] us) : ∃ u w', us = [u, w'] ∧ RelV x u ∧ RelV y w' := by
  cases r with
  | cons r1 r2 =>
    cases r2 with
    | cons r3 r4 => cases r4; exact ⟨_, _, rfl, r1, r3⟩
theorem call_abs : CallR X (.builtin "abs") (fun xs H Q => ∃ i, xs = [.int i] ∧ Q (.int (if i < 0 then -i else i)) H) := by
  intro pins s σ H xs us Q I r h
  obtain ⟨i, rfl, q⟩ := h
  obtain ⟨u, rfl, t, rfl⟩ := vals1 r
  exact call_abs_int fun u tk => ⟨.int (if i < 0 then -i else i), H, I.tok _, ⟨_, rfl⟩, q⟩
theorem call_min2 (hc : X.calm = true) : CallR X (.builtin "min") (fun xs H Q => ∃ i j, xs = [.int i, .int j] ∧ Q (.int (if j < i then j else i)) H) := by
  intro pins s σ H xs us Q I r h
  obtain ⟨i, j, rfl, q⟩ := h
  obtain ⟨u, w', rfl, ⟨t, rfl⟩, ⟨t', rfl⟩⟩ := vals2 r
  refine min_two_ints (I.ok.hd hc) fun h' tk k => ⟨_, H, I.kept k, ?_, q⟩
  by_cases hj : j < i
  · rw [if_pos hj, if_pos hj]; exact ⟨_, rfl⟩
  · rw [if_neg hj, if_neg hj]; exact ⟨_, rfl⟩
theorem call_int1 : CallR X (.type "int") (fun xs H Q => (∃ i, xs = [.int i] ∧ Q (.int i) H) ∨ ∃ k, xs = [.bl k] ∧ Q (.int (if k then 1 else 0)) H) := by
  intro pins s σ H xs us Q I r h
  rcases h with ⟨i, rfl, q⟩ | ⟨k, rfl, q⟩
  · obtain ⟨u, rfl, t, rfl⟩ := vals1 r
    exact call_int_int ⟨.int i, H, I, ⟨_, rfl⟩, q⟩
  · obtain ⟨u, rfl, r1⟩ := vals1 r
    cases r1
    exact call_int_bool ⟨.int (if k then 1 else 0), H, I.tok _, ⟨_, rfl⟩, q⟩
noncomputable def LenV (K : PySem.W.Frag) (x : V) (H : Hp) (n : Nat) : Prop :=
  match x with
  | .str y => y.length ≤ sizeLine ∧ n = y.length
  | .byt y => y.size ≤ sizeLine ∧ n = y.size
  | .ref p => (∃ xs, SqL K H p xs ∧ n = xs.length) ∨ ∃ xs, SqT K H p xs ∧ n = xs.length
  | _ => False
end
end L2
namespace L2
open PySem PySem.Spec PyProof.Rows
structure ObjM (h : Heap) (x dx C : Addr) (mA : Str → Option Value) : Prop where
  obj : h.get? x = some (PySem.W.instObj C dx)
  ns : h.Ns1 dx mA
  ne : dx ≠ x
theorem lookIn_ns {h : Heap} {dx : Addr} {mA : Str → Option Value} (n : h.Ns1 dx mA) : ∃ od, h.get? dx = some od ∧ ∀ name, PySem.W.lookIn name od = some (mA name) := by
  obtain ⟨o, es, ep, ho, hd, hk, _, hm⟩ := n
  refine ⟨o, ho, fun name => ?_⟩
  have e := hm name
  unfold nsFind findBy at e
  rw [← Array.find?_toList] at e
  unfold PySem.W.lookIn
  rw [hd]
  dsimp only
  split
  · rename_i y q
    rw [q] at e
    exact congrArg some e
  · rename_i q
    rw [q] at e
    have a : es.toList.any (·.refKey) = false := by
      rw [List.any_eq_false]
      intro y hy
      obtain ⟨z, t, hkey⟩ := hk y (Array.mem_toList_iff.mp hy)
      simp [DictEntry.refKey, hkey]
    have a' : ¬ es.toList.any (·.refKey) = true := by rw [a]; exact Bool.false_ne_true
    rw [if_neg a']
    exact congrArg some e
theorem ObjM.look {h : Heap} {x dx C : Addr} {mA : Str → Option Value} (I : ObjM h x dx C mA) : ∃ od, PySem.W.InstAt h x (PySem.W.instObj C dx) C (some od) ∧ ∀ name, PySem.W.lookIn name od = some (mA name) :=
  let ⟨od, ho, hl⟩ := lookIn_ns I.ns
  ⟨od, ⟨I.obj, rfl, rfl, ho⟩, hl⟩
section
variable {prog : Program} {w : World} {A : Around} {E : Value → Shared → Prop} {s : Shared} {K : PySem.W.Frag} {x dx C f : Addr} {mA : Str → Option Value} {name : Str} {v : Value}
theorem get_map {expr : Bool} {Q : Value → Shared → Prop} (X : K.In s.heap) (I : ObjM s.heap x dx C mA) (hg : PySem.W.plainGet K C name = true) (hh : PySem.W.hasDictIn K C = true)
    (ha : PySem.W.findIn K (.ref C) name = some none) (hv : mA name = some v) (hv' : PySem.W.handedIn v = true) (h : Q v { s with toks := s.toks + 1 }) :
    wpAny (model prog w) A (getAttr (.ref x) name expr) Q E s := by
  obtain ⟨od, J, hl⟩ := I.look
  exact PySem.W.get_value X J (PySem.W.plainGet_of hg).1 (PySem.W.findObj_own hh ha rfl (by rw [hl, hv])) hv' h
theorem get_meth {pl : Sem Bool} {Q : Value × List Value → Shared → Prop} (X : K.In s.heap) (I : ObjM s.heap x dx C mA) (hg : PySem.W.plainGet K C name = true)
    (hf : PySem.W.findIn K (.ref C) name = some (some (.ref f))) (ht : PySem.W.isFn K (.ref f) = true) (hv : mA name = none) (h : Q (.ref f, [.ref x]) s) :
    wpAny (model prog w) A (getMethod (.ref x) name pl) Q E s := by
  obtain ⟨od, J, hl⟩ := I.look
  exact PySem.W.method_fn X J (PySem.W.plainGet_of hg).1 (PySem.W.plainGet_of hg).2 hf (beq_iff_eq.mp ht) (by show (PySem.W.lookIn name od).map (·.isSome) = some false; rw [hl, hv]; rfl) h
theorem set_map {ns : List Str} {Q : Unit → Shared → Prop} (X : K.In s.heap) (I : ObjM s.heap x dx C mA)
    (hs : PySem.W.findIn K (.ref C) "__setattr__" = some (some (.builtin "object.__setattr__"))) (hp : PySem.W.plainOver K C = true) (ht : PySem.W.takerIn K C name = some none) (hh : PySem.W.hasDictIn K C = true)
    (hw : PySem.Within mA ns) (hsz : ns.length ≤ sizeLine)
    (h : ∀ h', ObjM h' x dx C (fun y => if y = name then some v else mA y) → Heap.SameBut dx s.heap h' → Q () { s with heap := h', toks := s.toks + 2 }) :
    wpAny (model prog w) A (setAttr (.ref x) name v) Q E s := by
  obtain ⟨od, J, hl⟩ := I.look
  refine PySem.W.set_plain X J hs (PySem.W.osa_open (s := { s with toks := s.toks + 1 }) (r := none) X J hp ht fun b => ?_)
  obtain ⟨cd, hc, hd'⟩ := PySem.W.any_some hh
  have hx : s.heap.get? x = some ⟨.ref C, some dx, .plain, #[]⟩ := I.obj
  refine wpAny_bind (wpAny_pure (wpAny_bind (wpAny_bind (wpAny_loadPart hx (wpAny_bind (PySem.W.Looks.here (s := { s with toks := s.toks + 1 }) (PySem.W.looks_clsIn X hc) ?_))))))
  rw [hd']
  refine wpAny_pure (a := some dx) (wpAny_bind (wpAny_pure (wpAny_bind ?_)))
  refine wpAny_nsSet1 (s := { s with toks := s.toks + 1 }) I.ns fun h' hn2 hs2 => ?_
  obtain ⟨oD, esD, epD, hoD, hdD, hcD⟩ := hn2.count (PySem.Within.cons name v hw)
  refine wpAny_bind (wpAny_lookBehind hoD (by rw [hdD]; exact pastItsLine_dict (Nat.le_trans hcD (by rw [List.length_cons]; omega))) ?_)
  exact wpAny_pure (h _ ⟨(hs2.2 _ (Ne.symm I.ne)).trans I.obj, hn2, I.ne⟩ hs2)
theorem make_map {R : Result → Shared → Prop} {vs : List Value} {kw : List (Str × Value)} (X : K.In s.heap) (hm : PySem.W.makesIn K C = true)
    (hi : PySem.W.findIn K (.ref C) "__init__" = some (some (.ref f))) (hf : PySem.W.typeIn K (.ref f) = some (.type "function"))
    (h : codeAny (model prog w) (A.under (.builtin "type.__call__" ⟨.ref C :: vs, kw⟩)) (.call (.ref f) ⟨.ref (s.heap.objs.size + 1) :: vs, kw⟩) (PySem.W.InitBack (s.heap.objs.size + 1) R)
      { s with heap := (s.heap.push PySem.W.emptyDict).push (PySem.W.instObj C s.heap.objs.size) }) :
    codeAny (model prog w) A (.call (.ref C) ⟨vs, kw⟩) R s := by
  obtain ⟨hh, g, d, t, os⟩ := s
  exact PySem.W.make_core (PySem.W.makes_of X hm) (PySem.W.looks_findIn X hi) (fun self => PySem.W.bind_fn X self hf) (.inl rfl) h
end
noncomputable def putF (f : Str) (v : V) : List (Str × V) → List (Str × V)
  | [] => [(f, v)]
  | (g, x) :: r => if g = f then (g, v) :: r else (g, x) :: putF f v r
theorem lookup_putF (f g : Str) (v : V) : ∀ fs : List (Str × V), (putF f v fs).lookup g = if g = f then some v else fs.lookup g
  | [] => by
    show List.lookup g [(f, v)] = _
    by_cases h : g = f
    · have hb : (g == f) = true := beq_iff_eq.mpr h
      simp only [List.lookup, hb, if_pos h]
    · have hb : (g == f) = false := beq_eq_false_iff_ne.mpr h
      simp only [List.lookup, hb, if_neg h]
  | (k, x) :: r => by
    have ih := lookup_putF f g v r
    rw [show putF f v ((k, x) :: r) = (if k = f then (k, v) :: r else (k, x) :: putF f v r) from rfl]
    by_cases hk : k = f
    · rw [if_pos hk]
      by_cases h : g = k
      · have hb : (g == k) = true := beq_iff_eq.mpr h
        simp only [List.lookup, hb, if_pos (h.trans hk)]
      · have hb : (g == k) = false := beq_eq_false_iff_ne.mpr h
        simp only [List.lookup, hb, if_neg (fun e : g = f => h (e.trans hk.symm))]
    · rw [if_neg hk]
      by_cases h : g = k
      · have hb : (g == k) = true := beq_iff_eq.mpr h
        simp only [List.lookup, hb, if_neg (fun e : g = f => hk (h.symm.trans e))]
      · have hb : (g == k) = false := beq_eq_false_iff_ne.mpr h
        simp only [List.lookup, hb]
        exact ih
theorem keys_putF (f : Str) (v : V) : ∀ fs : List (Str × V), f ∈ (putF f v fs).map (·.1) ∧ ∀ g, g ∈ fs.map (·.1) → g ∈ (putF f v fs).map (·.1)
  | [] => ⟨by simp [putF], fun g h => by simp at h⟩
  | (k, x) :: r => by
    obtain ⟨i1, i2⟩ := keys_putF f v r
    rw [show putF f v ((k, x) :: r) = (if k = f then (k, v) :: r else (k, x) :: putF f v r) from rfl]
    by_cases hk : k = f
    · rw [if_pos hk]
      subst hk
      exact ⟨by simp, fun g h => by simpa using h⟩
    · rw [if_neg hk]
      refine ⟨?_, fun g h => ?_⟩
      · rw [List.map_cons]
        exact List.mem_cons_of_mem _ i1
      · rw [List.map_cons] at h ⊢
        rcases List.mem_cons.mp h with e | e
        · exact List.mem_cons.mpr (.inl e)
        · exact List.mem_cons_of_mem _ (i2 g e)
theorem length_putF (f : Str) (v : V) : ∀ fs : List (Str × V), (putF f v fs).length ≤ fs.length + 1
  | [] => by simp [putF]
  | (k, x) :: r => by
    have ih := length_putF f v r
    rw [show putF f v ((k, x) :: r) = (if k = f then (k, v) :: r else (k, x) :: putF f v r) from rfl]
    by_cases hk : k = f
    · rw [if_pos hk, List.length_cons, List.length_cons]; omega
    · rw [if_neg hk, List.length_cons, List.length_cons]; omega
theorem RelO.some_of {v : V} {o : Option Value} (r : RelO (some v) o) : ∃ u, o = some u ∧ RelV v u := by
  cases o with
  | none => exact (show False from r).elim
  | some u => exact ⟨u, rfl, r⟩
theorem RelO.none_of {o : Option Value} (r : RelO none o) : o = none := by
  cases o with
  | none => rfl
  | some u => exact (show False from r).elim
theorem handed_of {v : V} {u : Value} (r : RelV v u) : PySem.W.handedIn u = true := by
  cases v with
  | non => cases (show u = Value.none from r); rfl
  | bl b => cases (show u = Value.bool b from r); rfl
  | int i => obtain ⟨t, e⟩ := (show ∃ t, u = Value.int i t from r); cases e; rfl
  | str x => obtain ⟨t, e⟩ := (show ∃ t, u = Value.str x t from r); cases e; rfl
  | byt b => obtain ⟨t, e⟩ := (show ∃ t, u = Value.bytes b t from r); cases e; rfl
  | flt b => obtain ⟨t, e⟩ := (show ∃ t, u = Value.float b t from r); cases e; rfl
  | ref a => cases (show u = Value.ref a from r); rfl
  | ty n => cases (show u = Value.type n from r); rfl
section
variable {P : Program} {w : World} {H H' : Hp} {h h' : Heap} {a C dx : Addr} {fs fs' : List (Str × V)}
theorem ins_get (hok : HOk P w H h) (e : H a = some (.ins C dx fs)) : ∃ mA, ObjM h a dx C mA ∧ (∀ f, RelO (fs.lookup f) (mA f)) ∧ PySem.Within mA (fs.map (·.1)) ∧ fs.length ≤ 1000 ∧ H dx = some (.own a) := by
  obtain ⟨d, z, ne, ob, mA, n, r, q⟩ := (show ObjOk P w H h a (.ins C dx fs) from hok a _ e)
  exact ⟨mA, ⟨ob, n, ne⟩, r, q, z, d⟩
end
structure Cls (K : PySem.W.Frag) (C : Addr) : Prop where
  pg : PySem.W.plainGet K C Str.empty = true
  hd : PySem.W.hasDictIn K C = true
  po : PySem.W.plainOver K C = true
  sa : PySem.W.findIn K (.ref C) "__setattr__" = some (some (.builtin "object.__setattr__"))
theorem Cls.get {K : PySem.W.Frag} {C : Addr} (c : Cls K C) (f : Str) : PySem.W.plainGet K C f = true := c.pg
noncomputable def NoAttr (K : PySem.W.Frag) (C : Addr) (f : Str) : Prop := PySem.W.findIn K (.ref C) f = some none
theorem NoAttr.taker {K : PySem.W.Frag} {C : Addr} {f : Str} (n : NoAttr K C f) : PySem.W.takerIn K C f = some none := by
  unfold PySem.W.takerIn
  rw [show PySem.W.findIn K (.ref C) f = some none from n]
  rfl
structure Meth (K : PySem.W.Frag) (C : Addr) (m : Str) (f : Addr) : Prop where
  at_ : PySem.W.findIn K (.ref C) m = some (some (.ref f))
  fn : PySem.W.isFn K (.ref f) = true
  kp : PySem.W.keepIn K (.ref f) = true
section
variable {X : Cx} {pins : List (Addr × Obj)} {σ : St} {H : Hp} {s : Shared} {a C dx : Addr} {fs : List (Str × V)} {f : Str} {v : V} {A : Around} {E : Value → Shared → Prop}
theorem getattr_ok {b : Bool} {Q : Value → Shared → Prop} (I : Inv X pins σ H s) (e : H a = some (.ins C dx fs)) (c : Cls X.K C) (n : NoAttr X.K C f) (l : fs.lookup f = some v)
    (h : ∀ u s', Inv X pins σ H s' → RelV v u → Q u s') : wpAny (model X.prog X.w) A (getAttr (.ref a) f b) Q E s := by
  obtain ⟨mA, O, r, _, _, _⟩ := ins_get I.hok e
  obtain ⟨u, hu, ru⟩ := RelO.some_of (v := v) (o := mA f) (by rw [← l]; exact r f)
  exact get_map I.kIn O (c.get f) c.hd n hu (handed_of ru) (h u _ (I.tok _) ru)
theorem getmeth_ok {m : Str} {g : Addr} {pl : Sem Bool} {Q : Value × List Value → Shared → Prop} (I : Inv X pins σ H s) (e : H a = some (.ins C dx fs)) (c : Cls X.K C) (k : Meth X.K C m g) (l : fs.lookup m = none)
    (h : Q (.ref g, [.ref a]) s) : wpAny (model X.prog X.w) A (getMethod (.ref a) m pl) Q E s := by
  obtain ⟨mA, O, r, _, _, _⟩ := ins_get I.hok e
  have hn : mA m = none := RelO.none_of (by rw [← l]; exact r m)
  exact get_meth I.kIn O (c.get m) k.at_ k.fn hn h
theorem setattr_ok {y : V} {u : Value} {Q : Unit → Shared → Prop} (I : Inv X pins σ H s) (e : H a = some (.ins C dx fs)) (c : Cls X.K C) (n : NoAttr X.K C f) (hl : fs.length < 1000) (ry : RelV y u)
    (h : ∀ s', Inv X pins σ (upd H a (.ins C dx (putF f y fs))) s' → Q () s') : wpAny (model X.prog X.w) A (setAttr (.ref a) f u) Q E s := by
  obtain ⟨mA, O, r, wi, _, ho⟩ := ins_get I.hok e
  have hz : (fs.map (·.1)).length ≤ sizeLine := by rw [List.length_map, sizeLine_eq]; omega
  refine set_map I.kIn O c.sa c.po n.taker c.hd wi hz fun h' O' sb => h _ ?_
  have hd : ∃ o, h'.get? dx = some o := let ⟨o, _, _, e', _⟩ := O'.ns; ⟨o, e'⟩
  refine I.write (x := a) (e := dx) (by rw [e]; exact True.intro) (.inr ho) (fun b q hb z => (sb.2 b hb).trans z) hd ?_
  refine ⟨by rw [upd_ne O.ne]; exact ho, ?_, O.ne, O'.obj, _, O'.ns, fun g => ?_, fun g hg => ?_⟩
  · have := length_putF f y fs; omega
  · show RelO ((putF f y fs).lookup g) (if g = f then some u else mA g)
    rw [lookup_putF]
    by_cases q : g = f
    · rw [if_pos q, if_pos q]; exact ry
    · rw [if_neg q, if_neg q]; exact r g
  · by_cases q : g = f
    · rw [q]; exact (keys_putF f y fs).1
    · refine (keys_putF f y fs).2 g (wi g fun z => hg ?_)
      show (if g = f then some u else mA g) = none
      rw [if_neg q]; exact z
theorem Inv.made (I : Inv X pins σ H s) : Inv X pins σ (upd (upd H s.heap.objs.size (.own (s.heap.objs.size + 1))) (s.heap.objs.size + 1) (.ins C s.heap.objs.size []))
    { s with heap := (s.heap.push PySem.W.emptyDict).push (PySem.W.instObj C s.heap.objs.size) } := by
  have e1 : (s.heap.push PySem.W.emptyDict).get? s.heap.objs.size = some PySem.W.emptyDict := Heap.get?_push_size s.heap rfl
  have e2 : ((s.heap.push PySem.W.emptyDict).push (PySem.W.instObj C s.heap.objs.size)).get? (s.heap.objs.size + 1) = some (PySem.W.instObj C s.heap.objs.size) := by
    have := Heap.get?_push_size (s.heap.push PySem.W.emptyDict) (o := PySem.W.instObj C s.heap.objs.size) rfl
    rwa [Heap.size_push] at this
  have e3 : (s.heap.push PySem.W.emptyDict).Ns s.heap.objs.size (fun _ => none) := ⟨PySem.W.emptyDict, #[], _, e1, rfl, (fun e he => absurd he (by simp)), fun _ => rfl⟩
  have I1 := I.laid (a := s.heap.objs.size) (o := .own (s.heap.objs.size + 1)) (h' := s.heap.push PySem.W.emptyDict) (t' := s.toks) (fun b u q => Heap.get?_push_of_some _ q) (Nat.le_refl _) ⟨_, e1⟩
  refine I1.laid (a := s.heap.objs.size + 1) (o := .ins C s.heap.objs.size []) (t' := s.toks) (fun b u q => Heap.get?_push_of_some _ q) (Nat.le_of_eq (Heap.size_push _ _)) ?_
  have ne : s.heap.objs.size ≠ s.heap.objs.size + 1 := Nat.ne_of_lt (Nat.lt_succ_self _)
  refine ⟨by rw [upd_ne ne, upd_same], Nat.zero_le _, ne, e2, fun _ => none, (Heap.Ns1.of_empty e3).at fun o q => Heap.get?_push_of_some _ q, fun _ => True.intro, fun y hy => absurd rfl hy⟩
theorem attr_of {prog : Program} {w : World} {env : Env} {e : Expr} {f : Str} {pos : Pos} {s : Shared} {Q : Value → Shared → Prop} (hb : attributeBase e f env (eval e env) = eval e env)
    (h : wpAny (model prog w) A (eval e env) (fun o s₁ => wpAny (model prog w) A (getAttr o f true) Q E s₁) E s) : wpAny (model prog w) A (eval (.Attribute e f pos) env) Q E s :=
  Attribute_any_ h (by rw [arm_eval_Attribute, hb])
end
noncomputable def tFld (K : PySem.W.Frag) (ta : TE) (f : Str) : TE := fun σ H Q => ta σ H fun x H1 => ∃ a C dx fs v, x = .ref a ∧ H1 a = some (.ins C dx fs) ∧ Cls K C ∧ NoAttr K C f ∧ fs.lookup f = some v ∧ Q v H1
noncomputable def sFld (K : PySem.W.Frag) (ta tv : TE) (f : Str) : TS := fun D σ H => tv σ H fun y H1 => ta σ H1 fun x H2 => ∃ a C dx fs, x = .ref a ∧ H2 a = some (.ins C dx fs) ∧ Cls K C ∧ NoAttr K C f ∧ fs.length < 1000 ∧
  D.nx σ (upd H2 a (.ins C dx (putF f y fs)))
noncomputable def InOp (X : Cx) (op : Operator) (rd : V → V → Hp → VK → Prop) : Prop :=
  ∀ (pins : List (Addr × Obj)) (s : Shared) (σ : St) (H : Hp) (x y : V) (u v : Value) (Q : VK), Inv X pins σ H s → RelV x u → RelV y v → rd x y H Q → wpAny (model X.prog X.w) X.A (inplaceOp op u v) (EP X pins σ Q) X.xe s
noncomputable def sFldAug (K : PySem.W.Frag) (ta tv : TE) (rd : V → V → Hp → VK → Prop) (f : Str) : TS := fun D σ H => ta σ H fun x H1 => ∃ a C dx fs v, x = .ref a ∧ H1 a = some (.ins C dx fs) ∧ Cls K C ∧ NoAttr K C f ∧ fs.lookup f = some v ∧
  tv σ H1 fun y H2 => rd v y H2 fun z H3 => ∃ dx' fs', H3 a = some (.ins C dx' fs') ∧ fs'.length < 1000 ∧ D.nx σ (upd H3 a (.ins C dx' (putF f z fs')))
section
variable {X : Cx} {o e value : Expr} {f : Str} {pos pos' tpos : Pos} {ta tv : TE}
theorem pe_fld (he : PE X e ta) (hb : attributeBase e f X.env (eval e X.env) = eval e X.env) : PE X (.Attribute e f pos) (tFld X.K ta f) := by
  intro pins s σ H Q I h
  refine attr_of hb (thn (he pins s σ H _ I h) fun u s1 ⟨x, H1, I1, rx, a, C, dx, fs, v, ex, ea, c, n, l, q⟩ => ?_)
  subst ex
  obtain rfl : u = Value.ref a := rx
  exact getattr_ok I1 ea c n l fun u' s2 I2 ru => ⟨v, H1, I2, ru, q⟩
theorem ps_fld (ha : PE X o ta) (hv : PE X value tv) (hs : swapsWith value (some (.Attribute o f pos')) pos.line X.env = pure false) : PS X (.Assign [.Attribute o f pos'] value pos) (sFld X.K ta tv f) := by
  intro pins s σ H D I h
  refine plainObj_wpAny_Assign_Attribute (thn (hv pins s σ H _ I h) fun u s1 ⟨y, H1, I1, ry, q⟩ => thn (ha pins s1 σ H1 _ I1 q) fun ov s2 ⟨x, H2, I2, rx, a, C, dx, fs, ex, ea, c, n, l, q2⟩ => ?_) hs
  subst ex
  obtain rfl : ov = Value.ref a := rx
  exact setattr_ok I2 ea c n l ry fun s3 I3 => ⟨σ, _, I3, q2⟩
theorem ps_fldaug {op : Operator} {rd : V → V → Hp → VK → Prop} (ha : PE X o ta) (hv : PE X value tv) (hop : InOp X op rd) : PS X (.AugAssign (.Attribute o f tpos) op value pos) (sFldAug X.K ta tv rd f) := by
  intro pins s σ H D I h
  refine wpAny_AugAssign_AttributeAny (thn (ha pins s σ H _ I h) fun ov s1 ⟨x, H1, I1, rx, a, C, dx, fs, v, ex, ea, c, n, l, q⟩ => ?_)
  subst ex
  obtain rfl : ov = Value.ref a := rx
  refine getattr_ok I1 ea c n l fun u s2 I2 ru => thn (hv pins s2 σ H1 _ I2 q) fun w3 s3 ⟨y, H2, I3, ry, q3⟩ => thn (hop pins s3 σ H2 v y u w3 _ I3 ru ry q3) fun w4 s4 ⟨z, H3, I4, rz, dx', fs', ea', l', q4⟩ => ?_
  exact setattr_ok I4 ea' c n l' rz fun s5 I5 => ⟨σ, _, I5, q4⟩
noncomputable def rAdd : V → V → Hp → VK → Prop := fun x y H Q => ∃ i j, x = .int i ∧ y = .int j ∧ Q (.int (i + j)) H
theorem in_add : InOp X .Add rAdd := by
  rintro pins s σ H x y u v Q I rx ry ⟨i, j, rfl, rfl, q⟩
  obtain ⟨t, rfl⟩ := (show ∃ t, u = Value.int i t from rx)
  obtain ⟨t', rfl⟩ := (show ∃ t', v = Value.int j t' from ry)
  exact PyProof.Rows.iadd_int ⟨.int (i + j), H, I.tok _, ⟨_, rfl⟩, q⟩
end
section
variable {X : Cx} {pins : List (Addr × Obj)} {σ : St} {H : Hp} {s : Shared} {A : Around} {E : Value → Shared → Prop} {Q : Value → Shared → Prop} {c : Value} {b : Bool}
inductive TyOf (K : PySem.W.Frag) (H : Hp) : V → Value → Prop where
  | non : TyOf K H .non (.type "NoneType")
  | bl (x : Bool) : TyOf K H (.bl x) (.type "bool")
  | int (i : Int) : TyOf K H (.int i) (.type "int")
  | str (x : Str) : TyOf K H (.str x) (.type "str")
  | flt (x : UInt64) : TyOf K H (.flt x) (.type "float")
  | lst {a : Addr} {xs : List V} (e : H a = some (.lst xs)) : TyOf K H (.ref a) (.type "list")
  | frz {a : Addr} {o : Obj} {xs : List V} (e : H a = some (.frz o (.lst xs))) : TyOf K H (.ref a) (.type "list")
  | tup {a : Addr} {xs : List V} (e : H a = some (.tup xs)) : TyOf K H (.ref a) (.type "tuple")
  | dK {a : Addr} {kvs : List (Key × V)} (e : H a = some (.dK kvs)) : TyOf K H (.ref a) (.type "dict")
  | dT {a : Addr} {kvs : List (List NKey × V)} (e : H a = some (.dT kvs)) : TyOf K H (.ref a) (.type "dict")
  | ins {a C dx : Addr} {fs : List (Str × V)} (e : H a = some (.ins C dx fs)) (cl : Cls K C) (ha : PySem.W.findIn K (.ref C) "__class__" = some (some (.builtin "object.__class__")))
      (hn : PySem.W.specialIn K (.builtin "object.__class__") "__get__" = some (some (.builtin "getset_descriptor.__get__"))) (htk : PySem.W.takesIn K (.builtin "object.__class__") = some true)
      (hm : PySem.W.mroIn K C (.type "object") = some true) : TyOf K H (.ref a) (.ref C)
theorem isinst_ok {x : V} {u t : Value} (I : Inv X pins σ H s) (rx : RelV x u) (ty : TyOf X.K H x t) (e : PySem.W.kitOne X.K t c = some b) (h : ∀ tk, Q (.bool b) { s with toks := tk }) :
    wpAny (model X.prog X.w) A (call (.builtin "isinstance") [u, c]) Q E s := by
  cases ty with
  | non => cases (show u = Value.none from rx); exact PySem.W.kia_one PySem.W.kitx_none I.kIn True.intro e (fun z => nomatch z) h
  | bl y => cases (show u = Value.bool y from rx); exact PySem.W.kia_one PySem.W.kitx_bool I.kIn True.intro e (fun z => nomatch z) h
  | int i => obtain ⟨t, q⟩ := (show ∃ t, u = Value.int i t from rx); cases q; exact PySem.W.kia_one PySem.W.kitx_int I.kIn True.intro e (fun z => nomatch z) h
  | str y => obtain ⟨t, q⟩ := (show ∃ t, u = Value.str y t from rx); cases q; exact PySem.W.kia_one PySem.W.kitx_str I.kIn True.intro e (fun z => nomatch z) h
  | flt y => obtain ⟨t, q⟩ := (show ∃ t, u = Value.float y t from rx); cases q; exact PySem.W.kia_one PySem.W.kitx_float I.kIn True.intro e (fun z => nomatch z) h
  | @lst a xs ea =>
    cases (show u = Value.ref a from rx)
    obtain ⟨_, _, n, _, h1⟩ := (show ObjOk X.prog X.w H s.heap a (.lst xs) from I.hok a _ ea)
    exact PySem.W.kia_one PySem.W.kitx_list I.kIn ⟨_, h1, rfl⟩ e (fun z => nomatch z) h
  | @frz a ob xs ea =>
    cases (show u = Value.ref a from rx)
    obtain ⟨_, _, _, n, _, h1⟩ := (show ObjOk X.prog X.w H s.heap a (.frz ob (.lst xs)) from I.hok a _ ea)
    exact PySem.W.kia_one PySem.W.kitx_list I.kIn ⟨_, h1, rfl⟩ e (fun z => nomatch z) h
  | @tup a xs ea =>
    cases (show u = Value.ref a from rx)
    obtain ⟨_, _, _, p⟩ := (show ObjOk X.prog X.w H s.heap a (.tup xs) from I.hok a _ ea)
    obtain ⟨o, h1, h2, _⟩ := p
    exact PySem.W.kia_one PySem.W.kitx_tuple I.kIn ⟨o, h1, h2⟩ e (fun z => nomatch z) h
  | @dK a kvs ea =>
    cases (show u = Value.ref a from rx)
    obtain ⟨_, _, vs, _, p⟩ := (show ObjOk X.prog X.w H s.heap a (.dK kvs) from I.hok a _ ea)
    obtain ⟨o, es, ep, h1, h2, _⟩ := p
    exact PySem.W.kia_one PySem.W.kitx_dict I.kIn ⟨o, h1, h2.1⟩ e (fun z => nomatch z) h
  | @dT a kvs ea =>
    cases (show u = Value.ref a from rx)
    obtain ⟨_, _, xs, _, o, es, ep, h1, h2, _⟩ := (show ObjOk X.prog X.w H s.heap a (.dT kvs) from I.hok a _ ea)
    exact PySem.W.kia_one PySem.W.kitx_dict I.kIn ⟨o, h1, h2.1⟩ e (fun z => nomatch z) h
  | @ins a C dx fs ea cl ha hn htk hm =>
    cases (show u = Value.ref a from rx)
    obtain ⟨mA, O, _⟩ := ins_get I.hok ea
    obtain ⟨od, J, _⟩ := O.look
    exact PySem.W.kia_one (PySem.W.kitx_own (cl.get _) cl.hd ha hn htk hm) I.kIn J e (fun z => nomatch z) h
end
end L2
namespace L2
open PySem PySem.Spec PyProof.Rows
structure Room (k : Nat) (A : Around) : Prop where
  hd : A.handled = none
  dp : A.depth + 3 * k + 5 < recursionLimit
  un : A.units + 16 * k + 200 < cLine
theorem Room.mono {j k : Nat} {A : Around} (r : Room k A) (h : j ≤ k) : Room j A := ⟨r.hd, by have := r.dp; omega, by have := r.un; omega⟩
theorem Room.deeper {k : Nat} {A : Around} (r : Room (k + 1) A) (env : Env) : Room k (A.deeper env) :=
  ⟨r.hd, by have := r.dp; show A.depth + 1 + 3 * k + 5 < _; omega, by have := r.un; show A.units + 3 + 16 * k + 200 < _; omega⟩
theorem make_depth {A : Around} {C : Addr} {us : List Value} {kw : List (Str × Value)} : (A.under (.builtin "type.__call__" ⟨.ref C :: us, kw⟩)).depth = A.depth + 1 := by
  first | rfl | simp [Around.under, Code.weight, Code.isCreation, Code.isGuard, Code.isCaller, Code.frames, Code.isFrame, guardIds]
theorem make_units {A : Around} {C : Addr} {us : List Value} {kw : List (Str × Value)} : (A.under (.builtin "type.__call__" ⟨.ref C :: us, kw⟩)).units = A.units + 1 := by
  first | rfl | simp [Around.under, Code.cUnits, Code.frames, Code.isFrame]
theorem Room.make {k : Nat} {A : Around} (r : Room (k + 1) A) (C : Addr) (us : List Value) (kw : List (Str × Value)) : Room k (A.under (.builtin "type.__call__" ⟨.ref C :: us, kw⟩)) :=
  ⟨r.hd, by have := r.dp; rw [make_depth]; omega, by have := r.un; rw [make_units]; omega⟩
theorem Room.depth {k : Nat} {A : Around} (r : Room k A) : A.depth < recursionLimit := by have := r.dp; omega
theorem Room.units {k : Nat} {A : Around} (r : Room k A) : A.units + 64 < cLine := by have := r.un; omega
noncomputable def tNil : TA := fun _ H Q => Q [] H
noncomputable def tCons (ta : TE) (tr : TA) : TA := fun σ H Q => ta σ H fun x H1 => tr σ H1 fun xs H2 => Q (x :: xs) H2
section
variable {X : Cx} {e : Expr} {es : List Expr} {te : TE} {t : TA} {pos : Pos}
theorem pa_nil : PA X [] tNil := fun _ _ _ _ H Q I h => Calls.spliced_nil ⟨[], H, I, .nil, h⟩
theorem pa_cons (ha : PE X e te) (hr : PA X es t) (hs : starEach (e :: es) X.env = (false, eval e X.env) :: starEach es X.env := by rfl) : PA X (e :: es) (tCons te t) := by
  intro pos pins s σ H Q I h
  rw [hs]
  show wpAny _ _ (spliced ((false, eval e X.env) :: backTo pos (starEach es X.env))) _ _ s
  refine Calls.spliced_cons (thn (ha pins s σ H _ I h) fun u s1 ⟨x, H1, I1, r1, q1⟩ => ?_)
  exact thn (hr pos pins s1 σ H1 _ I1 q1) fun us s2 ⟨xs, H2, I2, r2, q2⟩ => ⟨x :: xs, H2, I2, .cons r1 r2, q2⟩
noncomputable def tTup (t : TA) : TE := fun σ H Q => t σ H fun xs H1 => xs.length ≤ sizeLine ∧ ∀ p, H1 p = none → Q (.ref p) (upd H1 p (.tup xs))
noncomputable def tLst (t : TA) : TE := fun σ H Q => t σ H fun xs H1 => xs.length ≤ sizeLine ∧ ∀ p, H1 p = none → Q (.ref p) (upd H1 p (.lst xs))
theorem pe_tup {x1} (h : PA X es t) : PE X (.Tuple es x1 pos) (tTup t) := by
  intro pins s σ H Q I hq
  refine wpAny_Tuple_spliced (thn (h pos pins s σ H _ I hq) fun us s1 ⟨xs, H1, I1, r, z, q⟩ => ⟨by rw [← r.length]; exact z, ?_⟩)
  have hf : H1 s1.heap.objs.size = none := I1.hok.fresh (Nat.le_refl _)
  refine ⟨.ref s1.heap.objs.size, upd H1 s1.heap.objs.size (.tup xs), I1.laid (t' := s1.toks) (fun b u e => Heap.get?_push_of_some _ e) (Nat.le_refl _) ?_, rfl, q _ hf⟩
  exact ⟨z, us, r, ⟨_, Heap.get?_push_size _ rfl, rfl, _, rfl⟩⟩
theorem pe_lst (h : PA X es t) : PE X (.List es pos) (tLst t) := by
  intro pins s σ H Q I hq
  refine wpAny_List_spliced (thn (h pos pins s σ H _ I hq) fun us s1 ⟨xs, H1, I1, r, z, q⟩ => ⟨by rw [← r.length]; exact z, ?_⟩)
  have hf : H1 s1.heap.objs.size = none := I1.hok.fresh (Nat.le_refl _)
  refine ⟨.ref s1.heap.objs.size, upd H1 s1.heap.objs.size (.lst xs), I1.laid (t' := s1.toks) (fun b u e => Heap.get?_push_of_some _ e) (Nat.le_refl _) ?_, rfl, q _ hf⟩
  exact ⟨z, us, 0, r, Heap.get?_push_size _ rfl⟩
end
noncomputable abbrev Sp := List V → Hp → VK → XK → Prop
noncomputable abbrev CXT := List Env → Hp → Shared → XK → Value → Shared → Prop
structure Env0 (P : Program) (w : World) (K : PySem.W.Frag) (mg : Str → Option Value) (base : Heap) (A : Around) (outer : List Env) (s : Shared) (H : Hp) : Prop where
  frames : A.frames = some outer
  mod : Mod K mg base
  bs : ∀ b o, base.get? b = some o → s.heap.get? b = some o ∧ H b = none
  bsz : base.objs.size ≤ s.heap.objs.size
  funs : s.heap.FunFrames base outer
  frf : ∀ b ∈ frs outer, H b = none
  hok : HOk P w H s.heap
  bare : AllBare s.gens
noncomputable def CE (outer : List Env) (P : Program) (w : World) (H : Hp) (s : Shared) (Q : VK) (u : Value) (s' : Shared) : Prop :=
  ∃ v H', s'.os = s.os ∧ AllBare s'.gens ∧ Un (frs outer) [] H H' s.heap s'.heap ∧ HOk P w H' s'.heap ∧ RelV v u ∧ Q v H'
noncomputable def CR (CX : CXT) (outer : List Env) (P : Program) (w : World) (H : Hp) (s : Shared) (Q : VK) (E : XK) (r : Result) (s' : Shared) : Prop :=
  match r with
  | .ok (.ret u) => CE outer P w H s Q u s'
  | .ok _ => False
  | .error e => CX outer H s E e s'
structure FnOk (P : Program) (w : World) (K : PySem.W.Frag) (mg : Str → Option Value) (base : Heap) (CX : CXT) (k : Nat) (f : Addr) (fd : FuncData) (ps : List Str) (sp : Sp) : Prop where
  len : ∀ vs H Q E, sp vs H Q E → vs.length = ps.length
  run : ∀ (A : Around) (outer : List Env) (s : Shared) (H : Hp) (args : Args) (us : List Value) (vs : List V) (Q : VK) (E : XK), Room k A → Env0 P w K mg base A outer s H → BindsTo s fd args (ps.zip us) → Vals vs us → sp vs H Q E →
    codeAny (model P w) A (.call (.ref f) args) (CR CX outer P w H s Q E) s
theorem Env0.make {P : Program} {w : World} {K : PySem.W.Frag} {mg : Str → Option Value} {base : Heap} {A : Around} {outer : List Env} {s : Shared} {H : Hp} (e : Env0 P w K mg base A outer s H) (C : Addr) (us : List Value) (kw : List (Str × Value)) :
    Env0 P w K mg base (A.under (.builtin "type.__call__" ⟨.ref C :: us, kw⟩)) outer s H := ⟨by first | exact e.frames | (simpa [Around.under, Code.envs, Code.isFrame, pushEnvs] using e.frames), e.mod, e.bs, e.bsz, e.funs, e.frf, e.hok, e.bare⟩
section
variable {X : Cx} {pins : List (Addr × Obj)} {σ : St} {H : Hp} {s s' : Shared}
theorem Inv.env0 (I : Inv X pins σ H s) : Env0 X.prog X.w X.K X.mg X.base X.A X.stack s H :=
  ⟨I.ok.frames, I.ok.mod, I.bs, Nat.le_trans I.ok.bsz I.sz, I.stack, I.stkFree, I.hok, I.bare⟩
theorem Inv.after {Q : VK} {u : Value} (I : Inv X pins σ H s) (h : CE X.stack X.prog X.w H s Q u s') : EP X pins σ Q u s' := by
  obtain ⟨v, H', os, bare, un, hok, r, q⟩ := h
  obtain ⟨hh, g, d, t, os'⟩ := s'
  obtain rfl : os' = s.os := os
  exact ⟨v, H', I.call (h' := hh) (g' := g) (d' := d) (t' := t) (ch := []) un hok bare (fun b z => absurd z (by simp)), r, q⟩
end
noncomputable def tCall (sp : Sp) (dvs : List V) (E : XK) (t : TA) : TE := fun σ H Q => t σ H fun vs H1 => sp (vs ++ dvs) H1 Q E
noncomputable def tMeth (C : Addr) (m : Str) (sp : Sp) (dvs : List V) (E : XK) (ta : TE) (t : TA) : TE := fun σ H Q => ta σ H fun x H1 => ∃ a dx fs, x = .ref a ∧ H1 a = some (.ins C dx fs) ∧ fs.lookup m = none ∧
  t σ H1 fun vs H2 => sp (x :: (vs ++ dvs)) H2 Q E
noncomputable def tMake (C : Addr) (sp : Sp) (dvs : List V) (E : XK) (t : TA) : TE := fun σ H Q => t σ H fun vs H1 => ∀ x dx, H1 x = none → H1 dx = none → dx ≠ x →
  sp (.ref x :: (vs ++ dvs)) (upd (upd H1 dx (.own x)) x (.ins C dx [])) (fun v H2 => v = .non ∧ Q (.ref x) H2) E
noncomputable def Binds (K : PySem.W.Frag) (fd : FuncData) (ps : List Str) (ds : List Value) : Prop :=
  ∀ (s : Shared) (us : List Value), K.In s.heap → (us ++ ds).length = ps.length → BindsTo s fd ⟨us, []⟩ (ps.zip (us ++ ds))
theorem Binds.all {K : PySem.W.Frag} {fd : FuncData} {ps : List Str} (h : ∀ us : List Value, us.length = ps.length → bindArgs fd ⟨us, []⟩ = pure (ps.zip us)) : Binds K fd ps [] := fun s us _ hl => by
  rw [List.append_nil] at hl ⊢
  exact .of_eq (h us hl)
noncomputable def Passes (CX : CXT) (X : Cx) (E : XK) : Prop := ∀ (pins : List (Addr × Obj)) (σ : St) (H : Hp) (s : Shared) (e : Value) (s' : Shared), Inv X pins σ H s → CX X.stack H s E e s' → X.xe e s'
section
variable {X : Cx} {CX : CXT} {k : Nat} {f C : Addr} {fd : FuncData} {ps : List Str} {sp : Sp} {dvs : List V} {ds : List Value} {E : XK} {x m : Str} {p pos apos : Pos} {e o : Expr} {es : List Expr} {ta : TE} {t : TA}
theorem run_fn {pins : List (Addr × Obj)} {σ : St} {H : Hp} {s : Shared} {Q : VK} {us : List Value} {vs : List V} (F : FnOk X.prog X.w X.K X.mg X.base CX k f fd ps sp) (hr : Room k X.A) (hb : Binds X.K fd ps ds) (hd : Vals dvs ds) (hx : Passes CX X E)
    (I : Inv X pins σ H s) (r : Vals vs us) (h : sp (vs ++ dvs) H Q E) : wpAny (model X.prog X.w) X.A (call (.ref f) us) (EP X pins σ Q) X.xe s := by
  have r2 : Vals (vs ++ dvs) (us ++ ds) := r.append hd
  have hl : (us ++ ds).length = ps.length := by rw [← r2.length]; exact F.len _ _ _ _ h
  refine wpAny_call (codeAny_mono (F.run X.A X.stack s H ⟨us, []⟩ (us ++ ds) (vs ++ dvs) Q E hr I.env0 (hb s us I.kIn hl) r2 h) fun r s' hq => ?_)
  cases r with
  | error e => exact hx pins σ H s e s' I hq
  | ok fl =>
    cases fl with
    | ret u => exact I.after hq
    | next => exact False.elim hq
    | brk => exact False.elim hq
    | cont => exact False.elim hq
theorem pe_call (F : FnOk X.prog X.w X.K X.mg X.base CX k f fd ps sp) (hr : Room k X.A) (hg : Gl X x) (hm : X.mg x = some (.ref f)) (hk : PySem.W.keepIn X.K (.ref f) = true) (hb : Binds X.K fd ps ds) (hd : Vals dvs ds) (hx : Passes CX X E)
    (ha : PA X (e :: es) t) (hdb : (x == ("__debug__" : Str)) = false := by decide) (he : starEach (e :: es) X.env = (false, eval e X.env) :: starEach es X.env := by rfl) (hpl : (backTo pos (starEach es X.env)).any (·.1) = false := by rfl) :
    PE X (.Call (.Name x p) (e :: es) [] pos) (tCall sp dvs E t) := by
  intro pins s σ H Q I h
  refine wpAny_Call_Name_kw (ld_glob I hg hm ?_ hdb)
  refine PySem.W.callWith_K (h₀ := X.base) I.ok.mod.kin hk (thn (ha pos pins s σ H _ I h) fun us s1 ⟨vs, H1, I1, r, q⟩ => ⟨I1.kIn, ?_⟩) he hpl
  exact run_fn F hr hb hd hx I1 r q
theorem pe_meth {pl : Sem Bool} (he : PE X o ta) (c : Cls X.K C) (hm : Meth X.K C m f) (F : FnOk X.prog X.w X.K X.mg X.base CX k f fd ps sp) (hr : Room k X.A) (hb : Binds X.K fd ps ds) (hd : Vals dvs ds) (hx : Passes CX X E) (ha : PA X (e :: es) t)
    (hst : starEach (e :: es) X.env = (false, eval e X.env) :: starEach es X.env := by rfl) (hpl : (backTo pos (starEach es X.env)).any (·.1) = false := by rfl)
    (ht : eval (.Call (.Attribute o m apos) (e :: es) [] pos) X.env = (do
      let ov ← eval o X.env
      standAt apos.atName
      let (f, first) ← holding [ov] (getMethod ov m pl)
      callWith pos f first (backTo pos (starEach (e :: es) X.env)) (backToKw pos (keywordEach [] X.env))) := by rfl) :
    PE X (.Call (.Attribute o m apos) (e :: es) [] pos) (tMeth C m sp dvs E ta t) := by
  intro pins s σ H Q I h
  refine PySem.W.methodCall_KW (pl := pl) (thn (he pins s σ H _ I h) fun u s1 ⟨x, H1, I1, rx, a, dx, fs, ex, ea, l, q⟩ => ?_) ht
  subst ex
  obtain rfl : u = Value.ref a := rx
  refine getmeth_ok I1 ea c hm l ?_
  refine PySem.W.callWith_K (first := [.ref a]) (h₀ := X.base) I.ok.mod.kin hm.kp (thn (ha pos pins s1 σ H1 _ I1 q) fun us s2 ⟨vs, H2, I2, r, q2⟩ => ⟨I2.kIn, ?_⟩) hst hpl
  exact run_fn (us := .ref a :: us) (vs := .ref a :: vs) F hr hb hd hx I2 (.cons rfl r) q2
theorem pe_meth0 {pl : Sem Bool} (he : PE X o ta) (c : Cls X.K C) (hm : Meth X.K C m f) (F : FnOk X.prog X.w X.K X.mg X.base CX k f fd ps sp) (hr : Room k X.A) (hb : Binds X.K fd ps ds) (hd : Vals dvs ds) (hx : Passes CX X E)
    (ht : eval (.Call (.Attribute o m apos) [] [] pos) X.env = (do
      let ov ← eval o X.env
      standAt apos.atName
      let (f, first) ← holding [ov] (getMethod ov m pl)
      callWith pos f first (backTo pos (starEach [] X.env)) (backToKw pos (keywordEach [] X.env))) := by rfl) :
    PE X (.Call (.Attribute o m apos) [] [] pos) (tMeth C m sp dvs E ta tNil) := by
  intro pins s σ H Q I h
  refine PySem.W.methodCall_KW (pl := pl) (thn (he pins s σ H _ I h) fun u s1 ⟨x, H1, I1, rx, a, dx, fs, ex, ea, l, q⟩ => ?_) ht
  subst ex
  obtain rfl : u = Value.ref a := rx
  refine getmeth_ok I1 ea c hm l ?_
  exact PySem.W.callWith_K0 (first := [.ref a]) I1.kIn hm.kp (run_fn (us := [.ref a]) (vs := [.ref a]) F hr hb hd hx I1 (.cons rfl .nil) q)
structure Mk (K : PySem.W.Frag) (C f : Addr) : Prop where
  makes : PySem.W.makesIn K C = true
  init : PySem.W.findIn K (.ref C) "__init__" = some (some (.ref f))
  fn : PySem.W.isFn K (.ref f) = true
  kp : PySem.W.keepIn K (.ref C) = true
theorem run_make {pins : List (Addr × Obj)} {σ : St} {H : Hp} {s : Shared} {Q : VK} {us : List Value} {vs : List V} (M : Mk X.K C f) (F : FnOk X.prog X.w X.K X.mg X.base CX k f fd ps sp) (hr : Room (k + 1) X.A) (hb : Binds X.K fd ps ds) (hd : Vals dvs ds)
    (hx : Passes CX X E) (I : Inv X pins σ H s) (r : Vals vs us)
    (h : ∀ x dx, H x = none → H dx = none → dx ≠ x → sp (.ref x :: (vs ++ dvs)) (upd (upd H dx (.own x)) x (.ins C dx [])) (fun v H2 => v = .non ∧ Q (.ref x) H2) E) :
    wpAny (model X.prog X.w) X.A (call (.ref C) us) (EP X pins σ Q) X.xe s := by
  have hq := h (s.heap.objs.size + 1) s.heap.objs.size (I.hok.fresh (Nat.le_succ _)) (I.hok.fresh (Nat.le_refl _)) (Nat.ne_of_lt (Nat.lt_succ_self _))
  have I2 := Inv.made (C := C) I
  have r2 : Vals (V.ref (s.heap.objs.size + 1) :: (vs ++ dvs)) (Value.ref (s.heap.objs.size + 1) :: (us ++ ds)) := .cons rfl (r.append hd)
  have hl : (Value.ref (s.heap.objs.size + 1) :: us ++ ds).length = ps.length := by
    have e := r2.length
    rw [F.len _ _ _ _ hq] at e
    exact e.symm
  refine wpAny_call (make_map (f := f) I.kIn M.makes M.init (beq_iff_eq.mp M.fn) (codeAny_mono (F.run _ X.stack _ _ ⟨Value.ref (s.heap.objs.size + 1) :: us, []⟩ (Value.ref (s.heap.objs.size + 1) :: (us ++ ds)) _ _ E (hr.make C us [])
    (I2.env0.make C us []) (hb _ (Value.ref (s.heap.objs.size + 1) :: us) I2.kIn hl) r2 hq) fun r s' hq' => ?_))
  cases r with
  | error e => exact hx pins σ _ _ e s' I2 hq'
  | ok fl =>
    cases fl with
    | ret u =>
      obtain ⟨v, H', I3, rv, ev, q3⟩ := I2.after hq'
      subst ev
      exact ⟨rv, ⟨V.ref (s.heap.objs.size + 1), H', I3, rfl, q3⟩⟩
    | next => exact False.elim hq'
    | brk => exact False.elim hq'
    | cont => exact False.elim hq'
theorem pe_make (M : Mk X.K C f) (F : FnOk X.prog X.w X.K X.mg X.base CX k f fd ps sp) (hr : Room (k + 1) X.A) (hg : Gl X x) (hm : X.mg x = some (.ref C)) (hb : Binds X.K fd ps ds) (hd : Vals dvs ds) (hx : Passes CX X E)
    (ha : PA X (e :: es) t) (hdb : (x == ("__debug__" : Str)) = false := by decide) (he : starEach (e :: es) X.env = (false, eval e X.env) :: starEach es X.env := by rfl) (hpl : (backTo pos (starEach es X.env)).any (·.1) = false := by rfl) :
    PE X (.Call (.Name x p) (e :: es) [] pos) (tMake C sp dvs E t) := by
  intro pins s σ H Q I h
  refine wpAny_Call_Name_kw (ld_glob I hg hm ?_ hdb)
  refine PySem.W.callWith_K (h₀ := X.base) I.ok.mod.kin M.kp (thn (ha pos pins s σ H _ I h) fun us s1 ⟨vs, H1, I1, r, q⟩ => ⟨I1.kIn, ?_⟩) he hpl
  exact run_make M F hr hb hd hx I1 r q
end
section
variable {X : Cx} {CX : CXT} {k : Nat} {f C : Addr} {fd : FuncData} {ps ks : List Str} {sp : Sp} {E : XK} {x m : Str} {p pos apos kpos : Pos} {e o : Expr} {es : List Expr} {kws : List Keyword} {te ta : TE} {t tk : TA} {nm : Option Str}
variable {g : List Value → List Value → List Value} {gV : List V → List V → List V}
end
structure FnScope (N P : List Str) (sc : Scope) : Prop where
  kind : sc.kind = .function
  co : sc.isCoroutine = false
  gen : sc.isGenerator = false
  nd : N.Nodup
  pre : N.take P.length = P
  par : ∀ x ∈ P, sc.names.lookup x = some .local ∨ sc.names.lookup x = some .cell
  nofree : ∀ y ∈ sc.names, y.2 ≠ .free
theorem bindL_out {kindOf : Str → Option NameKind} {x : Str} : ∀ {binds : List (Str × Value)} {m : Str → Option Value}, (∀ v, (x, v) ∉ binds) → bindL kindOf binds m x = m x
  | [], _, _ => rfl
  | (n, v) :: r, m, h => by
    unfold bindL
    rw [bindL_out fun w hw => h w (List.mem_cons_of_mem _ hw)]
    split
    · have : x ≠ n := by rintro rfl; exact h v List.mem_cons_self
      simp [this]
    · rfl
theorem bindC_out {kindOf : Str → Option NameKind} {x : Str} : ∀ {binds : List (Str × Value)} {m : Str → Option Value}, (∀ v, (x, v) ∉ binds) → bindC kindOf binds m x = m x
  | [], _, _ => rfl
  | (n, v) :: r, m, h => by
    unfold bindC
    rw [bindC_out fun w hw => h w (List.mem_cons_of_mem _ hw)]
    split
    · rfl
    · have : x ≠ n := by rintro rfl; exact h v List.mem_cons_self
      simp [this]
theorem bindL_get {kindOf : Str → Option NameKind} {x : Str} {v : Value} : ∀ {P : List Str} {vs : List Value} {i : Nat} {m : Str → Option Value}, P.Nodup → P[i]? = some x → vs[i]? = some v → kindOf x = some .local →
    bindL kindOf (P.zip vs) m x = some v
  | [], _, _, _, _, h, _, _ => by simp at h
  | _ :: _, [], _, _, _, _, h, _ => by simp at h
  | p :: P, w :: vs, 0, m, nd, h1, h2, hk => by
    simp at h1 h2; subst h1; subst h2
    show bindL kindOf ((p, w) :: P.zip vs) m p = _
    unfold bindL
    rw [bindL_out fun v hv => (List.nodup_cons.mp nd).1 (List.of_mem_zip hv).1, if_pos hk]
    simp
  | p :: P, w :: vs, i + 1, m, nd, h1, h2, hk => by
    show bindL kindOf ((p, w) :: P.zip vs) m x = _
    unfold bindL
    exact bindL_get (i := i) (List.nodup_cons.mp nd).2 (by simpa using h1) (by simpa using h2) hk
theorem bindC_get {kindOf : Str → Option NameKind} {x : Str} {v : Value} : ∀ {P : List Str} {vs : List Value} {i : Nat} {m : Str → Option Value}, P.Nodup → P[i]? = some x → vs[i]? = some v → kindOf x ≠ some .local →
    bindC kindOf (P.zip vs) m x = some v
  | [], _, _, _, _, h, _, _ => by simp at h
  | _ :: _, [], _, _, _, _, h, _ => by simp at h
  | p :: P, w :: vs, 0, m, nd, h1, h2, hk => by
    simp at h1 h2; subst h1; subst h2
    show bindC kindOf ((p, w) :: P.zip vs) m p = _
    unfold bindC
    rw [bindC_out fun v hv => (List.nodup_cons.mp nd).1 (List.of_mem_zip hv).1, if_neg hk]
    simp
  | p :: P, w :: vs, i + 1, m, nd, h1, h2, hk => by
    show bindC kindOf ((p, w) :: P.zip vs) m x = _
    unfold bindC
    exact bindC_get (i := i) (List.nodup_cons.mp nd).2 (by simpa using h1) (by simpa using h2) hk
noncomputable def start (N : List Str) (vs : List V) : St := vs.map some ++ List.replicate (N.length - vs.length) none
noncomputable def cxOf (CX : CXT) (P : Program) (w : World) (K : PySem.W.Frag) (mg : Str → Option Value) (base : Heap) (N : List Str) (qual : Str) (scope : Scope) (f : Addr) (cd : Value) (A : Around) (outer : List Env) (s : Shared) (H : Hp) (E : XK) : Cx where
  prog := P
  w := w
  K := K
  mg := mg
  base := base
  A := A.deeper (envOfC qual scope s.heap.objs.size f cd)
  N := N
  s₀ := s
  H₀ := H
  env := envOfC qual scope s.heap.objs.size f cd
  outer := outer
  stack := envOfC qual scope s.heap.objs.size f cd :: outer
  ex := []
  calm := true
  fn := fun _ => true
  pn := []
  xe := fun e s' => wpAny (model P w) (A.deeper (envOfC qual scope s.heap.objs.size f cd)) (leaving (envOfC qual scope s.heap.objs.size f cd) e) (fun _ s'' => CX outer H s E e s'') (fun e' s'' => CX outer H s E e' s'') s'
theorem cell_has {sc : Scope} {n : Nat} {x : Str} (h : sc.names.lookup x = some .cell) : ∃ c, (cellsFrom n sc.names []).lookup x = some c := by
  have q := PySem.W.cellsFrom_some sc.names n [] (.inl h)
  exact Option.isSome_iff_exists.mp q
theorem inv_start {CX : CXT} {P : Program} {w : World} {K : PySem.W.Frag} {mg : Str → Option Value} {base : Heap} {N ps : List Str} {qual : Str} {scope : Scope} {f : Addr} {cd : Value} {A : Around} {outer : List Env} {s s1 : Shared} {H : Hp} {E : XK} {us : List Value} {vs : List V}
    (S : FnScope N ps scope) (hd : A.handled = none) (e0 : Env0 P w K mg base A outer s H) (hl : vs.length = ps.length) (r : Vals vs us)
    (x : InCallC s s.heap.objs.size (bindL (envOfC qual scope s.heap.objs.size f cd).kindOf (ps.zip us) fun _ => none) (cellsFrom (s.heap.objs.size + 1) scope.names []) (bindC (envOfC qual scope s.heap.objs.size f cd).kindOf (ps.zip us) fun _ => none) s1) :
    Inv (cxOf CX P w K mg base N qual scope f cd A outer s H E) [] (start N vs) H s1 := by
  have hpl : ps.length ≤ N.length := by have := congrArg List.length S.pre; rw [List.length_take] at this; omega
  obtain ⟨h1, tk, rfl, hk⟩ := x.done
  have noA : ∀ b : Addr, b ∉ (cxOf CX P w K mg base N qual scope f cd A outer s H E).ex := fun b z => absurd (show b ∈ ([] : List Addr) from z) (by simp)
  refine ⟨⟨e0.mod, S.kind, rfl, rfl, Nat.le_refl _, fun y z c h1 h2 => ?_, fun y hy => ?_, fun y c _ h => ?_, fun _ => hd, Around.frames_deeper e0.frames, .inr ⟨rfl, rfl⟩, fun b z => absurd z (noA b), e0.bs, e0.bsz, fun b _ _ => noA b, fun b z => absurd z (noA b), e0.funs, e0.frf⟩,
    rfl, e0.bare, Un.kept hk, ⟨_, x.toInCall.ns, fun i y v h1 h2 h3 => ?_⟩, fun y c h => ⟨_, x.cell y c h⟩, e0.hok.fresh (Nat.le_refl _), fun y c h => ?_, fun p hp => absurd (show p ∈ ([] : List (Addr × Obj)) from hp) (by simp), e0.hok.kept hk, ?_⟩
  · exact name_of_addr x.apart (PySem.mem_of_lookup h1) (PySem.mem_of_lookup h2)
  · have hy : scope.names.lookup y = some .cell ∨ scope.names.lookup y = some .free := hy
    rcases hy with hy | hy
    · exact cell_has hy
    · exact absurd rfl (S.nofree _ (PySem.mem_of_lookup hy))
  · exact Nat.le_of_lt (x.above y c (PySem.mem_of_lookup h))
  · have hi : i < vs.length := by
      unfold start at h2
      by_cases hi : i < vs.length
      · exact hi
      · rw [List.getElem?_append_right (by simpa using hi)] at h2
        rw [List.getElem?_replicate] at h2
        split at h2 <;> cases h2
    have ha : vs[i]? = some v := by
      unfold start at h2
      rw [List.getElem?_append_left (by simpa using hi), List.getElem?_map] at h2
      cases e : vs[i]? with
      | none => rw [e] at h2; cases h2
      | some a => rw [e] at h2; cases h2; rfl
    obtain ⟨u, hu, rv⟩ := r.get ha
    have hp : ps[i]? = some y := by
      rw [← S.pre, List.getElem?_take_of_lt (by omega)]; exact h1
    have ndP : ps.Nodup := by rw [← S.pre]; exact S.nd.sublist (List.take_sublist _ _)
    refine ⟨u, rv, ?_⟩
    rcases S.par y (List.mem_of_getElem? hp) with k | k
    · exact .inl ⟨k, bindL_get ndP hp hu k⟩
    · obtain ⟨c, e⟩ := cell_has (n := s.heap.objs.size + 1) k
      refine .inr ⟨.inl k, c, e, ?_⟩
      have q := x.cell y c e
      rw [bindC_get ndP hp hu (by show scope.names.lookup y ≠ _; rw [k]; decide)] at q
      exact q
  · exact e0.hok.fresh (Nat.le_of_lt (x.above y c (PySem.mem_of_lookup h)))
  · unfold start
    show _ = N.length
    rw [List.length_append, List.length_map, List.length_replicate]
    omega
theorem fn_of {CX : CXT} {P : Program} {w : World} {K : PySem.W.Frag} {mg : Str → Option Value} {base : Heap} {k : Nat} {f : Addr} {name qual : Str} {params : Arguments} {body : List Stmt} {scope : Scope} {dV kV doc pm cdv ct oc : Value} {an od : Option Addr}
    {osl : Array (Option Value)} {N ps : List Str} {sp : Sp} (lk : K.lookup f = some ⟨oc, od, .func (PySem.W.fnOf name qual params body scope dV kV doc pm an cdv ct), osl⟩) (hcd : PySem.W.codeIn K cdv qual = true) (S : FnScope N ps scope)
    (len : ∀ vs H Q E, sp vs H Q E → vs.length = ps.length)
    (hbody : ∀ (A : Around) (outer : List Env) (s : Shared) (H : Hp) (vs : List V) (Q : VK) (E : XK), Room k (A.deeper (envOfC qual scope s.heap.objs.size f cdv)) → sp vs H Q E →
      ∃ t, PSs (cxOf CX P w K mg base N qual scope f cdv A outer s H E) body t ∧ t { nx := fun _ H' => Q .non H', rt := Q } (start N vs) H) :
    FnOk P w K mg base CX (k + 1) f (PySem.W.fnOf name qual params body scope dV kV doc pm an cdv ct) ps sp := by
  refine ⟨len, fun A outer s H args us vs Q E hr e0 hb r hsp => ?_⟩
  have hl := len _ _ _ _ hsp
  have KX : K.In s.heap := e0.mod.kin.keeps fun b o e => (e0.bs b o e).1
  have lim : s.heap.NoLimit := e0.mod.nolimit.keeps fun b o e => (e0.bs b o e).1
  have hkind : ∀ y ∈ ps.zip us, scope.names.lookup y.1 = some .local ∨ (scope.names.lookup y.1 = some .cell ∧ ((cellsFrom (s.heap.objs.size + 1) scope.names []).lookup y.1).isSome = true) := fun ⟨n, v⟩ hy => by
    rcases S.par n (List.of_mem_zip hy).1 with q | q
    · exact .inl q
    · exact .inr ⟨q, PySem.W.cellsFrom_some _ _ _ (.inl q)⟩
  refine codeAny_call_function hr.depth (KX _ _ lk) rfl S.co S.gen rfl (PySem.W.codeRec_of KX hcd) (hb _ _ _ _ ?_)
  refine wpAny_newFunctionEnv_cells S.kind hkind fun env he s1 x => ?_
  subst he
  refine ⟨lim.keeps x.toInCall.keep, codeAny_func ?_⟩
  obtain ⟨t, ht, hq⟩ := hbody A outer s H vs Q E (hr.deeper _) hsp
  have I : Inv (cxOf CX P w K mg base N qual scope f cdv A outer s H E) [] (start N vs) H s1 := inv_start S hr.hd e0 hl r x
  refine wpAny_mono (ht [] s1 (start N vs) H _ I hq) (fun fl s' hs => ?_) fun e s' hs => hs
  have fin : ∀ {σ' : St} {H' : Hp} {v : V} {u : Value}, Inv (cxOf CX P w K mg base N qual scope f cdv A outer s H E) [] σ' H' s' → RelV v u → Q v H' → CE outer P w H s Q u s' :=
    fun {σ' H' v u} J rv q => ⟨v, H', J.os, J.bare, J.base, J.hok, rv, q⟩
  cases fl with
  | ret u =>
    obtain ⟨v, σ', H', J, rv, q⟩ := hs
    exact fin J rv q
  | next =>
    obtain ⟨σ', H', J, q⟩ := hs
    exact fin (v := V.non) (u := Value.none) J rfl q
  | brk =>
    obtain ⟨_, _, _, q⟩ := hs
    exact False.elim q
  | cont =>
    obtain ⟨_, _, _, q⟩ := hs
    exact False.elim q
end L2
namespace L2
open PySem PySem.Spec PyProof.Rows
section
variable {X : Cx} {x : Str} {p pos : Pos} {e : Expr} {es : List Expr} {t : TA} {id T : String} {r : List V → Hp → VK → Prop}
noncomputable def tCB (r : List V → Hp → VK → Prop) (t : TA) : TE := fun σ H Q => t σ H fun vs H1 => r vs H1 Q
theorem pe_callB (hc : CallR X (.builtin id) r) (hg : Gl X x) (hm : X.mg x = none) (hv : bootBuiltins x = some (.builtin id)) (ha : PA X (e :: es) t) (hn : x ≠ "__name__" := by decide) (hdb : (x == ("__debug__" : Str)) = false := by decide)
    (he : starEach (e :: es) X.env = (false, eval e X.env) :: starEach es X.env := by rfl) (hpl : (backTo pos (starEach es X.env)).any (·.1) = false := by rfl) : PE X (.Call (.Name x p) (e :: es) [] pos) (tCB r t) := by
  intro pins s σ H Q I h
  refine wpAny_Call_Name_kw (ld_blt I hg hm hv ?_ hn hdb)
  exact PyProof.Rows.callWith_builtin1 (thn (ha pos pins s σ H _ I h) fun us s1 ⟨vs, H1, I1, r1, q1⟩ => hc pins s1 σ H1 vs us Q I1 r1 q1) he hpl
theorem pe_callTy (hc : CallR X (.type T) r) (hg : Gl X x) (hm : X.mg x = none) (hv : bootBuiltins x = some (.type T)) (ha : PA X (e :: es) t) (hn : x ≠ "__name__" := by decide) (hdb : (x == ("__debug__" : Str)) = false := by decide)
    (he : starEach (e :: es) X.env = (false, eval e X.env) :: starEach es X.env := by rfl) (hpl : (backTo pos (starEach es X.env)).any (·.1) = false := by rfl) : PE X (.Call (.Name x p) (e :: es) [] pos) (tCB r t) := by
  intro pins s σ H Q I h
  refine wpAny_Call_Name_kw (ld_blt I hg hm hv ?_ hn hdb)
  exact PyProof.Rows.callWith_type1 (thn (ha pos pins s σ H _ I h) fun us s1 ⟨vs, H1, I1, r1, q1⟩ => hc pins s1 σ H1 vs us Q I1 r1 q1) he hpl
end
end L2
namespace HT
open PySem PyProof.Rows
section
open PySem.SeqAt
open PySem.AutoSeq1 (wpAny_loadPart')
open PySem.MeetsSeq PySem.MeetsSeq2 PySem.MeetsSeq3
end
section
variable {prog : Program} {w : World} {A : Around} {E : Value → Shared → Prop} {s : Shared}
theorem cat_tup {t b : Addr} {vs ws : List Value} {Q : Value → Shared → Prop} (ht : IsTup s.heap t vs.toArray) (hb : IsTup s.heap b ws.toArray) (hv : vs ≠ [])
    (h1 : ws = [] → Q (.ref t) s) (h2 : ws ≠ [] → Q (.ref s.heap.objs.size) { s with heap := s.heap.push { cls := .type "tuple", data := .seq (vs ++ ws).toArray } })
    (hsz : vs.length + ws.length ≤ sizeLine) : wpAny (model prog w) A (binaryOp .Add (.ref t) (.ref b)) Q E s := by
  obtain ⟨⟨cls, dd, data, sl⟩, ho, hc, n, hd⟩ := id ht
  obtain ⟨⟨cls2, dd2, data2, sl2⟩, ho2, hc2, n2, hd2⟩ := id hb
  simp only at hc hd hc2 hd2
  subst hc hd hc2 hd2
  have e : vs.toArray ++ ws.toArray = (vs ++ ws).toArray := by simp
  by_cases hw : ws = []
  · exact concat_meets ⟨_, ho, rfl⟩ ⟨_, ho2, rfl⟩ noFill_tuple_add seq_tuple_add PySem.F.slot_tuple_add PySem.F.entry_tuple_add (PySem.F.args_tuple_add_2 _ _)
      (tuple_addW1 t b vs.toArray ws.toArray n n2 dd dd2 sl sl2 (by simpa using hv) (by simp [hw])) ⟨ho, ho2, h1 hw⟩
  · refine concat_meets ⟨_, ho, rfl⟩ ⟨_, ho2, rfl⟩ noFill_tuple_add seq_tuple_add PySem.F.slot_tuple_add PySem.F.entry_tuple_add (PySem.F.args_tuple_add_2 _ _)
      (tuple_addW2 t b vs.toArray ws.toArray n n2 dd dd2 sl sl2 (by simpa using hv) (by simpa using hw) (by rw [List.size_toArray, List.size_toArray]; exact hsz)) ⟨ho, ho2, ?_⟩
    rw [e]
    exact h2 hw
noncomputable def sIx (n d : Nat) : Option Int → Nat
  | none => d
  | some v => if v < 0 then (v + (n : Int)).toNat else min v.toNat n
theorem sIx_nat (n d k : Nat) : sIx n d (some (k : Int)) = min k n := by
  show (if (k : Int) < 0 then ((k : Int) + (n : Int)).toNat else min (k : Int).toNat n) = min k n
  rw [if_neg (by omega), Int.toNat_natCast]
theorem sIx_le (n d : Nat) (hd : d ≤ n) (o : Option Int) : sIx n d o ≤ n := by
  cases o with
  | none => exact hd
  | some v =>
    show (if v < 0 then (v + (n : Int)).toNat else min v.toNat n) ≤ n
    by_cases hv : v < 0
    · rw [if_pos hv]; omega
    · rw [if_neg hv]; exact Nat.min_le_right _ _
end
end HT
namespace L2
open PySem PySem.Spec PyProof.Rows
noncomputable abbrev TO := St → Hp → (Option Int → Hp → Prop) → Prop
noncomputable def PO (X : Cx) (e : Option Expr) (t : TO) : Prop :=
  ∀ (pins : List (Addr × Obj)) (s : Shared) (σ : St) (H : Hp) (Q : Option Int → Hp → Prop), Inv X pins σ H s → t σ H Q →
    wpAny (model X.prog X.w) X.A (evalPart e X.env) (fun u s' => ∃ o H', Inv X pins σ H' s' ∧ IsPart u o ∧ Q o H') X.xe s
noncomputable def tNoPart : TO := fun _ H Q => Q none H
noncomputable def tPart (t : TE) : TO := fun σ H Q => t σ H fun x H1 => ∃ i, x = .int i ∧ Q (some i) H1
section
variable {X : Cx} {e : Expr} {te : TE} {lo hi : Option Expr} {tl th : TO} {pos p2 : Pos}
theorem po_some (h : PE X e te) : PO X (some e) (tPart te) := by
  intro pins s σ H Q I hw
  rw [evalPart_some]
  refine thn (h pins s σ H _ I hw) fun u s1 ⟨x, H1, I1, r1, q1⟩ => ?_
  obtain ⟨i, rfl, q⟩ := q1
  obtain ⟨t, rfl⟩ := r1
  exact ⟨some i, H1, I1, .int i t, q⟩
noncomputable def SlR (X : Cx) (r : V → Option Int → Option Int → Hp → VK → Prop) : Prop :=
  ∀ (pins : List (Addr × Obj)) (s : Shared) (σ : St) (H : Hp) (x : V) (v vl vu : Value) (lo hi : Option Int) (sl : Addr) (Q : VK), Inv X pins σ H s → RelV x v → s.heap.IsSliceOf sl vl vu .none → IsPart vl lo → IsPart vu hi → r x lo hi H Q →
    ∃ T id, typeLookup (.type T) "__getitem__" = pure (some (.builtin id)) ∧ s.TypeIs v T ∧ wpAny (model X.prog X.w) X.A (getItem v (.ref sl)) (EP X pins σ Q) X.xe s
noncomputable def tSl (r : V → Option Int → Option Int → Hp → VK → Prop) (te : TE) (tl th : TO) : TE := fun σ H Q => te σ H fun x H1 => tl σ H1 fun l H2 => th σ H2 fun u H3 => r x l u H3 Q
theorem pe_slice {r : V → Option Int → Option Int → Hp → VK → Prop} (hr : SlR X r) (he : PE X e te) (hl : PO X lo tl) (hu : PO X hi th) : PE X (.Subscript e (.Slice lo hi none p2) pos) (tSl r te tl th) := by
  intro pins s σ H Q I h
  refine Subscript_ (thn (he pins s σ H _ I h) fun v s1 ⟨x, H1, I1, r1, q1⟩ => ?_)
  refine wpAny_Slice (thn (hl pins s1 σ H1 _ I1 q1) fun vl s2 ⟨l, H2, I2, pl, q2⟩ => thn (hu pins s2 σ H2 _ I2 q2) fun vu s3 ⟨u, H3, I3, pu, q3⟩ => ?_)
  rw [evalPart_none]
  refine wpAny_pure ?_
  have I4 : Inv X pins σ H3 { s3 with heap := s3.heap.push { cls := .type "slice", data := .fields #[vl, vu, .none] } } := I3.kept (t' := s3.toks) fun b ob q => Heap.get?_push_of_some _ q
  obtain ⟨T, id, hT, ht, hg⟩ := hr pins { s3 with heap := s3.heap.push { cls := .type "slice", data := .fields #[vl, vu, .none] } } σ H3 x v vl vu l u s3.heap.objs.size Q I4 r1 (Heap.IsSliceOf.new ..) pl pu q3
  show wpAny (model X.prog X.w) X.A (subscriptTail e (.Slice lo hi none p2) v (.ref s3.heap.objs.size)) (EP X pins σ Q) X.xe { s3 with heap := s3.heap.push { cls := .type "slice", data := .fields #[vl, vu, .none] } }
  exact tail_any (ops := [.ref s3.heap.objs.size, v]) ht hT hg (by with_unfolding_all rfl)
noncomputable def cutV (xs : List V) (lo hi : Option Int) : List V := (xs.drop (HT.sIx xs.length 0 lo)).take (HT.sIx xs.length xs.length hi - HT.sIx xs.length 0 lo)
noncomputable def rCatT (K : PySem.W.Frag) : R2 := fun x y H Q => ∃ a b xs ys, x = .ref a ∧ y = .ref b ∧ SqT K H a xs ∧ SqT K H b ys ∧ xs ≠ [] ∧ xs.length + ys.length ≤ sizeLine ∧
  (ys = [] → Q (.ref a) H) ∧ (ys ≠ [] → ∀ p, H p = none → Q (.ref p) (upd H p (.tup (xs ++ ys))))
theorem Vals.nil_iff {xs : List V} {us : List Value} (r : Vals xs us) : us = [] ↔ xs = [] := by
  cases r with
  | nil => simp
  | cons _ _ => simp
theorem op_catT : OpR X (binaryOp .Add) (rCatT X.K) := by
  intro pins s σ H x y v u Q I rx ry h
  obtain ⟨a, b, xs, ys, rfl, rfl, ha, hb, hx, hz, q1, q2⟩ := h
  cases rx
  cases ry
  obtain ⟨its, r1, p1, _⟩ := I.tuple ha
  obtain ⟨its2, r2, p2, _⟩ := I.tuple hb
  refine HT.cat_tup p1 p2 (fun z => hx (r1.nil_iff.mp z)) (fun z => ⟨.ref a, H, I, rfl, q1 (r2.nil_iff.mp z)⟩) (fun z => ?_) (by rw [← r1.length, ← r2.length]; exact hz)
  refine ⟨.ref s.heap.objs.size, _, I.laid (t' := s.toks) (o := .tup (xs ++ ys)) (fun b ob q => Heap.get?_push_of_some _ q) (Nat.le_refl _) ?_, rfl, q2 (fun w => z (r2.nil_iff.mpr w)) _ (I.hok.fresh (Nat.le_refl _))⟩
  exact ⟨by rw [List.length_append]; exact hz, _, r1.append r2, IsTup.new _ _⟩
end
end L2
namespace L2
open PySem PySem.Spec PyProof.Rows
noncomputable def ixN (n : Nat) (i : Int) : Option Nat := if 0 ≤ i then (if i < n then some i.toNat else none) else if -(n : Int) ≤ i then some (i + n).toNat else none
noncomputable def atI {α : Type} (xs : List α) (i : Int) : Option α := (ixN xs.length i).bind fun j => xs[j]?
theorem ixN_seq {n : Nat} {i : Int} {j : Nat} (h : ixN n i = some j) : seqIndex? i n = some j ∧ j < n ∧ -(n : Int) ≤ i ∧ i < n := by
  unfold ixN at h
  by_cases h0 : 0 ≤ i
  · rw [if_pos h0] at h
    by_cases h1 : i < n
    · rw [if_pos h1] at h
      have e : i.toNat = j := Option.some.inj h
      exact ⟨by rw [seqIndex_of h0 h1, e], by omega, by omega, h1⟩
    · rw [if_neg h1] at h; cases h
  · rw [if_neg h0] at h
    by_cases h1 : -(n : Int) ≤ i
    · rw [if_pos h1] at h
      have e : (i + n).toNat = j := Option.some.inj h
      exact ⟨by rw [seqIndex_neg (by omega) h1, e], by omega, h1, by omega⟩
    · rw [if_neg h1] at h; cases h
theorem atI_get {α : Type} {xs : List α} {i : Int} {v : α} (h : atI xs i = some v) : ∃ j, seqIndex? i xs.length = some j ∧ xs[j]? = some v ∧ j < xs.length ∧ -(xs.length : Int) ≤ i ∧ i < xs.length := by
  unfold atI at h
  cases e : ixN xs.length i with
  | none => rw [e] at h; cases h
  | some j =>
    rw [e] at h
    obtain ⟨h1, h2, h3, h4⟩ := ixN_seq e
    exact ⟨j, h1, h, h2, h3, h4⟩
theorem atI_nat {α : Type} {xs : List α} {j : Nat} {v : α} (h : xs[j]? = some v) : atI xs (j : Int) = some v := by
  have hj : j < xs.length := (List.getElem?_eq_some_iff.mp h).1
  have e : ixN xs.length (j : Int) = some j := by
    unfold ixN
    rw [if_pos (by omega), if_pos (by omega)]; simp
  unfold atI; rw [e]; exact h
noncomputable def PlainIx (b : Expr) : Prop := ∀ o i, subscripted b false o i = operate [o, i] (getItem o i)
noncomputable def IxR (X : Cx) (r : R2) : Prop :=
  ∀ (value slice : Expr) (pins : List (Addr × Obj)) (s : Shared) (σ : St) (H : Hp) (x y : V) (v u : Value) (Q : VK), Inv X pins σ H s → RelV x v → RelV y u → r x y H Q →
    subscripted slice false v u = operate [v, u] (getItem v u) → wpAny (model X.prog X.w) X.A (subscriptTail value slice v u) (EP X pins σ Q) X.xe s
noncomputable def MtR (X : Cx) (id : String) (r : V → List V → Hp → VK → Prop) : Prop :=
  ∀ (pins : List (Addr × Obj)) (s : Shared) (σ : St) (H : Hp) (x : V) (xs : List V) (v : Value) (us : List Value) (Q : VK), Inv X pins σ H s → RelV x v → Vals xs us → r x xs H Q →
    wpAny (model X.prog X.w) X.A (call (.builtin id) (v :: us)) (EP X pins σ Q) X.xe s
section
variable {X : Cx} {a b : Expr} {ta tb : TE} {pos : Pos}
theorem pe_ix {r : R2} (hr : IxR X r) (ha : PE X a ta) (hb : PE X b tb) (hs : PlainIx b) : PE X (.Subscript a b pos) (tOp r ta tb) := by
  intro pins s σ H Q I h
  exact Subscript_ (binT ha hb I h fun v u s2 x y H2 I2 rx ry q => hr a b pins s2 σ H2 x y v u Q I2 rx ry q (hs _ _))
noncomputable def rIxL (K : PySem.W.Frag) : R2 := fun x y H Q => ∃ p xs i v, x = .ref p ∧ y = .int i ∧ SqL K H p xs ∧ atI xs i = some v ∧ Q v H
noncomputable def rIxT (K : PySem.W.Frag) : R2 := fun x y H Q => ∃ p xs i v, x = .ref p ∧ y = .int i ∧ SqT K H p xs ∧ atI xs i = some v ∧ Q v H
noncomputable def rIxS : R2 := fun x y H Q => ∃ z i c, x = .str z ∧ y = .int i ∧ z.length ≤ sizeLine ∧ atI z.cps.toList i = some c ∧ Q (.str ⟨#[c]⟩) H
theorem ix_list : IxR X (rIxL X.K) := by
  intro value slice pins s σ H x y v u Q I rx ry h hs
  obtain ⟨p, xs, i, z, rfl, rfl, hq, he, q⟩ := h
  cases rx
  obtain ⟨t, rfl⟩ := ry
  obtain ⟨its, r, pl, hz⟩ := I.list hq
  obtain ⟨j, h1, h2, h3, h4, h5⟩ := atI_get he
  obtain ⟨w, ew, rw'⟩ := r.get h2
  have hl := r.length
  have hn := line63
  have fin : EP X pins σ Q w s := ⟨z, H, I, rw', q⟩
  by_cases h0 : 0 ≤ i
  · have hj : i.toNat = j := by
      rw [seqIndex_of h0 h5] at h1
      exact Option.some.inj h1
    exact item_listR pl.isList h0 (by omega) (by rw [hj]; simpa using ew) fin hs
  · have hj : (i + (its.toArray.size : Int)).toNat = j := by
      rw [seqIndex_neg (by omega) h4] at h1
      rw [List.size_toArray, ← hl]
      exact Option.some.inj h1
    exact subscriptTail_builtinR (x := w) pl.isList.typeIs slot_list_getitem.lookup
      (wpAny_getItem_list_neg (Q := fun r s' => r = w ∧ EP X pins σ Q r s') pl.isList (by omega) (by rw [List.size_toArray] <;> omega) (by omega) (by rw [hj]; simpa using ew) ⟨rfl, fin⟩) hs
theorem ix_tup : IxR X (rIxT X.K) := by
  intro value slice pins s σ H x y v u Q I rx ry h hs
  obtain ⟨p, xs, i, z, rfl, rfl, hq, he, q⟩ := h
  cases rx
  obtain ⟨t, rfl⟩ := ry
  obtain ⟨its, r, pl, hz⟩ := I.tuple hq
  obtain ⟨j, h1, h2, h3, h4, h5⟩ := atI_get he
  obtain ⟨w, ew, rw'⟩ := r.get h2
  have hl := r.length
  have hn := line63
  have fin : EP X pins σ Q w s := ⟨z, H, I, rw', q⟩
  exact subscriptTail_builtinR (x := w) pl.typeIs slot_tuple_getitem.lookup
    (getItem_tuple (j := j) (Q := fun r s' => r = w ∧ EP X pins σ Q r s') pl (by omega) (by omega) (by rw [List.size_toArray, ← hl]; exact h1) (by simpa using ew) ⟨rfl, fin⟩) hs
theorem ix_str : IxR X rIxS := by
  intro value slice pins s σ H x y v u Q I rx ry h hs
  obtain ⟨z, i, c, rfl, rfl, hz, he, q⟩ := h
  obtain ⟨t, rfl⟩ := rx
  obtain ⟨t', rfl⟩ := ry
  obtain ⟨j, h1, h2, h3, h4, h5⟩ := atI_get he
  have hl : z.cps.toList.length = z.length := by simp [Str.length]
  rw [hl] at h1 h4 h5
  have hn := line63
  exact tail_any (typeIs_str s z t) slot_str_getitem.lookup (getItem_str (c := c) (by
    have e1 : decide (i < -(2 ^ 63 : Int)) = false := decide_eq_false (by omega)
    have e2 : decide (i ≥ 2 ^ 63) = false := decide_eq_false (by omega)
    rw [e1, e2, Bool.or_false]) (by rw [h1]; simpa using h2) ⟨.str ⟨#[c]⟩, H, I.tok _, ⟨_, rfl⟩, q⟩) hs
noncomputable def rSlL (K : PySem.W.Frag) : V → Option Int → Option Int → Hp → VK → Prop := fun x lo hi H Q => ∃ a xs, x = .ref a ∧ SqL K H a xs ∧ ∀ p, H p = none → Q (.ref p) (upd H p (.lst (cutV xs lo hi)))
noncomputable def flatV : V → Bool
  | .non => true
  | .bl _ => true
  | .int _ => true
  | .str _ => true
  | _ => false
noncomputable def eqV : V → V → Bool
  | .non, .non => true
  | .bl a, .bl b => a == b
  | .bl a, .int b => (if a then 1 else 0) == b
  | .int a, .bl b => a == (if b then 1 else 0)
  | .int a, .int b => a == b
  | .str a, .str b => a == b
  | _, _ => false
theorem eqAt_V {A : Around} {s : Shared} {y x : V} {u v : Value} (ry : RelV y u) (rx : RelV x v) (fy : flatV y = true) (fx : flatV x = true) : SeqAt.EqAt A s u v (eqV y x) := by
  cases y with
  | non =>
    cases ry
    cases x with
    | non => cases rx; exact SeqAt.EqAt.same _
    | bl b => cases rx; exact SeqAt.EqAt.none_bool b
    | int b => obtain ⟨t, rfl⟩ := rx; exact SeqAt.EqAt.none_int b t
    | str b => obtain ⟨t, rfl⟩ := rx; exact SeqAt.EqAt.none_str b t
    | _ => exact absurd (show false = true from fx) Bool.false_ne_true
  | bl a =>
    cases ry
    cases x with
    | non => cases rx; exact SeqAt.EqAt.bool_none a
    | bl b => cases rx; exact SeqAt.EqAt.bool_bool a b
    | int b => obtain ⟨t, rfl⟩ := rx; exact SeqAt.EqAt.bool_int a b t
    | str b => obtain ⟨t, rfl⟩ := rx; exact SeqAt.EqAt.bool_str a b t
    | _ => exact absurd (show false = true from fx) Bool.false_ne_true
  | int a =>
    obtain ⟨t', rfl⟩ := ry
    cases x with
    | non => cases rx; exact SeqAt.EqAt.int_none a t'
    | bl b => cases rx; exact SeqAt.EqAt.int_bool a t' b
    | int b => obtain ⟨t, rfl⟩ := rx; exact SeqAt.EqAt.int_int a t' b t
    | str b => obtain ⟨t, rfl⟩ := rx; exact SeqAt.EqAt.int_str a t' b t
    | _ => exact absurd (show false = true from fx) Bool.false_ne_true
  | str a =>
    obtain ⟨t', rfl⟩ := ry
    cases x with
    | non => cases rx; exact SeqAt.EqAt.str_none a t'
    | bl b => cases rx; exact SeqAt.EqAt.str_bool a t' b
    | int b => obtain ⟨t, rfl⟩ := rx; exact SeqAt.EqAt.str_int a t' b t
    | str b => obtain ⟨t, rfl⟩ := rx; exact SeqAt.EqAt.str_str a t' b t
    | _ => exact absurd (show false = true from fx) Bool.false_ne_true
  | _ => exact absurd (show false = true from fy) Bool.false_ne_true
noncomputable def eqU (x : V) (u : Value) : Bool := match u with
  | .none => eqV .non x
  | .bool b => eqV (.bl b) x
  | .int i _ => eqV (.int i) x
  | .str z _ => eqV (.str z) x
  | _ => false
theorem eqU_of {x y : V} {u : Value} (r : RelV y u) (f : flatV y = true) : eqU x u = eqV y x := by
  cases y with
  | non => cases r; rfl
  | bl b => cases r; rfl
  | int i => obtain ⟨t, rfl⟩ := r; rfl
  | str z => obtain ⟨t, rfl⟩ := r; rfl
  | _ => exact absurd (show false = true from f) Bool.false_ne_true
theorem any_eqU {x : V} : ∀ {xs : List V} {us : List Value}, Vals xs us → xs.all flatV = true → us.any (eqU x) = xs.any fun y => eqV y x
  | _, _, .nil, _ => rfl
  | y :: xs, u :: us, .cons r t, f => by
    rw [List.all_cons, Bool.and_eq_true] at f
    rw [List.any_cons, List.any_cons, eqU_of r f.1, any_eqU t f.2]
theorem mem_eqAt {A : Around} {s : Shared} {x : V} {v : Value} (rx : RelV x v) (fx : flatV x = true) : ∀ {xs : List V} {us : List Value}, Vals xs us → xs.all flatV = true → ∀ u ∈ us, SeqAt.EqAt A s u v (eqU x u)
  | _, _, .nil, _ => fun u hu => by cases hu
  | y :: xs, u :: us, .cons r t, f => fun u' hu => by
    rw [List.all_cons, Bool.and_eq_true] at f
    rcases List.mem_cons.mp hu with rfl | hu
    · rw [eqU_of r f.1]; exact eqAt_V r rx f.1 fx
    · exact mem_eqAt rx fx t f.2 u' hu
noncomputable def inV (x : V) (xs : List V) : Bool := xs.any fun y => eqV y x
noncomputable def rIn (K : PySem.W.Frag) (neg : Bool) : R2 := fun x y H Q => ∃ p xs, y = .ref p ∧ (SqL K H p xs ∨ SqT K H p xs) ∧ flatV x = true ∧ xs.all flatV = true ∧ Q (.bl (if neg then !inV x xs else inV x xs)) H
theorem op_in_seq : OpR X (compareOp .In) (rIn X.K false) := by
  intro pins s σ H x y v u Q I rx ry h
  obtain ⟨p, xs, rfl, hq, fx, fs, q⟩ := h
  cases ry
  rcases hq with hq | hq
  · obtain ⟨its, r, pl, hz⟩ := I.list hq
    refine SeqAt.in_listAt (eqU x) pl.isList (fun w hw => mem_eqAt rx fx r fs w (by simpa using hw)) ⟨.bl _, H, I, rfl, ?_⟩
    rw [show its.toArray.any (eqU x) = its.any (eqU x) by simp, any_eqU r fs]
    exact q
  · obtain ⟨its, r, pl, hz⟩ := I.tuple hq
    refine SeqAt.in_tupleAt (eqU x) pl (fun w hw => mem_eqAt rx fx r fs w (by simpa using hw)) ⟨.bl _, H, I, rfl, ?_⟩
    rw [show its.toArray.any (eqU x) = its.any (eqU x) by simp, any_eqU r fs]
    exact q
theorem call_len_seq : CallR X (.builtin "len") (fun xs H Q => ∃ p ys, xs = [.ref p] ∧ (SqL X.K H p ys ∨ SqT X.K H p ys) ∧ Q (.int ys.length) H) := by
  intro pins s σ H xs us Q I r h
  obtain ⟨p, ys, rfl, hq, q⟩ := h
  obtain ⟨u, rfl, rx⟩ := vals1 r
  cases rx
  have hn := line63
  rcases hq with hq | hq
  · obtain ⟨its, r', pl, hz⟩ := I.list hq
    have hlen := r'.length
    exact Calls.call_len_list pl.isList (by simp only [List.size_toArray] <;> omega) ⟨.int ys.length, H, I.tok _, ⟨s.toks + 1, by rw [List.size_toArray, hlen]⟩, q⟩
  · obtain ⟨its, r', pl, hz⟩ := I.tuple hq
    have hlen := r'.length
    exact len_tuple pl (by simp only [List.size_toArray] <;> omega) ⟨.int ys.length, H, I.tok _, ⟨s.toks + 1, by rw [List.size_toArray, hlen]⟩, q⟩
theorem call_len_str : CallR X (.builtin "len") (fun xs H Q => ∃ z, xs = [.str z] ∧ z.length ≤ sizeLine ∧ Q (.int z.length) H) := by
  intro pins s σ H xs us Q I r h
  obtain ⟨z, rfl, hz, q⟩ := h
  obtain ⟨u, rfl, t, rfl⟩ := vals1 r
  have hn := line63
  exact len_str (by omega) ⟨.int z.length, H, I.tok _, ⟨_, rfl⟩, q⟩
theorem call_list_of : CallR X (.type "list") (fun xs H Q => ∃ p ys, xs = [.ref p] ∧ (SqL X.K H p ys ∨ SqT X.K H p ys) ∧ ∀ l, H l = none → Q (.ref l) (upd H l (.lst ys))) := by
  intro pins s σ H xs us Q I r h
  obtain ⟨p, ys, rfl, hq, q⟩ := h
  obtain ⟨u, rfl, rx⟩ := vals1 r
  cases rx
  have fin : ∀ (its : List Value), Vals ys its → ys.length ≤ sizeLine → ∀ (h' : Heap) (c' : Nat), (∀ b o', s.heap.get? b = some o' → h'.get? b = some o') →
      h'.get? s.heap.objs.size = some { cls := .type "list", dict := none, data := .seq its.toArray c', slots := #[] } → EP X pins σ Q (.ref s.heap.objs.size) { s with heap := h' } := fun its r' hz h' c' kp e =>
    ⟨.ref s.heap.objs.size, _, I.laid (t' := s.toks) kp (Nat.le_refl _) (show ObjOk X.prog X.w _ h' _ (.lst ys) from ⟨hz, its, c', r', e⟩), rfl, q _ (I.hok.fresh (Nat.le_refl _))⟩
  rcases hq with hq | hq
  · obtain ⟨its, r', pl, hz⟩ := I.list hq
    have hlen := r'.length
    obtain ⟨o, ho, hc, n, hd⟩ := pl.isList
    exact call_list_seq p (.inl rfl) ho hc hd (fun h' c' kp e => fin its r' hz h' c' kp e) (by simp only [List.size_toArray] <;> omega)
  · obtain ⟨its, r', pl, hz⟩ := I.tuple hq
    have hlen := r'.length
    obtain ⟨o, ho, hc, n, hd⟩ := pl
    exact call_list_seq p (.inr rfl) ho hc hd (fun h' c' kp e => fin its r' hz h' c' kp e) (by simp only [List.size_toArray] <;> omega)
theorem call_tuple_of : CallR X (.type "tuple") (fun xs H Q => ∃ p ys, xs = [.ref p] ∧ ((SqL X.K H p ys ∧ ∀ l, H l = none → Q (.ref l) (upd H l (.tup ys))) ∨ (SqT X.K H p ys ∧ Q (.ref p) H))) := by
  intro pins s σ H xs us Q I r h
  obtain ⟨p, ys, rfl, h⟩ := h
  obtain ⟨u, rfl, rx⟩ := vals1 r
  cases rx
  rcases h with ⟨hq, q⟩ | ⟨hq, q⟩
  · obtain ⟨its, r', pl, hz⟩ := I.list hq
    have hlen := r'.length
    refine call_tuple_list pl.isList (fun h' kp => ?_) (by simp only [List.size_toArray] <;> omega)
    have I1 : Inv X pins σ H { s with heap := h' } := I.kept (t' := s.toks) kp
    have I2 : Inv X pins σ (upd H h'.objs.size (.tup ys)) { s with heap := h'.push { cls := .type "tuple", data := .seq its.toArray } } :=
      I1.laid (t' := s.toks) (fun b o e => Heap.get?_push_of_some _ e) (Nat.le_refl _) (show ObjOk X.prog X.w _ _ _ (.tup ys) from ⟨hz, its, r', IsTup.new _ _⟩)
    exact ⟨.ref h'.objs.size, _, I2, rfl, q _ (I1.hok.fresh (Nat.le_refl _))⟩
  · obtain ⟨its, r', pl, hz⟩ := I.tuple hq
    exact call_tuple_same pl ⟨.ref p, H, I, rfl, q⟩
noncomputable def tyV (K : PySem.W.Frag) (T : String) (x : V) (H : Hp) : Prop := match x with
  | .str _ => T = "str"
  | .int _ => T = "int"
  | .ref p => (T = "list" ∧ ∃ xs, SqL K H p xs) ∨ (T = "tuple" ∧ ∃ o, K.lookup p = some o ∧ o.cls = .type "tuple" ∧ o.dict = none) ∨
      (T = "dict" ∧ ((∃ kvs, H p = some (.dK kvs)) ∨ ∃ kvs, H p = some (.dT kvs))) ∨ (T = "set" ∧ ∃ S n, H p = some (.set S n))
  | _ => False
theorem tyV_is {pins : List (Addr × Obj)} {σ : St} {H : Hp} {s : Shared} {T : String} {x : V} {v : Value} (I : Inv X pins σ H s) (r : RelV x v) (ty : tyV X.K T x H) :
    s.TypeIs v T ∧ ∀ a, v = .ref a → ∃ ob, s.heap.get? a = some ob ∧ ob.dict = none := by
  cases x with
  | str z =>
    obtain ⟨t, rfl⟩ := r
    cases (show T = "str" from ty)
    exact ⟨typeIs_str s z t, fun _ e => nomatch e⟩
  | int i =>
    obtain ⟨t, rfl⟩ := r
    cases (show T = "int" from ty)
    exact ⟨typeIs_int s i t, fun _ e => nomatch e⟩
  | ref p =>
    cases r
    rcases ty with ⟨rfl, xs, hq⟩ | ⟨rfl, o, hk, hc, hd⟩ | ⟨rfl, hk⟩ | ⟨rfl, S, n, hk⟩
    · obtain ⟨its, _, pl, _⟩ := I.list hq
      refine ⟨pl.isList.typeIs, fun a e => ?_⟩
      cases e
      obtain ⟨o, n, e, c, hd, _⟩ := pl
      exact ⟨o, e, hd⟩
    · refine ⟨⟨o, I.kIn p o hk, hc⟩, fun a e => ?_⟩
      cases e
      exact ⟨o, I.kIn _ o hk, hd⟩
    · have z : ∃ o, s.heap.get? p = some o ∧ o.ExactDict := by
        rcases hk with ⟨kvs, hk⟩ | ⟨kvs, hk⟩
        · obtain ⟨_, _, _, _, o, _, _, e, ex, _⟩ := I.hok p _ hk
          exact ⟨o, e, ex⟩
        · obtain ⟨_, _, _, _, o, _, _, e, ex, _⟩ := I.hok p _ hk
          exact ⟨o, e, ex⟩
      obtain ⟨o, e, ex⟩ := z
      refine ⟨⟨o, e, ex.1⟩, fun a e2 => ?_⟩
      cases e2
      exact ⟨o, e, ex.2.1⟩
    · obtain ⟨o, _, _, _, e, ex, _⟩ := I.hok p _ hk
      refine ⟨⟨o, e, ex.1⟩, fun a e2 => ?_⟩
      cases e2
      exact ⟨o, e, ex.2.1⟩
  | _ => exact False.elim ty
noncomputable def tBM0 (K : PySem.W.Frag) (T : String) (r : V → List V → Hp → VK → Prop) (to : TE) : TE := fun σ H Q => to σ H fun x H1 => tyV K T x H1 ∧ r x [] H1 Q
noncomputable def tBM (K : PySem.W.Frag) (T : String) (r : V → List V → Hp → VK → Prop) (to : TE) (t : TA) : TE := fun σ H Q => to σ H fun x H1 => tyV K T x H1 ∧ t σ H1 fun xs H2 => r x xs H2 Q
variable {o e : Expr} {es : List Expr} {to : TE} {t : TA} {name : Str} {apos cpos : Pos} {T id : String} {r : V → List V → Hp → VK → Prop}
theorem pe_bm (pa : PlainAttrs T) (slot : Slot T name id) (hty : typeOf (.builtin id) = pure (.type "method_descriptor")) (hm : MtR X id r) (ho : PE X o to) (ha : PA X (e :: es) t)
    (hbase : attributeBase o name X.env (eval o X.env) = eval o X.env := by rfl)
    (hfew : ((backTo cpos (starEach (e :: es) X.env)).all (fun x => !x.1) && (backToKw cpos (keywordEach [] X.env)).all (fun x => x.1.isSome)
      && decide ((e :: es).length + ([] : List Keyword).length + (if ([] : List Keyword).isEmpty then 0 else 1) < 30)) = true := by rfl)
    (hline : (apos.endLine == cpos.line) = true := by rfl) (hs : starEach (e :: es) X.env = (false, eval e X.env) :: starEach es X.env := by rfl) (hplain : (backTo cpos (starEach es X.env)).any (·.1) = false := by rfl) :
    PE X (.Call (.Attribute o name apos) (e :: es) [] cpos) (tBM X.K T r to t) := by
  intro pins s σ H Q I h
  refine wpAny_Call_method_late hbase hfew hline rfl (thn (ho pins s σ H _ I h) fun v s1 ⟨x, H1, I1, r1, ty, q1⟩ => ?_)
  obtain ⟨h1, h2⟩ := tyV_is I1 r1 ty
  refine ⟨T, id, pa, slot, hty, h1, h2, ?_⟩
  have hA := ha cpos pins s1 σ H1 _ I1 q1
  rw [hs] at hA ⊢
  refine Calls.callWith_builtin (by show (false || (backTo cpos (starEach es X.env)).any (·.1)) = false; rw [hplain] <;> rfl) (Calls.evalArgs_plain ?_)
  exact thn hA fun us s2 ⟨vs, H2, I2, r2, q2⟩ => hm pins s2 σ H2 x vs v us Q I2 r1 r2 q2
end
end L2
namespace L2
open PySem PySem.Spec PyProof.Rows
section
variable {X : Cx} {pins : List (Addr × Obj)} {σ : St} {H : Hp} {s : Shared} {l b : Addr} {xs ys zs : List V}
theorem Inv.lnew {its : List Value} {t' : Nat} (I : Inv X pins σ H s) (hv : Vals ys its) (hz : ys.length ≤ sizeLine) :
    Inv X pins σ (upd H s.heap.objs.size (.lst ys)) { s with heap := s.heap.push { cls := .type "list", data := .seq its.toArray }, toks := t' } :=
  I.laid (fun _ _ q => Heap.get?_push_of_some _ q) (Nat.le_refl _) ⟨hz, its, 0, hv, Heap.get?_push_size _ rfl⟩
theorem Inv.fresh (I : Inv X pins σ H s) : H s.heap.objs.size = none := I.hok.fresh (Nat.le_refl _)
theorem Inv.lstM (I : Inv X pins σ H s) (hH : H l = some (.lst xs)) : xs.length ≤ sizeLine ∧ ∃ (its : List Value) (n : Nat), Vals xs its ∧ xs.length = its.length ∧ s.heap.get? l = some { cls := .type "list", data := .seq its.toArray n } := by
  obtain ⟨z, its, n, r, e⟩ := I.hok l _ hH
  exact ⟨z, its, n, r, r.length, e⟩
end
section
variable {X : Cx}
noncomputable def rCat : R2 := fun x y H Q => ∃ l b xs zs, x = .ref l ∧ y = .ref b ∧ H l = some (.lst xs) ∧ H b = some (.lst zs) ∧ xs.length + zs.length ≤ sizeLine ∧ ∀ p, H p = none → Q (.ref p) (upd H p (.lst (xs ++ zs)))
theorem op_cat : OpR X (binaryOp .Add) rCat := by
  intro pins s σ H x y v u Q I rx ry h
  obtain ⟨l, b, xs, zs, rfl, rfl, hH, hB, hz, q⟩ := h
  cases rx
  cases ry
  obtain ⟨z, its, n, r, hl, e⟩ := I.lstM hH
  obtain ⟨z2, its2, n2, r2, hl2, e2⟩ := I.lstM hB
  refine PySem.P.add_list e e2 ?_ (by rw [List.size_toArray, List.size_toArray]; omega)
  have ea : its.toArray ++ its2.toArray = (its ++ its2).toArray := by simp
  rw [ea]
  exact ⟨.ref _, _, I.lnew (t' := s.toks) (r.append r2) (by rw [List.length_append]; omega), rfl, q _ I.fresh⟩
end
section
variable {prog : Program} {w : World} {A : Around} {E : Value → Shared → Prop} {s : Shared}
set_option maxRecDepth 100000 in
end
section
variable {X : Cx}
end
end L2
namespace L2
open PySem PySem.Spec PyProof.Rows
section
variable {κ : Type} [DecidableEq κ]
noncomputable def valV (kvs : List (κ × V)) (k : κ) : Option V := (kvs.find? fun kv => decide (kv.1 = k)).map (·.2)
noncomputable def putK (kvs : List (κ × V)) (k : κ) (v : V) : List (κ × V) :=
  if (kvs.any fun kv => decide (kv.1 = k)) = true then kvs.map (fun kv => if kv.1 = k then (kv.1, v) else kv) else kvs ++ [(k, v)]
noncomputable def dropK (kvs : List (κ × V)) (k : κ) : List (κ × V) := kvs.filter fun kv => decide (kv.1 ≠ k)
theorem valV_pos {p : κ × V} {r : List (κ × V)} {k : κ} (e : p.1 = k) : valV (p :: r) k = some p.2 := by simp [valV, List.find?_cons, e]
theorem valV_neg {p : κ × V} {r : List (κ × V)} {k : κ} (e : ¬ p.1 = k) : valV (p :: r) k = valV r k := by simp [valV, List.find?_cons, e]
theorem valV_any (k : κ) : ∀ kvs : List (κ × V), (kvs.any fun kv => decide (kv.1 = k)) = (valV kvs k).isSome
  | [] => rfl
  | p :: r => by
    rw [List.any_cons]
    by_cases e : p.1 = k
    · simp only [valV_pos e, decide_eq_true e, Bool.true_or, Option.isSome_some]
    · rw [valV_neg e, decide_eq_false e, Bool.false_or]; exact valV_any k r
theorem valV_map (k j : κ) (y : V) : ∀ kvs : List (κ × V), valV (kvs.map fun kv => if kv.1 = k then (kv.1, y) else kv) j = (valV kvs j).map fun x => if j = k then y else x
  | [] => rfl
  | p :: r => by
    have ih := valV_map k j y r
    rw [List.map_cons]
    by_cases h : p.1 = k
    · rw [if_pos h]
      by_cases e : p.1 = j
      · rw [valV_pos (p := (p.1, y)) e, valV_pos e, Option.map_some, if_pos (e.symm.trans h)]
      · rw [valV_neg (p := (p.1, y)) e, valV_neg e, ih]
    · rw [if_neg h]
      by_cases e : p.1 = j
      · rw [valV_pos (p := p) e, valV_pos e, Option.map_some, if_neg (fun z => h (e.trans z))]
      · rw [valV_neg (p := p) e, valV_neg e, ih]
theorem valV_snoc (k j : κ) (y : V) : ∀ kvs : List (κ × V), valV kvs k = none → valV (kvs ++ [(k, y)]) j = if j = k then some y else valV kvs j
  | [], _ => by
    by_cases e : k = j
    · rw [if_pos e.symm]; exact valV_pos (p := (k, y)) e
    · rw [if_neg (fun z => e z.symm)]; exact valV_neg (p := (k, y)) e
  | p :: r, hn => by
    rw [List.cons_append]
    have hk : ¬ p.1 = k := fun z => by rw [valV_pos z] at hn; cases hn
    rw [valV_neg hk] at hn
    have ih := valV_snoc k j y r hn
    by_cases e : p.1 = j
    · rw [valV_pos e, valV_pos e, if_neg (fun z => hk (e.trans z))]
    · rw [valV_neg e, valV_neg e, ih]
theorem valV_put (kvs : List (κ × V)) (k j : κ) (y : V) : valV (putK kvs k y) j = if j = k then some y else valV kvs j := by
  unfold putK
  by_cases a : (kvs.any fun kv => decide (kv.1 = k)) = true
  · rw [if_pos a, valV_map]
    rw [valV_any] at a
    by_cases e : j = k
    · obtain ⟨x, hx⟩ := Option.isSome_iff_exists.mp a
      rw [if_pos e, e, hx, Option.map_some, if_pos rfl]
    · rw [if_neg e]
      cases valV kvs j with
      | none => rfl
      | some x => rw [Option.map_some, if_neg e]
  · rw [if_neg a]
    refine valV_snoc k j y kvs ?_
    rw [valV_any] at a
    cases q : valV kvs k with
    | none => rfl
    | some x => rw [q] at a; exact (a rfl).elim
theorem length_putK (kvs : List (κ × V)) (k : κ) (v : V) : (putK kvs k v).length ≤ kvs.length + 1 := by
  unfold putK
  split
  · rw [List.length_map]; omega
  · rw [List.length_append, List.length_cons, List.length_nil]; omega
theorem RelO.isSome_eq {o : Option V} {u : Option Value} (r : RelO o u) : o.isSome = u.isSome := by
  cases o with
  | none => cases u with
    | none => rfl
    | some _ => exact (show False from r).elim
  | some _ => cases u with
    | none => exact (show False from r).elim
    | some _ => rfl
theorem KV.val {kvs : List (κ × V)} {vs : List (κ × Value)} (r : KV kvs vs) (k : κ) : RelO (valV kvs k) (valueAt vs k) := by
  unfold KV at r
  induction r with
  | nil => exact True.intro
  | @cons p q ps qs h t ih =>
    obtain ⟨h1, h2⟩ := h
    by_cases e : p.1 = k
    · have e' : q.1 = k := h1.symm.trans e
      have b : valueAt (q :: qs) k = some q.2 := by simp [valueAt, List.find?_cons, e']
      rw [valV_pos e, b]; exact h2
    · have e' : ¬ q.1 = k := fun z => e (h1.trans z)
      have b : valueAt (q :: qs) k = valueAt qs k := by simp [valueAt, List.find?_cons, e']
      rw [valV_neg e, b]; exact ih
theorem KV.any {kvs : List (κ × V)} {vs : List (κ × Value)} (r : KV kvs vs) (k : κ) : (kvs.any fun kv => decide (kv.1 = k)) = vs.any fun kv => decide (kv.1 = k) := by
  unfold KV at r
  induction r with
  | nil => rfl
  | cons h t ih => rw [List.any_cons, List.any_cons, ih, h.1]
theorem KV.repl {kvs : List (κ × V)} {vs : List (κ × Value)} (r : KV kvs vs) (k : κ) {y : V} {u : Value} (ry : RelV y u) :
    KV (kvs.map fun kv => if kv.1 = k then (kv.1, y) else kv) (vs.map fun kv => if kv.1 = k then (kv.1, u) else kv) := by
  unfold KV at r ⊢
  induction r with
  | nil => exact .nil
  | @cons p q ps qs h t ih =>
    rw [List.map_cons, List.map_cons]
    refine .cons ?_ ih
    obtain ⟨h1, h2⟩ := h
    by_cases e : p.1 = k
    · rw [if_pos e, if_pos (h1.symm.trans e)]; exact ⟨h1, ry⟩
    · rw [if_neg e, if_neg (fun z => e (h1.trans z))]; exact ⟨h1, h2⟩
theorem KV.put {kvs : List (κ × V)} {vs : List (κ × Value)} (r : KV kvs vs) (k : κ) {y : V} {u : Value} (ry : RelV y u) : KV (putK kvs k y) (stored vs k u) := by
  unfold putK stored
  rw [r.any k]
  by_cases e : (vs.any fun kv => decide (kv.1 = k)) = true
  · rw [if_pos e, if_pos e]; exact r.repl k ry
  · rw [if_neg e, if_neg e]; exact Paired.snoc r ⟨rfl, ry⟩
theorem KV.keys {kvs : List (κ × V)} {vs : List (κ × Value)} (r : KV kvs vs) : kvs.map (·.1) = vs.map (·.1) := by
  unfold KV at r
  induction r with
  | nil => rfl
  | cons h t ih => rw [List.map_cons, List.map_cons, ih, h.1]
theorem KV.length {kvs : List (κ × V)} {vs : List (κ × Value)} (r : KV kvs vs) : kvs.length = vs.length := Paired.length r
end
theorem kV_is {P : Program} {w : World} {k : Key} {u : Value} (r : RelV (kV k) u) : (mixKind P w).is k u = true := by
  cases k with
  | inl i => obtain ⟨t, e⟩ := (show ∃ t, u = Value.int i t from r); subst e; exact mixKind_int P w i t
  | inr x => obtain ⟨t, e⟩ := (show ∃ t, u = Value.str x t from r); subst e; exact mixKind_str P w x t
theorem nV_is {P : Program} {w : World} {k : NKey} {u : Value} (r : RelV (nV k) u) : (optKind P w).is k u = true := by
  cases k with
  | none => cases (show u = Value.none from r); rfl
  | some k => exact kV_is (P := P) (w := w) (k := k) r
theorem items_are {P : Program} {w : World} : ∀ {ks : List NKey} {us : List Value}, Vals (ks.map nV) us → ItemsAre (optKind P w) ks us
  | [], _, r => by rw [List.map_nil] at r; cases r; exact .nil
  | k :: ks, _, r => by
    rw [List.map_cons] at r
    cases r with
    | cons h t => exact .cons (nV_is h) (items_are t)
noncomputable abbrev KT (H : Hp) : List (List NKey × V) → List (List NKey × Addr × Value) → Prop := Paired fun p q => p.1 = q.1 ∧ H q.2.1 = some (.tup (p.1.map nV)) ∧ RelV p.2 q.2.2
theorem KT.val {H : Hp} {kvs : List (List NKey × V)} {xs : List (List NKey × Addr × Value)} (r : KT H kvs xs) (k : List NKey) : RelO (valV kvs k) ((atKey xs k).map (·.2)) := by
  induction r with
  | nil => exact True.intro
  | @cons p q ps qs h t ih =>
    obtain ⟨h1, _, h2⟩ := h
    by_cases e : p.1 = k
    · have e' : q.1 = k := h1.symm.trans e
      have b : atKey (q :: qs) k = some q.2 := by simp [atKey, List.find?_cons, e']
      rw [valV_pos e, b]; exact h2
    · have e' : ¬ q.1 = k := fun z => e (h1.trans z)
      have b : atKey (q :: qs) k = atKey qs k := by simp [atKey, List.find?_cons, e']
      rw [valV_neg e, b]; exact ih
theorem KT.repl {H : Hp} {kvs : List (List NKey × V)} {xs : List (List NKey × Addr × Value)} (r : KT H kvs xs) (k : List NKey) {y : V} {u : Value} (ry : RelV y u) :
    KT H (kvs.map fun kv => if kv.1 = k then (kv.1, y) else kv) (xs.map (putAt k u)) := by
  induction r with
  | nil => exact .nil
  | @cons p q ps qs h t ih =>
    rw [List.map_cons, List.map_cons]
    refine .cons ?_ ih
    obtain ⟨h1, h2, h3⟩ := h
    unfold putAt
    by_cases e : p.1 = k
    · rw [if_pos e, if_pos (h1.symm.trans e)]; exact ⟨h1, h2, ry⟩
    · rw [if_neg e, if_neg (fun z => e (h1.trans z))]; exact ⟨h1, h2, h3⟩
theorem KT.put {H : Hp} {kvs : List (List NKey × V)} {xs : List (List NKey × Addr × Value)} (r : KT H kvs xs) (k : List NKey) {b : Addr} {y : V} {u : Value} (hb : H b = some (.tup (k.map nV))) (ry : RelV y u) :
    KT H (putK kvs k y) (storedH xs k b u) := by
  have e : (kvs.any fun kv => decide (kv.1 = k)) = (atKey xs k).isSome := by
    rw [valV_any, (r.val k).isSome_eq, Option.isSome_map]
  unfold putK storedH
  rw [e]
  by_cases q : (atKey xs k).isSome = true
  · rw [if_pos q, if_pos q]; exact r.repl k ry
  · rw [if_neg q, if_neg q]; exact Paired.snoc r ⟨rfl, hb, ry⟩
theorem KT.keeps {H H' : Hp} {kvs : List (List NKey × V)} {xs : List (List NKey × Addr × Value)} (r : KT H kvs xs) (ht : ∀ b ys, H b = some (.tup ys) → H' b = some (.tup ys)) : KT H' kvs xs :=
  Paired.mapP r fun _ _ z => ⟨z.1, ht _ _ z.2.1, z.2.2⟩
section
variable {P : Program} {w : World} {H : Hp} {h : Heap} {a : Addr}
theorem rd_of {u : HO} (ok : HOk P w H h) (e : Rd H a u) : ObjOk P w H h a u := e.ok ok
theorem dk_rd {kvs : List (Key × V)} (ok : HOk P w H h) (e : Rd H a (.dK kvs)) : kvs.length ≤ sizeLine ∧ (a == sysModules) = false ∧ ∃ vs, KV kvs vs ∧ h.DictOf (mixKind P w) a vs :=
  show ObjOk P w H h a (.dK kvs) from rd_of ok e
theorem dk_of {kvs : List (Key × V)} (ok : HOk P w H h) (e : H a = some (.dK kvs)) : kvs.length ≤ sizeLine ∧ (a == sysModules) = false ∧ ∃ vs, KV kvs vs ∧ h.DictOf (mixKind P w) a vs := dk_rd ok (.inl e)
theorem key_of {ks : List NKey} (ok : HOk P w H h) (e : H a = some (.tup (ks.map nV))) : (tupleKind (optKind P w)).is h ks a := by
  obtain ⟨_, its, r, o, h1, h2, n, h3⟩ := (show ObjOk P w H h a (.tup (ks.map nV)) from ok a _ e)
  exact ⟨o, its.toArray, n, h1, h2, h3, by simpa using items_are r⟩
theorem dt_rd {kvs : List (List NKey × V)} (ok : HOk P w H h) (e : Rd H a (.dT kvs)) : kvs.length ≤ sizeLine ∧ (a == sysModules) = false ∧
    ∃ xs, KT H kvs xs ∧ h.DictOfH (tupleKind (optKind P w)) a xs := by
  obtain ⟨z, y, xs, r, o, es, ep, h1, h2, h3, h4, h5⟩ := (show ObjOk P w H h a (.dT kvs) from rd_of ok e)
  refine ⟨z, y, xs, r, o, es, ep, h1, h2, h3, h4, fun x hx => ?_, h5⟩
  have all : ∀ {l : List (List NKey × V)} {m : List (List NKey × Addr × Value)}, KT H l m → ∀ x ∈ m, (tupleKind (optKind P w)).is h x.1 x.2.1 := by
    intro l m q
    induction q with
    | nil => intro x hx; exact nomatch hx
    | @cons p q ps qs hq t ih =>
      intro x hx
      rcases List.mem_cons.mp hx with e | hx
      · subst e
        exact key_of ok (by rw [← hq.1]; exact hq.2.1)
      · exact ih x hx
  exact all r x hx
theorem dt_of {kvs : List (List NKey × V)} (ok : HOk P w H h) (e : H a = some (.dT kvs)) : kvs.length ≤ sizeLine ∧ (a == sysModules) = false ∧
    ∃ xs, KT H kvs xs ∧ h.DictOfH (tupleKind (optKind P w)) a xs := dt_rd ok (.inl e)
end
noncomputable def DGet (H : Hp) (a : Addr) (y : V) (r : Option V) : Prop :=
  (∃ kvs k, Rd H a (.dK kvs) ∧ y = kV k ∧ r = valV kvs k) ∨ ∃ kvs k b, Rd H a (.dT kvs) ∧ y = .ref b ∧ H b = some (.tup (k.map nV)) ∧ r = valV kvs k
noncomputable def DPut (H : Hp) (a : Addr) (y v : V) (H' : Hp) : Prop :=
  (∃ kvs k, H a = some (.dK kvs) ∧ y = kV k ∧ kvs.length < sizeLine ∧ H' = upd H a (.dK (putK kvs k v))) ∨
  ∃ kvs k b, H a = some (.dT kvs) ∧ y = .ref b ∧ H b = some (.tup (k.map nV)) ∧ kvs.length < sizeLine ∧ H' = upd H a (.dT (putK kvs k v))
theorem DGet.k {H : Hp} {a : Addr} {kvs : List (Key × V)} {k : Key} (e : H a = some (.dK kvs)) : DGet H a (kV k) (valV kvs k) := .inl ⟨kvs, k, .inl e, rfl, rfl⟩
theorem DPut.k {H : Hp} {a : Addr} {kvs : List (Key × V)} {k : Key} {v : V} (e : H a = some (.dK kvs)) (hl : kvs.length < sizeLine) : DPut H a (kV k) v (upd H a (.dK (putK kvs k v))) := .inl ⟨kvs, k, e, rfl, hl, rfl⟩
section
variable {X : Cx} {pins : List (Addr × Obj)} {σ : St} {H : Hp} {s : Shared} {a : Addr} {y v : V} {u r : Value} {o : Option V} {A : Around} {E : Value → Shared → Prop}
theorem Inv.big (I : Inv X pins σ H s) : sysModules < s.heap.objs.size := by
  have h : mainGlobals < s.heap.objs.size := (I.mod.glob.keeps I.bk).lt
  exact Nat.lt_trans (by decide) h
theorem d_getItem {Q : Value → Shared → Prop} (hu : A.units + 1 < cLine) (I : Inv X pins σ H s) (g : DGet H a y (some v)) (ry : RelV y u) (h : ∀ w' s', Inv X pins σ H s' → RelV v w' → Q w' s') :
    wpAny (model X.prog X.w) A (getItem (.ref a) u) Q E s := by
  rcases g with ⟨kvs, k, e, ey, l⟩ | ⟨kvs, k, b, e, ey, eb, l⟩
  · subst ey
    obtain ⟨z, hd, vs, rel, dd⟩ := dk_rd I.hok e
    obtain ⟨w', hw, rw'⟩ := RelO.some_of (v := v) (o := valueAt vs k) (by rw [l]; exact rel.val k)
    exact wpAny_getItem_of (kV_is ry) dd.mapOf hw (h w' _ (I.tok _) rw')
  · subst ey
    cases (show u = Value.ref b from ry)
    obtain ⟨z, hd, xs, rel, dd⟩ := dt_rd I.hok e
    obtain ⟨w', hw, rw'⟩ := RelO.some_of (v := v) (o := (atKey xs k).map (·.2)) (by rw [l]; exact rel.val k)
    obtain ⟨p, hp, hp2⟩ := Option.map_eq_some_iff.mp hw
    refine wpAny_getItem_heap (tupleKind_room_in1 hu) (key_of I.hok eb) dd hp ?_
    rw [hp2]
    exact h w' _ (I.tok _) rw'
theorem d_in {Q : Value → Shared → Prop} (hu : A.units + 1 < cLine) (I : Inv X pins σ H s) (g : DGet H a y o) (ry : RelV y u) (h : ∀ s', Inv X pins σ H s' → Q (.bool o.isSome) s') :
    wpAny (model X.prog X.w) A (compareOp .In u (.ref a)) Q E s := by
  rcases g with ⟨kvs, k, e, ey, l⟩ | ⟨kvs, k, b, e, ey, eb, l⟩
  · subst ey
    obtain ⟨z, hd, vs, rel, dd⟩ := dk_rd I.hok e
    refine wpAny_in_of (kV_is ry) hd dd.mapOf ?_
    rw [← (rel.val k).isSome_eq, ← l]
    exact h _ (I.tok _)
  · subst ey
    cases (show u = Value.ref b from ry)
    obtain ⟨z, hd, xs, rel, dd⟩ := dt_rd I.hok e
    refine wpAny_in_heap (tupleKind_room_in1 hu) (key_of I.hok eb) hd dd ?_
    have q := (rel.val k).isSome_eq
    rw [Option.isSome_map] at q
    rw [← q, ← l]
    exact h _ (I.tok _)
theorem d_notIn {Q : Value → Shared → Prop} (hu : A.units + 1 < cLine) (I : Inv X pins σ H s) (g : DGet H a y o) (ry : RelV y u) (h : ∀ s', Inv X pins σ H s' → Q (.bool (!o.isSome)) s') :
    wpAny (model X.prog X.w) A (compareOp .NotIn u (.ref a)) Q E s := by
  rcases g with ⟨kvs, k, e, ey, l⟩ | ⟨kvs, k, b, e, ey, eb, l⟩
  · subst ey
    obtain ⟨z, hd, vs, rel, dd⟩ := dk_rd I.hok e
    refine wpAny_notIn_of (kV_is ry) hd dd.mapOf ?_
    rw [← (rel.val k).isSome_eq, ← l]
    exact h _ (I.tok _)
  · subst ey
    cases (show u = Value.ref b from ry)
    obtain ⟨z, hd, xs, rel, dd⟩ := dt_rd I.hok e
    refine wpAny_notIn_heap (tupleKind_room_in1 hu) (key_of I.hok eb) hd dd ?_
    have q := (rel.val k).isSome_eq
    rw [Option.isSome_map] at q
    rw [← q, ← l]
    exact h _ (I.tok _)
theorem d_write {h' : Heap} {t' : Nat} {ob : HO} (I : Inv X pins σ H s) (mu : Mut (H a)) (hs : Heap.SameBut a s.heap h') (he : ∃ q, h'.get? a = some q) (new : ObjOk X.prog X.w (upd H a ob) h' a ob) :
    Inv X pins σ (upd H a ob) { s with heap := h', toks := t' } :=
  I.write (x := a) (e := a) mu (.inl rfl) (fun b q hb z => (hs.2 b hb).trans z) he new
theorem dk_new {P : Program} {w : World} {H' : Hp} {h' : Heap} {kvs : List (Key × V)} {vs : List (Key × Value)} (z : kvs.length ≤ sizeLine) (hd : (a == sysModules) = false) (rel : KV kvs vs) (dd : h'.DictOf (mixKind P w) a vs) :
    ObjOk P w H' h' a (.dK kvs) := ⟨z, hd, vs, rel, dd⟩
theorem d_setItem {H' : Hp} {Q : Unit → Shared → Prop} (hu : A.units + 1 < cLine) (I : Inv X pins σ H s) (g : DPut H a y v H') (ry : RelV y u) (rv : RelV v r) (h : ∀ s', Inv X pins σ H' s' → Q () s') :
    wpAny (model X.prog X.w) A (setItem (.ref a) u r) Q E s := by
  rcases g with ⟨kvs, k, e, ey, l, eH⟩ | ⟨kvs, k, b, e, ey, eb, l, eH⟩
  · subst ey eH
    obtain ⟨z, hd, vs, rel, dd⟩ := dk_of I.hok e
    have hz : vs.length ≤ sizeLine := by rw [← rel.length]; exact z
    have hl : (putK kvs k v).length ≤ sizeLine := by have := length_putK kvs k v; omega
    refine wpAny_setItem_pairs (hsz := hz) (kV_is ry) dd fun h' dd' hs => h _ ?_
    have he : ∃ q, h'.get? a = some q := let ⟨q, _, _, hq, _⟩ := dd'; ⟨q, hq⟩
    exact d_write I (by rw [e]; exact True.intro) hs he (dk_new hl hd (rel.put k rv) dd')
  · subst ey eH
    cases (show u = Value.ref b from ry)
    obtain ⟨z, hd, xs, rel, dd⟩ := dt_of I.hok e
    have hz : xs.length ≤ sizeLine := by rw [← Paired.length rel]; exact z
    have hl : (putK kvs k v).length ≤ sizeLine := by have := length_putK kvs k v; omega
    refine wpAny_setItem_heap (hsz := hz) (tupleKind_room_in1 hu) (key_of I.hok eb) dd fun h' dd' hs => h _ ?_
    obtain ⟨q, es, ep, hq, h2, h3, h4, _, h5⟩ := dd'
    refine d_write I (by rw [e]; exact True.intro) hs ⟨q, hq⟩ ⟨hl, hd, _, (rel.put k eb rv).keeps fun c ys ec => ?_, q, es, ep, hq, h2, h3, h4, h5⟩
    rw [upd_ne (ne_of ec e (fun z => nomatch z))]
    exact ec
end
section
variable {X : Cx} {pins : List (Addr × Obj)} {σ : St} {H : Hp} {s : Shared} {a : Addr} {kvs : List (Key × V)} {k : Key} {u : Value} {A : Around} {E : Value → Shared → Prop}
end
noncomputable def NoSl (i : Expr) : Prop := ∀ ov iv, subscripted i false ov iv = operate [ov, iv] (getItem ov iv)
theorem subD_of {prog : Program} {w : World} {A : Around} {E : Value → Shared → Prop} {s : Shared} {env : Env} {value slice : Expr} {pos : Pos} {T id : String} {Q : Value → Shared → Prop}
    (hl : typeLookup (.type T) "__getitem__" = pure (some (.builtin id))) (hs : NoSl slice)
    (h : wpAny (model prog w) A (eval value env) (fun o s₁ => wpAny (model prog w) A (eval slice env) (fun i s₂ => s₂.TypeIs o T ∧ wpAny (model prog w) A (getItem o i) Q E s₂) E s₁) E s) :
    wpAny (model prog w) A (eval (.Subscript value slice pos) env) Q E s := by
  refine Subscript_ (wpAny_mono h (fun o s₁ h₁ => wpAny_mono h₁ (fun i s₂ h₂ => ?_) fun _ _ x => x) fun _ _ x => x)
  obtain ⟨hT, h₂⟩ := h₂
  unfold subscriptTail
  refine wpAny_bind ?_
  rw [getitemInPython_of_ne hT.not_modules]
  refine wpAny_bind (wpAny_specialOf hT hl ?_)
  have fin : wpAny (model prog w) A (subscripted slice false o i) (fun r s₃ => wpAny (model prog w) A (letTemporaryGo value o r >>= fun _ => pure r) Q E s₃) E s₂ := by
    rw [hs o i]
    exact wpAny_operating (wpAny_mono h₂ (fun r s₃ h₃ => wpAny_bind (wpAny_letTemporaryGo (wpAny_pure h₃))) fun _ _ x => x)
  first
    | exact wpAny_pure (wpAny_bind fin)
    | exact wpAny_bind (wpAny_pure (wpAny_bind fin))
    | exact wpAny_bind fin
theorem dict_typeIs {X : Cx} {pins : List (Addr × Obj)} {σ : St} {H : Hp} {s : Shared} {a : Addr} {y : V} {o : Option V} (I : Inv X pins σ H s) (g : DGet H a y o) : s.TypeIs (.ref a) "dict" := by
  rcases g with ⟨kvs, k, e, _, _⟩ | ⟨kvs, k, b, e, _, _, _⟩
  · obtain ⟨_, _, vs, _, dd⟩ := dk_rd I.hok e
    exact dd.typeIs
  · obtain ⟨_, _, xs, _, dd⟩ := dt_rd I.hok e
    exact dd.typeIs
noncomputable def tDGet (td ty : TE) : TE := fun σ H Q => td σ H fun x H1 => ty σ H1 fun y H2 => ∃ a v, x = .ref a ∧ DGet H2 a y (some v) ∧ Q v H2
noncomputable def tDIn (ty td : TE) : TE := fun σ H Q => ty σ H fun y H1 => td σ H1 fun x H2 => ∃ a o, x = .ref a ∧ DGet H2 a y o ∧ Q (.bl o.isSome) H2
noncomputable def tDNotIn (ty td : TE) : TE := fun σ H Q => ty σ H fun y H1 => td σ H1 fun x H2 => ∃ a o, x = .ref a ∧ DGet H2 a y o ∧ Q (.bl (!o.isSome)) H2
noncomputable def sDPut (td ty tv : TE) : TS := fun D σ H => tv σ H fun v H1 => td σ H1 fun x H2 => ty σ H2 fun y H3 => ∃ a H4, x = .ref a ∧ DPut H3 a y v H4 ∧ D.nx σ H4
section
variable {X : Cx} {o i e value : Expr} {pos pos' tpos : Pos} {td ty tv : TE}
theorem pe_dget (hu : X.A.units + 1 < cLine) (ho : PE X o td) (hi : PE X i ty) (hs : NoSl i) : PE X (.Subscript o i pos) (tDGet td ty) := by
  intro pins s σ H Q I h
  refine subD_of PySem.F.slot_dict_getitem.lookup hs (thn (ho pins s σ H _ I h) fun u s1 ⟨x, H1, I1, rx, q1⟩ => thn (hi pins s1 σ H1 _ I1 q1) fun iv s2 ⟨y, H2, I2, ry, a, v, ex, g, q2⟩ => ?_)
  subst ex
  obtain rfl : u = Value.ref a := rx
  exact ⟨dict_typeIs I2 g, d_getItem hu I2 g ry fun w' s3 I3 rw' => ⟨v, H2, I3, rw', q2⟩⟩
theorem pc_din (hu : X.A.units + 1 < cLine) (hi : PE X i ty) (ho : PE X o td) : PC X .In i o (tDIn ty td) := by
  intro pins s σ H Q I h
  refine thn (hi pins s σ H _ I h) fun iv s1 ⟨y, H1, I1, ry, q1⟩ => thn (ho pins s1 σ H1 _ I1 q1) fun u s2 ⟨x, H2, I2, rx, a, ov, ex, g, q2⟩ => ?_
  subst ex
  obtain rfl : u = Value.ref a := rx
  exact d_in hu I2 g ry fun s3 I3 => ⟨.bl ov.isSome, H2, I3, rfl, q2⟩
theorem pc_dnotin (hu : X.A.units + 1 < cLine) (hi : PE X i ty) (ho : PE X o td) : PC X .NotIn i o (tDNotIn ty td) := by
  intro pins s σ H Q I h
  refine thn (hi pins s σ H _ I h) fun iv s1 ⟨y, H1, I1, ry, q1⟩ => thn (ho pins s1 σ H1 _ I1 q1) fun u s2 ⟨x, H2, I2, rx, a, ov, ex, g, q2⟩ => ?_
  subst ex
  obtain rfl : u = Value.ref a := rx
  exact d_notIn hu I2 g ry fun s3 I3 => ⟨.bl (!ov.isSome), H2, I3, rfl, q2⟩
theorem ps_dput (hu : X.A.units + 1 < cLine) (ho : PE X o td) (hi : PE X i ty) (hv : PE X value tv) (hs : swapsWith value (some (.Subscript o i pos')) pos.line X.env = pure false) :
    PS X (.Assign [.Subscript o i pos'] value pos) (sDPut td ty tv) := by
  intro pins s σ H D I h
  refine wpAny_Assign_Subscript (thn (hv pins s σ H _ I h) fun r s1 ⟨v, H1, I1, rv, q1⟩ => thn (ho pins s1 σ H1 _ I1 q1) fun u s2 ⟨x, H2, I2, rx, q2⟩ => thn (hi pins s2 σ H2 _ I2 q2) fun iv s3 ⟨y, H3, I3, ry, a, H4, ex, g, q3⟩ => ?_) hs
  subst ex
  obtain rfl : u = Value.ref a := rx
  exact d_setItem hu I3 g ry rv fun s4 I4 => ⟨σ, H4, I4, q3⟩
end
theorem dk_empty {P : Program} {w : World} {H : Hp} (h : Heap) (hb : sysModules < h.objs.size) : ObjOk P w H (h.push { cls := .type "dict", data := .dict #[] }) h.objs.size (.dK []) :=
  ⟨Nat.zero_le _, beq_eq_false_iff_ne.mpr (Ne.symm (Nat.ne_of_lt hb)), [], .nil, Heap.DictOf.new h⟩
noncomputable def tDNewK : TE := fun _ H Q => ∀ p, H p = none → Q (.ref p) (upd H p (.dK []))
section
variable {X : Cx} {pos : Pos}
theorem pe_dnewK : PE X (.Dict [] [] pos) tDNewK := fun pins s σ H Q I h =>
  wpAny_Dict_empty ⟨.ref s.heap.objs.size, _, I.laid (a := s.heap.objs.size) (o := .dK []) (t' := s.toks) (fun _ _ q => Heap.get?_push_of_some _ q) (Nat.le_refl _) (dk_empty s.heap I.big), rfl, h _ (I.hok.fresh (Nat.le_refl _))⟩
end
noncomputable def tPairs : List (TE × TE) → St → Hp → (List (V × V) → Hp → Prop) → Prop
  | [], _, H, Q => Q [] H
  | (tk, tv) :: r, σ, H, Q => tk σ H fun x H1 => tv σ H1 fun y H2 => tPairs r σ H2 fun ps H3 => Q ((x, y) :: ps) H3
noncomputable abbrev VV : List (V × V) → List (Value × Value) → Prop := Paired fun p q => RelV p.1 q.1 ∧ RelV p.2 q.2
noncomputable def PPs (X : Cx) (pos : Pos) (keys : List (Option Expr)) (values : List Expr) (trs : List (TE × TE)) : Prop :=
  ∀ (pins : List (Addr × Obj)) (s : Shared) (σ : St) (H : Hp) (Q : List (V × V) → Hp → Prop), Inv X pins σ H s → tPairs trs σ H Q →
    wpAny (model X.prog X.w) X.A (evalPairs (pairTrees keys values X.env pos)) (fun vs s' => ∃ ps H', Inv X pins σ H' s' ∧ VV ps vs ∧ Q ps H') X.xe s
noncomputable def mergeK (kvs more : List (Key × V)) : List (Key × V) := more.foldl (fun acc kv => putK acc kv.1 kv.2) kvs
noncomputable def tDisp (trs : List (TE × TE)) : TE := fun σ H Q => ∀ p, H p = none → tPairs trs σ (upd H p (.dK [])) fun ps H2 => H2 p = some (.dK []) ∧ ∃ kvs : List (Key × V), ps = kvs.map (fun kv => (kV kv.1, kv.2)) ∧ kvs.length ≤ 15 ∧ Q (.ref p) (upd H2 p (.dK (mergeK [] kvs)))
section
variable {X : Cx} {pins : List (Addr × Obj)} {σ : St} {H : Hp} {s : Shared} {a : Addr} {y d : V} {u r : Value} {o : Option V} {A : Around} {E : Value → Shared → Prop}
end
section
variable {X : Cx} {o e f : Expr} {apos cpos : Pos} {td ty tx : TE}
end
section
variable {X : Cx} {pins : List (Addr × Obj)} {σ : St} {H : Hp} {s : Shared} {a : Addr} {kvs : List (Key × V)} {A : Around} {E : Value → Shared → Prop}
end
section
variable {X : Cx} {pins : List (Addr × Obj)} {σ : St} {H : Hp} {s : Shared} {a : Addr} {y : V} {u : Value} {A : Around} {E : Value → Shared → Prop}
end
end L2
namespace Att
open PySem PySem.W PySem.Calls PyProof.Rows
theorem ints_of_wellAll {P : Params} {h : Heap} : ∀ (ns : List Int) (vs : List Value), WellAll P h vs (ns.map WData.int) → IntsAre vs ns := by
  intro ns
  induction ns with
  | nil =>
    intro vs w
    rw [List.map_nil] at w
    cases w
    exact .nil
  | cons n ns ih =>
    intro vs w
    rw [List.map_cons] at w
    cases w with
    | cons a b =>
      cases a
      exact .cons _ _ (ih _ b)
theorem script_of {l : OpenLaw} {n : Nat} (hn : l.most = some n) {P : Params} {h : Heap} {args : List WData} {vals : List Value}
    (hpre : l.row.toRowW.claim.pre args = true) (hwl : WellAll P h vals args) :
    ∃ a vs ns, vals = [Value.ref a] ∧ args = [WData.list (ns.map WData.int)] ∧ h.get? a = some { cls := .type "list", data := .seq vs.toArray } ∧ IntsAre vs ns ∧ ns.length ≤ n := by
  have hsh : WShape.hasAll [] args [.list .int] = true := (pre_splitW hpre).1
  have hc : l.pre.holds [] { args := args } = true := (pre_splitW hpre).2
  obtain ⟨d, r, rfl, h1, h2⟩ := hasAllW_cons hsh
  obtain rfl := hasAllW_nil h2
  obtain ⟨xs, rfl, h3⟩ := hasW_list h1
  obtain ⟨ns, rfl⟩ := items_int h3
  have hlen : ns.length ≤ n := by
    unfold OpenLaw.pre at hc
    have h4 : (WTm.not (.lt (.lit (.int (n : Int))) (.len (.arg 0)))).holds [] { args := [.list (ns.map .int)] } = true := by
      have h4 := (holds_andW hc).1
      rw [hn] at h4
      exact h4
    have h5 := condW_of h4 (w_not (w_lt w_lit (w_len_list (w_arg rfl))))
    rw [List.length_map] at h5
    refine Nat.le_of_not_lt fun q => ?_
    have q' : (n : Int) < ((ns.length : Nat) : Int) := by omega
    first
      | (rw [decide_eq_true q'] at h5; exact absurd h5 (by decide))
      | (simp at h5; omega)
  cases hwl with
  | cons w1 w2 =>
    cases w2
    cases w1 with
    | list ho hall => exact ⟨_, _, ns, rfl, rfl, ho, ints_of_wellAll ns _ hall, hlen⟩
theorem post_true (l : OpenLaw) (args : List WData) : l.row.toRowW.claim.post args (.bool true) args = true :=
  postW_of (r := l.row.toRowW) (X := (true == true))
    (show WShape.has [] (.bool true) .bool = true by first | rfl | decide | simp [WShape.has, WShape.arms, WShape.armsAll])
    (show (WTm.eq .res (.lit (.bool true))).value [] { args := args, res := some (.bool true), after := args } = some (.bool (true == true)) from w_eq_bool (w_res rfl) w_lit) rfl
theorem attach_call {l : OpenLaw} {n : Nat} {q : Program} {loose : List Str} {XP : (Str → Option Value) → Heap → Prop} {YP : World → Heap → Prop} {d : DefRec}
    (hn : l.most = some n) (hdf : d.params.defaults = [])
    (call : ∀ (w : World) (s₀ s₁ : Shared) (mg mb : Str → Option Value) (fa : Addr) (o : Obj) (pm cd doc : Value) (a : Addr) (vs : List Value) (ns : List Int),
      Ground q loose [] XP w s₀ mg mb s₁.heap → YP w s₁.heap →
      s₁.heap.get? fa = some o → o.data = .func (docDef d.name d.params d.body d.scope pm cd doc) → s₁.heap.CodeRec cd d.name → mg d.name = some (.ref fa) →
      s₁.heap.get? a = some { cls := .type "list", data := .seq vs.toArray } → IntsAre vs ns → ns.length ≤ n → s₁.gens = #[] →
      codeAny (model l.prog w) callerA (.call (.ref fa) ⟨[.ref a], []⟩) (fun r s' => r = .ok (.ret (.bool true)) ∧ OldK s₁.heap s'.heap ∧ s'.os = s₁.os ∧ AllBare s'.gens) s₁) :
    WalkO q loose XP YP l.row.toRowW d [] (fun f vs => PySem.call f vs) := by
  intro w s₀ s₁ mg mb G Y fa o pm cd doc dV kV ho hd hcd hD hmg hg args vals as hpre hlay hrd hwl hlo
  obtain rfl : dV = .none := Dflts.none hD hdf
  obtain rfl : kV = .none := Dflts.noKw hD
  obtain ⟨a, vs, ns, rfl, rfl, hobj, hints, hlen⟩ := script_of hn hpre hwl
  refine enter_call (codeAny_mono (call w s₀ s₁ mg mb fa o pm cd doc a vs ns G Y ho (fd_plain hd) hcd hmg hobj hints hlen hg) fun r s' hq => ?_)
  obtain ⟨rfl, h2, h3, h4⟩ := hq
  exact ⟨.inl ⟨.bool true, .bool true, [], rfl, fun _ => rfl, .bool true, post_true l _, fun _ => ⟨List.Pairwise.nil, fun _ hm => (nomatch hm)⟩⟩, h2, h3, h4⟩
section
variable {prog : Program} {w : World} {A : Around} {E : Value → Shared → Prop} {s : Shared} {K : Frag}
end
end Att
namespace L2
open PySem PySem.Spec PyProof.Rows
theorem vals_ints : ∀ {vs : List Value} {ns : List Int}, IntsAre vs ns → Vals (ns.map V.int) vs
  | _, _, .nil => .nil
  | _, _, .cons n t h => .cons ⟨t, rfl⟩ (vals_ints h)
noncomputable def Only (H : Hp) : Prop := ∀ b, H b = none ∨ ∃ o xs, H b = some (.frz o (.lst xs))
theorem law_call {P : Program} {w : World} {K : PySem.W.Frag} {mg mb : Str → Option Value} {CX : CXT} {k : Nat} {fa a : Addr} {fd : FuncData} {x : Str} {sp : Sp} {s₁ : Shared} {vs : List Value} {ns : List Int}
    (KX : K.In s₁.heap) (hns : s₁.heap.Ns mainGlobals mg) (hb : s₁.heap.Ns builtinsNs mb) (hbb : ∀ x : Str, x ≠ "__name__" → mb x = bootBuiltins x) (hlim : s₁.heap.NoLimit) (hg : s₁.gens = #[])
    (ha : s₁.heap.get? a = some { cls := .type "list", data := .seq vs.toArray }) (hi : IntsAre vs ns) (hl : ns.length ≤ sizeLine) (hr : Room k callerA)
    (F : ∀ base : Heap, K.In base → base.Ns mainGlobals mg → FnOk P w K mg base CX k fa fd [x] sp) (hbind : ∀ (s : Shared) (u : Value), BindsTo s fd ⟨[u], []⟩ [(x, u)])
    (hsp : ∀ H : Hp, Only H → SqL K H a (ns.map V.int) → sp [.ref a] H (fun v _ => v = .bl true) fun _ _ _ => False)
    (hCX : ∀ H e s', CX [] H s₁ (fun _ _ _ => False) e s' → False) :
    codeAny (model P w) callerA (.call (.ref fa) ⟨[.ref a], []⟩) (fun r s' => r = .ok (.ret (.bool true)) ∧ OldK s₁.heap s'.heap ∧ s'.os = s₁.os ∧ AllBare s'.gens) s₁ := by
  have rv := vals_ints hi
  have lenV := hi.length
  -- from an abstract heap in which nothing but the script may be tracked
  have core : ∀ H : Hp, Only H → SqL K H a (ns.map V.int) → HOk P w H s₁.heap → (∀ b, H b ≠ none → b = a) → (H a ≠ none → K.lookup a = none) →
      codeAny (model P w) callerA (.call (.ref fa) ⟨[.ref a], []⟩) (fun r s' => r = .ok (.ret (.bool true)) ∧ OldK s₁.heap s'.heap ∧ s'.os = s₁.os ∧ AllBare s'.gens) s₁ := by
    intro H hO hS hok hA hK
    have base_of : ∀ {b : Addr} {o : Obj}, s₁.heap.get? b = some o → H b = none → (hidT s₁.heap H).get? b = some o := fun e n => hidT_get e n
    have noA : ∀ {b : Addr} {o : Obj} {es : Array DictEntry} {ep : Nat}, s₁.heap.get? b = some o → o.data = .dict es ep → H b = none := fun {b o es ep} e d => by
      cases q : H b with
      | none => rfl
      | some u =>
        have e' : b = a := hA b (by rw [q]; simp)
        subst e'
        rw [ha] at e; cases e
        have d' : Data.seq vs.toArray _ = Data.dict es ep := d
        cases d'
    have nsK : ∀ {b : Addr} {m : Str → Option Value}, s₁.heap.Ns b m → (hidT s₁.heap H).Ns b m := fun {b m} ⟨o, es, ep, e, d, r⟩ => ⟨o, es, ep, base_of e (noA e d), d, r⟩
    have hKb : K.In (hidT s₁.heap H) := fun b o e => base_of (KX b o e) (by
      cases q : H b with
      | none => rfl
      | some u =>
        have e' : b = a := hA b (by rw [q]; simp)
        subst e'
        rw [hK (by rw [q]; simp)] at e; cases e)
    have hM : Mod K mg (hidT s₁.heap H) := ⟨hKb, nsK hns, ⟨mb, nsK hb, hbb⟩, let ⟨mc, h1, h2⟩ := hlim; ⟨mc, nsK h1, h2⟩⟩
    have e0 : Env0 P w K mg (hidT s₁.heap H) callerA [] s₁ H := ⟨rfl, hM, fun b o e => of_hidT e, Nat.le_of_eq (hidT_size _ _), trivial, fun b hb => absurd (show b ∈ ([] : List Addr) from hb) (by simp), hok, .of_eq hg⟩
    refine codeAny_mono ((F _ hKb (nsK hns)).run callerA [] s₁ H ⟨[.ref a], []⟩ [.ref a] [.ref a] _ _ hr e0 (hbind s₁ (.ref a)) (.cons rfl .nil) (hsp H hO hS)) fun r s' h => ?_
    cases r with
    | error e => exact (hCX H e s' h).elim
    | ok fl =>
      cases fl with
      | next => exact False.elim h
      | brk => exact False.elim h
      | cont => exact False.elim h
      | ret u =>
        obtain ⟨v, H', os, bare, un, hok', r', q⟩ := h
        have q' : v = .bl true := q
        subst q'
        obtain rfl : u = Value.bool true := r'
        refine ⟨rfl, OldK.of_keep fun b o e => ?_, os, bare⟩
        cases q : H b with
        | none => exact un.keep b o e q (by intro z; exact absurd (show b ∈ ([] : List Addr) from z) (by simp)) (by simp)
        | some u =>
          rcases hO b with z | ⟨ob, xs, z⟩
          · rw [q] at z; cases z
          · have z2 := un.frzs b ob _ z
            obtain ⟨e1, _⟩ := hok b _ z
            obtain ⟨e2, _⟩ := hok' b _ z2
            rw [e] at e1; cases e1
            exact e2
  cases hk : K.lookup a with
  | some o =>
    -- the script is one of the module's own objects
    have e := KX a o hk
    rw [ha] at e
    cases e
    refine core (fun _ => none) (fun _ => .inl rfl) (.inr ⟨_, vs.toArray, _, hk, rfl, rfl, rfl, by rw [List.size_toArray, lenV]; exact hl, by simpa using rv⟩) (fun b u z => by have z' : (none : Option HO) = some u := z; cases z') (fun b z => absurd rfl z) fun z => absurd rfl z
  | none =>
    refine core (fun b => if b = a then some (.frz { cls := .type "list", data := .seq vs.toArray } (.lst (ns.map V.int))) else none) (fun b => ?_) (.inl (.inr ⟨{ cls := .type "list", data := .seq vs.toArray }, if_pos rfl⟩)) (fun b u z => ?_) (fun b z => ?_) fun _ => hk
    · by_cases hb : b = a
      · exact .inr ⟨_, _, if_pos hb⟩
      · exact .inl (if_neg hb)
    · by_cases hb : b = a
      · have z' := (if_pos hb).symm.trans z
        cases z'
        subst hb
        exact ⟨ha, by rw [List.length_map]; exact hl, vs, _, rv, ha⟩
      · have z' := (if_neg hb).symm.trans z
        cases z'
    · by_cases hb : b = a
      · exact hb
      · exact absurd (if_neg hb) z
end L2
namespace L2
open PySem PySem.Spec PyProof.Rows
noncomputable abbrev KOf {K : PySem.W.Frag} {h : Heap} (_ : K.In h) : PySem.W.Frag := K
theorem walk_of {l : PySem.W.OpenLaw} {n k : Nat} {q : Program} {loose : List Str} {XP : (Str → Option Value) → Heap → Prop} {YP : World → Heap → Prop} {d : DefRec} {K : Params → PySem.W.Frag} {CX : World → CXT} {sp : World → Sp} {x : Str}
    (hn : l.most = some n) (hn2 : n ≤ sizeLine) (hdf : d.params.defaults = []) (hr : Room k callerA)
    (hY : ∀ (w : World) (h : Heap), YP w h → (K w.params).In h)
    (F : ∀ (w : World) (mg : Str → Option Value) (fa : Addr) (h : Heap), (K w.params).In h → h.Ns mainGlobals mg → mg d.name = some (.ref fa) →
      ∃ fd : FuncData, (∀ (s : Shared) (u : Value), BindsTo s fd ⟨[u], []⟩ [(x, u)]) ∧
        ∀ base : Heap, (K w.params).In base → base.Ns mainGlobals mg → FnOk l.prog w (K w.params) mg base (CX w) k fa fd [x] (sp w))
    (hsp : ∀ (w : World) (H : Hp) (a : Addr) (ns : List Int), ns.length ≤ n → Only H → SqL (K w.params) H a (ns.map V.int) → sp w [.ref a] H (fun v _ => v = .bl true) fun _ _ _ => False)
    (hCX : ∀ (w : World) (H : Hp) (s : Shared) (e : Value) (s' : Shared), CX w [] H s (fun _ _ _ => False) e s' → False) :
    PySem.W.WalkO q loose XP YP l.row.toRowW d [] (fun f vs => PySem.call f vs) := by
  refine Att.attach_call hn hdf fun w s₀ s₁ mg mb fa o pm cd doc a vs ns G Y ho hd hcd hmg hobj hints hlen hg => ?_
  have KX := hY w _ Y
  obtain ⟨fd, hb, hF⟩ := F w mg fa _ KX G.T.g hmg
  exact law_call KX G.T.g G.T.b G.T.builtins G.T.nolimit hg hobj hints (Nat.le_trans hlen hn2) hr hF hb (fun H hO hS => hsp w H a ns hlen hO hS) fun H e s' => hCX w H s₁ e s'
end L2
namespace L2
open PySem PySem.Spec PyProof.Rows
noncomputable def defArgs (s : Stmt) : Arguments := match s with
  | .FunctionDef _ a _ _ _ _ _ _ _ _ => a
  | _ => { posonlyargs := [], args := [], vararg := none, kwonlyargs := [], kw_defaults := [], kwarg := none, defaults := [] }
noncomputable def defBody (s : Stmt) : List Stmt := match s with
  | .FunctionDef _ _ b _ _ _ _ _ _ _ => b
  | _ => []
noncomputable def defScope (s : Stmt) : Scope := match s with
  | .FunctionDef _ _ _ _ _ _ sc _ _ _ => sc
  | _ => { kind := .function, names := [], isGenerator := false, isCoroutine := false }
noncomputable abbrev CX0 : CXT := fun _ _ _ _ _ _ => False
noncomputable abbrev E0 : XK := fun _ _ _ => False
theorem pass0 {X : Cx} : Passes CX0 X E0 := fun _ _ _ _ _ _ _ h => h.elim
structure Fun (K : PySem.W.Frag) (x qual : Str) (st : Stmt) (f : Addr) (fd : FuncData) : Prop where
  ex : ∃ (oc : Value) (od : Option Addr) (kV doc pm : Value) (an : Option Addr) (cdv ct : Value) (osl : Array (Option Value)),
    fd = PySem.W.fnOf x qual (defArgs st) (defBody st) (defScope st) .none kV doc pm an cdv ct ∧ K.lookup f = some ⟨oc, od, .func fd, osl⟩ ∧ PySem.W.codeIn K cdv qual = true
  kp : PySem.W.keepIn K (.ref f) = true
section
variable {P : Program} {w : World} {K : PySem.W.Frag} {mg : Str → Option Value} {base : Heap}
theorem Fun.ok {x qual : Str} {st : Stmt} {f : Addr} {fd : FuncData} {N ps : List Str} {k : Nat} {sp : Sp} (F : Fun K x qual st f fd) (S : FnScope N ps (defScope st)) (len : ∀ vs H Q E, sp vs H Q E → vs.length = ps.length)
    (hbody : ∀ (cdv : Value) (A : Around) (outer : List Env) (s : Shared) (H : Hp) (vs : List V) (Q : VK) (E : XK), Room k (A.deeper (envOfC qual (defScope st) s.heap.objs.size f cdv)) → sp vs H Q E →
      ∃ t, PSs (cxOf CX0 P w K mg base N qual (defScope st) f cdv A outer s H E).nox (defBody st) t ∧ t { nx := fun _ H' => Q .non H', rt := Q } (start N vs) H) : FnOk P w K mg base CX0 (k + 1) f fd ps sp := by
  obtain ⟨oc, od, kV, doc, pm, an, cdv, ct, osl, rfl, lk, hcd⟩ := F.ex
  refine fn_of lk hcd S len fun A outer s H vs Q E hr hsp => ?_
  obtain ⟨t, h, q⟩ := hbody cdv A outer s H vs Q E hr hsp
  exact ⟨t, h.nox, q⟩
theorem Fun.binds {x qual : Str} {st : Stmt} {f : Addr} {fd : FuncData} {ps : List Str} (F : Fun K x qual st f fd)
    (h : ∀ (kV doc pm : Value) (an : Option Addr) (cdv ct : Value) (us : List Value), us.length = ps.length → bindArgs (PySem.W.fnOf x qual (defArgs st) (defBody st) (defScope st) .none kV doc pm an cdv ct) ⟨us, []⟩ = pure (ps.zip us)) : Binds K fd ps [] := by
  obtain ⟨oc, od, kV, doc, pm, an, cdv, ct, osl, rfl, lk, hcd⟩ := F.ex
  exact .all (h kV doc pm an cdv ct)
theorem fun_mk {x qual : Str} {st : Stmt} {f : Addr} {oc : Value} {od an : Option Addr} {osl : Array (Option Value)} {kV doc pm cdv ct : Value} (l : K.lookup f = some ⟨oc, od, .func (PySem.W.fnOf x qual (defArgs st) (defBody st) (defScope st) .none kV doc pm an cdv ct), osl⟩)
    (c : PySem.W.codeIn K cdv qual = true) (k : PySem.W.keepIn K (.ref f) = true) : Fun K x qual st f (PySem.W.fnOf x qual (defArgs st) (defBody st) (defScope st) .none kV doc pm an cdv ct) := ⟨⟨oc, od, kV, doc, pm, an, cdv, ct, osl, rfl, l, c⟩, k⟩
end
theorem hu_of {A : Around} {k : Nat} (hr : Room k A) : A.units + 1 < cLine := Nat.lt_of_le_of_lt (Nat.add_le_add_left (by decide : 1 ≤ 64) _) hr.units
section
variable {X : Cx}
end
noncomputable def Same (H H' : Hp) : Prop := ∀ b o, H b = some o → H' b = some o
theorem Same.refl (H : Hp) : Same H H := fun _ _ h => h
theorem Same.trans {H H1 H2 : Hp} (a : Same H H1) (b : Same H1 H2) : Same H H2 := fun c o h => b c o (a c o h)
theorem Same.free {H H' : Hp} (e : Same H H') {l : Addr} (h : H' l = Option.none) : H l = Option.none := by
  cases q : H l with
  | none => rfl
  | some o =>
    rw [e l o q] at h
    cases h
theorem Same.seq {K : PySem.W.Frag} {H H' : Hp} {a : Addr} {xs : List V} (e : Same H H') (h : SqL K H a xs) : SqL K H' a xs := by
  rcases h with (h | ⟨o, h⟩) | h
  · exact .inl (.inl (e _ _ h))
  · exact .inl (.inr ⟨o, e _ _ h⟩)
  · exact .inr h
end L2
namespace L2
open PySem PySem.Spec PyProof.Rows
section
variable {X : Cx}
end
section
variable {κ : Type} [DecidableEq κ]
end
end L2
set_option maxHeartbeats 4000000
namespace L2
open PySem PySem.Spec PyProof.Rows
noncomputable abbrev runIfs (ifs : List Expr) (env : Env) : Sem Bool :=
  forIn ifs true fun c r => if r = true then do let ok ← isTrue c env (eval c env); pure (ForInStep.yield ok) else pure (ForInStep.yield r)
theorem comp_loop {prog : Program} {w : World} {A : Around} {R : Result → Shared → Prop} {s : Shared} {elt tg iter : Expr} {ifs : List Expr} {scope : Scope} {pos : Pos} {it acc : Value} {env : Env} (I : Nat → Shared → Prop)
    (turn : ∀ n s, I n s → wpAny (model prog w) A (pyNext it) (fun r s1 => match r with
      | none => R (.ok .next) s1
      | some v => wpAny (model prog w) A (letOwnedTupleGo tg it v) (fun _ s2 => wpAny (model prog w) A (assign tg env v) (fun _ s3 => wpAny (model prog w) A (runIfs ifs env) (fun ok s4 =>
          if ok = true then wpAny (model prog w) A (eval elt env) (fun x s5 => wpAny (model prog w) A (call (.builtin "list.append") [acc, x]) (fun _ s6 => ∃ m, m < n ∧ I m s6) (fun _ _ => False) s5) (fun _ _ => False) s4
          else ∃ m, m < n ∧ I m s4) (fun _ _ => False) s3) (fun _ _ => False) s2) (fun _ _ => False) s1) (fun _ _ => False) s)
    (n : Nat) (h : I n s) : codeAny (model prog w) A (.compLoop (.ListComp elt [⟨tg, iter, ifs, 0⟩] scope pos) 0 it acc env) R s := by
  refine codeAny_loop rfl I (fun n s hI => ?_) n h
  show wpAny _ A ((compTurn (.ListComp elt [⟨tg, iter, ifs, 0⟩] scope pos) 0 it acc env).onRaise (fun x => do noteFrame x env; theTreesLotGoes x)) _ _ s
  refine wpAny_noted (wpAny_noRaise ?_)
  rw [compTurn_list]
  refine wpAny_bind (wpAny_standAt (wpAny_bind (thn (turn n s hI) fun r s1 h1 => ?_)))
  cases r with
  | none => exact wpAny_pure h1
  | some v =>
    refine wpAny_bind (thn h1 fun _ s2 h2 => wpAny_bind (thn h2 fun _ s3 h3 => wpAny_bind (thn h3 fun ok s4 h4 => ?_)))
    cases ok with
    | false => exact wpAny_pure ⟨rfl, h4⟩
    | true => exact wpAny_bind (wpAny_bind (thn h4 fun x s5 h5 => wpAny_bind (thn h5 fun _ s6 h6 => wpAny_pure (wpAny_pure ⟨rfl, h6⟩))))
theorem closure_go (env : Env) : ∀ (names : List (Str × NameKind)) (cs : List (Str × Addr)), (∀ n, (n, NameKind.free) ∈ names → ∃ c, env.cells.lookup n = some c) → (∀ n c, cs.lookup n = some c → env.cells.lookup n = some c) →
    ∃ cl, (forIn names cs fun (p : Str × NameKind) (r : List (Str × Addr)) => (if p.2 == NameKind.free then do let c ← cellOf env p.1; pure (ForInStep.yield ((p.1, c) :: r)) else pure (ForInStep.yield r) : Sem (ForInStep (List (Str × Addr))))) = pure cl ∧
      (∀ n c, cl.lookup n = some c → env.cells.lookup n = some c) ∧ (∀ n, ((n, NameKind.free) ∈ names ∨ ∃ c, cs.lookup n = some c) → ∃ c, cl.lookup n = some c)
  | [], cs, _, hcs => ⟨cs, rfl, hcs, fun n h => h.elim (fun z => nomatch z) id⟩
  | (m, k) :: r, cs, hn, hcs => by
    cases hk : k == NameKind.free with
    | false =>
      obtain ⟨cl, e, h1, h2⟩ := closure_go env r cs (fun n z => hn n (List.mem_cons_of_mem _ z)) hcs
      refine ⟨cl, ?_, h1, fun n z => h2 n ?_⟩
      · rw [List.forIn_cons]; simp only [hk]; exact e
      · rcases z with z | z
        · rcases List.mem_cons.mp z with q | q
          · cases q; simp at hk
          · exact .inl q
        · exact .inr z
    | true =>
      have ek : k = NameKind.free := by simpa using hk
      subst ek
      obtain ⟨c, hc⟩ := hn m List.mem_cons_self
      obtain ⟨cl, e, h1, h2⟩ := closure_go env r ((m, c) :: cs) (fun n z => hn n (List.mem_cons_of_mem _ z)) (fun n c' z => by
        by_cases q : n = m
        · subst q; simp [List.lookup_cons] at z; subst z; exact hc
        · rw [List.lookup_cons, beq_eq_false_iff_ne.mpr q] at z; exact hcs n c' z)
      refine ⟨cl, ?_, h1, fun n z => h2 n ?_⟩
      · rw [List.forIn_cons]; simp only [cellOf, hc]; exact e
      · rcases z with z | ⟨c', z⟩
        · rcases List.mem_cons.mp z with q | q
          · cases q; exact .inr ⟨c, by simp [List.lookup_cons]⟩
          · exact .inl q
        · by_cases q : n = m
          · subst q; exact .inr ⟨c, by simp [List.lookup_cons]⟩
          · exact .inr ⟨c', by rw [List.lookup_cons, beq_eq_false_iff_ne.mpr q]; exact z⟩
theorem closure_of {scope : Scope} {env : Env} (hn : ∀ n, (n, NameKind.free) ∈ scope.names → ∃ c, env.cells.lookup n = some c) :
    ∃ cl, closureFor scope env = pure cl ∧ (∀ n c, cl.lookup n = some c → env.cells.lookup n = some c) ∧ (∀ n, (n, NameKind.free) ∈ scope.names → ∃ c, cl.lookup n = some c) := by
  obtain ⟨cl, e, h1, h2⟩ := closure_go env scope.names [] hn (fun _ _ z => nomatch z)
  refine ⟨cl, ?_, h1, fun n z => h2 n (.inl z)⟩
  unfold closureFor
  simp only [bind_pure]
  exact e
end L2
set_option maxHeartbeats 4000000
namespace L2
open PySem PySem.Spec PyProof.Rows
noncomputable def relNames (names onames : List (Str × NameKind)) : List (Str × NameKind) :=
  names.map fun (n, k) => if (k == .free && onames.lookup n == some .cell) then (n, .cell) else (n, k)
noncomputable def compOk (sc osc : Scope) (N rest : List Str) : Bool :=
  (sc.kind == .function && osc.kind == .function && sc.names.all fun y => y.2 != .cell && (y.2 != .local || sc.names.lookup y.1 == some .local) && (y.2 != .free || osc.names.lookup y.1 == some .cell || osc.names.lookup y.1 == some .free))
  && N.length == rest.length && (N.zip rest).all fun p => match (relNames sc.names osc.names).lookup p.2 with
    | some .local => false
    | some .cell => p.1 == p.2 && (p.2, NameKind.free) ∈ sc.names && (osc.names.lookup p.2 == some .cell || osc.names.lookup p.2 == some .free)
    | some .free => p.1 == p.2 && (p.2, NameKind.free) ∈ sc.names && (osc.names.lookup p.2 == some .cell || osc.names.lookup p.2 == some .free)
    | _ => true
structure CompSc (sc osc : Scope) (N rest : List Str) : Prop where
  kind : sc.kind = .function
  okind : osc.kind = .function
  cell : ∀ y ∈ sc.names, y.2 ≠ .cell
  loc : ∀ y ∈ sc.names, y.2 = .local → sc.names.lookup y.1 = some .local
  free : ∀ n, (n, NameKind.free) ∈ sc.names → osc.names.lookup n = some .cell ∨ osc.names.lookup n = some .free
  len : N.length = rest.length
  look : ∀ (i : Nat) x, rest[i]? = some x → ((relNames sc.names osc.names).lookup x = some .local ∨ (relNames sc.names osc.names).lookup x = some .cell ∨ (relNames sc.names osc.names).lookup x = some .free) →
    N[i]? = some x ∧ (x, NameKind.free) ∈ sc.names ∧ (osc.names.lookup x = some .cell ∨ osc.names.lookup x = some .free) ∧ ((relNames sc.names osc.names).lookup x = some .cell ∨ (relNames sc.names osc.names).lookup x = some .free)
theorem compOk_is {sc osc : Scope} {N rest : List Str} (h : compOk sc osc N rest = true) : CompSc sc osc N rest := by
  unfold compOk at h
  simp only [Bool.and_eq_true, beq_iff_eq, List.all_eq_true] at h
  obtain ⟨⟨⟨⟨hk, hok⟩, hy⟩, hl⟩, hz⟩ := h
  refine ⟨hk, hok, fun y z e => ?_, fun y z e => ?_, fun n z => ?_, hl, fun i x e v => ?_⟩
  · have := (hy y z).1.1; rw [e] at this; simp at this
  · have := (hy y z).1.2; rw [e] at this; simpa using this
  · have := (hy _ z).2; simpa using this
  · have hi : i < rest.length := (List.getElem?_eq_some_iff.mp e).1
    have hi' : i < N.length := by omega
    have hN : N[i]? = some N[i] := List.getElem?_eq_getElem hi'
    have hm : (N[i], x) ∈ N.zip rest := by
      refine List.mem_of_getElem? (i := i) ?_
      rw [List.getElem?_zip_eq_some]; exact ⟨hN, e⟩
    have q := hz _ hm
    dsimp only at q
    rcases v with v | v | v
    · rw [v] at q; simp at q
    · rw [v] at q; simp only [Bool.and_eq_true, beq_iff_eq, Bool.or_eq_true, decide_eq_true_eq] at q
      obtain ⟨⟨q1, q2⟩, q3⟩ := q
      exact ⟨by rw [hN, q1], q2, q3, .inl v⟩
    · rw [v] at q; simp only [Bool.and_eq_true, beq_iff_eq, Bool.or_eq_true, decide_eq_true_eq] at q
      obtain ⟨⟨q1, q2⟩, q3⟩ := q
      exact ⟨by rw [hN, q1], q2, q3, .inr v⟩
theorem relabel_names {sc : Scope} {env : Env} (hk : env.scope.kind = .function) : (relabel sc env).names = relNames sc.names env.scope.names := by
  unfold relabel relNames Env.kindOf
  simp [hk]
theorem rel_free {names onames : List (Str × NameKind)} (hc : ∀ y ∈ names, y.2 ≠ .cell) {x : Str} (h : (relNames names onames).lookup x = some .cell ∨ (relNames names onames).lookup x = some .free) : (x, NameKind.free) ∈ names := by
  have hm : (x, NameKind.cell) ∈ relNames names onames ∨ (x, NameKind.free) ∈ relNames names onames := h.imp PySem.mem_of_lookup PySem.mem_of_lookup
  rcases hm with hm | hm
  · obtain ⟨⟨n, k⟩, hn, e⟩ := List.mem_map.mp hm
    dsimp only at e
    split at e
    · rename_i hh; cases e; simp at hh; obtain ⟨rfl, _⟩ := hh; exact hn
    · cases e; exact absurd rfl (hc _ hn)
  · obtain ⟨⟨n, k⟩, hn, e⟩ := List.mem_map.mp hm
    dsimp only at e
    split at e
    · cases e
    · cases e; exact hn
noncomputable def compCx (X : Cx) (scope : Scope) (N' : List Str) (cl : List (Str × Addr)) (s2 : Shared) (H2 : Hp) (C : Addr) (fp : List Addr) : Cx :=
  { X with N := N', s₀ := s2, H₀ := H2, env := compEnvC scope cl C X.env, outer := X.stack, stack := X.stack, ex := fp, fn := fun _ => false, pn := [], xe := fun _ _ => False }
section
variable {X : Cx} {pins : List (Addr × Obj)} {σ : St} {H2 : Hp} {s2 : Shared} {scope : Scope} {own rest : List Str} {cl : List (Str × Addr)} {fp : List Addr} {C : Addr}
theorem compCx_ok (I : Inv X pins σ H2 s2) (S : CompSc scope X.env.scope X.N rest) (h1 : ∀ n c, cl.lookup n = some c → X.env.cells.lookup n = some c) (h2 : ∀ n, (n, NameKind.free) ∈ scope.names → ∃ c, cl.lookup n = some c)
    (hC : s2.heap.objs.size ≤ C) (hf : ∀ b ∈ fp, FpOk X pins H2 b) (ho : ∀ b ∈ fp, ∃ o, s2.heap.get? b = some o) : (compCx X scope (own ++ rest) cl s2 H2 C fp).Ok where
  mod := I.ok.mod
  kind := S.kind
  glob := I.ok.glob
  blt := I.ok.blt
  above := hC
  inj := fun x y c e1 e2 => I.ok.inj x y c (h1 x c e1) (h1 y c e2)
  has := fun x hx => h2 x (rel_free S.cell (by
    have e : (compCx X scope (own ++ rest) cl s2 H2 C fp).env.kindOf x = (relNames scope.names X.env.scope.names).lookup x := congrArg (List.lookup x) (relabel_names (sc := scope) I.ok.kind)
    rw [e] at hx; exact hx))
  cab := fun _ _ z => nomatch z
  hd := I.ok.hd
  frames := I.ok.frames
  stk := .inl rfl
  exf := fun b hb => by
    obtain ⟨o, e⟩ := ho b hb
    exact ⟨Nat.ne_of_lt (Nat.lt_of_lt_of_le (Heap.lt_size e) hC), fun x c e => (hf b hb).2.2.2.2.1 x c (h1 x c e)⟩
  bs := I.bs
  bsz := Nat.le_trans I.ok.bsz I.sz
  noex := fun b o e hb => by
    rcases (hf b hb).2.2.2.1 with z | z
    · exact I.ok.noex b o e z
    · exact absurd (Nat.lt_of_lt_of_le (Heap.lt_size e) (Nat.le_trans I.ok.bsz z)) (Nat.lt_irrefl _)
  exfs := fun b hb z => by
    rcases List.mem_cons.mp (I.stkSub b z) with q | q
    · exact (hf b hb).2.1 q
    · exact (hf b hb).2.2.1 q
  funs := I.stack
  frf := I.stkFree
theorem comp_start {h1 : Heap} {t1 : Nat} (I : Inv X pins σ H2 s2) (S : CompSc scope X.env.scope X.N rest) (hc1 : ∀ n c, cl.lookup n = some c → X.env.cells.lookup n = some c) (hc2 : ∀ n, (n, NameKind.free) ∈ scope.names → ∃ c, cl.lookup n = some c)
    (hC : s2.heap.objs.size ≤ C) (hf : ∀ b ∈ fp, FpOk X pins H2 b) (ho : ∀ b ∈ fp, ∃ o, s2.heap.get? b = some o)
    (old : ∀ b o, s2.heap.get? b = some o → h1.get? b = some o) (ns : h1.Ns C fun _ => none) :
    Inv (compCx X scope (own ++ rest) cl s2 H2 C fp) [] (List.replicate own.length none ++ σ) H2 { s2 with heap := h1, toks := t1 } := by
  obtain ⟨m, hn, hl⟩ := id I.loc
  have hv : ∀ x, Vis (compCx X scope (own ++ rest) cl s2 H2 C fp).env.scope x → ((relNames scope.names X.env.scope.names).lookup x = some .local ∨ (relNames scope.names X.env.scope.names).lookup x = some .cell ∨ (relNames scope.names X.env.scope.names).lookup x = some .free) := fun x z => by
    have e : (compCx X scope (own ++ rest) cl s2 H2 C fp).env.scope.names = relNames scope.names X.env.scope.names := relabel_names (sc := scope) I.ok.kind
    unfold Vis at z; rw [e] at z; exact z
  refine ⟨compCx_ok I S hc1 hc2 hC hf ho, rfl, I.bare, Un.kept old, ⟨_, ns, fun i x v e1 e2 e3 => ?_⟩, fun x c e => ?_, I.hok.fresh hC, fun x c e => I.freeC x c (hc1 x c e), fun p hp => absurd (show p ∈ ([] : List (Addr × Obj)) from hp) (by simp), I.hok.kept old, ?_⟩
  · have e1' : (own ++ rest)[i]? = some x := e1
    by_cases hi : i < own.length
    · rw [List.getElem?_append_left (by simpa using hi), List.getElem?_replicate] at e2
      split at e2 <;> cases e2
    · have hi' : own.length ≤ i := Nat.le_of_not_lt hi
      rw [List.getElem?_append_right (by simpa using hi'), List.length_replicate] at e2
      rw [List.getElem?_append_right hi'] at e1'
      obtain ⟨q1, q2, q3, q4⟩ := S.look _ x e1' (hv x e3)
      obtain ⟨u, r, l⟩ := hl (i - own.length) x v q1 e2 (q3.elim (fun z => .inr (.inl z)) fun z => .inr (.inr z))
      refine ⟨u, r, .inr ⟨?_, ?_⟩⟩
      · have e : (compCx X scope (own ++ rest) cl s2 H2 C fp).env.kindOf x = (relNames scope.names X.env.scope.names).lookup x := congrArg (List.lookup x) (relabel_names (sc := scope) I.ok.kind)
        rw [e]; exact q4
      · rcases l with ⟨k, _⟩ | ⟨_, c, e, z⟩
        · have k' : X.env.scope.names.lookup x = some .local := k
          rcases q3 with q3 | q3 <;> (rw [q3] at k'; cases k')
        · obtain ⟨c', e'⟩ := hc2 x q2
          have e2 := hc1 x c' e'
          rw [e] at e2; cases e2
          obtain ⟨o, q, d⟩ := z
          exact ⟨c, e', o, old c o q, d⟩
  · obtain ⟨v, o, q, d⟩ := I.cell x c (hc1 x c e)
    exact ⟨v, o, old c o q, d⟩
  · show _ = (own ++ rest).length
    have := I.len; have := S.len
    simp only [List.length_append, List.length_replicate]; omega
theorem comp_end {H' : Hp} {s' : Shared} {σ' : St} {D : Addr} {ys : List V} {its : List Value} {n : Nat} {pins' : List (Addr × Obj)} (I : Inv X pins σ H2 s2) (J : Inv (compCx X scope (own ++ rest) cl s2 H2 C fp) pins' σ' H' s') (hf : ∀ b ∈ fp, FpOk X pins H2 b)
    (hD : s2.heap.objs.size ≤ D) (hDn : H' D = none) (hDo : s'.heap.get? D = some { cls := .type "list", data := .seq its.toArray n }) (r : Vals ys its) (hz : ys.length ≤ sizeLine) :
    Inv X pins σ (upd H' D (.lst ys)) s' := by
  have u : Un (frs X.stack) fp H2 H' s2.heap s'.heap := J.base
  have nD : ∀ b o, s2.heap.get? b = some o → b ≠ D := fun b o e => Nat.ne_of_lt (Nat.lt_of_lt_of_le (Heap.lt_size e) hD)
  refine I.call' (ch := fp) J.os ⟨u.keep, u.slot, fun b o e n hx => ?_, u.there, fun b xs e => ?_, fun b o v e => ?_, fun b ps e => ?_⟩ (fun b o e => ?_) J.bare fun b hb => ?_
  · rw [upd_ne (nD b o e)]; exact u.free b o e n hx
  · rw [upd_ne (ne_of_none (u.tups b xs e) hDn)]; exact u.tups b xs e
  · rw [upd_ne (ne_of_none (u.frzs b o v e) hDn)]; exact u.frzs b o v e
  · obtain ⟨more, q⟩ := u.tbls b ps e
    exact ⟨more, by rw [upd_ne (ne_of_none q hDn)]; exact q⟩
  · by_cases hb : b = D
    · subst hb; rw [upd_same] at e; cases e; exact ⟨hz, its, n, r, hDo⟩
    · rw [upd_ne hb] at e
      exact (J.hok b o e).stay (fun c v _ q => q) (fun c q => by rw [upd_ne (ne_of_none q hDn)]; exact q) fun c xs q => by rw [upd_ne (ne_of_none q hDn)]; exact q
  · obtain ⟨_, f1, _, f3, f4, f5⟩ := hf b hb
    exact ⟨f3, f1, f4, f5⟩
end
end L2
set_option maxHeartbeats 4000000
namespace L2
open PySem PySem.Spec PyProof.Rows
noncomputable def PTs (X : Cx) (ifs : List Expr) (t : TT) : Prop :=
  ∀ (pins : List (Addr × Obj)) (s : Shared) (σ : St) (H : Hp) (Q : Bool → Hp → Prop), Inv X pins σ H s → t σ H Q → wpAny (model X.prog X.w) X.A (runIfs ifs X.env) (TP X pins σ Q) X.xe s
noncomputable def tYes : TT := fun _ H Q => Q true H
theorem pts_nil {X : Cx} : PTs X [] tYes := fun _ _ _ H _ I h => wpAny_tests_nil ⟨H, I, h⟩
noncomputable def CompW (J : It) (g : TG) (tt : TT) (te : TE) (fin : List V → Hp → Prop) (σ0 : St) (H1 : Hp) : Prop :=
  ∃ W : Nat → Nat → List V → St → Hp → Prop, (∃ m, W 0 m [] σ0 H1) ∧ ∀ i m ys σ H, W i m ys σ H →
    (J.stop i H ∧ fin ys H) ∨ (J.go i H ∧ ys.length < sizeLine ∧ ∃ N : List V → St → Hp → Prop, (∀ ys' σ' H', N ys' σ' H' → ∃ m', m' < m ∧ W (i + 1) m' ys' σ' H') ∧
      ∀ x H', J.yld i H x H' → g x σ H' fun σ2 H2 => tt σ2 H2 fun b H3 => if b = true then te σ2 H3 fun y H4 => N (ys ++ [y]) σ2 H4 else N ys σ2 H3)
section
variable {X : Cx} {pins : List (Addr × Obj)} {σ : St} {H2 : Hp} {s2 : Shared} {scope : Scope} {own rest : List Str} {cl : List (Str × Addr)} {fp : List Addr} {E : Value → Shared → Prop}
theorem comp_run {elt tg iter : Expr} {ifs : List Expr} {pos : Pos} {J : It} {it : Addr} {tn : Nat → Heap → Prop} {g : TG} {tt : TT} {te : TE} {fin : List V → Hp → Prop} {RR : Value → Addr → Result → Shared → Prop} {D : Nat} (hD : s2.heap.objs.size = D) (hcalm : X.calm = true)
    (I : Inv X pins σ H2 s2) (S : CompSc scope X.env.scope X.N rest) (hc1 : ∀ n c, cl.lookup n = some c → X.env.cells.lookup n = some c) (hc2 : ∀ n, (n, NameKind.free) ∈ scope.names → ∃ c, cl.lookup n = some c)
    (T : Turn X.prog X.w X.K tg J fp it tn) (st : tn 0 s2.heap) (hf : ∀ b ∈ fp, FpOk X pins H2 b)
    (hg : PG (compCx X scope (own ++ rest) cl s2 H2 (D + 1 : Nat) fp) tg g) (ht : PTs (compCx X scope (own ++ rest) cl s2 H2 (D + 1 : Nat) fp) ifs tt)
    (he : PE (compCx X scope (own ++ rest) cl s2 H2 (D + 1 : Nat) fp) elt te)
    (hw : CompW J g tt te fin (List.replicate own.length none ++ σ) H2)
    (hR : ∀ (s' : Shared) (H' : Hp) (ys : List V), Inv X pins σ (upd H' D (.lst ys)) s' → (∃ m, s'.heap.Ns (D + 1 : Nat) m) → H' D = none → H' (D + 1 : Nat) = none → fin ys H' → RR (.ref D) (D + 1 : Nat) (.ok .next) s') :
    wpAny (model X.prog X.w) X.A (newList []) (fun acc s3 => wpAny (model X.prog X.w) X.A (newFunctionEnv scope X.env.globals cl [] X.env.qual none .none (some X.env)) (fun cenv s4 =>
      codeAny (model X.prog X.w) X.A (.compStart (.ListComp elt [⟨tg, iter, ifs, 0⟩] scope pos) 0 (.ref it) acc { cenv with scope := relabel scope X.env }) (RR acc cenv.locals) s4) E s3) E s2 := by
  refine wpAny_newObj_type (wpAny_newFunctionEnv S.cell (by intro y hy; simp at hy) (fun h1 hns hsb => ?_) S.kind)
  dsimp only at hns hsb ⊢
  generalize hHp : s2.heap.push { cls := .type "list", dict := none, data := .seq ([] : List Value).toArray } = Hp2 at hns hsb ⊢
  have hC : Hp2.objs.size = s2.heap.objs.size + 1 := by rw [← hHp, Heap.size_push]
  rw [hD] at hC
  rw [hC] at hns hsb ⊢
  rw [hD]
  have nDC : D ≠ D + 1 := Nat.ne_of_lt (Nat.lt_succ_self _)
  have below : ∀ b o, s2.heap.get? b = some o → b < D := fun b o e => by rw [← hD]; exact Heap.lt_size e
  have old : ∀ b o, s2.heap.get? b = some o → h1.get? b = some o := fun b o e => by
    exact hsb.extBut b o (Nat.ne_of_lt (Nat.lt_succ_of_lt (below b o e))) (Heap.get?_push_of_some _ (hHp ▸ Heap.get?_push_of_some _ e))
  have hDo : h1.get? D = some { cls := .type "list", data := .seq ([] : List Value).toArray 0 } :=
    hsb.extBut _ _ nDC (Heap.get?_push_of_some _ (by rw [← hHp, ← hD]; exact Heap.get?_push_size _ rfl))
  have hfo : ∀ b ∈ fp, ∃ o, s2.heap.get? b = some o := fun b hb => let ⟨o, e, _⟩ := T.obj 0 _ st b hb; ⟨o, e⟩
  have st1 : tn 0 h1 := T.keep _ _ _ st fun b hb o e => old b o e
  have J0 : Inv (compCx X scope (own ++ rest) cl s2 H2 (D + 1 : Nat) fp) [] (List.replicate own.length none ++ σ) H2 { s2 with heap := h1, toks := s2.toks } :=
    comp_start I S hc1 hc2 (by omega) hf hfo old hns
  have nfs : D ∉ (compCx X scope (own ++ rest) cl s2 H2 (D + 1 : Nat) fp).fs := fun z => by
    have z' : D ∈ frs X.stack := z
    rcases List.mem_cons.mp (I.stkSub D z') with q | q
    · exact Nat.lt_irrefl D (by have h := I.lt; rw [← q, hD] at h; exact h)
    · exact I.nofs (Nat.le_of_eq hD) q
  have ncl : ∀ x c, (compCx X scope (own ++ rest) cl s2 H2 (D + 1 : Nat) fp).env.cells.lookup x = some c → c ≠ D := fun x c e z => by
    obtain ⟨v, o, q, d⟩ := I.cell x c (hc1 x c e)
    exact Nat.ne_of_lt (below c o q) z
  have loop : ∀ s3 : Shared, s3 = { s2 with heap := h1, toks := s2.toks } →
      codeAny (model X.prog X.w) X.A (.compLoop (.ListComp elt [⟨tg, iter, ifs, 0⟩] scope pos) 0 (.ref it) (.ref D) (compEnvC scope cl (D + 1) X.env)) (RR (.ref D) (D + 1)) s3 := by
    rintro s3 rfl
    obtain ⟨W, ⟨m0, w0⟩, turn⟩ := hw
    refine comp_loop (fun m s' => ∃ (i : Nat) (ys : List V) (its : List Value) (n : Nat) (σ' : St) (H' : Hp), Inv (compCx X scope (own ++ rest) cl s2 H2 (D + 1 : Nat) fp) [] σ' H' s' ∧ tn i s'.heap ∧ (∀ b ∈ fp, H' b = none) ∧
      s'.heap.get? D = some { cls := .type "list", data := .seq its.toArray n } ∧ H' D = none ∧ Vals ys its ∧ ys.length ≤ sizeLine ∧ W i m ys σ' H') ?_ m0
      ⟨0, [], [], 0, _, H2, J0, st1, fun b hb => (hf b hb).1, hDo, by rw [← hD]; exact I.fresh, .nil, by simp, w0⟩
    rintro m s3 ⟨i, ys, its, n, σ3, H3, J3, st3, fr3, ho3, hn3, r3, z3, w3⟩
    have pin : ∀ {σ' : St} {H' : Hp} {s' : Shared}, Inv (compCx X scope (own ++ rest) cl s2 H2 (D + 1 : Nat) fp) [] σ' H' s' → s'.heap.get? D = some { cls := .type "list", data := .seq its.toArray n } → H' D = none →
        Inv (compCx X scope (own ++ rest) cl s2 H2 (D + 1 : Nat) fp) [(D, { cls := .type "list", data := .seq its.toArray n })] σ' H' s' := fun {σ' H' s'} K1 K2 K3 =>
      K1.pins_of fun p hp => by
        have e : p = (D, { cls := .type "list", data := .seq its.toArray n }) := by simpa using hp
        subst e
        exact ⟨K2, K3, nDC, nfs, fun v z => nomatch z⟩
    have fpk : ∀ {H' : Hp}, (∀ b ∈ fp, H' b = none) → ∀ b ∈ fp, FpOk (compCx X scope (own ++ rest) cl s2 H2 (D + 1 : Nat) fp) [(D, { cls := .type "list", data := .seq its.toArray n })] H' b := fun {H'} fr b hb => by
      obtain ⟨o, e⟩ := hfo b hb
      have lt := below b o e
      refine ⟨fr b hb, Nat.ne_of_lt (Nat.lt_succ_of_lt lt), ?_, .inl hb, fun x c q => (hf b hb).2.2.2.2.1 x c (hc1 x c q), fun p hp => ?_⟩
      · intro z
        have z' : b ∈ frs X.stack := z
        rcases List.mem_cons.mp (I.stkSub b z') with q | q
        · exact (hf b hb).2.1 q
        · exact (hf b hb).2.2.1 q
      · have e : p = (D, { cls := .type "list", data := .seq its.toArray n }) := by
          have hp' : p ∈ [(D, ({ cls := .type "list", data := .seq its.toArray n } : Obj))] := hp
          simpa using hp'
        subst e
        exact Nat.ne_of_gt lt
    have J3p := pin J3 ho3 hn3
    rcases turn i m ys σ3 H3 w3 with ⟨stop, q⟩ | ⟨go, hlt, N, hN, step⟩
    · refine thn (T.done (compCx X scope (own ++ rest) cl s2 H2 (D + 1 : Nat) fp) rfl rfl rfl hcalm i _ s3 σ3 H3 _ J3p (fpk fr3) st3 stop) fun r s4 ⟨hr, J4⟩ => ?_
      subst hr
      have ho4 := J4.pin _ (List.mem_append_right _ List.mem_cons_self)
      refine hR s4 H3 ys (comp_end I J4 hf (by omega) hn3 ho4.1 r3 z3) ?_ hn3 J4.free q
      obtain ⟨mm, hmm, _⟩ := J4.loc
      exact ⟨mm, hmm⟩
    · refine thn (T.item (compCx X scope (own ++ rest) cl s2 H2 (D + 1 : Nat) fp) rfl rfl rfl hcalm i _ s3 σ3 H3 _ J3p (fpk fr3) st3 go) fun r s4 ⟨u, hr, h4⟩ => ?_
      subst hr
      refine thn h4 fun _ s5 ⟨x, H5, J5, r5, y5, st5, fr5⟩ => ?_
      have J5' := J5.pinned (fpk fr5) (T.obj _ _ st5)
      refine thn (hg _ s5 σ3 H5 x u _ J5' r5 (step x H5 y5)) fun _ s6 ⟨σ6, H6, J6, q6⟩ => ?_
      refine thn (ht _ s6 σ6 H6 _ J6 q6) fun b s7 ⟨H7, J7, q7⟩ => ?_
      have stay : ∀ {σ' : St} {H' : Hp} {s' : Shared}, Inv (compCx X scope (own ++ rest) cl s2 H2 (D + 1 : Nat) fp) ([(D, { cls := .type "list", data := .seq its.toArray n })] ++ pinsAt fp s5.heap) σ' H' s' →
          Inv (compCx X scope (own ++ rest) cl s2 H2 (D + 1 : Nat) fp) [] σ' H' s' ∧ tn (i + 1) s'.heap ∧ (∀ b ∈ fp, H' b = none) ∧ s'.heap.get? D = some { cls := .type "list", data := .seq its.toArray n } ∧ H' D = none := fun {σ' H' s'} K1 => by
        refine ⟨K1.pins_of fun p hp => absurd hp (by simp), T.keep _ _ _ st5 fun b hb o e => (K1.pin (b, o) (List.mem_append_right _ (List.mem_append_right _ (mem_pinsAt hb e)))).1, fun b hb => ?_, ?_, ?_⟩
        · obtain ⟨o, e, d⟩ := T.obj _ _ st5 b hb
          exact (K1.pin (b, o) (List.mem_append_right _ (List.mem_append_right _ (mem_pinsAt hb e)))).2.1
        · exact (K1.pin (D, _) (List.mem_append_right _ (List.mem_append_left _ List.mem_cons_self))).1
        · exact (K1.pin (D, _) (List.mem_append_right _ (List.mem_append_left _ List.mem_cons_self))).2.1
      cases b with
      | false =>
        rw [if_neg Bool.false_ne_true] at q7 ⊢
        obtain ⟨k1, k2, k3, k4, k5⟩ := stay J7
        obtain ⟨m', hm, w'⟩ := hN _ _ _ q7
        exact ⟨m', hm, i + 1, ys, its, n, σ6, H7, k1, k2, k3, k4, k5, r3, z3, w'⟩
      | true =>
        rw [if_pos rfl] at q7 ⊢
        refine thn (he _ s7 σ6 H7 _ J7 q7) fun xv s8 ⟨y, H8, J8, r8, q8⟩ => ?_
        obtain ⟨k1, k2, k3, k4, k5⟩ := stay J8
        refine call_meets F.slot_list_append ⟨_, k4, rfl⟩ F.entry_list_append (F.args_list_append_2 _ _) (PySem.list_append D its.toArray n xv (by rw [List.size_toArray, ← r3.length]; omega)) ⟨k4, ?_⟩
        obtain ⟨m', hm, w'⟩ := hN _ _ _ q8
        have ho9 := PySem.IsL.update k4 (fun a => a.push xv)
        have ek : ∀ b o, b ≠ D → s8.heap.get? b = some o → (s8.heap.update D (Obj.mapSeq (fun a => a.push xv))).get? b = some o := fun b o hb e => (Heap.get?_update_other s8.heap (Obj.mapSeq _) (Ne.symm hb)).trans e
        refine ⟨m', hm, i + 1, ys ++ [y], its ++ [xv], (if ((its.toArray.push xv).size == its.toArray.size) = true then n else n + 1), σ6, H8, k1.turned (it := D) (t' := s8.toks) ek k5 nDC (.inr (show s2.heap.objs.size ≤ D by omega)) ncl (fun p hp => absurd (show p ∈ ([] : List (Addr × Obj)) from hp) (by simp)), ?_, k3, ?_, k5, r3.append (.cons r8 .nil), ?_, w'⟩
        · refine T.keep _ _ _ k2 fun b hb o e => ek b o ?_ e
          obtain ⟨o', e'⟩ := hfo b hb
          exact Nat.ne_of_lt (below b o' e')
        · have e2 : its.toArray.push xv = (its ++ [xv]).toArray := by simp
          rw [← e2]; exact ho9
        · simp only [List.length_append, List.length_cons, List.length_nil]; omega
  exact codeAny_compStart_list (loop _ rfl) (T.self X.A 0 _ _ _ st1 (loop _ rfl))
end
end L2
set_option maxHeartbeats 4000000
namespace L2
open PySem PySem.Spec PyProof.Rows
noncomputable def tComp (k : Nat) (wi : TI) (g : TG) (tt : TT) (te : TE) : TE := fun σ H Q => wi σ H fun J H1 => CompW J g tt te (fun ys H' => ∀ D, H' D = none → Q (.ref D) (upd H' D (.lst ys))) (List.replicate k none ++ σ) H1
section
variable {X : Cx} {elt tg iter : Expr} {ifs : List Expr} {scope : Scope} {pos : Pos} {wi : TI} {g : TG} {tt : TT} {te : TE}
theorem Inv.closed {pins : List (Addr × Obj)} {σ : St} {H : Hp} {s : Shared} {N rest : List Str} (I : Inv X pins σ H s) (S : CompSc scope X.env.scope N rest) :
    ∃ cl, closureFor scope X.env = pure cl ∧ (∀ n c, cl.lookup n = some c → X.env.cells.lookup n = some c) ∧ (∀ n, (n, NameKind.free) ∈ scope.names → ∃ c, cl.lookup n = some c) :=
  closure_of fun n z => I.ok.has n (S.free n z)
theorem Inv.letgo {pins pins' : List (Addr × Obj)} {σ σ' : St} {H H' : Hp} {s s' : Shared} {b : Addr} {h' : Heap} (I : Inv X pins σ H s) (J : Inv X pins σ' H' s') (hb : s.heap.objs.size ≤ b) (hn : H' b = none) (sb : Heap.SameBut b s'.heap h') : Inv X pins σ' H' { s' with heap := h' } := by
  obtain ⟨f0, f1, f2, f3, f4, f5⟩ := I.fpOk hb hn
  exact J.turned (t' := s'.toks) (fun c o hc e => (sb.2 c hc).trans e) f0 f1 f3 f4 f5
theorem pe_comp (own rest : List Str) (hcalm : X.calm = true) (S : CompSc scope X.env.scope X.N rest) (hi : PI X tg iter wi)
    (hg : ∀ cl s2 H2 C fp, PG (compCx X scope (own ++ rest) cl s2 H2 C fp) tg g) (ht : ∀ cl s2 H2 C fp, PTs (compCx X scope (own ++ rest) cl s2 H2 C fp) ifs tt) (he : ∀ cl s2 H2 C fp, PE (compCx X scope (own ++ rest) cl s2 H2 C fp) elt te)
    (hs : ∀ x, foldedSetIterable iter X.env x = pure x := by intro _; rfl) : PE X (.ListComp elt [⟨tg, iter, ifs, 0⟩] scope pos) (tComp own.length wi g tt te) := by
  intro pins s σ H Q I h
  obtain ⟨cl, hcl, hc1, hc2⟩ := I.closed S
  rw [eval_ListComp]
  refine wpAny_comprehension_free (use := none) rfl hs hcl S.kind S.loc (thn (hi pins s σ H _ I h) fun v s1 h1 => thn h1 fun itv s2 h2 => ?_)
  obtain ⟨it, fp, tn, J, H2, e, I2, T, st, hf, hw⟩ := h2
  subst e
  refine comp_run (RR := fun acc C => compPost (model X.prog X.w) X.A X.xe none (EP X pins σ Q) acc C) (D := s2.heap.objs.size) rfl hcalm I2 S hc1 hc2 T st hf (hg _ _ _ _ _) (ht _ _ _ _ _) (he _ _ _ _ _) hw ?_
  intro s' H' ys J' ⟨m, hm⟩ hD hC q
  refine ⟨m, hm, fun h' sb => ⟨.ref s2.heap.objs.size, _, I2.letgo (pins' := pins) (b := (s2.heap.objs.size + 1 : Nat)) J' (Nat.le_succ _) ?_ sb, rfl, q _ hD⟩⟩
  rw [upd_ne (Nat.ne_of_gt (Nat.lt_succ_self _))]; exact hC
end
structure Walk (J : It) (xs : List V) (ok : Hp → Prop) : Prop where
  go : ∀ i H, ok H → i < xs.length → J.go i H
  yld : ∀ i H x H', ok H → i < xs.length → J.yld i H x H' → H' = H ∧ xs[i]? = some x
  stop : ∀ H, ok H → J.stop xs.length H
theorem walk_list {K : PySem.W.Frag} {a : Addr} {xs : List V} : Walk (Itl K a) xs (fun H => SqL K H a xs) where
  go := fun i H q hi => ⟨xs, xs[i], q, by simp [hi]⟩
  yld := fun i H x H' q _ y => ⟨y.1, y.2 xs q⟩
  stop := fun H q => ⟨xs, q, Nat.le_refl _⟩
theorem walk_tup {K : PySem.W.Frag} {a : Addr} {xs : List V} : Walk (Itt K a) xs (fun H => SqT K H a xs) where
  go := fun i H q hi => ⟨xs, xs[i], q, by simp [hi]⟩
  yld := fun i H x H' q _ y => ⟨y.1, y.2 xs q⟩
  stop := fun H q => ⟨xs, q, Nat.le_refl _⟩
noncomputable def rangeV (lo : Int) (n : Nat) : List V := (List.range n).map fun (i : Nat) => V.int (lo + i)
theorem rangeV_len (lo : Int) (n : Nat) : (rangeV lo n).length = n := by simp [rangeV]
theorem rangeV_get {lo : Int} {n i : Nat} (h : i < n) : (rangeV lo n)[i]? = some (.int (lo + i)) := by simp [rangeV, h]
theorem walk_range {lo : Int} {n : Nat} : Walk (Itr lo n) (rangeV lo n) (fun _ => True) where
  go := fun i H _ hi => by rw [rangeV_len] at hi; exact hi
  yld := fun i H x H' _ hi y => ⟨y.1, by rw [rangeV_len] at hi; rw [rangeV_get hi, y.2]⟩
  stop := fun H _ => Nat.le_of_eq (rangeV_len lo n).symm
theorem for_walk {J : It} {xs : List V} {ok : Hp → Prop} (w : Walk J xs ok) {g : TG} {tb : TS} {D : Ends} {σ : St} {H : Hp} (Pv : Nat → St → Hp → Prop) (h0 : Pv 0 σ H) (hl : ∀ i σ H, i ≤ xs.length → Pv i σ H → ok H)
    (hs : ∀ i x σ H, xs[i]? = some x → Pv i σ H → g x σ H fun σ2 H2 => tb { D with nx := Pv (i + 1), ct := Pv (i + 1), bk := D.nx } σ2 H2) (hd : ∀ σ H, Pv xs.length σ H → D.nx σ H) :
    ∃ W : Nat → Nat → St → Hp → Prop, (∃ m, W 0 m σ H) ∧ ∀ i m σ H, W i m σ H →
      (J.stop i H ∧ D.nx σ H) ∨ (J.go i H ∧ ∃ N : St → Hp → Prop, (∀ σ' H', N σ' H' → ∃ m', m' < m ∧ W (i + 1) m' σ' H') ∧ ∀ x H', J.yld i H x H' → g x σ H' fun σ2 H2 => tb { D with nx := N, ct := N, bk := D.nx } σ2 H2) := by
  refine ⟨fun i m σ H => m = xs.length - i ∧ i ≤ xs.length ∧ Pv i σ H, ⟨xs.length, by simp, Nat.zero_le _, h0⟩, ?_⟩
  rintro i m σ H ⟨rfl, hi, p⟩
  have q := hl i σ H hi p
  by_cases hlt : i < xs.length
  · refine .inr ⟨w.go i H q hlt, Pv (i + 1), fun σ' H' p' => ⟨xs.length - (i + 1), by omega, rfl, hlt, p'⟩, fun x H' y => ?_⟩
    obtain ⟨e, y'⟩ := w.yld i H x H' q hlt y
    subst e
    exact hs i x σ _ y' p
  · have e : i = xs.length := by omega
    subst e
    exact .inl ⟨w.stop H q, hd σ H p⟩
theorem comp_walk {J : It} {xs : List V} {ok : Hp → Prop} (w : Walk J xs ok) {tt : TT} {te : TE} {fin : List V → Hp → Prop} {σ : St} {H : Hp} (hz : xs.length ≤ sizeLine) (Pv : Nat → List V → Hp → Prop) (h0 : Pv 0 [] H) (hl : ∀ i ys H, i ≤ xs.length → Pv i ys H → ok H)
    (hlen : ∀ i ys H, Pv i ys H → ys.length ≤ i)
    (hs : ∀ i x ys H, xs[i]? = some x → Pv i ys H → tt (some x :: σ) H fun b H3 => if b = true then te (some x :: σ) H3 fun y H4 => (∃ o, some x :: σ = o :: σ) ∧ Pv (i + 1) (ys ++ [y]) H4 else (∃ o, some x :: σ = o :: σ) ∧ Pv (i + 1) ys H3) (hd : ∀ ys H, Pv xs.length ys H → fin ys H) :
    CompW J (gName 0) tt te fin (List.replicate 1 none ++ σ) H := by
  refine ⟨fun i m ys σ' H => m = xs.length - i ∧ i ≤ xs.length ∧ (∃ o, σ' = o :: σ) ∧ Pv i ys H, ⟨xs.length, by simp, Nat.zero_le _, ⟨none, rfl⟩, h0⟩, ?_⟩
  rintro i m ys σ' H ⟨rfl, hi, ⟨o, rfl⟩, p⟩
  have hy := hlen i ys H p
  have q := hl i ys H hi p
  by_cases hlt : i < xs.length
  · refine .inr ⟨w.go i H q hlt, by omega, fun ys' σ' H' => (∃ o, σ' = o :: σ) ∧ Pv (i + 1) ys' H', fun ys' σ' H' p' => ⟨xs.length - (i + 1), by omega, rfl, hlt, p'⟩, fun x H' y => ?_⟩
    obtain ⟨e, y'⟩ := w.yld i H x H' q hlt y
    subst e
    exact hs i x ys _ y' p
  · have e : i = xs.length := by omega
    subst e
    exact .inl ⟨w.stop H q, hd ys H p⟩
end L2
set_option maxHeartbeats 4000000
namespace L2
open PySem PySem.Spec PyProof.Rows
noncomputable def sgn (c : Nat) : V := .str ⟨#[c]⟩
noncomputable def Its (z : Str) : It := ⟨fun i _ => i < z.cps.size, fun i H x H' => H' = H ∧ ∃ c, z.cps[i]? = some c ∧ x = sgn c, fun i _ => i = z.cps.size⟩
theorem turn_signs {P : Program} {w : World} {K : PySem.W.Frag} {tg : Expr} {it : Addr} {T : String} {z : Str} {t : Tok} (hT : ["enumerate", "zip", "dict_itemiterator", "dict_reverseitemiterator", "odict_iterator", "itertools.zip_longest", "itertools.pairwise"].contains T = false)
    (W : ∀ A : Around, A.handled = none → Walks P w A it [it] [it] z.cps.size (SignAt z) (fun i h => h.IsStrIter it T z t i)) (S : ∀ (A : Around) (i : Nat) (s : Shared) (Q : Value → Shared → Prop) (E : Value → Shared → Prop), s.heap.IsStrIter it T z t i → Q (.ref it) s → wpAny (model P w) A (pyIter (.ref it)) Q E s) :
    Turn P w K tg (Its z) [it] it (fun i h => h.IsStrIter it T z t i) where
  mem := by simp
  obj := fun i h st b hb => by
    have e : b = it := by simpa using hb
    subst e
    obtain ⟨o, e, c, d⟩ := st
    exact ⟨o, e, fun v z => by rw [d] at z; cases z⟩
  keep := fun i h h' st k => by obtain ⟨o, e, r⟩ := st; exact ⟨o, k it (by simp) o e, r⟩
  item := by
    intro X hP hw hK hc i pins s σ H E I hf st hg
    subst hP hw hK
    obtain ⟨f0, f1, f2, f3, f4, f5⟩ := hf it (by simp)
    refine (W X.A (I.ok.hd hc)).item i s _ E hg st fun v h' tk hP st' k => ?_
    obtain ⟨c, u, hcu, rfl⟩ := hP
    have I1 : Inv X pins σ H { s with heap := h', toks := tk } := I.turned (t' := tk) (fun b o hb e => k b o (by simpa using hb) e) f0 f1 f3 f4 f5
    obtain ⟨o, e, c', d⟩ := id st'
    exact ⟨_, rfl, go_of (s := { s with heap := h', toks := tk }) e c' d hT ⟨sgn c, H, I1, ⟨u, rfl⟩, ⟨rfl, c, hcu, rfl⟩, st', fun b hb => (hf b hb).1⟩⟩
  done := by
    intro X hP hw hK hc i pins s σ H E I hf st hg
    subst hP hw hK
    obtain ⟨f0, f1, f2, f3, f4, f5⟩ := hf it (by simp)
    have hg' : i = z.cps.size := hg
    subst hg'
    exact (W X.A (I.ok.hd hc)).done s _ E st fun h' tk k => ⟨rfl, I.turned (t' := tk) (fun b o hb e => k b o (by simpa using hb) e) f0 f1 f3 f4 f5⟩
  self := fun A i s Q E st h => S A i s Q E st h
section
variable {X : Cx} {tg : Expr}
noncomputable def iStr (tl : TE) : TI := fun σ H R => tl σ H fun x H1 => ∃ z, x = .str z ∧ R (Its z) H1
theorem pi_str {l : Expr} {tl : TE} (hl : PE X l tl) : PI X tg l (iStr tl) := by
  intro pins s σ H R I h
  refine thn (hl pins s σ H _ I h) fun v s1 ⟨x, H1, I1, r1, q1⟩ => ?_
  obtain ⟨z, e, q⟩ := q1
  subst e
  obtain ⟨t, rfl⟩ := r1
  have fp : ∀ (o : Obj), ∀ b ∈ [s1.heap.objs.size], FpOk X pins H1 b := fun o b hb => by
    have e : b = s1.heap.objs.size := by simpa using hb
    subst e
    exact I1.fpOk (Nat.le_refl _) (I1.hok.fresh (Nat.le_refl _))
  cases ha : z.cps.all (· < 128)
  · refine wpAny_pyIter_wide ha ?_
    exact ⟨s1.heap.objs.size, [s1.heap.objs.size], _, _, H1, rfl, I1.kept (t' := s1.toks) fun b o e => Heap.get?_push_of_some _ e,
      turn_signs (by decide) (fun A hA => Walks.strWide hA _ z t) (fun _ _ _ _ _ st h => wpAny_pyIter_striter_wide st h), ⟨_, Heap.get?_push_size _ rfl, rfl, rfl⟩, fp default, q⟩
  · refine wpAny_pyIter_ascii ha ?_
    exact ⟨s1.heap.objs.size, [s1.heap.objs.size], _, _, H1, rfl, I1.kept (t' := s1.toks) fun b o e => Heap.get?_push_of_some _ e,
      turn_signs (by decide) (fun A hA => Walks.strAscii hA _ z t) (fun _ _ _ _ _ st h => wpAny_pyIter_striter_ascii st h), ⟨_, Heap.get?_push_size _ rfl, rfl, rfl⟩, fp default, q⟩
end
noncomputable def signsV (z : Str) : List V := z.cps.toList.map sgn
theorem signsV_len (z : Str) : (signsV z).length = z.length := by simp [signsV, Str.length]
mutual
noncomputable def Rep (K : PySem.W.Frag) (H : Hp) : PyData → V → Prop
  | .none, v => v = .non
  | .bool b, v => v = .bl b
  | .int i, v => v = .int i
  | .str x, v => v = .str x
  | .list ds, v => ∃ a xs, v = .ref a ∧ SqL K H a xs ∧ Reps K H ds xs
  | .tuple ds, v => ∃ a xs, v = .ref a ∧ SqT K H a xs ∧ Reps K H ds xs
  | .dict _, _ => False
noncomputable def Reps (K : PySem.W.Frag) (H : Hp) : List PyData → List V → Prop
  | [], vs => vs = []
  | d :: ds, vs => ∃ v r, vs = v :: r ∧ Rep K H d v ∧ Reps K H ds r
end
section
variable {X : Cx} {pins : List (Addr × Obj)} {σ : St} {H : Hp} {s : Shared}
mutual
theorem Rep.reads (I : Inv X pins σ H s) : ∀ (d : PyData) (v : V) (u : Value), Rep X.K H d v → RelV v u → ∃ as, Reads s.heap u d as
  | .none, v, u, h, r => by
    have e : v = .non := by simpa [Rep] using h
    subst e; cases r; exact ⟨_, .none⟩
  | .bool b, v, u, h, r => by
    have e : v = .bl b := by simpa [Rep] using h
    subst e; cases r; exact ⟨_, .bool b⟩
  | .int i, v, u, h, r => by
    have e : v = .int i := by simpa [Rep] using h
    subst e; obtain ⟨t, rfl⟩ := r; exact ⟨_, .int i t⟩
  | .str x, v, u, h, r => by
    have e : v = .str x := by simpa [Rep] using h
    subst e; obtain ⟨t, rfl⟩ := r; exact ⟨_, .str x t⟩
  | .list ds, v, u, h, r => by
    obtain ⟨a, xs, rfl, hs, hr⟩ : ∃ a xs, v = .ref a ∧ SqL X.K H a xs ∧ Reps X.K H ds xs := by simpa only [Rep] using h
    cases r
    obtain ⟨its, rv, p, hz⟩ := I.list hs
    obtain ⟨o, ho, hc, n, hd⟩ := p.isList
    obtain ⟨as, q⟩ := Reps.reads I ds xs its hr rv
    exact ⟨_, .list ho hc hd (by simpa using q)⟩
  | .tuple ds, v, u, h, r => by
    obtain ⟨a, xs, rfl, hs, hr⟩ : ∃ a xs, v = .ref a ∧ SqT X.K H a xs ∧ Reps X.K H ds xs := by simpa only [Rep] using h
    cases r
    obtain ⟨its, rv, p, hz⟩ := I.tuple hs
    obtain ⟨o, ho, hc, n, hd⟩ := p
    obtain ⟨as, q⟩ := Reps.reads I ds xs its hr rv
    exact ⟨_, .tuple ho hc hd (by simpa using q)⟩
  | .dict _, v, u, h, r => by simp [Rep] at h
theorem Reps.reads (I : Inv X pins σ H s) : ∀ (ds : List PyData) (vs : List V) (us : List Value), Reps X.K H ds vs → Vals vs us → ∃ as, ReadsAll s.heap us ds as
  | [], vs, us, h, r => by
    have e : vs = [] := by simpa [Reps] using h
    subst e; cases r; exact ⟨_, .nil⟩
  | d :: ds, vs, us, h, r => by
    obtain ⟨v, q, rfl, h1, h2⟩ : ∃ v r, vs = v :: r ∧ Rep X.K H d v ∧ Reps X.K H ds r := by simpa only [Reps] using h
    cases r with
    | cons r1 r2 =>
      obtain ⟨as, q1⟩ := Rep.reads I d v _ h1 r1
      obtain ⟨bs, q2⟩ := Reps.reads I ds q _ h2 r2
      exact ⟨_, .cons q1 q2⟩
end
end
section
variable {X : Cx}
noncomputable def rEqD (K : PySem.W.Frag) (neg : Bool) : R2 := fun x y H Q => ∃ d e, Rep K H d x ∧ Rep K H e y ∧ SeqAt.shaped d = true ∧ SeqAt.shaped e = true ∧ Q (.bl (if neg then !PyData.eqv d e else PyData.eqv d e)) H
theorem op_eqD (hu : X.A.units + 64 < cLine) : OpR X (compareOp .Eq) (rEqD X.K false) := by
  intro pins s σ H x y v u Q I rx ry h
  obtain ⟨d, e, h1, h2, h3, h4, q⟩ := h
  obtain ⟨as, q1⟩ := Rep.reads I d x v h1 rx
  obtain ⟨bs, q2⟩ := Rep.reads I e y u h2 ry
  exact eq_dataH q1 q2 h3 h4 hu (fin_bl I q rfl)
theorem op_neD (hu : X.A.units + 64 < cLine) : OpR X (compareOp .NotEq) (rEqD X.K true) := by
  intro pins s σ H x y v u Q I rx ry h
  obtain ⟨d, e, h1, h2, h3, h4, q⟩ := h
  obtain ⟨as, q1⟩ := Rep.reads I d x v h1 rx
  obtain ⟨bs, q2⟩ := Rep.reads I e y u h2 ry
  exact ne_dataH q1 q2 h3 h4 hu (fin_bl I q rfl)
noncomputable def rIsi (K : PySem.W.Frag) : List V → Hp → VK → Prop := fun xs H Q => ∃ x T t b, xs = [x, .ty T] ∧ TyOf K H x t ∧ PySem.W.kitOne K t (.type T) = some b ∧ Q (.bl b) H
theorem call_isi : CallR X (.builtin "isinstance") (rIsi X.K) := by
  intro pins s σ H xs us Q I r h
  obtain ⟨x, T, t, b, rfl, ty, e, q⟩ := h
  obtain ⟨u, c, rfl, ru, rc⟩ := vals2 r
  cases rc
  exact isinst_ok I ru ty e fun tk => ⟨.bl b, H, I.tok _, rfl, q⟩
theorem bools_of : ∀ {bs : List Bool} {us : List Value}, Vals (bs.map V.bl) us → LSm.BoolsAre us bs
  | [], _, .nil => .nil
  | _ :: _, _, .cons r t => by cases r; exact .cons _ (bools_of t)
noncomputable def rAll (K : PySem.W.Frag) (g : List Bool → Bool) : List V → Hp → VK → Prop := fun xs H Q => ∃ a bs, xs = [.ref a] ∧ SqL K H a (bs.map V.bl) ∧ Q (.bl (g bs)) H
theorem call_all (hc : X.calm = true) : CallR X (.builtin "all") (rAll X.K fun bs => bs.all id) := by
  intro pins s σ H xs us Q I r h
  obtain ⟨a, bs, rfl, hs, q⟩ := h
  obtain ⟨u, rfl, ru⟩ := vals1 r
  cases ru
  obtain ⟨its, rv, p, hz⟩ := I.list hs
  have hl := p.isList
  have hb := bools_of rv
  have hlt : a < s.heap.objs.size := by obtain ⟨_, e, _⟩ := hl; exact Heap.lt_size e
  refine call_all_walk (wpAny_pyIter_list hl ?_)
  refine ⟨s.heap.objs.size, [s.heap.objs.size, a], [s.heap.objs.size], its.toArray.size, _, _, fun i => (bs[i]?).getD true, rfl, Walks.list (A := X.A.in1) (I.ok.hd hc) _ a (Nat.ne_of_lt hlt) its.toArray,
    ⟨⟨_, Heap.get?_push_size _ rfl, rfl, rfl⟩, hl.push _⟩, fun i v s' Q' E' hP hQ => ?_, fun h' tk hk => ?_⟩
  · obtain ⟨b, e, rfl⟩ := hb.get i v (by simpa using hP)
    simp only [e, Option.getD_some] at hQ
    exact wpAny_truthy_bool hQ
  · have e : ((List.range its.toArray.size).all fun i => (bs[i]?).getD true) = bs.all id := by
      rw [List.size_toArray, hb.length]; exact LSm.range_all bs
    rw [e]
    exact ⟨.bl (bs.all id), H, I.kept (LSm.kept_iter hk), rfl, q⟩
end
end L2
set_option maxHeartbeats 4000000
namespace L2
open PySem PySem.Spec PyProof.Rows
section
variable {X : Cx}
structure DefOk (K : PySem.W.Frag) (mg : Str → Option Value) (x : Str) (st : Stmt) (ps : List Str) (f : Addr) (fd : FuncData) : Prop where
  F : Fun K x x st f fd
  b : Binds K fd ps []
  m : mg x = some (.ref f)
theorem pvl (i : Nat) {x : Str} {pos : Pos} (hN : X.N[i]? = some x := by rfl) (hv : X.env.scope.names.lookup x = some .local := by rfl) (hd : (x == ("__debug__" : Str)) = false := by decide) (hcd : (x == ("__classdict__" : Str)) = false := by decide) : PE X (.Name x pos) (tVar i) := pe_var hN (.inl hv) hd hcd
theorem pvc (i : Nat) {x : Str} {pos : Pos} (hN : X.N[i]? = some x := by rfl) (hv : X.env.scope.names.lookup x = some .cell := by rfl) (hd : (x == ("__debug__" : Str)) = false := by decide) (hcd : (x == ("__classdict__" : Str)) = false := by decide) : PE X (.Name x pos) (tVar i) := pe_var hN (.inr (.inl hv)) hd hcd
theorem pgl (i : Nat) {x : Str} {pos : Pos} (hN : X.N.Nodup) (hi : X.N[i]? = some x := by rfl) (hv : X.env.scope.names.lookup x = some .local := by rfl) : PG X (.Name x pos) (gName i) := pg_name hN hi (.inl hv) (.inr hv)
theorem psl (i : Nat) {x : Str} {pos pos' : Pos} {e : Expr} {te : TE} (hN : X.N.Nodup) (he : PE X e te) (hi : X.N[i]? = some x := by rfl) (hv : X.env.scope.names.lookup x = some .local := by rfl) (hs : swapsWith e (some (.Name x pos')) pos.line X.env = pure false := by rfl) :
    PS X (.Assign [.Name x pos'] e pos) (tAsg te (gName i)) := ps_set hN hi (.inl hv) he hs (.inr hv)
theorem psc (i : Nat) {x : Str} {pos pos' : Pos} {e : Expr} {te : TE} (hN : X.N.Nodup) (he : PE X e te) (hi : X.N[i]? = some x := by rfl) (hv : X.env.scope.names.lookup x = some .cell := by rfl) (hs : swapsWith e (some (.Name x pos')) pos.line X.env = pure false := by rfl) (hf : X.fn x = true := by rfl) :
    PS X (.Assign [.Name x pos'] e pos) (tAsg te (gName i)) := ps_set hN hi (.inr hv) he hs (.inl hf)
theorem pgi {x : Str} {i : Int} {pos : Pos} (hm : ∃ tk, X.mg x = some (.int i tk)) (hg : Gl X x := by rfl) (hd : (x == ("__debug__" : Str)) = false := by decide) : PE X (.Name x pos) (tC (.int i)) := let ⟨t, e⟩ := hm; pe_glob hg e ⟨t, rfl⟩ hd
theorem pgs {x : Str} {z : Str} {pos : Pos} (hm : ∃ tk, X.mg x = some (.str z tk)) (hg : Gl X x := by rfl) (hd : (x == ("__debug__" : Str)) = false := by decide) : PE X (.Name x pos) (tC (.str z)) := let ⟨t, e⟩ := hm; pe_glob hg e ⟨t, rfl⟩ hd
theorem pty {x : Str} {T : String} {pos : Pos} (hm : X.mg x = none) (hv : bootBuiltins x = some (.type T)) (hg : Gl X x := by rfl) (hn : x ≠ "__name__" := by decide) (hd : (x == ("__debug__" : Str)) = false := by decide) : PE X (.Name x pos) (tC (.ty T)) := pe_bltn hg hm hv rfl hn hd
end
theorem Same.new {H H' : Hp} (e : Same H H') {p : Addr} (h : H' p = none) (o : HO) : Same H (upd H' p o) := fun b q z => by
  rw [upd_ne (ne_of_none (e b q z) h)]; exact e b q z
theorem Same.upd_new {H : Hp} {p : Addr} (h : H p = none) (o : HO) : Same H (upd H p o) := (Same.refl H).new h o
theorem Same.set {H H' : Hp} (e : Same H H') {p : Addr} (h : H p = none) (o : HO) : Same H (upd H' p o) := fun b q z => by
  rw [upd_ne (ne_of_none z h)]; exact e b q z
theorem Same.seqT {K : PySem.W.Frag} {H H' : Hp} {a : Addr} {xs : List V} (e : Same H H') (h : SqT K H a xs) : SqT K H' a xs := by
  rcases h with (h | ⟨o, h⟩) | h
  · exact .inl (.inl (e _ _ h))
  · exact .inl (.inr ⟨o, e _ _ h⟩)
  · exact .inr h
end L2
set_option maxHeartbeats 4000000
namespace L2
open PySem PySem.Spec PyProof.Rows
theorem bt_len : bootBuiltins "len" = some (.builtin "len") := by decide +kernel
theorem bt_all : bootBuiltins "all" = some (.builtin "all") := by decide +kernel
theorem bt_abs : bootBuiltins "abs" = some (.builtin "abs") := by decide +kernel
theorem bt_min : bootBuiltins "min" = some (.builtin "min") := by decide +kernel
theorem bt_sorted : bootBuiltins "sorted" = some (.builtin "sorted") := by decide +kernel
theorem bt_isinstance : bootBuiltins "isinstance" = some (.builtin "isinstance") := by decide +kernel
theorem bt_int : bootBuiltins "int" = some (.type "int") := by decide +kernel
theorem bt_str : bootBuiltins "str" = some (.type "str") := by decide +kernel
theorem bt_bool : bootBuiltins "bool" = some (.type "bool") := by decide +kernel
theorem bt_list : bootBuiltins "list" = some (.type "list") := by decide +kernel
theorem bt_tuple : bootBuiltins "tuple" = some (.type "tuple") := by decide +kernel
theorem small_line {n : Nat} (h : n ≤ 1000000) : n ≤ sizeLine := by rw [sizeLine_eq]; omega
theorem walk_str {z : Str} : Walk (Its z) (signsV z) (fun _ => True) where
  go := fun i H _ hi => by rw [signsV_len] at hi; exact hi
  yld := fun i H x H' _ hi y => by
    obtain ⟨e, c, hc, hx⟩ := y
    refine ⟨e, ?_⟩
    rw [hx, signsV, List.getElem?_map]
    have : z.cps.toList[i]? = some c := by simpa using hc
    rw [this]; rfl
  stop := fun H _ => signsV_len z
theorem take_snoc {α : Type} {xs : List α} {i : Nat} {x : α} (h : xs[i]? = some x) : xs.take (i + 1) = xs.take i ++ [x] := by rw [List.take_add_one, h]; rfl
theorem comp_of {α : Type} {J : It} {as : List α} {g : α → V} {ok : Hp → Prop} (w : Walk J (as.map g) ok) {tt : TT} {te : TE} {fin : List V → Hp → Prop} {σ : St} {H : Hp} (hz : as.length ≤ sizeLine) (h0 : ∀ H', Same H H' → ok H') (p : α → Bool) (f : α → V)
    (ht : ∀ a H1 Q, a ∈ as → Same H H1 → (∀ H2, Same H1 H2 → Q (p a) H2) → tt (some (g a) :: σ) H1 Q)
    (he : ∀ a H1 Q, a ∈ as → p a = true → Same H H1 → (∀ H2, Same H1 H2 → Q (f a) H2) → te (some (g a) :: σ) H1 Q)
    (hd : ∀ H', Same H H' → fin ((as.filter p).map f) H') : CompW J (gName 0) tt te fin (none :: σ) H := by
  refine comp_walk w (by rw [List.length_map]; exact hz) (fun i ys H' => Same H H' ∧ ys = ((as.take i).filter p).map f) ⟨Same.refl H, rfl⟩ (fun i ys H' _ q => h0 H' q.1) (fun i ys H' q => ?_) (fun i x ys H' hx q => ?_) (fun ys H' q => ?_)
  · rw [q.2, List.length_map]
    exact Nat.le_trans (List.length_filter_le _ _) (by rw [List.length_take]; omega)
  · obtain ⟨s1, e⟩ := q
    rw [List.getElem?_map] at hx
    cases ha : as[i]? with
    | none => rw [ha] at hx; cases hx
    | some a =>
      rw [ha] at hx
      have hx' : g a = x := Option.some.inj hx
      subst hx'
      have hm : a ∈ as := List.mem_of_getElem? ha
      refine ht a H' _ hm s1 fun H2 s2 => ?_
      cases hp : p a with
      | false =>
        rw [if_neg Bool.false_ne_true]
        exact ⟨⟨_, rfl⟩, s1.trans s2, by rw [e, take_snoc ha, List.filter_append, List.map_append]; simp [hp]⟩
      | true =>
        rw [if_pos rfl]
        exact he a H2 _ hm hp (s1.trans s2) fun H3 s3 => ⟨⟨_, rfl⟩, (s1.trans s2).trans s3, by rw [e, take_snoc ha, List.filter_append, List.map_append]; simp [hp]⟩
  · obtain ⟨s1, e⟩ := q
    rw [e, List.length_map, List.take_length]
    exact hd H' s1
theorem filter_yes {α : Type} (as : List α) : as.filter (fun _ => true) = as := List.filter_eq_self.mpr fun _ _ => rfl
theorem in_sgn (g : Str) (c : Nat) : (!(Builtin.Str.occurrences g ⟨#[c]⟩ 0 g.length 1).isEmpty) = decide (c ∈ g.cps.toList) := PySem.StrLaws.found_one g c
noncomputable def plainTs : List String := ["NoneType", "bool", "int", "str", "list", "tuple", "dict"]
structure Pl (K : PySem.W.Frag) (H : Hp) (x : V) (T : String) : Prop where
  ty : TyOf K H x (.type T)
  mem : T ∈ plainTs
  sz : ∀ z, x = .str z → z.length ≤ sizeLine
noncomputable def isiN (T S : String) : Bool := T == S || (T == "bool" && S == "int")
theorem isi_plain {K : PySem.W.Frag} {T S : String} (hT : T ∈ plainTs) (hS : S ∈ plainTs) : PySem.W.kitOne K (.type T) (.type S) = some (isiN T S) := by
  simp only [plainTs, List.mem_cons, List.not_mem_nil, or_false] at hT hS
  rcases hT with rfl | rfl | rfl | rfl | rfl | rfl | rfl <;> rcases hS with rfl | rfl | rfl | rfl | rfl | rfl | rfl <;> rfl
theorem TyOf.mono {K : PySem.W.Frag} {H H' : Hp} {x : V} {t : Value} (s : Same H H') (h : TyOf K H x t) : TyOf K H' x t := by
  cases h with
  | non => exact .non
  | bl x => exact .bl x
  | int i => exact .int i
  | str x => exact .str x
  | flt x => exact .flt x
  | lst e => exact .lst (s _ _ e)
  | frz e => exact .frz (s _ _ e)
  | tup e => exact .tup (s _ _ e)
  | dK e => exact .dK (s _ _ e)
  | dT e => exact .dT (s _ _ e)
  | ins e c h1 h2 h3 h4 => exact .ins (s _ _ e) c h1 h2 h3 h4
theorem Pl.mono {K : PySem.W.Frag} {H H' : Hp} {x : V} {T : String} (s : Same H H') (h : Pl K H x T) : Pl K H' x T := ⟨h.ty.mono s, h.mem, h.sz⟩
theorem Pl.of_str {K : PySem.W.Frag} {H : Hp} {z : Str} (h : z.length ≤ sizeLine) : Pl K H (.str z) "str" := ⟨.str z, by decide, fun _ e => by cases e; exact h⟩
theorem Pl.of_int {K : PySem.W.Frag} {H : Hp} {i : Int} : Pl K H (.int i) "int" := ⟨.int i, by decide, fun _ e => by cases e⟩
theorem Pl.of_lst {K : PySem.W.Frag} {H : Hp} {a : Addr} {xs : List V} (h : H a = some (.lst xs)) : Pl K H (.ref a) "list" := ⟨.lst h, by decide, fun _ e => by cases e⟩
theorem Pl.of_tup {K : PySem.W.Frag} {H : Hp} {a : Addr} {xs : List V} (h : H a = some (.tup xs)) : Pl K H (.ref a) "tuple" := ⟨.tup h, by decide, fun _ e => by cases e⟩
theorem Pl.name {K : PySem.W.Frag} {H : Hp} {x : V} {T : String} (h : Pl K H x T) :
    (T = "NoneType" ∧ x = .non) ∨ (∃ b, T = "bool" ∧ x = .bl b) ∨ (∃ i, T = "int" ∧ x = .int i) ∨ (∃ z, T = "str" ∧ x = .str z ∧ z.length ≤ sizeLine) ∨ (∃ a, (T = "list" ∨ T = "tuple" ∨ T = "dict") ∧ x = .ref a) := by
  obtain ⟨ty, hm, hz⟩ := h
  generalize hv : Value.type T = t at ty
  cases ty with
  | non => cases hv; exact .inl ⟨rfl, rfl⟩
  | bl b => cases hv; exact .inr (.inl ⟨b, rfl, rfl⟩)
  | int i => cases hv; exact .inr (.inr (.inl ⟨i, rfl, rfl⟩))
  | str z => cases hv; exact .inr (.inr (.inr (.inl ⟨z, rfl, rfl, hz z rfl⟩)))
  | flt x => cases hv; simp [plainTs] at hm
  | lst e => cases hv; exact .inr (.inr (.inr (.inr ⟨_, .inl rfl, rfl⟩)))
  | frz e => cases hv; exact .inr (.inr (.inr (.inr ⟨_, .inl rfl, rfl⟩)))
  | tup e => cases hv; exact .inr (.inr (.inr (.inr ⟨_, .inr (.inl rfl), rfl⟩)))
  | dK e => cases hv; exact .inr (.inr (.inr (.inr ⟨_, .inr (.inr rfl), rfl⟩)))
  | dT e => cases hv; exact .inr (.inr (.inr (.inr ⟨_, .inr (.inr rfl), rfl⟩)))
  | ins e c h1 h2 h3 h4 => cases hv
noncomputable def rIsP (K : PySem.W.Frag) : List V → Hp → VK → Prop := fun xs H Q => ∃ x S T, xs = [x, .ty S] ∧ Pl K H x T ∧ S ∈ plainTs ∧ Q (.bl (isiN T S)) H
theorem call_isP {X : Cx} : CallR X (.builtin "isinstance") (rIsP X.K) := by
  intro pins s σ H xs us Q I r h
  obtain ⟨x, S, T, rfl, p, hS, q⟩ := h
  exact call_isi pins s σ H _ us Q I r ⟨x, S, .type T, _, rfl, p.ty, isi_plain p.mem hS, q⟩
end L2
set_option maxHeartbeats 4000000
namespace L2
open PySem PySem.Spec PyProof.Rows
section
variable {X : Cx}
end
theorem ixT_of {K : PySem.W.Frag} {H : Hp} {p : Addr} {xs : List V} {i : Int} {Q : VK} (h : SqT K H p xs) (h0 : 0 ≤ i) (h1 : i < xs.length) (q : ∀ v, xs[i.toNat]? = some v → Q v H) : rIxT K (.ref p) (.int i) H Q := by
  have hj : i.toNat < xs.length := by omega
  refine ⟨p, xs, i, xs[i.toNat], rfl, rfl, h, ?_, q _ (List.getElem?_eq_getElem hj)⟩
  have e := atI_nat (List.getElem?_eq_getElem hj)
  rwa [Int.toNat_of_nonneg h0] at e
theorem ixS_of {H : Hp} {z : Str} {i : Int} {Q : VK} (hz : z.length ≤ sizeLine) (h0 : 0 ≤ i) (h1 : i < z.length) (q : ∀ c, z.cps.toList[i.toNat]? = some c → Q (sgn c) H) : rIxS (.str z) (.int i) H Q := by
  have hl : z.cps.toList.length = z.length := by simp [Str.length]
  have hj : i.toNat < z.cps.toList.length := by omega
  refine ⟨z, i, z.cps.toList[i.toNat], rfl, rfl, hz, ?_, q _ (List.getElem?_eq_getElem hj)⟩
  have e := atI_nat (List.getElem?_eq_getElem hj)
  rwa [Int.toNat_of_nonneg h0] at e
theorem str_of_cps {z : Str} {cs : List Nat} (h : z.cps.toList = cs) : z = ⟨cs.toArray⟩ := by
  subst h
  cases z with
  | mk a => rfl
end L2
set_option maxHeartbeats 4000000
namespace L2
open PySem PySem.Spec PyProof.Rows
section
variable {X : Cx} {K : PySem.W.Frag} (e : X.K = K)
include e
theorem k_isP : CallR X (.builtin "isinstance") (rIsP K) := by subst e; exact call_isP
theorem k_all (hc : X.calm = true) : CallR X (.builtin "all") (rAll K fun bs => bs.all id) := by subst e; exact call_all hc
noncomputable def rLenS (K : PySem.W.Frag) : List V → Hp → VK → Prop := fun xs H Q => ∃ p ys, xs = [.ref p] ∧ (SqL K H p ys ∨ SqT K H p ys) ∧ Q (.int ys.length) H
theorem k_len : CallR X (.builtin "len") (rLenS K) := by subst e; exact call_len_seq
noncomputable def rLenV (K : PySem.W.Frag) : List V → Hp → VK → Prop := fun xs H Q => ∃ x n, xs = [x] ∧ LenV K x H n ∧ Q (.int n) H
noncomputable def rListOf (K : PySem.W.Frag) : List V → Hp → VK → Prop := fun xs H Q => ∃ p ys, xs = [.ref p] ∧ (SqL K H p ys ∨ SqT K H p ys) ∧ ∀ l, H l = none → Q (.ref l) (upd H l (.lst ys))
theorem k_list : CallR X (.type "list") (rListOf K) := by subst e; exact call_list_of
noncomputable def rTupleOf (K : PySem.W.Frag) : List V → Hp → VK → Prop := fun xs H Q => ∃ p ys, xs = [.ref p] ∧ ((SqL K H p ys ∧ ∀ l, H l = none → Q (.ref l) (upd H l (.tup ys))) ∨ (SqT K H p ys ∧ Q (.ref p) H))
theorem k_tuple : CallR X (.type "tuple") (rTupleOf K) := by subst e; exact call_tuple_of
theorem k_ixL : IxR X (rIxL K) := by subst e; exact ix_list
theorem k_ixT : IxR X (rIxT K) := by subst e; exact ix_tup
theorem k_eqD (hu : X.A.units + 64 < cLine) : OpR X (compareOp .Eq) (rEqD K false) := by subst e; exact op_eqD hu
theorem k_neD (hu : X.A.units + 64 < cLine) : OpR X (compareOp .NotEq) (rEqD K true) := by subst e; exact op_neD hu
theorem k_in : OpR X (compareOp .In) (rIn K false) := by subst e; exact op_in_seq
theorem k_piL {tg l : Expr} {tl : TE} (hl : PE X l tl) : PI X tg l (iList K tl) := by subst e; exact pi_list hl
theorem k_piT {tg l : Expr} {tl : TE} (hl : PE X l tl) : PI X tg l (iTup K tl) := by subst e; exact pi_tup hl
theorem k_pgT {es : List Expr} {k : Nat} {t : TGs} {n : Nat} {pos : Pos} (hc : X.calm = true) (h : PGs X es t) (hn : (assignEach es X.env).length = n := by rfl) (hst : (assignEach es X.env).findIdx? (·.1) = none := by rfl) : PG X (.Tuple es k pos) (gTup K n t) := by subst e; exact pg_tup hc h hn hst
theorem k_bm {o a : Expr} {es : List Expr} {to : TE} {t : TA} {name : Str} {apos cpos : Pos} {T id : String} {r : V → List V → Hp → VK → Prop} (pa : PlainAttrs T) (slot : Slot T name id) (hty : typeOf (.builtin id) = pure (.type "method_descriptor")) (hm : MtR X id r) (ho : PE X o to) (ha : PA X (a :: es) t)
    (hbase : attributeBase o name X.env (eval o X.env) = eval o X.env := by rfl)
    (hfew : ((backTo cpos (starEach (a :: es) X.env)).all (fun x => !x.1) && (backToKw cpos (keywordEach [] X.env)).all (fun x => x.1.isSome)
      && decide ((a :: es).length + ([] : List Keyword).length + (if ([] : List Keyword).isEmpty then 0 else 1) < 30)) = true := by rfl)
    (hline : (apos.endLine == cpos.line) = true := by rfl) (hs : starEach (a :: es) X.env = (false, eval a X.env) :: starEach es X.env := by rfl) (hplain : (backTo cpos (starEach es X.env)).any (·.1) = false := by rfl) :
    PE X (.Call (.Attribute o name apos) (a :: es) [] cpos) (tBM K T r to t) := by subst e; exact pe_bm pa slot hty hm ho ha hbase hfew hline hs hplain
end
end L2
namespace L2
open PySem PySem.Spec PyProof.Rows
noncomputable def notStar : Expr → Bool
  | .Starred _ _ => false
  | _ => true
theorem star_cons {e : Expr} {es : List Expr} {env : Env} (h : notStar e = true) : starEach (e :: es) env = (false, eval e env) :: starEach es env := by
  cases e <;> first | rfl | cases h
theorem star_none {env : Env} : ∀ {es : List Expr}, es.all notStar = true → (starEach es env).any (·.1) = false
  | [], _ => rfl
  | e :: es, h => by
    rw [List.all_cons, Bool.and_eq_true] at h
    rw [star_cons h.1, List.any_cons, star_none h.2]; rfl
theorem back_none {env : Env} {pos : Pos} {es : List Expr} (h : es.all notStar = true) : (backTo pos (starEach es env)).any (·.1) = false := by
  have := star_none (env := env) h
  unfold backTo
  rw [List.any_map]
  exact this
section
variable {X : Cx} {e : Expr} {es : List Expr} {te : TE} {t : TA}
theorem pal (hn : notStar e = true) (ha : PE X e te) (hr : PA X es t) : PA X (e :: es) (tCons te t) := pa_cons ha hr (star_cons hn)
theorem pe_defL {x : Str} {st : Stmt} {ps : List Str} {f : Addr} {fd : FuncData} {k : Nat} {sp : Sp} {p pos : Pos} (D : DefOk X.K X.mg x st ps f fd) (G : FnOk X.prog X.w X.K X.mg X.base CX0 k f fd ps sp) (hr : Room k X.A)
    (hg : Gl X x) (hdb : (x == ("__debug__" : Str)) = false) (hn : (e :: es).all notStar = true) (ha : PA X (e :: es) t) :
    PE X (.Call (.Name x p) (e :: es) [] pos) (tCall sp [] E0 t) :=
  have h : notStar e = true ∧ es.all notStar = true := by rw [List.all_cons, Bool.and_eq_true] at hn; exact hn
  pe_call G hr hg D.m D.F.kp D.b .nil pass0 ha hdb (star_cons h.1) (back_none h.2)
theorem pe_cB {x : Str} {p pos : Pos} {id : String} {r : List V → Hp → VK → Prop} (hc : CallR X (.builtin id) r) (hm : X.mg x = none) (hv : bootBuiltins x = some (.builtin id)) (hg : Gl X x) (hn : x ≠ "__name__") (hdb : (x == ("__debug__" : Str)) = false)
    (hs : (e :: es).all notStar = true) (ha : PA X (e :: es) t) : PE X (.Call (.Name x p) (e :: es) [] pos) (tCB r t) :=
  have h : notStar e = true ∧ es.all notStar = true := by rw [List.all_cons, Bool.and_eq_true] at hs; exact hs
  pe_callB hc hg hm hv ha hn hdb (star_cons h.1) (back_none h.2)
theorem pe_cTy {x : Str} {p pos : Pos} {T : String} {r : List V → Hp → VK → Prop} (hc : CallR X (.type T) r) (hm : X.mg x = none) (hv : bootBuiltins x = some (.type T)) (hg : Gl X x) (hn : x ≠ "__name__") (hdb : (x == ("__debug__" : Str)) = false)
    (hs : (e :: es).all notStar = true) (ha : PA X (e :: es) t) : PE X (.Call (.Name x p) (e :: es) [] pos) (tCB r t) :=
  have h : notStar e = true ∧ es.all notStar = true := by rw [List.all_cons, Bool.and_eq_true] at hs; exact hs
  pe_callTy hc hg hm hv ha hn hdb (star_cons h.1) (back_none h.2)
theorem back_all {env : Env} {pos : Pos} {es : List Expr} (h : es.all notStar = true) : (backTo pos (starEach es env)).all (fun x => !x.1) = true := by
  have := back_none (env := env) (pos := pos) h
  rw [List.any_eq_false] at this
  rw [List.all_eq_true]
  intro x hx
  have := this x hx
  simpa using this
theorem k_bmL {K : PySem.W.Frag} {o a : Expr} {to : TE} {name : Str} {apos cpos : Pos} {T id : String} {r : V → List V → Hp → VK → Prop} (ek : X.K = K) (pa : PlainAttrs T) (slot : Slot T name id) (hty : typeOf (.builtin id) = pure (.type "method_descriptor")) (hm : MtR X id r)
    (hbase : attributeBase o name X.env (eval o X.env) = eval o X.env) (hs : (a :: es).all notStar = true) (hsz : decide ((a :: es).length + 0 + 0 < 30) = true) (hline : (apos.endLine == cpos.line) = true) (ho : PE X o to) (ha : PA X (a :: es) t) :
    PE X (.Call (.Attribute o name apos) (a :: es) [] cpos) (tBM K T r to t) :=
  have h : notStar a = true ∧ es.all notStar = true := by rw [List.all_cons, Bool.and_eq_true] at hs; exact hs
  k_bm ek pa slot hty hm ho ha hbase (by rw [back_all hs]; exact hsz) hline (star_cons h.1) (back_none h.2)
end
end L2
namespace L2
open PySem PySem.Spec PyProof.Rows
noncomputable def ForW (J : It) (g : TG) (tb : TS) (D : Ends) (σ : St) (H1 : Hp) : Prop := ∃ W : Nat → Nat → St → Hp → Prop, (∃ m, W 0 m σ H1) ∧ ∀ i m σ H, W i m σ H →
  (J.stop i H ∧ D.nx σ H) ∨ (J.go i H ∧ ∃ N : St → Hp → Prop, (∀ σ' H', N σ' H' → ∃ m', m' < m ∧ W (i + 1) m' σ' H') ∧ ∀ x H', J.yld i H x H' → g x σ H' fun σ2 H2 => tb { D with nx := N, ct := N, bk := D.nx } σ2 H2)
theorem for_in {wi : TI} {g : TG} {tb : TS} {D : Ends} {σ : St} {H : Hp} (h : wi σ H fun J H1 => ForW J g tb D σ H1) : tFor wi g tb D σ H := h
theorem ForW.of {g : TG} {tb : TS} {D : Ends} {σ : St} {H : Hp} {J : It} {xs : List V} {ok : Hp → Prop} (w : Walk J xs ok) (Pv : Nat → St → Hp → Prop) (h0 : Pv 0 σ H) (hl : ∀ i σ H, i ≤ xs.length → Pv i σ H → ok H)
    (hs : ∀ i x σ H, xs[i]? = some x → Pv i σ H → g x σ H fun σ2 H2 => tb { D with nx := Pv (i + 1), ct := Pv (i + 1), bk := D.nx } σ2 H2) (hd : ∀ σ H, Pv xs.length σ H → D.nx σ H) : ForW J g tb D σ H := for_walk w Pv h0 hl hs hd
end L2
set_option maxHeartbeats 4000000
namespace L2
open PySem PySem.Spec PyProof.Rows
noncomputable def cutL {α : Type} (xs : List α) (lo hi : Option Int) : List α := (xs.drop (HT.sIx xs.length 0 lo)).take (HT.sIx xs.length xs.length hi - HT.sIx xs.length 0 lo)
theorem pick_cut {α : Type} (xs : List α) (a : Nat) : ∀ k : Nat, ((List.range k).map (a + ·)).filterMap (fun i => xs[i]?) = (xs.drop a).take k
  | 0 => by simp
  | k + 1 => by
    rw [List.range_succ, List.map_append, List.filterMap_append, pick_cut xs a k, List.take_add_one, List.getElem?_drop]
    cases h : xs[a + k]? <;> simp [h]
theorem clip_is (v : Option Int) (n d : Nat) (hd : d ≤ n) : (match v with | none => (d : Int) | some i => max 0 (min (if i < 0 then i + (n : Int) else i) (n : Int))) = ((HT.sIx n d v : Nat) : Int) := by
  cases v with
  | none => rfl
  | some i =>
    unfold HT.sIx
    dsimp only
    by_cases h : i < 0
    · simp only [h, if_true] <;> omega
    · simp only [h, if_false] <;> omega
theorem indices_is (lo hi : Option Int) (n : Nat) : Builtin.Str.strSliceIndices lo hi 1 n = (List.range (HT.sIx n n hi - HT.sIx n 0 lo)).map (HT.sIx n 0 lo + ·) := by
  have e1 := clip_is lo n 0 (Nat.zero_le _)
  have e2 := clip_is hi n n (Nat.le_refl _)
  rw [← sliceRange_one, ← e1, ← e2]
  unfold Builtin.Str.strSliceIndices
  simp only [show (1 : Int) > 0 by decide, if_true]
  cases lo <;> cases hi <;> rfl
theorem slice_cps (x : Str) (lo hi : Option Int) : (Txt.slice x lo hi).cps.toList = cutL x.cps.toList lo hi := by
  have hl : x.cps.toList.length = x.length := by simp [Str.length]
  unfold Txt.slice cutL
  rw [indices_is, hl]
  split
  · rename_i h
    have h : (HT.sIx x.length x.length hi - HT.sIx x.length 0 lo) = x.length := by simpa using h
    have h2 := HT.sIx_le x.length x.length (Nat.le_refl _) hi
    by_cases h0 : x.length = 0
    · have : x.cps.toList = [] := List.eq_nil_of_length_eq_zero (by omega)
      rw [this]; simp
    · have h3 : HT.sIx x.length 0 lo = 0 := by omega
      rw [h3, h3] at *
      rw [List.drop_zero, show HT.sIx x.length x.length hi - 0 = x.cps.toList.length by omega, List.take_length]
  · show ((List.map _ _).filterMap fun (i : Nat) => x.cps[i]?) = _
    have e : (fun (i : Nat) => x.cps[i]?) = fun (i : Nat) => x.cps.toList[i]? := by funext i; simp
    rw [e, pick_cut]
section
variable {X : Cx}
noncomputable def rSlS : V → Option Int → Option Int → Hp → VK → Prop := fun x lo hi H Q => ∃ z, x = .str z ∧ z.length ≤ sizeLine ∧ Q (.str ⟨(cutL z.cps.toList lo hi).toArray⟩) H
theorem sl_str : SlR X rSlS := by
  intro pins s σ H x v vl vu lo hi sl Q I rx hs pl pu h
  obtain ⟨z, rfl, hz, q⟩ := h
  obtain ⟨t, rfl⟩ := rx
  have e : Txt.slice z lo hi = ⟨(cutL z.cps.toList lo hi).toArray⟩ := str_of_cps (slice_cps z lo hi)
  have fin : ∀ t' k, EP X pins σ Q (.str (Txt.slice z lo hi) t') { s with toks := k } := fun t' k => by
    rw [e]; exact ⟨.str _, H, I.tok _, ⟨_, rfl⟩, q⟩
  have hle := Nat.le_trans (Txt.slice_le z lo hi) hz
  refine ⟨"str", _, F.slot_str_getitem.lookup, typeIs_str _ _ _, ?_⟩
  obtain ⟨o, ho, hc, hd⟩ := hs
  cases pl with
  | none =>
    cases pu with
    | none => exact wpAny_getItem_str_slice (l := none) (u := none) (st := none) ⟨o, ho, hc, hd⟩ rfl (post_val_or_str ⟨hle, fin⟩)
    | int j uj => exact wpAny_getItem_str_slice (l := none) (u := some (j, uj)) (st := none) ⟨o, ho, hc, hd⟩ rfl (post_val_or_str ⟨hle, fin⟩)
  | int i ui =>
    cases pu with
    | none => exact wpAny_getItem_str_slice (l := some (i, ui)) (u := none) (st := none) ⟨o, ho, hc, hd⟩ rfl (post_val_or_str ⟨hle, fin⟩)
    | int j uj => exact wpAny_getItem_str_slice (l := some (i, ui)) (u := some (j, uj)) (st := none) ⟨o, ho, hc, hd⟩ rfl (post_val_or_str ⟨hle, fin⟩)
noncomputable def rFind : V → List V → Hp → VK → Prop := fun x vs H Q => ∃ z y, x = .str z ∧ vs = [.str y] ∧ Q (.int (Txt.find z y)) H
noncomputable def rStarts : V → List V → Hp → VK → Prop := fun x vs H Q => ∃ z y, x = .str z ∧ vs = [.str y] ∧ Q (.bl (Txt.startswith z y)) H
end
end L2
namespace L2
open PySem
theorem range_item {lo : Int} {n i : Nat} {x : V} (h : (rangeV lo n)[i]? = some x) : i < n ∧ x = .int (lo + i) := by
  have hi : i < n := by have := (List.getElem?_eq_some_iff.mp h).1; rwa [rangeV_len] at this
  rw [rangeV_get hi] at h
  cases h
  exact ⟨hi, rfl⟩
end L2
set_option maxHeartbeats 4000000
namespace L2
open PySem PySem.Spec PyProof.Rows PySem.NumText
noncomputable def dgs (m : Nat) : List Nat := (Nat.toDigits 10 m).map Char.toNat
noncomputable def numS (n : Int) : List Nat := if n < 0 then 45 :: dgs n.natAbs else dgs n.natAbs
section
variable {X : Cx}
noncomputable def rIntT : List V → Hp → VK → Prop := fun xs H Q => ∃ z n, xs = [.str z] ∧ intText? z = some n ∧ z.length ≤ 640 ∧ Q (.int n) H
noncomputable def rStrA : List V → Hp → VK → Prop := fun xs H Q => (∃ i, xs = [.int i] ∧ i.natAbs < 10 ^ 100 ∧ Q (.str ⟨(numS i).toArray⟩) H) ∨ ∃ z, xs = [.str z] ∧ Q (.str z) H
end
end L2
namespace L2
open PySem PySem.Spec PyProof.Rows
section
variable {X : Cx}
noncomputable def rRepS : R2 := fun x y H Q => ∃ z n, x = .str z ∧ y = .int n ∧ MulOk z n ∧ Q (.str (Txt.mul z n)) H
theorem op_rep_str : OpR X (binaryOp .Mult) rRepS := by
  intro pins s σ H x y v u Q I rx ry h
  obtain ⟨z, n, rfl, rfl, hm, q⟩ := h
  obtain ⟨t, rfl⟩ := rx
  obtain ⟨t', rfl⟩ := ry
  exact SB.mul hm fun t' k => ⟨.str _, H, I.tok _, ⟨_, rfl⟩, q⟩
end
end L2
namespace L2
open PySem
noncomputable def WGo (Pv : Nat → St → Hp → Prop) (m : Nat) (tb : TS) (D : Ends) (σ : St) (H1 : Hp) : Prop := ∃ N : St → Hp → Prop, (∀ σ' H', N σ' H' → ∃ m', m' < m ∧ Pv m' σ' H') ∧ tb { D with nx := N, ct := N, bk := D.nx } σ H1
theorem WGo.of {Pv : Nat → St → Hp → Prop} {m : Nat} {tb : TS} {D : Ends} {σ : St} {H1 : Hp} (h : tb { D with nx := fun σ' H' => ∃ m', m' < m ∧ Pv m' σ' H', ct := fun σ' H' => ∃ m', m' < m ∧ Pv m' σ' H', bk := D.nx } σ H1) : WGo Pv m tb D σ H1 := ⟨_, fun _ _ q => q, h⟩
theorem while_in {c : TT} {tb : TS} {D : Ends} {σ : St} {H : Hp} (Pv : Nat → St → Hp → Prop) (h0 : ∃ m, Pv m σ H) (hs : ∀ m σ H, Pv m σ H → c σ H fun b H1 => if b = true then WGo Pv m tb D σ H1 else D.nx σ H1) : tWhile c tb D σ H := ⟨Pv, h0, hs⟩
end L2
set_option maxHeartbeats 1000000
namespace L2
open PySem PySem.Spec PyProof.Rows
noncomputable def Trc (H : Hp) (h G : Heap) (e : Addr) (C : Value) (ed : Option Addr) (fl : Value) : Prop :=
  G.get? e = none ∧ H e = none ∧ ∃ oe vs, h.get? e = some oe ∧ oe.cls = C ∧ oe.dict = ed ∧ oe.data = .fields vs ∧ 1 < vs.size ∧
    ((vs[1]? = some .none ∧ fl = .none) ∨ ∃ T oT ts, vs[1]? = some (.ref T) ∧ G.get? T = none ∧ T ≠ e ∧ H T = none ∧ h.get? T = some oT ∧ oT.data = .fields ts ∧ ts[3]? = some fl)
structure Kp (H : Hp) (G : Heap) (fs : List Addr) (h h' : Heap) : Prop where
  keep : ∀ b o, h.get? b = some o → b ∉ fs → (G.get? b ≠ none ∨ H b ≠ none) → h'.get? b = some o
  slot : ∀ b o, h.get? b = some o → b ∈ fs → ∃ sl, h'.get? b = some { o with slots := sl }
  there : ∀ b o, h.get? b = some o → ∃ o', h'.get? b = some o'
  size : h.objs.size ≤ h'.objs.size
theorem Kp.refl (H : Hp) (G : Heap) (fs : List Addr) (h : Heap) : Kp H G fs h h := ⟨fun _ _ e _ _ => e, fun _ o e _ => ⟨o.slots, e⟩, fun _ o e => ⟨o, e⟩, Nat.le_refl _⟩
section
variable {M : Model} {A : Around} {E : Value → Shared → Prop} {s : Shared} {Q : Unit → Shared → Prop} {base : Heap} {env : Env} {outer : List Env} {L e : Addr} {C : Value} {ed : Option Addr} {G : Heap} {H : Hp}
theorem entry_wp {oe : Obj} {vs : Array Value} {head : Value} {hadNext : Bool} (hfr : A.frames = some (env :: outer)) (hl : s.heap.FunFrames base (env :: outer)) (hf : env.frame = some L)
    (he : s.heap.get? e = some oe) (hd : oe.data = .fields vs) (hsz : 1 < vs.size)
    (h : ∀ h' T oT ts, s.heap.objs.size ≤ T → h'.get? e = some (oe.mapFields (·.setIfInBounds 1 (.ref T))) → h'.get? T = some oT → oT.data = .fields ts → ts[3]? = some (rawInt L) →
      (∀ b o, b ≠ e → s.heap.get? b = some o → b ∉ frs (env :: outer) → h'.get? b = some o) → (∀ b o, b ≠ e → s.heap.get? b = some o → ∃ sl, h'.get? b = some { o with slots := sl }) → s.heap.objs.size ≤ h'.objs.size → Q () { s with heap := h' }) :
    wpAny M A (do let a ← frameOf env; let pl ← entryPlaceOf L hadNext; let b ← EntryCells.newEntry head a .none (rawInt L) .none pl; setField (.ref e) 1 b) Q E s := by
  have hene : e ∉ frs (env :: outer) := fun hm => by
    obtain ⟨_, o, ho, hnf⟩ := hl.mem hm
    rw [he] at ho
    cases ho
    exact hnf vs hd
  refine wpAny_bind (wpAny_frameOf_fun hfr hl hf fun h₁ hs₁ => ?_)
  refine wpAny_bind (wpAny_entryPlaceOf fun pl hpl => ?_)
  unfold EntryCells.newEntry newFields
  refine wpAny_bind (wpAny_newObj_type ?_ (hpl.sizeOk5 _ _ _ _ _))
  have he₁ : h₁.get? e = some oe := (hs₁.2.1 e hene).trans he
  generalize hO : ({ cls := .type "traceback", dict := none, data := .fields ([head, .ref L, .none, rawInt L, .none] ++ (if pl.isEmpty then List.replicate 6 Value.none else pl)).toArray } : Obj) = O
  have he₂ := Heap.get?_push_of_some (h := h₁) O he₁
  have hTe : h₁.objs.size ≠ e := Nat.ne_of_gt (Heap.lt_size he₁)
  refine wpAny_setField he₂ hd hsz (h _ h₁.objs.size O _ (Nat.le_of_eq hs₁.1.symm) (Heap.get?_update_self _ he₂ (Obj.isFreed_of_fields (Obj.data_mapFields hd _))) ?_ (by rw [← hO]) ?_ ?_ ?_ ?_)
  · rw [Heap.get?_update_other _ _ (Ne.symm hTe)]
    exact Heap.get?_push_size h₁ (by rw [← hO]; rfl)
  · first | (simp; done) | (rcases hpl with rfl | ⟨_, _, _, _, _, _, _, rfl⟩ <;> simp)
  · intro b o hb ho hn
    rw [Heap.get?_update_other _ _ (Ne.symm hb)]
    exact Heap.get?_push_of_some _ ((hs₁.2.1 b hn).trans ho)
  · intro b o hb ho
    obtain ⟨sl, e1⟩ := hs₁.2.2 b o ho
    exact ⟨sl, by rw [Heap.get?_update_other _ _ (Ne.symm hb)]; exact Heap.get?_push_of_some _ e1⟩
  · rw [Heap.size_after_update, Heap.size_push, hs₁.1]
    exact Nat.le_succ _
theorem note_wp (hfr : A.frames = some (env :: outer)) (hl : s.heap.FunFrames base (env :: outer)) (hf : env.frame = some L) (hH : ∀ b, s.heap.objs.size ≤ b → H b = none) (hG : ∀ b, s.heap.objs.size ≤ b → G.get? b = none) (t : Trc H s.heap G e C ed .none)
    (h : ∀ h', Trc H h' G e C ed (rawInt L) → h'.FunFrames base (env :: outer) → Kp H G (frs (env :: outer)) s.heap h' → Q () { s with heap := h' }) : wpAny M A (noteFrame (.ref e) env) Q E s := by
  obtain ⟨hn, hHe, oe, vs, he, hc, hdi, hd, hsz, ht⟩ := t
  unfold noteFrame
  simp only [hf]
  have nfr : ∀ b o ws, s.heap.get? b = some o → o.data = .fields ws → b ∉ frs (env :: outer) := fun b o ws ho hw hm => by
    obtain ⟨_, o', ho', hnf⟩ := hl.mem hm
    rw [ho] at ho'
    cases ho'
    exact hnf ws hw
  have fin : ∀ (s1 : Shared) (h' : Heap) (T : Addr) (oT : Obj) (ts : Array Value), s.heap.objs.size ≤ T → h'.get? e = some (oe.mapFields (·.setIfInBounds 1 (.ref T))) → h'.get? T = some oT → oT.data = .fields ts → ts[3]? = some (rawInt L) →
      (∀ b o, s.heap.get? b = some o → b ∉ frs (env :: outer) → (G.get? b ≠ none ∨ H b ≠ none) → h'.get? b = some o) → (∀ b o, s.heap.get? b = some o → (∀ ws, o.data ≠ .fields ws) → ∃ sl, h'.get? b = some { o with slots := sl }) →
      (∀ b o, s.heap.get? b = some o → ∃ o', h'.get? b = some o') → s.heap.objs.size ≤ h'.objs.size → Q () { s with heap := h' } := by
    intro s1 h' T oT ts hT e1 e2 e3 e4 k1 k2 k3 k4
    have le : e < s.heap.objs.size := Heap.lt_size he
    refine h h' ⟨hn, hHe, _, _, e1, by rw [Obj.cls_mapFields]; exact hc, ?_, Obj.data_mapFields hd _, by simpa using hsz, .inr ⟨T, oT, ts, by simp [hsz], hG T hT, Nat.ne_of_gt (Nat.lt_of_lt_of_le le hT), hH T hT, e2, e3, e4⟩⟩ (hl.of_keeps fun b o hb hnf => ?_) ⟨k1, fun b o hb hm => ?_, k3, k4⟩
    · rw [← hdi]
      obtain ⟨c, d, dt, sl⟩ := oe
      cases dt <;> rfl
    · obtain ⟨sl, q⟩ := k2 b o hb hnf
      exact ⟨_, q, rfl⟩
    · obtain ⟨_, o', ho', hnf⟩ := hl.mem hm
      rw [hb] at ho'
      cases ho'
      exact k2 b o hb hnf
  have nee : ∀ b o, s.heap.get? b = some o → (G.get? b ≠ none ∨ H b ≠ none) → b ≠ e := fun b o hb hx z => by
    subst z
    rcases hx with hx | hx
    · exact hx hn
    · exact hx hHe
  rcases ht with ⟨h1, _⟩ | ⟨T, oT, ts, h1, hT, hTe, hHT, gT, hdT, h3⟩
  · refine wpAny_bind (wpAny_field he hd h1 ?_)
    rw [if_neg (by decide)]
    refine entry_wp hfr hl hf he hd hsz fun h' T' oT' ts' q1 q2 q3 q4 q5 q6 q7 q8 => fin s h' T' oT' ts' q1 q2 q3 q4 q5 (fun b o hb hm hx => q6 b o (nee b o hb hx) hb hm) (fun b o hb hnf => q7 b o (fun z => ?_) hb) (fun b o hb => ?_) q8
    · subst z
      rw [he] at hb
      cases hb
      exact hnf vs hd
    · by_cases z : b = e
      · subst z
        exact ⟨_, q2⟩
      · obtain ⟨sl, q⟩ := q7 b o z hb
        exact ⟨_, q⟩
  · refine wpAny_bind (wpAny_field he hd h1 ?_)
    rw [if_pos (show (Value.ref T != Value.none) = true from by simp)]
    refine wpAny_bind (wpAny_field gT hdT h3 ?_)
    rw [if_neg (show ¬ ((Value.none == rawInt L) = true) from by simp [rawInt])]
    refine wpAny_bind (wpAny_setField gT hdT (Array.getElem?_eq_some_iff.mp h3).1 ?_)
    have other : ∀ b, b ≠ T → (s.heap.update T (Obj.mapFields (·.setIfInBounds 3 Value.none))).get? b = s.heap.get? b := fun b hb => Heap.get?_update_other _ _ (Ne.symm hb)
    have self := Heap.get?_update_self (Obj.mapFields (·.setIfInBounds 3 Value.none)) gT (Obj.isFreed_of_fields (Obj.data_mapFields hdT _))
    have neT : ∀ b o, s.heap.get? b = some o → (G.get? b ≠ none ∨ H b ≠ none) → b ≠ T := fun b o hb hx z => by
      subst z
      rcases hx with hx | hx
      · exact hx hT
      · exact hx hHT
    have neF : ∀ b o, s.heap.get? b = some o → (∀ ws, o.data ≠ .fields ws) → b ≠ T := fun b o hb hnf z => by
      subst z
      rw [gT] at hb
      cases hb
      exact hnf ts hdT
    have sz : (s.heap.update T (Obj.mapFields (·.setIfInBounds 3 Value.none))).objs.size = s.heap.objs.size := Heap.size_after_update ..
    refine entry_wp hfr (hl.of_keeps fun b o hb hnf => ⟨o, (other b (neF b o hb hnf)).trans hb, rfl⟩) hf ((other e (Ne.symm hTe)).trans he) hd hsz
      fun h' T' oT' ts' q1 q2 q3 q4 q5 q6 q7 q8 => fin s h' T' oT' ts' (by rw [sz] at q1; exact q1) q2 q3 q4 q5 (fun b o hb hm hx => q6 b o (nee b o hb hx) ((other b (neT b o hb hx)).trans hb) hm)
        (fun b o hb hnf => q7 b o (fun z => ?_) ((other b (neF b o hb hnf)).trans hb)) (fun b o hb => ?_) (by rw [sz] at q8; exact q8)
    · subst z
      rw [he] at hb
      cases hb
      exact hnf vs hd
    · by_cases z : b = e
      · subst z
        exact ⟨_, q2⟩
      · by_cases y : b = T
        · subst y
          obtain ⟨sl, q⟩ := q7 b _ z self
          exact ⟨_, q⟩
        · obtain ⟨sl, q⟩ := q7 b o z ((other b y).trans hb)
          exact ⟨_, q⟩
theorem flight_wp {fl : Value} (hl : s.heap.FunFrames base outer) (t : Trc H s.heap G e C ed fl)
    (h : ∀ h', Trc H h' G e C ed .none → h'.FunFrames base outer → Kp H G [] s.heap h' → (∀ b o, s.heap.get? b = some o → (∀ ws, o.data ≠ .fields ws) → h'.get? b = some o) → Q () { s with heap := h' }) : wpAny M A (setFlight (.ref e) none) Q E s := by
  obtain ⟨hn, hHe, oe, vs, he, hc, hdi, hd, hsz, ht⟩ := t
  unfold setFlight
  rcases ht with ⟨h1, _⟩ | ⟨T, oT, ts, h1, hT, hTe, hHT, gT, hdT, h3⟩
  · refine wpAny_bind (wpAny_field he hd h1 ?_)
    rw [if_neg (by decide)]
    exact wpAny_pure (h s.heap ⟨hn, hHe, oe, vs, he, hc, hdi, hd, hsz, .inl ⟨h1, rfl⟩⟩ hl (Kp.refl ..) fun _ _ e _ => e)
  · have hs3 : 3 < ts.size := (Array.getElem?_eq_some_iff.mp h3).1
    refine wpAny_bind (wpAny_field he hd h1 ?_)
    rw [if_pos (show (Value.ref T != Value.none) = true from by simp)]
    have other : ∀ b, b ≠ T → (s.heap.update T (Obj.mapFields (·.setIfInBounds 3 ((none : Option Addr).elim Value.none fun f => rawInt f)))).get? b = s.heap.get? b := fun b hb => Heap.get?_update_other _ _ (Ne.symm hb)
    have self := Heap.get?_update_self (Obj.mapFields (·.setIfInBounds 3 ((none : Option Addr).elim Value.none fun f => rawInt f))) gT (Obj.isFreed_of_fields (Obj.data_mapFields hdT _))
    refine wpAny_setField gT hdT hs3 (h _ ⟨hn, hHe, oe, vs, (other e (Ne.symm hTe)).trans he, hc, hdi, hd, hsz, .inr ⟨T, _, _, h1, hT, hTe, hHT, self, Obj.data_mapFields hdT _, by simp [hs3]⟩⟩ (hl.of_keeps fun b o hb hnf => ⟨o, (other b fun z => ?_).trans hb, rfl⟩)
      ⟨fun b o hb _ hx => (other b fun z => ?_).trans hb, fun _ _ _ hm => (nomatch hm), fun b o hb => ?_, Nat.le_of_eq (Heap.size_after_update ..).symm⟩ fun b o hb hnf => (other b fun z => ?_).trans hb)
    · subst z
      rw [gT] at hb
      cases hb
      exact hnf ts hdT
    · subst z
      rcases hx with hx | hx
      · exact hx hT
      · exact hx hHT
    · by_cases z : b = T
      · subst z
        exact ⟨_, self⟩
      · exact ⟨o, (other b z).trans hb⟩
    · subst z
      rw [gT] at hb
      cases hb
      exact hnf ts hdT
end
end L2
set_option maxHeartbeats 1000000
namespace L2
open PySem PySem.Spec PyProof.Rows
noncomputable def CXE (P : Program) (w : World) : CXT := fun outer H s E e s' => ∃ a C ed H', e = .ref a ∧ s'.os = s.os ∧ AllBare s'.gens ∧ Un (frs outer) [] H H' s.heap s'.heap ∧ HOk P w H' s'.heap ∧ Trc H' s'.heap s.heap a C ed .none ∧ E C ed H'
theorem Trc.older {H : Hp} {h G G' : Heap} {e : Addr} {C : Value} {ed : Option Addr} {fl : Value} (t : Trc H h G e C ed fl) (hm : ∀ b, G.get? b = none → G'.get? b = none) : Trc H h G' e C ed fl := by
  obtain ⟨hn, hHe, oe, vs, he, hc, hdi, hd, hsz, ht⟩ := t
  refine ⟨hm _ hn, hHe, oe, vs, he, hc, hdi, hd, hsz, ?_⟩
  rcases ht with ht | ⟨T, oT, ts, h1, hT, r⟩
  · exact .inl ht
  · exact .inr ⟨T, oT, ts, h1, hm _ hT, r⟩
theorem get_none {h : Heap} {b : Addr} (hb : h.objs.size ≤ b) : h.get? b = none := Heap.get?_none_of_le hb
theorem Inv.back {X : Cx} {pins : List (Addr × Obj)} {σ : St} {H : Hp} {s : Shared} (I : Inv X pins σ H s) (hex : X.ex = []) (b : Addr) (e : s.heap.get? b = none) : X.s₀.heap.get? b = none := by
  cases q : X.s₀.heap.get? b with
  | none => rfl
  | some o =>
    obtain ⟨o', e'⟩ := I.base.there b o q (by rw [hex]; simp)
    rw [e] at e'; cases e'
structure Cov (X : Cx) (pins : List (Addr × Obj)) (G : Heap) : Prop where
  loc : G.get? X.env.locals ≠ none
  cell : ∀ x c, X.env.cells.lookup x = some c → G.get? c ≠ none
  pin : ∀ p ∈ X.pn ++ pins, G.get? p.1 ≠ none
  old : ∀ b, G.get? b = none → X.s₀.heap.get? b = none
theorem Inv.cov {X : Cx} {pins : List (Addr × Obj)} {σ : St} {H : Hp} {s : Shared} (I : Inv X pins σ H s) (hex : X.ex = []) : Cov X pins s.heap :=
  ⟨by obtain ⟨m, ⟨o, _, _, ho, _⟩, _⟩ := I.loc; rw [ho]; simp, fun x c e => by obtain ⟨v, o, ho, _⟩ := I.cell x c e; rw [ho]; simp, fun p hp => by rw [(I.pin p hp).1]; simp, I.back hex⟩
structure Told (X : Cx) (S : St → Prop) (E : XK) : Prop where
  ex : X.ex = []
  on : ∀ pins σ H s a C ed G, S σ → Inv X pins σ H s → Trc H s.heap G a C ed .none → Cov X pins G → (∀ b, s.heap.get? b = none → G.get? b = none) → E C ed H → X.xe (.ref a) s
theorem Told.passes {X : Cx} {S : St → Prop} {E : XK} (T : Told X S E) {pins : List (Addr × Obj)} {σ : St} {H : Hp} {s s' : Shared} {e : Value} (hS : S σ) (I : Inv X pins σ H s) (h : CXE X.prog X.w X.stack H s E e s') : X.xe e s' := by
  obtain ⟨a, C, ed, H', rfl, os, bare, un, hok, t, q⟩ := h
  have J : Inv X pins σ H' s' := I.call' os un hok bare (fun b z => absurd z (by simp))
  refine T.on pins σ H' s' a C ed s.heap hS J t (I.cov T.ex) (fun b e => ?_) q
  cases z : s.heap.get? b with
  | none => rfl
  | some o =>
    obtain ⟨o', e'⟩ := un.there b o z (by simp)
    rw [e] at e'; cases e'
theorem Kp.hok {P : Program} {w : World} {H : Hp} {G : Heap} {fs : List Addr} {h h' : Heap} (k : Kp H G fs h h') (hf : ∀ b ∈ fs, H b = none) (ok : HOk P w H h) : HOk P w H h' := fun a o e =>
  (ok a o e).stay (fun b u hb q => by
    have hn : H b ≠ none := by
      rcases hb with rfl | hb
      · rw [e]; simp
      · rw [hb]; simp
    exact k.keep b u q (fun z => hn (hf b z)) (.inr hn)) (fun _ q => q) fun _ _ q => q
theorem leave_own {X : Cx} {pins : List (Addr × Obj)} {σ : St} {H : Hp} {s : Shared} {a : Addr} {C : Value} {ed : Option Addr} {E : XK} {E' : Value → Shared → Prop} (hf : X.env.frame = some X.env.locals) (hst : X.stack = X.env :: X.outer) (hex : X.ex = [])
    (I : Inv X pins σ H s) (t : Trc H s.heap X.s₀.heap a C ed .none) (q : E C ed H) :
    wpAny (model X.prog X.w) X.A (leaving X.env (.ref a)) (fun _ s' => CXE X.prog X.w X.outer X.H₀ X.s₀ E (.ref a) s') E' s := by
  have stk : s.heap.FunFrames X.base (X.env :: X.outer) := hst ▸ I.stack
  have sfr : ∀ b ∈ frs (X.env :: X.outer), H b = none := hst ▸ I.stkFree
  unfold leaving
  refine wpAny_bind (note_wp (hst ▸ I.ok.frames) stk hf (fun b hb => I.hok.fresh hb) (fun b hb => I.back hex b (get_none hb)) t fun h1 t1 f1 k1 => ?_)
  refine flight_wp (s := { s with heap := h1 }) (outer := X.env :: X.outer) f1 t1 fun h2 t2 f2 k2 _ => ?_
  have hlt : ∀ b o, X.s₀.heap.get? b = some o → X.s₀.heap.get? b ≠ none := fun b o e => by rw [e]; simp
  have hnl : ∀ b o, X.s₀.heap.get? b = some o → b ≠ X.env.locals := fun b o e => Nat.ne_of_lt (Nat.lt_of_lt_of_le (Heap.lt_size e) I.ok.above)
  have mem : ∀ b, b ∈ frs (X.env :: X.outer) → b = X.env.locals ∨ b ∈ frs X.outer := fun b hb => by
    unfold frs at hb ⊢
    rw [List.filterMap_cons, hf] at hb
    exact List.mem_cons.mp hb
  have mem2 : ∀ b, b ∈ frs X.outer → b ∈ frs (X.env :: X.outer) := fun b hb => by
    unfold frs at hb ⊢
    rw [List.filterMap_cons, hf]
    exact List.mem_cons_of_mem _ hb
  refine ⟨a, C, ed, H, rfl, I.os, I.bare, ⟨fun b o e hn hb _ => ?_, fun b o e hn hb _ => ?_, fun b o e hn _ => ?_, fun b o e _ => ?_, I.base.tups, I.base.frzs, I.base.tbls⟩, k2.hok (fun _ z => absurd z (by simp)) (k1.hok sfr I.hok), t2, q⟩
  · have e1 := I.base.keep b o e hn hb (by rw [hex]; simp)
    have e2 := k1.keep b o e1 (fun z => (mem b z).elim (hnl b o e) hb) (.inl (hlt b o e))
    exact k2.keep b o e2 (by simp) (.inl (hlt b o e))
  · obtain ⟨sl, e1⟩ := I.base.slot b o e hn hb (by rw [hex]; simp)
    obtain ⟨sl', e2⟩ := k1.slot b _ e1 (mem2 b hb)
    exact ⟨sl', k2.keep b _ e2 (by simp) (.inl (hlt b o e))⟩
  · exact I.base.free b o e hn (by rw [hex]; simp)
  · obtain ⟨o1, e1⟩ := I.base.there b o e (by rw [hex]; simp)
    obtain ⟨o2, e2⟩ := k1.there b o1 e1
    exact k2.there b o2 e2
theorem told_cx {P : Program} {w : World} {K : PySem.W.Frag} {mg : Str → Option Value} {base : Heap} {N : List Str} {qual : Str} {scope : Scope} {f : Addr} {cd : Value} {A : Around} {outer : List Env} {s : Shared} {H : Hp} {E : XK} :
    Told (cxOf (CXE P w) P w K mg base N qual scope f cd A outer s H E) (fun _ => True) E := ⟨rfl, fun _ _ _ _ _ _ _ _ _ I t c _ q => leave_own (X := cxOf (CXE P w) P w K mg base N qual scope f cd A outer s H E) rfl rfl rfl I (t.older c.old) q⟩
theorem Fun.okX {P : Program} {w : World} {K : PySem.W.Frag} {mg : Str → Option Value} {base : Heap} {x qual : Str} {st : Stmt} {f : Addr} {fd : FuncData} {N ps : List Str} {k : Nat} {sp : Sp} (F : Fun K x qual st f fd) (S : FnScope N ps (defScope st)) (len : ∀ vs H Q E, sp vs H Q E → vs.length = ps.length)
    (hbody : ∀ (cdv : Value) (A : Around) (outer : List Env) (s : Shared) (H : Hp) (vs : List V) (Q : VK) (E : XK), Room k (A.deeper (envOfC qual (defScope st) s.heap.objs.size f cdv)) → sp vs H Q E →
      ∃ t, PSs (cxOf (CXE P w) P w K mg base N qual (defScope st) f cdv A outer s H E) (defBody st) t ∧ t { nx := fun _ H' => Q .non H', rt := Q } (start N vs) H) : FnOk P w K mg base (CXE P w) (k + 1) f fd ps sp := by
  obtain ⟨oc, od, kV, doc, pm, an, cdv, ct, osl, rfl, lk, hcd⟩ := F.ex
  exact fn_of lk hcd S len fun A outer s H vs Q E hr hsp => hbody cdv A outer s H vs Q E hr hsp
section
variable {X : Cx} {k : Nat} {f C : Addr} {fd : FuncData} {ps : List Str} {sp : Sp} {x m : Str} {p pos apos : Pos} {e o : Expr} {es : List Expr} {ta : TE} {t : TA} {S : St → Prop} {E : XK}
theorem run_fnX {pins : List (Addr × Obj)} {σ : St} {H : Hp} {s : Shared} {Q : VK} {us : List Value} {vs : List V} (T : Told X S E) (F : FnOk X.prog X.w X.K X.mg X.base (CXE X.prog X.w) k f fd ps sp) (hr : Room k X.A) (hb : Binds X.K fd ps []) (hS : S σ)
    (I : Inv X pins σ H s) (r : Vals vs us) (h : sp vs H Q E) : wpAny (model X.prog X.w) X.A (call (.ref f) us) (EP X pins σ Q) X.xe s := by
  have hl : (us ++ ([] : List Value)).length = ps.length := by rw [List.append_nil, ← r.length]; exact F.len _ _ _ _ h
  have bd := hb s us I.kIn hl
  rw [List.append_nil] at bd
  refine wpAny_call (codeAny_mono (F.run X.A X.stack s H ⟨us, []⟩ us vs Q E hr I.env0 bd r h) fun r s' hq => ?_)
  match r, hq with
  | .error e, hq => exact T.passes hS I hq
  | .ok (.ret u), hq => exact I.after hq
  | .ok .next, hq => exact False.elim hq
  | .ok .brk, hq => exact False.elim hq
  | .ok .cont, hq => exact False.elim hq
noncomputable def tCallX (S : St → Prop) (sp : Sp) (E : XK) (t : TA) : TE := fun σ H Q => t σ H fun vs H1 => S σ ∧ sp vs H1 Q E
theorem pe_defX {st : Stmt} (T : Told X S E) (D : DefOk X.K X.mg x st ps f fd) (G : FnOk X.prog X.w X.K X.mg X.base (CXE X.prog X.w) k f fd ps sp) (hr : Room k X.A)
    (hg : Gl X x) (hdb : (x == ("__debug__" : Str)) = false) (hn : (e :: es).all notStar = true) (ha : PA X (e :: es) t) :
    PE X (.Call (.Name x p) (e :: es) [] pos) (tCallX S sp E t) := by
  have hs : notStar e = true ∧ es.all notStar = true := by rw [List.all_cons, Bool.and_eq_true] at hn; exact hn
  intro pins s σ H Q I h
  refine wpAny_Call_Name_kw (ld_glob I hg D.m ?_ hdb)
  refine PySem.W.callWith_K (h₀ := X.base) I.ok.mod.kin D.F.kp (thn (ha pos pins s σ H _ I h) fun us s1 ⟨vs, H1, I1, r, hS, q⟩ => ⟨I1.kIn, ?_⟩) (star_cons hs.1) (back_none hs.2)
  exact run_fnX T G hr D.b hS I1 r q
end
end L2
set_option maxHeartbeats 1000000
namespace L2
open PySem PySem.Spec PyProof.Rows
noncomputable abbrev vbm : List Value := [.type "ValueError", .type "Exception", .type "BaseException", .type "object"]
theorem ns_any {K : PySem.W.Frag} {h : Heap} {N : Addr} {mg : Str → Option Value} {n : Str} {r : Option Value} (X : K.In h) (G : h.Ns N mg) (e : PySem.W.nsIn K N n = some r) : mg n = r := by
  obtain ⟨o, es, ep, ho, hd, _, hf⟩ := G
  unfold PySem.W.nsIn at e
  split at e
  · rename_i q
    have z := X _ _ q
    rw [ho] at z
    cases z
    cases hd
    rw [← hf]
    unfold nsFind findBy
    rw [← Array.find?_toList]
    split at e
    · rename_i he
      rw [he]
      exact Option.some.inj e
    · rename_i he
      rw [he]
      split at e
      · cases e
      · exact Option.some.inj e
  · cases e
noncomputable def exB (K : PySem.W.Frag) (C : Addr) (ini : Option Value) : Bool := match K.lookup C with
  | some ⟨.type "type", _, .cls cd, sl⟩ => (match cd.mro, sl.toList with
    | .ref C' :: bm, [_, _, _, _, some (.builtin n), _] => C' == C && (n == "ValueError.__new__" && (PySem.W.tailIn K vbm bm && (!cd.hasDel && (PySem.W.nsOkIn K cd.ns && PySem.W.nsIn K cd.ns "__init__" == some ini))))
    | _, _ => false)
  | _ => false
theorem exB_obj {K : PySem.W.Frag} {h : Heap} {C : Addr} {ini : Option Value} (X : K.In h) (q : exB K C ini = true) :
    ∃ nm qn N bs bm hd sn sub ab col dd k0 k1 k2 k3 k5, h.get? C = some (excClassObj nm qn C N bs bm hd sn sub ab col dd k0 k1 k2 k3 k5 "ValueError.__new__") ∧ (∃ mN, h.Ns N mN ∧ mN "__init__" = ini) ∧ OwnTail h vbm bm := by
  unfold exB at q
  split at q
  · rename_i dd cd sl ho
    split at q
    · rename_i C' bm k0 k1 k2 k3 n k5 hm hs
      simp only [Bool.and_eq_true, beq_iff_eq, Bool.not_eq_true'] at q
      obtain ⟨rfl, rfl, ht, hdel, hok, hni⟩ := q
      obtain ⟨nm, bs, mro, ns, qn, hd, sn, sub, ab, col, del⟩ := cd
      obtain ⟨l⟩ := sl
      dsimp only at hm hdel hok hni hs
      subst hm hdel hs
      have hN : h.Ns ns (h.nsMap ns) := .of_isNs (PySem.W.isNs_of_in X hok)
      exact ⟨nm, qn, ns, bs, bm, hd, sn, sub, ab, col, dd, k0, k1, k2, k3, k5, X _ _ ho, ⟨_, hN, ns_any X hN hni⟩, PySem.W.tail_of_in X ht⟩
    · cases q
  · cases q
theorem exB_base {h : Heap} {bm : List Value} (T : OwnTail h vbm bm) : bm.contains (.type "BaseException") = true := T.hasType (by decide)
theorem ObjOk.got {P : Program} {w : World} {H : Hp} {h : Heap} {a : Addr} {o : HO} (x : ObjOk P w H h a o) : ∃ u, h.get? a = some u := by
  cases o with
  | lst xs => obtain ⟨_, _, _, _, e⟩ := x; exact ⟨_, e⟩
  | tup xs => obtain ⟨_, _, _, _, e, _⟩ := x; exact ⟨_, e⟩
  | dK kvs => obtain ⟨_, _, _, _, o, _, _, e, _⟩ := x; exact ⟨_, e⟩
  | dT kvs => obtain ⟨_, _, _, _, o, _, _, e, _⟩ := x; exact ⟨_, e⟩
  | set S n => obtain ⟨o, _, _, _, e, _⟩ := x; exact ⟨_, e⟩
  | ins C dx fs => obtain ⟨_, _, _, e, _⟩ := x; exact ⟨_, e⟩
  | own y => exact x
  | xd fs => obtain ⟨_, ⟨_, _, _, e, _⟩, _⟩ := x; exact ⟨_, e⟩
  | rng lo hi => obtain ⟨_, _, _, e⟩ := x; exact ⟨_, e⟩
  | frz ob u => obtain ⟨e, _⟩ := x; exact ⟨_, e⟩
  | tbl ps => exact ⟨_, (show h.get? a = some _ from x)⟩
  | met f y => exact ⟨_, (show h.get? a = some _ from x)⟩
  | ext φ => obtain ⟨_, e, _⟩ := x; exact e
theorem HOk.unheld {P : Program} {w : World} {H : Hp} {h : Heap} {a : Addr} (x : HOk P w H h) (e : h.get? a = none) : H a = none := by
  cases q : H a with
  | none => rfl
  | some o =>
    obtain ⟨u, e'⟩ := (x a o q).got
    rw [e] at e'; cases e'
theorem made_trc {H : Hp} {h h' G : Heap} {e : Addr} {C : Value} {vs : List Value} (m : Heap.MadeExcOf h h' e C vs) (hG : ∀ b, h.get? b = none → G.get? b = none) (hH : ∀ b, h.get? b = none → H b = none) : Trc H h' G e C none .none := by
  obtain ⟨t, he, _, _⟩ := m.there
  exact ⟨hG e m.new, hH e m.new, _, _, he, rfl, rfl, rfl, Nat.lt_of_sub_eq_succ rfl, .inl ⟨rfl, rfl⟩⟩
section
variable {X : Cx} {e : Expr} {es : List Expr} {t : TA} {S : St → Prop} {E : XK}
noncomputable def tRaise (S : St → Prop) (E : XK) (C : Addr) (t : TA) : TS := fun _ σ H => t σ H fun vs H1 => S σ ∧ vs.length ≤ sizeLine ∧ E (.ref C) none H1
theorem ps_raise {x : Str} {np cpos pos : Pos} {C : Addr} (T : Told X S E) (hcalm : X.calm = true) (q : exB X.K C none = true) (hg : Gl X x) (hm : X.mg x = some (.ref C)) (hdb : (x == ("__debug__" : Str)) = false) (hn : (e :: es).all notStar = true) (ha : PA X (e :: es) t) :
    PS X (.Raise (some (.Call (.Name x np) (e :: es) [] cpos)) none pos) (tRaise S E C t) := by
  intro pins s σ H D I h
  have hs : notStar e = true ∧ es.all notStar = true := by rw [List.all_cons, Bool.and_eq_true] at hn; exact hn
  obtain ⟨nm, qn, N, bs, bm, hd, sn, sub, ab, col, dd, k0, k1, k2, k3, k5, hC, ⟨mN, hN, hni⟩, TL⟩ := exB_obj I.ok.mod.kin q
  have F := PySem.F.excBase_ValueError
  refine wpAny_Raise_call_subU (nm := nm) (q := qn) (C := C) (N := N) (bs := bs) (bm := bm) (hdct := hd) (sn := sn) (sub := sub) (ab := ab) (col := col) (dd := dd) (k0 := k0) (k1 := k1) (k2 := k2) (k3 := k3) (k5 := k5) F (by decide) F (exB_base TL) (I.ok.hd hcalm) (back_none hn) hni (ld_glob I hg hm ⟨rfl, ?_⟩ hdb)
  have hst := star_cons (es := es) (env := X.env) hs.1
  have ha2 := ha cpos pins s σ H _ I h
  rw [hst] at ha2 ⊢
  refine Calls.evalArgs_plain (thn ha2 fun us s1 z => ?_)
  obtain ⟨vs, H1, I1, r, hS, hl, qE⟩ := z
  refine ⟨rfl, by rw [← r.length]; exact hl, I1.bk _ _ hC, hN.keeps I1.bk, TL.keeps I1.bk, fun h' a m => ?_⟩
  have J : Inv X pins σ H1 { s1 with heap := h' } := by
    have := I1.kept (h' := h') (t' := s1.toks) m.keeps
    exact this
  refine T.on pins σ H1 _ a (.ref C) none s1.heap hS J (made_trc m (fun b hb => hb) fun b hb => I1.hok.unheld hb) (I1.cov T.ex) (fun b hb => ?_) qE
  cases z : s1.heap.get? b with
  | none => rfl
  | some o =>
    have := m.keeps b o z
    rw [show h'.get? b = none from hb] at this; cases this
end
end L2
set_option maxHeartbeats 1000000
namespace L2
open PySem PySem.Spec PyProof.Rows
section
variable {X : Cx} {pins : List (Addr × Obj)} {σ : St} {H : Hp} {s : Shared} {G : Heap}
theorem Inv.kp {h' : Heap} (I : Inv X pins σ H s) (c : Cov X pins G) (k : Kp H G (frs X.stack) s.heap h') : Inv X pins σ H { s with heap := h' } := by
  have any : ∀ b o, s.heap.get? b = some o → G.get? b ≠ none → ∃ sl, h'.get? b = some { o with slots := sl } := fun b o e hg => by
    by_cases hb : b ∈ frs X.stack
    · exact k.slot b o e hb
    · exact ⟨o.slots, k.keep b o e hb (.inl hg)⟩
  have hG : ∀ b o, X.s₀.heap.get? b = some o → G.get? b ≠ none := fun b o e z => by
    have := c.old b z
    rw [e] at this; cases this
  have nL : ∀ b o, X.s₀.heap.get? b = some o → b ≠ X.env.locals := fun b o e => Nat.ne_of_lt (Nat.lt_of_lt_of_le (Heap.lt_size e) I.ok.above)
  have cellK : ∀ x cc, X.env.cells.lookup x = some cc → ∀ v, s.heap.IsCell cc v → h'.IsCell cc v := fun x cc e v ⟨o, ho, hd⟩ => by
    obtain ⟨sl, q⟩ := any cc o ho (c.cell x cc e)
    exact ⟨_, q, hd⟩
  refine ⟨I.ok, I.os, I.bare, ⟨fun b o e hn hb hx => ?_, fun b o e hn hb hx => ?_, I.base.free, fun b o e hx => ?_, I.base.tups, I.base.frzs, I.base.tbls⟩, ?_, fun x cc e => ?_, I.free, I.freeC, fun p hp => ?_, k.hok I.stkFree I.hok, I.len⟩
  · exact k.keep b o (I.base.keep b o e hn hb hx) (fun z => (List.mem_cons.mp (I.stkSub b z)).elim (nL b o e) hb) (.inl (hG b o e))
  · obtain ⟨sl, e1⟩ := I.base.slot b o e hn hb hx
    obtain ⟨sl', e2⟩ := any b _ e1 (hG b o e)
    exact ⟨sl', e2⟩
  · obtain ⟨o1, e1⟩ := I.base.there b o e hx
    exact k.there b o1 e1
  · obtain ⟨m, ⟨o, es, ep, ho, r⟩, hl⟩ := I.loc
    obtain ⟨sl, q⟩ := any _ o ho c.loc
    refine ⟨m, ⟨_, es, ep, q, r⟩, fun i x v e1 e2 e3 => ?_⟩
    obtain ⟨u, ru, l⟩ := hl i x v e1 e2 e3
    refine ⟨u, ru, ?_⟩
    rcases l with l | ⟨kk, cc, e, z⟩
    · exact .inl l
    · exact .inr ⟨kk, cc, e, cellK x cc e _ z⟩
  · obtain ⟨v, z⟩ := I.cell x cc e
    exact ⟨v, cellK x cc e v z⟩
  · obtain ⟨e, n, ne, nf, d⟩ := I.pin p hp
    exact ⟨k.keep p.1 p.2 e (fun z => (List.mem_cons.mp (I.stkSub p.1 z)).elim ne nf) (.inl (c.pin p hp)), n, ne, nf, d⟩
theorem Inv.hold {a : Addr} {o : HO} (I : Inv X pins σ H s) (c : Cov X pins G) (ha : G.get? a = none) (hH : H a = none) (ok : ObjOk X.prog X.w (upd H a o) s.heap a o) : Inv X pins σ (upd H a o) s := by
  have ne : ∀ b, G.get? b ≠ none → b ≠ a := fun b h z => by subst z; exact h ha
  have ne2 : ∀ b u, H b = some u → b ≠ a := fun b u h z => by subst z; rw [hH] at h; cases h
  have neo : ∀ b o', X.s₀.heap.get? b = some o' → b ≠ a := fun b o' e z => by
    subst z
    have := c.old b ha
    rw [e] at this; cases this
  refine ⟨I.ok, I.os, I.bare, ⟨I.base.keep, I.base.slot, fun b o' e hn hx => by rw [upd_ne (neo b o' e)]; exact I.base.free b o' e hn hx, I.base.there, fun b xs e => ?_, fun b o' u e => ?_, fun b ps e => ?_⟩, I.loc, I.cell, by rw [upd_ne (ne _ c.loc)]; exact I.free, fun x cc e => by rw [upd_ne (ne _ (c.cell x cc e))]; exact I.freeC x cc e, fun p hp => ?_, fun b u e => ?_, I.len⟩
  · have := I.base.tups b xs e
    rw [upd_ne (ne2 b _ this)]; exact this
  · have := I.base.frzs b o' u e
    rw [upd_ne (ne2 b _ this)]; exact this
  · obtain ⟨m, this⟩ := I.base.tbls b ps e
    exact ⟨m, by rw [upd_ne (ne2 b _ this)]; exact this⟩
  · obtain ⟨e, n, r⟩ := I.pin p hp
    exact ⟨e, by rw [upd_ne (ne _ (c.pin p hp))]; exact n, r⟩
  · by_cases z : b = a
    · subst z
      rw [upd_same] at e
      cases e
      exact ok
    · rw [upd_ne z] at e
      exact (I.hok b u e).stay (fun _ _ _ q => q) (fun d q => by rw [upd_ne (ne2 d _ q)]; exact q) fun d xs q => by rw [upd_ne (ne2 d _ q)]; exact q
theorem name_gone {M : Model} {A : Around} {E : Value → Shared → Prop} {i : Nat} {n : Str} {pos : Pos} {Q : Unit → Shared → Prop} (I : Inv X pins σ H s) (hN : X.N.Nodup) (hi : X.N[i]? = some n) (hk : X.env.scope.names.lookup n = some .local)
    (h : ∀ s', Inv X pins (σ.set i none) H s' → Q () s') : wpAny M A (do bindName X.env n .none; unbindBehindTheSuite X.env n pos) Q E s := by
  refine wpAny_bind (wpAny_bindName (store_ok (v := .non) I hN hi (.inl hk) rfl (fun s1 I1 => ?_) (.inr hk)))
  have hcls : (X.env.scope.kind == .class || (X.env.scope.kind == .module && X.env.locals != X.env.globals)) = false := by rw [I.ok.kind]; rfl
  have hiσ : i < σ.length := by rw [I.len]; exact (List.getElem?_eq_some_iff.mp hi).1
  obtain ⟨m, hn, hl⟩ := id I1.loc
  obtain ⟨u, ru, l⟩ := hl i n .non hi (List.getElem?_set_self hiσ) (.inl hk)
  have hv : m n = some u := by
    rcases l with l | ⟨l, _⟩
    · exact l.2
    · have l2 : X.env.scope.names.lookup n = some .cell ∨ X.env.scope.names.lookup n = some .free := l
      rw [hk] at l2
      rcases l2 with l2 | l2 <;> cases l2
  unfold unbindBehindTheSuite
  refine wpAny_onRaise (wpAny_unbindName_local hk hn hv hcls fun h' u' hn' hs => h _ ?_)
  obtain ⟨oL, _, _, hoL, _⟩ := id hn
  refine ⟨I1.ok, I1.os, I1.bare, ⟨fun b o e n hb hx => ?_, fun b o e n hb hx => ?_, I1.base.free, fun b o e hx => ?_, I1.base.tups, I1.base.frzs, I1.base.tbls⟩, ⟨_, hn', fun j y v' e1 e2 e3 => ?_⟩, fun y c e => ?_, I1.free, I1.freeC, fun p hp => ?_, fun b ob e => ?_, by simpa using I.len⟩
  · exact (hs.2 b (Nat.ne_of_lt (Nat.lt_of_lt_of_le (Heap.lt_size e) I1.ok.above))).trans (I1.base.keep b o e n hb hx)
  · obtain ⟨sl, e1⟩ := I1.base.slot b o e n hb hx
    exact ⟨sl, (hs.2 b (Nat.ne_of_lt (Nat.lt_of_lt_of_le (Heap.lt_size e) I1.ok.above))).trans e1⟩
  · obtain ⟨o', e1⟩ := I1.base.there b o e hx
    exact ⟨o', (hs.2 b (Nat.ne_of_lt (Nat.lt_of_lt_of_le (Heap.lt_size e) I1.ok.above))).trans e1⟩
  · by_cases hj : j = i
    · subst hj
      rw [List.getElem?_set_self hiσ] at e2
      cases e2
    · rw [List.getElem?_set_ne (Ne.symm hj)] at e2
      obtain ⟨w, rw', q⟩ := hl j y v' e1 (by rw [List.getElem?_set_ne (Ne.symm hj)]; exact e2) e3
      refine ⟨w, rw', ?_⟩
      rcases q with ⟨kk, e⟩ | ⟨kk, c, e, z⟩
      · refine .inl ⟨kk, ?_⟩
        have : y ≠ n := fun e => hj (nodup_ix hN e1 (e ▸ hi))
        simp [this, e]
      · exact .inr ⟨kk, c, e, z.sameBut hs (I1.cne y c e)⟩
  · obtain ⟨w', z⟩ := I1.cell y c e
    exact ⟨w', z.sameBut hs (I1.cne y c e)⟩
  · obtain ⟨e, n, ne, nf, d⟩ := I1.pin p hp
    exact ⟨(hs.2 p.1 ne).trans e, n, ne, nf, d⟩
  · refine (I1.hok b ob e).stay (fun c w' hc q => (hs.2 c ?_).trans q) (fun _ q => q) fun _ _ q => q
    rintro rfl
    rcases hc with rfl | hc
    · rw [I1.free] at e; cases e
    · rw [I1.free] at hc; cases hc
end
end L2
set_option maxHeartbeats 1000000
namespace L2
open PySem PySem.Spec PyProof.Rows
noncomputable def ExO (a : Addr) (C : Value) (ed : Option Addr) : HO := .ext fun h => ∃ oe vs, h.get? a = some oe ∧ oe.cls = C ∧ oe.dict = ed ∧ oe.data = .fields vs
theorem exo_ok {P : Program} {w : World} {H : Hp} {h : Heap} {a : Addr} {C : Value} {ed : Option Addr} (x : ∃ oe vs, h.get? a = some oe ∧ oe.cls = C ∧ oe.dict = ed ∧ oe.data = .fields vs) : ObjOk P w H h a (ExO a C ed) :=
  ⟨x, (let ⟨oe, _, e, _⟩ := x; ⟨oe, e⟩), fun h1 h2 ⟨oe, vs, e, r⟩ k => ⟨oe, vs, k oe e, r⟩⟩
noncomputable def Cx.inTry (X : Cx) (pins : List (Addr × Obj)) (W : Value → Shared → Prop) : Cx := { X with xe := W, pn := X.pn ++ pins }
noncomputable def Cx.inHand (X : Cx) (a : Addr) : Cx := { X with A := X.A.mark (some (.ref a)), calm := false, xe := fun _ _ => False }
section
variable {X : Cx} {pins : List (Addr × Obj)} {σ : St} {H : Hp} {s : Shared} {G : Heap} {W : Value → Shared → Prop}
theorem Inv.inTry (I : Inv X pins σ H s) : Inv (X.inTry pins W) [] σ H s :=
  have ok := I.ok
  ⟨⟨ok.mod, ok.kind, ok.glob, ok.blt, ok.above, ok.inj, ok.has, ok.cab, ok.hd, ok.frames, ok.stk, ok.exf, ok.bs, ok.bsz, ok.noex, ok.exfs, ok.funs, ok.frf⟩, I.os, I.bare, I.base, I.loc, I.cell, I.free, I.freeC,
    fun p hp => I.pin p (by rw [List.append_nil] at hp; exact hp), I.hok, I.len⟩
theorem Inv.offTry {pins' : List (Addr × Obj)} (I : Inv (X.inTry pins W) pins' σ H s) : Inv X pins σ H s :=
  have ok := I.ok
  ⟨⟨ok.mod, ok.kind, ok.glob, ok.blt, ok.above, ok.inj, ok.has, ok.cab, ok.hd, ok.frames, ok.stk, ok.exf, ok.bs, ok.bsz, ok.noex, ok.exfs, ok.funs, ok.frf⟩, I.os, I.bare, I.base, I.loc, I.cell, I.free, I.freeC,
    fun p hp => I.pin p (List.mem_append_left _ hp), I.hok, I.len⟩
theorem Cov.offTry {pins' : List (Addr × Obj)} (c : Cov (X.inTry pins W) pins' G) : Cov X pins G := ⟨c.loc, c.cell, fun p hp => c.pin p (List.mem_append_left _ hp), c.old⟩
theorem Inv.inHand {a : Addr} (I : Inv X pins σ H s) : Inv (X.inHand a) pins σ H s :=
  have ok := I.ok
  ⟨⟨ok.mod, ok.kind, ok.glob, ok.blt, ok.above, ok.inj, ok.has, ok.cab, (fun z => nomatch z), ok.frames, ok.stk, ok.exf, ok.bs, ok.bsz, ok.noex, ok.exfs, ok.funs, ok.frf⟩, I.os, I.bare, I.base, I.loc, I.cell, I.free, I.freeC, I.pin, I.hok, I.len⟩
theorem Inv.offHand {a : Addr} (I : Inv (X.inHand a) pins σ H s) (ox : X.Ok) : Inv X pins σ H s := ⟨ox, I.os, I.bare, I.base, I.loc, I.cell, I.free, I.freeC, I.pin, I.hok, I.len⟩
end
noncomputable def tryW (X : Cx) (pins : List (Addr × Obj)) (σ : St) (E : XK) : Value → Shared → Prop := fun e s => ∃ a C ed H G, e = .ref a ∧ Inv X pins σ H s ∧ Trc H s.heap G a C ed .none ∧ Cov X pins G ∧ (∀ b, s.heap.get? b = none → G.get? b = none) ∧ E C ed H
theorem told_try {X : Cx} {pins : List (Addr × Obj)} {σ : St} {E : XK} (hex : X.ex = []) : Told (X.inTry pins (tryW X pins σ E)) (fun σ' => σ' = σ) E :=
  ⟨hex, fun _ _ H _ a C ed G hS I t c hG q => ⟨a, C, ed, H, G, rfl, by subst hS; exact I.offTry, t, c.offTry, hG, q⟩⟩
noncomputable def PH (X : Cx) (hs : List ExceptHandler) (th : Value → Option Addr → TS) : Prop :=
  ∀ (pins : List (Addr × Obj)) (s : Shared) (σ : St) (H : Hp) (D : Ends) (a : Addr) (C : Value) (ed : Option Addr) (G : Heap), Inv X pins σ H s → Trc H s.heap G a C ed .none → Cov X pins G → th C ed D σ H →
    wpAny (model X.prog X.w) X.A (handleBy (.ref a) X.env hs) (SP X pins D) X.xe s
theorem ph_nil {X : Cx} : PH X [] (fun _ _ _ _ _ => False) := fun _ _ _ _ _ _ _ _ _ _ _ _ h => h.elim
noncomputable def subB (K : PySem.W.Frag) (C B : Addr) : Bool := match K.lookup C with
  | some ⟨_, _, .cls cd, _⟩ => cd.mro.contains (.ref B)
  | _ => false
theorem sub_of {K : PySem.W.Frag} {h : Heap} {C B : Addr} {ini : Option Value} {nm qn : Str} {N : Addr} {bs bm : List Value} {hd : Bool} {sn : List Str} {sub : List Value} {ab : Bool} {col : Option Bool} {dd : Option Addr} {k0 k1 k2 k3 k5 : Option Value} {nw : String} (X : K.In h) (q : exB K C ini = true)
    (hC : h.get? C = some (excClassObj nm qn C N bs bm hd sn sub ab col dd k0 k1 k2 k3 k5 nw)) : subB K C B = (Value.ref C :: bm).contains (.ref B) := by
  unfold exB at q
  split at q
  · rename_i ho
    have e := X _ _ ho
    rw [hC] at e
    cases e
    unfold subB
    rw [ho]
  · cases q
theorem match_own {M : Model} {A : Around} {E : Value → Shared → Prop} {h : Heap} {g : Array GenState} {d : Drawn} {t : Nat} {os : OsState} {e C B : Addr} {oe : Obj} {Q : Bool → Shared → Prop}
    {nm qn : Str} {N : Addr} {bs bm : List Value} {hd : Bool} {sn : List Str} {sub : List Value} {ab : Bool} {col : Option Bool} {dd : Option Addr} {k0 k1 k2 k3 k5 : Option Value} {nw : String}
    {nm' qn' : Str} {N' : Addr} {bs' bm' : List Value} {hd' : Bool} {sn' : List Str} {sub' : List Value} {ab' : Bool} {col' : Option Bool} {dd' : Option Addr} {l0 l1 l2 l3 l5 : Option Value} {nw' : String}
    (hC : h.get? C = some (excClassObj nm qn C N bs bm hd sn sub ab col dd k0 k1 k2 k3 k5 nw)) (hB : h.get? B = some (excClassObj nm' qn' B N' bs' bm' hd' sn' sub' ab' col' dd' l0 l1 l2 l3 l5 nw'))
    (he : h.get? e = some oe) (hcls : oe.cls = .ref C) (hbase : bm'.contains (.type "BaseException") = true) (hq : Q ((Value.ref C :: bm).contains (.ref B)) ⟨h, g, d, t, os⟩) : wpAny M A (excMatches (.ref e) (.ref B)) Q E ⟨h, g, d, t, os⟩ := by
  have hcB : (Value.ref B :: bm').contains (.type "BaseException") = true := by rw [List.contains_cons, hbase, Bool.or_true]
  have f := tc_notTuple
  unfold excMatches
  repeat (first | (with_reducible refine wpAny_loadPart_at he ?_; rw [hcls]) | with_reducible refine wpAny_loadPart_at hB ?_ | (with_reducible refine wpAny_isSubtype_exc hB ?_; rw [hcB]) | with_reducible refine wpAny_isSubtype_exc hC ?_ | wp_step)
  cases hb : (Value.ref C :: bm).contains (.ref B) <;> (rw [hb] at hq; wp_walk; exact hq)
end L2
set_option maxHeartbeats 1000000
namespace L2
open PySem PySem.Spec PyProof.Rows
noncomputable def offE (i : Nat) (D : Ends) : Ends := { nx := fun σ H => D.nx (σ.set i none) H, rt := D.rt, bk := fun σ H => D.bk (σ.set i none) H, ct := fun σ H => D.ct (σ.set i none) H }
noncomputable def tAs (K : PySem.W.Frag) (B : Addr) (i : Nat) (ts : TS) (thr : Value → Option Addr → TS) : Value → Option Addr → TS := fun C ed D σ H => ∃ Cc ini b, C = .ref Cc ∧ exB K Cc ini = true ∧ subB K Cc B = b ∧
  if b = true then (∀ a, H a = none → ts (offE i D) (σ.set i (some (.ref a))) (upd H a (ExO a C ed))) else thr C ed D σ H
section
variable {X : Cx}
theorem Kp.wide' {H : Hp} {G : Heap} {h h' : Heap} {fs : List Addr} (k : Kp H G [] h h') (hd : ∀ b ∈ fs, ∀ o, h.get? b = some o → ∃ sl, h'.get? b = some { o with slots := sl }) : Kp H G fs h h' :=
  ⟨fun b o e _ hx => k.keep b o e (by simp) hx, fun b o e hm => hd b hm o e, k.there, k.size⟩
theorem ph_as {x n : Str} {np hpos : Pos} {b₀ : Stmt} {suite : List Stmt} {rest : List ExceptHandler} {ts : TS} {thr : Value → Option Addr → TS} {B : Addr} {i : Nat} {inB : Option Value} (hg : Gl X x) (hm : X.mg x = some (.ref B)) (qB : exB X.K B inB = true) (hdb : (x == ("__debug__" : Str)) = false)
    (hN : X.N.Nodup) (hi : X.N[i]? = some n) (hk : X.env.scope.names.lookup n = some .local) (hsu : ∀ a, PSs (X.inHand a) (b₀ :: suite) ts) (hr : PH X rest thr) :
    PH X (.ExceptHandler (some (.Name x np)) (some n) (b₀ :: suite) hpos :: rest) (tAs X.K B i ts thr) := by
  intro pins s σ H D a C ed G I t c h
  obtain ⟨Cc, ini, b, rfl, q, hb, h⟩ := h
  have Ih : Inv (X.inHand a) pins σ H s := I.inHand
  refine wpAny_handleBy_cons (codeAny_handlers_test (ld_glob (X := X.inHand a) Ih hg hm ?_ hdb)) (by intro z; cases z)
  obtain ⟨_, qn, N, bs, bm, hd, sn, sub, ab, col, dd, k0, k1, k2, k3, k5, hC, _, TL⟩ := exB_obj I.kIn q
  obtain ⟨_, qn', N', bs', bm', hd', sn', sub', ab', col', dd', l0, l1, l2, l3, l5, hB, _, TB⟩ := exB_obj I.kIn qB
  obtain ⟨ha, hHa, oe, vs, he, hcl, hdi, hda, hsz, htb⟩ := id t
  obtain ⟨sh, sg, sd, stk, sos⟩ := s
  refine match_own hC hB he hcl (exB_base TB) ?_
  rw [← sub_of I.kIn q hC, hb]
  cases b with
  | false =>
    rw [if_neg Bool.false_ne_true] at h
    exact hr pins _ σ H D a _ ed G I t c h
  | true =>
    rw [if_pos rfl] at h
    refine codeAny_handlers_suite_as ?_
    refine flight_wp (outer := X.stack) I.stack t fun h1 t1 f1 kp1 kn1 => ?_
    have I1 : Inv X pins σ H { heap := h1, gens := sg, drawn := sd, toks := stk, os := sos } := I.kp c (kp1.wide' fun b hm o e => ?_)
    · have Ia : Inv X pins σ (upd H a (ExO a (.ref Cc) ed)) { heap := h1, gens := sg, drawn := sd, toks := stk, os := sos } := by
        obtain ⟨_, _, oe1, vs1, he1, hcl1, hdi1, hda1, _⟩ := id t1
        exact I1.hold c ha hHa (exo_ok ⟨oe1, vs1, he1, hcl1, hdi1, hda1⟩)
      refine store_ok (X := X.inHand a) (v := .ref a) Ia.inHand hN hi (.inl hk) rfl (fun s2 I2 => ?_) (.inr hk)
      refine wpAny_mono (hsu a pins s2 _ _ _ I2 (h a hHa)) (fun f s3 z => ?_) fun _ _ z => z.elim
      show wpAny _ X.A (do bindName X.env n .none; unbindBehindTheSuite X.env n hpos) _ _ s3
      cases f with
      | next =>
        obtain ⟨σ', H', J, z⟩ := z
        exact name_gone (J.offHand I.ok) hN hi hk fun s4 J4 => ⟨_, H', J4, z⟩
      | brk =>
        obtain ⟨σ', H', J, z⟩ := z
        exact name_gone (J.offHand I.ok) hN hi hk fun s4 J4 => ⟨_, H', J4, z⟩
      | cont =>
        obtain ⟨σ', H', J, z⟩ := z
        exact name_gone (J.offHand I.ok) hN hi hk fun s4 J4 => ⟨_, H', J4, z⟩
      | ret u =>
        obtain ⟨v, σ', H', J, rv, z⟩ := z
        exact name_gone (J.offHand I.ok) hN hi hk fun s4 J4 => ⟨v, _, H', J4, rv, z⟩
    · obtain ⟨_, o', ho', hnf⟩ := I.stack.mem hm
      have e' := ho'.symm.trans e
      cases e'
      exact ⟨o.slots, kn1 b o ho' hnf⟩
noncomputable def tTry (tb : St → XK → TS) (th : Value → Option Addr → TS) : TS := fun D σ H => tb σ (fun C ed H' => th C ed D σ H') D σ H
theorem ps_try {body : List Stmt} {h₀ : ExceptHandler} {hs : List ExceptHandler} {pos : Pos} {tb : St → XK → TS} {th : Value → Option Addr → TS} (hst : X.stack = X.env :: X.outer) (hfr : X.env.frame = some X.env.locals)
    (hb : ∀ (pins : List (Addr × Obj)) (σ : St) (E : XK), PSs (X.inTry pins (tryW X pins σ E)) body (tb σ E)) (hh : PH X (h₀ :: hs) th) : PS X (.Try body (h₀ :: hs) [] [] pos) (tTry tb th) := by
  intro pins s σ H D I h
  refine wpAny_Try_except (wpAny_mono (hb pins σ _ [] s σ H D I.inTry h) (fun f s1 z => ?_) fun e s1 z => ?_)
  · cases f with
    | next =>
      obtain ⟨σ', H', J, z⟩ := z
      exact wpAny_execs_nil ⟨σ', H', J.offTry, z⟩
    | brk =>
      obtain ⟨σ', H', J, z⟩ := z
      exact ⟨σ', H', J.offTry, z⟩
    | cont =>
      obtain ⟨σ', H', J, z⟩ := z
      exact ⟨σ', H', J.offTry, z⟩
    | ret u =>
      obtain ⟨v, σ', H', J, rv, z⟩ := z
      exact ⟨v, σ', H', J.offTry, rv, z⟩
  · obtain ⟨a, C, ed, H', G, rfl, J, t, c, hG, q⟩ := z
    refine note_wp (hst ▸ J.ok.frames) (hst ▸ J.stack) hfr (fun b hb => J.hok.fresh hb) ?_ t fun h1 t1 f1 k1 => ?_
    · exact fun b hb => hG b (get_none hb)
    · have J1 : Inv X pins σ H' { s1 with heap := h1 } := J.kp c (hst ▸ k1)
      refine flight_wp (s := { s1 with heap := h1 }) (outer := X.env :: X.outer) f1 t1 fun h2 t2 f2 k2 kn2 => ?_
      have J2 : Inv X pins σ H' { s1 with heap := h2 } := J1.kp c (k2.wide' fun b hm o e => ?_)
      · exact hh pins _ σ H' D a C ed G J2 t2 c q
      · have fs1 : h1.FunFrames X.base X.stack := hst ▸ f1
        obtain ⟨_, o', ho', hnf⟩ := fs1.mem hm
        have e' := ho'.symm.trans e
        cases e'
        exact ⟨o.slots, kn2 b o ho' hnf⟩
end
end L2
set_option maxHeartbeats 1000000
namespace L2
open PySem PySem.Spec PyProof.Rows
section
variable {prog : Program} {w : World} {A : Around} {E : Value → Shared → Prop} {s : Shared} {K : PySem.W.Frag} {a C : Addr} {ox : Obj} {od : Option Obj} {name : Str}
structure XCls (K : PySem.W.Frag) (C : Addr) : Prop where
  ga : PySem.W.findIn K (.ref C) "__getattribute__" = some (some (.builtin "BaseException.__getattribute__"))
  gh : PySem.W.findIn K (.ref C) "__getattr__" = some none
  base : PySem.W.mroIn K C (.type "BaseException") = some true
  obj : PySem.W.mroIn K C (.type "object") = some true
  hd : PySem.W.hasDictIn K C = true
  cl : PySem.W.findIn K (.ref C) "__class__" = some (some (.builtin "object.__class__"))
  cg : PySem.W.specialIn K (.builtin "object.__class__") "__get__" = some (some (.builtin "getset_descriptor.__get__"))
  ct : PySem.W.takesIn K (.builtin "object.__class__") = some true
theorem xga_call {tk : Tok} {R : Result → Shared → Prop} (c : XCls K C) (X : K.In s.heap) (I : PySem.W.InstAt s.heap a ox C od)
    (h : wpAny (model prog w) A.in1 (Builtin.«object.__getattribute__» ⟨[.ref a, .str name tk], []⟩) (fun fin s' => match fin with | .done f => R (.ok f) s' | .again c' => c'.quiet = true ∧ codeAny (model prog w) A c' R s') (fun e s' => R (.error e) s') s) :
    codeAny (model prog w) A (.call (.builtin "BaseException.__getattribute__") ⟨[.ref a, .str name tk], []⟩) R s := by
  have hi : PySem.W.Looks (model prog w) s.heap (isInstance (.ref a) (.type "BaseException")) true := I.type.andThen (PySem.W.looks_mroIn X c.base)
  have hk : builtinKind "BaseException.__getattribute__" = some .slot := by decide +kernel
  have hs : splitId "BaseException.__getattribute__" = some ("BaseException", "__getattribute__") := by decide +kernel
  refine codeAny_call_builtin PySem.F.attr_ValueError.ga.plain PySem.F.entry_bexc_ga (@PySem.W.check_slot (model prog w) _ _ s "BaseException.__getattribute__" "BaseException" "__getattribute__" (.ref a) [.str name tk] [] _ hk hs hi (PySem.F.args_bexc_ga _ _) ?_)
  exact h
theorem xget_by {tk : Tok} {fill expr : Bool} {v : Value} {Q : Value → Shared → Prop} (c : XCls K C) (X : K.In s.heap) (I : PySem.W.InstAt s.heap a ox C od) (hh : PySem.W.handedIn v = true)
    (h : ∀ R : Result → Shared → Prop, R (.ok (.ret v)) s → codeAny (model prog w) A (.call (.builtin "BaseException.__getattribute__") ⟨[.ref a, .str name tk], []⟩) R s) (q : Q v s) :
    wpAny (model prog w) A (getAttrBy (.ref a) (.str name tk) fill expr) Q E s := by
  obtain ⟨sh, g, d, t, os⟩ := s
  have L0 := I.type (M := model prog w)
  have L1 := PySem.W.looks_findIn (M := model prog w) X c.ga
  have L2 := PySem.W.looks_findIn (M := model prog w) X c.gh
  have f3 := PySem.F.attr_ValueError.ga.bind (.ref a)
  have hx2 : (Value.builtin "BaseException.__getattribute__" == Value.builtin "object.__getattribute__") = false := by decide +kernel
  unfold getAttrBy
  refine wpAny_holding (wpAny_bind (L0.at (wpAny_bind (L1.at ?_))))
  dsimp only
  rw [hx2, Bool.and_false, if_neg Bool.false_ne_true]
  unfold getAttrByItsOwn hookBefore
  refine wpAny_bind ?_
  rw [if_pos (show onTheHeap (Value.ref C) = true from rfl)]
  refine L2.at (wpAny_bind (wpAny_attempt (wpAny_holding ?_)))
  unfold callGetattribute boundAndCalled
  rw [if_neg (by cases expr <;> decide)]
  rw [f3]
  refine wpAny_bind (wpAny_pure (wpAny_call (h _ ?_)))
  show wpAny _ _ (handedOut v) _ _ _
  rw [PySem.W.handedOut_of hh]
  exact wpAny_pure q
theorem xget_class {tk : Tok} {R : Result → Shared → Prop} (c : XCls K C) (X : K.In s.heap) (I : PySem.W.InstAt s.heap a ox C od) (q : R (.ok (.ret (.ref C))) s) :
    codeAny (model prog w) A (.call (.builtin "BaseException.__getattribute__") ⟨[.ref a, .str "__class__" tk], []⟩) R s := by
  have hf : PySem.W.findObj K C od "__class__" = some (.bind (.builtin "getset_descriptor.__get__") (.builtin "object.__class__")) := by
    obtain ⟨cd, hc, _⟩ := PySem.W.any_some c.hd
    unfold PySem.W.findObj
    rw [hc, Option.bind_some, c.cl, Option.bind_some]
    simp [c.cg, c.ct]
  refine xga_call c X I ?_
  obtain ⟨sh, g, d, t, os⟩ := s
  have L0 := I.type (M := model prog w)
  have L1 := PySem.W.looks_find (M := model prog w) X I hf
  unfold Builtin.«object.__getattribute__»
  refine wpAny_bind (wpAny_pure (wpAny_bind (wpAny_pure (wpAny_bind (L0.at (wpAny_bind (L1.at ?_)))))))
  dsimp only
  refine wpAny_bind (wpAny_holding (wpAny_call (PySem.W.class_get (s := ⟨sh, g, d, t, os⟩) X I c.obj ?_)))
  exact wpAny_pure q
end
end L2
set_option maxHeartbeats 1000000
namespace L2
open PySem PySem.Spec PyProof.Rows
section
variable {K : PySem.W.Frag} {a C : Addr}
theorem kitx_exc (c : XCls K C) : PySem.W.KitX K (.ref a) (.ref C) (fun h => ∃ ox od, PySem.W.InstAt h a ox C od) where
  ty := fun _ _ _ ⟨_, _, I⟩ => I.type
  it := fun _ _ X _ => by
    obtain ⟨cd, hc, _⟩ := PySem.W.any_some c.hd
    unfold PySem.W.clsIn at hc
    split at hc
    · rename_i ho
      intro A' Q' E' s' k q
      unfold isType loadHead
      exact wpAny_bind (wpAny_loadPart (k _ _ (X _ _ ho)) (wpAny_pure q))
    · cases hc
  ne := fun h tp dd its n sl X htp => by
    obtain ⟨cd, hc, _⟩ := PySem.W.any_some c.hd
    refine Bool.eq_false_iff.mpr fun q => ?_
    have e : C = tp := Value.ref.inj (beq_iff_eq.mp q)
    subst e
    unfold PySem.W.clsIn at hc
    split at hc
    · rename_i ho
      have z := (X _ _ ho).symm.trans htp
      cases z
    · cases hc
  ca := fun {prog w A E Q s} X p k => by
    obtain ⟨ox, od, I⟩ := p
    unfold getAttr? getAttrBy?
    refine wpAny_bind (wpAny_mkText (wpAny_bind (wpAny_attempt ?_)))
    refine xget_by (s := { s with toks := s.toks + 1 }) c X I rfl (fun R q => xget_class (s := { s with toks := s.toks + 1 }) c X I q) ?_
    exact wpAny_pure k
end
noncomputable def XdOk (H : Hp) (ed : Option Addr) : Prop := ed = none ∨ ∃ dx fs, ed = some dx ∧ H dx = some (.xd fs)
section
variable {P : Program} {w : World} {H : Hp} {h : Heap} {a C : Addr} {ed : Option Addr}
theorem exo_inst (hok : HOk P w H h) (e : H a = some (ExO a (.ref C) ed)) (hd : XdOk H ed) : ∃ ox od, PySem.W.InstAt h a ox C od := by
  obtain ⟨⟨oe, vs, e1, e2, e3, e4⟩, _⟩ := (show ObjOk P w H h a (ExO a (.ref C) ed) from hok a _ e)
  have hn : PySem.W.notCls oe = true := by
    obtain ⟨c, d, dt, sl⟩ := oe
    cases e4
    rfl
  rcases hd with rfl | ⟨dx, fs, rfl, hx⟩
  · exact ⟨oe, none, e1, e2, hn, by rw [e3]; trivial⟩
  · obtain ⟨mA, hns, _⟩ := (show ObjOk P w H h dx (.xd fs) from hok dx _ hx)
    obtain ⟨od, ho, _⟩ := lookIn_ns hns
    exact ⟨oe, some od, e1, e2, hn, by rw [e3]; exact ho⟩
end
section
variable {X : Cx}
noncomputable def rIsX (K : PySem.W.Frag) : List V → Hp → VK → Prop := fun xs H Q => ∃ a C ed b, H a = some (ExO a (.ref C) ed) ∧ XdOk H ed ∧ XCls K C ∧ ((∃ B, xs = [.ref a, .ref B] ∧ PySem.W.kitOne K (.ref C) (.ref B) = some b) ∨ ∃ S, xs = [.ref a, .ty S] ∧ PySem.W.kitOne K (.ref C) (.type S) = some b) ∧ Q (.bl b) H
theorem call_isX : CallR X (.builtin "isinstance") (rIsX X.K) := by
  intro pins s σ H xs us Q I r h
  obtain ⟨a, C, ed, b, e, hd, c, hx, q⟩ := h
  have J := exo_inst I.hok e hd
  rcases hx with ⟨B, rfl, hk⟩ | ⟨S, rfl, hk⟩
  · obtain ⟨u, z, rfl, ru, rz⟩ := vals2 r
    cases (show u = Value.ref a from ru)
    cases (show z = Value.ref B from rz)
    exact PySem.W.kia_one (kitx_exc c) I.kIn J hk (fun z => nomatch z) fun tk => ⟨.bl b, H, I.tok _, rfl, q⟩
  · obtain ⟨u, z, rfl, ru, rz⟩ := vals2 r
    cases (show u = Value.ref a from ru)
    cases rz
    exact PySem.W.kia_one (kitx_exc c) I.kIn J hk (fun z => nomatch z) fun tk => ⟨.bl b, H, I.tok _, rfl, q⟩
theorem k_isX {K : PySem.W.Frag} (e : X.K = K) : CallR X (.builtin "isinstance") (rIsX K) := by subst e; exact call_isX
noncomputable def tXF (K : PySem.W.Frag) (te : TE) (f : Str) : TE := fun σ H Q => te σ H fun x H1 => ∃ a C dx fs v, x = .ref a ∧ H1 a = some (ExO a (.ref C) (some dx)) ∧ H1 dx = some (.xd fs) ∧ XCls K C ∧ NoAttr K C f ∧ fs.lookup f = some v ∧ Q v H1
end
end L2
set_option maxHeartbeats 1000000
namespace L2
open PySem PySem.Spec PyProof.Rows
theorem refuse_tail {h : Heap} {self : Value} : ∀ {tl : List Value}, OwnTail h vbm tl → refuseLoop self "__setattr__" tl = pure ()
  | _, .base => PySem.F.store_ValueError.passes self
  | _, .own _ _ _ T => by rw [refuseLoop_ref]; exact refuse_tail T
section
variable {prog : Program} {w : World} {A : Around} {E : Value → Shared → Prop} {h : Heap} {g : Array GenState} {d : Drawn} {t : Nat} {os : OsState} {K : PySem.W.Frag}
variable {nm q : Str} {C N a : Addr} {bs bm : List Value} {sn : List Str} {sub : List Value} {ab : Bool} {col : Option Bool} {dd : Option Addr} {k0 k1 k2 k3 k5 : Option Value} {newId : String} {name : Str} {v : Value} {o : Obj} {vs : Array Value}
theorem xset_entry {tk : Tok} {Q : Fin → Shared → Prop} (X : K.In h) (hC : h.get? C = some (excClassObj nm q C N bs bm true sn sub ab col dd k0 k1 k2 k3 k5 newId)) (hpass : refuseLoop (.ref a) "__setattr__" bm = pure ())
    (hna : PySem.W.findIn K (.ref C) name = some none) (hx : h.get? a = some o) (hc : o.cls = .ref C) (hd : o.data = .fields vs) (hdn : o.dict = none)
    (hq : ∀ h' tk', h'.get? a = some { o with dict := some h.objs.size } → h'.Ns1 h.objs.size (fun y => if y = name then some v else none) → (∀ b u, b ≠ a → h.get? b = some u → h'.get? b = some u) → Q (.done (.ret .none)) ⟨h', g, d, tk', os⟩) :
    wpAny (model prog w) A (Builtin.«object.__setattr__» ⟨[.ref a, .str name tk, v], []⟩) Q E ⟨h, g, d, t, os⟩ := by
  have L3 := PySem.W.looks_findIn (M := model prog w) X hna
  unfold Builtin.«object.__setattr__»
  repeat (first | rw [refuse_eq] | (rw [refuseLoop_ref, hpass]) | (with_reducible refine wpAny_loadPart_at hx ?_; rw [hc]) | with_reducible refine wpAny_mroOf_exc hC ?_ | with_reducible refine L3.at ?_ | wp_step)
  rw [hdn]
  dsimp only
  rw [if_neg (by simp [typeHasDict]), hd]
  dsimp only
  have ne : a ≠ h.objs.size := Nat.ne_of_lt (Heap.lt_size hx)
  have g1 : (h.push { cls := .type "dict", data := .dict #[] }).get? a = some o := Heap.get?_push_of_some _ hx
  refine wpAny_bind (wpAny_alloc' (wpAny_bind (wpAny_update' g1 (wpAny_pure ?_))))
  generalize hH : (h.push { cls := .type "dict", data := .dict #[] }).update a (fun o => { cls := o.cls, dict := some h.objs.size, data := o.data, slots := o.slots }) = h1
  have g2 : h1.get? h.objs.size = some { cls := .type "dict", data := .dict #[] } := by
    rw [← hH]
    exact (Heap.get?_update_ne _ _ _ _ ne.symm).trans (Heap.get?_push_at rfl rfl)
  have g3 : h1.get? a = some { cls := o.cls, dict := some h.objs.size, data := o.data, slots := o.slots } := by
    rw [← hH]
    refine Heap.get?_update_self _ g1 ?_
    have fr := (Heap.get?_some_iff.mp hx).2
    obtain ⟨oc, od, odt, osl⟩ := o
    cases odt <;> first | rfl | exact fr
  have g4 : ∀ b u, b ≠ a → h.get? b = some u → h1.get? b = some u := fun b u hb e => by
    rw [← hH]
    exact (Heap.get?_update_ne _ _ _ _ hb).trans (Heap.get?_push_of_some _ e)
  have n1 : h1.Ns h.objs.size (fun _ => none) := ⟨_, #[], _, g2, rfl, fun e he => absurd he (by simp), fun _ => rfl⟩
  show wpAny _ _ (Builtin.ObjectAttr.storeInDict h.objs.size (.str name tk) name v) _ _ _
  unfold Builtin.ObjectAttr.storeInDict Builtin.ObjectAttr.newKeyGuard
  refine wpAny_bind (wpAny_pure (wpAny_bind (wpAny_nsSet1 (Heap.Ns1.of_empty n1) fun h2 n2 hs => ?_)))
  obtain ⟨oD, esD, epD, hoD, hdD, hcD⟩ := n2.count (Within.cons name v Within.nil)
  refine wpAny_bind (wpAny_lookBehind hoD (by rw [hdD]; exact pastItsLine_dict (Nat.le_trans hcD (by rw [List.length_cons, List.length_nil, sizeLine_eq]; omega))) ?_)
  wp_walk
  exact hq h2 _ ((hs.2 a ne).trans g3) n2 fun b u hb e => (hs.2 b (Nat.ne_of_lt (Heap.lt_size e))).trans (g4 b u hb e)
theorem xset_attr {Q : Unit → Shared → Prop} (X : K.In h) (hC : h.get? C = some (excClassObj nm q C N bs bm true sn sub ab col dd k0 k1 k2 k3 k5 newId)) (T : OwnTail h vbm bm) (hsa : PySem.W.findIn K (.ref C) "__setattr__" = some (some (.builtin "object.__setattr__")))
    (hna : PySem.W.findIn K (.ref C) name = some none) (hx : h.get? a = some o) (hc : o.cls = .ref C) (hd : o.data = .fields vs) (hdn : o.dict = none)
    (hq : ∀ h' tk', h'.get? a = some { o with dict := some h.objs.size } → h'.Ns1 h.objs.size (fun y => if y = name then some v else none) → (∀ b u, b ≠ a → h.get? b = some u → h'.get? b = some u) → Q () ⟨h', g, d, tk', os⟩) :
    wpAny (model prog w) A (setAttr (.ref a) name v) Q E ⟨h, g, d, t, os⟩ := by
  have SF := PySem.F.store_ValueError
  have J : PySem.W.InstAt h a o C none := ⟨hx, hc, by obtain ⟨c, d, dt, sl⟩ := o; cases hd; rfl, by rw [hdn]; trivial⟩
  have hob : PySem.W.Looks (model prog w) h (isInstance (.ref a) (.type "object")) true := J.type.andThen fun A Q E s k z => by
    obtain ⟨sh, sg, sd, st, so⟩ := s
    refine wpAny_isSubtype_exc (k _ _ hC) ?_
    have : (Value.ref C :: bm).contains (.type "object") = true := by rw [List.contains_cons, T.hasType (X := "object") (b := true) (by decide), Bool.or_true]
    rw [this]; exact z
  refine PySem.W.set_plain (s := ⟨h, g, d, t, os⟩) X J hsa ?_
  refine codeAny_call_builtin SF.slot.plain SF.entry (@PySem.W.check_slot (model prog w) _ _ ⟨h, g, d, t + 1, os⟩ "object.__setattr__" "object" "__setattr__" (.ref a) [.str name t, v] [] _ SF.kind SF.split hob (SF.args (.ref a) (.str name t) v) ?_)
  exact xset_entry X hC (refuse_tail T) hna hx hc hd hdn fun h' tk' e1 e2 e3 => hq h' tk' e1 e2 e3
end
end L2
set_option maxHeartbeats 1000000
namespace L2
open PySem PySem.Spec PyProof.Rows
noncomputable def ExN (a : Addr) (C : Value) (ed : Option Addr) : HO := .ext fun h => ∃ oe vs, h.get? a = some oe ∧ oe.cls = C ∧ oe.dict = ed ∧ oe.data = .fields vs ∧ 1 < vs.size ∧ vs[1]? = some .none
theorem exn_ok {P : Program} {w : World} {H : Hp} {h : Heap} {a : Addr} {C : Value} {ed : Option Addr} (x : ∃ oe vs, h.get? a = some oe ∧ oe.cls = C ∧ oe.dict = ed ∧ oe.data = .fields vs ∧ 1 < vs.size ∧ vs[1]? = some .none) : ObjOk P w H h a (ExN a C ed) :=
  ⟨x, (let ⟨oe, _, e, _⟩ := x; ⟨oe, e⟩), fun _ _ ⟨oe, vs, e, r⟩ k => ⟨oe, vs, k oe e, r⟩⟩
theorem exn_get {P : Program} {w : World} {H : Hp} {h : Heap} {a : Addr} {C : Value} {ed : Option Addr} (hok : HOk P w H h) (e : H a = some (ExN a C ed)) : ∃ oe vs, h.get? a = some oe ∧ oe.cls = C ∧ oe.dict = ed ∧ oe.data = .fields vs ∧ 1 < vs.size ∧ vs[1]? = some .none :=
  (show ObjOk P w H h a (ExN a C ed) from hok a _ e).1
noncomputable def dropH (H : Hp) (a : Addr) : Hp := fun b => if b = a then none else H b
theorem drop_ne {H : Hp} {a b : Addr} (h : b ≠ a) : dropH H a b = H b := by unfold dropH; rw [if_neg h]
theorem drop_same {H : Hp} {a : Addr} : dropH H a a = none := by unfold dropH; rw [if_pos rfl]
section
variable {X : Cx} {pins : List (Addr × Obj)} {σ : St} {H : Hp} {s : Shared} {a : Addr}
theorem Inv.dropX {C : Value} {ed : Option Addr} (I : Inv X pins σ H s) (e : H a = some (ExN a C ed)) : Inv X pins σ (dropH H a) s := by
  have keep : ∀ b o, H b = some o → (∀ φ, o ≠ .ext φ) → dropH H a b = some o := fun b o q n => by
    rw [drop_ne]
    · exact q
    · intro z
      subst z
      rw [e] at q
      exact n _ (Option.some.inj q).symm
  have none_ : ∀ b, H b = none → dropH H a b = none := fun b q => by
    unfold dropH
    split
    · rfl
    · exact q
  refine ⟨I.ok, I.os, I.bare, ⟨I.base.keep, I.base.slot, fun b o q n hx => none_ b (I.base.free b o q n hx), I.base.there, fun b xs q => keep b _ (I.base.tups b xs q) (fun _ z => nomatch z), fun b o u q => keep b _ (I.base.frzs b o u q) (fun _ z => nomatch z), fun b ps q => ?_⟩, I.loc, I.cell, none_ _ I.free, fun x c q => none_ _ (I.freeC x c q), fun p hp => ?_, fun b o q => ?_, I.len⟩
  · obtain ⟨m, q⟩ := I.base.tbls b ps q
    exact ⟨m, keep b _ q (fun _ z => nomatch z)⟩
  · obtain ⟨e1, n, r⟩ := I.pin p hp
    exact ⟨e1, none_ _ n, r⟩
  · have hb : H b = some o := by
      unfold dropH at q
      split at q
      · cases q
      · exact q
    exact (I.hok b o hb).stay (fun _ _ _ z => z) (fun d z => keep d _ z (fun _ y => nomatch y)) fun d xs z => keep d _ z (fun _ y => nomatch y)
theorem hasDict_is {K : PySem.W.Frag} {h : Heap} {C : Addr} {nm qn : Str} {N : Addr} {bs bm : List Value} {hd : Bool} {sn : List Str} {sub : List Value} {ab : Bool} {col : Option Bool} {dd : Option Addr} {k0 k1 k2 k3 k5 : Option Value} {nw : String} (X : K.In h) (q : PySem.W.hasDictIn K C = true)
    (hC : h.get? C = some (excClassObj nm qn C N bs bm hd sn sub ab col dd k0 k1 k2 k3 k5 nw)) : hd = true := by
  obtain ⟨cd, hc, hdd⟩ := PySem.W.any_some q
  unfold PySem.W.clsIn at hc
  split at hc
  · rename_i ho
    have e := X _ _ ho
    rw [hC] at e
    cases e
    cases hc
    exact hdd
  · cases hc
noncomputable def sXset (K : PySem.W.Frag) (ta tv : TE) (f : Str) : TS := fun D σ H => tv σ H fun y H1 => ta σ H1 fun x H2 => ∃ a C ini, x = .ref a ∧ H2 a = some (ExN a (.ref C) none) ∧ exB K C ini = true ∧ PySem.W.hasDictIn K C = true ∧
  PySem.W.findIn K (.ref C) "__setattr__" = some (some (.builtin "object.__setattr__")) ∧ NoAttr K C f ∧ ∀ dx, H2 dx = none → dx ≠ a → D.nx σ (upd (upd H2 dx (.xd [(f, y)])) a (ExN a (.ref C) (some dx)))
theorem ps_xset {o value : Expr} {f : Str} {pos pos' : Pos} {ta tv : TE} (ha : PE X o ta) (hv : PE X value tv) (hs : swapsWith value (some (.Attribute o f pos')) pos.line X.env = pure false) : PS X (.Assign [.Attribute o f pos'] value pos) (sXset X.K ta tv f) := by
  intro pins s σ H D I h
  refine plainObj_wpAny_Assign_Attribute (thn (hv pins s σ H _ I h) fun u s1 ⟨y, H1, I1, ry, q⟩ => thn (ha pins s1 σ H1 _ I1 q) fun ov s2 ⟨x, H2, I2, rx, a, C, ini, ex, ea, qC, hd, hsa, na, q2⟩ => ?_) hs
  subst ex
  obtain rfl : ov = Value.ref a := rx
  obtain ⟨_, qn, N, bs, bm, hd', sn, sub, ab, col, dd, k0, k1, k2, k3, k5, hC, _, TL⟩ := exB_obj I2.kIn qC
  obtain rfl := hasDict_is I2.kIn hd hC
  obtain ⟨oe, vs, e1, e2, e3, e4, e5, e6⟩ := exn_get I2.hok ea
  have fr : H2 s2.heap.objs.size = none := I2.hok.fresh (Nat.le_refl _)
  have nea : s2.heap.objs.size ≠ a := Nat.ne_of_gt (Heap.lt_size e1)
  obtain ⟨sh, sg, sd, st, so⟩ := s2
  refine xset_attr I2.kIn hC TL hsa na e1 e2 e4 e3 fun h' tk' g1 g2 g3 => ⟨σ, _, ?_, q2 sh.objs.size fr nea⟩
  have nb : ∀ b, H2 b = none → b ≠ a := fun b z y => by subst y; rw [ea] at z; cases z
  have ob : ∀ b u, H2 b = some u → (∀ φ, u ≠ .ext φ) → upd (upd H2 sh.objs.size (.xd [(f, y)])) a (ExN a (.ref C) (some sh.objs.size)) b = some u := fun b u z n => by
    have h1 : b ≠ a := fun y => by subst y; rw [ea] at z; exact n _ (Option.some.inj z).symm
    have h2 : b ≠ sh.objs.size := fun y => by subst y; rw [fr] at z; cases z
    rw [upd_ne h1, upd_ne h2]; exact z
  refine I2.step (g' := sg) (d' := sd) (ch := []) (fun _ z => nomatch z) (fun b o _ _ _ z n => g3 b o (nb b n) z) (fun b o _ _ _ z n => ⟨o.slots, g3 b o (nb b n) z⟩) (fun b o _ z n => ?_) (fun b o _ z => ?_)
    (fun b xs z => ob b _ z (fun _ y => nomatch y)) (fun b o u z => ob b _ z (fun _ y => nomatch y)) (fun b ps z => ⟨#[], by rw [Array.append_empty]; exact ob b _ z (fun _ y => nomatch y)⟩) (fun m hm => ?_) (fun b o z => ?_) I2.bare
  · rw [upd_ne (nb b n), upd_ne (Nat.ne_of_lt (Heap.lt_size z))]; exact n
  · by_cases y : b = a
    · subst y; exact ⟨_, g1⟩
    · exact ⟨o, g3 b o y z⟩
  · obtain ⟨o, es, ep, ho, r⟩ := hm
    exact ⟨o, es, ep, g3 _ o (nb _ I2.free) ho, r⟩
  · by_cases ya : b = a
    · subst ya
      rw [upd_same] at z
      cases z
      exact exn_ok ⟨_, vs, g1, e2, rfl, e4, e5, e6⟩
    · rw [upd_ne ya] at z
      by_cases y2 : b = sh.objs.size
      · subst y2
        rw [upd_same] at z
        cases z
        refine ⟨_, g2, fun g => ?_⟩
        show RelO (putF f y [] |>.lookup g) (if g = f then some u else none)
        rw [lookup_putF]
        by_cases q : g = f
        · rw [if_pos q, if_pos q]; exact ry
        · rw [if_neg q, if_neg q]; exact True.intro
      · rw [upd_ne y2] at z
        refine (I2.hok b o z).stay (fun c w hc e => g3 c w ?_ e) (fun c z => ob c _ z (fun _ y => nomatch y)) fun c xs z => ob c _ z (fun _ y => nomatch y)
        rcases hc with rfl | hc
        · exact ya
        · intro y3
          subst y3
          rw [ea] at hc
          cases hc
end
end L2
set_option maxHeartbeats 1000000
namespace L2
open PySem PySem.Spec PyProof.Rows
section
variable {prog : Program} {w : World} {A : Around} {E : Value → Shared → Prop} {h : Heap} {g : Array GenState} {d : Drawn} {t : Nat} {os : OsState}
variable {nm qn : Str} {C N : Addr} {bs bm : List Value} {hd : Bool} {sn : List Str} {sub : List Value} {ab : Bool} {col : Option Bool} {dd : Option Addr} {k0 k1 k2 k3 k5 : Option Value}
theorem xcall_body {mN : Str → Option Value} {rest : List Value} {fI : Addr} {oI : Obj} {Q : PySem.Fin → Shared → Prop}
    (hC : h.get? C = some (excClassObj nm qn C N bs bm hd sn sub ab col dd k0 k1 k2 k3 k5 "ValueError.__new__")) (T : OwnTail h vbm bm) (hn : h.Ns N mN) (hi : mN "__init__" = some (.ref fI)) (hfI : h.get? fI = some oI) (hfc : oI.cls = .type "function")
    (hq : ∀ h' e, Heap.MadeExcOf h h' e (.ref C) rest → wpAny (model prog w) A (call (.ref fI) (.ref e :: rest)) (fun r s' => r = .none ∧ Q (.done (.ret (.ref e))) s') E ⟨h', g, d, t, os⟩) (hrest : rest.length ≤ sizeLine) :
    wpAny (model prog w) A (Builtin.«type.__call__» ⟨.ref C :: rest, []⟩) Q E ⟨h, g, d, t, os⟩ := by
  have F := PySem.F.excBase_ValueError
  have hB : vbm.contains (.type "ValueError") = true := by decide
  repeat (first | with_reducible refine wpAny_loadPart_at hC ?_ | with_reducible refine wpAny_madeBy_exc hC ?_ | wp_step)
  refine codeAny_call_builtin_code (Code.quiet_builtin _ F.quiet) (wpAny_check_new_subU F hB T hC ?_)
  refine codeAny_exc_new_subU F hB F T hC ?_ hrest
  show wpAny _ _ _ _ _ _
  generalize hO : ({ cls := .ref C, data := .fields #[.ref h.objs.size, .none, .none, .none, .bool false, .none] } : Obj) = O
  generalize hP : ({ cls := .type "tuple", data := .seq rest.toArray } : Obj) = P
  have kp : ∀ b o, h.get? b = some o → ((h.push P).push O).get? b = some o := fun b o e => Heap.get?_push_of_some _ (Heap.get?_push_of_some _ e)
  have e0 : ((h.push P).push O).get? (h.objs.size + 1) = some O := Heap.get?_push_at (by simp only [Heap.size_push]) (by rw [← hO]; rfl)
  have e1 : ((h.push P).push O).get? h.objs.size = some P := Heap.get?_push_of_some _ (Heap.get?_push_at rfl (by rw [← hP]; rfl))
  have hcC : (Value.ref C :: bm).contains (.ref C) = true := by simp
  have oc : O.cls = .ref C := by rw [← hO]
  unfold isInstance
  repeat (first | (with_reducible refine wpAny_loadPart_at e0 ?_; rw [oc]) | (with_reducible refine wpAny_isSubtype_exc (kp _ _ hC) ?_; rw [hcC]) | wp_step)
  show wpAny _ _ (typeLookup (.ref C) _) _ _ _
  refine wpAny_typeLookup_tail (kp _ _ hC) (hn.keeps kp) (T.keeps kp) F.mroIs F.init.lookup ?_
  rw [hi]
  refine wpAny_holding (wpAny_bind ?_)
  unfold bindSpecial
  refine wpAny_bind (wpAny_typeOf (T := "function") ⟨_, kp _ _ hfI, hfc⟩ ?_)
  rw [if_pos (by decide)]
  refine wpAny_pure (wpAny_bind (wpAny_mono (hq _ (h.objs.size + 1) ⟨kp, Heap.get?_none_of_le (Nat.le_succ _), h.objs.size, by rw [e0, ← hO], Heap.get?_none_of_le (Nat.le_refl _), by rw [e1, ← hP]⟩) (fun r s' hr => ?_) fun _ _ x => x))
  obtain ⟨rfl, hQ⟩ := hr
  wp_walk
  exact hQ
theorem xcall_init {mN : Str → Option Value} {rest : List Value} {fI : Addr} {oI : Obj} {Q : Value → Shared → Prop}
    (hC : h.get? C = some (excClassObj nm qn C N bs bm hd sn sub ab col dd k0 k1 k2 k3 k5 "ValueError.__new__")) (T : OwnTail h vbm bm) (hn : h.Ns N mN) (hi : mN "__init__" = some (.ref fI)) (hfI : h.get? fI = some oI) (hfc : oI.cls = .type "function")
    (hq : ∀ h' e, Heap.MadeExcOf h h' e (.ref C) rest → wpAny (model prog w) (A.under (.builtin "type.__call__" ⟨.ref C :: rest, []⟩)) (call (.ref fI) (.ref e :: rest)) (fun r s' => r = .none ∧ Q (.ref e) s') E ⟨h', g, d, t, os⟩) (hrest : rest.length ≤ sizeLine) :
    wpAny (model prog w) A (call (.ref C) rest) Q E ⟨h, g, d, t, os⟩ := by
  have f1 := tc_lookup
  have f2 := tc_bind (.ref C)
  have hT : (⟨h, g, d, t, os⟩ : Shared).TypeIs (.ref C) "type" := ⟨_, hC, rfl⟩
  refine wpAny_call (codeAny_of_tree ?_)
  show wpAny _ _ (callAny (.ref C) _) _ _ _
  repeat (any_goals (first | assumption | with_reducible refine wpAny_loadPart_at hC ?_ | wp_step))
  refine ⟨rfl, ?_⟩
  exact codeAny_call_builtin_at (Code.quiet_builtin _ (by decide +kernel)) entry_typeCall (wpAny_check_type_call_sub hC (xcall_body hC T hn hi hfI hfc (fun h' e hm => hq h' e hm) hrest))
theorem xraise_any {M : Model} {env : Env} {s : Shared} {x : Sem Value} {Q : Flow → Shared → Prop} (hh : A.handled = none)
    (hq : wpAny M A x (fun v s₁ => ∃ e oe, v = .ref e ∧ s₁.heap.get? C = some (excClassObj nm qn C N bs bm hd sn sub ab col dd k0 k1 k2 k3 k5 "ValueError.__new__") ∧ OwnTail s₁.heap vbm bm ∧ s₁.heap.get? e = some oe ∧ oe.cls = .ref C ∧ (∃ vs, oe.data = .fields vs ∧ vs[1]? = some .none) ∧ E (.ref e) s₁) E s) :
    wpAny M A (raiseStmt env (some x) none) Q E s := by
  unfold raiseStmt
  refine wpAny_bind (wpAny_mono hq (fun v s₁ h₁ => ?_) fun _ _ x => x)
  obtain ⟨e, oe, rfl, hC, T, he, hcls, ⟨vs, hdt, h1⟩, hE⟩ := h₁
  have hcB : (Value.ref C :: bm).contains (.type "BaseException") = true := by rw [List.contains_cons, exB_base T, Bool.or_true]
  obtain ⟨hp, g, d, tk, os⟩ := s₁
  repeat (first | (with_reducible refine wpAny_loadPart_at he ?_; (try rw [hcls])) | with_reducible refine wpAny_loadPart_at hC ?_ | (with_reducible refine wpAny_isSubtype_exc hC ?_; rw [hcB]) | wp_step)
  rw [hdt]
  refine wpAny_pure ?_
  rw [h1]
  refine wpAny_pure ?_
  rw [if_neg (by decide)]
  exact wpAny_pure (wpAny_raiseNew_none hh hE)
end
section
variable {X : Cx} {e : Expr} {es : List Expr} {t : TA} {S : St → Prop} {E : XK} {k : Nat} {f C : Addr} {fd : FuncData} {ps : List Str} {sp : Sp}
noncomputable def tRaiseI (S : St → Prop) (E : XK) (C : Addr) (sp : Sp) (t : TA) : TS := fun _ σ H => t σ H fun vs H1 => S σ ∧ vs.length ≤ sizeLine ∧ ∀ a, H1 a = none → sp (.ref a :: vs) (upd H1 a (ExN a (.ref C) none)) (fun v H2 => v = .non ∧ ∃ ed, H2 a = some (ExN a (.ref C) ed) ∧ E (.ref C) ed (dropH H2 a)) E0
theorem ps_raiseI {x : Str} {np cpos pos : Pos} (T : Told X S E) (hcalm : X.calm = true) (q : exB X.K C (some (.ref f)) = true) (hfn : PySem.W.isFn X.K (.ref f) = true) (F : FnOk X.prog X.w X.K X.mg X.base CX0 k f fd ps sp) (hr : Room (k + 1) X.A) (hb : Binds X.K fd ps []) (hkp : PySem.W.keepIn X.K (.ref C) = true)
    (hg : Gl X x) (hm : X.mg x = some (.ref C)) (hdb : (x == ("__debug__" : Str)) = false) (hn : (e :: es).all notStar = true) (ha : PA X (e :: es) t) :
    PS X (.Raise (some (.Call (.Name x np) (e :: es) [] cpos)) none pos) (tRaiseI S E C sp t) := by
  intro pins s σ H D I h
  have hs : notStar e = true ∧ es.all notStar = true := by rw [List.all_cons, Bool.and_eq_true] at hn; exact hn
  obtain ⟨nm, qn, N, bs, bm, hd, sn, sub, ab, col, dd, k0, k1, k2, k3, k5, hC, ⟨mN, hN, hni⟩, TL⟩ := exB_obj I.ok.mod.kin q
  rw [arm_exec_Raise]
  simp only [evalOpt, Option.map]
  refine wpAny_bind (wpAny_standAt (xraise_any (C := C) (nm := nm) (qn := qn) (N := N) (bs := bs) (bm := bm) (hd := hd) (sn := sn) (sub := sub) (ab := ab) (col := col) (dd := dd) (k0 := k0) (k1 := k1) (k2 := k2) (k3 := k3) (k5 := k5) (I.ok.hd hcalm) ?_))
  refine wpAny_bind (wpAny_mono (Q := fun v s₁ => ∃ e oe, v = .ref e ∧ s₁.heap.get? C = some (excClassObj nm qn C N bs bm hd sn sub ab col dd k0 k1 k2 k3 k5 "ValueError.__new__") ∧ OwnTail s₁.heap vbm bm ∧ s₁.heap.get? e = some oe ∧ oe.cls = .ref C ∧ (∃ vs, oe.data = .fields vs ∧ vs[1]? = some .none) ∧ X.xe (.ref e) s₁) ?_ (fun v s₃ h₃ => wpAny_bind (wpAny_standAt (wpAny_pure h₃))) fun _ _ x => x)
  refine wpAny_Call_Name_kw (ld_glob I hg hm ?_ hdb)
  refine PySem.W.callWith_K (h₀ := X.base) I.ok.mod.kin hkp (thn (ha cpos pins s σ H _ I h) fun us s1 z => ?_) (star_cons hs.1) (back_none hs.2)
  obtain ⟨vs, H1, I1, r, hS, hl, hi⟩ := z
  refine ⟨I1.kIn, ?_⟩
  obtain ⟨oI, hoI, hfc⟩ : ∃ oI, X.base.get? f = some oI ∧ oI.cls = .type "function" := by
    have e1 := beq_iff_eq.mp hfn
    unfold PySem.W.typeIn at e1
    obtain ⟨o, ho, hc⟩ := Option.map_eq_some_iff.mp e1
    exact ⟨o, I.ok.mod.kin _ _ ho, hc⟩
  have hus : us.length ≤ sizeLine := by rw [← r.length]; exact hl
  obtain ⟨sh, sg, sd, st, so⟩ := s1
  show wpAny _ _ (call (.ref C) us) _ _ _
  refine xcall_init (I1.bk _ _ hC) (TL.keeps I1.bk) (hN.keeps I1.bk) hni (I1.bk _ _ hoI) hfc (fun h' a m => ?_) hus
  have hHa : H1 a = none := I1.hok.unheld m.new
  obtain ⟨tp, ht, _, _⟩ := m.there
  have J1 : Inv X pins σ H1 ⟨h', sg, sd, st, so⟩ := I1.kept (h' := h') (t' := st) m.keeps
  have J2 : Inv X pins σ (upd H1 a (ExN a (.ref C) none)) ⟨h', sg, sd, st, so⟩ := J1.hold (I1.cov T.ex) m.new hHa (exn_ok ⟨_, _, ht, rfl, rfl, rfl, Nat.lt_of_sub_eq_succ rfl, rfl⟩)
  have r2 : Vals (V.ref a :: vs) (Value.ref a :: us) := .cons rfl r
  have sp1 := hi a hHa
  have hlen : (Value.ref a :: us ++ ([] : List Value)).length = ps.length := by rw [List.append_nil, ← r2.length]; exact F.len _ _ _ _ sp1
  have bd := hb ⟨h', sg, sd, st, so⟩ (Value.ref a :: us) J2.kIn hlen
  rw [List.append_nil] at bd
  refine wpAny_call (codeAny_mono (F.run _ X.stack _ _ ⟨Value.ref a :: us, []⟩ (Value.ref a :: us) _ _ E0 (hr.make C us []) (J2.env0.make C us []) bd r2 sp1) fun res s' hq => ?_)
  match res, hq with
  | .error e, hq => exact False.elim hq
  | .ok .next, hq => exact False.elim hq
  | .ok .brk, hq => exact False.elim hq
  | .ok .cont, hq => exact False.elim hq
  | .ok (.ret u), hq =>
    obtain ⟨v, H', os', bare, un, hok, rv, rfl, ed, hx, qE⟩ := hq
    have J3 : Inv X pins σ H' s' := J2.call' os' un hok bare (fun b z => absurd z (by simp))
    obtain ⟨oe, ws, g1, g2, g3, g4, g5, g6⟩ := exn_get J3.hok hx
    refine ⟨rv, a, oe, rfl, J3.bk _ _ hC, TL.keeps J3.bk, g1, g2, ⟨ws, g4, g6⟩, ?_⟩
    refine T.on pins σ (dropH H' a) s' a (.ref C) ed sh hS (J3.dropX hx) ⟨m.new, drop_same, oe, ws, g1, g2, g3, g4, g5, .inl ⟨g6, rfl⟩⟩ (I1.cov T.ex) (fun b hb => ?_) qE
    cases z : sh.get? b with
    | none => rfl
    | some o =>
      obtain ⟨o', e'⟩ := un.there b o (m.keeps b o z) (by simp)
      rw [hb] at e'; cases e'
end
end L2
set_option maxHeartbeats 1000000
namespace L2
open PySem PySem.Spec PyProof.Rows
section
variable {X : Cx} {k : Nat} {f C : Addr} {fd : FuncData} {ps : List Str} {sp : Sp} {x m : Str} {p pos apos : Pos} {e o : Expr} {es : List Expr} {ta : TE} {t : TA} {S : St → Prop} {E : XK}
noncomputable def tMethX (S : St → Prop) (C : Addr) (m : Str) (sp : Sp) (E : XK) (ta : TE) (t : TA) : TE := fun σ H Q => ta σ H fun x H1 => ∃ a dx fs, x = .ref a ∧ H1 a = some (.ins C dx fs) ∧ fs.lookup m = none ∧ t σ H1 fun vs H2 => S σ ∧ sp (x :: vs) H2 Q E
theorem pe_methX {pl : Sem Bool} (T : Told X S E) (he : PE X o ta) (c : Cls X.K C) (hm : Meth X.K C m f) (F : FnOk X.prog X.w X.K X.mg X.base (CXE X.prog X.w) k f fd ps sp) (hr : Room k X.A) (hb : Binds X.K fd ps []) (hn : (e :: es).all notStar = true) (ha : PA X (e :: es) t)
    (ht : eval (.Call (.Attribute o m apos) (e :: es) [] pos) X.env = (do
      let ov ← eval o X.env
      standAt apos.atName
      let (f, first) ← holding [ov] (getMethod ov m pl)
      callWith pos f first (backTo pos (starEach (e :: es) X.env)) (backToKw pos (keywordEach [] X.env)))) :
    PE X (.Call (.Attribute o m apos) (e :: es) [] pos) (tMethX S C m sp E ta t) := by
  have hs : notStar e = true ∧ es.all notStar = true := by rw [List.all_cons, Bool.and_eq_true] at hn; exact hn
  intro pins s σ H Q I h
  refine PySem.W.methodCall_KW (pl := pl) (thn (he pins s σ H _ I h) fun u s1 ⟨x, H1, I1, rx, a, dx, fs, ex, ea, l, q⟩ => ?_) ht
  subst ex
  obtain rfl : u = Value.ref a := rx
  refine getmeth_ok I1 ea c hm l ?_
  refine PySem.W.callWith_K (first := [.ref a]) (h₀ := X.base) I.ok.mod.kin hm.kp (thn (ha pos pins s1 σ H1 _ I1 q) fun us s2 ⟨vs, H2, I2, r, hS, q2⟩ => ⟨I2.kIn, ?_⟩) (star_cons hs.1) (back_none hs.2)
  exact run_fnX (us := .ref a :: us) (vs := .ref a :: vs) T F hr hb hS I2 (.cons rfl r) q2
noncomputable def tMakeX (S : St → Prop) (C : Addr) (sp : Sp) (E : XK) (t : TA) : TE := fun σ H Q => t σ H fun vs H1 => S σ ∧ ∀ x dx, H1 x = none → H1 dx = none → dx ≠ x → sp (.ref x :: vs) (upd (upd H1 dx (.own x)) x (.ins C dx [])) (fun v H2 => v = .non ∧ Q (.ref x) H2) E
theorem pe_makeX (T : Told X S E) (M : Mk X.K C f) (F : FnOk X.prog X.w X.K X.mg X.base (CXE X.prog X.w) k f fd ps sp) (hr : Room (k + 1) X.A) (hg : Gl X x) (hm : X.mg x = some (.ref C)) (hb : Binds X.K fd ps [])
    (hdb : (x == ("__debug__" : Str)) = false) (hn : (e :: es).all notStar = true) (ha : PA X (e :: es) t) : PE X (.Call (.Name x p) (e :: es) [] pos) (tMakeX S C sp E t) := by
  have hs : notStar e = true ∧ es.all notStar = true := by rw [List.all_cons, Bool.and_eq_true] at hn; exact hn
  intro pins s σ H Q I h
  refine wpAny_Call_Name_kw (ld_glob I hg hm ?_ hdb)
  refine PySem.W.callWith_K (h₀ := X.base) I.ok.mod.kin M.kp (thn (ha pos pins s σ H _ I h) fun us s1 ⟨vs, H1, I1, r, hS, q⟩ => ⟨I1.kIn, ?_⟩) (star_cons hs.1) (back_none hs.2)
  have hq := q (s1.heap.objs.size + 1) s1.heap.objs.size (I1.hok.fresh (Nat.le_succ _)) (I1.hok.fresh (Nat.le_refl _)) (Nat.ne_of_lt (Nat.lt_succ_self _))
  have I2 := Inv.made (C := C) I1
  have r2 : Vals (V.ref (s1.heap.objs.size + 1) :: vs) (Value.ref (s1.heap.objs.size + 1) :: us) := .cons rfl r
  have hl : (Value.ref (s1.heap.objs.size + 1) :: us ++ ([] : List Value)).length = ps.length := by rw [List.append_nil, ← r2.length]; exact F.len _ _ _ _ hq
  have bd := hb _ (Value.ref (s1.heap.objs.size + 1) :: us) I2.kIn hl
  rw [List.append_nil] at bd
  show wpAny _ _ (call (.ref C) us) _ _ _
  refine wpAny_call (make_map (f := f) I1.kIn M.makes M.init (beq_iff_eq.mp M.fn) (codeAny_mono (F.run _ X.stack _ _ ⟨Value.ref (s1.heap.objs.size + 1) :: us, []⟩ (Value.ref (s1.heap.objs.size + 1) :: us) _ _ E (hr.make C us [])
    (I2.env0.make C us []) bd r2 hq) fun r s' hq' => ?_))
  match r, hq' with
  | .error e, hq' => exact T.passes hS I2 hq'
  | .ok .next, hq' => exact False.elim hq'
  | .ok .brk, hq' => exact False.elim hq'
  | .ok .cont, hq' => exact False.elim hq'
  | .ok (.ret u), hq' =>
    obtain ⟨v, H', I3, rv, ev, q3⟩ := I2.after hq'
    subst ev
    exact ⟨rv, ⟨V.ref (s1.heap.objs.size + 1), H', I3, rfl, q3⟩⟩
end
end L2
set_option maxHeartbeats 1000000
namespace L2
open PySem PySem.Spec PyProof.Rows
noncomputable def inCls (s : Stmt) (j : Nat) : Stmt := match s with
  | .ClassDef _ _ _ b _ _ _ _ _ _ _ => b.getD j (.Pass ⟨0, 0, 0, 0⟩)
  | _ => .Pass ⟨0, 0, 0, 0⟩
structure MthOk (K : PySem.W.Frag) (x qual : Str) (st : Stmt) (ps : List Str) (f : Addr) (fd : FuncData) : Prop where
  F : Fun K x qual st f fd
  b : Binds K fd ps []
  fn : PySem.W.isFn K (.ref f) = true
structure ExcOk (K : PySem.W.Frag) (mg : Str → Option Value) (x : Str) (c : Addr) (ini : Option Value) : Prop where
  m : mg x = some (.ref c)
  x : exB K c ini = true
  kp : PySem.W.keepIn K (.ref c) = true
  xc : XCls K c
  sa : PySem.W.findIn K (.ref c) "__setattr__" = some (some (.builtin "object.__setattr__"))
structure OwnOk (K : PySem.W.Frag) (mg : Str → Option Value) (x : Str) (c fi : Addr) : Prop where
  m : mg x = some (.ref c)
  cls : Cls K c
  mkr : Mk K c fi
theorem exc_mk {K : PySem.W.Frag} {h : Heap} {mg : Str → Option Value} {x : Str} {c : Addr} {ini : Option Value} (X : K.In h) (G : h.Ns mainGlobals mg) (a : PySem.W.nsIn K mainGlobals x = some (some (.ref c))) (e : exB K c ini = true) (kp : PySem.W.keepIn K (.ref c) = true)
    (ga : PySem.W.findIn K (.ref c) "__getattribute__" = some (some (.builtin "BaseException.__getattribute__"))) (gh : PySem.W.findIn K (.ref c) "__getattr__" = some none) (ba : PySem.W.mroIn K c (.type "BaseException") = some true) (ob : PySem.W.mroIn K c (.type "object") = some true) (hd : PySem.W.hasDictIn K c = true)
    (cl : PySem.W.findIn K (.ref c) "__class__" = some (some (.builtin "object.__class__"))) (cg : PySem.W.specialIn K (.builtin "object.__class__") "__get__" = some (some (.builtin "getset_descriptor.__get__"))) (ct : PySem.W.takesIn K (.builtin "object.__class__") = some true)
    (sa : PySem.W.findIn K (.ref c) "__setattr__" = some (some (.builtin "object.__setattr__"))) : ExcOk K mg x c ini := ⟨PySem.W.mg_of X G a, e, kp, ⟨ga, gh, ba, ob, hd, cl, cg, ct⟩, sa⟩
theorem own_mk {K : PySem.W.Frag} {h : Heap} {mg : Str → Option Value} {x : Str} {c fi : Addr} (X : K.In h) (G : h.Ns mainGlobals mg) (a : PySem.W.nsIn K mainGlobals x = some (some (.ref c))) (pg : PySem.W.plainGet K c Str.empty = true) (hd : PySem.W.hasDictIn K c = true) (po : PySem.W.plainOver K c = true)
    (sa : PySem.W.findIn K (.ref c) "__setattr__" = some (some (.builtin "object.__setattr__"))) (ma : PySem.W.makesIn K c = true) (i : PySem.W.findIn K (.ref c) "__init__" = some (some (.ref fi))) (fn : PySem.W.isFn K (.ref fi) = true) (kp : PySem.W.keepIn K (.ref c) = true) : OwnOk K mg x c fi :=
  ⟨PySem.W.mg_of X G a, ⟨pg, hd, po, sa⟩, ⟨ma, i, fn, kp⟩⟩
section
variable {X : Cx}
theorem pgcl {x : Str} {c : Addr} {pos : Pos} (hm : X.mg x = some (.ref c)) (hg : Gl X x) (hd : (x == ("__debug__" : Str)) = false) : PE X (.Name x pos) (tC (.ref c)) := pe_glob hg hm rfl hd
end
theorem bt_ValueError : bootBuiltins "ValueError" = some (.type "ValueError") := by decide +kernel
theorem told_no {X : Cx} (hex : X.ex = []) : Told X (fun _ => True) (fun _ _ _ => False) := ⟨hex, fun _ _ _ _ _ _ _ _ _ _ _ _ _ q => q.elim⟩
end L2
set_option maxHeartbeats 1000000
namespace L2
open PySem PySem.Spec PyProof.Rows
noncomputable def Ite (K : PySem.W.Frag) (a : Addr) : It where
  go := fun i H => ∃ xs x, SqL K H a xs ∧ xs[i]? = some x
  yld := fun i H y H' => ∃ p x, H p = none ∧ y = .ref p ∧ (∀ ys, SqL K H a ys → ys[i]? = some x) ∧ H' = upd H p (.tup [.int i, x])
  stop := fun i H => ∃ xs, SqL K H a xs ∧ xs.length ≤ i
theorem turn_enum {P : Program} {w : World} {K : PySem.W.Frag} {elts : List Expr} {x1 : Nat} {tpos : Pos} (a e it : Addr) (hne : e ≠ it) : Turn P w K (.Tuple elts x1 tpos) (Ite K a) [e, it] e (fun i h => ∃ old, IsEnum h e it i old ∧ h.IsListIter it a i) where
  mem := by simp
  obj := fun i h st b hb => by
    obtain ⟨old, h1, o, h2, c, d⟩ := st
    rcases List.mem_cons.mp hb with rfl | hb
    · exact ⟨_, h1, fun v z => nomatch z⟩
    · cases List.mem_singleton.mp hb
      exact ⟨o, h2, fun v z => by rw [d] at z; cases z⟩
  keep := fun i h h' st k => by
    obtain ⟨old, h1, h2⟩ := st
    exact ⟨old, k e (by simp) _ h1, h2.at fun o z => k it (by simp) o z⟩
  item := by
    intro X hP hw hK hc i pins s σ H E I hf st hg
    subst hP hw hK
    obtain ⟨xs, x, hq, hx⟩ := hg
    obtain ⟨its, rv, p, hz⟩ := I.list hq
    obtain ⟨u, hu, ru⟩ := rv.get hx
    obtain ⟨old, h1, h2⟩ := st
    obtain ⟨f0, f1, f2, f3, f4, f5⟩ := hf e (by simp)
    obtain ⟨g0, g1, g2, g3, g4, g5⟩ := hf it (by simp)
    have fr : H s.heap.objs.size = none := I.hok.fresh (Nat.le_refl _)
    have pe : s.heap.objs.size ≠ e := Nat.ne_of_gt (Heap.lt_size h1)
    refine wpAny_pyNext_enum_item h1 h2 p.isList (x := u) (by simpa using hu) hne fun h' out st' tup sz k => ⟨.ref s.heap.objs.size, rfl, ?_⟩
    refine wpAny_letOwnedTupleGo_enum (s := { s with heap := h', toks := s.toks + 1 }) out fun h'' he' sb => ?_
    have kk : ∀ b o, b ∉ [e, it] → s.heap.get? b = some o → h''.get? b = some o := fun b o hb z =>
      (sb.2 b (fun q => hb (by simp [q]))).trans (k b o (fun q => hb (by simp [q])) (fun q => hb (by simp [q])) z)
    have kt : h''.get? s.heap.objs.size = some { cls := .type "tuple", data := .seq #[.int i s.toks, u] } := (sb.2 _ pe).trans tup
    have nt : ∀ b v, H b = some v → b ∉ [e, it] := fun b v z hb => by
      rcases List.mem_cons.mp hb with rfl | hb
      · rw [f0] at z; cases z
      · cases List.mem_singleton.mp hb
        rw [g0] at z; cases z
    have np : ∀ b v, H b = some v → b ≠ s.heap.objs.size := fun b v z q => by subst q; rw [fr] at z; cases z
    have up : ∀ b v, H b = some v → upd H s.heap.objs.size (.tup [.int i, x]) b = some v := fun b v z => by rw [upd_ne (np b v z)]; exact z
    refine ⟨.ref s.heap.objs.size, upd H s.heap.objs.size (.tup [.int i, x]), ?_, rfl, ⟨_, x, fr, rfl, fun ys hy => by rw [I.list_inj hy hq]; exact hx, rfl⟩, ⟨u, he', st'.at fun o z => (sb.2 it (Ne.symm hne)).trans z⟩, fun b hb => ?_⟩
    · show Inv X pins σ _ { s with heap := h'', gens := s.gens, drawn := s.drawn, toks := s.toks + 1 }
      refine Inv.step (s := s) (h' := h'') (t' := s.toks + 1) (g' := s.gens) (d' := s.drawn) (ch := [e, it]) I (fun b hb => ?_) (fun b o _ _ hb z _ => kk b o hb z) (fun b o _ _ hb z _ => ⟨o.slots, kk b o hb z⟩) (fun b o _ z n => by rw [upd_ne (Nat.ne_of_lt (Heap.lt_size z))]; exact n) (fun b o hb z => ⟨o, kk b o hb z⟩)
        (fun b ys z => up b _ z) (fun b o v z => up b _ z) (fun b ps z => ⟨#[], by rw [Array.append_empty]; exact up b _ z⟩) (fun m hm => ?_) (fun b v z => ?_) I.bare
      · rcases List.mem_cons.mp hb with rfl | hb
        · exact ⟨f3, f1, f4, f5⟩
        · cases List.mem_singleton.mp hb
          exact ⟨g3, g1, g4, g5⟩
      · obtain ⟨o, es, ep, ho, r⟩ := hm
        refine ⟨o, es, ep, kk _ o (fun hb => ?_) ho, r⟩
        rcases List.mem_cons.mp hb with q | hb
        · exact f1 q.symm
        · exact g1 (List.mem_singleton.mp hb).symm
      · by_cases q : b = s.heap.objs.size
        · subst q
          rw [upd_same] at z
          cases z
          exact ⟨small_line (Nat.le_of_ble_eq_true rfl), [.int i s.toks, u], .cons ⟨_, rfl⟩ (.cons ru .nil), _, kt, rfl, _, rfl⟩
        · rw [upd_ne q] at z
          refine (I.hok b v z).stay (fun c o hc y => kk c o ?_ y) (fun c y => up c _ y) fun c ys y => up c _ y
          rcases hc with rfl | hc
          · exact nt _ _ z
          · exact nt _ _ hc
    · rcases List.mem_cons.mp hb with rfl | hb
      · rw [upd_ne (Ne.symm pe)]; exact f0
      · cases List.mem_singleton.mp hb
        obtain ⟨o, h2', _⟩ := h2
        rw [upd_ne (Nat.ne_of_lt (Heap.lt_size h2'))]; exact g0
  done := by
    intro X hP hw hK hc i pins s σ H E I hf st hg
    subst hP hw hK
    obtain ⟨xs, hq, hx⟩ := hg
    obtain ⟨its, rv, p, hz⟩ := I.list hq
    obtain ⟨old, h1, h2⟩ := st
    obtain ⟨g0, g1, g2, g3, g4, g5⟩ := hf it (by simp)
    have hl := rv.length
    exact wpAny_pyNext_enum_end (I.ok.hd hc) h1 h2 p.isList (by simp; omega) fun h' eb => ⟨rfl, I.turned (t' := s.toks) (fun b o hb z => eb b o hb z) g0 g1 g3 g4 g5⟩
  self := fun _ _ _ _ _ st h => by
    obtain ⟨old, h1, h2⟩ := st
    exact wpAny_pyIter_enum h1 h
section
variable {X : Cx}
noncomputable def iEnum (K : PySem.W.Frag) (ta : TA) : TI := fun σ H R => ta σ H fun vs H1 => ∃ a, vs = [.ref a] ∧ (∃ xs, SqL K H1 a xs) ∧ R (Ite K a) H1
theorem pi_enum {a : Expr} {ta : TA} {p pos tpos : Pos} {elts : List Expr} {x1 : Nat} (hg : Gl X "enumerate") (hm : X.mg "enumerate" = none) (ha : PA X [a] ta) (hn : notStar a = true) : PI X (.Tuple elts x1 tpos) (.Call (.Name "enumerate" p) [a] [] pos) (iEnum X.K ta) := by
  intro pins s σ H R I h
  refine Call_ (ld_blt I hg hm boot_enumerate (PyProof.Rows.callWith_type1 (thn (ha pos pins s σ H _ I h) fun us s1 ⟨vs, H1, I1, r1, q1⟩ => ?_) (star_cons hn) rfl))
  obtain ⟨l, e, ⟨xs, hq⟩, q⟩ := q1
  subst e
  cases r1 with
  | cons r rr =>
    cases rr
    cases (show _ = Value.ref l from r)
    obtain ⟨its, rv, pl, hz⟩ := I1.list hq
    refine call_enumerate_list pl.isList fun h' he st sz k => ?_
    refine wpAny_pyIter_enum (s := { s1 with heap := h' }) he ?_
    refine ⟨s1.heap.objs.size + 1, [s1.heap.objs.size + 1, s1.heap.objs.size], _, _, H1, rfl, I1.kept (t' := s1.toks) k, turn_enum l _ _ (Nat.succ_ne_self _), ⟨_, he, st⟩, fun b hb => ?_, q⟩
    rcases List.mem_cons.mp hb with rfl | hb
    · exact I1.fpOk (Nat.le_succ _) (I1.hok.fresh (Nat.le_succ _))
    · cases List.mem_singleton.mp hb
      exact I1.fpOk (Nat.le_refl _) (I1.hok.fresh (Nat.le_refl _))
end
theorem ForW.enum {K : PySem.W.Frag} {a : Addr} {xs : List V} {g : TG} {tb : TS} {D : Ends} {σ : St} {H : Hp} (Pv : Nat → St → Hp → Prop) (h0 : Pv 0 σ H) (hl : ∀ i σ H, Pv i σ H → SqL K H a xs)
    (hs : ∀ (i : Nat) x σ H p, xs[i]? = some x → Pv i σ H → H p = none → g (.ref p) σ (upd H p (.tup [.int i, x])) fun σ2 H2 => tb { D with nx := Pv (i + 1), ct := Pv (i + 1), bk := D.nx } σ2 H2)
    (hd : ∀ σ H, Pv xs.length σ H → D.nx σ H) : ForW (Ite K a) g tb D σ H := by
  refine ⟨fun i m σ H => Pv i σ H ∧ i ≤ xs.length ∧ m = xs.length - i, ⟨_, h0, Nat.zero_le _, rfl⟩, fun i m σ H ⟨h1, h2, h3⟩ => ?_⟩
  have sq := hl i σ H h1
  by_cases e : i = xs.length
  · subst e
    exact .inl ⟨⟨xs, sq, Nat.le_refl _⟩, hd σ H h1⟩
  · have lt : i < xs.length := Nat.lt_of_le_of_ne h2 e
    refine .inr ⟨⟨xs, xs[i], sq, List.getElem?_eq_getElem lt⟩, Pv (i + 1), fun σ' H' z => ⟨xs.length - (i + 1), by omega, z, lt, rfl⟩, fun x H' hy => ?_⟩
    obtain ⟨p, x', hp, rfl, hx, rfl⟩ := hy
    exact hs i x' σ H p (hx xs sq) h1 hp
end L2
set_option maxHeartbeats 4000000
namespace L2
open PySem PySem.Spec PyProof.Rows
section
variable {prog : Program} {w : World} {A : Around} {E : Value → Shared → Prop} {s : Shared} {T : String} {r d : Addr} {n : Nat} {P : Nat → Value → Prop} {OK : Heap → Prop}
theorem proto_src {R : Result → Shared → Prop} (K : PySem.W.KdlSrc prog w T r d n P OK) (hh : A.handled = none) (hok : OK s.heap) (hn : n ≤ sizeLine)
    (hR : ∀ h' tk acc' c', (∀ b o, s.heap.get? b = some o → h'.get? b = some o) → h'.get? s.heap.objs.size = some { cls := .type "list", dict := none, data := .seq acc' c', slots := #[] } → ItemsOf P acc' n → R (.ok (.ret (.ref s.heap.objs.size))) { s with heap := h', toks := tk }) :
    codeAny (model prog w) A (.builtin "proto.collect" ⟨[.ref r], []⟩) R s := by
  refine codeAny_builtin PySem.F.entry_proto_collect ?_
  rw [Around.under_plainId PySem.F.plain_proto_collect _]
  show wpAny _ A.in1 (newList [] >>= fun l => again (.builtin "list.__iadd__" ⟨[l, .ref r], []⟩)) _ _ s
  refine wpAny_bind (wpAny_newObj_type ?_)
  refine wpAny_pure ⟨plainId_quiet PySem.F.plain_list_iadd _, codeAny_builtin PySem.F.entry_list_iadd ?_⟩
  rw [Around.under_plainId PySem.F.plain_list_iadd _]
  have hlt := K.there _ hok
  have hS : (s.heap.push { cls := .type "list", data := .seq ([] : List Value).toArray }).get? s.heap.objs.size = some { cls := .type "list", data := .seq #[] 0 } := Heap.get?_push_size _ rfl
  show wpAny _ A.in1 (Builtin.List.listExtendWith (.ref s.heap.objs.size) (.ref r) (.ref s.heap.objs.size)) _ _ _
  exact PySem.W.kdl_extend (s := { s with heap := s.heap.push { cls := .type "list", data := .seq ([] : List Value).toArray } }) (A := A) K hh (K.keep _ _ hok fun b _ o e => Heap.get?_push_of_some _ e) s.heap.objs.size (Nat.ne_of_gt hlt.1) (Nat.ne_of_gt hlt.2) (.ref s.heap.objs.size) 0 hS
    (fun h' tk acc' c' hk hS' hacc => hR h' tk acc' c' (fun b o e => hk b o (Nat.ne_of_lt (Heap.lt_size e)) (Heap.get?_push_of_some _ e)) hS' hacc) hn
theorem collect_src {Q : List Value → Shared → Prop} (K : PySem.W.KdlSrc prog w T r d n P OK) (hh : A.handled = none) (hok : OK s.heap) (hn : n ≤ sizeLine)
    (hQ : ∀ h' tk acc', (∀ b o, s.heap.get? b = some o → h'.get? b = some o) → s.heap.objs.size < h'.objs.size → ItemsOf P acc' n → Q acc'.toList { s with heap := h', toks := tk }) : wpAny (model prog w) A (collect (.ref r)) Q E s := by
  unfold collect
  refine wpAny_bind (wpAny_runValue (proto_src K hh hok hn fun h' tk acc' c' hk hS' hacc => ?_))
  show wpAny _ A (load s.heap.objs.size >>= _) _ _ _
  refine wpAny_bind (wpAny_load hS' ?_)
  exact wpAny_pure (hQ h' tk acc' hk (Heap.lt_size hS') hacc)
theorem sorted_src {ns : List Int} {Q : Value → Shared → Prop} (K : PySem.W.KdlSrc prog w T r d n P OK) (hh : A.handled = none) (hok : OK s.heap) (hn : n < 64) (hI : ∀ acc : Array Value, ItemsOf P acc n → IntsAre acc.toList ns)
    (hQ : ∀ h' tk p vs' ns' e, (∀ b o, s.heap.get? b = some o → h'.get? b = some o) → s.heap.objs.size ≤ p → h'.get? p = some (seqObj "list" vs' e) → IntsAre vs'.toList ns' → ns'.Perm ns → ns'.Pairwise (· ≤ ·) → Q (.ref p) { s with heap := h', toks := tk }) :
    wpAny (model prog w) A (call (.builtin "sorted") [.ref r]) Q E s := by
  refine Calls.call_function_entry kind_sorted plain_sorted entry_sorted (args_sorted1 _) ?_
  unfold Builtin.«sorted»
  refine wpAny_bind (m := checkCount "sorted" 1 1 _) (wpAny_pure ?_)
  refine wpAny_bind (collect_src K hh hok (by rw [sizeLine_eq]; omega) fun h1 tk acc hk hsz hacc => ?_)
  refine wpAny_bind (wpAny_newList ?_ (hsz := by rw [Array.length_toList, hacc.1, sizeLine_eq]; omega))
  have hoL : (h1.push (seqObj "list" acc.toList.toArray 0)).get? h1.objs.size = some (seqObj "list" acc.toList.toArray 0) := Heap.get?_push_size _ rfl
  show wpAny _ _ _ _ _ { s with heap := h1.push (seqObj "list" acc.toList.toArray 0), toks := tk }
  refine wpAny_bind (wpAny_holding (wpAny_call_entry slot_list_sort ⟨_, hoL, rfl⟩ entry_list_sort (list_sort_tree hoL (hI acc hacc) (by rw [Array.length_toList, hacc.1]; exact hn) fun out ns' a1 a2 a3 => ⟨_, rfl, ?_⟩) (args_list_sort _)))
  obtain ⟨e, he⟩ := sortedHeap_at (out := out) hoL
  exact wpAny_pure ⟨_, rfl, hQ _ tk h1.objs.size out ns' e (fun b o eb => by
    rw [sortedHeap_old (Nat.ne_of_lt (Heap.lt_size (hk b o eb))) (by rw [size_push']; exact Nat.lt_succ_of_lt (Heap.lt_size (hk b o eb)))]
    exact Heap.get?_push_of_some _ (hk b o eb)) (Nat.le_of_lt hsz) he a1 a2 a3⟩
end
end L2
namespace L2
open PySem PySem.Spec PyProof.Rows
theorem ints_of_ix : ∀ {us : List Value} {ks : List Int}, us.length = ks.length → (∀ (i : Nat) v k, us[i]? = some v → ks[i]? = some k → ∃ t, v = Value.int k t) → IntsAre us ks
  | [], [], _, _ => .nil
  | [], _ :: _, h, _ => by cases h
  | _ :: _, [], h, _ => by cases h
  | u :: us, k :: ks, h, f => by
    obtain ⟨t, rfl⟩ := f 0 u k rfl rfl
    exact .cons k t (ints_of_ix (by simpa using h) fun i v k' a b => f (i + 1) v k' (by simpa using a) (by simpa using b))
theorem vals_of_ints : ∀ {us : List Value} {ks : List Int}, IntsAre us ks → Vals (ks.map V.int) us
  | _, _, .nil => .nil
  | _, _, .cons _ _ t => .cons ⟨_, rfl⟩ (vals_of_ints t)
theorem keyIs_inl {i : Int} {v : Value} (h : keyIs (.inl i) v = true) : ∃ t, v = Value.int i t := by
  have h' : Value.isInt i v = true := h
  cases v with
  | int j t =>
    have e : (j == i) = true ∨ (i == j) = true := by first | exact .inl h' | exact .inr h'
    rcases e with e | e
    · exact ⟨t, by rw [beq_iff_eq.mp e]⟩
    · exact ⟨t, by rw [beq_iff_eq.mp e]⟩
  | _ => cases h'
section
variable {X : Cx}
noncomputable def rSortD : List V → Hp → VK → Prop := fun xs H Q => ∃ d kvs, ∃ ks : List Int, xs = [.ref d] ∧ H d = some (.dK kvs) ∧ kvs.map (·.1) = ks.map Sum.inl ∧ kvs.length < 64 ∧
  ∀ p, ∀ ms : List Int, H p = none → ms.Perm ks → ms.Pairwise (· ≤ ·) → Q (.ref p) (upd H p (.lst (ms.map V.int)))
theorem call_sortedD (hc : X.calm = true) : CallR X (.builtin "sorted") rSortD := by
  intro pins s σ H xs us Q I r h
  obtain ⟨d, kvs, ks, rfl, hH, hk, h64, q⟩ := h
  obtain ⟨u, rfl, ru⟩ := vals1 r
  cases ru
  obtain ⟨z, hd, vs, rel, dd⟩ := dk_of I.hok hH
  have hlen := rel.length
  obtain ⟨o, es, ep, ho, hx, hdat, hkn, hp, hnd⟩ := id dd
  have hkl : ks.length = kvs.length := by have := congrArg List.length hk; simpa using this.symm
  have hm : s.heap.DictAt (mixKind X.prog X.w) d vs ep := ⟨o, es, ho, hx, hdat, hkn, hp, hnd⟩
  refine sorted_src (ns := ks) (PySem.W.kdl_dict (kvs := vs) (ep := ep) hd) (I.ok.hd hc) hm (by omega) (fun acc hacc => ?_) (fun h' tk p vs' ns' e hkp hpz hpe hi hperm hsort => ?_)
  · refine ints_of_ix (by rw [Array.length_toList, hacc.1]; omega) fun i v k hv hki => ?_
    obtain ⟨k', x, hx', hy'⟩ := hacc.2 i v (by rw [← Array.getElem?_toList]; exact hv)
    have e1 : vs.map (·.1) = ks.map Sum.inl := by rw [← hk]; exact rel.keys.symm
    have e2 : (vs.map (·.1))[i]? = some k' := by rw [List.getElem?_map, hx']; rfl
    rw [e1, List.getElem?_map, hki] at e2
    cases e2
    exact keyIs_inl hy'
  · have hv := vals_of_ints hi
    refine ⟨.ref p, upd H p (.lst (ns'.map V.int)), I.laid (t' := tk) hkp hpz (show ObjOk X.prog X.w _ h' _ (.lst (ns'.map V.int)) from ⟨by rw [List.length_map, hperm.length_eq, sizeLine_eq]; omega, vs'.toList, e, hv, hpe⟩), rfl, q p ns' (I.hok.fresh hpz) hperm hsort⟩
end
end L2
set_option maxHeartbeats 4000000
namespace L2
open PySem PySem.Spec PyProof.Rows
open AutoSeq1 (wpAny_loadPart')
theorem enumT_new (q : Addr) (vs : Array Value) (k : Nat) (dq : Option Addr) (lq : Array (Option Value)) :
    Meets (Builtin.«enumerate.__new__» ⟨[.type "enumerate", .ref q], []⟩) (fun _ R s => s.heap.get? q = some { cls := .type "tuple", dict := dq, data := .seq vs k, slots := lq } ∧
      R (.ok (.ret (.ref (s.heap.push { cls := .type "tuple_iterator", data := .fields #[.ref q, .int 0 0] }).objs.size)))
        { s with heap := (s.heap.push { cls := .type "tuple_iterator", data := .fields #[.ref q, .int 0 0] }).push { cls := .type "enumerate", data := .fields #[.none, .bool false, .ref s.heap.objs.size, rawInt 0, .none, .none] } }) :=
  .of_wp fun prog w A R s hq => by
    obtain ⟨hp, g, d, tk, os⟩ := s
    obtain ⟨eq, hq⟩ := hq
    have en := sub_enumerate
    have tq : Heap.IsTuple (Shared.heap ⟨hp, g, d, tk, os⟩) q vs := ⟨_, eq, rfl, k, rfl⟩
    wp_walk using wpAny_loadPart' eq
    refine wpAny_stack_any fun _ => wpAny_pure ?_
    split
    · rename_i cz _ _ _ _ _
      cases (cz == Value.type "enumerate") <;> (wp_walk using wpAny_loadPart' eq, wpAny_pyIter_tuple tq; exact ⟨_, rfl, hq⟩)
    · wp_walk using wpAny_loadPart' eq, wpAny_pyIter_tuple tq
      exact ⟨_, rfl, hq⟩
section
variable {prog : Program} {w : World} {A : Around} {E : Value → Shared → Prop} {s : Shared}
theorem enumT_call {q : Addr} {vs : Array Value} {Q : Value → Shared → Prop} (tq : s.heap.IsTuple q vs)
    (hq : ∀ h1, IsEnum h1 (s.heap.objs.size + 1) s.heap.objs.size 0 .none → h1.IsTupleIter s.heap.objs.size q 0 → h1.objs.size = s.heap.objs.size + 2 →
      (∀ b o, s.heap.get? b = some o → h1.get? b = some o) → Q (.ref (s.heap.objs.size + 1)) { s with heap := h1 }) : wpAny (model prog w) A (call (.type "enumerate") [.ref q]) Q E s := by
  obtain ⟨⟨cq, dq, tt, lq⟩, eq, e1, k, e2⟩ := tq
  cases (show cq = .type "tuple" from e1)
  cases (show tt = .seq vs k from e2)
  refine callType_new F.called_enumerate (by decide) (F.typeCall_enumerate_1 _) (F.newCall_enumerate_1 _) (fun z => F.args_object_init_2 z _) F.entry_enumerate_new (enumT_new q vs k dq lq) ⟨eq, ?_⟩
  have zz : (s.heap.push { cls := .type "tuple_iterator", data := .fields #[.ref q, .int 0 0] }).objs.size = s.heap.objs.size + 1 := Heap.size_push ..
  show _ ∧ _
  rw [zz]
  have ee : IsEnum ((s.heap.push { cls := .type "tuple_iterator", data := .fields #[.ref q, .int 0 0] }).push { cls := .type "enumerate", data := .fields #[.none, .bool false, .ref s.heap.objs.size, rawInt 0, .none, .none] }) (s.heap.objs.size + 1) s.heap.objs.size 0 .none := by
    have z2 := Heap.get?_push_size (s.heap.push { cls := .type "tuple_iterator", data := .fields #[.ref q, .int 0 0] }) (o := { cls := .type "enumerate", data := .fields #[.none, .bool false, .ref s.heap.objs.size, rawInt 0, .none, .none] }) rfl
    rwa [zz] at z2
  exact ⟨⟨_, ee, rfl⟩, hq _ ee ⟨_, Heap.get?_push_of_some _ (Heap.get?_push_size _ rfl), rfl, rfl⟩ (by rw [Heap.size_push, zz]) fun b o eb => Heap.get?_push_of_some _ (Heap.get?_push_of_some _ eb)⟩
theorem nextT_item {j q : Addr} {i : Nat} {vs : Array Value} {v : Value} {Q : Value → Shared → Prop} (jq : s.heap.IsTupleIter j q i) (tq : s.heap.IsTuple q vs) (hv : vs[i]? = some v)
    (hq : ∀ h1, h1.IsTupleIter j q (i + 1) → Heap.SameBut j s.heap h1 → Q v { s with heap := h1 }) : wpAny (model prog w) A (Builtin.SmallTypes.nextOf (.ref j)) Q E s := by
  obtain ⟨oj, ej, cj, dj⟩ := id jq
  obtain ⟨oq, eq, _, kq, dq⟩ := tq
  unfold Builtin.SmallTypes.nextOf
  refine wpAny_bind (wpAny_callSpecial?_slot (name := Str.ofString "__next__") jq.typeIs F.slot_tuple_iterator_next (wpAny_call_entry F.slot_tuple_iterator_next jq.typeIs F.entry_tuple_iterator_next ?_ (F.args_tuple_iterator_next_1 _)))
  show wpAny _ _ (field (.ref j) 0 >>= _) _ _ s
  refine wpAny_bind (wpAny_field ej dj (x := .ref q) rfl ?_)
  show wpAny _ _ (if (Value.ref q == Value.none) = true then _ else _) _ _ s
  rw [if_neg (show ¬ (Value.ref q == Value.none) = true from fun z => Bool.false_ne_true z)]
  show wpAny _ _ (field (.ref j) 1 >>= _) _ _ s
  refine wpAny_bind (wpAny_field ej dj (x := .int i 0) rfl ?_)
  show wpAny _ _ (seqItems? (.ref q) >>= _) _ _ s
  refine wpAny_bind (wpAny_seqItems eq dq ?_)
  simp only [Int.toNat_natCast, hv]
  exact wpAny_bind (wpAny_setField ej dj (by simp) (wpAny_pure ⟨v, rfl, wpAny_pure (hq _ ⟨_, Heap.get?_update_self _ ej (Obj.isFreed_of_fields (Obj.data_mapFields dj _)), (Obj.cls_mapFields ..).trans cj, by rw [Obj.data_mapFields dj]; simp [rawInt]⟩ (Heap.SameBut.update ..))⟩))
theorem nextT_end {j q : Addr} {i : Nat} {vs : Array Value} {Q : Value → Shared → Prop} (hn : A.handled = none) (jq : s.heap.IsTupleIter j q i) (tq : s.heap.IsTuple q vs) (hv : vs[i]? = none)
    (hq : ∀ h1 z, Heap.ExtBut j s.heap h1 → (∃ o, h1.get? z = some o ∧ o.cls = .type "StopIteration") → E (.ref z) { s with heap := h1 }) : wpAny (model prog w) A (Builtin.SmallTypes.nextOf (.ref j)) Q E s := by
  obtain ⟨oj, ej, cj, dj⟩ := id jq
  obtain ⟨oq, eq, _, kq, dq⟩ := tq
  unfold Builtin.SmallTypes.nextOf
  refine wpAny_bind (wpAny_callSpecial?_slot (name := Str.ofString "__next__") jq.typeIs F.slot_tuple_iterator_next (wpAny_call_entry F.slot_tuple_iterator_next jq.typeIs F.entry_tuple_iterator_next ?_ (F.args_tuple_iterator_next_1 _)))
  show wpAny _ _ (field (.ref j) 0 >>= _) _ _ s
  refine wpAny_bind (wpAny_field ej dj (x := .ref q) rfl ?_)
  show wpAny _ _ (if (Value.ref q == Value.none) = true then _ else _) _ _ s
  rw [if_neg (show ¬ (Value.ref q == Value.none) = true from fun z => Bool.false_ne_true z)]
  show wpAny _ _ (field (.ref j) 1 >>= _) _ _ s
  refine wpAny_bind (wpAny_field ej dj (x := .int i 0) rfl ?_)
  show wpAny _ _ (seqItems? (.ref q) >>= _) _ _ s
  refine wpAny_bind (wpAny_seqItems eq dq ?_)
  simp only [Int.toNat_natCast, hv]
  refine wpAny_bind (wpAny_rule (wpAny_bind (wpAny_setField ej dj (by simp) ?_)))
  show wpAny _ _ (newExc (.type "StopIteration") [] >>= fun _ => _) _ _ _
  refine wpAny_bind ?_; simp only [newExc, newTuple]
  refine wpAny_bind (wpAny_newObj_type ?_ (by size_fits)); refine wpAny_bind (m := firstArgMember _ _) (wpAny_of_eq (a := Value.none) (by first | rfl | (simp only [firstArgMember]; rfl)) (wpAny_newObj_type ?_ (by size_fits)))
  simp only [raiseNew]; refine wpAny_bind (wpAny_handled ?_); first | rw [show A.in1.handled = none from hn] | rw [hn]
  exact wpAny_bind (wpAny_pure (wpAny_throw (hq _ _ (((Heap.SameBut.update ..).extBut.push _).push _) ⟨_, Heap.get?_push_size _ rfl, rfl⟩)))
theorem enumT_item {e j q : Addr} {i : Nat} {vs : Array Value} {v old : Value} {Q : Option Value → Shared → Prop} (en : IsEnum s.heap e j i old) (jq : s.heap.IsTupleIter j q i) (tq : s.heap.IsTuple q vs) (hv : vs[i]? = some v) (hne : e ≠ j)
    (hq : ∀ h9, IsEnumOut h9 e j ((i : Int) + 1) v s.heap.objs.size → h9.IsTupleIter j q (i + 1) → h9.get? s.heap.objs.size = some { cls := .type "tuple", data := .seq #[.int i s.toks, v] } → h9.objs.size = s.heap.objs.size + 1 →
      (∀ b o, b ≠ e → b ≠ j → s.heap.get? b = some o → h9.get? b = some o) → Q (some (.ref s.heap.objs.size)) { s with heap := h9, toks := s.toks + 1 }) : wpAny (model prog w) A (pyNext (.ref e)) Q E s := by
  have te : s.TypeIs (.ref e) "enumerate" := ⟨_, en, rfl⟩
  unfold pyNext
  refine wpAny_bind (wpAny_attempt (wpAny_callSpecial?_slot (name := Str.ofString "__next__") te F.slot_enumerate_next (wpAny_call_entry F.slot_enumerate_next te F.entry_enumerate_next ?_ (F.args_enumerate_next_1 _))))
  obtain ⟨hp, g, d, tk, os⟩ := s
  show wpAny _ _ (field (.ref e) 2 >>= _) _ _ _
  refine wpAny_bind (wpAny_field en rfl (x := .ref j) rfl (wpAny_bind (nextT_item jq tq hv fun h1 j1 (u1 : Heap.SameBut j hp h1) => ?_)))
  have en1 : IsEnum h1 e j i old := (u1.2 e hne).trans en
  show wpAny _ _ (field (.ref e) 3 >>= _) _ _ ⟨h1, g, d, tk, os⟩
  refine wpAny_bind (wpAny_field en1 rfl (x := rawInt i) rfl ?_)
  show wpAny _ _ (field (.ref e) 4 >>= _) _ _ ⟨h1, g, d, tk, os⟩
  refine wpAny_bind (wpAny_field en1 rfl (x := .none) rfl ?_)
  show wpAny _ _ (mkInt i >>= _) _ _ ⟨h1, g, d, tk, os⟩
  refine wpAny_bind (wpAny_mkInt ?_)
  show wpAny _ _ (setField (.ref e) 3 (rawInt ((i : Int) + 1)) >>= _) _ _ ⟨h1, g, d, tk + 1, os⟩
  refine wpAny_bind (wpAny_setField_rec en1 (by simp) fun h2 (en2 : IsEnum h2 e j ((i : Int) + 1) old) (u2 : Heap.SameBut e h1 h2) => ?_)
  show wpAny _ _ (setField (.ref e) 4 .none >>= _) _ _ ⟨h2, g, d, tk + 1, os⟩
  refine wpAny_bind (wpAny_setField_rec en2 (by simp) fun h3 (en3 : IsEnum h3 e j ((i : Int) + 1) old) (u3 : Heap.SameBut e h2 h3) => ?_)
  show wpAny _ _ (newTuple [.int i tk, v] >>= _) _ _ ⟨h3, g, d, tk + 1, os⟩
  refine wpAny_bind (wpAny_newTuple ?_)
  have en4 : IsEnum (h3.push { cls := .type "tuple", data := .seq #[.int i tk, v] }) e j ((i : Int) + 1) old := Heap.get?_push_of_some _ en3
  have z3 : h3.objs.size = hp.objs.size := u3.1.trans (u2.1.trans u1.1)
  have lte : e < hp.objs.size := Heap.lt_size en
  have t4 : (h3.push { cls := .type "tuple", data := .seq #[.int i tk, v] }).get? hp.objs.size = some { cls := .type "tuple", data := .seq #[.int i tk, v] } := z3 ▸ Heap.get?_push_size _ rfl
  have z4 : (h3.push { cls := .type "tuple", data := .seq #[.int i tk, v] }).objs.size = hp.objs.size + 1 := (Heap.size_push ..).trans (congrArg (· + 1) z3)
  have k4 : ∀ b o, b ≠ e → b ≠ j → hp.get? b = some o → (h3.push { cls := .type "tuple", data := .seq #[.int i tk, v] }).get? b = some o := fun b o be bj eb => Heap.get?_push_of_some _ (u3.extBut b o be (u2.extBut b o be (u1.extBut b o bj eb)))
  have j4 : (h3.push { cls := .type "tuple", data := .seq #[.int i tk, v] }).IsTupleIter j q (i + 1) := let ⟨o, ho, rr⟩ := (j1.extBut u2.extBut (Ne.symm hne)).extBut u3.extBut (Ne.symm hne); ⟨o, Heap.get?_push_of_some _ ho, rr⟩
  generalize h3.push { cls := .type "tuple", data := .seq #[.int i tk, v] } = h4 at en4 t4 z4 k4 j4 ⊢
  show wpAny _ _ (Builtin.SmallTypes.ownedTupleIsFree (.ref e) >>= _) _ _ ⟨h4, g, d, tk + 1, os⟩
  rw [z3]
  refine wpAny_bind ?_
  unfold Builtin.SmallTypes.ownedTupleIsFree
  refine wpAny_bind (wpAny_field en4 rfl (x := .none) rfl (wpAny_pure ?_))
  simp only [if_true]
  refine wpAny_bind (wpAny_rule (wpAny_bind (wpAny_field en4 rfl (x := old) rfl (wpAny_bind (wpAny_setField_rec en4 (by simp) fun h5 (en5 : IsEnum h5 e j ((i : Int) + 1) v) (u5 : Heap.SameBut e h4 h5) => ?_)))))
  show wpAny _ _ (Builtin.SmallTypes.ownedTupleHandOut (.ref e) (.ref hp.objs.size) >>= _) _ _ ⟨h5, g, d, tk + 1, os⟩
  refine wpAny_bind ?_
  unfold Builtin.SmallTypes.ownedTupleHandOut
  refine wpAny_bind (wpAny_setField_rec en5 (by simp) fun h6 (en6 : IsEnumOut h6 e j ((i : Int) + 1) v hp.objs.size) (u6 : Heap.SameBut e h5 h6) => ?_)
  refine wpAny_setField_rec en6 (by simp) fun h7 (en7 : IsEnumOut h7 e j ((i : Int) + 1) v hp.objs.size) (u7 : Heap.SameBut e h6 h7) => ?_
  have up : ∀ b o, b ≠ e → h4.get? b = some o → h7.get? b = some o := fun b o be eb => u7.extBut b o be (u6.extBut b o be (u5.extBut b o be eb))
  refine wpAny_bind (wpAny_letGo (wpAny_pure ⟨_, rfl, wpAny_pure (hq h7 en7 ?_ (up _ _ (Nat.ne_of_gt lte) t4) ?_ fun b o be bj eb => up b o be (k4 b o be bj eb))⟩))
  · exact ((j4.extBut u5.extBut (Ne.symm hne)).extBut u6.extBut (Ne.symm hne)).extBut u7.extBut (Ne.symm hne)
  · rw [u7.1, u6.1, u5.1, z4]
theorem enumT_end {e j q : Addr} {i : Nat} {vs : Array Value} {old : Value} {Q : Option Value → Shared → Prop} (hn : A.handled = none) (en : IsEnum s.heap e j i old) (jq : s.heap.IsTupleIter j q i) (tq : s.heap.IsTuple q vs) (hv : vs[i]? = none)
    (hq : ∀ h1, Heap.ExtBut j s.heap h1 → Q none { s with heap := h1 }) : wpAny (model prog w) A (pyNext (.ref e)) Q E s := by
  have te : s.TypeIs (.ref e) "enumerate" := ⟨_, en, rfl⟩
  unfold pyNext
  refine wpAny_bind (wpAny_attempt (wpAny_callSpecial?_slot (name := Str.ofString "__next__") te F.slot_enumerate_next (wpAny_call_entry F.slot_enumerate_next te F.entry_enumerate_next ?_ (F.args_enumerate_next_1 _))))
  show wpAny _ _ (field (.ref e) 2 >>= _) _ _ _
  refine wpAny_bind (wpAny_field en rfl (x := .ref j) rfl (wpAny_bind (nextT_end hn jq tq hv fun h1 z ex ⟨o, ho, co⟩ => ?_)))
  exact wpAny_bind (wpAny_isInstance (T := "StopIteration") (b := true) ⟨o, ho, co⟩ isSubtype_stop (wpAny_pure (hq _ ex)))
end
end L2
namespace L2
open PySem PySem.Spec PyProof.Rows
noncomputable def IteT (K : PySem.W.Frag) (a : Addr) : It where
  go := fun i H => ∃ xs x, SqT K H a xs ∧ xs[i]? = some x
  yld := fun i H y H' => ∃ p x, H p = none ∧ y = .ref p ∧ (∀ ys, SqT K H a ys → ys[i]? = some x) ∧ H' = upd H p (.tup [.int i, x])
  stop := fun i H => ∃ xs, SqT K H a xs ∧ xs.length ≤ i
theorem turn_enumT {P : Program} {w : World} {K : PySem.W.Frag} {elts : List Expr} {x1 : Nat} {tpos : Pos} (a e it : Addr) (hne : e ≠ it) : Turn P w K (.Tuple elts x1 tpos) (IteT K a) [e, it] e (fun i h => ∃ old, IsEnum h e it i old ∧ h.IsTupleIter it a i) where
  mem := by simp
  obj := fun i h st b hb => by
    obtain ⟨old, h1, o, h2, c, d⟩ := st
    rcases List.mem_cons.mp hb with rfl | hb
    · exact ⟨_, h1, fun v z => nomatch z⟩
    · cases List.mem_singleton.mp hb
      exact ⟨o, h2, fun v z => by rw [d] at z; cases z⟩
  keep := fun i h h' st k => by
    obtain ⟨old, h1, h2⟩ := st
    exact ⟨old, k e (by simp) _ h1, h2.at fun o z => k it (by simp) o z⟩
  item := by
    intro X hP hw hK hc i pins s σ H E I hf st hg
    subst hP hw hK
    obtain ⟨xs, x, hq, hx⟩ := hg
    obtain ⟨its, rv, p, hz⟩ := I.tuple hq
    obtain ⟨u, hu, ru⟩ := rv.get hx
    obtain ⟨old, h1, h2⟩ := st
    obtain ⟨f0, f1, f2, f3, f4, f5⟩ := hf e (by simp)
    obtain ⟨g0, g1, g2, g3, g4, g5⟩ := hf it (by simp)
    have fr : H s.heap.objs.size = none := I.hok.fresh (Nat.le_refl _)
    have pe : s.heap.objs.size ≠ e := Nat.ne_of_gt (Heap.lt_size h1)
    refine enumT_item h1 h2 p (v := u) (by simpa using hu) hne fun h' out st' tup sz k => ⟨.ref s.heap.objs.size, rfl, ?_⟩
    refine wpAny_letOwnedTupleGo_enum (s := { s with heap := h', toks := s.toks + 1 }) out fun h'' he' sb => ?_
    have kk : ∀ b o, b ∉ [e, it] → s.heap.get? b = some o → h''.get? b = some o := fun b o hb z =>
      (sb.2 b (fun q => hb (by simp [q]))).trans (k b o (fun q => hb (by simp [q])) (fun q => hb (by simp [q])) z)
    have kt : h''.get? s.heap.objs.size = some { cls := .type "tuple", data := .seq #[.int i s.toks, u] } := (sb.2 _ pe).trans tup
    have nt : ∀ b v, H b = some v → b ∉ [e, it] := fun b v z hb => by
      rcases List.mem_cons.mp hb with rfl | hb
      · rw [f0] at z; cases z
      · cases List.mem_singleton.mp hb
        rw [g0] at z; cases z
    have np : ∀ b v, H b = some v → b ≠ s.heap.objs.size := fun b v z q => by subst q; rw [fr] at z; cases z
    have up : ∀ b v, H b = some v → upd H s.heap.objs.size (.tup [.int i, x]) b = some v := fun b v z => by rw [upd_ne (np b v z)]; exact z
    refine ⟨.ref s.heap.objs.size, upd H s.heap.objs.size (.tup [.int i, x]), ?_, rfl, ⟨_, x, fr, rfl, fun ys hy => by rw [I.tuple_inj hy hq]; exact hx, rfl⟩, ⟨u, he', st'.at fun o z => (sb.2 it (Ne.symm hne)).trans z⟩, fun b hb => ?_⟩
    · show Inv X pins σ _ { s with heap := h'', gens := s.gens, drawn := s.drawn, toks := s.toks + 1 }
      refine Inv.step (s := s) (h' := h'') (t' := s.toks + 1) (g' := s.gens) (d' := s.drawn) (ch := [e, it]) I (fun b hb => ?_) (fun b o _ _ hb z _ => kk b o hb z) (fun b o _ _ hb z _ => ⟨o.slots, kk b o hb z⟩) (fun b o _ z n => by rw [upd_ne (Nat.ne_of_lt (Heap.lt_size z))]; exact n) (fun b o hb z => ⟨o, kk b o hb z⟩)
        (fun b ys z => up b _ z) (fun b o v z => up b _ z) (fun b ps z => ⟨#[], by rw [Array.append_empty]; exact up b _ z⟩) (fun m hm => ?_) (fun b v z => ?_) I.bare
      · rcases List.mem_cons.mp hb with rfl | hb
        · exact ⟨f3, f1, f4, f5⟩
        · cases List.mem_singleton.mp hb
          exact ⟨g3, g1, g4, g5⟩
      · obtain ⟨o, es, ep, ho, r⟩ := hm
        refine ⟨o, es, ep, kk _ o (fun hb => ?_) ho, r⟩
        rcases List.mem_cons.mp hb with q | hb
        · exact f1 q.symm
        · exact g1 (List.mem_singleton.mp hb).symm
      · by_cases q : b = s.heap.objs.size
        · subst q
          rw [upd_same] at z
          cases z
          exact ⟨small_line (Nat.le_of_ble_eq_true rfl), [.int i s.toks, u], .cons ⟨_, rfl⟩ (.cons ru .nil), _, kt, rfl, _, rfl⟩
        · rw [upd_ne q] at z
          refine (I.hok b v z).stay (fun c o hc y => kk c o ?_ y) (fun c y => up c _ y) fun c ys y => up c _ y
          rcases hc with rfl | hc
          · exact nt _ _ z
          · exact nt _ _ hc
    · rcases List.mem_cons.mp hb with rfl | hb
      · rw [upd_ne (Ne.symm pe)]; exact f0
      · cases List.mem_singleton.mp hb
        obtain ⟨o, h2', _⟩ := h2
        rw [upd_ne (Nat.ne_of_lt (Heap.lt_size h2'))]; exact g0
  done := by
    intro X hP hw hK hc i pins s σ H E I hf st hg
    subst hP hw hK
    obtain ⟨xs, hq, hx⟩ := hg
    obtain ⟨its, rv, p, hz⟩ := I.tuple hq
    obtain ⟨old, h1, h2⟩ := st
    obtain ⟨g0, g1, g2, g3, g4, g5⟩ := hf it (by simp)
    have hl := rv.length
    exact enumT_end (I.ok.hd hc) h1 h2 p (by simp; omega) fun h' eb => ⟨rfl, I.turned (t' := s.toks) (fun b o hb z => eb b o hb z) g0 g1 g3 g4 g5⟩
  self := fun _ _ _ _ _ st h => by
    obtain ⟨old, h1, h2⟩ := st
    exact wpAny_pyIter_enum h1 h
section
variable {X : Cx}
noncomputable def iEnumS (K : PySem.W.Frag) (ta : TA) : TI := fun σ H R => ta σ H fun vs H1 => ∃ a, vs = [.ref a] ∧ (((∃ xs, SqL K H1 a xs) ∧ R (Ite K a) H1) ∨ ((∃ xs, SqT K H1 a xs) ∧ R (IteT K a) H1))
theorem pi_enumS {a : Expr} {ta : TA} {p pos tpos : Pos} {elts : List Expr} {x1 : Nat} (hg : Gl X "enumerate") (hm : X.mg "enumerate" = none) (ha : PA X [a] ta) (hn : notStar a = true) : PI X (.Tuple elts x1 tpos) (.Call (.Name "enumerate" p) [a] [] pos) (iEnumS X.K ta) := by
  intro pins s σ H R I h
  refine Call_ (ld_blt I hg hm boot_enumerate (PyProof.Rows.callWith_type1 (thn (ha pos pins s σ H _ I h) fun us s1 ⟨vs, H1, I1, r1, q1⟩ => ?_) (star_cons hn) rfl))
  obtain ⟨l, e, q⟩ := q1
  subst e
  cases r1 with
  | cons r rr =>
    cases rr
    cases (show _ = Value.ref l from r)
    rcases q with ⟨⟨xs, hq⟩, q⟩ | ⟨⟨xs, hq⟩, q⟩
    · obtain ⟨its, rv, pl, hz⟩ := I1.list hq
      refine call_enumerate_list pl.isList fun h' he st sz k => ?_
      refine wpAny_pyIter_enum (s := { s1 with heap := h' }) he ?_
      refine ⟨s1.heap.objs.size + 1, [s1.heap.objs.size + 1, s1.heap.objs.size], _, _, H1, rfl, I1.kept (t' := s1.toks) k, turn_enum l _ _ (Nat.succ_ne_self _), ⟨_, he, st⟩, fun b hb => ?_, q⟩
      rcases List.mem_cons.mp hb with rfl | hb
      · exact I1.fpOk (Nat.le_succ _) (I1.hok.fresh (Nat.le_succ _))
      · cases List.mem_singleton.mp hb
        exact I1.fpOk (Nat.le_refl _) (I1.hok.fresh (Nat.le_refl _))
    · obtain ⟨its, rv, pl, hz⟩ := I1.tuple hq
      refine enumT_call pl fun h' he st sz k => ?_
      refine wpAny_pyIter_enum (s := { s1 with heap := h' }) he ?_
      refine ⟨s1.heap.objs.size + 1, [s1.heap.objs.size + 1, s1.heap.objs.size], _, _, H1, rfl, I1.kept (t' := s1.toks) k, turn_enumT l _ _ (Nat.succ_ne_self _), ⟨_, he, st⟩, fun b hb => ?_, q⟩
      rcases List.mem_cons.mp hb with rfl | hb
      · exact I1.fpOk (Nat.le_succ _) (I1.hok.fresh (Nat.le_succ _))
      · cases List.mem_singleton.mp hb
        exact I1.fpOk (Nat.le_refl _) (I1.hok.fresh (Nat.le_refl _))
theorem k_enumS {K : PySem.W.Frag} {a : Expr} {ta : TA} {p pos tpos : Pos} {elts : List Expr} {x1 : Nat} (e : X.K = K) (hg : Gl X "enumerate") (hm : X.mg "enumerate" = none) (ha : PA X [a] ta) (hn : notStar a = true) : PI X (.Tuple elts x1 tpos) (.Call (.Name "enumerate" p) [a] [] pos) (iEnumS K ta) := by subst e; exact pi_enumS hg hm ha hn
noncomputable def rDPop : V → List V → Hp → VK → Prop := fun x vs H Q => ∃ d kvs k v, x = .ref d ∧ vs = [kV k] ∧ H d = some (.dK kvs) ∧ valV kvs k = some v ∧ Q v (upd H d (.dK (dropK kvs k)))
end
theorem ForW.enumT {K : PySem.W.Frag} {a : Addr} {xs : List V} {g : TG} {tb : TS} {D : Ends} {σ : St} {H : Hp} (Pv : Nat → St → Hp → Prop) (h0 : Pv 0 σ H) (hl : ∀ i σ H, Pv i σ H → SqT K H a xs)
    (hs : ∀ (i : Nat) x σ H p, xs[i]? = some x → Pv i σ H → H p = none → g (.ref p) σ (upd H p (.tup [.int i, x])) fun σ2 H2 => tb { D with nx := Pv (i + 1), ct := Pv (i + 1), bk := D.nx } σ2 H2)
    (hd : ∀ σ H, Pv xs.length σ H → D.nx σ H) : ForW (IteT K a) g tb D σ H := by
  refine ⟨fun i m σ H => Pv i σ H ∧ i ≤ xs.length ∧ m = xs.length - i, ⟨_, h0, Nat.zero_le _, rfl⟩, fun i m σ H ⟨h1, h2, h3⟩ => ?_⟩
  have sq := hl i σ H h1
  by_cases e : i = xs.length
  · subst e
    exact .inl ⟨⟨xs, sq, Nat.le_refl _⟩, hd σ H h1⟩
  · have lt : i < xs.length := Nat.lt_of_le_of_ne h2 e
    refine .inr ⟨⟨xs, xs[i], sq, List.getElem?_eq_getElem lt⟩, Pv (i + 1), fun σ' H' z => ⟨xs.length - (i + 1), by omega, z, lt, rfl⟩, fun x H' hy => ?_⟩
    obtain ⟨p, x', hp, rfl, hx, rfl⟩ := hy
    exact hs i x' σ H p (hx xs sq) h1 hp
end L2
set_option maxHeartbeats 4000000
namespace L2
open PySem PySem.Spec PyProof.Rows
section
variable {X : Cx}
end
end L2
namespace L2
open PySem PySem.Spec PyProof.Rows
section
variable {X : Cx} {k : Nat} {f C : Addr} {fd : FuncData} {ps : List Str} {sp : Sp} {x m : Str} {p pos apos : Pos} {e o : Expr} {es : List Expr} {ta : TE} {t : TA}
end
end L2
set_option maxHeartbeats 4000000
namespace L2
open PySem PySem.Spec PyProof.Rows
section
variable {X : Cx}
noncomputable def rIndexS (K : PySem.W.Frag) : V → List V → Hp → VK → Prop := fun x vs H Q => ∃ l, ∃ ns : List Str, ∃ z, ∃ j : Nat, x = .ref l ∧ vs = [.str z] ∧ SqL K H l (ns.map V.str) ∧ ns[j]? = some z ∧ (∀ m, m < j → ns[m]? ≠ some z) ∧ Q (.int j) H
end
end L2
set_option maxHeartbeats 4000000
namespace L2
open PySem PySem.Spec PyProof.Rows
section
variable {M : Model} {A : Around} {E : Value → Shared → Prop} {s : Shared} {Q : Unit → Shared → Prop} {base : Heap} {env : Env} {outer : List Env} {L e : Addr} {C : Value} {ed : Option Addr} {G : Heap} {H : Hp}
theorem note_any {fl : Value} (hfr : A.frames = some (env :: outer)) (hl : s.heap.FunFrames base (env :: outer)) (hf : env.frame = some L) (hH : ∀ b, s.heap.objs.size ≤ b → H b = none) (hG : ∀ b, s.heap.objs.size ≤ b → G.get? b = none) (t : Trc H s.heap G e C ed fl)
    (h : ∀ h', Trc H h' G e C ed (rawInt L) → h'.FunFrames base (env :: outer) → Kp H G (frs (env :: outer)) s.heap h' → Q () { s with heap := h' }) : wpAny M A (noteFrame (.ref e) env) Q E s := by
  obtain ⟨hn, hHe, oe, vs, he, hc, hdi, hd, hsz, ht⟩ := t
  unfold noteFrame
  simp only [hf]
  have nfr : ∀ b o ws, s.heap.get? b = some o → o.data = .fields ws → b ∉ frs (env :: outer) := fun b o ws ho hw hm => by
    obtain ⟨_, o', ho', hnf⟩ := hl.mem hm
    rw [ho] at ho'
    cases ho'
    exact hnf ws hw
  have fin : ∀ (s1 : Shared) (h' : Heap) (T : Addr) (oT : Obj) (ts : Array Value), s.heap.objs.size ≤ T → h'.get? e = some (oe.mapFields (·.setIfInBounds 1 (.ref T))) → h'.get? T = some oT → oT.data = .fields ts → ts[3]? = some (rawInt L) →
      (∀ b o, s.heap.get? b = some o → b ∉ frs (env :: outer) → (G.get? b ≠ none ∨ H b ≠ none) → h'.get? b = some o) → (∀ b o, s.heap.get? b = some o → (∀ ws, o.data ≠ .fields ws) → ∃ sl, h'.get? b = some { o with slots := sl }) →
      (∀ b o, s.heap.get? b = some o → ∃ o', h'.get? b = some o') → s.heap.objs.size ≤ h'.objs.size → Q () { s with heap := h' } := by
    intro s1 h' T oT ts hT e1 e2 e3 e4 k1 k2 k3 k4
    have le : e < s.heap.objs.size := Heap.lt_size he
    refine h h' ⟨hn, hHe, _, _, e1, by rw [Obj.cls_mapFields]; exact hc, ?_, Obj.data_mapFields hd _, by simpa using hsz, .inr ⟨T, oT, ts, by simp [hsz], hG T hT, Nat.ne_of_gt (Nat.lt_of_lt_of_le le hT), hH T hT, e2, e3, e4⟩⟩ (hl.of_keeps fun b o hb hnf => ?_) ⟨k1, fun b o hb hm => ?_, k3, k4⟩
    · rw [← hdi]
      obtain ⟨c, d, dt, sl⟩ := oe
      cases dt <;> rfl
    · obtain ⟨sl, q⟩ := k2 b o hb hnf
      exact ⟨_, q, rfl⟩
    · obtain ⟨_, o', ho', hnf⟩ := hl.mem hm
      rw [hb] at ho'
      cases ho'
      exact k2 b o hb hnf
  have nee : ∀ b o, s.heap.get? b = some o → (G.get? b ≠ none ∨ H b ≠ none) → b ≠ e := fun b o hb hx z => by
    subst z
    rcases hx with hx | hx
    · exact hx hn
    · exact hx hHe
  rcases ht with ⟨h1, _⟩ | ⟨T, oT, ts, h1, hT, hTe, hHT, gT, hdT, h3⟩
  · refine wpAny_bind (wpAny_field he hd h1 ?_)
    rw [if_neg (by decide)]
    refine entry_wp hfr hl hf he hd hsz fun h' T' oT' ts' q1 q2 q3 q4 q5 q6 q7 q8 => fin s h' T' oT' ts' q1 q2 q3 q4 q5 (fun b o hb hm hx => q6 b o (nee b o hb hx) hb hm) (fun b o hb hnf => q7 b o (fun z => ?_) hb) (fun b o hb => ?_) q8
    · subst z
      rw [he] at hb
      cases hb
      exact hnf vs hd
    · by_cases z : b = e
      · subst z
        exact ⟨_, q2⟩
      · obtain ⟨sl, q⟩ := q7 b o z hb
        exact ⟨_, q⟩
  · refine wpAny_bind (wpAny_field he hd h1 ?_)
    rw [if_pos (show (Value.ref T != Value.none) = true from by simp)]
    refine wpAny_bind (wpAny_field gT hdT h3 ?_)
    by_cases hfl : (fl == rawInt L) = true
    · rw [if_pos hfl]
      have efl : fl = rawInt L := by simpa using hfl
      subst efl
      exact wpAny_pure (h s.heap ⟨hn, hHe, oe, vs, he, hc, hdi, hd, hsz, .inr ⟨T, oT, ts, h1, hT, hTe, hHT, gT, hdT, h3⟩⟩ hl (Kp.refl ..))
    rw [if_neg hfl]
    refine wpAny_bind (wpAny_setField gT hdT (Array.getElem?_eq_some_iff.mp h3).1 ?_)
    have other : ∀ b, b ≠ T → (s.heap.update T (Obj.mapFields (·.setIfInBounds 3 Value.none))).get? b = s.heap.get? b := fun b hb => Heap.get?_update_other _ _ (Ne.symm hb)
    have self := Heap.get?_update_self (Obj.mapFields (·.setIfInBounds 3 Value.none)) gT (Obj.isFreed_of_fields (Obj.data_mapFields hdT _))
    have neT : ∀ b o, s.heap.get? b = some o → (G.get? b ≠ none ∨ H b ≠ none) → b ≠ T := fun b o hb hx z => by
      subst z
      rcases hx with hx | hx
      · exact hx hT
      · exact hx hHT
    have neF : ∀ b o, s.heap.get? b = some o → (∀ ws, o.data ≠ .fields ws) → b ≠ T := fun b o hb hnf z => by
      subst z
      rw [gT] at hb
      cases hb
      exact hnf ts hdT
    have sz : (s.heap.update T (Obj.mapFields (·.setIfInBounds 3 Value.none))).objs.size = s.heap.objs.size := Heap.size_after_update ..
    refine entry_wp hfr (hl.of_keeps fun b o hb hnf => ⟨o, (other b (neF b o hb hnf)).trans hb, rfl⟩) hf ((other e (Ne.symm hTe)).trans he) hd hsz
      fun h' T' oT' ts' q1 q2 q3 q4 q5 q6 q7 q8 => fin s h' T' oT' ts' (by rw [sz] at q1; exact q1) q2 q3 q4 q5 (fun b o hb hm hx => q6 b o (nee b o hb hx) ((other b (neT b o hb hx)).trans hb) hm)
        (fun b o hb hnf => q7 b o (fun z => ?_) ((other b (neF b o hb hnf)).trans hb)) (fun b o hb => ?_) (by rw [sz] at q8; exact q8)
    · subst z
      rw [he] at hb
      cases hb
      exact hnf vs hd
    · by_cases z : b = e
      · subst z
        exact ⟨_, q2⟩
      · by_cases y : b = T
        · subst y
          obtain ⟨sl, q⟩ := q7 b _ z self
          exact ⟨_, q⟩
        · obtain ⟨sl, q⟩ := q7 b o z ((other b y).trans hb)
          exact ⟨_, q⟩
theorem flight_any {fl : Value} {o : Option Addr} (hl : s.heap.FunFrames base outer) (t : Trc H s.heap G e C ed fl)
    (h : ∀ h' fl', Trc H h' G e C ed fl' → h'.FunFrames base outer → Kp H G [] s.heap h' → (∀ b o, s.heap.get? b = some o → (∀ ws, o.data ≠ .fields ws) → h'.get? b = some o) → Q () { s with heap := h' }) : wpAny M A (setFlight (.ref e) o) Q E s := by
  obtain ⟨hn, hHe, oe, vs, he, hc, hdi, hd, hsz, ht⟩ := t
  unfold setFlight
  rcases ht with ⟨h1, _⟩ | ⟨T, oT, ts, h1, hT, hTe, hHT, gT, hdT, h3⟩
  · refine wpAny_bind (wpAny_field he hd h1 ?_)
    rw [if_neg (by decide)]
    exact wpAny_pure (h s.heap .none ⟨hn, hHe, oe, vs, he, hc, hdi, hd, hsz, .inl ⟨h1, rfl⟩⟩ hl (Kp.refl ..) fun _ _ e _ => e)
  · have hs3 : 3 < ts.size := (Array.getElem?_eq_some_iff.mp h3).1
    refine wpAny_bind (wpAny_field he hd h1 ?_)
    rw [if_pos (show (Value.ref T != Value.none) = true from by simp)]
    have other : ∀ b, b ≠ T → (s.heap.update T (Obj.mapFields (·.setIfInBounds 3 (o.elim Value.none fun f => rawInt f)))).get? b = s.heap.get? b := fun b hb => Heap.get?_update_other _ _ (Ne.symm hb)
    have self := Heap.get?_update_self (Obj.mapFields (·.setIfInBounds 3 (o.elim Value.none fun f => rawInt f))) gT (Obj.isFreed_of_fields (Obj.data_mapFields hdT _))
    refine wpAny_setField gT hdT hs3 (h _ (o.elim Value.none fun f => rawInt f) ⟨hn, hHe, oe, vs, (other e (Ne.symm hTe)).trans he, hc, hdi, hd, hsz, .inr ⟨T, _, _, h1, hT, hTe, hHT, self, Obj.data_mapFields hdT _, by simp [hs3]⟩⟩ (hl.of_keeps fun b ob hb hnf => ⟨ob, (other b fun z => ?_).trans hb, rfl⟩)
      ⟨fun b ob hb _ hx => (other b fun z => ?_).trans hb, fun _ _ _ hm => (nomatch hm), fun b ob hb => ?_, Nat.le_of_eq (Heap.size_after_update ..).symm⟩ fun b ob hb hnf => (other b fun z => ?_).trans hb)
    · subst z
      rw [gT] at hb
      cases hb
      exact hnf ts hdT
    · subst z
      rcases hx with hx | hx
      · exact hx hT
      · exact hx hHT
    · by_cases z : b = T
      · subst z
        exact ⟨_, self⟩
      · exact ⟨ob, (other b z).trans hb⟩
    · subst z
      rw [gT] at hb
      cases hb
      exact hnf ts hdT
end
theorem leave_any {X : Cx} {fl : Value} {pins : List (Addr × Obj)} {σ : St} {H : Hp} {s : Shared} {a : Addr} {C : Value} {ed : Option Addr} {E : XK} {E' : Value → Shared → Prop} (hf : X.env.frame = some X.env.locals) (hst : X.stack = X.env :: X.outer) (hex : X.ex = [])
    (I : Inv X pins σ H s) (t : Trc H s.heap X.s₀.heap a C ed fl) (q : E C ed H) :
    wpAny (model X.prog X.w) X.A (leaving X.env (.ref a)) (fun _ s' => CXE X.prog X.w X.outer X.H₀ X.s₀ E (.ref a) s') E' s := by
  have stk : s.heap.FunFrames X.base (X.env :: X.outer) := hst ▸ I.stack
  have sfr : ∀ b ∈ frs (X.env :: X.outer), H b = none := hst ▸ I.stkFree
  unfold leaving
  refine wpAny_bind (note_any (hst ▸ I.ok.frames) stk hf (fun b hb => I.hok.fresh hb) (fun b hb => I.back hex b (get_none hb)) t fun h1 t1 f1 k1 => ?_)
  refine flight_wp (s := { s with heap := h1 }) (outer := X.env :: X.outer) f1 t1 fun h2 t2 f2 k2 _ => ?_
  have hlt : ∀ b o, X.s₀.heap.get? b = some o → X.s₀.heap.get? b ≠ none := fun b o e => by rw [e]; simp
  have hnl : ∀ b o, X.s₀.heap.get? b = some o → b ≠ X.env.locals := fun b o e => Nat.ne_of_lt (Nat.lt_of_lt_of_le (Heap.lt_size e) I.ok.above)
  have mem : ∀ b, b ∈ frs (X.env :: X.outer) → b = X.env.locals ∨ b ∈ frs X.outer := fun b hb => by
    unfold frs at hb ⊢
    rw [List.filterMap_cons, hf] at hb
    exact List.mem_cons.mp hb
  have mem2 : ∀ b, b ∈ frs X.outer → b ∈ frs (X.env :: X.outer) := fun b hb => by
    unfold frs at hb ⊢
    rw [List.filterMap_cons, hf]
    exact List.mem_cons_of_mem _ hb
  refine ⟨a, C, ed, H, rfl, I.os, I.bare, ⟨fun b o e hn hb _ => ?_, fun b o e hn hb _ => ?_, fun b o e hn _ => ?_, fun b o e _ => ?_, I.base.tups, I.base.frzs, I.base.tbls⟩, k2.hok (fun _ z => absurd z (by simp)) (k1.hok sfr I.hok), t2, q⟩
  · have e1 := I.base.keep b o e hn hb (by rw [hex]; simp)
    have e2 := k1.keep b o e1 (fun z => (mem b z).elim (hnl b o e) hb) (.inl (hlt b o e))
    exact k2.keep b o e2 (by simp) (.inl (hlt b o e))
  · obtain ⟨sl, e1⟩ := I.base.slot b o e hn hb (by rw [hex]; simp)
    obtain ⟨sl', e2⟩ := k1.slot b _ e1 (mem2 b hb)
    exact ⟨sl', k2.keep b _ e2 (by simp) (.inl (hlt b o e))⟩
  · exact I.base.free b o e hn (by rw [hex]; simp)
  · obtain ⟨o1, e1⟩ := I.base.there b o e (by rw [hex]; simp)
    obtain ⟨o2, e2⟩ := k1.there b o1 e1
    exact k2.there b o2 e2
structure Leaves (X : Cx) (E : XK) : Prop where
  ex : X.ex = []
  stk : X.stack = X.env :: X.outer
  fr : X.env.frame = some X.env.locals
  on : ∀ pins σ H s a C ed fl, Inv X pins σ H s → Trc H s.heap X.s₀.heap a C ed fl → E C ed H → X.xe (.ref a) s
theorem leaves_cx {P : Program} {w : World} {K : PySem.W.Frag} {mg : Str → Option Value} {base : Heap} {N : List Str} {qual : Str} {scope : Scope} {f : Addr} {cd : Value} {A : Around} {outer : List Env} {s : Shared} {H : Hp} {E : XK} :
    Leaves (cxOf (CXE P w) P w K mg base N qual scope f cd A outer s H E) E := ⟨rfl, rfl, rfl, fun _ _ _ _ _ _ _ _ I t q => leave_any (X := cxOf (CXE P w) P w K mg base N qual scope f cd A outer s H E) rfl rfl rfl I t q⟩
structure ToldC (X : Cx) (E : XK) : Prop where
  on : ∀ pins σ H s e s', Inv X pins σ H s → CXE X.prog X.w X.stack H s E e s' → X.xe e s'
section
variable {X : Cx} {k : Nat} {f C : Addr} {fd : FuncData} {ps : List Str} {sp : Sp} {x m : Str} {p pos apos : Pos} {e o : Expr} {es : List Expr} {ta : TE} {t : TA} {E : XK}
theorem run_fnC {pins : List (Addr × Obj)} {σ : St} {H : Hp} {s : Shared} {Q : VK} {us : List Value} {vs : List V} (T : ToldC X E) (F : FnOk X.prog X.w X.K X.mg X.base (CXE X.prog X.w) k f fd ps sp) (hr : Room k X.A) (hb : Binds X.K fd ps [])
    (I : Inv X pins σ H s) (r : Vals vs us) (h : sp vs H Q E) : wpAny (model X.prog X.w) X.A (call (.ref f) us) (EP X pins σ Q) X.xe s := by
  have hl : (us ++ ([] : List Value)).length = ps.length := by rw [List.append_nil, ← r.length]; exact F.len _ _ _ _ h
  have bd := hb s us I.kIn hl
  rw [List.append_nil] at bd
  refine wpAny_call (codeAny_mono (F.run X.A X.stack s H ⟨us, []⟩ us vs Q E hr I.env0 bd r h) fun r s' hq => ?_)
  match r, hq with
  | .error e, hq => exact T.on _ _ _ _ _ _ I hq
  | .ok (.ret u), hq => exact I.after hq
  | .ok .next, hq => exact False.elim hq
  | .ok .brk, hq => exact False.elim hq
  | .ok .cont, hq => exact False.elim hq
theorem pe_defC {st : Stmt} (T : ToldC X E) (D : DefOk X.K X.mg x st ps f fd) (G : FnOk X.prog X.w X.K X.mg X.base (CXE X.prog X.w) k f fd ps sp) (hr : Room k X.A)
    (hg : Gl X x) (hdb : (x == ("__debug__" : Str)) = false) (hn : (e :: es).all notStar = true) (ha : PA X (e :: es) t) :
    PE X (.Call (.Name x p) (e :: es) [] pos) (tCallX (fun _ => True) sp E t) := by
  have hs : notStar e = true ∧ es.all notStar = true := by rw [List.all_cons, Bool.and_eq_true] at hn; exact hn
  intro pins s σ H Q I h
  refine wpAny_Call_Name_kw (ld_glob I hg D.m ?_ hdb)
  refine PySem.W.callWith_K (h₀ := X.base) I.ok.mod.kin D.F.kp (thn (ha pos pins s σ H _ I h) fun us s1 ⟨vs, H1, I1, r, _, q⟩ => ⟨I1.kIn, ?_⟩) (star_cons hs.1) (back_none hs.2)
  exact run_fnC T G hr D.b I1 r q
end
noncomputable def compCxE (X : Cx) (scope : Scope) (N' : List Str) (cl : List (Str × Addr)) (s2 : Shared) (H2 : Hp) (C : Addr) (fp : List Addr) (xe : Value → Shared → Prop) : Cx := { compCx X scope N' cl s2 H2 C fp with xe := xe }
section
variable {X : Cx} {pins : List (Addr × Obj)} {σ : St} {H : Hp} {s : Shared} {W : Value → Shared → Prop}
theorem Inv.toXe (I : Inv X pins σ H s) : Inv { X with xe := W } pins σ H s :=
  have ok := I.ok
  ⟨⟨ok.mod, ok.kind, ok.glob, ok.blt, ok.above, ok.inj, ok.has, ok.cab, ok.hd, ok.frames, ok.stk, ok.exf, ok.bs, ok.bsz, ok.noex, ok.exfs, ok.funs, ok.frf⟩, I.os, I.bare, I.base, I.loc, I.cell, I.free, I.freeC, I.pin, I.hok, I.len⟩
theorem Inv.offXe (I : Inv { X with xe := W } pins σ H s) : Inv X pins σ H s :=
  have ok := I.ok
  ⟨⟨ok.mod, ok.kind, ok.glob, ok.blt, ok.above, ok.inj, ok.has, ok.cab, ok.hd, ok.frames, ok.stk, ok.exf, ok.bs, ok.bsz, ok.noex, ok.exfs, ok.funs, ok.frf⟩, I.os, I.bare, I.base, I.loc, I.cell, I.free, I.freeC, I.pin, I.hok, I.len⟩
end
theorem comp_loopX {Ex : Value → Shared → Prop} {prog : Program} {w : World} {A : Around} {R : Result → Shared → Prop} {s : Shared} {elt tg iter : Expr} {ifs : List Expr} {scope : Scope} {pos : Pos} {it acc : Value} {env : Env} (I : Nat → Shared → Prop)
    (turn : ∀ n s, I n s → wpAny (model prog w) A (pyNext it) (fun r s1 => match r with
      | none => R (.ok .next) s1
      | some v => wpAny (model prog w) A (letOwnedTupleGo tg it v) (fun _ s2 => wpAny (model prog w) A (assign tg env v) (fun _ s3 => wpAny (model prog w) A (runIfs ifs env) (fun ok s4 =>
          if ok = true then wpAny (model prog w) A (eval elt env) (fun x s5 => wpAny (model prog w) A (call (.builtin "list.append") [acc, x]) (fun _ s6 => ∃ m, m < n ∧ I m s6) (fun _ _ => False) s5) Ex s4
          else ∃ m, m < n ∧ I m s4) Ex s3) Ex s2) (fun _ _ => False) s1) (fun _ _ => False) s)
    (hEx : ∀ e s', Ex e s' → notedBy (model prog w) A env (fun x s'' => R (.error x) s'') e s') (n : Nat) (h : I n s) : codeAny (model prog w) A (.compLoop (.ListComp elt [⟨tg, iter, ifs, 0⟩] scope pos) 0 it acc env) R s := by
  refine codeAny_loop rfl I (fun n s hI => ?_) n h
  show wpAny _ A ((compTurn (.ListComp elt [⟨tg, iter, ifs, 0⟩] scope pos) 0 it acc env).onRaise (fun x => do noteFrame x env; theTreesLotGoes x)) _ _ s
  refine wpAny_noted ?_
  have no : ∀ (e : Value) (s' : Shared), False → notedBy (model prog w) A env (fun x s'' => R (.error x) s'') e s' := fun _ _ z => z.elim
  rw [compTurn_list]
  refine wpAny_bind (wpAny_standAt (wpAny_bind (wpAny_mono (turn n s hI) (fun r s1 h1 => ?_) no)))
  cases r with
  | none => exact wpAny_pure h1
  | some v =>
    refine wpAny_bind (wpAny_mono h1 (fun _ s2 h2 => wpAny_bind (wpAny_mono h2 (fun _ s3 h3 => wpAny_bind (wpAny_mono h3 (fun ok s4 h4 => ?_) hEx)) hEx)) no)
    cases ok with
    | false => exact wpAny_pure ⟨rfl, h4⟩
    | true => exact wpAny_bind (wpAny_bind (wpAny_mono h4 (fun x s5 h5 => wpAny_bind (wpAny_mono h5 (fun _ s6 h6 => wpAny_pure (wpAny_pure ⟨rfl, h6⟩)) no)) hEx))
noncomputable def xeOf (X' : Cx) (EX : XK) : Value → Shared → Prop := fun e s' => ∃ pins σ H s, Inv X' pins σ H s ∧ CXE X'.prog X'.w X'.stack H s EX e s'
theorem told_comp {X : Cx} {scope : Scope} {N' : List Str} {cl : List (Str × Addr)} {s2 : Shared} {H2 : Hp} {C : Addr} {fp : List Addr} {EX : XK} : ToldC (compCxE X scope N' cl s2 H2 C fp (xeOf (compCx X scope N' cl s2 H2 C fp) EX)) EX :=
  ⟨fun pins σ H s e s' I h => ⟨pins, σ, H, s, Inv.offXe I, h⟩⟩
section
variable {X : Cx} {pins : List (Addr × Obj)} {σ : St} {H2 : Hp} {s2 : Shared} {scope : Scope} {own rest : List Str} {cl : List (Str × Addr)} {fp : List Addr} {E : Value → Shared → Prop}
theorem comp_runX {EX : XK} {elt tg iter : Expr} {ifs : List Expr} {pos : Pos} {J : It} {it : Addr} {tn : Nat → Heap → Prop} {g : TG} {tt : TT} {te : TE} {fin : List V → Hp → Prop} {RR : Value → Addr → Result → Shared → Prop} {D : Nat} (hD : s2.heap.objs.size = D) (hcalm : X.calm = true)
    (I : Inv X pins σ H2 s2) (S : CompSc scope X.env.scope X.N rest) (hc1 : ∀ n c, cl.lookup n = some c → X.env.cells.lookup n = some c) (hc2 : ∀ n, (n, NameKind.free) ∈ scope.names → ∃ c, cl.lookup n = some c)
    (T : Turn X.prog X.w X.K tg J fp it tn) (st : tn 0 s2.heap) (hf : ∀ b ∈ fp, FpOk X pins H2 b)
    (hg : PG (compCxE X scope (own ++ rest) cl s2 H2 (D + 1 : Nat) fp (xeOf (compCx X scope (own ++ rest) cl s2 H2 (D + 1 : Nat) fp) EX)) tg g) (ht : PTs (compCxE X scope (own ++ rest) cl s2 H2 (D + 1 : Nat) fp (xeOf (compCx X scope (own ++ rest) cl s2 H2 (D + 1 : Nat) fp) EX)) ifs tt)
    (he : PE (compCxE X scope (own ++ rest) cl s2 H2 (D + 1 : Nat) fp (xeOf (compCx X scope (own ++ rest) cl s2 H2 (D + 1 : Nat) fp) EX)) elt te)
    (hX : ∀ e s', xeOf (compCx X scope (own ++ rest) cl s2 H2 (D + 1 : Nat) fp) EX e s' → notedBy (model X.prog X.w) X.A (compEnvC scope cl (D + 1) X.env) (fun x s'' => RR (.ref D) (D + 1 : Nat) (.error x) s'') e s')
    (hw : CompW J g tt te fin (List.replicate own.length none ++ σ) H2)
    (hR : ∀ (s' : Shared) (H' : Hp) (ys : List V), Inv X pins σ (upd H' D (.lst ys)) s' → (∃ m, s'.heap.Ns (D + 1 : Nat) m) → H' D = none → H' (D + 1 : Nat) = none → fin ys H' → RR (.ref D) (D + 1 : Nat) (.ok .next) s') :
    wpAny (model X.prog X.w) X.A (newList []) (fun acc s3 => wpAny (model X.prog X.w) X.A (newFunctionEnv scope X.env.globals cl [] X.env.qual none .none (some X.env)) (fun cenv s4 =>
      codeAny (model X.prog X.w) X.A (.compStart (.ListComp elt [⟨tg, iter, ifs, 0⟩] scope pos) 0 (.ref it) acc { cenv with scope := relabel scope X.env }) (RR acc cenv.locals) s4) E s3) E s2 := by
  refine wpAny_newObj_type (wpAny_newFunctionEnv S.cell (by intro y hy; simp at hy) (fun h1 hns hsb => ?_) S.kind)
  dsimp only at hns hsb ⊢
  generalize hHp : s2.heap.push { cls := .type "list", dict := none, data := .seq ([] : List Value).toArray } = Hp2 at hns hsb ⊢
  have hC : Hp2.objs.size = s2.heap.objs.size + 1 := by rw [← hHp, Heap.size_push]
  rw [hD] at hC
  rw [hC] at hns hsb ⊢
  rw [hD]
  have nDC : D ≠ D + 1 := Nat.ne_of_lt (Nat.lt_succ_self _)
  have below : ∀ b o, s2.heap.get? b = some o → b < D := fun b o e => by rw [← hD]; exact Heap.lt_size e
  have old : ∀ b o, s2.heap.get? b = some o → h1.get? b = some o := fun b o e => by
    exact hsb.extBut b o (Nat.ne_of_lt (Nat.lt_succ_of_lt (below b o e))) (Heap.get?_push_of_some _ (hHp ▸ Heap.get?_push_of_some _ e))
  have hDo : h1.get? D = some { cls := .type "list", data := .seq ([] : List Value).toArray 0 } :=
    hsb.extBut _ _ nDC (Heap.get?_push_of_some _ (by rw [← hHp, ← hD]; exact Heap.get?_push_size _ rfl))
  have hfo : ∀ b ∈ fp, ∃ o, s2.heap.get? b = some o := fun b hb => let ⟨o, e, _⟩ := T.obj 0 _ st b hb; ⟨o, e⟩
  have st1 : tn 0 h1 := T.keep _ _ _ st fun b hb o e => old b o e
  have J0 : Inv (compCx X scope (own ++ rest) cl s2 H2 (D + 1 : Nat) fp) [] (List.replicate own.length none ++ σ) H2 { s2 with heap := h1, toks := s2.toks } :=
    comp_start I S hc1 hc2 (by omega) hf hfo old hns
  have nfs : D ∉ (compCx X scope (own ++ rest) cl s2 H2 (D + 1 : Nat) fp).fs := fun z => by
    have z' : D ∈ frs X.stack := z
    rcases List.mem_cons.mp (I.stkSub D z') with q | q
    · exact Nat.lt_irrefl D (by have h := I.lt; rw [← q, hD] at h; exact h)
    · exact I.nofs (Nat.le_of_eq hD) q
  have ncl : ∀ x c, (compCx X scope (own ++ rest) cl s2 H2 (D + 1 : Nat) fp).env.cells.lookup x = some c → c ≠ D := fun x c e z => by
    obtain ⟨v, o, q, d⟩ := I.cell x c (hc1 x c e)
    exact Nat.ne_of_lt (below c o q) z
  have loop : ∀ s3 : Shared, s3 = { s2 with heap := h1, toks := s2.toks } →
      codeAny (model X.prog X.w) X.A (.compLoop (.ListComp elt [⟨tg, iter, ifs, 0⟩] scope pos) 0 (.ref it) (.ref D) (compEnvC scope cl (D + 1) X.env)) (RR (.ref D) (D + 1)) s3 := by
    rintro s3 rfl
    obtain ⟨W, ⟨m0, w0⟩, turn⟩ := hw
    refine comp_loopX (Ex := xeOf (compCx X scope (own ++ rest) cl s2 H2 (D + 1 : Nat) fp) EX) (fun m s' => ∃ (i : Nat) (ys : List V) (its : List Value) (n : Nat) (σ' : St) (H' : Hp), Inv (compCx X scope (own ++ rest) cl s2 H2 (D + 1 : Nat) fp) [] σ' H' s' ∧ tn i s'.heap ∧ (∀ b ∈ fp, H' b = none) ∧
      s'.heap.get? D = some { cls := .type "list", data := .seq its.toArray n } ∧ H' D = none ∧ Vals ys its ∧ ys.length ≤ sizeLine ∧ W i m ys σ' H') ?_ hX m0
      ⟨0, [], [], 0, _, H2, J0, st1, fun b hb => (hf b hb).1, hDo, by rw [← hD]; exact I.fresh, .nil, by simp, w0⟩
    rintro m s3 ⟨i, ys, its, n, σ3, H3, J3, st3, fr3, ho3, hn3, r3, z3, w3⟩
    have pin : ∀ {σ' : St} {H' : Hp} {s' : Shared}, Inv (compCx X scope (own ++ rest) cl s2 H2 (D + 1 : Nat) fp) [] σ' H' s' → s'.heap.get? D = some { cls := .type "list", data := .seq its.toArray n } → H' D = none →
        Inv (compCx X scope (own ++ rest) cl s2 H2 (D + 1 : Nat) fp) [(D, { cls := .type "list", data := .seq its.toArray n })] σ' H' s' := fun {σ' H' s'} K1 K2 K3 =>
      K1.pins_of fun p hp => by
        have e : p = (D, { cls := .type "list", data := .seq its.toArray n }) := by simpa using hp
        subst e
        exact ⟨K2, K3, nDC, nfs, fun v z => nomatch z⟩
    have fpk : ∀ {H' : Hp}, (∀ b ∈ fp, H' b = none) → ∀ b ∈ fp, FpOk (compCx X scope (own ++ rest) cl s2 H2 (D + 1 : Nat) fp) [(D, { cls := .type "list", data := .seq its.toArray n })] H' b := fun {H'} fr b hb => by
      obtain ⟨o, e⟩ := hfo b hb
      have lt := below b o e
      refine ⟨fr b hb, Nat.ne_of_lt (Nat.lt_succ_of_lt lt), ?_, .inl hb, fun x c q => (hf b hb).2.2.2.2.1 x c (hc1 x c q), fun p hp => ?_⟩
      · intro z
        have z' : b ∈ frs X.stack := z
        rcases List.mem_cons.mp (I.stkSub b z') with q | q
        · exact (hf b hb).2.1 q
        · exact (hf b hb).2.2.1 q
      · have e : p = (D, { cls := .type "list", data := .seq its.toArray n }) := by
          have hp' : p ∈ [(D, ({ cls := .type "list", data := .seq its.toArray n } : Obj))] := hp
          simpa using hp'
        subst e
        exact Nat.ne_of_gt lt
    have J3p := pin J3 ho3 hn3
    rcases turn i m ys σ3 H3 w3 with ⟨stop, q⟩ | ⟨go, hlt, N, hN, step⟩
    · refine thn (T.done (compCx X scope (own ++ rest) cl s2 H2 (D + 1 : Nat) fp) rfl rfl rfl hcalm i _ s3 σ3 H3 _ J3p (fpk fr3) st3 stop) fun r s4 ⟨hr, J4⟩ => ?_
      subst hr
      have ho4 := J4.pin _ (List.mem_append_right _ List.mem_cons_self)
      refine hR s4 H3 ys (comp_end I J4 hf (by omega) hn3 ho4.1 r3 z3) ?_ hn3 J4.free q
      obtain ⟨mm, hmm, _⟩ := J4.loc
      exact ⟨mm, hmm⟩
    · refine thn (T.item (compCx X scope (own ++ rest) cl s2 H2 (D + 1 : Nat) fp) rfl rfl rfl hcalm i _ s3 σ3 H3 _ J3p (fpk fr3) st3 go) fun r s4 ⟨u, hr, h4⟩ => ?_
      subst hr
      refine thn h4 fun _ s5 ⟨x, H5, J5, r5, y5, st5, fr5⟩ => ?_
      have J5' := J5.pinned (fpk fr5) (T.obj _ _ st5)
      refine thn (hg _ s5 σ3 H5 x u _ (Inv.toXe J5') r5 (step x H5 y5)) fun _ s6 ⟨σ6, H6, J6, q6⟩ => ?_
      refine thn (ht _ s6 σ6 H6 _ J6 q6) fun b s7 ⟨H7, J7, q7⟩ => ?_
      have stay : ∀ {σ' : St} {H' : Hp} {s' : Shared}, Inv (compCx X scope (own ++ rest) cl s2 H2 (D + 1 : Nat) fp) ([(D, { cls := .type "list", data := .seq its.toArray n })] ++ pinsAt fp s5.heap) σ' H' s' →
          Inv (compCx X scope (own ++ rest) cl s2 H2 (D + 1 : Nat) fp) [] σ' H' s' ∧ tn (i + 1) s'.heap ∧ (∀ b ∈ fp, H' b = none) ∧ s'.heap.get? D = some { cls := .type "list", data := .seq its.toArray n } ∧ H' D = none := fun {σ' H' s'} K1 => by
        refine ⟨K1.pins_of fun p hp => absurd hp (by simp), T.keep _ _ _ st5 fun b hb o e => (K1.pin (b, o) (List.mem_append_right _ (List.mem_append_right _ (mem_pinsAt hb e)))).1, fun b hb => ?_, ?_, ?_⟩
        · obtain ⟨o, e, d⟩ := T.obj _ _ st5 b hb
          exact (K1.pin (b, o) (List.mem_append_right _ (List.mem_append_right _ (mem_pinsAt hb e)))).2.1
        · exact (K1.pin (D, _) (List.mem_append_right _ (List.mem_append_left _ List.mem_cons_self))).1
        · exact (K1.pin (D, _) (List.mem_append_right _ (List.mem_append_left _ List.mem_cons_self))).2.1
      cases b with
      | false =>
        rw [if_neg Bool.false_ne_true] at q7 ⊢
        obtain ⟨k1, k2, k3, k4, k5⟩ := stay (Inv.offXe J7)
        obtain ⟨m', hm, w'⟩ := hN _ _ _ q7
        exact ⟨m', hm, i + 1, ys, its, n, σ6, H7, k1, k2, k3, k4, k5, r3, z3, w'⟩
      | true =>
        rw [if_pos rfl] at q7 ⊢
        refine thn (he _ s7 σ6 H7 _ J7 q7) fun xv s8 ⟨y, H8, J8, r8, q8⟩ => ?_
        obtain ⟨k1, k2, k3, k4, k5⟩ := stay (Inv.offXe J8)
        refine call_meets F.slot_list_append ⟨_, k4, rfl⟩ F.entry_list_append (F.args_list_append_2 _ _) (PySem.list_append D its.toArray n xv (by rw [List.size_toArray, ← r3.length]; omega)) ⟨k4, ?_⟩
        obtain ⟨m', hm, w'⟩ := hN _ _ _ q8
        have ho9 := PySem.IsL.update k4 (fun a => a.push xv)
        have ek : ∀ b o, b ≠ D → s8.heap.get? b = some o → (s8.heap.update D (Obj.mapSeq (fun a => a.push xv))).get? b = some o := fun b o hb e => (Heap.get?_update_other s8.heap (Obj.mapSeq _) (Ne.symm hb)).trans e
        refine ⟨m', hm, i + 1, ys ++ [y], its ++ [xv], (if ((its.toArray.push xv).size == its.toArray.size) = true then n else n + 1), σ6, H8, k1.turned (it := D) (t' := s8.toks) ek k5 nDC (.inr (show s2.heap.objs.size ≤ D by omega)) ncl (fun p hp => absurd (show p ∈ ([] : List (Addr × Obj)) from hp) (by simp)), ?_, k3, ?_, k5, r3.append (.cons r8 .nil), ?_, w'⟩
        · refine T.keep _ _ _ k2 fun b hb o e => ek b o ?_ e
          obtain ⟨o', e'⟩ := hfo b hb
          exact Nat.ne_of_lt (below b o' e')
        · have e2 : its.toArray.push xv = (its ++ [xv]).toArray := by simp
          rw [← e2]; exact ho9
        · simp only [List.length_append, List.length_cons, List.length_nil]; omega
  exact codeAny_compStart_list (loop _ rfl) (T.self X.A 0 _ _ _ st1 (loop _ rfl))
end
section
variable {X : Cx} {pins : List (Addr × Obj)} {σ : St} {H2 : Hp} {s2 : Shared} {scope : Scope} {N' : List Str} {cl : List (Str × Addr)} {fp : List Addr} {C : Addr} {EX : XK} {use : Option (Value → Sem Unit)} {QQ : Value → Shared → Prop} {acc : Value}
theorem comp_throw (L : Leaves X EX) (I : Inv X pins σ H2 s2) (hf : ∀ b ∈ fp, FpOk X pins H2 b) (hC : s2.heap.objs.size ≤ C) : ∀ e s', xeOf (compCx X scope N' cl s2 H2 C fp) EX e s' →
    notedBy (model X.prog X.w) X.A (compEnvC scope cl C X.env) (fun x s'' => compPost (model X.prog X.w) X.A X.xe use QQ acc C (.error x) s'') e s' := by
  rintro e s' ⟨pins1, σ1, H1, s1, J1, a, Cv, ed, H', rfl, os, bare, un, hok, t, q⟩
  have J : Inv (compCx X scope N' cl s2 H2 C fp) pins1 σ1 H' s' := J1.call' os un hok bare (fun b z => absurd z (by simp))
  have u : Un (frs X.stack) fp H2 H' s2.heap s'.heap := J.base
  have u1 : Un (frs X.stack) fp H2 H1 s2.heap s1.heap := J1.base
  have hfr : X.A.frames = some (X.env :: X.outer) := L.stk ▸ I.ok.frames
  have hst : X.stack = X.env :: X.outer := L.stk
  have hfun : s'.heap.FunFrames X.base (X.env :: X.outer) := hst ▸ (show s'.heap.FunFrames X.base X.stack from J.stack)
  have sfr : ∀ b ∈ frs (X.env :: X.outer), H' b = none := hst ▸ (show ∀ b ∈ frs X.stack, H' b = none from J.stkFree)
  have low : ∀ b o, s2.heap.get? b = some o → b ≠ C := fun b o z => Nat.ne_of_lt (Nat.lt_of_lt_of_le (Heap.lt_size z) hC)
  have frl : ∀ b ∈ frs X.stack, b ≠ C := fun b hb => by
    obtain ⟨_, o, ho, _⟩ := I.stack.mem hb
    exact low b o ho
  have hG : ∀ b, s'.heap.objs.size ≤ b → s1.heap.get? b = none := fun b hb => by
    cases z : s1.heap.get? b with
    | none => rfl
    | some o =>
      obtain ⟨o', e'⟩ := un.there b o z (by simp)
      exact absurd (Heap.lt_size e') (Nat.not_lt.mpr hb)
  show wpAny _ X.A (noteFrame (.ref a) (compEnvC scope cl C X.env)) _ _ s'
  have en : noteFrame (.ref a) (compEnvC scope cl C X.env) = noteFrame (.ref a) X.env := rfl
  rw [en]
  refine note_wp hfr hfun L.fr (fun b hb => J.hok.fresh hb) hG t fun h1 t1 f1 k1 => ?_
  have c1 : s1.heap.get? C ≠ none := by
    obtain ⟨m, ⟨o, _, _, ho, _⟩, _⟩ := J1.loc
    have ho' : s1.heap.get? C = some o := ho
    rw [ho']; simp
  have fC : H' C = none := J.free
  have old : ∀ b, s1.heap.get? b = none → X.s₀.heap.get? b = none := fun b hb => by
    cases z : X.s₀.heap.get? b with
    | none => rfl
    | some o =>
      obtain ⟨o1, e1⟩ := I.base.there b o z (by rw [L.ex]; simp)
      have nf : b ∉ fp := fun hfb => by
        rcases (hf b hfb).2.2.2.1 with y | y
        · rw [L.ex] at y
          cases y
        · exact absurd (Heap.lt_size z) (Nat.not_lt.mpr y)
      obtain ⟨o2, e2⟩ := u1.there b o1 e1 nf
      rw [hb] at e2
      cases e2
  have fin : ∃ m, ({ s' with heap := h1 } : Shared).heap.Ns C m ∧ ∀ h', Heap.SameBut C h1 h' → ∀ cenv : Env, cenv.locals = C → wpAny (model X.prog X.w) X.A (PySem.passOn "comprehension.variables-let-go" (.ref a) cenv : Sem Value) (fun _ _ => False) X.xe { s' with heap := h' } := by
    obtain ⟨m, ⟨o, es, ep, ho, hr⟩, _⟩ := J.loc
    have ho' : s'.heap.get? C = some o := ho
    refine ⟨m, ⟨o, es, ep, k1.keep C o ho' (fun z => frl C (hst ▸ z) rfl) (.inl c1), hr⟩, fun h3 sb cenv _ => ?_⟩
    have nC : ∀ b, s1.heap.get? b = none → b ≠ C := fun b hb z => by subst z; exact c1 hb
    have st3 : ∀ b, b ≠ C → h3.get? b = h1.get? b := fun b hb => sb.2 b hb
    obtain ⟨hn, hHe, oe, vs, he, hc, hdi, hd, hsz, ht⟩ := t1
    rcases ht with ⟨_, z⟩ | ⟨T, oT, ts, hv, hT, hTe, hHT, gT, hdT, h3'⟩
    · exact absurd z (by simp [rawInt])
    have he3 : h3.get? a = some oe := (st3 a (nC a hn)).trans he
    have t3 : Trc H' h3 s1.heap a Cv ed (rawInt X.env.locals) := ⟨hn, hHe, oe, vs, he3, hc, hdi, hd, hsz, .inr ⟨T, oT, ts, hv, hT, hTe, hHT, (st3 T (nC T hT)).trans gT, hdT, h3'⟩⟩
    unfold PySem.passOn
    refine wpAny_bind (wpAny_field (s := { s' with heap := h3 }) he3 hd hv ?_)
    rw [if_neg (show ¬ ((Value.ref T == Value.none) = true) from by simp)]
    refine wpAny_bind (flight_any (s := { s' with heap := h3 }) (base := X.base) (outer := []) trivial t3 fun h4 fl' t4 _ k4 _ => wpAny_throw ?_)
    have hok4 : HOk X.prog X.w H' h4 := k4.hok (fun _ z => absurd z (by simp)) (fun b ob eb => ((k1.hok sfr (show HOk X.prog X.w H' s'.heap from J.hok)) b ob eb).stay (fun c v hb qq => by
      have hne : H' c ≠ none := by
        rcases hb with rfl | hb
        · rw [eb]; simp
        · rw [hb]; simp
      exact (st3 c fun z => hne (by rw [z]; exact fC)).trans qq) (fun _ qq => qq) fun _ _ qq => qq)
    have in1 : ∀ b o, s2.heap.get? b = some o → b ∉ fp → s1.heap.get? b ≠ none := fun b o z hx => by
      obtain ⟨o', e'⟩ := u1.there b o z hx
      rw [e']; simp
    have I4 : Inv X pins σ H' { s' with heap := h4 } := by
      refine I.call' (s' := { s' with heap := h4 }) (ch := fp) J.os ⟨fun b o z n hb hx => ?_, fun b o z n hb hx => ?_, u.free, fun b o z hx => ?_, u.tups, u.frzs, u.tbls⟩ hok4 bare fun b hb => ?_
      · have e1 := u.keep b o z n hb hx
        have e2 := k1.keep b o e1 (by rw [← hst]; exact hb) (.inl (in1 b o z hx))
        exact k4.keep b o ((st3 b (low b o z)).trans e2) (by simp) (.inl (in1 b o z hx))
      · obtain ⟨sl, e1⟩ := u.slot b o z n hb hx
        obtain ⟨sl', e2⟩ := k1.slot b _ e1 (by rw [← hst]; exact hb)
        exact ⟨sl', k4.keep b _ ((st3 b (low b o z)).trans e2) (by simp) (.inl (in1 b o z hx))⟩
      · obtain ⟨o1, e1⟩ := u.there b o z hx
        obtain ⟨o2, e2⟩ := k1.there b o1 e1
        exact k4.there b o2 ((st3 b (low b o z)).trans e2)
      · obtain ⟨_, f1, _, f3, f4, f5⟩ := hf b hb
        exact ⟨f3, f1, f4, f5⟩
    exact L.on pins σ H' _ a Cv ed fl' I4 (t4.older old) q
  cases use <;> exact fin
end
section
variable {X : Cx} {elt tg iter : Expr} {ifs : List Expr} {scope : Scope} {pos : Pos} {wi : TI} {g : TG} {tt : TT} {te : TE} {EX : XK}
theorem pe_compX (L : Leaves X EX) (own rest : List Str) (hcalm : X.calm = true) (S : CompSc scope X.env.scope X.N rest) (hi : PI X tg iter wi)
    (hg : ∀ cl s2 H2 C fp xe, PG (compCxE X scope (own ++ rest) cl s2 H2 C fp xe) tg g) (ht : ∀ cl s2 H2 C fp xe, PTs (compCxE X scope (own ++ rest) cl s2 H2 C fp xe) ifs tt) (he : ∀ cl s2 H2 C fp xe, ToldC (compCxE X scope (own ++ rest) cl s2 H2 C fp xe) EX → PE (compCxE X scope (own ++ rest) cl s2 H2 C fp xe) elt te)
    (hs : ∀ x, foldedSetIterable iter X.env x = pure x := by intro _; rfl) : PE X (.ListComp elt [⟨tg, iter, ifs, 0⟩] scope pos) (tComp own.length wi g tt te) := by
  intro pins s σ H Q I h
  obtain ⟨cl, hcl, hc1, hc2⟩ := I.closed S
  rw [eval_ListComp]
  refine wpAny_comprehension_free (use := none) rfl hs hcl S.kind S.loc (thn (hi pins s σ H _ I h) fun v s1 h1 => thn h1 fun itv s2 h2 => ?_)
  obtain ⟨it, fp, tn, J, H2, e, I2, T, st, hf, hw⟩ := h2
  subst e
  refine comp_runX (EX := EX) (RR := fun acc C => compPost (model X.prog X.w) X.A X.xe none (EP X pins σ Q) acc C) (D := s2.heap.objs.size) rfl hcalm I2 S hc1 hc2 T st hf (hg _ _ _ _ _ _) (ht _ _ _ _ _ _) (he _ _ _ _ _ _ told_comp) (comp_throw L I2 hf (Nat.le_succ _)) hw ?_
  intro s' H' ys J' ⟨m, hm⟩ hD hC q
  refine ⟨m, hm, fun h' sb => ⟨.ref s2.heap.objs.size, _, I2.letgo (pins' := pins) (b := (s2.heap.objs.size + 1 : Nat)) J' (Nat.le_succ _) ?_ sb, rfl, q _ hD⟩⟩
  rw [upd_ne (Nat.ne_of_gt (Nat.lt_succ_self _))]; exact hC
end
end L2
set_option maxHeartbeats 4000000
namespace L2
open PySem PySem.Spec PyProof.Rows
noncomputable def unl {α : Type} [BEq α] (val : Nat → α) : Nat → Nat
  | 0 => 0
  | i + 1 => if ((List.range i).map val).any (· == val i) then unl val i else unl val i + 1
theorem unl_le {α : Type} [BEq α] (val : Nat → α) : ∀ i, unl val i ≤ i
  | 0 => Nat.le_refl _
  | i + 1 => by
    have := unl_le val i
    unfold unl
    split <;> omega
theorem met_succ {α : Type} [DecidableEq α] [BEq α] [LawfulBEq α] (val : Nat → α) (i : Nat) (k : α) : ((List.range (i + 1)).map val).any (· == k) = (((List.range i).map val).any (· == k) || decide (k = val i)) := by
  rw [List.range_succ, List.map_append, List.any_append]
  congr 1
  simp only [List.map_cons, List.map_nil, List.any_cons, List.any_nil, Bool.or_false]
  by_cases e : k = val i
  · rw [e]; simp
  · rw [decide_eq_false e, beq_eq_false_iff_ne]
    exact fun z => e z.symm
section
variable {prog : Program} {w : World} {A : Around} {R : Result → Shared → Prop} {I : Addr} {fp wr : List Addr} {G : Array GenState → Array GenState → Prop} {n : Nat} {P : Nat → Value → Prop} {St : Nat → Shared → Prop}
variable {α : Type} [DecidableEq α] [BEq α] [LawfulBEq α] {knd : PySem.KeyKind prog w α}
theorem set_fill (W : WalksS prog w A.in1 I fp wr G n P St) {b : Addr} (nb : b ∉ fp) {val : Nat → α} (hv : ∀ i v, P i v → knd.is (val i) v = true ∧ v.scannable = true) (room : n + 1 < scanBound) :
    ∀ (m i : Nat) (s : Shared), n - i = m → i ≤ n → St i s → s.heap.SetOf knd b (fun k => ((List.range i).map val).any (· == k)) (unl val i) →
      (∀ s', Moved (b :: wr) G s s' → s'.heap.SetOf knd b (fun k => ((List.range n).map val).any (· == k)) (unl val n) → R (.ok (.ret .none)) s') →
      codeAny (model prog w) A (.builtin "set.update.loop" ⟨[.ref b, .ref I], []⟩) R s := by
  have nw : b ∉ wr := fun z => nb (W.sub _ z)
  have more : ∀ c ∈ wr, c ∈ b :: wr := fun c hc => List.mem_cons_of_mem _ hc
  have same : ∀ {s s' : Shared} {S : α → Bool} {k : Nat}, s.heap.SetOf knd b S k → Moved wr G s s' → s'.heap.SetOf knd b S k := fun {s s' S k} h hm => by
    obtain ⟨o, es, ep, t, ho, r⟩ := h
    exact ⟨o, es, ep, t, hm.heap b _ nw ho, r⟩
  intro m
  induction m with
  | zero =>
    intro i s hm hi hst hS hR
    obtain rfl : i = n := by omega
    refine codeAny_builtin PyProof.Rows.F.entry_set_update_loop ?_
    rw [Around.under_plainId PyProof.Rows.F.plain_set_update_loop _]
    show wpAny _ A.in1 (pyNext (.ref I) >>= _) _ _ s
    exact wpAny_bind (W.done s _ _ hst fun s' mv => wpAny_pure (hR s' (mv.mono more) (same hS mv)))
  | succ m ih =>
    intro i s hm hi hst hS hR
    have lt : i < n := by omega
    refine codeAny_builtin PyProof.Rows.F.entry_set_update_loop ?_
    rw [Around.under_plainId PyProof.Rows.F.plain_set_update_loop _]
    show wpAny _ A.in1 (pyNext (.ref I) >>= _) _ _ s
    refine wpAny_bind (W.item i s _ _ lt hst fun v s' hP hst' mv => ?_)
    obtain ⟨hk, hsc⟩ := hv i v hP
    show wpAny _ A.in1 (holding [v] (setAdd b v) >>= _) _ _ s'
    refine wpAny_bind (wpAny_holding ?_)
    unfold setAdd
    refine wpAny_holding (wpAny_bind (knd.pyHash (k := val i) hk ?_))
    have := unl_le val i
    have hS' := same hS mv
    refine wpAny_setAddHashed_of (knd := knd) (s := { s' with toks := s'.toks + 1 }) hk hsc hS' (by omega) fun h' sb hS2 => ?_
    have hS3 : h'.SetOf knd b (fun k => ((List.range (i + 1)).map val).any (· == k)) (unl val (i + 1)) := SetOf_congr hS2 (fun k => (met_succ val i k).symm) rfl
    refine wpAny_pure ⟨plainId_quiet PyProof.Rows.F.plain_set_update_loop _, ih (i + 1) _ (by omega) lt (W.frame _ s' _ _ hst' (Nat.le_succ _) fun c hc o e => ?_) hS3 fun s'' mv' hS4 => ?_⟩
    · rw [sb.2 c (fun z : c = b => nb (by rw [← z]; exact hc))]; exact e
    · refine hR s'' (Moved.trans W.gtrans ((mv.mono more).then_heap (Nat.le_succ _) fun c o hc e => ?_) mv') hS4
      rw [sb.2 c (fun z : c = b => hc (by rw [z]; exact List.mem_cons_self))]; exact e
end
section
variable {prog : Program} {w : World} {A : Around} {E : Value → Shared → Prop} {s : Shared}
noncomputable abbrev bareSet (led : Bool) : Obj := { cls := .type "set", dict := none, data := .set #[] 0 (.fresh 0 0 led) }
set_option maxHeartbeats 3200000 in
theorem set_call {x : Value} {Q : Value → Shared → Prop} {Z : Heap → Prop}
    (fill : ∀ (led : Bool) (E' : Value → Shared → Prop) (Q' : Unit → Shared → Prop), (∀ h' tk, Z h' → Q' () { s with heap := h', toks := tk }) → wpAny (model prog w) A.in1.in1 (Builtin.Frozenset.updateFrom "set.__init__" s.heap.objs.size x) Q' E' { s with heap := s.heap.push (bareSet led) })
    (h : ∀ (h' : Heap) (tk : Nat), Z h' → Q (.ref s.heap.objs.size) { s with heap := h', toks := tk }) : wpAny (model prog w) A (call (.type "set") [x]) Q E s := by
  obtain ⟨c, tl, hmro⟩ := PySem.F.called_set.mro
  have g1 := PySem.F.called_set.made
  have g2 := PySem.F.called_set.sub
  have g3 := PySem.F.called_set.notType
  have g4 := PySem.F.called_set.canCreate
  have g5 := PySem.F.typeCall_set_1 x
  refine wpAny_call (codeAny_of_tree ?_)
  show wpAny _ _ (callAny (.type "set") _) _ _ _
  refine wpAny_pure ⟨Code.quiet_builtin _ (by decide +kernel), codeAny_builtin PySem.F.entry_type_call ?_⟩
  rw [Around.under_plain (weight_type_call_type "set" [x] []) rfl]
  repeat (any_goals (first | assumption | wp_step))
  refine codeAny_mono (code_set_new_1 x (E := E) (Q₁ := fun v s1 => ∃ led : Bool, v = .ref s.heap.objs.size ∧ s1 = { s with heap := s.heap.push (bareSet led) }) fun led => ⟨led, rfl, rfl⟩) fun r s1 hr => ?_
  match r, hr with
  | .error e, hr => exact hr
  | .ok .next, hr => exact hr.elim
  | .ok .brk, hr => exact hr.elim
  | .ok .cont, hr => exact hr.elim
  | .ok (.ret v), hr =>
    obtain ⟨led, rfl, rfl⟩ := hr
    have at0 : (s.heap.push (bareSet led)).get? s.heap.objs.size = some (bareSet led) := Heap.get?_push_size _ rfl
    have hT : Shared.TypeIs { s with heap := s.heap.push (bareSet led) } (.ref s.heap.objs.size) "set" := ⟨_, at0, rfl⟩
    have i1 := PySem.F.called_set.init.lookup
    have i2 := PySem.F.called_set.init.bind (.ref s.heap.objs.size)
    repeat (any_goals (first | assumption | wp_step))
    refine codeAny_mono (codeAny_call_builtin (R := wants (fun r s2 => r = .none ∧ ∃ h' tk, s2 = { s with heap := h', toks := tk } ∧ Z h') E) PySem.F.called_set.init.plain PySem.F.entry_set_init (check_set_init_1 hT ?_)) fun r2 s2 hr2 => ?_
    · have at1 : ({ s with heap := s.heap.push (bareSet led) } : Shared).heap.get? s.heap.objs.size = some (bareSet led) := at0
      unfold Builtin.«set.__init__» noKeywords
      generalize hU : Builtin.Frozenset.updateFrom = U
      wp_walk
      subst hU
      exact fill led _ _ fun h' tk z => wpAny_pure ⟨rfl, h', tk, rfl, z⟩
    · match r2, hr2 with
      | .error e, hr2 => exact hr2
      | .ok .next, hr2 => exact hr2.elim
      | .ok .brk, hr2 => exact hr2.elim
      | .ok .cont, hr2 => exact hr2.elim
      | .ok (.ret v), hr2 =>
        obtain ⟨rfl, h', tk, rfl, z⟩ := hr2
        repeat (any_goals (first | assumption | wp_step))
        exact h _ _ z
variable {α : Type} [DecidableEq α] [BEq α] [LawfulBEq α] {knd : PySem.KeyKind prog w α}
noncomputable def SetAt (knd : PySem.KeyKind prog w α) (b : Addr) (val : Nat → α) (n : Nat) (h h' : Heap) : Prop :=
  h'.SetOf knd b (fun k => ((List.range n).map val).any (· == k)) (unl val n) ∧ ∀ c o, c < b → h.get? c = some o → h'.get? c = some o
theorem set_ofL {l : Addr} {items : Array Value} {val : Nat → α} {Q : Value → Shared → Prop} (hh : A.handled = none) (hl : s.heap.IsList l items) (hv : ∀ (i : Nat) v, items[i]? = some v → knd.is (val i) v = true ∧ v.scannable = true) (room : items.size + 1 < scanBound)
    (h : ∀ (h' : Heap) (tk : Nat), SetAt knd s.heap.objs.size val items.size s.heap h' → Q (.ref s.heap.objs.size) { s with heap := h', toks := tk }) : wpAny (model prog w) A (call (.type "set") [.ref l]) Q E s := by
  refine set_call (Z := SetAt knd s.heap.objs.size val items.size s.heap) (fun led E' Q' q => ?_) h
  obtain ⟨ol, hol, hcl, nl, hdl⟩ := id hl
  obtain ⟨ocls, odict, odata, oslots⟩ := ol
  simp only at hcl hdl
  subst hcl; subst hdl
  have at1 : (s.heap.push (bareSet led)).get? l = some { cls := .type "list", dict := odict, data := .seq items nl, slots := oslots } := Heap.get?_push_of_some _ hol
  have k1 := PySem.F.sub_list_set
  have k2 := PySem.F.sub_list_frozenset
  have k3 : (Value.type "list" == Value.type "dict") = false := by decide
  have hl1 : (s.heap.push (bareSet led)).IsList l items := ⟨_, at1, rfl, nl, rfl⟩
  unfold Builtin.Frozenset.updateFrom
  generalize hP : pyIter = PI
  wp_walk
  subst hP
  refine wpAny_pyIter_list hl1 ?_
  refine wpAny_bind (wpAny_runValue ?_)
  have ll : l < s.heap.objs.size := Heap.lt_size hol
  have sz : (s.heap.push (bareSet led)).objs.size = s.heap.objs.size + 1 := Heap.size_push ..
  refine set_fill (val := val) ((Walks.list (by simp [hh]) _ l (by rw [sz]; exact Nat.ne_of_lt (Nat.lt_succ_of_lt ll)) items).toS) (b := s.heap.objs.size) (by rw [sz]; simp; exact Nat.ne_of_gt ll) hv room (items.size - 0) 0 _ (by omega) (Nat.zero_le _) ⟨⟨_, Heap.get?_push_size _ rfl, rfl, rfl⟩, hl1.push _⟩ ?_ ?_
  · have g := Heap.get?_push_of_some (h := s.heap.push (bareSet led)) { cls := .type "list_iterator", data := .fields #[.ref l, .int 0 0] } (Heap.get?_push_size (o := bareSet led) s.heap rfl)
    exact SetOf_congr ((setObjOf_fresh (knd := knd) led).setOf g (by unfold scanBound; omega)) (fun _ => rfl) rfl
  · intro s' mv hS
    obtain ⟨h', g', d', tk', os'⟩ := s'
    obtain rfl : g' = s.gens := mv.gens
    obtain rfl : d' = s.drawn := mv.drawn
    obtain rfl : os' = s.os := mv.os
    show wpAny _ _ _ _ _ _
    refine wpAny_pure ?_
    refine q h' tk' ⟨hS, fun c o hc e => ?_⟩
    refine mv.heap c o ?_ (Heap.get?_push_of_some _ (Heap.get?_push_of_some _ e))
    rw [sz]
    simp only [List.mem_cons, List.not_mem_nil, or_false, not_or]
    exact ⟨Nat.ne_of_lt hc, Nat.ne_of_lt (Nat.lt_succ_of_lt hc)⟩
theorem sub_tuple_set : isSubtype (.type "tuple") (.type "set") = pure false := by rw [isSubtype_type]; kernel_rfl
theorem sub_tuple_frozenset : isSubtype (.type "tuple") (.type "frozenset") = pure false := by rw [isSubtype_type]; kernel_rfl
theorem set_ofT {l : Addr} {items : Array Value} {val : Nat → α} {Q : Value → Shared → Prop} (hh : A.handled = none) (hl : s.heap.IsTuple l items) (hv : ∀ (i : Nat) v, items[i]? = some v → knd.is (val i) v = true ∧ v.scannable = true) (room : items.size + 1 < scanBound)
    (h : ∀ (h' : Heap) (tk : Nat), SetAt knd s.heap.objs.size val items.size s.heap h' → Q (.ref s.heap.objs.size) { s with heap := h', toks := tk }) : wpAny (model prog w) A (call (.type "set") [.ref l]) Q E s := by
  refine set_call (Z := SetAt knd s.heap.objs.size val items.size s.heap) (fun led E' Q' q => ?_) h
  obtain ⟨ol, hol, hcl, nl, hdl⟩ := id hl
  obtain ⟨ocls, odict, odata, oslots⟩ := ol
  simp only at hcl hdl
  subst hcl; subst hdl
  have at1 : (s.heap.push (bareSet led)).get? l = some { cls := .type "tuple", dict := odict, data := .seq items nl, slots := oslots } := Heap.get?_push_of_some _ hol
  have k1 := sub_tuple_set
  have k2 := sub_tuple_frozenset
  have k3 : (Value.type "tuple" == Value.type "dict") = false := by decide
  have hl1 : (s.heap.push (bareSet led)).IsTuple l items := ⟨_, at1, rfl, nl, rfl⟩
  unfold Builtin.Frozenset.updateFrom
  generalize hP : pyIter = PI
  wp_walk
  subst hP
  refine wpAny_pyIter_tuple hl1 ?_
  refine wpAny_bind (wpAny_runValue ?_)
  have ll : l < s.heap.objs.size := Heap.lt_size hol
  have sz : (s.heap.push (bareSet led)).objs.size = s.heap.objs.size + 1 := Heap.size_push ..
  refine set_fill (val := val) ((Walks.tuple (by simp [hh]) _ l (by rw [sz]; exact Nat.ne_of_lt (Nat.lt_succ_of_lt ll)) items).toS) (b := s.heap.objs.size) (by rw [sz]; simp; exact Nat.ne_of_gt ll) hv room (items.size - 0) 0 _ (by omega) (Nat.zero_le _) ⟨⟨_, Heap.get?_push_size _ rfl, rfl, rfl⟩, hl1.at fun o e => Heap.get?_push_of_some _ e⟩ ?_ ?_
  · have g := Heap.get?_push_of_some (h := s.heap.push (bareSet led)) { cls := .type "tuple_iterator", data := .fields #[.ref l, .int 0 0] } (Heap.get?_push_size (o := bareSet led) s.heap rfl)
    exact SetOf_congr ((setObjOf_fresh (knd := knd) led).setOf g (by unfold scanBound; omega)) (fun _ => rfl) rfl
  · intro s' mv hS
    obtain ⟨h', g', d', tk', os'⟩ := s'
    obtain rfl : g' = s.gens := mv.gens
    obtain rfl : d' = s.drawn := mv.drawn
    obtain rfl : os' = s.os := mv.os
    show wpAny _ _ _ _ _ _
    refine wpAny_pure ?_
    refine q h' tk' ⟨hS, fun c o hc e => ?_⟩
    refine mv.heap c o ?_ (Heap.get?_push_of_some _ (Heap.get?_push_of_some _ e))
    rw [sz]
    simp only [List.mem_cons, List.not_mem_nil, or_false, not_or]
    exact ⟨Nat.ne_of_lt hc, Nat.ne_of_lt (Nat.lt_succ_of_lt hc)⟩
end
end L2
set_option maxHeartbeats 4000000
namespace L2
open PySem PySem.Spec PyProof.Rows
noncomputable def SzO (b : Addr) (n : Nat) : HO := .ext fun h => ∃ o es ep t, h.get? b = some o ∧ o.ExactSet ∧ o.data = .set es ep t ∧ t.fits es.size = true ∧ es.size = n
theorem szo_ok {P : Program} {w : World} {H : Hp} {h : Heap} {a : Addr} {n : Nat} (x : ∃ o es ep t, h.get? a = some o ∧ o.ExactSet ∧ o.data = .set es ep t ∧ t.fits es.size = true ∧ es.size = n) : ObjOk P w H h a (SzO a n) :=
  ⟨x, (let ⟨o, _, _, _, e, _⟩ := x; ⟨o, e⟩), fun _ _ ⟨o, es, ep, t, e, r⟩ k => ⟨o, es, ep, t, k o e, r⟩⟩
theorem bt_set : bootBuiltins "set" = some (.type "set") := by decide +kernel
section
variable {X : Cx}
noncomputable def rSetS (K : PySem.W.Frag) : List V → Hp → VK → Prop := fun xs H Q => ∃ a, ∃ zs : List Str, xs = [.ref a] ∧ (SqL K H a (zs.map V.str) ∨ SqT K H a (zs.map V.str)) ∧ zs.length ≤ 1000 ∧ ∀ p, H p = none → Q (.ref p) (upd H p (SzO p (unl (fun i => zs.getD i Str.empty) zs.length)))
theorem str_at {zs : List Str} {its : List Value} (r : Vals (zs.map V.str) its) (P : Program) (w : World) : ∀ (i : Nat) v, its.toArray[i]? = some v → (strKind P w).is (zs.getD i Str.empty) v = true ∧ v.scannable = true := fun i v hv => by
  have hv' : its[i]? = some v := by simpa using hv
  have hm : i < zs.length := by
    have := r.length
    rw [List.length_map] at this
    rw [this]
    exact (List.getElem?_eq_some_iff.mp hv').1
  obtain ⟨u, hu, ru⟩ := r.get (i := i) (x := V.str zs[i]) (by rw [List.getElem?_map, List.getElem?_eq_getElem hm]; rfl)
  rw [hv'] at hu
  cases hu
  obtain ⟨t, rfl⟩ := ru
  rw [List.getD_eq_getElem?_getD, List.getElem?_eq_getElem hm]
  exact ⟨strKind_is _ _ _ _, rfl⟩
theorem set_done {α : Type} [DecidableEq α] [BEq α] [LawfulBEq α] {knd : PySem.KeyKind X.prog X.w α} {val : Nat → α} {m : Nat} {pins : List (Addr × Obj)} {s : Shared} {σ : St} {H : Hp} {Q : VK} (I : Inv X pins σ H s) (q : ∀ p, H p = none → Q (.ref p) (upd H p (SzO p (unl val m)))) :
    ∀ (h' : Heap) (tk : Nat), SetAt knd s.heap.objs.size val m s.heap h' → EP X pins σ Q (.ref s.heap.objs.size) { s with heap := h', toks := tk } := fun h' tk ⟨⟨o, es, ep, t, ho, hex, hd, _, _, _, hf, hn⟩, kp⟩ =>
  ⟨.ref s.heap.objs.size, _, I.laid (t' := tk) (fun b u e => kp b u (Heap.lt_size e) e) (Nat.le_refl _) (szo_ok ⟨o, es, ep, t, ho, hex, hd, hf, hn⟩), rfl, q _ (I.hok.fresh (Nat.le_refl _))⟩
theorem call_setS (hc : X.calm = true) : CallR X (.type "set") (rSetS X.K) := by
  intro pins s σ H xs us Q I r h
  obtain ⟨p, zs, rfl, hq, hz, q⟩ := h
  obtain ⟨u, rfl, rx⟩ := vals1 r
  cases rx
  rcases hq with hq | hq
  · obtain ⟨its, r', pl, _⟩ := I.list hq
    have hl := r'.length
    rw [List.length_map] at hl
    have hsz : its.toArray.size = zs.length := by rw [List.size_toArray, ← hl]
    refine set_ofL (knd := strKind X.prog X.w) (I.ok.hd hc) pl.isList (str_at r' _ _) (by rw [hsz]; unfold scanBound; omega) ?_
    rw [hsz]
    exact set_done I q
  · obtain ⟨its, r', pl, _⟩ := I.tuple hq
    have hl := r'.length
    rw [List.length_map] at hl
    have hsz : its.toArray.size = zs.length := by rw [List.size_toArray, ← hl]
    refine set_ofT (knd := strKind X.prog X.w) (I.ok.hd hc) pl (str_at r' _ _) (by rw [hsz]; unfold scanBound; omega) ?_
    rw [hsz]
    exact set_done I q
noncomputable def rLenSet : List V → Hp → VK → Prop := fun xs H Q => ∃ a n, xs = [.ref a] ∧ H a = some (SzO a n) ∧ n ≤ 1000 ∧ Q (.int n) H
theorem call_lenSet : CallR X (.builtin "len") rLenSet := by
  intro pins s σ H xs us Q I r h
  obtain ⟨a, n, rfl, ha, hn, q⟩ := h
  obtain ⟨u, rfl, rx⟩ := vals1 r
  cases rx
  obtain ⟨⟨o, es, ep, t, e, hex, hd, hf, hs⟩, _⟩ := (show ObjOk X.prog X.w H s.heap a (SzO a n) from I.hok a _ ha)
  refine call_len_set e hex hd hf (by rw [hs]; omega) ?_
  rw [hs]
  exact ⟨.int n, H, I.tok _, ⟨_, rfl⟩, q⟩
theorem k_setS {K : PySem.W.Frag} (e : X.K = K) (hc : X.calm = true) : CallR X (.type "set") (rSetS K) := by subst e; exact call_setS hc
end
end L2
set_option maxHeartbeats 4000000
namespace L2
open PySem PySem.Spec PyProof.Rows
section
variable {X : Cx}
noncomputable def rCatA (K : PySem.W.Frag) : R2 := fun x y H Q => ∃ a b xs ys, x = .ref a ∧ y = .ref b ∧ SqT K H a xs ∧ SqT K H b ys ∧ xs.length + ys.length ≤ sizeLine ∧
  (xs = [] → Q (.ref b) H) ∧ (xs ≠ [] → ys = [] → Q (.ref a) H) ∧ (xs ≠ [] → ys ≠ [] → ∀ p, H p = none → Q (.ref p) (upd H p (.tup (xs ++ ys))))
theorem op_catA : OpR X (binaryOp .Add) (rCatA X.K) := by
  intro pins s σ H x y v u Q I rx ry h
  obtain ⟨a, b, xs, ys, rfl, rfl, ha, hb, hz, q0, q1, q2⟩ := h
  by_cases hx : xs = []
  · cases rx
    cases ry
    obtain ⟨its, r1, p1, _⟩ := I.tuple ha
    obtain ⟨its2, r2, p2, _⟩ := I.tuple hb
    have e1 : its = [] := r1.nil_iff.mpr hx
    obtain ⟨⟨cls, dd, data, sl⟩, ho, hc, n, hd⟩ := id p1
    obtain ⟨⟨cls2, dd2, data2, sl2⟩, ho2, hc2, n2, hd2⟩ := id p2
    simp only at hc hd hc2 hd2
    subst hc hd hc2 hd2
    exact concat_meets ⟨_, ho, rfl⟩ ⟨_, ho2, rfl⟩ noFill_tuple_add seq_tuple_add PySem.F.slot_tuple_add PySem.F.entry_tuple_add (PySem.F.args_tuple_add_2 _ _)
      (tuple_addW0 a b its.toArray its2.toArray n n2 dd dd2 sl sl2 (by simp [e1])) ⟨ho, ho2, ⟨.ref b, H, I, rfl, q0 hx⟩⟩
  · exact op_catT pins s σ H _ _ v u Q I rx ry ⟨a, b, xs, ys, rfl, rfl, ha, hb, hx, hz, q1 hx, q2 hx⟩
theorem k_catA {K : PySem.W.Frag} (e : X.K = K) : OpR X (binaryOp .Add) (rCatA K) := by subst e; exact op_catA
end
end L2
set_option maxHeartbeats 4000000
namespace L2
open PySem PySem.Spec PyProof.Rows
section
variable {X : Cx}
noncomputable def tStop : TS := fun _ _ _ => False
end
end L2
set_option maxHeartbeats 4000000
namespace L2
open PySem PySem.Spec PyProof.Rows
noncomputable def Itz (K : PySem.W.Frag) (a b : Addr) : It where
  go := fun i H => ∃ xs ys x y, SqL K H a xs ∧ SqL K H b ys ∧ xs[i]? = some x ∧ ys[i]? = some y
  yld := fun i H v H' => ∃ p x y, H p = none ∧ v = .ref p ∧ (∀ zs, SqL K H a zs → zs[i]? = some x) ∧ (∀ zs, SqL K H b zs → zs[i]? = some y) ∧ H' = upd H p (.tup [x, y])
  stop := fun i H => ∃ xs ys, SqL K H a xs ∧ SqL K H b ys ∧ (xs.length ≤ i ∨ ys.length ≤ i)
theorem boot_zip : bootBuiltins "zip" = some (.type "zip") := by decide +kernel
section
variable {X : Cx}
noncomputable def iZip (K : PySem.W.Frag) (ta : TA) : TI := fun σ H R => ta σ H fun vs H1 => ∃ a b, vs = [.ref a, .ref b] ∧ (∃ xs, SqL K H1 a xs) ∧ (∃ ys, SqL K H1 b ys) ∧ R (Itz K a b) H1
end
section
variable {X : Cx}
end
end L2
set_option maxHeartbeats 4000000
namespace L2
open PySem PySem.Spec PyProof.Rows
section
variable {prog : Program} {w : World} {A : Around} {E : Value → Shared → Prop} {s : Shared}
end
section
variable {prog : Program} {w : World} {A : Around} {R : Result → Shared → Prop} {I : Addr} {fp wr : List Addr} {G : Array GenState → Array GenState → Prop} {n : Nat} {P : Nat → Value → Prop} {St : Nat → Shared → Prop}
variable {α : Type} [DecidableEq α] {knd : PySem.KeyKind prog w α}
end
section
variable {prog : Program} {w : World} {A : Around} {E : Value → Shared → Prop} {s : Shared} {α : Type} [DecidableEq α] {knd : PySem.KeyKind prog w α}
end
section
variable {X : Cx}
end
end L2
set_option maxHeartbeats 4000000
namespace HT
open PySem PySem.Spec PyProof.Rows L2
end HT
namespace L2
open PySem PySem.Spec PyProof.Rows HT
section
variable {prog : Program} {w : World} {A : Around} {E : Value → Shared → Prop} {s : Shared}
end
section
variable {X : Cx}
end
end L2
set_option maxHeartbeats 4000000
namespace L2
open PySem PySem.Spec PyProof.Rows
section
variable {prog : Program} {w : World} {A : Around} {R : Result → Shared → Prop} {I : Addr} {fp wr : List Addr} {n : Nat} {P : Nat → Value → Prop} {St : Nat → Heap → Prop}
end
section
variable {prog : Program} {w : World} {A : Around} {E : Value → Shared → Prop} {s : Shared}
end
section
variable {prog : Program} {w : World} {A : Around} {R : Result → Shared → Prop} {I : Addr} {fp wr : List Addr} {n : Nat} {P : Nat → Value → Prop} {St : Nat → Heap → Prop}
end
section
variable {prog : Program} {w : World} {A : Around} {E : Value → Shared → Prop} {s : Shared}
end
end L2
set_option maxHeartbeats 4000000
namespace L2
open PySem PySem.Spec PyProof.Rows
section
variable {X : Cx}
end
end L2
set_option maxHeartbeats 4000000
namespace L2
open PySem PySem.Spec PyProof.Rows
section
variable {X : Cx}
end
end L2
set_option maxHeartbeats 4000000
namespace L2
open PySem PySem.Spec PyProof.Rows
section
variable {X : Cx}
end
end L2
set_option maxHeartbeats 4000000
namespace L2
open PySem PySem.Spec PyProof.Rows
section
variable {α β : Type} {R S : α → β → Prop} {xs : List α} {ys : List β}
end
end L2
set_option maxHeartbeats 4000000
namespace L2
open PySem PySem.Spec PyProof.Rows
section
variable {X : Cx}
end
structure ExcM (mg : Str → Option Value) (n : Str) (a : Addr) : Prop where
  m : mg n = some (.ref a)
end L2
set_option maxHeartbeats 4000000
namespace L2
open PySem PySem.Spec PyProof.Rows
structure RoomH (k : Nat) (A : Around) : Prop where
  dp : A.depth + 3 * k + 5 < recursionLimit
  un : A.units + 16 * k + 200 < cLine
theorem Room.toH {k : Nat} {A : Around} (r : Room k A) : RoomH k A := ⟨r.dp, r.un⟩
theorem RoomH.deeper {k : Nat} {A : Around} (r : RoomH (k + 1) A) (env : Env) : RoomH k (A.deeper env) :=
  ⟨by have := r.dp; show A.depth + 1 + 3 * k + 5 < _; omega, by have := r.un; show A.units + 3 + 16 * k + 200 < _; omega⟩
theorem RoomH.mark {k : Nat} {A : Around} (r : RoomH k A) (v : Option Value) : RoomH k (A.mark v) := by
  cases v with
  | none => rw [Around.mark_none]; exact r
  | some v => exact ⟨r.dp, r.un⟩
structure FnOkH (P : Program) (w : World) (K : PySem.W.Frag) (mg : Str → Option Value) (base : Heap) (k : Nat) (f : Addr) (fd : FuncData) (ps : List Str) (sp : Sp) : Prop where
  len : ∀ vs H Q E, sp vs H Q E → vs.length = ps.length
  run : ∀ (A : Around) (outer : List Env) (s : Shared) (H : Hp) (us : List Value) (vs : List V) (Q : VK) (E : XK), RoomH k A → Env0 P w K mg base A outer s H → BindsTo s fd ⟨us, []⟩ (ps.zip us) → Vals vs us → sp vs H Q E →
    codeAny (model P w) A (.call (.ref f) ⟨us, []⟩) (CR CX0 outer P w H s Q E) s
noncomputable abbrev Cx.hot (X : Cx) : Cx := { X.nox with calm := false }
section
variable {P : Program} {w : World} {K : PySem.W.Frag} {mg : Str → Option Value} {base : Heap} {x qual : Str} {st : Stmt} {f : Addr} {fd : FuncData} {N ps : List Str} {k : Nat} {sp : Sp}
theorem Fun.okH (F : Fun K x qual st f fd) (S : FnScope N ps (defScope st)) (len : ∀ vs H Q E, sp vs H Q E → vs.length = ps.length)
    (hbody : ∀ (cdv : Value) (A : Around) (outer : List Env) (s : Shared) (H : Hp) (vs : List V) (Q : VK) (E : XK), RoomH k (A.deeper (envOfC qual (defScope st) s.heap.objs.size f cdv)) → sp vs H Q E →
      ∃ t, PSs (cxOf CX0 P w K mg base N qual (defScope st) f cdv A outer s H E).hot (defBody st) t ∧ t { nx := fun _ H' => Q .non H', rt := Q } (start N vs) H) : FnOkH P w K mg base (k + 1) f fd ps sp := by
  obtain ⟨oc, od, kV, doc, pm, an, cdv, ct, osl, rfl, lk, hcd⟩ := F.ex
  refine ⟨len, fun A outer s H us vs Q E hr e0 hb r hsp => ?_⟩
  have hl := len _ _ _ _ hsp
  have KX : K.In s.heap := e0.mod.kin.keeps fun b o e => (e0.bs b o e).1
  have lim : s.heap.NoLimit := e0.mod.nolimit.keeps fun b o e => (e0.bs b o e).1
  have hkind : ∀ y ∈ ps.zip us, (defScope st).names.lookup y.1 = some .local ∨ ((defScope st).names.lookup y.1 = some .cell ∧ ((cellsFrom (s.heap.objs.size + 1) (defScope st).names []).lookup y.1).isSome = true) := fun ⟨n, v⟩ hy => by
    rcases S.par n (List.of_mem_zip hy).1 with q | q
    · exact .inl q
    · exact .inr ⟨q, PySem.W.cellsFrom_some _ _ _ (.inl q)⟩
  refine codeAny_call_function (by have := hr.dp; omega) (KX _ _ lk) rfl S.co S.gen rfl (PySem.W.codeRec_of KX hcd) (hb _ _ _ _ ?_)
  refine wpAny_newFunctionEnv_cells S.kind hkind fun env he s1 x => ?_
  subst he
  refine ⟨lim.keeps x.toInCall.keep, codeAny_func ?_⟩
  obtain ⟨t, ht, hq⟩ := hbody cdv A outer s H vs Q E (hr.deeper _) hsp
  have I0 := inv_start (CX := CX0) (A := { A with handled := none }) (E := E) S rfl ⟨e0.frames, e0.mod, e0.bs, e0.bsz, e0.funs, e0.frf, e0.hok, e0.bare⟩ hl r x
  have I : Inv (cxOf CX0 P w K mg base N qual (defScope st) f cdv A outer s H E).hot [] (start N vs) H s1 :=
    have ok := I0.ok
    ⟨⟨ok.mod, ok.kind, ok.glob, ok.blt, ok.above, ok.inj, ok.has, ok.cab, (fun z => nomatch z), ok.frames, ok.stk, ok.exf, ok.bs, ok.bsz, ok.noex, ok.exfs, ok.funs, ok.frf⟩, I0.os, I0.bare, I0.base, I0.loc, I0.cell, I0.free, I0.freeC, I0.pin, I0.hok, I0.len⟩
  refine wpAny_mono (ht [] s1 (start N vs) H _ I hq) (fun fl s' hs => ?_) fun e s' hs => hs.elim
  cases fl with
  | ret u =>
    obtain ⟨v, σ', H', J, rv, q⟩ := hs
    exact ⟨v, H', J.os, J.bare, J.base, J.hok, rv, q⟩
  | next =>
    obtain ⟨σ', H', J, q⟩ := hs
    exact ⟨V.non, H', J.os, J.bare, J.base, J.hok, rfl, q⟩
  | brk =>
    obtain ⟨_, _, _, q⟩ := hs
    exact False.elim q
  | cont =>
    obtain ⟨_, _, _, q⟩ := hs
    exact False.elim q
end
section
variable {X : Cx} {x : Str} {st : Stmt} {ps : List Str} {f : Addr} {fd : FuncData} {k : Nat} {sp : Sp} {p pos : Pos} {e : Expr} {es : List Expr} {t : TA}
theorem pe_defH (D : DefOk X.K X.mg x st ps f fd) (G : FnOkH X.prog X.w X.K X.mg X.base k f fd ps sp) (hr : RoomH k X.A) (hg : Gl X x) (hdb : (x == ("__debug__" : Str)) = false) (hn : (e :: es).all notStar = true) (ha : PA X (e :: es) t) : PE X (.Call (.Name x p) (e :: es) [] pos) (tCall sp [] E0 t) := by
  have h : notStar e = true ∧ es.all notStar = true := by rw [List.all_cons, Bool.and_eq_true] at hn; exact hn
  intro pins s σ H Q I hq
  refine wpAny_Call_Name_kw (ld_glob I hg D.m ?_ hdb)
  refine PySem.W.callWith_K (h₀ := X.base) I.ok.mod.kin D.F.kp (thn (ha pos pins s σ H _ I hq) fun us s1 ⟨vs, H1, I1, r, q⟩ => ⟨I1.kIn, ?_⟩) (star_cons h.1) (back_none h.2)
  have hl : (us ++ []).length = ps.length := by rw [List.append_nil, ← r.length, ← G.len _ _ _ _ q, List.append_nil]
  have hb := D.b s1 us I1.kIn hl
  rw [List.append_nil] at hb
  replace q : sp vs H1 Q E0 := by have q2 : sp (vs ++ []) H1 Q E0 := q; rwa [List.append_nil] at q2
  refine wpAny_call (codeAny_mono (G.run X.A X.stack s1 H1 us vs Q E0 hr I1.env0 hb r q) fun r s' hq => ?_)
  cases r with
  | error e => exact False.elim hq
  | ok fl =>
    cases fl with
    | ret u => exact I1.after hq
    | next => exact False.elim hq
    | brk => exact False.elim hq
    | cont => exact False.elim hq
end
end L2
set_option maxHeartbeats 4000000
namespace L2
open PySem PySem.Spec PyProof.Rows
noncomputable def ConD (w : World) (K : PySem.W.Frag) (d : Addr) (kvs : List (Str × Str)) : Prop := (d == sysModules) = false ∧ (kvs.map (·.1)).Nodup ∧ ∃ (es : Array DictEntry) (n : Nat), K.lookup d = some ⟨.type "dict", none, .dict es n, #[]⟩ ∧ PySem.W.KeysLit w.params es.toList ∧
  Paired (fun (e : DictEntry) (kv : Str × Str) => (∃ t, e.key = .str kv.1 t) ∧ ∃ t, e.val = .str kv.2 t) es.toList kvs
noncomputable def ValD (us : List (Str × Value)) (kvs : List (Str × Str)) : Prop := Paired (fun (u : Str × Value) (kv : Str × Str) => u.1 = kv.1 ∧ ∃ t, u.2 = .str kv.2 t) us kvs
theorem con_us {P : Program} {w : World} : ∀ {l : List DictEntry} {kvs : List (Str × Str)}, Paired (fun (e : DictEntry) (kv : Str × Str) => (∃ t, e.key = .str kv.1 t) ∧ ∃ t, e.val = .str kv.2 t) l kvs → ∃ us, Pairs (strKind P w) l us ∧ ValD us kvs ∧ us.map (·.1) = kvs.map (·.1)
  | _, _, .nil => ⟨[], .nil, .nil, rfl⟩
  | e :: l, kv :: kvs, .cons r t => by
    obtain ⟨us, h1, h2, h3⟩ := con_us (P := P) (w := w) t
    obtain ⟨⟨t1, e1⟩, t2, e2⟩ := r
    exact ⟨(kv.1, e.val) :: us, .cons (by rw [e1]; exact strKind_is P w kv.1 t1) rfl h1, .cons ⟨rfl, t2, e2⟩ h2, by rw [List.map_cons, List.map_cons, h3]⟩
theorem ConD.at {P : Program} {w : World} {K : PySem.W.Frag} {d : Addr} {kvs : List (Str × Str)} (c : ConD w K d kvs) : ∃ us ep, ValD us kvs ∧ ∀ h : Heap, K.In h → h.DictAt (strKind P w) d us ep := by
  obtain ⟨_, nd, es, n, hl, hk, pr⟩ := c
  obtain ⟨us, h1, h2, h3⟩ := con_us (P := P) (w := w) pr
  refine ⟨us, n, h2, fun h X => ⟨_, es, X _ _ hl, ⟨rfl, rfl, rfl⟩, rfl, fun e he => ?_, h1, by rw [h3]; exact nd⟩⟩
  obtain ⟨x, t, e1, e2⟩ := hk.all e (Array.mem_toList_iff.mpr he)
  exact ⟨x, by rw [e1]; exact strKind_is P w x t, e2⟩
theorem ValD.get {us : List (Str × Value)} {kvs : List (Str × Str)} (h : ValD us kvs) {i : Nat} {kv : Str × Str} (e : kvs[i]? = some kv) : ∃ t, us[i]? = some (kv.1, .str kv.2 t) := by
  induction h generalizing i with
  | nil => simp at e
  | cons r t ih =>
    cases i with
    | zero =>
      obtain rfl := Option.some.inj (show some _ = some kv from e)
      obtain ⟨e1, t1, e2⟩ := r
      exact ⟨t1, congrArg some (Prod.ext e1 e2)⟩
    | succ i => exact ih (i := i) (by simpa using e)
theorem ValD.length {us : List (Str × Value)} {kvs : List (Str × Str)} (h : ValD us kvs) : us.length = kvs.length := by
  induction h with
  | nil => rfl
  | cons _ _ ih => rw [List.length_cons, List.length_cons, ih]
noncomputable def Itd (kvs : List (Str × Str)) : It where
  go := fun i _ => i < kvs.length
  yld := fun i H y H' => ∃ p kv, H p = none ∧ y = .ref p ∧ kvs[i]? = some kv ∧ H' = upd H p (.tup [.str kv.1, .str kv.2])
  stop := fun i _ => kvs.length ≤ i
theorem is_str {P : Program} {w : World} {k : Str} {v : Value} (h : (strKind P w).is k v = true) : ∃ t, v = .str k t := by
  cases v with
  | str x t =>
    have : Value.isStrOf k (.str x t) = true := h
    unfold Value.isStrOf at this
    exact ⟨t, by rw [show x = k by simpa using this]⟩
  | _ => exact absurd h (by simp [PySem.strKind, Value.isStrOf])
theorem turn_items {P : Program} {w : World} {K : PySem.W.Frag} {elts : List Expr} {x1 : Nat} {tpos : Pos} {d : Addr} {kvs : List (Str × Str)} {us : List (Str × Value)} {ep : Nat} (it : Addr) (hv : ValD us kvs) (hd : ∀ h : Heap, K.In h → h.DictAt (strKind P w) d us ep) : Turn P w K (.Tuple elts x1 tpos) (Itd kvs) [it] it (fun i h => ∃ ok ov, IsItemIter h it d i us.length ep ok ov) where
  mem := by simp
  obj := fun i h st b hb => by
    obtain ⟨ok, ov, h1⟩ := st
    cases List.mem_singleton.mp hb
    exact ⟨_, h1, fun v z => nomatch z⟩
  keep := fun i h h' st k => by
    obtain ⟨ok, ov, h1⟩ := st
    exact ⟨ok, ov, k it (by simp) _ h1⟩
  item := by
    intro X hP hw hK hc i pins s σ H E I hf st hg
    subst hP hw hK
    have hi : i < kvs.length := hg
    obtain ⟨t, ht⟩ := hv.get (List.getElem?_eq_getElem hi)
    obtain ⟨ok, ov, h1⟩ := st
    obtain ⟨g0, g1, g2, g3, g4, g5⟩ := hf it (by simp)
    have fr : H s.heap.objs.size = none := I.hok.fresh (Nat.le_refl _)
    have pe : s.heap.objs.size ≠ it := Nat.ne_of_gt (Heap.lt_size h1)
    refine wpAny_pyNext_items_item h1 (hd _ I.kIn) ht fun key h' hkey out tup sz k => ⟨.ref s.heap.objs.size, rfl, ?_⟩
    obtain ⟨tk, rfl⟩ := is_str hkey
    refine wpAny_letOwnedTupleGo_items (s := { s with heap := h' }) out fun h'' he' sb => ?_
    have kk : ∀ b o, b ∉ [it] → s.heap.get? b = some o → h''.get? b = some o := fun b o hb z =>
      (sb.2 b (fun q => hb (by simp [q]))).trans (k b o (fun q => hb (by simp [q])) z)
    have kt : h''.get? s.heap.objs.size = some { cls := .type "tuple", data := .seq #[.str kvs[i].1 tk, .str kvs[i].2 t] } := (sb.2 _ pe).trans tup
    have nt : ∀ b v, H b = some v → b ∉ [it] := fun b v z hb => by
      cases List.mem_singleton.mp hb
      rw [g0] at z; cases z
    have np : ∀ b v, H b = some v → b ≠ s.heap.objs.size := fun b v z q => by subst q; rw [fr] at z; cases z
    have up : ∀ b v, H b = some v → upd H s.heap.objs.size (.tup [.str kvs[i].1, .str kvs[i].2]) b = some v := fun b v z => by rw [upd_ne (np b v z)]; exact z
    refine ⟨.ref s.heap.objs.size, upd H s.heap.objs.size (.tup [.str kvs[i].1, .str kvs[i].2]), ?_, rfl, ⟨_, kvs[i], fr, rfl, List.getElem?_eq_getElem hi, rfl⟩, ⟨_, _, he'⟩, fun b hb => ?_⟩
    · show Inv X pins σ _ { s with heap := h'', gens := s.gens, drawn := s.drawn, toks := s.toks }
      refine Inv.step (s := s) (h' := h'') (t' := s.toks) (g' := s.gens) (d' := s.drawn) (ch := [it]) I (fun b hb => ?_) (fun b o _ _ hb z _ => kk b o hb z) (fun b o _ _ hb z _ => ⟨o.slots, kk b o hb z⟩) (fun b o _ z n => by rw [upd_ne (Nat.ne_of_lt (Heap.lt_size z))]; exact n) (fun b o hb z => ⟨o, kk b o hb z⟩)
        (fun b ys z => up b _ z) (fun b o v z => up b _ z) (fun b ps z => ⟨#[], by rw [Array.append_empty]; exact up b _ z⟩) (fun m hm => ?_) (fun b v z => ?_) I.bare
      · cases List.mem_singleton.mp hb
        exact ⟨g3, g1, g4, g5⟩
      · obtain ⟨o, es, ep', ho, r⟩ := hm
        refine ⟨o, es, ep', kk _ o (fun hb => ?_) ho, r⟩
        exact g1 (List.mem_singleton.mp hb).symm
      · by_cases q : b = s.heap.objs.size
        · subst q
          rw [upd_same] at z
          cases z
          exact ⟨small_line (Nat.le_of_ble_eq_true rfl), [.str kvs[i].1 tk, .str kvs[i].2 t], .cons ⟨_, rfl⟩ (.cons ⟨_, rfl⟩ .nil), _, kt, rfl, _, rfl⟩
        · rw [upd_ne q] at z
          refine (I.hok b v z).stay (fun c o hc y => kk c o ?_ y) (fun c y => up c _ y) fun c ys y => up c _ y
          rcases hc with rfl | hc
          · exact nt _ _ z
          · exact nt _ _ hc
    · cases List.mem_singleton.mp hb
      rw [upd_ne (Ne.symm pe)]; exact g0
  done := by
    intro X hP hw hK hc i pins s σ H E I hf st hg
    subst hP hw hK
    have hi : kvs.length ≤ i := hg
    obtain ⟨ok, ov, h1⟩ := st
    obtain ⟨g0, g1, g2, g3, g4, g5⟩ := hf it (by simp)
    exact wpAny_pyNext_items_end (I.ok.hd hc) h1 (hd _ I.kIn) (List.getElem?_eq_none (by rw [hv.length]; exact hi)) fun h' eb => ⟨rfl, I.turned (t' := s.toks) (fun b o hb z => eb b o hb z) g0 g1 g3 g4 g5⟩
  self := fun _ _ _ _ _ st h => by
    obtain ⟨ok, ov, h1⟩ := st
    exact PySem.W.kcp_self h1 h
section
variable {X : Cx}
noncomputable def iItems (kvs : List (Str × Str)) : TI := fun _ H R => R (Itd kvs) H
theorem pi_items {x : Str} {d : Addr} {kvs : List (Str × Str)} {np apos pos tpos : Pos} {elts : List Expr} {x1 : Nat} (c : ConD X.w X.K d kvs) (hm : X.mg x = some (.ref d)) (hg : Gl X x) (hdb : (x == ("__debug__" : Str)) = false) (hb : attributeBase (.Name x np) "items" X.env (eval (.Name x np) X.env) = eval (.Name x np) X.env) (hl : (apos.endLine == pos.line) = true) :
    PI X (.Tuple elts x1 tpos) (.Call (.Attribute (.Name x np) "items" apos) [] [] pos) (iItems kvs) := by
  intro pins s σ H R I h
  obtain ⟨us, ep, hv, hd⟩ := c.at (P := X.prog)
  refine wpAny_Call_items (knd := strKind X.prog X.w) c.1 (hd _ I.kIn).dictOf hb hl (fun Q' q => ld_glob I hg hm q hdb) ?_
  have I1 := I.kept (h' := s.heap.push { cls := .type "dict_items", data := .fields #[.ref d] }) (t' := s.toks) fun _ _ q => Heap.get?_push_of_some _ q
  have I1 : Inv X pins σ H { s with heap := s.heap.push { cls := .type "dict_items", data := .fields #[.ref d] } } := I1
  refine wpAny_pyIter_items (s := { s with heap := s.heap.push { cls := .type "dict_items", data := .fields #[.ref d] } }) ⟨_, Heap.get?_push_size _ rfl, rfl, rfl⟩ (hd _ I1.kIn) ?_
  have I2 := I1.kept (h' := (s.heap.push { cls := .type "dict_items", data := .fields #[.ref d] }).push { cls := .type "dict_itemiterator", data := .fields #[.none, .bool false, .ref d, .int 0 0, .int us.length 0, .int ep 0, .none, .none] }) (t' := s.toks) fun _ _ q => Heap.get?_push_of_some _ q
  refine ⟨_, [_], _, _, H, rfl, I2, turn_items _ hv hd, ⟨_, _, Heap.get?_push_size _ rfl⟩, fun b hb => ?_, h⟩
  cases List.mem_singleton.mp hb
  exact I1.fpOk (Nat.le_refl _) (I1.hok.fresh (Nat.le_refl _))
end
theorem ForW.items {kvs : List (Str × Str)} {g : TG} {tb : TS} {D : Ends} {σ : St} {H : Hp} (Pv : Nat → St → Hp → Prop) (h0 : Pv 0 σ H)
    (hs : ∀ (i : Nat) kv σ H p, kvs[i]? = some kv → Pv i σ H → H p = none → g (.ref p) σ (upd H p (.tup [.str kv.1, .str kv.2])) fun σ2 H2 => tb { D with nx := Pv (i + 1), ct := Pv (i + 1), bk := D.nx } σ2 H2)
    (hd : ∀ σ H, Pv kvs.length σ H → D.nx σ H) : ForW (Itd kvs) g tb D σ H := by
  refine ⟨fun i m σ H => Pv i σ H ∧ i ≤ kvs.length ∧ m = kvs.length - i, ⟨_, h0, Nat.zero_le _, rfl⟩, fun i m σ H ⟨h1, h2, h3⟩ => ?_⟩
  by_cases e : i = kvs.length
  · subst e
    exact .inl ⟨Nat.le_refl _, hd σ H h1⟩
  · have lt : i < kvs.length := Nat.lt_of_le_of_ne h2 e
    refine .inr ⟨lt, Pv (i + 1), fun σ' H' z => ⟨kvs.length - (i + 1), by omega, z, lt, rfl⟩, fun x H' hy => ?_⟩
    obtain ⟨p, kv, hp, rfl, hx, rfl⟩ := hy
    exact hs i kv σ H p hx h1 hp
section
variable {X : Cx}
noncomputable def rStarts3 : V → List V → Hp → VK → Prop := fun x vs H Q => ∃ z y i, x = .str z ∧ vs = [.str y, .int i] ∧ Q (.bl (Txt.startswith3 z y i)) H
theorem mt_startswith3 : MtR X "str.startswith" rStarts3 := by
  intro pins s σ H x vs v us Q I rx rv h
  obtain ⟨z, y, i, rfl, rfl, q⟩ := h
  obtain ⟨t, rfl⟩ := rx
  obtain ⟨u, w', rfl, ⟨t1, rfl⟩, t2, rfl⟩ := vals2 rv
  exact SC.startswith3 ⟨.bl _, H, I, rfl, q⟩
end
end L2
set_option maxHeartbeats 4000000
namespace L2
open PySem PySem.Spec PyProof.Rows
section
variable {prog : Program} {w : World} {A : Around} {E : Value → Shared → Prop} {s : Shared}
theorem next_tup {it t : Addr} {i : Nat} {its : Array Value} {x : Value} {Q : Value → Shared → Prop} (hi : s.heap.IsTupleIter it t i) (ht : s.heap.IsTuple t its) (hx : its[i]? = some x) (q : ∀ h', h'.IsTupleIter it t (i + 1) → Heap.SameBut it s.heap h' → Q x { s with heap := h' }) :
    wpAny (model prog w) A (Builtin.SmallTypes.nextOf (.ref it)) Q E s := by
  obtain ⟨o, ho, hc, hd⟩ := id hi
  obtain ⟨ot, hot, _, nt, hdt⟩ := ht
  unfold Builtin.SmallTypes.nextOf
  have ty := hi.typeIs
  refine wpAny_bind (wpAny_callSpecial?_slot (name := Str.ofString "__next__") ty F.slot_tuple_iterator_next (wpAny_call_entry F.slot_tuple_iterator_next ty F.entry_tuple_iterator_next ?_ (F.args_tuple_iterator_next_1 _)))
  show wpAny _ _ (field (.ref it) 0 >>= _) _ _ s; refine wpAny_bind (wpAny_field ho hd (x := .ref t) rfl ?_)
  show wpAny _ _ (if (Value.ref t == Value.none) = true then _ else _) _ _ s; rw [if_neg (show (Value.ref t == Value.none) ≠ true from Bool.false_ne_true)]
  show wpAny _ _ (field (.ref it) 1 >>= _) _ _ s; refine wpAny_bind (wpAny_field ho hd (x := .int i 0) rfl ?_)
  show wpAny _ _ (seqItems? (.ref t) >>= _) _ _ s; refine wpAny_bind (wpAny_seqItems hot hdt ?_)
  simp only [Int.toNat_natCast, hx]
  refine wpAny_bind (wpAny_setField ho hd (by simp) (wpAny_pure ⟨x, rfl, wpAny_pure (q _ ⟨_, Heap.get?_update_self _ ho (Obj.isFreed_of_fields (Obj.data_mapFields hd _)), (Obj.cls_mapFields ..).trans hc, ?_⟩ (Heap.SameBut.update ..))⟩))
  rw [Obj.data_mapFields hd]; simp [rawInt]
theorem zipT_next {z TI TO i1 i2 l1 l2 : Addr} {k1 k2 : Nat} {xs ys : Array Value} {x y a b : Value} {Q : Value → Shared → Prop} (D : ZipApart z TI TO i1 i2 l1 l2) (hz : IsZip s.heap z TI TO .none) (hTI : IsPair s.heap TI (.ref i1) (.ref i2)) (hTO : IsPair s.heap TO a b)
    (h1 : s.heap.IsTupleIter i1 l1 k1) (h2 : s.heap.IsTupleIter i2 l2 k2) (hl1 : s.heap.IsTuple l1 xs) (hl2 : s.heap.IsTuple l2 ys) (hx : xs[k1]? = some x) (hy : ys[k2]? = some y)
    (q : ∀ h', IsZip h' z TI TO (rawInt s.heap.objs.size) → IsPair h' TO x y → h'.IsTupleIter i1 l1 (k1 + 1) → h'.IsTupleIter i2 l2 (k2 + 1) → IsPair h' s.heap.objs.size x y → (∀ c o, c ≠ z → c ≠ TO → c ≠ i1 → c ≠ i2 → s.heap.get? c = some o → h'.get? c = some o) → Q (.ref s.heap.objs.size) { s with heap := h' }) :
    wpAny (model prog w) A (Builtin.«zip.__next__» ⟨[.ref z], []⟩) (fun fin s' => ∃ v, fin = .done (.ret v) ∧ Q v s') E s := by
  show wpAny _ _ (field (.ref z) 2 >>= _) _ _ _; refine wpAny_bind (wpAny_field hz rfl (x := .bool false) rfl ?_)
  show wpAny _ _ (field (.ref z) 3 >>= _) _ _ _; refine wpAny_bind (wpAny_field hz rfl (x := .ref TI) rfl (wpAny_bind (wpAny_seqItems hTI rfl ?_)))
  show wpAny _ _ (Builtin.SmallTypes.ownedTupleIsFree (.ref z) >>= _) _ _ _; refine wpAny_bind ?_
  unfold Builtin.SmallTypes.ownedTupleIsFree
  refine wpAny_bind (wpAny_field hz rfl (x := .none) rfl (wpAny_pure ?_)); simp only [if_true]
  refine wpAny_bind (wpAny_rule (wpAny_bind (wpAny_field hz rfl (x := .ref TO) rfl (wpAny_bind (wpAny_setField_rec hz (by simp) fun g1 z1 e1 => ?_)))))
  replace z1 : IsZip g1 z TI TO .ellipsis := z1
  refine wpAny_bind ?_; simp only [List.zipIdx_cons, List.zipIdx_nil, List.forIn_cons, List.forIn_nil]
  refine wpAny_bind (wpAny_bind (wpAny_onRaise ?_)); show wpAny _ _ (Builtin.SmallTypes.nextOf (.ref i1) >>= _) _ _ _
  refine wpAny_bind (next_tup (h1.extBut e1.extBut D.i1z) (hl1.extBut e1.extBut D.l1z) hx fun g2 it1 e2 => wpAny_pure ?_)
  have o2 : IsPair g2 TO a b := e2.extBut _ _ D.TOi1 (e1.extBut _ _ D.TOz hTO)
  refine wpAny_bind (wpAny_seqItems o2 rfl (wpAny_bind (wpAny_updateSeq_pair o2 fun g3 o3 e3 => wpAny_bind (wpAny_letGo (wpAny_pure ?_)))))
  replace o3 : IsPair g3 TO x b := o3
  refine wpAny_bind (wpAny_bind (wpAny_onRaise ?_)); show wpAny _ _ (Builtin.SmallTypes.nextOf (.ref i2) >>= _) _ _ _
  have it2 : g3.IsTupleIter i2 l2 k2 := ((h2.extBut e1.extBut D.i2z).extBut e2.extBut (Ne.symm D.i12)).extBut e3.extBut (Ne.symm D.TOi2)
  have tp2 : g3.IsTuple l2 ys := ((hl2.extBut e1.extBut D.l2z).extBut e2.extBut D.l2i1).extBut e3.extBut D.l2TO
  refine wpAny_bind (next_tup it2 tp2 hy fun g4 it3 e4 => wpAny_pure ?_)
  have o4 : IsPair g4 TO x b := e4.extBut _ _ D.TOi2 o3
  refine wpAny_bind (wpAny_seqItems o4 rfl (wpAny_bind (wpAny_updateSeq_pair o4 fun g5 o5 e5 => wpAny_bind (wpAny_letGo (wpAny_pure (wpAny_pure ?_))))))
  replace o5 : IsPair g5 TO x y := o5
  refine wpAny_bind (wpAny_seqItems o5 rfl (wpAny_bind (wpAny_newTuple ?_)))
  have sz : g5.objs.size = s.heap.objs.size := by rw [e5.1, e4.1, e3.1, e2.1, e1.1]
  have z5 : IsZip g5 z TI TO .ellipsis := e5.extBut _ _ (Ne.symm D.TOz) (e4.extBut _ _ (Ne.symm D.i2z) (e3.extBut _ _ (Ne.symm D.TOz) (e2.extBut _ _ (Ne.symm D.i1z) z1)))
  have kp : ∀ c o, c ≠ z → c ≠ TO → c ≠ i1 → c ≠ i2 → s.heap.get? c = some o → g5.get? c = some o := fun c o c1 c2 c3 c4 e => e5.extBut _ _ c2 (e4.extBut _ _ c4 (e3.extBut _ _ c2 (e2.extBut _ _ c3 (e1.extBut _ _ c1 e))))
  have j1 : g5.IsTupleIter i1 l1 (k1 + 1) := ((it1.extBut e3.extBut (Ne.symm D.TOi1)).extBut e4.extBut D.i12).extBut e5.extBut (Ne.symm D.TOi1)
  have j2 : g5.IsTupleIter i2 l2 (k2 + 1) := it3.extBut e5.extBut (Ne.symm D.TOi2)
  show wpAny _ _ (Builtin.SmallTypes.ownedTupleHandOut (.ref z) (.ref g5.objs.size) >>= _) _ _ _; refine wpAny_bind ?_
  unfold Builtin.SmallTypes.ownedTupleHandOut
  have z6 : IsZip (g5.push { cls := .type "tuple", data := .seq #[x, y] }) z TI TO .ellipsis := Heap.get?_push_of_some _ z5
  refine wpAny_bind (wpAny_setField_rec z6 (by simp) fun g7 z7 e7 => ?_)
  replace z7 : IsZip g7 z TI TO (rawInt g5.objs.size) := z7
  refine wpAny_setField_rec z7 (by simp) fun g8 z8 e8 => ?_
  replace z8 : IsZip g8 z TI TO (rawInt g5.objs.size) := z8
  have up : ∀ c o, c ≠ z → g5.get? c = some o → g8.get? c = some o := fun c o c1 e => e8.extBut _ _ c1 (e7.extBut _ _ c1 (Heap.get?_push_of_some _ e))
  have zl : g5.objs.size ≠ z := Nat.ne_of_gt (Heap.lt_size z5)
  have p8 : IsPair g8 g5.objs.size x y := e8.extBut _ _ zl (e7.extBut _ _ zl (Heap.get?_push_size _ rfl))
  rw [sz] at z8 p8
  refine wpAny_pure ⟨_, rfl, ?_⟩
  show Q (.ref g5.objs.size) _
  rw [sz]
  obtain ⟨b1, f1, r1⟩ := j1
  obtain ⟨b2, f2, r2⟩ := j2
  exact q g8 z8 (up _ _ D.TOz o5) ⟨b1, up _ _ D.i1z f1, r1⟩ ⟨b2, up _ _ D.i2z f2, r2⟩ p8 fun c o c1 c2 c3 c4 e => up c o c1 (kp c o c1 c2 c3 c4 e)
theorem zipT_pyNext {z TI TO i1 i2 l1 l2 : Addr} {k1 k2 : Nat} {xs ys : Array Value} {x y a b : Value} {Q : Option Value → Shared → Prop} (D : ZipApart z TI TO i1 i2 l1 l2) (hz : IsZip s.heap z TI TO .none) (hTI : IsPair s.heap TI (.ref i1) (.ref i2)) (hTO : IsPair s.heap TO a b)
    (h1 : s.heap.IsTupleIter i1 l1 k1) (h2 : s.heap.IsTupleIter i2 l2 k2) (hl1 : s.heap.IsTuple l1 xs) (hl2 : s.heap.IsTuple l2 ys) (hx : xs[k1]? = some x) (hy : ys[k2]? = some y)
    (q : ∀ h', IsZip h' z TI TO (rawInt s.heap.objs.size) → IsPair h' TO x y → h'.IsTupleIter i1 l1 (k1 + 1) → h'.IsTupleIter i2 l2 (k2 + 1) → IsPair h' s.heap.objs.size x y → (∀ c o, c ≠ z → c ≠ TO → c ≠ i1 → c ≠ i2 → s.heap.get? c = some o → h'.get? c = some o) → Q (some (.ref s.heap.objs.size)) { s with heap := h' }) :
    wpAny (model prog w) A (pyNext (.ref z)) Q E s := by
  have ty : s.TypeIs (.ref z) "zip" := ⟨_, hz, rfl⟩
  unfold pyNext
  have st := zipT_next (prog := prog) (w := w) (A := A.in1) (E := fun _ _ => False) (Q := fun v s' => wpAny (model prog w) A (pure (some v)) Q E s') D hz hTI hTO h1 h2 hl1 hl2 hx hy fun h' a1 a2 a3 a4 a5 a6 => wpAny_pure (q h' a1 a2 a3 a4 a5 a6)
  exact wpAny_bind (wpAny_attempt (wpAny_callSpecial?_slot (name := Str.ofString "__next__") ty F.slot_zip_next (wpAny_call_entry F.slot_zip_next ty F.entry_zip_next (wpAny_mono st (fun _ _ z => z) fun _ _ z => z.elim) (F.args_zip_next_1 _))))
end
noncomputable abbrev zt1 (h : Heap) (a : Addr) : Heap := h.push { cls := .type "tuple_iterator", data := .fields #[.ref a, .int 0 0] }
noncomputable abbrev zt2 (h : Heap) (a b : Addr) : Heap := zt1 (zt1 h a) b
noncomputable abbrev zt3 (h : Heap) (a b : Addr) : Heap := (zt2 h a b).push { cls := .type "tuple", data := .seq #[.ref h.objs.size, .ref (zt1 h a).objs.size] }
noncomputable abbrev zt4 (h : Heap) (a b : Addr) : Heap := (zt3 h a b).push { cls := .type "tuple", data := .seq #[.none, .none] }
noncomputable abbrev zt5 (h : Heap) (a b : Addr) : Heap := (zt4 h a b).push { cls := .type "zip", data := .fields #[.none, .bool false, .bool false, .ref (zt2 h a b).objs.size, .ref (zt3 h a b).objs.size] }
theorem meets_zipT (a b : Addr) (xs ys : Array Value) : Meets (Builtin.«zip.__new__» ⟨[.type "zip", .ref a, .ref b], []⟩) (fun _ R s => s.heap.IsTuple a xs ∧ s.heap.IsTuple b ys ∧ R (.ok (.ret (.ref (zt4 s.heap a b).objs.size))) { s with heap := zt5 s.heap a b }) :=
  .of_wp fun prog w A R s h => by
    obtain ⟨hp, g, d, tk, os⟩ := s
    obtain ⟨ha, hb, h⟩ := h
    have hsub := sub_zip
    have h1 : Heap.IsTuple (Shared.heap ⟨hp, g, d, tk, os⟩) a xs := ha
    have h2 : Heap.IsTuple (Shared.heap ⟨zt1 hp a, g, d, tk, os⟩) b ys := Heap.IsTuple.push hb _
    wp_walk using wpAny_pyIter_tuple h1, wpAny_pyIter_tuple h2
    exact ⟨_, rfl, h⟩
section
variable {prog : Program} {w : World} {A : Around} {E : Value → Shared → Prop} {s : Shared}
theorem call_zipT {a b : Addr} {xs ys : Array Value} {Q : Value → Shared → Prop} (ha : s.heap.IsTuple a xs) (hb : s.heap.IsTuple b ys)
    (h : ∀ h', IsZip h' (s.heap.objs.size + 4) (s.heap.objs.size + 2) (s.heap.objs.size + 3) .none → IsPair h' (s.heap.objs.size + 2) (.ref s.heap.objs.size) (.ref (s.heap.objs.size + 1)) → IsPair h' (s.heap.objs.size + 3) .none .none → h'.IsTupleIter s.heap.objs.size a 0 → h'.IsTupleIter (s.heap.objs.size + 1) b 0 → (∀ c o, s.heap.get? c = some o → h'.get? c = some o) → Q (.ref (s.heap.objs.size + 4)) { s with heap := h' }) :
    wpAny (model prog w) A (call (.type "zip") [.ref a, .ref b]) Q E s := by
  refine callType_new F.called_zip (by decide) (F.typeCall_zip_2 _ _) (F.newCall_zip_2 _ _) (fun obj => F.args_object_init_3 obj _ _) F.entry_zip_new (meets_zipT a b xs ys) ⟨ha, hb, ?_⟩
  have n1 : (zt1 s.heap a).objs.size = s.heap.objs.size + 1 := Heap.size_push ..
  have n2 : (zt2 s.heap a b).objs.size = s.heap.objs.size + 2 := by rw [Heap.size_push, n1]
  have n3 : (zt3 s.heap a b).objs.size = s.heap.objs.size + 3 := by rw [Heap.size_push, n2]
  have n4 : (zt4 s.heap a b).objs.size = s.heap.objs.size + 4 := by rw [Heap.size_push, n3]
  have up : ∀ {h : Heap} {o u : Obj} {c : Addr}, h.get? c = some u → (h.push o).get? c = some u := fun e => Heap.get?_push_of_some _ e
  have q5 : (zt5 s.heap a b).get? (zt4 s.heap a b).objs.size = some _ := Heap.get?_push_size _ rfl
  have q4 : (zt5 s.heap a b).get? (zt3 s.heap a b).objs.size = some _ := up (Heap.get?_push_size _ rfl)
  have q3 : (zt5 s.heap a b).get? (zt2 s.heap a b).objs.size = some _ := up (up (Heap.get?_push_size _ rfl))
  have q2 : (zt5 s.heap a b).get? (zt1 s.heap a).objs.size = some _ := up (up (up (Heap.get?_push_size _ rfl)))
  have q1 : (zt5 s.heap a b).get? s.heap.objs.size = some _ := up (up (up (up (Heap.get?_push_size _ rfl))))
  show _ ∧ _
  rw [n2, n3, n4] at q5
  rw [n1, n2] at q3
  rw [n3] at q4
  rw [n1] at q2
  rw [n4]
  exact ⟨⟨_, q5, rfl⟩, h _ q5 q3 q4 ⟨_, q1, rfl, rfl⟩ ⟨_, q2, rfl, rfl⟩ fun c o e => up (up (up (up (up e))))⟩
end
noncomputable def Itzt (K : PySem.W.Frag) (a b : Addr) : It where
  go := fun i H => ∃ xs ys x y, SqT K H a xs ∧ SqT K H b ys ∧ xs[i]? = some x ∧ ys[i]? = some y
  yld := fun i H v H' => ∃ p x y, H p = none ∧ v = .ref p ∧ (∀ zs, SqT K H a zs → zs[i]? = some x) ∧ (∀ zs, SqT K H b zs → zs[i]? = some y) ∧ H' = upd H p (.tup [x, y])
  stop := fun _ _ => False
theorem IsTupleIter.at {h h' : Heap} {it t : Addr} {i : Nat} (x : h.IsTupleIter it t i) (k : ∀ o, h.get? it = some o → h'.get? it = some o) : h'.IsTupleIter it t i := let ⟨o, e, r⟩ := x; ⟨o, k o e, r⟩
theorem turn_zipT {P : Program} {w : World} {K : PySem.W.Frag} {elts : List Expr} {x1 : Nat} {tpos : Pos} (z TI TO i1 i2 a b : Addr) (D : ZipApart z TI TO i1 i2 a b) :
    Turn P w K (.Tuple elts x1 tpos) (Itzt K a b) [z, TI, TO, i1, i2] z (fun i h => IsZip h z TI TO .none ∧ IsPair h TI (.ref i1) (.ref i2) ∧ (∃ x y, IsPair h TO x y) ∧ h.IsTupleIter i1 a i ∧ h.IsTupleIter i2 b i) where
  mem := by simp
  obj := fun i h st c hc => by
    obtain ⟨h1, h2, ⟨x, y, h3⟩, ⟨o4, e4, _, d4⟩, o5, e5, _, d5⟩ := st
    simp only [List.mem_cons, List.not_mem_nil, or_false] at hc
    rcases hc with rfl | rfl | rfl | rfl | rfl
    · exact ⟨_, h1, fun v z => nomatch z⟩
    · exact ⟨_, h2, fun v z => nomatch z⟩
    · exact ⟨_, h3, fun v z => nomatch z⟩
    · exact ⟨_, e4, fun v z => by rw [d4] at z; cases z⟩
    · exact ⟨_, e5, fun v z => by rw [d5] at z; cases z⟩
  keep := fun i h h' st k => by
    obtain ⟨h1, h2, ⟨x, y, h3⟩, h4, h5⟩ := st
    exact ⟨k z (by simp) _ h1, k TI (by simp) _ h2, ⟨x, y, k TO (by simp) _ h3⟩, IsTupleIter.at h4 fun o e => k i1 (by simp) o e, IsTupleIter.at h5 fun o e => k i2 (by simp) o e⟩
  item := by
    intro X hP hw hK hc i pins s σ H E I hf st hg
    subst hP hw hK
    obtain ⟨xs, ys, x, y, hqa, hqb, hx, hy⟩ := hg
    obtain ⟨ia, ra, pa, _⟩ := I.tuple hqa
    obtain ⟨ib, rb, pb, _⟩ := I.tuple hqb
    obtain ⟨u, hu, ru⟩ := ra.get hx
    obtain ⟨v, hv, rv⟩ := rb.get hy
    obtain ⟨h1, h2, ⟨ox, oy, h3⟩, h4, h5⟩ := st
    have fr : H s.heap.objs.size = none := I.hok.fresh (Nat.le_refl _)
    have pz : s.heap.objs.size ≠ z := Nat.ne_of_gt (Heap.lt_size h1)
    refine zipT_pyNext D h1 h2 h3 h4 h5 (show s.heap.IsTuple a ia.toArray from pa) (show s.heap.IsTuple b ib.toArray from pb) (x := u) (y := v) (by simpa using hu) (by simpa using hv) fun h' out to' st1 st2 tup k => ⟨.ref s.heap.objs.size, rfl, ?_⟩
    refine wpAny_letOwnedTupleGo_zip (s := { s with heap := h' }) out fun h'' hz' sb => ?_
    have kk : ∀ c o, c ∉ [z, TI, TO, i1, i2] → s.heap.get? c = some o → h''.get? c = some o := fun c o hb e =>
      (sb.2 c (fun q => hb (by simp [q]))).trans (k c o (fun q => hb (by simp [q])) (fun q => hb (by simp [q])) (fun q => hb (by simp [q])) (fun q => hb (by simp [q])) e)
    have kt : h''.get? s.heap.objs.size = some { cls := .type "tuple", data := .seq #[u, v] } := (sb.2 _ pz).trans tup
    have nt : ∀ c w', H c = some w' → c ∉ [z, TI, TO, i1, i2] := fun c w' e hb => by
      rw [(hf c hb).1] at e; cases e
    have np : ∀ c w', H c = some w' → c ≠ s.heap.objs.size := fun c w' e q => by subst q; rw [fr] at e; cases e
    have up : ∀ c w', H c = some w' → upd H s.heap.objs.size (.tup [x, y]) c = some w' := fun c w' e => by rw [upd_ne (np c w' e)]; exact e
    have lts : ∀ c ∈ [z, TI, TO, i1, i2], c < s.heap.objs.size := fun c hc => by
      obtain ⟨o4, e4, _, _⟩ := h4
      obtain ⟨o5, e5, _, _⟩ := h5
      simp only [List.mem_cons, List.not_mem_nil, or_false] at hc
      rcases hc with rfl | rfl | rfl | rfl | rfl
      · exact Heap.lt_size h1
      · exact Heap.lt_size h2
      · exact Heap.lt_size h3
      · exact Heap.lt_size e4
      · exact Heap.lt_size e5
    refine ⟨.ref s.heap.objs.size, upd H s.heap.objs.size (.tup [x, y]), ?_, rfl, ⟨_, x, y, fr, rfl, fun zs hz => by rw [I.tuple_inj hz hqa]; exact hx, fun zs hz => by rw [I.tuple_inj hz hqb]; exact hy, rfl⟩, ⟨hz', (sb.2 TI D.TIz).trans (k TI _ D.TIz D.TITO D.TIi1 D.TIi2 h2), ⟨u, v, (sb.2 TO D.TOz).trans to'⟩, IsTupleIter.at st1 fun o e => (sb.2 i1 D.i1z).trans e, IsTupleIter.at st2 fun o e => (sb.2 i2 D.i2z).trans e⟩, fun c hc => ?_⟩
    · show Inv X pins σ _ { s with heap := h'', gens := s.gens, drawn := s.drawn, toks := s.toks }
      refine Inv.step (s := s) (h' := h'') (t' := s.toks) (g' := s.gens) (d' := s.drawn) (ch := [z, TI, TO, i1, i2]) I (fun c hc => ?_) (fun c o _ _ hb e _ => kk c o hb e) (fun c o _ _ hb e _ => ⟨o.slots, kk c o hb e⟩) (fun c o _ e n => by rw [upd_ne (Nat.ne_of_lt (Heap.lt_size e))]; exact n) (fun c o hb e => ⟨o, kk c o hb e⟩)
        (fun c zs e => up c _ e) (fun c o w' e => up c _ e) (fun c ps e => ⟨#[], by rw [Array.append_empty]; exact up c _ e⟩) (fun m hm => ?_) (fun c w' e => ?_) I.bare
      · obtain ⟨f0, f1, f2, f3, f4, f5⟩ := hf c hc
        exact ⟨f3, f1, f4, f5⟩
      · obtain ⟨o, es, ep, ho, r⟩ := hm
        exact ⟨o, es, ep, kk _ o (fun hb => (hf _ hb).2.1 rfl) ho, r⟩
      · by_cases q : c = s.heap.objs.size
        · subst q
          rw [upd_same] at e
          cases e
          exact ⟨small_line (Nat.le_of_ble_eq_true rfl), [u, v], .cons ru (.cons rv .nil), _, kt, rfl, _, rfl⟩
        · rw [upd_ne q] at e
          refine (I.hok c w' e).stay (fun d o hd y => kk d o ?_ y) (fun d y => up d _ y) fun d zs y => up d _ y
          rcases hd with rfl | hd
          · exact nt _ _ e
          · exact nt _ _ hd
    · rw [upd_ne (Nat.ne_of_lt (lts c hc))]
      exact (hf c hc).1
  done := by
    intro X hP hw hK hc i pins s σ H E I hf st hg
    exact False.elim hg
  self := fun _ _ _ _ _ st h => wpAny_pyIter_zip st.1 h
section
variable {X : Cx}
noncomputable def iZipT (K : PySem.W.Frag) (ta : TA) : TI := fun σ H R => ta σ H fun vs H1 => ∃ a b, vs = [.ref a, .ref b] ∧ (∃ xs, SqT K H1 a xs) ∧ (∃ ys, SqT K H1 b ys) ∧ R (Itzt K a b) H1
theorem k_zipT {K : PySem.W.Frag} {a b : Expr} {ta : TA} {p pos tpos : Pos} {elts : List Expr} {x1 : Nat} (e : X.K = K) (hg : Gl X "zip") (hm : X.mg "zip" = none) (ha : PA X [a, b] ta) (hn : notStar a = true) (hn2 : notStar b = true) : PI X (.Tuple elts x1 tpos) (.Call (.Name "zip" p) [a, b] [] pos) (iZipT K ta) := by
  subst e
  intro pins s σ H R I h
  refine Call_ (ld_blt I hg hm boot_zip (PyProof.Rows.callWith_type1 (thn (ha pos pins s σ H _ I h) fun us s1 ⟨vs, H1, I1, r1, q1⟩ => ?_) (star_cons hn) (by rw [star_cons hn2]; rfl)))
  obtain ⟨l, m, e, ⟨xs, hq⟩, ⟨ys, hq2⟩, q⟩ := q1
  subst e
  obtain ⟨u, v, rfl, ru, rv⟩ := vals2 r1
  cases (show u = Value.ref l from ru)
  cases (show v = Value.ref m from rv)
  obtain ⟨ia, ra, pa, _⟩ := I1.tuple hq
  obtain ⟨ib, rb, pb, _⟩ := I1.tuple hq2
  have la : l < s1.heap.objs.size := by obtain ⟨o, e, _⟩ := pa; exact Heap.lt_size e
  have lb : m < s1.heap.objs.size := by obtain ⟨o, e, _⟩ := pb; exact Heap.lt_size e
  refine call_zipT (show s1.heap.IsTuple l ia.toArray from pa) (show s1.heap.IsTuple m ib.toArray from pb) fun h' hz hTI hTO st1 st2 k => ?_
  refine wpAny_pyIter_zip (s := { s1 with heap := h' }) hz ?_
  refine ⟨s1.heap.objs.size + 4, [s1.heap.objs.size + 4, s1.heap.objs.size + 2, s1.heap.objs.size + 3, s1.heap.objs.size, s1.heap.objs.size + 1], _, _, H1, rfl, I1.kept (t' := s1.toks) k, turn_zipT _ _ _ _ _ l m ?_, ⟨hz, hTI, ⟨_, _, hTO⟩, st1, st2⟩, fun c hc => ?_, q⟩
  · have la' : Nat.lt l s1.heap.objs.size := la
    have lb' : Nat.lt m s1.heap.objs.size := lb
    generalize s1.heap.objs.size = N at *
    constructor <;> first | exact Nat.ne_of_lt (by simp only [Nat.lt_eq] at *; omega) | exact Nat.ne_of_gt (by simp only [Nat.lt_eq] at *; omega)
  · have hle : s1.heap.objs.size ≤ c := by
      simp only [List.mem_cons, List.not_mem_nil, or_false] at hc
      rcases hc with rfl | rfl | rfl | rfl | rfl
      · exact Nat.le_add_right _ _
      · exact Nat.le_add_right _ _
      · exact Nat.le_add_right _ _
      · exact Nat.le_refl _
      · exact Nat.le_add_right _ _
    exact I1.fpOk hle (I1.hok.fresh hle)
end
theorem ForW.zipT1 {K : PySem.W.Frag} {a b : Addr} {x y : V} {xs ys : List V} {g : TG} {tb : TS} {D : Ends} {σ : St} {H : Hp} (ha : SqT K H a (x :: xs)) (hb : SqT K H b (y :: ys))
    (h : ∀ p, H p = none → g (.ref p) σ (upd H p (.tup [x, y])) fun σ2 H2 => tb { D with nx := fun _ _ => False, ct := fun _ _ => False, bk := D.nx } σ2 H2) : ForW (Itzt K a b) g tb D σ H := by
  refine ⟨fun i m σ' H' => i = 0 ∧ σ' = σ ∧ H' = H, ⟨0, rfl, rfl, rfl⟩, fun i m σ' H' ⟨h1, h2, h3⟩ => ?_⟩
  subst h1; subst h2; subst h3
  refine .inr ⟨⟨_, _, x, y, ha, hb, rfl, rfl⟩, fun _ _ => False, fun _ _ z => z.elim, fun v H2 hy => ?_⟩
  obtain ⟨p, x', y', hp, rfl, hx, hy, rfl⟩ := hy
  cases (show some x = some x' from hx _ ha)
  cases (show some y = some y' from hy _ hb)
  exact h p hp
end L2
namespace NS
open PySem L2
seal L2.PE L2.PT L2.PA L2.PS L2.PSs L2.PG L2.PI L2.PTs L2.PW L2.PO L2.PGs L2.PPs L2.OpR L2.CallR L2.IxR L2.SlR L2.UnR L2.PSet
noncomputable def top (i : Nat) : Stmt := PySem.Challenge.pw_crosshall_k19_refusals_apart.main.body.getD i (.Pass ⟨0, 0, 0, 0⟩)
noncomputable abbrev s_is_made_of : Stmt := top 21
noncomputable abbrev s_is_short_text : Stmt := top 22
noncomputable abbrev s_is_name : Stmt := top 23
noncomputable abbrev s_is_word : Stmt := top 24
noncomputable abbrev s_is_number : Stmt := top 25
noncomputable abbrev s_is_value : Stmt := top 26
noncomputable abbrev s_is_field : Stmt := top 32
noncomputable abbrev s_asked_fields : Stmt := top 33
noncomputable abbrev s_field_at : Stmt := top 34
noncomputable abbrev s_asked_row : Stmt := top 35
noncomputable abbrev s_is_of_kind : Stmt := top 38
noncomputable abbrev s_asked_plain : Stmt := top 39
noncomputable abbrev s_asked_sieve : Stmt := top 40
noncomputable abbrev s_read_sieve : Stmt := top 50
noncomputable abbrev s_is_figure : Stmt := top 53
noncomputable abbrev s_asked_figure : Stmt := top 54
noncomputable abbrev s_is_side : Stmt := top 58
noncomputable abbrev s_is_figures : Stmt := top 59
noncomputable abbrev s_asked_form : Stmt := top 60
noncomputable abbrev s_asked_view : Stmt := top 61
noncomputable abbrev s_asked_path : Stmt := top 62
noncomputable abbrev s_l_cell_at : Stmt := top 64
noncomputable abbrev s_l_mix : Stmt := top 65
noncomputable abbrev s_l_classes : Stmt := top 66
noncomputable abbrev s_l_deed : Stmt := top 67
noncomputable abbrev s_law : Stmt := top 68
noncomputable abbrev s_NoRow___init__ : Stmt := inCls (top 11) 0
noncomputable abbrev s_NoSuch___init__ : Stmt := inCls (top 12) 0
noncomputable abbrev s_NoField___init__ : Stmt := inCls (top 13) 0
noncomputable abbrev s_NoKind___init__ : Stmt := inCls (top 14) 0
noncomputable abbrev s_Sheet___init__ : Stmt := inCls (top 36) 0
noncomputable abbrev s_Sheet_put : Stmt := inCls (top 36) 2
noncomputable abbrev s_Sheet_row : Stmt := inCls (top 36) 5
noncomputable abbrev s_Sheet_numbers : Stmt := inCls (top 36) 6
noncomputable abbrev s_Reading___init__ : Stmt := inCls (top 47) 0
noncomputable abbrev s_Reading_takes : Stmt := inCls (top 47) 1
noncomputable abbrev s_Reading_run_of : Stmt := inCls (top 47) 2
noncomputable abbrev s_Reading_one_sieve : Stmt := inCls (top 47) 3
noncomputable abbrev s_Reading_plain_sieve : Stmt := inCls (top 47) 5
theorem sc_is_made_of : FnScope ["text", "signs"] ["text", "signs"] (defScope s_is_made_of) := ⟨rfl, rfl, rfl, by decide +kernel, rfl, by decide +kernel, by decide +kernel⟩
theorem sc_is_short_text : FnScope ["thing", "signs"] ["thing", "signs"] (defScope s_is_short_text) := ⟨rfl, rfl, rfl, by decide +kernel, rfl, by decide +kernel, by decide +kernel⟩
theorem sc_is_name : FnScope ["thing"] ["thing"] (defScope s_is_name) := ⟨rfl, rfl, rfl, by decide +kernel, rfl, by decide +kernel, by decide +kernel⟩
theorem sc_is_word : FnScope ["thing"] ["thing"] (defScope s_is_word) := ⟨rfl, rfl, rfl, by decide +kernel, rfl, by decide +kernel, by decide +kernel⟩
theorem sc_is_number : FnScope ["thing"] ["thing"] (defScope s_is_number) := ⟨rfl, rfl, rfl, by decide +kernel, rfl, by decide +kernel, by decide +kernel⟩
theorem sc_is_value : FnScope ["kind", "thing"] ["kind", "thing"] (defScope s_is_value) := ⟨rfl, rfl, rfl, by decide +kernel, rfl, by decide +kernel, by decide +kernel⟩
theorem sc_is_field : FnScope ["thing"] ["thing"] (defScope s_is_field) := ⟨rfl, rfl, rfl, by decide +kernel, rfl, by decide +kernel, by decide +kernel⟩
theorem sc_asked_fields : FnScope ["fields", "seen", "field"] ["fields"] (defScope s_asked_fields) := ⟨rfl, rfl, rfl, by decide +kernel, rfl, by decide +kernel, by decide +kernel⟩
theorem sc_field_at : FnScope ["fields", "name", "place", "field"] ["fields", "name"] (defScope s_field_at) := ⟨rfl, rfl, rfl, by decide +kernel, rfl, by decide +kernel, by decide +kernel⟩
theorem sc_asked_row : FnScope ["fields", "row", "place", "thing"] ["fields", "row"] (defScope s_asked_row) := ⟨rfl, rfl, rfl, by decide +kernel, rfl, by decide +kernel, by decide +kernel⟩
theorem sc_is_of_kind : FnScope ["kind", "value"] ["kind", "value"] (defScope s_is_of_kind) := ⟨rfl, rfl, rfl, by decide +kernel, rfl, by decide +kernel, by decide +kernel⟩
theorem sc_asked_plain : FnScope ["fields", "sieve", "name", "kind"] ["fields", "sieve"] (defScope s_asked_plain) := ⟨rfl, rfl, rfl, by decide +kernel, rfl, by decide +kernel, by decide +kernel⟩
theorem sc_asked_sieve : FnScope ["fields", "sieve"] ["fields", "sieve"] (defScope s_asked_sieve) := ⟨rfl, rfl, rfl, by decide +kernel, rfl, by decide +kernel, by decide +kernel⟩
theorem sc_read_sieve : FnScope ["fields", "text", "reading", "sieve"] ["fields", "text"] (defScope s_read_sieve) := ⟨rfl, rfl, rfl, by decide +kernel, rfl, by decide +kernel, by decide +kernel⟩
theorem sc_is_figure : FnScope ["thing"] ["thing"] (defScope s_is_figure) := ⟨rfl, rfl, rfl, by decide +kernel, rfl, by decide +kernel, by decide +kernel⟩
theorem sc_asked_figure : FnScope ["fields", "figure", "kind"] ["fields", "figure"] (defScope s_asked_figure) := ⟨rfl, rfl, rfl, by decide +kernel, rfl, by decide +kernel, by decide +kernel⟩
theorem sc_is_side : FnScope ["thing"] ["thing"] (defScope s_is_side) := ⟨rfl, rfl, rfl, by decide +kernel, rfl, by decide +kernel, by decide +kernel⟩
theorem sc_is_figures : FnScope ["thing"] ["thing"] (defScope s_is_figures) := ⟨rfl, rfl, rfl, by decide +kernel, rfl, by decide +kernel, by decide +kernel⟩
theorem sc_asked_form : FnScope ["view", "names"] ["view"] (defScope s_asked_form) := ⟨rfl, rfl, rfl, by decide +kernel, rfl, by decide +kernel, by decide +kernel⟩
theorem sc_asked_view : FnScope ["fields", "view", "name"] ["fields", "view"] (defScope s_asked_view) := ⟨rfl, rfl, rfl, by decide +kernel, rfl, by decide +kernel, by decide +kernel⟩
theorem sc_asked_path : FnScope ["fields", "names", "path", "name", "value"] ["fields", "names", "path"] (defScope s_asked_path) := ⟨rfl, rfl, rfl, by decide +kernel, rfl, by decide +kernel, by decide +kernel⟩
theorem sc_l_cell_at : FnScope ["_law_script", "_law_k"] ["_law_script", "_law_k"] (defScope s_l_cell_at) := ⟨rfl, rfl, rfl, by decide +kernel, rfl, by decide +kernel, by decide +kernel⟩
theorem sc_l_mix : FnScope ["_law_seed", "_law_k", "_law_turn"] ["_law_seed", "_law_k"] (defScope s_l_mix) := ⟨rfl, rfl, rfl, by decide +kernel, rfl, by decide +kernel, by decide +kernel⟩
theorem sc_l_classes : FnScope ["_law_e", "_law_some"] ["_law_e"] (defScope s_l_classes) := ⟨rfl, rfl, rfl, by decide +kernel, rfl, by decide +kernel, by decide +kernel⟩
theorem sc_l_deed : FnScope ["_law_way", "_law_sheet", "_law_fields", "_law_names", "_law_number", "_law_told", "_law_caught", "_law_e", "_law_due"] ["_law_way", "_law_sheet", "_law_fields", "_law_names", "_law_number"] (defScope s_l_deed) := ⟨rfl, rfl, rfl, by decide +kernel, rfl, by decide +kernel, by decide +kernel⟩
theorem sc_law : FnScope ["_law_script", "_law_k", "_law_seed", "_law_sign", "_law_names", "_law_fields", "_law_sheet", "_law_way"] ["_law_script"] (defScope s_law) := ⟨rfl, rfl, rfl, by decide +kernel, rfl, by decide +kernel, by decide +kernel⟩
theorem sc_NoRow___init__ : FnScope ["self", "place"] ["self", "place"] (defScope s_NoRow___init__) := ⟨rfl, rfl, rfl, by decide +kernel, rfl, by decide +kernel, by decide +kernel⟩
theorem sc_NoSuch___init__ : FnScope ["self", "number"] ["self", "number"] (defScope s_NoSuch___init__) := ⟨rfl, rfl, rfl, by decide +kernel, rfl, by decide +kernel, by decide +kernel⟩
theorem sc_NoField___init__ : FnScope ["self", "name"] ["self", "name"] (defScope s_NoField___init__) := ⟨rfl, rfl, rfl, by decide +kernel, rfl, by decide +kernel, by decide +kernel⟩
theorem sc_NoKind___init__ : FnScope ["self", "name"] ["self", "name"] (defScope s_NoKind___init__) := ⟨rfl, rfl, rfl, by decide +kernel, rfl, by decide +kernel, by decide +kernel⟩
theorem sc_Sheet___init__ : FnScope ["self", "fields"] ["self", "fields"] (defScope s_Sheet___init__) := ⟨rfl, rfl, rfl, by decide +kernel, rfl, by decide +kernel, by decide +kernel⟩
theorem sc_Sheet_put : FnScope ["self", "row", "number"] ["self", "row"] (defScope s_Sheet_put) := ⟨rfl, rfl, rfl, by decide +kernel, rfl, by decide +kernel, by decide +kernel⟩
theorem sc_Sheet_row : FnScope ["self", "number"] ["self", "number"] (defScope s_Sheet_row) := ⟨rfl, rfl, rfl, by decide +kernel, rfl, by decide +kernel, by decide +kernel⟩
theorem sc_Sheet_numbers : FnScope ["self"] ["self"] (defScope s_Sheet_numbers) := ⟨rfl, rfl, rfl, by decide +kernel, rfl, by decide +kernel, by decide +kernel⟩
theorem sc_Reading___init__ : FnScope ["self", "text"] ["self", "text"] (defScope s_Reading___init__) := ⟨rfl, rfl, rfl, by decide +kernel, rfl, by decide +kernel, by decide +kernel⟩
theorem sc_Reading_takes : FnScope ["self", "signs"] ["self", "signs"] (defScope s_Reading_takes) := ⟨rfl, rfl, rfl, by decide +kernel, rfl, by decide +kernel, by decide +kernel⟩
theorem sc_Reading_run_of : FnScope ["self", "signs", "begin"] ["self", "signs"] (defScope s_Reading_run_of) := ⟨rfl, rfl, rfl, by decide +kernel, rfl, by decide +kernel, by decide +kernel⟩
theorem sc_Reading_one_sieve : FnScope ["self", "level", "form", "joint"] ["self", "level"] (defScope s_Reading_one_sieve) := ⟨rfl, rfl, rfl, by decide +kernel, rfl, by decide +kernel, by decide +kernel⟩
theorem sc_Reading_plain_sieve : FnScope ["self", "name", "form", "mark"] ["self"] (defScope s_Reading_plain_sieve) := ⟨rfl, rfl, rfl, by decide +kernel, rfl, by decide +kernel, by decide +kernel⟩
structure Txt (w : World) (K : PySem.W.Frag) (mg : Str → Option Value) (f : Nat → Addr) (fd : Nat → FuncData) : Prop where
  d_is_made_of : DefOk K mg "is_made_of" s_is_made_of ["text", "signs"] (f 21) (fd 21)
  d_is_short_text : DefOk K mg "is_short_text" s_is_short_text ["thing", "signs"] (f 22) (fd 22)
  d_is_name : DefOk K mg "is_name" s_is_name ["thing"] (f 23) (fd 23)
  d_is_word : DefOk K mg "is_word" s_is_word ["thing"] (f 24) (fd 24)
  d_is_number : DefOk K mg "is_number" s_is_number ["thing"] (f 25) (fd 25)
  d_is_value : DefOk K mg "is_value" s_is_value ["kind", "thing"] (f 26) (fd 26)
  d_is_field : DefOk K mg "is_field" s_is_field ["thing"] (f 32) (fd 32)
  d_asked_fields : DefOk K mg "asked_fields" s_asked_fields ["fields"] (f 33) (fd 33)
  d_field_at : DefOk K mg "field_at" s_field_at ["fields", "name"] (f 34) (fd 34)
  d_asked_row : DefOk K mg "asked_row" s_asked_row ["fields", "row"] (f 35) (fd 35)
  d_is_of_kind : DefOk K mg "is_of_kind" s_is_of_kind ["kind", "value"] (f 38) (fd 38)
  d_asked_plain : DefOk K mg "asked_plain" s_asked_plain ["fields", "sieve"] (f 39) (fd 39)
  d_asked_sieve : DefOk K mg "asked_sieve" s_asked_sieve ["fields", "sieve"] (f 40) (fd 40)
  d_read_sieve : DefOk K mg "read_sieve" s_read_sieve ["fields", "text"] (f 50) (fd 50)
  d_is_figure : DefOk K mg "is_figure" s_is_figure ["thing"] (f 53) (fd 53)
  d_asked_figure : DefOk K mg "asked_figure" s_asked_figure ["fields", "figure"] (f 54) (fd 54)
  d_is_side : DefOk K mg "is_side" s_is_side ["thing"] (f 58) (fd 58)
  d_is_figures : DefOk K mg "is_figures" s_is_figures ["thing"] (f 59) (fd 59)
  d_asked_form : DefOk K mg "asked_form" s_asked_form ["view"] (f 60) (fd 60)
  d_asked_view : DefOk K mg "asked_view" s_asked_view ["fields", "view"] (f 61) (fd 61)
  d_asked_path : DefOk K mg "asked_path" s_asked_path ["fields", "names", "path"] (f 62) (fd 62)
  d_l_cell_at : DefOk K mg "_law_cell_at" s_l_cell_at ["_law_script", "_law_k"] (f 64) (fd 64)
  d_l_mix : DefOk K mg "_law_mix" s_l_mix ["_law_seed", "_law_k"] (f 65) (fd 65)
  d_l_classes : DefOk K mg "_law_classes" s_l_classes ["_law_e"] (f 66) (fd 66)
  d_l_deed : DefOk K mg "_law_deed" s_l_deed ["_law_way", "_law_sheet", "_law_fields", "_law_names", "_law_number"] (f 67) (fd 67)
  d_law : DefOk K mg "law" s_law ["_law_script"] (f 68) (fd 68)
  d_NoRow___init__ : MthOk K "__init__" "NoRow.__init__" s_NoRow___init__ ["self", "place"] (f 12000) (fd 12000)
  d_NoSuch___init__ : MthOk K "__init__" "NoSuch.__init__" s_NoSuch___init__ ["self", "number"] (f 13000) (fd 13000)
  d_NoField___init__ : MthOk K "__init__" "NoField.__init__" s_NoField___init__ ["self", "name"] (f 14000) (fd 14000)
  d_NoKind___init__ : MthOk K "__init__" "NoKind.__init__" s_NoKind___init__ ["self", "name"] (f 15000) (fd 15000)
  d_Sheet___init__ : MthOk K "__init__" "Sheet.__init__" s_Sheet___init__ ["self", "fields"] (f 37000) (fd 37000)
  d_Sheet_put : MthOk K "put" "Sheet.put" s_Sheet_put ["self", "row"] (f 37002) (fd 37002)
  d_Sheet_row : MthOk K "row" "Sheet.row" s_Sheet_row ["self", "number"] (f 37005) (fd 37005)
  d_Sheet_numbers : MthOk K "numbers" "Sheet.numbers" s_Sheet_numbers ["self"] (f 37006) (fd 37006)
  d_Reading___init__ : MthOk K "__init__" "Reading.__init__" s_Reading___init__ ["self", "text"] (f 48000) (fd 48000)
  d_Reading_takes : MthOk K "takes" "Reading.takes" s_Reading_takes ["self", "signs"] (f 48001) (fd 48001)
  d_Reading_run_of : MthOk K "run_of" "Reading.run_of" s_Reading_run_of ["self", "signs"] (f 48002) (fd 48002)
  d_Reading_one_sieve : MthOk K "one_sieve" "Reading.one_sieve" s_Reading_one_sieve ["self", "level"] (f 48003) (fd 48003)
  d_Reading_plain_sieve : MthOk K "plain_sieve" "Reading.plain_sieve" s_Reading_plain_sieve ["self"] (f 48005) (fd 48005)
  x_NoNet : ExcM mg "NoNet" (f 7)
  x_NoWhole : ExcM mg "NoWhole" (f 8)
  x_NoGroups : ExcM mg "NoGroups" (f 9)
  x_NoLine : ExcM mg "NoLine" (f 10)
  x_NoVeil : ExcM mg "NoVeil" (f 15)
  x_CrossError : ExcOk K mg "CrossError" (f 2) none
  x_NoFields : ExcOk K mg "NoFields" (f 3) none
  x_NoSieve : ExcOk K mg "NoSieve" (f 4) none
  x_NoView : ExcOk K mg "NoView" (f 5) none
  x_NoHead : ExcOk K mg "NoHead" (f 6) none
  x_NoRow : ExcOk K mg "NoRow" (f 11) (some (.ref (f 12000)))
  x_NoSuch : ExcOk K mg "NoSuch" (f 12) (some (.ref (f 13000)))
  x_NoField : ExcOk K mg "NoField" (f 13) (some (.ref (f 14000)))
  x_NoKind : ExcOk K mg "NoKind" (f 14) (some (.ref (f 15000)))
  o_Sheet : OwnOk K mg "Sheet" (f 36) (f 37000)
  m_Sheet_put : Meth K (f 36) "put" (f 37002)
  m_Sheet_row : Meth K (f 36) "row" (f 37005)
  m_Sheet_numbers : Meth K (f 36) "numbers" (f 37006)
  o_Reading : OwnOk K mg "Reading" (f 47) (f 48000)
  m_Reading_takes : Meth K (f 47) "takes" (f 48001)
  m_Reading_run_of : Meth K (f 47) "run_of" (f 48002)
  m_Reading_one_sieve : Meth K (f 47) "one_sieve" (f 48003)
  m_Reading_plain_sieve : Meth K (f 47) "plain_sieve" (f 48005)
  na_NoRow_place : PySem.W.findIn K (.ref (f 11)) "place" = some none
  na_NoSuch_number : PySem.W.findIn K (.ref (f 12)) "number" = some none
  na_NoField_name : PySem.W.findIn K (.ref (f 13)) "name" = some none
  na_NoKind_name : PySem.W.findIn K (.ref (f 14)) "name" = some none
  na_Sheet_given : PySem.W.findIn K (.ref (f 36)) "given" = some none
  na_Sheet_kept_fields : PySem.W.findIn K (.ref (f 36)) "kept_fields" = some none
  na_Sheet_kept_rows : PySem.W.findIn K (.ref (f 36)) "kept_rows" = some none
  na_Reading_at : PySem.W.findIn K (.ref (f 47)) "at" = some none
  na_Reading_begun : PySem.W.findIn K (.ref (f 47)) "begun" = some none
  na_Reading_text : PySem.W.findIn K (.ref (f 47)) "text" = some none
  su_NoField_CrossError : subB K (f 13) (f 2) = true
  ki_NoField_CrossError : PySem.W.kitOne K (.ref (f 13)) (.ref (f 2)) = some true
  ki_NoField_NoFields : PySem.W.kitOne K (.ref (f 13)) (.ref (f 3)) = some false
  ki_NoField_NoSieve : PySem.W.kitOne K (.ref (f 13)) (.ref (f 4)) = some false
  ki_NoField_NoView : PySem.W.kitOne K (.ref (f 13)) (.ref (f 5)) = some false
  ki_NoField_NoHead : PySem.W.kitOne K (.ref (f 13)) (.ref (f 6)) = some false
  ki_NoField_NoNet : PySem.W.kitOne K (.ref (f 13)) (.ref (f 7)) = some false
  ki_NoField_NoWhole : PySem.W.kitOne K (.ref (f 13)) (.ref (f 8)) = some false
  ki_NoField_NoGroups : PySem.W.kitOne K (.ref (f 13)) (.ref (f 9)) = some false
  ki_NoField_NoLine : PySem.W.kitOne K (.ref (f 13)) (.ref (f 10)) = some false
  ki_NoField_NoRow : PySem.W.kitOne K (.ref (f 13)) (.ref (f 11)) = some false
  ki_NoField_NoSuch : PySem.W.kitOne K (.ref (f 13)) (.ref (f 12)) = some false
  ki_NoField_NoField : PySem.W.kitOne K (.ref (f 13)) (.ref (f 13)) = some true
  ki_NoField_NoKind : PySem.W.kitOne K (.ref (f 13)) (.ref (f 14)) = some false
  ki_NoField_NoVeil : PySem.W.kitOne K (.ref (f 13)) (.ref (f 15)) = some false
  kv_NoField : PySem.W.kitOne K (.ref (f 13)) (.type "ValueError") = some true
  su_NoFields_CrossError : subB K (f 3) (f 2) = true
  ki_NoFields_CrossError : PySem.W.kitOne K (.ref (f 3)) (.ref (f 2)) = some true
  ki_NoFields_NoFields : PySem.W.kitOne K (.ref (f 3)) (.ref (f 3)) = some true
  ki_NoFields_NoSieve : PySem.W.kitOne K (.ref (f 3)) (.ref (f 4)) = some false
  ki_NoFields_NoView : PySem.W.kitOne K (.ref (f 3)) (.ref (f 5)) = some false
  ki_NoFields_NoHead : PySem.W.kitOne K (.ref (f 3)) (.ref (f 6)) = some false
  ki_NoFields_NoNet : PySem.W.kitOne K (.ref (f 3)) (.ref (f 7)) = some false
  ki_NoFields_NoWhole : PySem.W.kitOne K (.ref (f 3)) (.ref (f 8)) = some false
  ki_NoFields_NoGroups : PySem.W.kitOne K (.ref (f 3)) (.ref (f 9)) = some false
  ki_NoFields_NoLine : PySem.W.kitOne K (.ref (f 3)) (.ref (f 10)) = some false
  ki_NoFields_NoRow : PySem.W.kitOne K (.ref (f 3)) (.ref (f 11)) = some false
  ki_NoFields_NoSuch : PySem.W.kitOne K (.ref (f 3)) (.ref (f 12)) = some false
  ki_NoFields_NoField : PySem.W.kitOne K (.ref (f 3)) (.ref (f 13)) = some false
  ki_NoFields_NoKind : PySem.W.kitOne K (.ref (f 3)) (.ref (f 14)) = some false
  ki_NoFields_NoVeil : PySem.W.kitOne K (.ref (f 3)) (.ref (f 15)) = some false
  kv_NoFields : PySem.W.kitOne K (.ref (f 3)) (.type "ValueError") = some true
  su_NoHead_CrossError : subB K (f 6) (f 2) = true
  ki_NoHead_CrossError : PySem.W.kitOne K (.ref (f 6)) (.ref (f 2)) = some true
  ki_NoHead_NoFields : PySem.W.kitOne K (.ref (f 6)) (.ref (f 3)) = some false
  ki_NoHead_NoSieve : PySem.W.kitOne K (.ref (f 6)) (.ref (f 4)) = some false
  ki_NoHead_NoView : PySem.W.kitOne K (.ref (f 6)) (.ref (f 5)) = some false
  ki_NoHead_NoHead : PySem.W.kitOne K (.ref (f 6)) (.ref (f 6)) = some true
  ki_NoHead_NoNet : PySem.W.kitOne K (.ref (f 6)) (.ref (f 7)) = some false
  ki_NoHead_NoWhole : PySem.W.kitOne K (.ref (f 6)) (.ref (f 8)) = some false
  ki_NoHead_NoGroups : PySem.W.kitOne K (.ref (f 6)) (.ref (f 9)) = some false
  ki_NoHead_NoLine : PySem.W.kitOne K (.ref (f 6)) (.ref (f 10)) = some false
  ki_NoHead_NoRow : PySem.W.kitOne K (.ref (f 6)) (.ref (f 11)) = some false
  ki_NoHead_NoSuch : PySem.W.kitOne K (.ref (f 6)) (.ref (f 12)) = some false
  ki_NoHead_NoField : PySem.W.kitOne K (.ref (f 6)) (.ref (f 13)) = some false
  ki_NoHead_NoKind : PySem.W.kitOne K (.ref (f 6)) (.ref (f 14)) = some false
  ki_NoHead_NoVeil : PySem.W.kitOne K (.ref (f 6)) (.ref (f 15)) = some false
  kv_NoHead : PySem.W.kitOne K (.ref (f 6)) (.type "ValueError") = some true
  su_NoKind_CrossError : subB K (f 14) (f 2) = true
  ki_NoKind_CrossError : PySem.W.kitOne K (.ref (f 14)) (.ref (f 2)) = some true
  ki_NoKind_NoFields : PySem.W.kitOne K (.ref (f 14)) (.ref (f 3)) = some false
  ki_NoKind_NoSieve : PySem.W.kitOne K (.ref (f 14)) (.ref (f 4)) = some false
  ki_NoKind_NoView : PySem.W.kitOne K (.ref (f 14)) (.ref (f 5)) = some false
  ki_NoKind_NoHead : PySem.W.kitOne K (.ref (f 14)) (.ref (f 6)) = some false
  ki_NoKind_NoNet : PySem.W.kitOne K (.ref (f 14)) (.ref (f 7)) = some false
  ki_NoKind_NoWhole : PySem.W.kitOne K (.ref (f 14)) (.ref (f 8)) = some false
  ki_NoKind_NoGroups : PySem.W.kitOne K (.ref (f 14)) (.ref (f 9)) = some false
  ki_NoKind_NoLine : PySem.W.kitOne K (.ref (f 14)) (.ref (f 10)) = some false
  ki_NoKind_NoRow : PySem.W.kitOne K (.ref (f 14)) (.ref (f 11)) = some false
  ki_NoKind_NoSuch : PySem.W.kitOne K (.ref (f 14)) (.ref (f 12)) = some false
  ki_NoKind_NoField : PySem.W.kitOne K (.ref (f 14)) (.ref (f 13)) = some false
  ki_NoKind_NoKind : PySem.W.kitOne K (.ref (f 14)) (.ref (f 14)) = some true
  ki_NoKind_NoVeil : PySem.W.kitOne K (.ref (f 14)) (.ref (f 15)) = some false
  kv_NoKind : PySem.W.kitOne K (.ref (f 14)) (.type "ValueError") = some true
  su_NoRow_CrossError : subB K (f 11) (f 2) = true
  ki_NoRow_CrossError : PySem.W.kitOne K (.ref (f 11)) (.ref (f 2)) = some true
  ki_NoRow_NoFields : PySem.W.kitOne K (.ref (f 11)) (.ref (f 3)) = some false
  ki_NoRow_NoSieve : PySem.W.kitOne K (.ref (f 11)) (.ref (f 4)) = some false
  ki_NoRow_NoView : PySem.W.kitOne K (.ref (f 11)) (.ref (f 5)) = some false
  ki_NoRow_NoHead : PySem.W.kitOne K (.ref (f 11)) (.ref (f 6)) = some false
  ki_NoRow_NoNet : PySem.W.kitOne K (.ref (f 11)) (.ref (f 7)) = some false
  ki_NoRow_NoWhole : PySem.W.kitOne K (.ref (f 11)) (.ref (f 8)) = some false
  ki_NoRow_NoGroups : PySem.W.kitOne K (.ref (f 11)) (.ref (f 9)) = some false
  ki_NoRow_NoLine : PySem.W.kitOne K (.ref (f 11)) (.ref (f 10)) = some false
  ki_NoRow_NoRow : PySem.W.kitOne K (.ref (f 11)) (.ref (f 11)) = some true
  ki_NoRow_NoSuch : PySem.W.kitOne K (.ref (f 11)) (.ref (f 12)) = some false
  ki_NoRow_NoField : PySem.W.kitOne K (.ref (f 11)) (.ref (f 13)) = some false
  ki_NoRow_NoKind : PySem.W.kitOne K (.ref (f 11)) (.ref (f 14)) = some false
  ki_NoRow_NoVeil : PySem.W.kitOne K (.ref (f 11)) (.ref (f 15)) = some false
  kv_NoRow : PySem.W.kitOne K (.ref (f 11)) (.type "ValueError") = some true
  su_NoSieve_CrossError : subB K (f 4) (f 2) = true
  ki_NoSieve_CrossError : PySem.W.kitOne K (.ref (f 4)) (.ref (f 2)) = some true
  ki_NoSieve_NoFields : PySem.W.kitOne K (.ref (f 4)) (.ref (f 3)) = some false
  ki_NoSieve_NoSieve : PySem.W.kitOne K (.ref (f 4)) (.ref (f 4)) = some true
  ki_NoSieve_NoView : PySem.W.kitOne K (.ref (f 4)) (.ref (f 5)) = some false
  ki_NoSieve_NoHead : PySem.W.kitOne K (.ref (f 4)) (.ref (f 6)) = some false
  ki_NoSieve_NoNet : PySem.W.kitOne K (.ref (f 4)) (.ref (f 7)) = some false
  ki_NoSieve_NoWhole : PySem.W.kitOne K (.ref (f 4)) (.ref (f 8)) = some false
  ki_NoSieve_NoGroups : PySem.W.kitOne K (.ref (f 4)) (.ref (f 9)) = some false
  ki_NoSieve_NoLine : PySem.W.kitOne K (.ref (f 4)) (.ref (f 10)) = some false
  ki_NoSieve_NoRow : PySem.W.kitOne K (.ref (f 4)) (.ref (f 11)) = some false
  ki_NoSieve_NoSuch : PySem.W.kitOne K (.ref (f 4)) (.ref (f 12)) = some false
  ki_NoSieve_NoField : PySem.W.kitOne K (.ref (f 4)) (.ref (f 13)) = some false
  ki_NoSieve_NoKind : PySem.W.kitOne K (.ref (f 4)) (.ref (f 14)) = some false
  ki_NoSieve_NoVeil : PySem.W.kitOne K (.ref (f 4)) (.ref (f 15)) = some false
  kv_NoSieve : PySem.W.kitOne K (.ref (f 4)) (.type "ValueError") = some true
  su_NoSuch_CrossError : subB K (f 12) (f 2) = true
  ki_NoSuch_CrossError : PySem.W.kitOne K (.ref (f 12)) (.ref (f 2)) = some true
  ki_NoSuch_NoFields : PySem.W.kitOne K (.ref (f 12)) (.ref (f 3)) = some false
  ki_NoSuch_NoSieve : PySem.W.kitOne K (.ref (f 12)) (.ref (f 4)) = some false
  ki_NoSuch_NoView : PySem.W.kitOne K (.ref (f 12)) (.ref (f 5)) = some false
  ki_NoSuch_NoHead : PySem.W.kitOne K (.ref (f 12)) (.ref (f 6)) = some false
  ki_NoSuch_NoNet : PySem.W.kitOne K (.ref (f 12)) (.ref (f 7)) = some false
  ki_NoSuch_NoWhole : PySem.W.kitOne K (.ref (f 12)) (.ref (f 8)) = some false
  ki_NoSuch_NoGroups : PySem.W.kitOne K (.ref (f 12)) (.ref (f 9)) = some false
  ki_NoSuch_NoLine : PySem.W.kitOne K (.ref (f 12)) (.ref (f 10)) = some false
  ki_NoSuch_NoRow : PySem.W.kitOne K (.ref (f 12)) (.ref (f 11)) = some false
  ki_NoSuch_NoSuch : PySem.W.kitOne K (.ref (f 12)) (.ref (f 12)) = some true
  ki_NoSuch_NoField : PySem.W.kitOne K (.ref (f 12)) (.ref (f 13)) = some false
  ki_NoSuch_NoKind : PySem.W.kitOne K (.ref (f 12)) (.ref (f 14)) = some false
  ki_NoSuch_NoVeil : PySem.W.kitOne K (.ref (f 12)) (.ref (f 15)) = some false
  kv_NoSuch : PySem.W.kitOne K (.ref (f 12)) (.type "ValueError") = some true
  su_NoView_CrossError : subB K (f 5) (f 2) = true
  ki_NoView_CrossError : PySem.W.kitOne K (.ref (f 5)) (.ref (f 2)) = some true
  ki_NoView_NoFields : PySem.W.kitOne K (.ref (f 5)) (.ref (f 3)) = some false
  ki_NoView_NoSieve : PySem.W.kitOne K (.ref (f 5)) (.ref (f 4)) = some false
  ki_NoView_NoView : PySem.W.kitOne K (.ref (f 5)) (.ref (f 5)) = some true
  ki_NoView_NoHead : PySem.W.kitOne K (.ref (f 5)) (.ref (f 6)) = some false
  ki_NoView_NoNet : PySem.W.kitOne K (.ref (f 5)) (.ref (f 7)) = some false
  ki_NoView_NoWhole : PySem.W.kitOne K (.ref (f 5)) (.ref (f 8)) = some false
  ki_NoView_NoGroups : PySem.W.kitOne K (.ref (f 5)) (.ref (f 9)) = some false
  ki_NoView_NoLine : PySem.W.kitOne K (.ref (f 5)) (.ref (f 10)) = some false
  ki_NoView_NoRow : PySem.W.kitOne K (.ref (f 5)) (.ref (f 11)) = some false
  ki_NoView_NoSuch : PySem.W.kitOne K (.ref (f 5)) (.ref (f 12)) = some false
  ki_NoView_NoField : PySem.W.kitOne K (.ref (f 5)) (.ref (f 13)) = some false
  ki_NoView_NoKind : PySem.W.kitOne K (.ref (f 5)) (.ref (f 14)) = some false
  ki_NoView_NoVeil : PySem.W.kitOne K (.ref (f 5)) (.ref (f 15)) = some false
  kv_NoView : PySem.W.kitOne K (.ref (f 5)) (.type "ValueError") = some true
  n_ValueError : mg "ValueError" = none
  n_abs : mg "abs" = none
  n_all : mg "all" = none
  n_bool : mg "bool" = none
  n_enumerate : mg "enumerate" = none
  n_int : mg "int" = none
  n_isinstance : mg "isinstance" = none
  n_len : mg "len" = none
  n_list : mg "list" = none
  n_min : mg "min" = none
  n_range : mg "range" = none
  n_set : mg "set" = none
  n_sorted : mg "sorted" = none
  n_str : mg "str" = none
  n_tuple : mg "tuple" = none
  n_zip : mg "zip" = none
  g_LETTERS : ∃ tk, mg "LETTERS" = some (.str "abcdefghijklmnopqrstuvwxyz" tk)
  g_FIGURES : ∃ tk, mg "FIGURES" = some (.str "0123456789" tk)
  g_MOST_SIGNS : ∃ tk, mg "MOST_SIGNS" = some (.int (12) tk)
  g_KINDS : mg "KINDS" = some (.ref (f 30))
  t_KINDS : ∀ H, SqT K H (f 30) [.str "word", .str "number"]
  g_MOST_FIELDS : ∃ tk, mg "MOST_FIELDS" = some (.int (8) tk)
  g_MOST_LEVELS : ∃ tk, mg "MOST_LEVELS" = some (.int (12) tk)
  g_MOST_SIEVES : ∃ tk, mg "MOST_SIEVES" = some (.int (60) tk)
  g_JOINTS : mg "JOINTS" = some (.ref (f 45))
  c_JOINTS : ConD w K (f 45) [("all", "&"), ("some", "|")]
  g_NAMED_FORMS : mg "NAMED_FORMS" = some (.ref (f 52))
  t_NAMED_FORMS : ∀ H, SqT K H (f 52) [.str "sum", .str "greatest", .str "least", .str "unlike"]
  g_MOST_NAMES : ∃ tk, mg "MOST_NAMES" = some (.int (3) tk)
  g_MOST_FIGURES_heads : ∃ tk, mg "MOST_FIGURES_heads" = some (.int (4) tk)
theorem len0 {α : Type} {C : List α → Prop} (h : C []) (us : List α) (e : us.length = 0) : C us := (List.length_eq_zero_iff.mp e) ▸ h
theorem lenS {α : Type} {n : Nat} {C : List α → Prop} (h : ∀ (a : α) (us : List α), us.length = n → C (a :: us)) (us : List α) (e : us.length = n + 1) : C us := by
  cases us with
  | nil => cases e
  | cons a r => exact h a r (Nat.succ.inj e)
theorem lenB1 {fd : FuncData} {ps : List Str} (h : ∀ a : Value, bindArgs fd ⟨[a], []⟩ = pure (ps.zip [a])) (us : List Value) (e : us.length = 1) : bindArgs fd ⟨us, []⟩ = pure (ps.zip us) := by
  revert us
  exact lenS fun a => len0 (h a)
theorem lenB2 {fd : FuncData} {ps : List Str} (h : ∀ a b : Value, bindArgs fd ⟨[a, b], []⟩ = pure (ps.zip [a, b])) (us : List Value) (e : us.length = 2) : bindArgs fd ⟨us, []⟩ = pure (ps.zip us) := by
  revert us
  exact lenS fun a => lenS fun b => len0 (h a b)
theorem lenB3 {fd : FuncData} {ps : List Str} (h : ∀ a b c : Value, bindArgs fd ⟨[a, b, c], []⟩ = pure (ps.zip [a, b, c])) (us : List Value) (e : us.length = 3) : bindArgs fd ⟨us, []⟩ = pure (ps.zip us) := by
  revert us
  exact lenS fun a => lenS fun b => lenS fun c => len0 (h a b c)
theorem lenB4 {fd : FuncData} {ps : List Str} (h : ∀ a b c d : Value, bindArgs fd ⟨[a, b, c, d], []⟩ = pure (ps.zip [a, b, c, d])) (us : List Value) (e : us.length = 4) : bindArgs fd ⟨us, []⟩ = pure (ps.zip us) := by
  revert us
  exact lenS fun a => lenS fun b => lenS fun c => lenS fun d => len0 (h a b c d)
theorem lenB5 {fd : FuncData} {ps : List Str} (h : ∀ a b c d e : Value, bindArgs fd ⟨[a, b, c, d, e], []⟩ = pure (ps.zip [a, b, c, d, e])) (us : List Value) (e : us.length = 5) : bindArgs fd ⟨us, []⟩ = pure (ps.zip us) := by
  revert us
  exact lenS fun a => lenS fun b => lenS fun c => lenS fun d => lenS fun e => len0 (h a b c d e)
theorem txt_mk {w : World} {K : PySem.W.Frag} {h : Heap} {mg : Str → Option Value} (X : K.In h) (G : h.Ns mainGlobals mg)
    {f21 : Addr} {od21 an21 : Option Addr} {sl21 : Array (Option Value)} {oc21 kV21 dc21 pm21 cd21 ct21 : Value}
    {f22 : Addr} {od22 an22 : Option Addr} {sl22 : Array (Option Value)} {oc22 kV22 dc22 pm22 cd22 ct22 : Value}
    {f23 : Addr} {od23 an23 : Option Addr} {sl23 : Array (Option Value)} {oc23 kV23 dc23 pm23 cd23 ct23 : Value}
    {f24 : Addr} {od24 an24 : Option Addr} {sl24 : Array (Option Value)} {oc24 kV24 dc24 pm24 cd24 ct24 : Value}
    {f25 : Addr} {od25 an25 : Option Addr} {sl25 : Array (Option Value)} {oc25 kV25 dc25 pm25 cd25 ct25 : Value}
    {f26 : Addr} {od26 an26 : Option Addr} {sl26 : Array (Option Value)} {oc26 kV26 dc26 pm26 cd26 ct26 : Value}
    {f32 : Addr} {od32 an32 : Option Addr} {sl32 : Array (Option Value)} {oc32 kV32 dc32 pm32 cd32 ct32 : Value}
    {f33 : Addr} {od33 an33 : Option Addr} {sl33 : Array (Option Value)} {oc33 kV33 dc33 pm33 cd33 ct33 : Value}
    {f34 : Addr} {od34 an34 : Option Addr} {sl34 : Array (Option Value)} {oc34 kV34 dc34 pm34 cd34 ct34 : Value}
    {f35 : Addr} {od35 an35 : Option Addr} {sl35 : Array (Option Value)} {oc35 kV35 dc35 pm35 cd35 ct35 : Value}
    {f38 : Addr} {od38 an38 : Option Addr} {sl38 : Array (Option Value)} {oc38 kV38 dc38 pm38 cd38 ct38 : Value}
    {f39 : Addr} {od39 an39 : Option Addr} {sl39 : Array (Option Value)} {oc39 kV39 dc39 pm39 cd39 ct39 : Value}
    {f40 : Addr} {od40 an40 : Option Addr} {sl40 : Array (Option Value)} {oc40 kV40 dc40 pm40 cd40 ct40 : Value}
    {f50 : Addr} {od50 an50 : Option Addr} {sl50 : Array (Option Value)} {oc50 kV50 dc50 pm50 cd50 ct50 : Value}
    {f53 : Addr} {od53 an53 : Option Addr} {sl53 : Array (Option Value)} {oc53 kV53 dc53 pm53 cd53 ct53 : Value}
    {f54 : Addr} {od54 an54 : Option Addr} {sl54 : Array (Option Value)} {oc54 kV54 dc54 pm54 cd54 ct54 : Value}
    {f58 : Addr} {od58 an58 : Option Addr} {sl58 : Array (Option Value)} {oc58 kV58 dc58 pm58 cd58 ct58 : Value}
    {f59 : Addr} {od59 an59 : Option Addr} {sl59 : Array (Option Value)} {oc59 kV59 dc59 pm59 cd59 ct59 : Value}
    {f60 : Addr} {od60 an60 : Option Addr} {sl60 : Array (Option Value)} {oc60 kV60 dc60 pm60 cd60 ct60 : Value}
    {f61 : Addr} {od61 an61 : Option Addr} {sl61 : Array (Option Value)} {oc61 kV61 dc61 pm61 cd61 ct61 : Value}
    {f62 : Addr} {od62 an62 : Option Addr} {sl62 : Array (Option Value)} {oc62 kV62 dc62 pm62 cd62 ct62 : Value}
    {f64 : Addr} {od64 an64 : Option Addr} {sl64 : Array (Option Value)} {oc64 kV64 dc64 pm64 cd64 ct64 : Value}
    {f65 : Addr} {od65 an65 : Option Addr} {sl65 : Array (Option Value)} {oc65 kV65 dc65 pm65 cd65 ct65 : Value}
    {f66 : Addr} {od66 an66 : Option Addr} {sl66 : Array (Option Value)} {oc66 kV66 dc66 pm66 cd66 ct66 : Value}
    {f67 : Addr} {od67 an67 : Option Addr} {sl67 : Array (Option Value)} {oc67 kV67 dc67 pm67 cd67 ct67 : Value}
    {f68 : Addr} {od68 an68 : Option Addr} {sl68 : Array (Option Value)} {oc68 kV68 dc68 pm68 cd68 ct68 : Value}
    {f12000 : Addr} {od12000 an12000 : Option Addr} {sl12000 : Array (Option Value)} {oc12000 kV12000 dc12000 pm12000 cd12000 ct12000 : Value}
    {f13000 : Addr} {od13000 an13000 : Option Addr} {sl13000 : Array (Option Value)} {oc13000 kV13000 dc13000 pm13000 cd13000 ct13000 : Value}
    {f14000 : Addr} {od14000 an14000 : Option Addr} {sl14000 : Array (Option Value)} {oc14000 kV14000 dc14000 pm14000 cd14000 ct14000 : Value}
    {f15000 : Addr} {od15000 an15000 : Option Addr} {sl15000 : Array (Option Value)} {oc15000 kV15000 dc15000 pm15000 cd15000 ct15000 : Value}
    {f37000 : Addr} {od37000 an37000 : Option Addr} {sl37000 : Array (Option Value)} {oc37000 kV37000 dc37000 pm37000 cd37000 ct37000 : Value}
    {f37002 : Addr} {od37002 an37002 : Option Addr} {sl37002 : Array (Option Value)} {oc37002 kV37002 dc37002 pm37002 cd37002 ct37002 : Value}
    {f37005 : Addr} {od37005 an37005 : Option Addr} {sl37005 : Array (Option Value)} {oc37005 kV37005 dc37005 pm37005 cd37005 ct37005 : Value}
    {f37006 : Addr} {od37006 an37006 : Option Addr} {sl37006 : Array (Option Value)} {oc37006 kV37006 dc37006 pm37006 cd37006 ct37006 : Value}
    {f48000 : Addr} {od48000 an48000 : Option Addr} {sl48000 : Array (Option Value)} {oc48000 kV48000 dc48000 pm48000 cd48000 ct48000 : Value}
    {f48001 : Addr} {od48001 an48001 : Option Addr} {sl48001 : Array (Option Value)} {oc48001 kV48001 dc48001 pm48001 cd48001 ct48001 : Value}
    {f48002 : Addr} {od48002 an48002 : Option Addr} {sl48002 : Array (Option Value)} {oc48002 kV48002 dc48002 pm48002 cd48002 ct48002 : Value}
    {f48003 : Addr} {od48003 an48003 : Option Addr} {sl48003 : Array (Option Value)} {oc48003 kV48003 dc48003 pm48003 cd48003 ct48003 : Value}
    {f48005 : Addr} {od48005 an48005 : Option Addr} {sl48005 : Array (Option Value)} {oc48005 kV48005 dc48005 pm48005 cd48005 ct48005 : Value}
    {f2 : Addr}
    {f3 : Addr}
    {f4 : Addr}
    {f5 : Addr}
    {f6 : Addr}
    {f7 : Addr}
    {f8 : Addr}
    {f9 : Addr}
    {f10 : Addr}
    {f11 : Addr}
    {f12 : Addr}
    {f13 : Addr}
    {f14 : Addr}
    {f15 : Addr}
    {f36 : Addr}
    {f47 : Addr}
    (a2 : PySem.W.nsIn K mainGlobals "CrossError" = some (some (.ref f2)))
    (a3 : PySem.W.nsIn K mainGlobals "NoFields" = some (some (.ref f3)))
    (a4 : PySem.W.nsIn K mainGlobals "NoSieve" = some (some (.ref f4)))
    (a5 : PySem.W.nsIn K mainGlobals "NoView" = some (some (.ref f5)))
    (a6 : PySem.W.nsIn K mainGlobals "NoHead" = some (some (.ref f6)))
    (a7 : PySem.W.nsIn K mainGlobals "NoNet" = some (some (.ref f7)))
    (a8 : PySem.W.nsIn K mainGlobals "NoWhole" = some (some (.ref f8)))
    (a9 : PySem.W.nsIn K mainGlobals "NoGroups" = some (some (.ref f9)))
    (a10 : PySem.W.nsIn K mainGlobals "NoLine" = some (some (.ref f10)))
    (a11 : PySem.W.nsIn K mainGlobals "NoRow" = some (some (.ref f11)))
    (a12 : PySem.W.nsIn K mainGlobals "NoSuch" = some (some (.ref f12)))
    (a13 : PySem.W.nsIn K mainGlobals "NoField" = some (some (.ref f13)))
    (a14 : PySem.W.nsIn K mainGlobals "NoKind" = some (some (.ref f14)))
    (a15 : PySem.W.nsIn K mainGlobals "NoVeil" = some (some (.ref f15)))
    (a36 : PySem.W.nsIn K mainGlobals "Sheet" = some (some (.ref f36)))
    (a47 : PySem.W.nsIn K mainGlobals "Reading" = some (some (.ref f47)))
    (a21 : PySem.W.nsIn K mainGlobals "is_made_of" = some (some (.ref f21)))
    (l21 : K.lookup f21 = some ⟨oc21, od21, .func (PySem.W.fnOf "is_made_of" "is_made_of" (defArgs s_is_made_of) (defBody s_is_made_of) (defScope s_is_made_of) .none kV21 dc21 pm21 an21 cd21 ct21), sl21⟩) (c21 : PySem.W.codeIn K cd21 "is_made_of" = true) (k21 : PySem.W.keepIn K (.ref f21) = true)
    (a22 : PySem.W.nsIn K mainGlobals "is_short_text" = some (some (.ref f22)))
    (l22 : K.lookup f22 = some ⟨oc22, od22, .func (PySem.W.fnOf "is_short_text" "is_short_text" (defArgs s_is_short_text) (defBody s_is_short_text) (defScope s_is_short_text) .none kV22 dc22 pm22 an22 cd22 ct22), sl22⟩) (c22 : PySem.W.codeIn K cd22 "is_short_text" = true) (k22 : PySem.W.keepIn K (.ref f22) = true)
    (a23 : PySem.W.nsIn K mainGlobals "is_name" = some (some (.ref f23)))
    (l23 : K.lookup f23 = some ⟨oc23, od23, .func (PySem.W.fnOf "is_name" "is_name" (defArgs s_is_name) (defBody s_is_name) (defScope s_is_name) .none kV23 dc23 pm23 an23 cd23 ct23), sl23⟩) (c23 : PySem.W.codeIn K cd23 "is_name" = true) (k23 : PySem.W.keepIn K (.ref f23) = true)
    (a24 : PySem.W.nsIn K mainGlobals "is_word" = some (some (.ref f24)))
    (l24 : K.lookup f24 = some ⟨oc24, od24, .func (PySem.W.fnOf "is_word" "is_word" (defArgs s_is_word) (defBody s_is_word) (defScope s_is_word) .none kV24 dc24 pm24 an24 cd24 ct24), sl24⟩) (c24 : PySem.W.codeIn K cd24 "is_word" = true) (k24 : PySem.W.keepIn K (.ref f24) = true)
    (a25 : PySem.W.nsIn K mainGlobals "is_number" = some (some (.ref f25)))
    (l25 : K.lookup f25 = some ⟨oc25, od25, .func (PySem.W.fnOf "is_number" "is_number" (defArgs s_is_number) (defBody s_is_number) (defScope s_is_number) .none kV25 dc25 pm25 an25 cd25 ct25), sl25⟩) (c25 : PySem.W.codeIn K cd25 "is_number" = true) (k25 : PySem.W.keepIn K (.ref f25) = true)
    (a26 : PySem.W.nsIn K mainGlobals "is_value" = some (some (.ref f26)))
    (l26 : K.lookup f26 = some ⟨oc26, od26, .func (PySem.W.fnOf "is_value" "is_value" (defArgs s_is_value) (defBody s_is_value) (defScope s_is_value) .none kV26 dc26 pm26 an26 cd26 ct26), sl26⟩) (c26 : PySem.W.codeIn K cd26 "is_value" = true) (k26 : PySem.W.keepIn K (.ref f26) = true)
    (a32 : PySem.W.nsIn K mainGlobals "is_field" = some (some (.ref f32)))
    (l32 : K.lookup f32 = some ⟨oc32, od32, .func (PySem.W.fnOf "is_field" "is_field" (defArgs s_is_field) (defBody s_is_field) (defScope s_is_field) .none kV32 dc32 pm32 an32 cd32 ct32), sl32⟩) (c32 : PySem.W.codeIn K cd32 "is_field" = true) (k32 : PySem.W.keepIn K (.ref f32) = true)
    (a33 : PySem.W.nsIn K mainGlobals "asked_fields" = some (some (.ref f33)))
    (l33 : K.lookup f33 = some ⟨oc33, od33, .func (PySem.W.fnOf "asked_fields" "asked_fields" (defArgs s_asked_fields) (defBody s_asked_fields) (defScope s_asked_fields) .none kV33 dc33 pm33 an33 cd33 ct33), sl33⟩) (c33 : PySem.W.codeIn K cd33 "asked_fields" = true) (k33 : PySem.W.keepIn K (.ref f33) = true)
    (a34 : PySem.W.nsIn K mainGlobals "field_at" = some (some (.ref f34)))
    (l34 : K.lookup f34 = some ⟨oc34, od34, .func (PySem.W.fnOf "field_at" "field_at" (defArgs s_field_at) (defBody s_field_at) (defScope s_field_at) .none kV34 dc34 pm34 an34 cd34 ct34), sl34⟩) (c34 : PySem.W.codeIn K cd34 "field_at" = true) (k34 : PySem.W.keepIn K (.ref f34) = true)
    (a35 : PySem.W.nsIn K mainGlobals "asked_row" = some (some (.ref f35)))
    (l35 : K.lookup f35 = some ⟨oc35, od35, .func (PySem.W.fnOf "asked_row" "asked_row" (defArgs s_asked_row) (defBody s_asked_row) (defScope s_asked_row) .none kV35 dc35 pm35 an35 cd35 ct35), sl35⟩) (c35 : PySem.W.codeIn K cd35 "asked_row" = true) (k35 : PySem.W.keepIn K (.ref f35) = true)
    (a38 : PySem.W.nsIn K mainGlobals "is_of_kind" = some (some (.ref f38)))
    (l38 : K.lookup f38 = some ⟨oc38, od38, .func (PySem.W.fnOf "is_of_kind" "is_of_kind" (defArgs s_is_of_kind) (defBody s_is_of_kind) (defScope s_is_of_kind) .none kV38 dc38 pm38 an38 cd38 ct38), sl38⟩) (c38 : PySem.W.codeIn K cd38 "is_of_kind" = true) (k38 : PySem.W.keepIn K (.ref f38) = true)
    (a39 : PySem.W.nsIn K mainGlobals "asked_plain" = some (some (.ref f39)))
    (l39 : K.lookup f39 = some ⟨oc39, od39, .func (PySem.W.fnOf "asked_plain" "asked_plain" (defArgs s_asked_plain) (defBody s_asked_plain) (defScope s_asked_plain) .none kV39 dc39 pm39 an39 cd39 ct39), sl39⟩) (c39 : PySem.W.codeIn K cd39 "asked_plain" = true) (k39 : PySem.W.keepIn K (.ref f39) = true)
    (a40 : PySem.W.nsIn K mainGlobals "asked_sieve" = some (some (.ref f40)))
    (l40 : K.lookup f40 = some ⟨oc40, od40, .func (PySem.W.fnOf "asked_sieve" "asked_sieve" (defArgs s_asked_sieve) (defBody s_asked_sieve) (defScope s_asked_sieve) .none kV40 dc40 pm40 an40 cd40 ct40), sl40⟩) (c40 : PySem.W.codeIn K cd40 "asked_sieve" = true) (k40 : PySem.W.keepIn K (.ref f40) = true)
    (a50 : PySem.W.nsIn K mainGlobals "read_sieve" = some (some (.ref f50)))
    (l50 : K.lookup f50 = some ⟨oc50, od50, .func (PySem.W.fnOf "read_sieve" "read_sieve" (defArgs s_read_sieve) (defBody s_read_sieve) (defScope s_read_sieve) .none kV50 dc50 pm50 an50 cd50 ct50), sl50⟩) (c50 : PySem.W.codeIn K cd50 "read_sieve" = true) (k50 : PySem.W.keepIn K (.ref f50) = true)
    (a53 : PySem.W.nsIn K mainGlobals "is_figure" = some (some (.ref f53)))
    (l53 : K.lookup f53 = some ⟨oc53, od53, .func (PySem.W.fnOf "is_figure" "is_figure" (defArgs s_is_figure) (defBody s_is_figure) (defScope s_is_figure) .none kV53 dc53 pm53 an53 cd53 ct53), sl53⟩) (c53 : PySem.W.codeIn K cd53 "is_figure" = true) (k53 : PySem.W.keepIn K (.ref f53) = true)
    (a54 : PySem.W.nsIn K mainGlobals "asked_figure" = some (some (.ref f54)))
    (l54 : K.lookup f54 = some ⟨oc54, od54, .func (PySem.W.fnOf "asked_figure" "asked_figure" (defArgs s_asked_figure) (defBody s_asked_figure) (defScope s_asked_figure) .none kV54 dc54 pm54 an54 cd54 ct54), sl54⟩) (c54 : PySem.W.codeIn K cd54 "asked_figure" = true) (k54 : PySem.W.keepIn K (.ref f54) = true)
    (a58 : PySem.W.nsIn K mainGlobals "is_side" = some (some (.ref f58)))
    (l58 : K.lookup f58 = some ⟨oc58, od58, .func (PySem.W.fnOf "is_side" "is_side" (defArgs s_is_side) (defBody s_is_side) (defScope s_is_side) .none kV58 dc58 pm58 an58 cd58 ct58), sl58⟩) (c58 : PySem.W.codeIn K cd58 "is_side" = true) (k58 : PySem.W.keepIn K (.ref f58) = true)
    (a59 : PySem.W.nsIn K mainGlobals "is_figures" = some (some (.ref f59)))
    (l59 : K.lookup f59 = some ⟨oc59, od59, .func (PySem.W.fnOf "is_figures" "is_figures" (defArgs s_is_figures) (defBody s_is_figures) (defScope s_is_figures) .none kV59 dc59 pm59 an59 cd59 ct59), sl59⟩) (c59 : PySem.W.codeIn K cd59 "is_figures" = true) (k59 : PySem.W.keepIn K (.ref f59) = true)
    (a60 : PySem.W.nsIn K mainGlobals "asked_form" = some (some (.ref f60)))
    (l60 : K.lookup f60 = some ⟨oc60, od60, .func (PySem.W.fnOf "asked_form" "asked_form" (defArgs s_asked_form) (defBody s_asked_form) (defScope s_asked_form) .none kV60 dc60 pm60 an60 cd60 ct60), sl60⟩) (c60 : PySem.W.codeIn K cd60 "asked_form" = true) (k60 : PySem.W.keepIn K (.ref f60) = true)
    (a61 : PySem.W.nsIn K mainGlobals "asked_view" = some (some (.ref f61)))
    (l61 : K.lookup f61 = some ⟨oc61, od61, .func (PySem.W.fnOf "asked_view" "asked_view" (defArgs s_asked_view) (defBody s_asked_view) (defScope s_asked_view) .none kV61 dc61 pm61 an61 cd61 ct61), sl61⟩) (c61 : PySem.W.codeIn K cd61 "asked_view" = true) (k61 : PySem.W.keepIn K (.ref f61) = true)
    (a62 : PySem.W.nsIn K mainGlobals "asked_path" = some (some (.ref f62)))
    (l62 : K.lookup f62 = some ⟨oc62, od62, .func (PySem.W.fnOf "asked_path" "asked_path" (defArgs s_asked_path) (defBody s_asked_path) (defScope s_asked_path) .none kV62 dc62 pm62 an62 cd62 ct62), sl62⟩) (c62 : PySem.W.codeIn K cd62 "asked_path" = true) (k62 : PySem.W.keepIn K (.ref f62) = true)
    (a64 : PySem.W.nsIn K mainGlobals "_law_cell_at" = some (some (.ref f64)))
    (l64 : K.lookup f64 = some ⟨oc64, od64, .func (PySem.W.fnOf "_law_cell_at" "_law_cell_at" (defArgs s_l_cell_at) (defBody s_l_cell_at) (defScope s_l_cell_at) .none kV64 dc64 pm64 an64 cd64 ct64), sl64⟩) (c64 : PySem.W.codeIn K cd64 "_law_cell_at" = true) (k64 : PySem.W.keepIn K (.ref f64) = true)
    (a65 : PySem.W.nsIn K mainGlobals "_law_mix" = some (some (.ref f65)))
    (l65 : K.lookup f65 = some ⟨oc65, od65, .func (PySem.W.fnOf "_law_mix" "_law_mix" (defArgs s_l_mix) (defBody s_l_mix) (defScope s_l_mix) .none kV65 dc65 pm65 an65 cd65 ct65), sl65⟩) (c65 : PySem.W.codeIn K cd65 "_law_mix" = true) (k65 : PySem.W.keepIn K (.ref f65) = true)
    (a66 : PySem.W.nsIn K mainGlobals "_law_classes" = some (some (.ref f66)))
    (l66 : K.lookup f66 = some ⟨oc66, od66, .func (PySem.W.fnOf "_law_classes" "_law_classes" (defArgs s_l_classes) (defBody s_l_classes) (defScope s_l_classes) .none kV66 dc66 pm66 an66 cd66 ct66), sl66⟩) (c66 : PySem.W.codeIn K cd66 "_law_classes" = true) (k66 : PySem.W.keepIn K (.ref f66) = true)
    (a67 : PySem.W.nsIn K mainGlobals "_law_deed" = some (some (.ref f67)))
    (l67 : K.lookup f67 = some ⟨oc67, od67, .func (PySem.W.fnOf "_law_deed" "_law_deed" (defArgs s_l_deed) (defBody s_l_deed) (defScope s_l_deed) .none kV67 dc67 pm67 an67 cd67 ct67), sl67⟩) (c67 : PySem.W.codeIn K cd67 "_law_deed" = true) (k67 : PySem.W.keepIn K (.ref f67) = true)
    (a68 : PySem.W.nsIn K mainGlobals "law" = some (some (.ref f68)))
    (l68 : K.lookup f68 = some ⟨oc68, od68, .func (PySem.W.fnOf "law" "law" (defArgs s_law) (defBody s_law) (defScope s_law) .none kV68 dc68 pm68 an68 cd68 ct68), sl68⟩) (c68 : PySem.W.codeIn K cd68 "law" = true) (k68 : PySem.W.keepIn K (.ref f68) = true)
    (a12000 : PySem.W.findIn K (.ref f11) "__init__" = some (some (.ref f12000)))
    (l12000 : K.lookup f12000 = some ⟨oc12000, od12000, .func (PySem.W.fnOf "__init__" "NoRow.__init__" (defArgs s_NoRow___init__) (defBody s_NoRow___init__) (defScope s_NoRow___init__) .none kV12000 dc12000 pm12000 an12000 cd12000 ct12000), sl12000⟩) (c12000 : PySem.W.codeIn K cd12000 "NoRow.__init__" = true) (k12000 : PySem.W.keepIn K (.ref f12000) = true)
    (b12000 : PySem.W.isFn K (.ref f12000) = true)
    (a13000 : PySem.W.findIn K (.ref f12) "__init__" = some (some (.ref f13000)))
    (l13000 : K.lookup f13000 = some ⟨oc13000, od13000, .func (PySem.W.fnOf "__init__" "NoSuch.__init__" (defArgs s_NoSuch___init__) (defBody s_NoSuch___init__) (defScope s_NoSuch___init__) .none kV13000 dc13000 pm13000 an13000 cd13000 ct13000), sl13000⟩) (c13000 : PySem.W.codeIn K cd13000 "NoSuch.__init__" = true) (k13000 : PySem.W.keepIn K (.ref f13000) = true)
    (b13000 : PySem.W.isFn K (.ref f13000) = true)
    (a14000 : PySem.W.findIn K (.ref f13) "__init__" = some (some (.ref f14000)))
    (l14000 : K.lookup f14000 = some ⟨oc14000, od14000, .func (PySem.W.fnOf "__init__" "NoField.__init__" (defArgs s_NoField___init__) (defBody s_NoField___init__) (defScope s_NoField___init__) .none kV14000 dc14000 pm14000 an14000 cd14000 ct14000), sl14000⟩) (c14000 : PySem.W.codeIn K cd14000 "NoField.__init__" = true) (k14000 : PySem.W.keepIn K (.ref f14000) = true)
    (b14000 : PySem.W.isFn K (.ref f14000) = true)
    (a15000 : PySem.W.findIn K (.ref f14) "__init__" = some (some (.ref f15000)))
    (l15000 : K.lookup f15000 = some ⟨oc15000, od15000, .func (PySem.W.fnOf "__init__" "NoKind.__init__" (defArgs s_NoKind___init__) (defBody s_NoKind___init__) (defScope s_NoKind___init__) .none kV15000 dc15000 pm15000 an15000 cd15000 ct15000), sl15000⟩) (c15000 : PySem.W.codeIn K cd15000 "NoKind.__init__" = true) (k15000 : PySem.W.keepIn K (.ref f15000) = true)
    (b15000 : PySem.W.isFn K (.ref f15000) = true)
    (a37000 : PySem.W.findIn K (.ref f36) "__init__" = some (some (.ref f37000)))
    (l37000 : K.lookup f37000 = some ⟨oc37000, od37000, .func (PySem.W.fnOf "__init__" "Sheet.__init__" (defArgs s_Sheet___init__) (defBody s_Sheet___init__) (defScope s_Sheet___init__) .none kV37000 dc37000 pm37000 an37000 cd37000 ct37000), sl37000⟩) (c37000 : PySem.W.codeIn K cd37000 "Sheet.__init__" = true) (k37000 : PySem.W.keepIn K (.ref f37000) = true)
    (b37000 : PySem.W.isFn K (.ref f37000) = true)
    (a37002 : PySem.W.findIn K (.ref f36) "put" = some (some (.ref f37002)))
    (l37002 : K.lookup f37002 = some ⟨oc37002, od37002, .func (PySem.W.fnOf "put" "Sheet.put" (defArgs s_Sheet_put) (defBody s_Sheet_put) (defScope s_Sheet_put) .none kV37002 dc37002 pm37002 an37002 cd37002 ct37002), sl37002⟩) (c37002 : PySem.W.codeIn K cd37002 "Sheet.put" = true) (k37002 : PySem.W.keepIn K (.ref f37002) = true)
    (b37002 : PySem.W.isFn K (.ref f37002) = true)
    (a37005 : PySem.W.findIn K (.ref f36) "row" = some (some (.ref f37005)))
    (l37005 : K.lookup f37005 = some ⟨oc37005, od37005, .func (PySem.W.fnOf "row" "Sheet.row" (defArgs s_Sheet_row) (defBody s_Sheet_row) (defScope s_Sheet_row) .none kV37005 dc37005 pm37005 an37005 cd37005 ct37005), sl37005⟩) (c37005 : PySem.W.codeIn K cd37005 "Sheet.row" = true) (k37005 : PySem.W.keepIn K (.ref f37005) = true)
    (b37005 : PySem.W.isFn K (.ref f37005) = true)
    (a37006 : PySem.W.findIn K (.ref f36) "numbers" = some (some (.ref f37006)))
    (l37006 : K.lookup f37006 = some ⟨oc37006, od37006, .func (PySem.W.fnOf "numbers" "Sheet.numbers" (defArgs s_Sheet_numbers) (defBody s_Sheet_numbers) (defScope s_Sheet_numbers) .none kV37006 dc37006 pm37006 an37006 cd37006 ct37006), sl37006⟩) (c37006 : PySem.W.codeIn K cd37006 "Sheet.numbers" = true) (k37006 : PySem.W.keepIn K (.ref f37006) = true)
    (b37006 : PySem.W.isFn K (.ref f37006) = true)
    (a48000 : PySem.W.findIn K (.ref f47) "__init__" = some (some (.ref f48000)))
    (l48000 : K.lookup f48000 = some ⟨oc48000, od48000, .func (PySem.W.fnOf "__init__" "Reading.__init__" (defArgs s_Reading___init__) (defBody s_Reading___init__) (defScope s_Reading___init__) .none kV48000 dc48000 pm48000 an48000 cd48000 ct48000), sl48000⟩) (c48000 : PySem.W.codeIn K cd48000 "Reading.__init__" = true) (k48000 : PySem.W.keepIn K (.ref f48000) = true)
    (b48000 : PySem.W.isFn K (.ref f48000) = true)
    (a48001 : PySem.W.findIn K (.ref f47) "takes" = some (some (.ref f48001)))
    (l48001 : K.lookup f48001 = some ⟨oc48001, od48001, .func (PySem.W.fnOf "takes" "Reading.takes" (defArgs s_Reading_takes) (defBody s_Reading_takes) (defScope s_Reading_takes) .none kV48001 dc48001 pm48001 an48001 cd48001 ct48001), sl48001⟩) (c48001 : PySem.W.codeIn K cd48001 "Reading.takes" = true) (k48001 : PySem.W.keepIn K (.ref f48001) = true)
    (b48001 : PySem.W.isFn K (.ref f48001) = true)
    (a48002 : PySem.W.findIn K (.ref f47) "run_of" = some (some (.ref f48002)))
    (l48002 : K.lookup f48002 = some ⟨oc48002, od48002, .func (PySem.W.fnOf "run_of" "Reading.run_of" (defArgs s_Reading_run_of) (defBody s_Reading_run_of) (defScope s_Reading_run_of) .none kV48002 dc48002 pm48002 an48002 cd48002 ct48002), sl48002⟩) (c48002 : PySem.W.codeIn K cd48002 "Reading.run_of" = true) (k48002 : PySem.W.keepIn K (.ref f48002) = true)
    (b48002 : PySem.W.isFn K (.ref f48002) = true)
    (a48003 : PySem.W.findIn K (.ref f47) "one_sieve" = some (some (.ref f48003)))
    (l48003 : K.lookup f48003 = some ⟨oc48003, od48003, .func (PySem.W.fnOf "one_sieve" "Reading.one_sieve" (defArgs s_Reading_one_sieve) (defBody s_Reading_one_sieve) (defScope s_Reading_one_sieve) .none kV48003 dc48003 pm48003 an48003 cd48003 ct48003), sl48003⟩) (c48003 : PySem.W.codeIn K cd48003 "Reading.one_sieve" = true) (k48003 : PySem.W.keepIn K (.ref f48003) = true)
    (b48003 : PySem.W.isFn K (.ref f48003) = true)
    (a48005 : PySem.W.findIn K (.ref f47) "plain_sieve" = some (some (.ref f48005)))
    (l48005 : K.lookup f48005 = some ⟨oc48005, od48005, .func (PySem.W.fnOf "plain_sieve" "Reading.plain_sieve" (defArgs s_Reading_plain_sieve) (defBody s_Reading_plain_sieve) (defScope s_Reading_plain_sieve) .none kV48005 dc48005 pm48005 an48005 cd48005 ct48005), sl48005⟩) (c48005 : PySem.W.codeIn K cd48005 "Reading.plain_sieve" = true) (k48005 : PySem.W.keepIn K (.ref f48005) = true)
    (b48005 : PySem.W.isFn K (.ref f48005) = true)
    (x_CrossError_e : exB K f2 none = true)
    (x_CrossError_kp : PySem.W.keepIn K (.ref f2) = true)
    (x_CrossError_ga : PySem.W.findIn K (.ref f2) "__getattribute__" = some (some (.builtin "BaseException.__getattribute__")))
    (x_CrossError_gh : PySem.W.findIn K (.ref f2) "__getattr__" = some none)
    (x_CrossError_ba : PySem.W.mroIn K f2 (.type "BaseException") = some true)
    (x_CrossError_ob : PySem.W.mroIn K f2 (.type "object") = some true)
    (x_CrossError_hd : PySem.W.hasDictIn K f2 = true)
    (x_CrossError_cl : PySem.W.findIn K (.ref f2) "__class__" = some (some (.builtin "object.__class__")))
    (x_CrossError_cg : PySem.W.specialIn K (.builtin "object.__class__") "__get__" = some (some (.builtin "getset_descriptor.__get__")))
    (x_CrossError_ct : PySem.W.takesIn K (.builtin "object.__class__") = some true)
    (x_CrossError_sa : PySem.W.findIn K (.ref f2) "__setattr__" = some (some (.builtin "object.__setattr__")))
    (x_NoFields_e : exB K f3 none = true)
    (x_NoFields_kp : PySem.W.keepIn K (.ref f3) = true)
    (x_NoFields_ga : PySem.W.findIn K (.ref f3) "__getattribute__" = some (some (.builtin "BaseException.__getattribute__")))
    (x_NoFields_gh : PySem.W.findIn K (.ref f3) "__getattr__" = some none)
    (x_NoFields_ba : PySem.W.mroIn K f3 (.type "BaseException") = some true)
    (x_NoFields_ob : PySem.W.mroIn K f3 (.type "object") = some true)
    (x_NoFields_hd : PySem.W.hasDictIn K f3 = true)
    (x_NoFields_cl : PySem.W.findIn K (.ref f3) "__class__" = some (some (.builtin "object.__class__")))
    (x_NoFields_cg : PySem.W.specialIn K (.builtin "object.__class__") "__get__" = some (some (.builtin "getset_descriptor.__get__")))
    (x_NoFields_ct : PySem.W.takesIn K (.builtin "object.__class__") = some true)
    (x_NoFields_sa : PySem.W.findIn K (.ref f3) "__setattr__" = some (some (.builtin "object.__setattr__")))
    (x_NoSieve_e : exB K f4 none = true)
    (x_NoSieve_kp : PySem.W.keepIn K (.ref f4) = true)
    (x_NoSieve_ga : PySem.W.findIn K (.ref f4) "__getattribute__" = some (some (.builtin "BaseException.__getattribute__")))
    (x_NoSieve_gh : PySem.W.findIn K (.ref f4) "__getattr__" = some none)
    (x_NoSieve_ba : PySem.W.mroIn K f4 (.type "BaseException") = some true)
    (x_NoSieve_ob : PySem.W.mroIn K f4 (.type "object") = some true)
    (x_NoSieve_hd : PySem.W.hasDictIn K f4 = true)
    (x_NoSieve_cl : PySem.W.findIn K (.ref f4) "__class__" = some (some (.builtin "object.__class__")))
    (x_NoSieve_cg : PySem.W.specialIn K (.builtin "object.__class__") "__get__" = some (some (.builtin "getset_descriptor.__get__")))
    (x_NoSieve_ct : PySem.W.takesIn K (.builtin "object.__class__") = some true)
    (x_NoSieve_sa : PySem.W.findIn K (.ref f4) "__setattr__" = some (some (.builtin "object.__setattr__")))
    (x_NoView_e : exB K f5 none = true)
    (x_NoView_kp : PySem.W.keepIn K (.ref f5) = true)
    (x_NoView_ga : PySem.W.findIn K (.ref f5) "__getattribute__" = some (some (.builtin "BaseException.__getattribute__")))
    (x_NoView_gh : PySem.W.findIn K (.ref f5) "__getattr__" = some none)
    (x_NoView_ba : PySem.W.mroIn K f5 (.type "BaseException") = some true)
    (x_NoView_ob : PySem.W.mroIn K f5 (.type "object") = some true)
    (x_NoView_hd : PySem.W.hasDictIn K f5 = true)
    (x_NoView_cl : PySem.W.findIn K (.ref f5) "__class__" = some (some (.builtin "object.__class__")))
    (x_NoView_cg : PySem.W.specialIn K (.builtin "object.__class__") "__get__" = some (some (.builtin "getset_descriptor.__get__")))
    (x_NoView_ct : PySem.W.takesIn K (.builtin "object.__class__") = some true)
    (x_NoView_sa : PySem.W.findIn K (.ref f5) "__setattr__" = some (some (.builtin "object.__setattr__")))
    (x_NoHead_e : exB K f6 none = true)
    (x_NoHead_kp : PySem.W.keepIn K (.ref f6) = true)
    (x_NoHead_ga : PySem.W.findIn K (.ref f6) "__getattribute__" = some (some (.builtin "BaseException.__getattribute__")))
    (x_NoHead_gh : PySem.W.findIn K (.ref f6) "__getattr__" = some none)
    (x_NoHead_ba : PySem.W.mroIn K f6 (.type "BaseException") = some true)
    (x_NoHead_ob : PySem.W.mroIn K f6 (.type "object") = some true)
    (x_NoHead_hd : PySem.W.hasDictIn K f6 = true)
    (x_NoHead_cl : PySem.W.findIn K (.ref f6) "__class__" = some (some (.builtin "object.__class__")))
    (x_NoHead_cg : PySem.W.specialIn K (.builtin "object.__class__") "__get__" = some (some (.builtin "getset_descriptor.__get__")))
    (x_NoHead_ct : PySem.W.takesIn K (.builtin "object.__class__") = some true)
    (x_NoHead_sa : PySem.W.findIn K (.ref f6) "__setattr__" = some (some (.builtin "object.__setattr__")))
    (x_NoRow_e : exB K f11 (some (.ref f12000)) = true)
    (x_NoRow_kp : PySem.W.keepIn K (.ref f11) = true)
    (x_NoRow_ga : PySem.W.findIn K (.ref f11) "__getattribute__" = some (some (.builtin "BaseException.__getattribute__")))
    (x_NoRow_gh : PySem.W.findIn K (.ref f11) "__getattr__" = some none)
    (x_NoRow_ba : PySem.W.mroIn K f11 (.type "BaseException") = some true)
    (x_NoRow_ob : PySem.W.mroIn K f11 (.type "object") = some true)
    (x_NoRow_hd : PySem.W.hasDictIn K f11 = true)
    (x_NoRow_cl : PySem.W.findIn K (.ref f11) "__class__" = some (some (.builtin "object.__class__")))
    (x_NoRow_cg : PySem.W.specialIn K (.builtin "object.__class__") "__get__" = some (some (.builtin "getset_descriptor.__get__")))
    (x_NoRow_ct : PySem.W.takesIn K (.builtin "object.__class__") = some true)
    (x_NoRow_sa : PySem.W.findIn K (.ref f11) "__setattr__" = some (some (.builtin "object.__setattr__")))
    (x_NoSuch_e : exB K f12 (some (.ref f13000)) = true)
    (x_NoSuch_kp : PySem.W.keepIn K (.ref f12) = true)
    (x_NoSuch_ga : PySem.W.findIn K (.ref f12) "__getattribute__" = some (some (.builtin "BaseException.__getattribute__")))
    (x_NoSuch_gh : PySem.W.findIn K (.ref f12) "__getattr__" = some none)
    (x_NoSuch_ba : PySem.W.mroIn K f12 (.type "BaseException") = some true)
    (x_NoSuch_ob : PySem.W.mroIn K f12 (.type "object") = some true)
    (x_NoSuch_hd : PySem.W.hasDictIn K f12 = true)
    (x_NoSuch_cl : PySem.W.findIn K (.ref f12) "__class__" = some (some (.builtin "object.__class__")))
    (x_NoSuch_cg : PySem.W.specialIn K (.builtin "object.__class__") "__get__" = some (some (.builtin "getset_descriptor.__get__")))
    (x_NoSuch_ct : PySem.W.takesIn K (.builtin "object.__class__") = some true)
    (x_NoSuch_sa : PySem.W.findIn K (.ref f12) "__setattr__" = some (some (.builtin "object.__setattr__")))
    (x_NoField_e : exB K f13 (some (.ref f14000)) = true)
    (x_NoField_kp : PySem.W.keepIn K (.ref f13) = true)
    (x_NoField_ga : PySem.W.findIn K (.ref f13) "__getattribute__" = some (some (.builtin "BaseException.__getattribute__")))
    (x_NoField_gh : PySem.W.findIn K (.ref f13) "__getattr__" = some none)
    (x_NoField_ba : PySem.W.mroIn K f13 (.type "BaseException") = some true)
    (x_NoField_ob : PySem.W.mroIn K f13 (.type "object") = some true)
    (x_NoField_hd : PySem.W.hasDictIn K f13 = true)
    (x_NoField_cl : PySem.W.findIn K (.ref f13) "__class__" = some (some (.builtin "object.__class__")))
    (x_NoField_cg : PySem.W.specialIn K (.builtin "object.__class__") "__get__" = some (some (.builtin "getset_descriptor.__get__")))
    (x_NoField_ct : PySem.W.takesIn K (.builtin "object.__class__") = some true)
    (x_NoField_sa : PySem.W.findIn K (.ref f13) "__setattr__" = some (some (.builtin "object.__setattr__")))
    (x_NoKind_e : exB K f14 (some (.ref f15000)) = true)
    (x_NoKind_kp : PySem.W.keepIn K (.ref f14) = true)
    (x_NoKind_ga : PySem.W.findIn K (.ref f14) "__getattribute__" = some (some (.builtin "BaseException.__getattribute__")))
    (x_NoKind_gh : PySem.W.findIn K (.ref f14) "__getattr__" = some none)
    (x_NoKind_ba : PySem.W.mroIn K f14 (.type "BaseException") = some true)
    (x_NoKind_ob : PySem.W.mroIn K f14 (.type "object") = some true)
    (x_NoKind_hd : PySem.W.hasDictIn K f14 = true)
    (x_NoKind_cl : PySem.W.findIn K (.ref f14) "__class__" = some (some (.builtin "object.__class__")))
    (x_NoKind_cg : PySem.W.specialIn K (.builtin "object.__class__") "__get__" = some (some (.builtin "getset_descriptor.__get__")))
    (x_NoKind_ct : PySem.W.takesIn K (.builtin "object.__class__") = some true)
    (x_NoKind_sa : PySem.W.findIn K (.ref f14) "__setattr__" = some (some (.builtin "object.__setattr__")))
    (o_Sheet_pg : PySem.W.plainGet K f36 Str.empty = true)
    (o_Sheet_hd : PySem.W.hasDictIn K f36 = true)
    (o_Sheet_po : PySem.W.plainOver K f36 = true)
    (o_Sheet_sa : PySem.W.findIn K (.ref f36) "__setattr__" = some (some (.builtin "object.__setattr__")))
    (o_Sheet_ma : PySem.W.makesIn K f36 = true)
    (o_Sheet_kp : PySem.W.keepIn K (.ref f36) = true)
    (o_Reading_pg : PySem.W.plainGet K f47 Str.empty = true)
    (o_Reading_hd : PySem.W.hasDictIn K f47 = true)
    (o_Reading_po : PySem.W.plainOver K f47 = true)
    (o_Reading_sa : PySem.W.findIn K (.ref f47) "__setattr__" = some (some (.builtin "object.__setattr__")))
    (o_Reading_ma : PySem.W.makesIn K f47 = true)
    (o_Reading_kp : PySem.W.keepIn K (.ref f47) = true)
    (v_na_NoRow_place : PySem.W.findIn K (.ref f11) "place" = some none)
    (v_na_NoSuch_number : PySem.W.findIn K (.ref f12) "number" = some none)
    (v_na_NoField_name : PySem.W.findIn K (.ref f13) "name" = some none)
    (v_na_NoKind_name : PySem.W.findIn K (.ref f14) "name" = some none)
    (v_na_Sheet_given : PySem.W.findIn K (.ref f36) "given" = some none)
    (v_na_Sheet_kept_fields : PySem.W.findIn K (.ref f36) "kept_fields" = some none)
    (v_na_Sheet_kept_rows : PySem.W.findIn K (.ref f36) "kept_rows" = some none)
    (v_na_Reading_at : PySem.W.findIn K (.ref f47) "at" = some none)
    (v_na_Reading_begun : PySem.W.findIn K (.ref f47) "begun" = some none)
    (v_na_Reading_text : PySem.W.findIn K (.ref f47) "text" = some none)
    (v_su_NoField_CrossError : subB K f13 f2 = true)
    (v_ki_NoField_CrossError : PySem.W.kitOne K (.ref f13) (.ref f2) = some true)
    (v_ki_NoField_NoFields : PySem.W.kitOne K (.ref f13) (.ref f3) = some false)
    (v_ki_NoField_NoSieve : PySem.W.kitOne K (.ref f13) (.ref f4) = some false)
    (v_ki_NoField_NoView : PySem.W.kitOne K (.ref f13) (.ref f5) = some false)
    (v_ki_NoField_NoHead : PySem.W.kitOne K (.ref f13) (.ref f6) = some false)
    (v_ki_NoField_NoNet : PySem.W.kitOne K (.ref f13) (.ref f7) = some false)
    (v_ki_NoField_NoWhole : PySem.W.kitOne K (.ref f13) (.ref f8) = some false)
    (v_ki_NoField_NoGroups : PySem.W.kitOne K (.ref f13) (.ref f9) = some false)
    (v_ki_NoField_NoLine : PySem.W.kitOne K (.ref f13) (.ref f10) = some false)
    (v_ki_NoField_NoRow : PySem.W.kitOne K (.ref f13) (.ref f11) = some false)
    (v_ki_NoField_NoSuch : PySem.W.kitOne K (.ref f13) (.ref f12) = some false)
    (v_ki_NoField_NoField : PySem.W.kitOne K (.ref f13) (.ref f13) = some true)
    (v_ki_NoField_NoKind : PySem.W.kitOne K (.ref f13) (.ref f14) = some false)
    (v_ki_NoField_NoVeil : PySem.W.kitOne K (.ref f13) (.ref f15) = some false)
    (v_kv_NoField : PySem.W.kitOne K (.ref f13) (.type "ValueError") = some true)
    (v_su_NoFields_CrossError : subB K f3 f2 = true)
    (v_ki_NoFields_CrossError : PySem.W.kitOne K (.ref f3) (.ref f2) = some true)
    (v_ki_NoFields_NoFields : PySem.W.kitOne K (.ref f3) (.ref f3) = some true)
    (v_ki_NoFields_NoSieve : PySem.W.kitOne K (.ref f3) (.ref f4) = some false)
    (v_ki_NoFields_NoView : PySem.W.kitOne K (.ref f3) (.ref f5) = some false)
    (v_ki_NoFields_NoHead : PySem.W.kitOne K (.ref f3) (.ref f6) = some false)
    (v_ki_NoFields_NoNet : PySem.W.kitOne K (.ref f3) (.ref f7) = some false)
    (v_ki_NoFields_NoWhole : PySem.W.kitOne K (.ref f3) (.ref f8) = some false)
    (v_ki_NoFields_NoGroups : PySem.W.kitOne K (.ref f3) (.ref f9) = some false)
    (v_ki_NoFields_NoLine : PySem.W.kitOne K (.ref f3) (.ref f10) = some false)
    (v_ki_NoFields_NoRow : PySem.W.kitOne K (.ref f3) (.ref f11) = some false)
    (v_ki_NoFields_NoSuch : PySem.W.kitOne K (.ref f3) (.ref f12) = some false)
    (v_ki_NoFields_NoField : PySem.W.kitOne K (.ref f3) (.ref f13) = some false)
    (v_ki_NoFields_NoKind : PySem.W.kitOne K (.ref f3) (.ref f14) = some false)
    (v_ki_NoFields_NoVeil : PySem.W.kitOne K (.ref f3) (.ref f15) = some false)
    (v_kv_NoFields : PySem.W.kitOne K (.ref f3) (.type "ValueError") = some true)
    (v_su_NoHead_CrossError : subB K f6 f2 = true)
    (v_ki_NoHead_CrossError : PySem.W.kitOne K (.ref f6) (.ref f2) = some true)
    (v_ki_NoHead_NoFields : PySem.W.kitOne K (.ref f6) (.ref f3) = some false)
    (v_ki_NoHead_NoSieve : PySem.W.kitOne K (.ref f6) (.ref f4) = some false)
    (v_ki_NoHead_NoView : PySem.W.kitOne K (.ref f6) (.ref f5) = some false)
    (v_ki_NoHead_NoHead : PySem.W.kitOne K (.ref f6) (.ref f6) = some true)
    (v_ki_NoHead_NoNet : PySem.W.kitOne K (.ref f6) (.ref f7) = some false)
    (v_ki_NoHead_NoWhole : PySem.W.kitOne K (.ref f6) (.ref f8) = some false)
    (v_ki_NoHead_NoGroups : PySem.W.kitOne K (.ref f6) (.ref f9) = some false)
    (v_ki_NoHead_NoLine : PySem.W.kitOne K (.ref f6) (.ref f10) = some false)
    (v_ki_NoHead_NoRow : PySem.W.kitOne K (.ref f6) (.ref f11) = some false)
    (v_ki_NoHead_NoSuch : PySem.W.kitOne K (.ref f6) (.ref f12) = some false)
    (v_ki_NoHead_NoField : PySem.W.kitOne K (.ref f6) (.ref f13) = some false)
    (v_ki_NoHead_NoKind : PySem.W.kitOne K (.ref f6) (.ref f14) = some false)
    (v_ki_NoHead_NoVeil : PySem.W.kitOne K (.ref f6) (.ref f15) = some false)
    (v_kv_NoHead : PySem.W.kitOne K (.ref f6) (.type "ValueError") = some true)
    (v_su_NoKind_CrossError : subB K f14 f2 = true)
    (v_ki_NoKind_CrossError : PySem.W.kitOne K (.ref f14) (.ref f2) = some true)
    (v_ki_NoKind_NoFields : PySem.W.kitOne K (.ref f14) (.ref f3) = some false)
    (v_ki_NoKind_NoSieve : PySem.W.kitOne K (.ref f14) (.ref f4) = some false)
    (v_ki_NoKind_NoView : PySem.W.kitOne K (.ref f14) (.ref f5) = some false)
    (v_ki_NoKind_NoHead : PySem.W.kitOne K (.ref f14) (.ref f6) = some false)
    (v_ki_NoKind_NoNet : PySem.W.kitOne K (.ref f14) (.ref f7) = some false)
    (v_ki_NoKind_NoWhole : PySem.W.kitOne K (.ref f14) (.ref f8) = some false)
    (v_ki_NoKind_NoGroups : PySem.W.kitOne K (.ref f14) (.ref f9) = some false)
    (v_ki_NoKind_NoLine : PySem.W.kitOne K (.ref f14) (.ref f10) = some false)
    (v_ki_NoKind_NoRow : PySem.W.kitOne K (.ref f14) (.ref f11) = some false)
    (v_ki_NoKind_NoSuch : PySem.W.kitOne K (.ref f14) (.ref f12) = some false)
    (v_ki_NoKind_NoField : PySem.W.kitOne K (.ref f14) (.ref f13) = some false)
    (v_ki_NoKind_NoKind : PySem.W.kitOne K (.ref f14) (.ref f14) = some true)
    (v_ki_NoKind_NoVeil : PySem.W.kitOne K (.ref f14) (.ref f15) = some false)
    (v_kv_NoKind : PySem.W.kitOne K (.ref f14) (.type "ValueError") = some true)
    (v_su_NoRow_CrossError : subB K f11 f2 = true)
    (v_ki_NoRow_CrossError : PySem.W.kitOne K (.ref f11) (.ref f2) = some true)
    (v_ki_NoRow_NoFields : PySem.W.kitOne K (.ref f11) (.ref f3) = some false)
    (v_ki_NoRow_NoSieve : PySem.W.kitOne K (.ref f11) (.ref f4) = some false)
    (v_ki_NoRow_NoView : PySem.W.kitOne K (.ref f11) (.ref f5) = some false)
    (v_ki_NoRow_NoHead : PySem.W.kitOne K (.ref f11) (.ref f6) = some false)
    (v_ki_NoRow_NoNet : PySem.W.kitOne K (.ref f11) (.ref f7) = some false)
    (v_ki_NoRow_NoWhole : PySem.W.kitOne K (.ref f11) (.ref f8) = some false)
    (v_ki_NoRow_NoGroups : PySem.W.kitOne K (.ref f11) (.ref f9) = some false)
    (v_ki_NoRow_NoLine : PySem.W.kitOne K (.ref f11) (.ref f10) = some false)
    (v_ki_NoRow_NoRow : PySem.W.kitOne K (.ref f11) (.ref f11) = some true)
    (v_ki_NoRow_NoSuch : PySem.W.kitOne K (.ref f11) (.ref f12) = some false)
    (v_ki_NoRow_NoField : PySem.W.kitOne K (.ref f11) (.ref f13) = some false)
    (v_ki_NoRow_NoKind : PySem.W.kitOne K (.ref f11) (.ref f14) = some false)
    (v_ki_NoRow_NoVeil : PySem.W.kitOne K (.ref f11) (.ref f15) = some false)
    (v_kv_NoRow : PySem.W.kitOne K (.ref f11) (.type "ValueError") = some true)
    (v_su_NoSieve_CrossError : subB K f4 f2 = true)
    (v_ki_NoSieve_CrossError : PySem.W.kitOne K (.ref f4) (.ref f2) = some true)
    (v_ki_NoSieve_NoFields : PySem.W.kitOne K (.ref f4) (.ref f3) = some false)
    (v_ki_NoSieve_NoSieve : PySem.W.kitOne K (.ref f4) (.ref f4) = some true)
    (v_ki_NoSieve_NoView : PySem.W.kitOne K (.ref f4) (.ref f5) = some false)
    (v_ki_NoSieve_NoHead : PySem.W.kitOne K (.ref f4) (.ref f6) = some false)
    (v_ki_NoSieve_NoNet : PySem.W.kitOne K (.ref f4) (.ref f7) = some false)
    (v_ki_NoSieve_NoWhole : PySem.W.kitOne K (.ref f4) (.ref f8) = some false)
    (v_ki_NoSieve_NoGroups : PySem.W.kitOne K (.ref f4) (.ref f9) = some false)
    (v_ki_NoSieve_NoLine : PySem.W.kitOne K (.ref f4) (.ref f10) = some false)
    (v_ki_NoSieve_NoRow : PySem.W.kitOne K (.ref f4) (.ref f11) = some false)
    (v_ki_NoSieve_NoSuch : PySem.W.kitOne K (.ref f4) (.ref f12) = some false)
    (v_ki_NoSieve_NoField : PySem.W.kitOne K (.ref f4) (.ref f13) = some false)
    (v_ki_NoSieve_NoKind : PySem.W.kitOne K (.ref f4) (.ref f14) = some false)
    (v_ki_NoSieve_NoVeil : PySem.W.kitOne K (.ref f4) (.ref f15) = some false)
    (v_kv_NoSieve : PySem.W.kitOne K (.ref f4) (.type "ValueError") = some true)
    (v_su_NoSuch_CrossError : subB K f12 f2 = true)
    (v_ki_NoSuch_CrossError : PySem.W.kitOne K (.ref f12) (.ref f2) = some true)
    (v_ki_NoSuch_NoFields : PySem.W.kitOne K (.ref f12) (.ref f3) = some false)
    (v_ki_NoSuch_NoSieve : PySem.W.kitOne K (.ref f12) (.ref f4) = some false)
    (v_ki_NoSuch_NoView : PySem.W.kitOne K (.ref f12) (.ref f5) = some false)
    (v_ki_NoSuch_NoHead : PySem.W.kitOne K (.ref f12) (.ref f6) = some false)
    (v_ki_NoSuch_NoNet : PySem.W.kitOne K (.ref f12) (.ref f7) = some false)
    (v_ki_NoSuch_NoWhole : PySem.W.kitOne K (.ref f12) (.ref f8) = some false)
    (v_ki_NoSuch_NoGroups : PySem.W.kitOne K (.ref f12) (.ref f9) = some false)
    (v_ki_NoSuch_NoLine : PySem.W.kitOne K (.ref f12) (.ref f10) = some false)
    (v_ki_NoSuch_NoRow : PySem.W.kitOne K (.ref f12) (.ref f11) = some false)
    (v_ki_NoSuch_NoSuch : PySem.W.kitOne K (.ref f12) (.ref f12) = some true)
    (v_ki_NoSuch_NoField : PySem.W.kitOne K (.ref f12) (.ref f13) = some false)
    (v_ki_NoSuch_NoKind : PySem.W.kitOne K (.ref f12) (.ref f14) = some false)
    (v_ki_NoSuch_NoVeil : PySem.W.kitOne K (.ref f12) (.ref f15) = some false)
    (v_kv_NoSuch : PySem.W.kitOne K (.ref f12) (.type "ValueError") = some true)
    (v_su_NoView_CrossError : subB K f5 f2 = true)
    (v_ki_NoView_CrossError : PySem.W.kitOne K (.ref f5) (.ref f2) = some true)
    (v_ki_NoView_NoFields : PySem.W.kitOne K (.ref f5) (.ref f3) = some false)
    (v_ki_NoView_NoSieve : PySem.W.kitOne K (.ref f5) (.ref f4) = some false)
    (v_ki_NoView_NoView : PySem.W.kitOne K (.ref f5) (.ref f5) = some true)
    (v_ki_NoView_NoHead : PySem.W.kitOne K (.ref f5) (.ref f6) = some false)
    (v_ki_NoView_NoNet : PySem.W.kitOne K (.ref f5) (.ref f7) = some false)
    (v_ki_NoView_NoWhole : PySem.W.kitOne K (.ref f5) (.ref f8) = some false)
    (v_ki_NoView_NoGroups : PySem.W.kitOne K (.ref f5) (.ref f9) = some false)
    (v_ki_NoView_NoLine : PySem.W.kitOne K (.ref f5) (.ref f10) = some false)
    (v_ki_NoView_NoRow : PySem.W.kitOne K (.ref f5) (.ref f11) = some false)
    (v_ki_NoView_NoSuch : PySem.W.kitOne K (.ref f5) (.ref f12) = some false)
    (v_ki_NoView_NoField : PySem.W.kitOne K (.ref f5) (.ref f13) = some false)
    (v_ki_NoView_NoKind : PySem.W.kitOne K (.ref f5) (.ref f14) = some false)
    (v_ki_NoView_NoVeil : PySem.W.kitOne K (.ref f5) (.ref f15) = some false)
    (v_kv_NoView : PySem.W.kitOne K (.ref f5) (.type "ValueError") = some true)
    (z_ValueError : PySem.W.nsIn K mainGlobals "ValueError" = some none)
    (z_abs : PySem.W.nsIn K mainGlobals "abs" = some none)
    (z_all : PySem.W.nsIn K mainGlobals "all" = some none)
    (z_bool : PySem.W.nsIn K mainGlobals "bool" = some none)
    (z_enumerate : PySem.W.nsIn K mainGlobals "enumerate" = some none)
    (z_int : PySem.W.nsIn K mainGlobals "int" = some none)
    (z_isinstance : PySem.W.nsIn K mainGlobals "isinstance" = some none)
    (z_len : PySem.W.nsIn K mainGlobals "len" = some none)
    (z_list : PySem.W.nsIn K mainGlobals "list" = some none)
    (z_min : PySem.W.nsIn K mainGlobals "min" = some none)
    (z_range : PySem.W.nsIn K mainGlobals "range" = some none)
    (z_set : PySem.W.nsIn K mainGlobals "set" = some none)
    (z_sorted : PySem.W.nsIn K mainGlobals "sorted" = some none)
    (z_str : PySem.W.nsIn K mainGlobals "str" = some none)
    (z_tuple : PySem.W.nsIn K mainGlobals "tuple" = some none)
    (z_zip : PySem.W.nsIn K mainGlobals "zip" = some none)
    {tk_LETTERS : Tok} (y_LETTERS : PySem.W.nsIn K mainGlobals "LETTERS" = some (some (.str "abcdefghijklmnopqrstuvwxyz" tk_LETTERS)))
    {tk_FIGURES : Tok} (y_FIGURES : PySem.W.nsIn K mainGlobals "FIGURES" = some (some (.str "0123456789" tk_FIGURES)))
    {tk_MOST_SIGNS : Tok} (y_MOST_SIGNS : PySem.W.nsIn K mainGlobals "MOST_SIGNS" = some (some (.int (12) tk_MOST_SIGNS)))
    {f30 : Addr} {od30 : Option Addr} {sl30 : Array (Option Value)} {n30 : Nat} {tk30_0 tk30_1 : Tok} (y_KINDS : PySem.W.nsIn K mainGlobals "KINDS" = some (some (.ref f30))) (l30 : K.lookup f30 = some ⟨.type "tuple", od30, .seq #[.str "word" tk30_0, .str "number" tk30_1] n30, sl30⟩)
    {tk_MOST_FIELDS : Tok} (y_MOST_FIELDS : PySem.W.nsIn K mainGlobals "MOST_FIELDS" = some (some (.int (8) tk_MOST_FIELDS)))
    {tk_MOST_LEVELS : Tok} (y_MOST_LEVELS : PySem.W.nsIn K mainGlobals "MOST_LEVELS" = some (some (.int (12) tk_MOST_LEVELS)))
    {tk_MOST_SIEVES : Tok} (y_MOST_SIEVES : PySem.W.nsIn K mainGlobals "MOST_SIEVES" = some (some (.int (60) tk_MOST_SIEVES)))
    {f45 : Addr} {es45 : Array DictEntry} {n45 : Nat} (y_JOINTS : PySem.W.nsIn K mainGlobals "JOINTS" = some (some (.ref f45))) (l45 : K.lookup f45 = some ⟨.type "dict", none, .dict es45 n45, #[]⟩) (m45 : (f45 == sysModules) = false) (k45 : PySem.W.KeysLit w.params es45.toList) (v45 : Paired (fun (e : DictEntry) (kv : Str × Str) => (∃ t, e.key = .str kv.1 t) ∧ ∃ t, e.val = .str kv.2 t) es45.toList [("all", "&"), ("some", "|")])
    {f52 : Addr} {od52 : Option Addr} {sl52 : Array (Option Value)} {n52 : Nat} {tk52_0 tk52_1 tk52_2 tk52_3 : Tok} (y_NAMED_FORMS : PySem.W.nsIn K mainGlobals "NAMED_FORMS" = some (some (.ref f52))) (l52 : K.lookup f52 = some ⟨.type "tuple", od52, .seq #[.str "sum" tk52_0, .str "greatest" tk52_1, .str "least" tk52_2, .str "unlike" tk52_3] n52, sl52⟩)
    {tk_MOST_NAMES : Tok} (y_MOST_NAMES : PySem.W.nsIn K mainGlobals "MOST_NAMES" = some (some (.int (3) tk_MOST_NAMES)))
    {tk_MOST_FIGURES_heads : Tok} (y_MOST_FIGURES_heads : PySem.W.nsIn K mainGlobals "MOST_FIGURES_heads" = some (some (.int (4) tk_MOST_FIGURES_heads)))
    : ∃ f fd, Txt w K mg f fd ∧ f 68 = f68 ∧ ∃ kV dc pm an cd ct, fd 68 = PySem.W.fnOf "law" "law" (defArgs s_law) (defBody s_law) (defScope s_law) .none kV dc pm an cd ct := by
  refine ⟨fun i => match i with | 21 => f21 | 22 => f22 | 23 => f23 | 24 => f24 | 25 => f25 | 26 => f26 | 32 => f32 | 33 => f33 | 34 => f34 | 35 => f35 | 38 => f38 | 39 => f39 | 40 => f40 | 50 => f50 | 53 => f53 | 54 => f54 | 58 => f58 | 59 => f59 | 60 => f60 | 61 => f61 | 62 => f62 | 64 => f64 | 65 => f65 | 66 => f66 | 67 => f67 | 68 => f68 | 12000 => f12000 | 13000 => f13000 | 14000 => f14000 | 15000 => f15000 | 37000 => f37000 | 37002 => f37002 | 37005 => f37005 | 37006 => f37006 | 48000 => f48000 | 48001 => f48001 | 48002 => f48002 | 48003 => f48003 | 48005 => f48005 | 2 => f2 | 3 => f3 | 4 => f4 | 5 => f5 | 6 => f6 | 7 => f7 | 8 => f8 | 9 => f9 | 10 => f10 | 11 => f11 | 12 => f12 | 13 => f13 | 14 => f14 | 15 => f15 | 36 => f36 | 47 => f47 | 30 => f30 | 45 => f45 | 52 => f52 | _ => 0, fun i => match i with | 21 => PySem.W.fnOf "is_made_of" "is_made_of" (defArgs s_is_made_of) (defBody s_is_made_of) (defScope s_is_made_of) .none kV21 dc21 pm21 an21 cd21 ct21 | 22 => PySem.W.fnOf "is_short_text" "is_short_text" (defArgs s_is_short_text) (defBody s_is_short_text) (defScope s_is_short_text) .none kV22 dc22 pm22 an22 cd22 ct22 | 23 => PySem.W.fnOf "is_name" "is_name" (defArgs s_is_name) (defBody s_is_name) (defScope s_is_name) .none kV23 dc23 pm23 an23 cd23 ct23 | 24 => PySem.W.fnOf "is_word" "is_word" (defArgs s_is_word) (defBody s_is_word) (defScope s_is_word) .none kV24 dc24 pm24 an24 cd24 ct24 | 25 => PySem.W.fnOf "is_number" "is_number" (defArgs s_is_number) (defBody s_is_number) (defScope s_is_number) .none kV25 dc25 pm25 an25 cd25 ct25 | 26 => PySem.W.fnOf "is_value" "is_value" (defArgs s_is_value) (defBody s_is_value) (defScope s_is_value) .none kV26 dc26 pm26 an26 cd26 ct26 | 32 => PySem.W.fnOf "is_field" "is_field" (defArgs s_is_field) (defBody s_is_field) (defScope s_is_field) .none kV32 dc32 pm32 an32 cd32 ct32 | 33 => PySem.W.fnOf "asked_fields" "asked_fields" (defArgs s_asked_fields) (defBody s_asked_fields) (defScope s_asked_fields) .none kV33 dc33 pm33 an33 cd33 ct33 | 34 => PySem.W.fnOf "field_at" "field_at" (defArgs s_field_at) (defBody s_field_at) (defScope s_field_at) .none kV34 dc34 pm34 an34 cd34 ct34 | 35 => PySem.W.fnOf "asked_row" "asked_row" (defArgs s_asked_row) (defBody s_asked_row) (defScope s_asked_row) .none kV35 dc35 pm35 an35 cd35 ct35 | 38 => PySem.W.fnOf "is_of_kind" "is_of_kind" (defArgs s_is_of_kind) (defBody s_is_of_kind) (defScope s_is_of_kind) .none kV38 dc38 pm38 an38 cd38 ct38 | 39 => PySem.W.fnOf "asked_plain" "asked_plain" (defArgs s_asked_plain) (defBody s_asked_plain) (defScope s_asked_plain) .none kV39 dc39 pm39 an39 cd39 ct39 | 40 => PySem.W.fnOf "asked_sieve" "asked_sieve" (defArgs s_asked_sieve) (defBody s_asked_sieve) (defScope s_asked_sieve) .none kV40 dc40 pm40 an40 cd40 ct40 | 50 => PySem.W.fnOf "read_sieve" "read_sieve" (defArgs s_read_sieve) (defBody s_read_sieve) (defScope s_read_sieve) .none kV50 dc50 pm50 an50 cd50 ct50 | 53 => PySem.W.fnOf "is_figure" "is_figure" (defArgs s_is_figure) (defBody s_is_figure) (defScope s_is_figure) .none kV53 dc53 pm53 an53 cd53 ct53 | 54 => PySem.W.fnOf "asked_figure" "asked_figure" (defArgs s_asked_figure) (defBody s_asked_figure) (defScope s_asked_figure) .none kV54 dc54 pm54 an54 cd54 ct54 | 58 => PySem.W.fnOf "is_side" "is_side" (defArgs s_is_side) (defBody s_is_side) (defScope s_is_side) .none kV58 dc58 pm58 an58 cd58 ct58 | 59 => PySem.W.fnOf "is_figures" "is_figures" (defArgs s_is_figures) (defBody s_is_figures) (defScope s_is_figures) .none kV59 dc59 pm59 an59 cd59 ct59 | 60 => PySem.W.fnOf "asked_form" "asked_form" (defArgs s_asked_form) (defBody s_asked_form) (defScope s_asked_form) .none kV60 dc60 pm60 an60 cd60 ct60 | 61 => PySem.W.fnOf "asked_view" "asked_view" (defArgs s_asked_view) (defBody s_asked_view) (defScope s_asked_view) .none kV61 dc61 pm61 an61 cd61 ct61 | 62 => PySem.W.fnOf "asked_path" "asked_path" (defArgs s_asked_path) (defBody s_asked_path) (defScope s_asked_path) .none kV62 dc62 pm62 an62 cd62 ct62 | 64 => PySem.W.fnOf "_law_cell_at" "_law_cell_at" (defArgs s_l_cell_at) (defBody s_l_cell_at) (defScope s_l_cell_at) .none kV64 dc64 pm64 an64 cd64 ct64 | 65 => PySem.W.fnOf "_law_mix" "_law_mix" (defArgs s_l_mix) (defBody s_l_mix) (defScope s_l_mix) .none kV65 dc65 pm65 an65 cd65 ct65 | 66 => PySem.W.fnOf "_law_classes" "_law_classes" (defArgs s_l_classes) (defBody s_l_classes) (defScope s_l_classes) .none kV66 dc66 pm66 an66 cd66 ct66 | 67 => PySem.W.fnOf "_law_deed" "_law_deed" (defArgs s_l_deed) (defBody s_l_deed) (defScope s_l_deed) .none kV67 dc67 pm67 an67 cd67 ct67 | 68 => PySem.W.fnOf "law" "law" (defArgs s_law) (defBody s_law) (defScope s_law) .none kV68 dc68 pm68 an68 cd68 ct68 | 12000 => PySem.W.fnOf "__init__" "NoRow.__init__" (defArgs s_NoRow___init__) (defBody s_NoRow___init__) (defScope s_NoRow___init__) .none kV12000 dc12000 pm12000 an12000 cd12000 ct12000 | 13000 => PySem.W.fnOf "__init__" "NoSuch.__init__" (defArgs s_NoSuch___init__) (defBody s_NoSuch___init__) (defScope s_NoSuch___init__) .none kV13000 dc13000 pm13000 an13000 cd13000 ct13000 | 14000 => PySem.W.fnOf "__init__" "NoField.__init__" (defArgs s_NoField___init__) (defBody s_NoField___init__) (defScope s_NoField___init__) .none kV14000 dc14000 pm14000 an14000 cd14000 ct14000 | 15000 => PySem.W.fnOf "__init__" "NoKind.__init__" (defArgs s_NoKind___init__) (defBody s_NoKind___init__) (defScope s_NoKind___init__) .none kV15000 dc15000 pm15000 an15000 cd15000 ct15000 | 37000 => PySem.W.fnOf "__init__" "Sheet.__init__" (defArgs s_Sheet___init__) (defBody s_Sheet___init__) (defScope s_Sheet___init__) .none kV37000 dc37000 pm37000 an37000 cd37000 ct37000 | 37002 => PySem.W.fnOf "put" "Sheet.put" (defArgs s_Sheet_put) (defBody s_Sheet_put) (defScope s_Sheet_put) .none kV37002 dc37002 pm37002 an37002 cd37002 ct37002 | 37005 => PySem.W.fnOf "row" "Sheet.row" (defArgs s_Sheet_row) (defBody s_Sheet_row) (defScope s_Sheet_row) .none kV37005 dc37005 pm37005 an37005 cd37005 ct37005 | 37006 => PySem.W.fnOf "numbers" "Sheet.numbers" (defArgs s_Sheet_numbers) (defBody s_Sheet_numbers) (defScope s_Sheet_numbers) .none kV37006 dc37006 pm37006 an37006 cd37006 ct37006 | 48000 => PySem.W.fnOf "__init__" "Reading.__init__" (defArgs s_Reading___init__) (defBody s_Reading___init__) (defScope s_Reading___init__) .none kV48000 dc48000 pm48000 an48000 cd48000 ct48000 | 48001 => PySem.W.fnOf "takes" "Reading.takes" (defArgs s_Reading_takes) (defBody s_Reading_takes) (defScope s_Reading_takes) .none kV48001 dc48001 pm48001 an48001 cd48001 ct48001 | 48002 => PySem.W.fnOf "run_of" "Reading.run_of" (defArgs s_Reading_run_of) (defBody s_Reading_run_of) (defScope s_Reading_run_of) .none kV48002 dc48002 pm48002 an48002 cd48002 ct48002 | 48003 => PySem.W.fnOf "one_sieve" "Reading.one_sieve" (defArgs s_Reading_one_sieve) (defBody s_Reading_one_sieve) (defScope s_Reading_one_sieve) .none kV48003 dc48003 pm48003 an48003 cd48003 ct48003 | 48005 => PySem.W.fnOf "plain_sieve" "Reading.plain_sieve" (defArgs s_Reading_plain_sieve) (defBody s_Reading_plain_sieve) (defScope s_Reading_plain_sieve) .none kV48005 dc48005 pm48005 an48005 cd48005 ct48005 | _ => PySem.W.fnOf "law" "law" (defArgs s_law) (defBody s_law) (defScope s_law) .none kV68 dc68 pm68 an68 cd68 ct68, ⟨?_, ?_, ?_, ?_, ?_, ?_, ?_, ?_, ?_, ?_, ?_, ?_, ?_, ?_, ?_, ?_, ?_, ?_, ?_, ?_, ?_, ?_, ?_, ?_, ?_, ?_, ?_, ?_, ?_, ?_, ?_, ?_, ?_, ?_, ?_, ?_, ?_, ?_, ?_, ?_, ?_, ?_, ?_, ?_, ?_, ?_, ?_, ?_, ?_, ?_, ?_, ?_, ?_, ?_, ?_, ?_, ?_, ?_, ?_, ?_, ?_, ?_, ?_, ?_, ?_, ?_, ?_, ?_, ?_, ?_, ?_, ?_, ?_, ?_, ?_, ?_, ?_, ?_, ?_, ?_, ?_, ?_, ?_, ?_, ?_, ?_, ?_, ?_, ?_, ?_, ?_, ?_, ?_, ?_, ?_, ?_, ?_, ?_, ?_, ?_, ?_, ?_, ?_, ?_, ?_, ?_, ?_, ?_, ?_, ?_, ?_, ?_, ?_, ?_, ?_, ?_, ?_, ?_, ?_, ?_, ?_, ?_, ?_, ?_, ?_, ?_, ?_, ?_, ?_, ?_, ?_, ?_, ?_, ?_, ?_, ?_, ?_, ?_, ?_, ?_, ?_, ?_, ?_, ?_, ?_, ?_, ?_, ?_, ?_, ?_, ?_, ?_, ?_, ?_, ?_, ?_, ?_, ?_, ?_, ?_, ?_, ?_, ?_, ?_, ?_, ?_, ?_, ?_, ?_, ?_, ?_, ?_, ?_, ?_, ?_, ?_, ?_, ?_, ?_, ?_, ?_, ?_, ?_, ?_, ?_, ?_, ?_, ?_, ?_, ?_, ?_, ?_, ?_, ?_, ?_, ?_, ?_, ?_, ?_, ?_, ?_, ?_, ?_, ?_, ?_, ?_, ?_, ?_, ?_, ?_, ?_, ?_, ?_, ?_, ?_, ?_, ?_, ?_, ?_, ?_, ?_, ?_, ?_, ?_, ?_, ?_, ?_, ?_, ?_, ?_⟩, rfl, _, _, _, _, _, _, rfl⟩
  · exact (by have F := fun_mk (st := s_is_made_of) l21 c21 k21; exact ⟨F, F.binds (ps := ["text", "signs"]) fun _ _ _ _ _ _ us hl => lenB2 (fun _ _ => rfl) us hl, PySem.W.mg_of X G a21⟩)
  · exact (by have F := fun_mk (st := s_is_short_text) l22 c22 k22; exact ⟨F, F.binds (ps := ["thing", "signs"]) fun _ _ _ _ _ _ us hl => lenB2 (fun _ _ => rfl) us hl, PySem.W.mg_of X G a22⟩)
  · exact (by have F := fun_mk (st := s_is_name) l23 c23 k23; exact ⟨F, F.binds (ps := ["thing"]) fun _ _ _ _ _ _ us hl => lenB1 (fun _ => rfl) us hl, PySem.W.mg_of X G a23⟩)
  · exact (by have F := fun_mk (st := s_is_word) l24 c24 k24; exact ⟨F, F.binds (ps := ["thing"]) fun _ _ _ _ _ _ us hl => lenB1 (fun _ => rfl) us hl, PySem.W.mg_of X G a24⟩)
  · exact (by have F := fun_mk (st := s_is_number) l25 c25 k25; exact ⟨F, F.binds (ps := ["thing"]) fun _ _ _ _ _ _ us hl => lenB1 (fun _ => rfl) us hl, PySem.W.mg_of X G a25⟩)
  · exact (by have F := fun_mk (st := s_is_value) l26 c26 k26; exact ⟨F, F.binds (ps := ["kind", "thing"]) fun _ _ _ _ _ _ us hl => lenB2 (fun _ _ => rfl) us hl, PySem.W.mg_of X G a26⟩)
  · exact (by have F := fun_mk (st := s_is_field) l32 c32 k32; exact ⟨F, F.binds (ps := ["thing"]) fun _ _ _ _ _ _ us hl => lenB1 (fun _ => rfl) us hl, PySem.W.mg_of X G a32⟩)
  · exact (by have F := fun_mk (st := s_asked_fields) l33 c33 k33; exact ⟨F, F.binds (ps := ["fields"]) fun _ _ _ _ _ _ us hl => lenB1 (fun _ => rfl) us hl, PySem.W.mg_of X G a33⟩)
  · exact (by have F := fun_mk (st := s_field_at) l34 c34 k34; exact ⟨F, F.binds (ps := ["fields", "name"]) fun _ _ _ _ _ _ us hl => lenB2 (fun _ _ => rfl) us hl, PySem.W.mg_of X G a34⟩)
  · exact (by have F := fun_mk (st := s_asked_row) l35 c35 k35; exact ⟨F, F.binds (ps := ["fields", "row"]) fun _ _ _ _ _ _ us hl => lenB2 (fun _ _ => rfl) us hl, PySem.W.mg_of X G a35⟩)
  · exact (by have F := fun_mk (st := s_is_of_kind) l38 c38 k38; exact ⟨F, F.binds (ps := ["kind", "value"]) fun _ _ _ _ _ _ us hl => lenB2 (fun _ _ => rfl) us hl, PySem.W.mg_of X G a38⟩)
  · exact (by have F := fun_mk (st := s_asked_plain) l39 c39 k39; exact ⟨F, F.binds (ps := ["fields", "sieve"]) fun _ _ _ _ _ _ us hl => lenB2 (fun _ _ => rfl) us hl, PySem.W.mg_of X G a39⟩)
  · exact (by have F := fun_mk (st := s_asked_sieve) l40 c40 k40; exact ⟨F, F.binds (ps := ["fields", "sieve"]) fun _ _ _ _ _ _ us hl => lenB2 (fun _ _ => rfl) us hl, PySem.W.mg_of X G a40⟩)
  · exact (by have F := fun_mk (st := s_read_sieve) l50 c50 k50; exact ⟨F, F.binds (ps := ["fields", "text"]) fun _ _ _ _ _ _ us hl => lenB2 (fun _ _ => rfl) us hl, PySem.W.mg_of X G a50⟩)
  · exact (by have F := fun_mk (st := s_is_figure) l53 c53 k53; exact ⟨F, F.binds (ps := ["thing"]) fun _ _ _ _ _ _ us hl => lenB1 (fun _ => rfl) us hl, PySem.W.mg_of X G a53⟩)
  · exact (by have F := fun_mk (st := s_asked_figure) l54 c54 k54; exact ⟨F, F.binds (ps := ["fields", "figure"]) fun _ _ _ _ _ _ us hl => lenB2 (fun _ _ => rfl) us hl, PySem.W.mg_of X G a54⟩)
  · exact (by have F := fun_mk (st := s_is_side) l58 c58 k58; exact ⟨F, F.binds (ps := ["thing"]) fun _ _ _ _ _ _ us hl => lenB1 (fun _ => rfl) us hl, PySem.W.mg_of X G a58⟩)
  · exact (by have F := fun_mk (st := s_is_figures) l59 c59 k59; exact ⟨F, F.binds (ps := ["thing"]) fun _ _ _ _ _ _ us hl => lenB1 (fun _ => rfl) us hl, PySem.W.mg_of X G a59⟩)
  · exact (by have F := fun_mk (st := s_asked_form) l60 c60 k60; exact ⟨F, F.binds (ps := ["view"]) fun _ _ _ _ _ _ us hl => lenB1 (fun _ => rfl) us hl, PySem.W.mg_of X G a60⟩)
  · exact (by have F := fun_mk (st := s_asked_view) l61 c61 k61; exact ⟨F, F.binds (ps := ["fields", "view"]) fun _ _ _ _ _ _ us hl => lenB2 (fun _ _ => rfl) us hl, PySem.W.mg_of X G a61⟩)
  · exact (by have F := fun_mk (st := s_asked_path) l62 c62 k62; exact ⟨F, F.binds (ps := ["fields", "names", "path"]) fun _ _ _ _ _ _ us hl => lenB3 (fun _ _ _ => rfl) us hl, PySem.W.mg_of X G a62⟩)
  · exact (by have F := fun_mk (st := s_l_cell_at) l64 c64 k64; exact ⟨F, F.binds (ps := ["_law_script", "_law_k"]) fun _ _ _ _ _ _ us hl => lenB2 (fun _ _ => rfl) us hl, PySem.W.mg_of X G a64⟩)
  · exact (by have F := fun_mk (st := s_l_mix) l65 c65 k65; exact ⟨F, F.binds (ps := ["_law_seed", "_law_k"]) fun _ _ _ _ _ _ us hl => lenB2 (fun _ _ => rfl) us hl, PySem.W.mg_of X G a65⟩)
  · exact (by have F := fun_mk (st := s_l_classes) l66 c66 k66; exact ⟨F, F.binds (ps := ["_law_e"]) fun _ _ _ _ _ _ us hl => lenB1 (fun _ => rfl) us hl, PySem.W.mg_of X G a66⟩)
  · exact (by have F := fun_mk (st := s_l_deed) l67 c67 k67; exact ⟨F, F.binds (ps := ["_law_way", "_law_sheet", "_law_fields", "_law_names", "_law_number"]) fun _ _ _ _ _ _ us hl => lenB5 (fun _ _ _ _ _ => rfl) us hl, PySem.W.mg_of X G a67⟩)
  · exact (by have F := fun_mk (st := s_law) l68 c68 k68; exact ⟨F, F.binds (ps := ["_law_script"]) fun _ _ _ _ _ _ us hl => lenB1 (fun _ => rfl) us hl, PySem.W.mg_of X G a68⟩)
  · exact (by have F := fun_mk (st := s_NoRow___init__) l12000 c12000 k12000; exact ⟨F, F.binds (ps := ["self", "place"]) fun _ _ _ _ _ _ us hl => lenB2 (fun _ _ => rfl) us hl, b12000⟩)
  · exact (by have F := fun_mk (st := s_NoSuch___init__) l13000 c13000 k13000; exact ⟨F, F.binds (ps := ["self", "number"]) fun _ _ _ _ _ _ us hl => lenB2 (fun _ _ => rfl) us hl, b13000⟩)
  · exact (by have F := fun_mk (st := s_NoField___init__) l14000 c14000 k14000; exact ⟨F, F.binds (ps := ["self", "name"]) fun _ _ _ _ _ _ us hl => lenB2 (fun _ _ => rfl) us hl, b14000⟩)
  · exact (by have F := fun_mk (st := s_NoKind___init__) l15000 c15000 k15000; exact ⟨F, F.binds (ps := ["self", "name"]) fun _ _ _ _ _ _ us hl => lenB2 (fun _ _ => rfl) us hl, b15000⟩)
  · exact (by have F := fun_mk (st := s_Sheet___init__) l37000 c37000 k37000; exact ⟨F, F.binds (ps := ["self", "fields"]) fun _ _ _ _ _ _ us hl => lenB2 (fun _ _ => rfl) us hl, b37000⟩)
  · exact (by have F := fun_mk (st := s_Sheet_put) l37002 c37002 k37002; exact ⟨F, F.binds (ps := ["self", "row"]) fun _ _ _ _ _ _ us hl => lenB2 (fun _ _ => rfl) us hl, b37002⟩)
  · exact (by have F := fun_mk (st := s_Sheet_row) l37005 c37005 k37005; exact ⟨F, F.binds (ps := ["self", "number"]) fun _ _ _ _ _ _ us hl => lenB2 (fun _ _ => rfl) us hl, b37005⟩)
  · exact (by have F := fun_mk (st := s_Sheet_numbers) l37006 c37006 k37006; exact ⟨F, F.binds (ps := ["self"]) fun _ _ _ _ _ _ us hl => lenB1 (fun _ => rfl) us hl, b37006⟩)
  · exact (by have F := fun_mk (st := s_Reading___init__) l48000 c48000 k48000; exact ⟨F, F.binds (ps := ["self", "text"]) fun _ _ _ _ _ _ us hl => lenB2 (fun _ _ => rfl) us hl, b48000⟩)
  · exact (by have F := fun_mk (st := s_Reading_takes) l48001 c48001 k48001; exact ⟨F, F.binds (ps := ["self", "signs"]) fun _ _ _ _ _ _ us hl => lenB2 (fun _ _ => rfl) us hl, b48001⟩)
  · exact (by have F := fun_mk (st := s_Reading_run_of) l48002 c48002 k48002; exact ⟨F, F.binds (ps := ["self", "signs"]) fun _ _ _ _ _ _ us hl => lenB2 (fun _ _ => rfl) us hl, b48002⟩)
  · exact (by have F := fun_mk (st := s_Reading_one_sieve) l48003 c48003 k48003; exact ⟨F, F.binds (ps := ["self", "level"]) fun _ _ _ _ _ _ us hl => lenB2 (fun _ _ => rfl) us hl, b48003⟩)
  · exact (by have F := fun_mk (st := s_Reading_plain_sieve) l48005 c48005 k48005; exact ⟨F, F.binds (ps := ["self"]) fun _ _ _ _ _ _ us hl => lenB1 (fun _ => rfl) us hl, b48005⟩)
  · exact ⟨PySem.W.mg_of X G a7⟩
  · exact ⟨PySem.W.mg_of X G a8⟩
  · exact ⟨PySem.W.mg_of X G a9⟩
  · exact ⟨PySem.W.mg_of X G a10⟩
  · exact ⟨PySem.W.mg_of X G a15⟩
  · exact (exc_mk X G a2 x_CrossError_e x_CrossError_kp x_CrossError_ga x_CrossError_gh x_CrossError_ba x_CrossError_ob x_CrossError_hd x_CrossError_cl x_CrossError_cg x_CrossError_ct x_CrossError_sa)
  · exact (exc_mk X G a3 x_NoFields_e x_NoFields_kp x_NoFields_ga x_NoFields_gh x_NoFields_ba x_NoFields_ob x_NoFields_hd x_NoFields_cl x_NoFields_cg x_NoFields_ct x_NoFields_sa)
  · exact (exc_mk X G a4 x_NoSieve_e x_NoSieve_kp x_NoSieve_ga x_NoSieve_gh x_NoSieve_ba x_NoSieve_ob x_NoSieve_hd x_NoSieve_cl x_NoSieve_cg x_NoSieve_ct x_NoSieve_sa)
  · exact (exc_mk X G a5 x_NoView_e x_NoView_kp x_NoView_ga x_NoView_gh x_NoView_ba x_NoView_ob x_NoView_hd x_NoView_cl x_NoView_cg x_NoView_ct x_NoView_sa)
  · exact (exc_mk X G a6 x_NoHead_e x_NoHead_kp x_NoHead_ga x_NoHead_gh x_NoHead_ba x_NoHead_ob x_NoHead_hd x_NoHead_cl x_NoHead_cg x_NoHead_ct x_NoHead_sa)
  · exact (exc_mk X G a11 x_NoRow_e x_NoRow_kp x_NoRow_ga x_NoRow_gh x_NoRow_ba x_NoRow_ob x_NoRow_hd x_NoRow_cl x_NoRow_cg x_NoRow_ct x_NoRow_sa)
  · exact (exc_mk X G a12 x_NoSuch_e x_NoSuch_kp x_NoSuch_ga x_NoSuch_gh x_NoSuch_ba x_NoSuch_ob x_NoSuch_hd x_NoSuch_cl x_NoSuch_cg x_NoSuch_ct x_NoSuch_sa)
  · exact (exc_mk X G a13 x_NoField_e x_NoField_kp x_NoField_ga x_NoField_gh x_NoField_ba x_NoField_ob x_NoField_hd x_NoField_cl x_NoField_cg x_NoField_ct x_NoField_sa)
  · exact (exc_mk X G a14 x_NoKind_e x_NoKind_kp x_NoKind_ga x_NoKind_gh x_NoKind_ba x_NoKind_ob x_NoKind_hd x_NoKind_cl x_NoKind_cg x_NoKind_ct x_NoKind_sa)
  · exact (own_mk X G a36 o_Sheet_pg o_Sheet_hd o_Sheet_po o_Sheet_sa o_Sheet_ma a37000 b37000 o_Sheet_kp)
  · exact ⟨a37002, b37002, k37002⟩
  · exact ⟨a37005, b37005, k37005⟩
  · exact ⟨a37006, b37006, k37006⟩
  · exact (own_mk X G a47 o_Reading_pg o_Reading_hd o_Reading_po o_Reading_sa o_Reading_ma a48000 b48000 o_Reading_kp)
  · exact ⟨a48001, b48001, k48001⟩
  · exact ⟨a48002, b48002, k48002⟩
  · exact ⟨a48003, b48003, k48003⟩
  · exact ⟨a48005, b48005, k48005⟩
  · exact v_na_NoRow_place
  · exact v_na_NoSuch_number
  · exact v_na_NoField_name
  · exact v_na_NoKind_name
  · exact v_na_Sheet_given
  · exact v_na_Sheet_kept_fields
  · exact v_na_Sheet_kept_rows
  · exact v_na_Reading_at
  · exact v_na_Reading_begun
  · exact v_na_Reading_text
  · exact v_su_NoField_CrossError
  · exact v_ki_NoField_CrossError
  · exact v_ki_NoField_NoFields
  · exact v_ki_NoField_NoSieve
  · exact v_ki_NoField_NoView
  · exact v_ki_NoField_NoHead
  · exact v_ki_NoField_NoNet
  · exact v_ki_NoField_NoWhole
  · exact v_ki_NoField_NoGroups
  · exact v_ki_NoField_NoLine
  · exact v_ki_NoField_NoRow
  · exact v_ki_NoField_NoSuch
  · exact v_ki_NoField_NoField
  · exact v_ki_NoField_NoKind
  · exact v_ki_NoField_NoVeil
  · exact v_kv_NoField
  · exact v_su_NoFields_CrossError
  · exact v_ki_NoFields_CrossError
  · exact v_ki_NoFields_NoFields
  · exact v_ki_NoFields_NoSieve
  · exact v_ki_NoFields_NoView
  · exact v_ki_NoFields_NoHead
  · exact v_ki_NoFields_NoNet
  · exact v_ki_NoFields_NoWhole
  · exact v_ki_NoFields_NoGroups
  · exact v_ki_NoFields_NoLine
  · exact v_ki_NoFields_NoRow
  · exact v_ki_NoFields_NoSuch
  · exact v_ki_NoFields_NoField
  · exact v_ki_NoFields_NoKind
  · exact v_ki_NoFields_NoVeil
  · exact v_kv_NoFields
  · exact v_su_NoHead_CrossError
  · exact v_ki_NoHead_CrossError
  · exact v_ki_NoHead_NoFields
  · exact v_ki_NoHead_NoSieve
  · exact v_ki_NoHead_NoView
  · exact v_ki_NoHead_NoHead
  · exact v_ki_NoHead_NoNet
  · exact v_ki_NoHead_NoWhole
  · exact v_ki_NoHead_NoGroups
  · exact v_ki_NoHead_NoLine
  · exact v_ki_NoHead_NoRow
  · exact v_ki_NoHead_NoSuch
  · exact v_ki_NoHead_NoField
  · exact v_ki_NoHead_NoKind
  · exact v_ki_NoHead_NoVeil
  · exact v_kv_NoHead
  · exact v_su_NoKind_CrossError
  · exact v_ki_NoKind_CrossError
  · exact v_ki_NoKind_NoFields
  · exact v_ki_NoKind_NoSieve
  · exact v_ki_NoKind_NoView
  · exact v_ki_NoKind_NoHead
  · exact v_ki_NoKind_NoNet
  · exact v_ki_NoKind_NoWhole
  · exact v_ki_NoKind_NoGroups
  · exact v_ki_NoKind_NoLine
  · exact v_ki_NoKind_NoRow
  · exact v_ki_NoKind_NoSuch
  · exact v_ki_NoKind_NoField
  · exact v_ki_NoKind_NoKind
  · exact v_ki_NoKind_NoVeil
  · exact v_kv_NoKind
  · exact v_su_NoRow_CrossError
  · exact v_ki_NoRow_CrossError
  · exact v_ki_NoRow_NoFields
  · exact v_ki_NoRow_NoSieve
  · exact v_ki_NoRow_NoView
  · exact v_ki_NoRow_NoHead
  · exact v_ki_NoRow_NoNet
  · exact v_ki_NoRow_NoWhole
  · exact v_ki_NoRow_NoGroups
  · exact v_ki_NoRow_NoLine
  · exact v_ki_NoRow_NoRow
  · exact v_ki_NoRow_NoSuch
  · exact v_ki_NoRow_NoField
  · exact v_ki_NoRow_NoKind
  · exact v_ki_NoRow_NoVeil
  · exact v_kv_NoRow
  · exact v_su_NoSieve_CrossError
  · exact v_ki_NoSieve_CrossError
  · exact v_ki_NoSieve_NoFields
  · exact v_ki_NoSieve_NoSieve
  · exact v_ki_NoSieve_NoView
  · exact v_ki_NoSieve_NoHead
  · exact v_ki_NoSieve_NoNet
  · exact v_ki_NoSieve_NoWhole
  · exact v_ki_NoSieve_NoGroups
  · exact v_ki_NoSieve_NoLine
  · exact v_ki_NoSieve_NoRow
  · exact v_ki_NoSieve_NoSuch
  · exact v_ki_NoSieve_NoField
  · exact v_ki_NoSieve_NoKind
  · exact v_ki_NoSieve_NoVeil
  · exact v_kv_NoSieve
  · exact v_su_NoSuch_CrossError
  · exact v_ki_NoSuch_CrossError
  · exact v_ki_NoSuch_NoFields
  · exact v_ki_NoSuch_NoSieve
  · exact v_ki_NoSuch_NoView
  · exact v_ki_NoSuch_NoHead
  · exact v_ki_NoSuch_NoNet
  · exact v_ki_NoSuch_NoWhole
  · exact v_ki_NoSuch_NoGroups
  · exact v_ki_NoSuch_NoLine
  · exact v_ki_NoSuch_NoRow
  · exact v_ki_NoSuch_NoSuch
  · exact v_ki_NoSuch_NoField
  · exact v_ki_NoSuch_NoKind
  · exact v_ki_NoSuch_NoVeil
  · exact v_kv_NoSuch
  · exact v_su_NoView_CrossError
  · exact v_ki_NoView_CrossError
  · exact v_ki_NoView_NoFields
  · exact v_ki_NoView_NoSieve
  · exact v_ki_NoView_NoView
  · exact v_ki_NoView_NoHead
  · exact v_ki_NoView_NoNet
  · exact v_ki_NoView_NoWhole
  · exact v_ki_NoView_NoGroups
  · exact v_ki_NoView_NoLine
  · exact v_ki_NoView_NoRow
  · exact v_ki_NoView_NoSuch
  · exact v_ki_NoView_NoField
  · exact v_ki_NoView_NoKind
  · exact v_ki_NoView_NoVeil
  · exact v_kv_NoView
  · exact (PySem.W.mg_none_of X G z_ValueError)
  · exact (PySem.W.mg_none_of X G z_abs)
  · exact (PySem.W.mg_none_of X G z_all)
  · exact (PySem.W.mg_none_of X G z_bool)
  · exact (PySem.W.mg_none_of X G z_enumerate)
  · exact (PySem.W.mg_none_of X G z_int)
  · exact (PySem.W.mg_none_of X G z_isinstance)
  · exact (PySem.W.mg_none_of X G z_len)
  · exact (PySem.W.mg_none_of X G z_list)
  · exact (PySem.W.mg_none_of X G z_min)
  · exact (PySem.W.mg_none_of X G z_range)
  · exact (PySem.W.mg_none_of X G z_set)
  · exact (PySem.W.mg_none_of X G z_sorted)
  · exact (PySem.W.mg_none_of X G z_str)
  · exact (PySem.W.mg_none_of X G z_tuple)
  · exact (PySem.W.mg_none_of X G z_zip)
  · exact ⟨_, PySem.W.mg_of X G y_LETTERS⟩
  · exact ⟨_, PySem.W.mg_of X G y_FIGURES⟩
  · exact ⟨_, PySem.W.mg_of X G y_MOST_SIGNS⟩
  · exact (PySem.W.mg_of X G y_KINDS)
  · exact (fun _ => .inr ⟨_, _, _, l30, rfl, rfl, small_line (Nat.le_of_ble_eq_true rfl), (.cons ⟨_, rfl⟩ (.cons ⟨_, rfl⟩ .nil))⟩)
  · exact ⟨_, PySem.W.mg_of X G y_MOST_FIELDS⟩
  · exact ⟨_, PySem.W.mg_of X G y_MOST_LEVELS⟩
  · exact ⟨_, PySem.W.mg_of X G y_MOST_SIEVES⟩
  · exact (PySem.W.mg_of X G y_JOINTS)
  · exact ⟨m45, by decide, es45, n45, l45, k45, v45⟩
  · exact (PySem.W.mg_of X G y_NAMED_FORMS)
  · exact (fun _ => .inr ⟨_, _, _, l52, rfl, rfl, small_line (Nat.le_of_ble_eq_true rfl), (.cons ⟨_, rfl⟩ (.cons ⟨_, rfl⟩ (.cons ⟨_, rfl⟩ (.cons ⟨_, rfl⟩ .nil))))⟩)
  · exact ⟨_, PySem.W.mg_of X G y_MOST_NAMES⟩
  · exact ⟨_, PySem.W.mg_of X G y_MOST_FIGURES_heads⟩
local macro_rules | `(tactic| walk_at "dl") => `(tactic| ((try dsimp only [tAugS, ipI, iZip, tAug, iEnum, tMake, tBreak, tSortSet, sFldAug, iItems, iZipT, rStarts3, rAdd, tNever, cxOf, L2.Cx.inTry, L2.Cx.inHand]); simp only [L2.start, tSeq, tNext, tIfS, tRet, tRetN, tAsg, tDrop, gName, tVar, tC, tOp, tUn, tCall, tCB, tCons, tNil, tTest, tB, tNot, tAnd, tOr, tAndV, tOrV, tNotV, tIf, tChain, tLst, tTup, tBM, tBM0, rI, rI0, rU, rEq, rNe, scal, tComp, iStr, iList, iTup, iRng1, iRng2, tYes, rIsP, rAll, rLenS, rLenV, rListOf, rTupleOf, tDisp, tPairs, tSl, tPart, tNoPart, rSlS, rSlL, rFind, rStarts, rIntT, rStrA, rRepS, tCallX, tRaise, tRaiseI, tTry, tAs, offE, tXF, sXset, tMethX, tMakeX, rIsX, tFld, sFld, tMeth, rSortD, rDPop, tDNewK, tDIn, tDNotIn, tDGet, sDPut, rIndexS, tStop, gSub, 
  List.map_cons, List.map_nil, List.cons_append, List.nil_append, List.length_cons, List.length_nil, List.getElem?_cons_zero, List.getElem?_cons_succ, Option.some.injEq, exists_eq_left', exists_eq_left, List.set_cons_zero, List.set_cons_succ, List.cons.injEq, and_true, true_and, V.int.injEq, V.str.injEq, V.bl.injEq, V.ref.injEq, V.ty.injEq, exists_and_left, exists_and_right, List.append_nil, reduceCtorEq, false_and, and_false, exists_false, or_false, false_or, decide_true, decide_false, Bool.not_true, Bool.not_false, if_true, if_false, Bool.false_eq_true, ite_true, ite_false, and_assoc, Nat.reduceAdd, Nat.reduceSub, List.replicate_succ, List.replicate_zero, Nat.zero_add, Nat.add_zero, Nat.sub_self, Int.reduceEq, Int.reduceLT, Int.reduceLE, ↓reduceIte, decide_eq_true_eq]))
local macro_rules | `(tactic| walk_at "dc") => `(tactic| ((try dsimp only [tAugS, ipI, iZip, sFldAug, iItems, iZipT, rStarts3, rAdd, tNever, cxOf, L2.Cx.inTry, L2.Cx.inHand]); simp only [L2.start, tSeq, tNext, tIfS, tRet, tRetN, tAsg, tDrop, gName, tVar, tC, tOp, tUn, tCall, tCB, tCons, tNil, tTest, tB, tNot, tAnd, tOr, tAndV, tOrV, tNotV, tIf, tChain, tLst, tTup, tBM, tBM0, rI, rI0, rU, rEq, rNe, scal, tComp, iStr, iList, iTup, iRng1, iRng2, tYes, rIsP, rAll, rLenS, rLenV, rListOf, rTupleOf, tDisp, tPairs, tSl, tPart, tNoPart, rSlS, rSlL, rFind, rStarts, rIntT, rStrA, rRepS, tCallX, tRaise, tRaiseI, tTry, tAs, offE, tXF, sXset, tMethX, tMakeX, rIsX, tFld, sFld, tMeth, rSortD, rDPop, tDNewK, tDIn, tDNotIn, tDGet, sDPut, rIndexS, tStop, gSub, 
  List.map_cons, List.map_nil, List.cons_append, List.nil_append, List.length_cons, List.length_nil, List.getElem?_cons_zero, List.getElem?_cons_succ, Option.some.injEq, exists_eq_left', exists_eq_left, List.set_cons_zero, List.set_cons_succ, List.cons.injEq, and_true, true_and, V.int.injEq, V.str.injEq, V.bl.injEq, V.ref.injEq, V.ty.injEq, exists_and_left, exists_and_right, List.append_nil, reduceCtorEq, false_and, and_false, exists_false, or_false, false_or, decide_true, decide_false, Bool.not_true, Bool.not_false, if_true, if_false, Bool.false_eq_true, ite_true, ite_false, and_assoc, Nat.reduceAdd, Nat.reduceSub, List.replicate_succ, List.replicate_zero, Nat.zero_add, Nat.add_zero, Nat.sub_self]))
local macro_rules | `(tactic| walk_at "py") => `(tactic| ((try dsimp only [tDIn, tDNotIn, tDGet, sDPut, rIndexS, tStop, tAugS, ipI, iZip, gSub, sFldAug, iItems, iZipT, rStarts3, rAdd, tNever, cxOf, L2.Cx.inTry, L2.Cx.inHand]); simp only [L2.start, tSeq, tNext, tIfS, tRet, tRetN, tAsg, tDrop, gName, tVar, tC, tOp, tUn, tCall, tCB, tCons, tNil, tTest, tB, tNot, tAnd, tOr, tAndV, tOrV, tNotV, tIf, tChain, tLst, tTup, tBM, tBM0, rI, rI0, rU, rEq, rNe, scal, tComp, iStr, iList, iTup, iRng1, iRng2, tYes, rIsP, rAll, rLenS, rLenV, rListOf, rTupleOf, tDisp, tPairs, tSl, tPart, tNoPart, rSlS, rSlL, rFind, rStarts, rIntT, rStrA, rRepS, tCallX, tRaise, tRaiseI, tTry, tAs, offE, tXF, sXset, tMethX, tMakeX, rIsX, tFld, sFld, tMeth, rSortD, rDPop, tDNewK, 
  List.map_cons, List.map_nil, List.cons_append, List.nil_append, List.length_cons, List.length_nil, List.getElem?_cons_zero, List.getElem?_cons_succ, Option.some.injEq, exists_eq_left', exists_eq_left, List.set_cons_zero, List.set_cons_succ, List.cons.injEq, and_true, true_and, V.int.injEq, V.str.injEq, V.bl.injEq, V.ref.injEq, V.ty.injEq, exists_and_left, exists_and_right, List.append_nil, reduceCtorEq, false_and, and_false, exists_false, or_false, false_or, decide_true, decide_false, Bool.not_true, Bool.not_false, if_true, if_false, Bool.false_eq_true, ite_true, ite_false, and_assoc, Nat.reduceAdd, Nat.reduceSub, List.replicate_succ, List.replicate_zero, Nat.zero_add, Nat.add_zero, Nat.sub_self]))
section
variable {P : Program} {w : World} {K : PySem.W.Frag} {mg : Str → Option Value} {base : Heap} {f : Nat → Addr} {fd : Nat → FuncData}
noncomputable def madeOf (z g : Str) : Bool := z.cps.toList.all fun c => decide (c ∈ g.cps.toList)
noncomputable def sp_is_made_of (_ : PySem.W.Frag) : Sp := fun vs H Q _ => ∃ z g, vs = [.str z, .str g] ∧ z.length ≤ sizeLine ∧ ∀ H', Same H H' → Q (.bl (madeOf z g)) H'
theorem ok_is_made_of (T : Txt w K mg f fd) : FnOk P w K mg base CX0 1 (f 21) (fd 21) ["text", "signs"] (sp_is_made_of K) := by
  refine T.d_is_made_of.F.ok sc_is_made_of (fun vs H Q E h => ?_) (fun cdv A outer s H vs Q E hr h => ?_)
  · obtain ⟨z, g, rfl, _⟩ := h
    rfl
  · obtain ⟨z, g, rfl, hz, k⟩ := h
    refine ⟨_, (pss_one (ps_ret (pe_cB (k_all rfl rfl) T.n_all bt_all rfl (by decide) (by decide) rfl (pal rfl (pe_comp ["sign"] ["text", "signs"] rfl (show CompSc _ (defScope s_is_made_of) ["text", "signs"] ["text", "signs"] from compOk_is (by decide +kernel)) (pi_str (pvl 0)) (fun _ _ _ _ _ => (pgl 0 (show (["sign", "text", "signs"] : List Str).Nodup by decide +kernel))) (fun _ _ _ _ _ => pts_nil) (fun _ _ _ _ _ => (pe_cmpR op_in_str (pvl 0) (pvc 2) rfl))) pa_nil)))), ?_⟩
    walk_at "py"
    refine comp_of (as := z.cps.toList) (g := sgn) walk_str (by rw [Array.length_toList]; exact hz) (fun _ _ => trivial) (fun _ => true) (fun c => .bl (decide (c ∈ g.cps.toList))) (fun c H1 Q _ _ q => q H1 (Same.refl _)) (fun c H1 Q _ _ _ q => ?_) (fun H' s1 D hD => ?_)
    · walk_at "py"
      unfold sgn
      walk_at "py"
      rw [in_sgn]
      exact q H1 (Same.refl _)
    · refine ⟨z.cps.toList.map fun c => decide (c ∈ g.cps.toList), .of (by rw [upd_same, filter_yes, List.map_map]; rfl), ?_⟩
      have e : (z.cps.toList.map fun c => decide (c ∈ g.cps.toList)).all id = madeOf z g := by unfold madeOf; rw [List.all_map]; rfl
      rw [e]
      exact k _ (s1.new hD _)
noncomputable def shortV (x : V) (g : Str) : Bool := match x with
  | .str z => decide (1 ≤ z.length) && (decide (z.length ≤ 12) && madeOf z g)
  | _ => false
noncomputable def sp_is_short_text (K : PySem.W.Frag) : Sp := fun vs H Q _ => ∃ x g T, vs = [x, .str g] ∧ Pl K H x T ∧ ∀ H', Same H H' → Q (.bl (shortV x g)) H'
theorem ok_is_short_text (T : Txt w K mg f fd) : FnOk P w K mg base CX0 2 (f 22) (fd 22) ["thing", "signs"] (sp_is_short_text K) := by
  refine T.d_is_short_text.F.ok sc_is_short_text (fun vs H Q E h => ?_) (fun cdv A outer s H vs Q E hr h => ?_)
  · obtain ⟨x, g, T, rfl, _⟩ := h
    rfl
  · obtain ⟨x, g, t, rfl, p, k⟩ := h
    refine ⟨_, (pss_cons (ps_if (pt_not (pt_val (pe_cB (k_isP rfl) T.n_isinstance bt_isinstance rfl (by decide) (by decide) rfl (pal rfl (pvl 0) (pal rfl (pty T.n_str bt_str) pa_nil)))))
     (pss_one (ps_ret pe_bl))
     pss_nil)
     (pss_one (ps_ret (pe_and (pe_chain op_le op_le pe_int (pe_cB call_len_str T.n_len bt_len rfl (by decide) (by decide) rfl (pal rfl (pvl 0) pa_nil)) (pgi T.g_MOST_SIGNS)) (pe_one (pe_defL T.d_is_made_of (ok_is_made_of T) (hr.mono (by decide)) rfl (by decide) rfl (pal rfl (pvl 0) (pal rfl (pvl 1) pa_nil)))))))), ?_⟩
    walk_at "py"
    refine ⟨t, p, by decide, ?_⟩
    rcases p.name with ⟨rfl, rfl⟩ | ⟨b, rfl, rfl⟩ | ⟨i, rfl, rfl⟩ | ⟨z, rfl, rfl, hz⟩ | ⟨a, rfl | rfl | rfl, rfl⟩
    case inr.inr.inr.inl =>
      rw [show isiN "str" "str" = true from rfl]
      walk_at "py"
      refine ⟨hz, ?_⟩
      by_cases h1 : (1 : Int) ≤ (z.length : Int)
      · by_cases h2 : (z.length : Int) ≤ 12
        · rw [if_pos (decide_eq_true h1), if_pos (decide_eq_true h2)]
          refine ⟨z, g, rfl, hz, fun H' s1 => ?_⟩
          have e : shortV (.str z) g = madeOf z g := by
            show (decide (1 ≤ z.length) && (decide (z.length ≤ 12) && madeOf z g)) = _
            rw [decide_eq_true (by omega), decide_eq_true (by omega)]; rfl
          rw [← e]; exact k H' s1
        · rw [if_pos (decide_eq_true h1), if_neg (by simpa using h2)]
          have e : shortV (.str z) g = false := by
            show (decide (1 ≤ z.length) && (decide (z.length ≤ 12) && madeOf z g)) = _
            rw [decide_eq_false (show ¬ z.length ≤ 12 by omega), Bool.false_and, Bool.and_false]
          rw [← e]; exact k H (Same.refl H)
      · rw [if_neg (by simpa using h1)]
        have e : shortV (.str z) g = false := by
          show (decide (1 ≤ z.length) && (decide (z.length ≤ 12) && madeOf z g)) = _
          rw [decide_eq_false (show ¬ 1 ≤ z.length by omega), Bool.false_and]
        rw [← e]; exact k H (Same.refl H)
    all_goals
      rw [if_pos (by decide)]
      exact k H (Same.refl H)
noncomputable abbrev letters : Str := "abcdefghijklmnopqrstuvwxyz"
noncomputable def sp_is_name (K : PySem.W.Frag) : Sp := fun vs H Q _ => ∃ x T, vs = [x] ∧ Pl K H x T ∧ ∀ H', Same H H' → Q (.bl (shortV x letters)) H'
theorem ok_is_name (T : Txt w K mg f fd) : FnOk P w K mg base CX0 3 (f 23) (fd 23) ["thing"] (sp_is_name K) := by
  refine T.d_is_name.F.ok sc_is_name (fun vs H Q E h => ?_) (fun cdv A outer s H vs Q E hr h => ?_)
  · obtain ⟨x, T, rfl, _⟩ := h
    rfl
  · obtain ⟨x, t, rfl, p, k⟩ := h
    refine ⟨_, (pss_one (ps_ret (pe_defL T.d_is_short_text (ok_is_short_text T) (hr.mono (by decide)) rfl (by decide) rfl (pal rfl (pvl 0) (pal rfl (pgs T.g_LETTERS) pa_nil))))), ?_⟩
    walk_at "py"
    exact ⟨x, _, t, rfl, p, k⟩
noncomputable abbrev figures : Str := "0123456789"
noncomputable def sp_is_word (K : PySem.W.Frag) : Sp := fun vs H Q _ => ∃ x T, vs = [x] ∧ Pl K H x T ∧ ∀ H', Same H H' → Q (.bl (shortV x (letters ++ figures))) H'
theorem ok_is_word (T : Txt w K mg f fd) : FnOk P w K mg base CX0 3 (f 24) (fd 24) ["thing"] (sp_is_word K) := by
  refine T.d_is_word.F.ok sc_is_word (fun vs H Q E h => ?_) (fun cdv A outer s H vs Q E hr h => ?_)
  · obtain ⟨x, T, rfl, _⟩ := h
    rfl
  · obtain ⟨x, t, rfl, p, k⟩ := h
    refine ⟨_, (pss_one (ps_ret (pe_defL T.d_is_short_text (ok_is_short_text T) (hr.mono (by decide)) rfl (by decide) rfl (pal rfl (pvl 0) (pal rfl (pe_op op_add_str (pgs T.g_LETTERS) (pgs T.g_FIGURES)) pa_nil))))), ?_⟩
    walk_at "py"
    exact ⟨small_line (by decide), x, _, t, rfl, p, k⟩
noncomputable def numV (x : V) : Bool := match x with
  | .int i => decide ((if i < 0 then -i else i) < 10 ^ 60)
  | _ => false
noncomputable def sp_is_number (K : PySem.W.Frag) : Sp := fun vs H Q _ => ∃ x T, vs = [x] ∧ Pl K H x T ∧ Q (.bl (numV x)) H
theorem ok_is_number (T : Txt w K mg f fd) : FnOk P w K mg base CX0 1 (f 25) (fd 25) ["thing"] (sp_is_number K) := by
  refine T.d_is_number.F.ok sc_is_number (fun vs H Q E h => ?_) (fun cdv A outer s H vs Q E hr h => ?_)
  · obtain ⟨x, T, rfl, _⟩ := h
    rfl
  · obtain ⟨x, t, rfl, p, k⟩ := h
    refine ⟨_, (pss_cons (ps_if (PW.pt (pw_or (pt_not (pt_val (pe_cB (k_isP rfl) T.n_isinstance bt_isinstance rfl (by decide) (by decide) rfl (pal rfl (pvl 0) (pal rfl (pty T.n_int bt_int) pa_nil))))) (pw_or1 (pt_val (pe_cB (k_isP rfl) T.n_isinstance bt_isinstance rfl (by decide) (by decide) rfl (pal rfl (pvl 0) (pal rfl (pty T.n_bool bt_bool) pa_nil)))))))
     (pss_one (ps_ret pe_bl))
     pss_nil)
     (pss_one (ps_ret (pe_cmpR op_lt (pe_cB call_abs T.n_abs bt_abs rfl (by decide) (by decide) rfl (pal rfl (pvl 0) pa_nil)) (pe_op op_pow pe_int pe_int) (nomark _))))), ?_⟩
    walk_at "py"
    refine ⟨t, p, by decide, ?_⟩
    rcases p.name with ⟨rfl, rfl⟩ | ⟨b, rfl, rfl⟩ | ⟨i, rfl, rfl⟩ | ⟨z, rfl, rfl, hz⟩ | ⟨a, rfl | rfl | rfl, rfl⟩
    case inr.inr.inl =>
      rw [show isiN "int" "int" = true from rfl]
      walk_at "py"
      refine ⟨"int", p, by decide, ?_⟩
      rw [show isiN "int" "bool" = false from rfl]
      walk_at "py"
      exact ⟨⟨by decide, by decide, by decide⟩, k⟩
    case inr.inl =>
      rw [show isiN "bool" "int" = true from rfl]
      walk_at "py"
      refine ⟨"bool", p, by decide, ?_⟩
      rw [show isiN "bool" "bool" = true from rfl]
      walk_at "py"
      exact k
    all_goals
      rw [if_pos (by decide)]
      exact k
noncomputable def valB (kd : Str) (x : V) : Bool := if x = .non then true else if kd = "number" then numV x else shortV x (letters ++ figures)
noncomputable def sp_is_value (K : PySem.W.Frag) : Sp := fun vs H Q _ => ∃ kd x T, vs = [.str kd, x] ∧ Pl K H x T ∧ ∀ H', Same H H' → Q (.bl (valB kd x)) H'
theorem ok_is_value (T : Txt w K mg f fd) : FnOk P w K mg base CX0 4 (f 26) (fd 26) ["kind", "thing"] (sp_is_value K) := by
  refine T.d_is_value.F.ok sc_is_value (fun vs H Q E h => ?_) (fun cdv A outer s H vs Q E hr h => ?_)
  · obtain ⟨kd, x, T, rfl, _⟩ := h
    rfl
  · obtain ⟨kd, x, t, rfl, p, k⟩ := h
    refine ⟨_, (pss_cons (ps_if (pt_cmpR op_isN (pvl 1) pe_non (nomark _))
     (pss_one (ps_ret pe_bl))
     pss_nil)
     (pss_cons (ps_if (pt_cmpR op_eq (pvl 0) pe_str (nomark _))
     (pss_one (ps_ret (pe_defL T.d_is_number (ok_is_number T) (hr.mono (by decide)) rfl (by decide) rfl (pal rfl (pvl 1) pa_nil))))
     pss_nil)
     (pss_one (ps_ret (pe_defL T.d_is_word (ok_is_word T) (hr.mono (by decide)) rfl (by decide) rfl (pal rfl (pvl 1) pa_nil)))))), ?_⟩
    walk_at "py"
    by_cases c : x = .non
    · rw [if_pos (decide_eq_true c)]
      unfold valB at k
      rw [if_pos c] at k
      exact k H (Same.refl H)
    · rw [if_neg (by simpa using c)]
      unfold valB at k
      rw [if_neg c] at k
      by_cases hk : kd = Str.ofString "number"
      · rw [if_pos (decide_eq_true hk)]
        rw [if_pos hk] at k
        exact ⟨x, t, rfl, p, k H (Same.refl H)⟩
      · rw [if_neg (by simpa using hk)]
        rw [if_neg hk] at k
        exact ⟨x, t, rfl, p, k⟩
noncomputable def mixI (a b : Int) : Int := ((a % 2147483647 * 48271 + b * 7919 + 11) % 2147483647 * ((a % 2147483647 * 48271 + b * 7919 + 11) % 2147483647) % 2147483629 * 69621) % 2147483647
noncomputable def sp_l_mix (K : PySem.W.Frag) : Sp := fun vs H Q _ => ∃ a b, vs = [.int a, .int b] ∧ Q (.int (mixI a b)) H
theorem ok_l_mix (T : Txt w K mg f fd) : FnOk P w K mg base CX0 1 (f 65) (fd 65) ["_law_seed", "_law_k"] (sp_l_mix K) := by
  refine T.d_l_mix.F.ok sc_l_mix (fun vs H Q E h => ?_) (fun cdv A outer s H vs Q E hr h => ?_)
  · obtain ⟨x, T, rfl, _⟩ := h
    rfl
  · obtain ⟨a, b, rfl, k⟩ := h
    refine ⟨_, (pss_cons (psl 2 sc_l_mix.nd (pe_op op_mod (pe_op op_add (pe_op op_add (pe_op op_mul (pe_op op_mod (pvl 0) pe_int) pe_int) (pe_op op_mul (pvl 1) pe_int)) pe_int) pe_int))
     (pss_one (ps_ret (pe_op op_mod (pe_op op_mul (pe_op op_mod (pe_op op_mul (pvl 2) (pvl 2)) pe_int) pe_int) pe_int)))), ?_⟩
    walk_at "py"
    repeat (refine And.intro (by first | decide | omega | exact Or.inl ⟨by omega, by omega⟩ | exact Or.inr ⟨by omega, by omega⟩ | exact ⟨by omega, by omega⟩ | exact ⟨by decide, by decide, by decide⟩) ?_)
    exact k
noncomputable def sp_l_cell_at (K : PySem.W.Frag) : Sp := fun vs H Q _ => ∃ (a : Addr) (ns : List Int) (i : Int), vs = [.ref a, .int i] ∧ SqL K H a (ns.map V.int) ∧ 0 ≤ i ∧ ∀ v, Q (.int v) H
theorem ok_l_cell_at (T : Txt w K mg f fd) : FnOk P w K mg base CX0 1 (f 64) (fd 64) ["_law_script", "_law_k"] (sp_l_cell_at K) := by
  refine T.d_l_cell_at.F.ok sc_l_cell_at (fun vs H Q E h => ?_) (fun cdv A outer s H vs Q E hr h => ?_)
  · obtain ⟨x, T, _, rfl, _⟩ := h
    rfl
  · obtain ⟨a, ns, i, rfl, hs, h0, k⟩ := h
    refine ⟨_, (pss_cons (ps_if (pt_cmpR op_lt (pvl 1) (pe_cB (k_len rfl) T.n_len bt_len rfl (by decide) (by decide) rfl (pal rfl (pvl 0) pa_nil)) (nomark _))
     (pss_one (ps_ret (pe_ix (k_ixL rfl) (pvl 0) (pvl 1) (fun _ _ => rfl))))
     pss_nil)
     (pss_one (ps_ret pe_int))), ?_⟩
    walk_at "py"
    refine ⟨_, .inl hs, ?_⟩
    rw [List.length_map]
    by_cases h : i < (ns.length : Int)
    · rw [if_pos (decide_eq_true h)]
      obtain ⟨j, rfl⟩ : ∃ j : Nat, i = (j : Int) := ⟨i.toNat, by omega⟩
      have hj : j < ns.length := by omega
      refine ⟨a, _, _, .int ns[j], rfl, rfl, hs, atI_nat (by rw [List.getElem?_map, List.getElem?_eq_getElem hj]; rfl), k _⟩
    · rw [if_neg (by simpa using h)]
      exact k _
noncomputable def sp_NoRow___init__ (K : PySem.W.Frag) : Sp := fun vs H Q _ => ∃ a C v ini, vs = [.ref a, v] ∧ H a = some (ExN a (.ref C) none) ∧ exB K C ini = true ∧ PySem.W.hasDictIn K C = true ∧ PySem.W.findIn K (.ref C) "__setattr__" = some (some (.builtin "object.__setattr__")) ∧ PySem.W.findIn K (.ref C) "place" = some none ∧
  ∀ dx, H dx = none → dx ≠ a → Q .non (upd (upd H dx (.xd [("place", v)])) a (ExN a (.ref C) (some dx)))
theorem ok_NoRow___init__ (T : Txt w K mg f fd) : FnOk P w K mg base CX0 1 (f 12000) (fd 12000) ["self", "place"] (sp_NoRow___init__ K) := by
  refine T.d_NoRow___init__.F.ok sc_NoRow___init__ (fun vs H Q E h => ?_) (fun cdv A outer s H vs Q E hr h => ?_)
  · obtain ⟨a, C, v, ini, rfl, _⟩ := h
    rfl
  · obtain ⟨a, C, v, ini, rfl, e1, e2, e3, e4, e5, k⟩ := h
    refine ⟨_, (pss_one (ps_xset (pvl 0) (pvl 1) rfl)), ?_⟩
    walk_at "py"
    exact ⟨C, e1, ⟨ini, e2⟩, e3, e4, e5, k⟩
noncomputable def sp_NoSuch___init__ (K : PySem.W.Frag) : Sp := fun vs H Q _ => ∃ a C v ini, vs = [.ref a, v] ∧ H a = some (ExN a (.ref C) none) ∧ exB K C ini = true ∧ PySem.W.hasDictIn K C = true ∧ PySem.W.findIn K (.ref C) "__setattr__" = some (some (.builtin "object.__setattr__")) ∧ PySem.W.findIn K (.ref C) "number" = some none ∧
  ∀ dx, H dx = none → dx ≠ a → Q .non (upd (upd H dx (.xd [("number", v)])) a (ExN a (.ref C) (some dx)))
theorem ok_NoSuch___init__ (T : Txt w K mg f fd) : FnOk P w K mg base CX0 1 (f 13000) (fd 13000) ["self", "number"] (sp_NoSuch___init__ K) := by
  refine T.d_NoSuch___init__.F.ok sc_NoSuch___init__ (fun vs H Q E h => ?_) (fun cdv A outer s H vs Q E hr h => ?_)
  · obtain ⟨a, C, v, ini, rfl, _⟩ := h
    rfl
  · obtain ⟨a, C, v, ini, rfl, e1, e2, e3, e4, e5, k⟩ := h
    refine ⟨_, (pss_one (ps_xset (pvl 0) (pvl 1) rfl)), ?_⟩
    walk_at "py"
    exact ⟨C, e1, ⟨ini, e2⟩, e3, e4, e5, k⟩
noncomputable abbrev kinds2 : List V := [.str "word", .str "number"]
noncomputable def FieldR (K : PySem.W.Frag) (H : Hp) (x : V) (r : Bool) : Prop := (∃ T, Pl K H x T ∧ T ≠ "tuple" ∧ r = false) ∨ ∃ p ys, x = .ref p ∧ H p = some (.tup ys) ∧
  ((ys.length ≠ 2 ∧ r = false) ∨ ∃ a b Ta, ys = [a, b] ∧ Pl K H a Ta ∧ (b = .non ∨ ∃ z, b = .str z) ∧ r = (shortV a letters && inV b kinds2))
noncomputable def sp_is_field (K : PySem.W.Frag) : Sp := fun vs H Q _ => ∃ x r, vs = [x] ∧ FieldR K H x r ∧ ∀ H', Same H H' → Q (.bl r) H'
theorem ok_is_field (T : Txt w K mg f fd) : FnOk P w K mg base CX0 4 (f 32) (fd 32) ["thing"] (sp_is_field K) := by
  refine T.d_is_field.F.ok sc_is_field (fun vs H Q E h => ?_) (fun cdv A outer s H vs Q E hr h => ?_)
  · obtain ⟨x, T, rfl, _⟩ := h
    rfl
  · obtain ⟨x, r, rfl, hx, k⟩ := h
    refine ⟨_, (pss_cons (ps_if (PW.pt (pw_or (pt_not (pt_val (pe_cB (k_isP rfl) T.n_isinstance bt_isinstance rfl (by decide) (by decide) rfl (pal rfl (pvl 0) (pal rfl (pty T.n_tuple bt_tuple) pa_nil))))) (pw_or1 (pt_cmpR op_ne (pe_cB (k_len rfl) T.n_len bt_len rfl (by decide) (by decide) rfl (pal rfl (pvl 0) pa_nil)) pe_int (nomark _)))))
     (pss_one (ps_ret pe_bl))
     pss_nil)
     (pss_one (ps_ret (pe_and (pe_defL T.d_is_name (ok_is_name T) (hr.mono (by decide)) rfl (by decide) rfl (pal rfl (pe_ix (k_ixT rfl) (pvl 0) pe_int (fun _ _ => rfl)) pa_nil)) (pe_one (pe_cmpR (k_in rfl) (pe_ix (k_ixT rfl) (pvl 0) pe_int (fun _ _ => rfl)) (pgcl T.g_KINDS rfl (by decide)) rfl)))))), ?_⟩
    walk_at "py"
    rcases hx with ⟨t, p, ht, rfl⟩ | ⟨p, ys, rfl, hp, hy⟩
    · refine ⟨t, p, by decide, ?_⟩
      rw [if_pos (by unfold isiN; simp [ht])]
      exact k H (Same.refl H)
    · refine ⟨_, Pl.of_tup hp, by decide, ?_⟩
      rw [show isiN "tuple" "tuple" = true from rfl]
      walk_at "py"
      refine ⟨ys, .inr (.of hp), ?_⟩
      rcases hy with ⟨h2, rfl⟩ | ⟨a, b, Ta, rfl, pa, hb, rfl⟩
      · rw [if_pos (by rw [decide_eq_false (by omega)]; rfl)]
        exact k H (Same.refl H)
      · rw [if_neg (by simp)]
        refine ixT_of (.of hp) (by decide) (by simp) fun v hv => ?_
        obtain rfl : a = v := by simpa using hv
        refine ⟨a, Ta, rfl, pa, fun H1 s1 => ⟨_, rfl, ?_⟩⟩
        cases hs : shortV a letters with
        | false =>
          rw [if_neg Bool.false_ne_true]
          rw [hs, Bool.false_and] at k
          exact k H1 s1
        | true =>
          rw [if_pos rfl]
          rw [hs, Bool.true_and] at k
          refine ixT_of (s1.seqT (.of hp)) (by decide) (by simp) fun v hv => ?_
          obtain rfl : b = v := by simpa using hv
          refine ⟨_, kinds2, rfl, .inr (T.t_KINDS H1), by rcases hb with rfl | ⟨z, rfl⟩ <;> rfl, by decide, ?_⟩
          rw [if_neg Bool.false_ne_true]
          exact k H1 s1
noncomputable def IsFld (H : Hp) (x : V) (n : Str) : Prop := ∃ p kd, x = .ref p ∧ H p = some (.tup [.str n, .str kd]) ∧ n.length ≤ sizeLine ∧ shortV (.str n) letters = true ∧ inV (.str kd) kinds2 = true
noncomputable def Flds (H : Hp) (xs : List V) (ns : List Str) : Prop := ns.length = xs.length ∧ ns.Nodup ∧ ∀ (i : Nat) x n, xs[i]? = some x → ns[i]? = some n → IsFld H x n
noncomputable def Fails (K : PySem.W.Frag) (H : Hp) (xs : List V) : Prop := ∃ (i : Nat) (ns : List Str) (x : V), Flds H (xs.take i) ns ∧ xs[i]? = some x ∧ (FieldR K H x false ∨ ∃ n ∈ ns, IsFld H x n)
noncomputable def sp_asked_fields (K : PySem.W.Frag) (f : Nat → Addr) : Sp := fun vs H Q E => ∃ x, vs = [x] ∧
  ((∃ T, Pl K H x T ∧ T ≠ "list" ∧ ∀ H', Same H H' → E (.ref (f 3)) none H') ∨ ∃ a xs, x = .ref a ∧ H a = some (.lst xs) ∧
    ((¬ (1 ≤ xs.length ∧ xs.length ≤ 8) ∧ ∀ H', Same H H' → E (.ref (f 3)) none H') ∨ (1 ≤ xs.length ∧ xs.length ≤ 8 ∧ ((Fails K H xs ∧ ∀ H', Same H H' → E (.ref (f 3)) none H') ∨ ∃ ns, Flds H xs ns ∧ ∀ H', Same H H' → Q (.bl true) H'))))
theorem ok_asked_fields (T : Txt w K mg f fd) : FnOk P w K mg base (CXE P w) 5 (f 33) (fd 33) ["fields"] (sp_asked_fields K f) := by
  refine T.d_asked_fields.F.okX sc_asked_fields (fun vs H Q E h => ?_) (fun cdv A outer s H vs Q E hr h => ?_)
  · obtain ⟨x, rfl, _⟩ := h
    rfl
  · obtain ⟨x, rfl, h⟩ := h
    refine ⟨_, (pss_cons (ps_if (pt_not (pt_val (pe_cB (k_isP rfl) T.n_isinstance bt_isinstance rfl (by decide) (by decide) rfl (pal rfl (pvl 0) (pal rfl (pty T.n_list bt_list) pa_nil)))))
     (pss_one (ps_raise told_cx rfl T.x_NoFields.x rfl T.x_NoFields.m (by decide) rfl (pal rfl pe_str pa_nil)))
     pss_nil)
     (pss_cons (ps_if (pt_not (pt_chain op_le op_le pe_int (pe_cB (k_len rfl) T.n_len bt_len rfl (by decide) (by decide) rfl (pal rfl (pvl 0) pa_nil)) (pgi T.g_MOST_FIELDS)))
     (pss_one (ps_raise told_cx rfl T.x_NoFields.x rfl T.x_NoFields.m (by decide) rfl (pal rfl pe_str pa_nil)))
     pss_nil)
     (pss_cons (psl 1 sc_asked_fields.nd pe_dnewK)
     (pss_cons (ps_for PassesOwn.leaving rfl (k_piL rfl (pvl 0)) (pgl 2 sc_asked_fields.nd)
     (pss_cons (ps_if (pt_not (pt_val (pe_defL T.d_is_field (ok_is_field T) (hr.mono (by decide)) rfl (by decide) rfl (pal rfl (pvl 2) pa_nil))))
     (pss_one (ps_raise told_cx rfl T.x_NoFields.x rfl T.x_NoFields.m (by decide) rfl (pal rfl pe_str pa_nil)))
     pss_nil)
     (pss_cons (ps_if (pt_cmp (pc_din (hu_of hr) (pe_ix (k_ixT rfl) (pvl 2) pe_int (fun _ _ => rfl)) (pvl 1)))
     (pss_one (ps_raise told_cx rfl T.x_NoFields.x rfl T.x_NoFields.m (by decide) rfl (pal rfl pe_str pa_nil)))
     pss_nil)
     (pss_one (ps_dput (hu_of hr) (pvl 1) (pe_ix (k_ixT rfl) (pvl 2) pe_int (fun _ _ => rfl)) pe_bl rfl)))))
     (pss_one (ps_ret pe_bl)))))), ?_⟩
    walk_at "py"
    rcases h with ⟨t, p, ht, k⟩ | ⟨a, xs, rfl, ha, h⟩
    · refine ⟨t, p, by decide, ?_⟩
      rw [if_pos (by unfold isiN; simp [ht])]
      exact ⟨small_line (by decide), k H (Same.refl H)⟩
    · refine ⟨_, Pl.of_lst ha, by decide, ?_⟩
      rw [show isiN "list" "list" = true from rfl]
      walk_at "py"
      refine ⟨xs, .inl (.of ha), ?_⟩
      rcases h with ⟨hl, k⟩ | ⟨h1, h8, h⟩
      · by_cases h1 : 1 ≤ xs.length
        · rw [if_pos (decide_eq_true (by omega)), if_pos (by rw [decide_eq_false (by omega)]; rfl)]
          exact ⟨small_line (by decide), k H (Same.refl H)⟩
        · rw [if_neg (by simp; omega)]
          exact ⟨small_line (by decide), k H (Same.refl H)⟩
      · rw [if_pos (decide_eq_true (by omega)), if_neg (by rw [decide_eq_true (by omega)]; decide)]
        intro p hp
        have t1 := Same.upd_new hp (HO.dK [])
        have g1 : upd H p (HO.dK []) p = some (.dK []) := upd_same
        generalize upd H p (HO.dK []) = H1 at *
        refine for_in ?_
        walk_at "py"
        refine ⟨⟨xs, t1.seq (.of ha)⟩, ?_⟩
        obtain ⟨m, ns, hm, hF, hend⟩ : ∃ (m : Nat) (ns : List Str), m ≤ xs.length ∧ Flds H (xs.take m) ns ∧ ((m = xs.length ∧ ∀ H', Same H H' → Q (.bl true) H') ∨ (∃ x, xs[m]? = some x ∧ (FieldR K H x false ∨ ∃ n ∈ ns, IsFld H x n) ∧ ∀ H', Same H H' → E (.ref (f 3)) none H')) := by
          rcases h with ⟨⟨i, ns, x, h1, h2, h3⟩, k⟩ | ⟨ns, h1, k⟩
          · exact ⟨i, ns, Nat.le_of_lt (List.getElem?_eq_some_iff.mp h2).1, h1, .inr ⟨x, h2, h3, k⟩⟩
          · exact ⟨xs.length, ns, Nat.le_refl _, by rw [List.take_length]; exact h1, .inl ⟨rfl, k⟩⟩
        obtain ⟨hnl, hnd, hfl⟩ := hF
        rw [List.length_take, Nat.min_eq_left hm] at hnl
        refine ForW.of walk_list (fun j σ H' => (∃ v2 kvs, σ = [some (V.ref a), some (V.ref p), v2] ∧ H' p = some (.dK kvs) ∧ kvs.length ≤ j ∧ ∀ n : Str, (valV kvs (.inr n)).isSome = decide (n ∈ ns.take j)) ∧ j ≤ m ∧ Same H H') ⟨⟨none, [], rfl, g1, Nat.le_refl _, fun n => by simp [valV]⟩, Nat.zero_le _, t1⟩ (fun _ _ _ _ q => q.2.2.seq (.of ha)) ?_ ?_
        · rintro j x σ H2 hx ⟨⟨v2, kvs, rfl, gk, hkl, hkv⟩, hjm, s2⟩
          have fieldAt : ∀ n, IsFld H x n → FieldR K H2 x true ∧ ∃ q kd, x = .ref q ∧ H2 q = some (.tup [.str n, .str kd]) := by
            rintro n ⟨q, kd, rfl, hq, hn, hs1, hs2⟩
            exact ⟨.inr ⟨q, _, rfl, s2 _ _ hq, .inr ⟨_, _, "str", rfl, .of_str hn, .inr ⟨kd, rfl⟩, by rw [hs1, hs2]; rfl⟩⟩, q, kd, rfl, s2 _ _ hq⟩
          have mono : ∀ r, FieldR K H x r → FieldR K H2 x r := by
            rintro r (⟨t, pt, ht, rfl⟩ | ⟨q, ys, rfl, hq, hy⟩)
            · exact .inl ⟨t, pt.mono s2, ht, rfl⟩
            · refine .inr ⟨q, ys, rfl, s2 _ _ hq, ?_⟩
              rcases hy with hy | ⟨a', b', Ta, rfl, pa, hb, rfl⟩
              · exact .inl hy
              · exact .inr ⟨a', b', Ta, rfl, pa.mono s2, hb, rfl⟩
          walk_at "py"
          by_cases hj : j < m
          · obtain ⟨n, hn⟩ : ∃ n, ns[j]? = some n := ⟨ns[j], List.getElem?_eq_getElem (by omega)⟩
            have fx := hfl j x n (by rw [List.getElem?_take_of_lt hj]; exact hx) hn
            obtain ⟨fr, q, kd, rfl, hq⟩ := fieldAt n fx
            refine ⟨_, true, rfl, fr, fun H3 s3 => ⟨_, rfl, ?_⟩⟩
            rw [if_neg (by decide)]
            have hnot : n ∉ ns.take j := fun hin => by
              obtain ⟨i, hi⟩ := List.mem_iff_getElem?.mp hin
              have hij : i < j := by
                have := (List.getElem?_eq_some_iff.mp hi).1
                rw [List.length_take] at this
                omega
              rw [List.getElem?_take_of_lt hij] at hi
              have := nodup_ix hnd hi hn
              omega
            unfold tDIn sDPut
            walk_at "py"
            refine ixT_of (.of (s3 _ _ hq)) (by decide) (by simp) fun v hv => ?_
            obtain rfl : V.str n = v := by simpa using hv
            refine ⟨_, DGet.k (k := .inr n) (s3 _ _ gk), ?_⟩
            rw [hkv n, decide_eq_false hnot, if_neg Bool.false_ne_true]
            refine ixT_of (.of (s3 _ _ hq)) (by decide) (by simp) fun v hv => ?_
            obtain rfl : V.str n = v := by simpa using hv
            refine ⟨_, DPut.k (k := .inr n) (s3 _ _ gk) (by rw [sizeLine_eq]; omega), ⟨_, rfl⟩, ⟨_, upd_same, Nat.le_trans (length_putK _ _ _) (by omega), fun n' => ?_⟩, hj, (s2.trans s3).set hp _⟩
            rw [valV_put, take_snoc hn]
            by_cases e : n' = n
            · subst e
              rw [if_pos rfl]
              simp
            · rw [if_neg (fun z => e (Sum.inr.inj z)), hkv n', decide_eq_decide]
              simp [e]
          · obtain rfl : j = m := by omega
            rcases hend with ⟨hl, _⟩ | ⟨x', hx', hbad, k⟩
            · exact absurd (List.getElem?_eq_some_iff.mp hx).1 (by omega)
            · obtain rfl : x = x' := Option.some.inj (hx.symm.trans hx')
              rcases hbad with hbad | ⟨n, hn, fx⟩
              · refine ⟨_, false, rfl, mono _ hbad, fun H3 s3 => ⟨_, rfl, ?_⟩⟩
                rw [if_pos (by decide)]
                exact ⟨small_line (by decide), k _ (s2.trans s3)⟩
              · obtain ⟨fr, q, kd, rfl, hq⟩ := fieldAt n fx
                refine ⟨_, true, rfl, fr, fun H3 s3 => ⟨_, rfl, ?_⟩⟩
                rw [if_neg (by decide)]
                unfold tDIn sDPut
                walk_at "py"
                refine ixT_of (.of (s3 _ _ hq)) (by decide) (by simp) fun v hv => ?_
                obtain rfl : V.str n = v := by simpa using hv
                refine ⟨_, DGet.k (k := .inr n) (s3 _ _ gk), ?_⟩
                rw [hkv n, decide_eq_true (by rw [← hnl, List.take_length]; exact hn), if_pos rfl]
                exact ⟨small_line (by decide), k _ (s2.trans s3)⟩
        · rintro σ H2 ⟨⟨v2, kvs, rfl, gk, hkl, hkv⟩, hjm, s2⟩
          walk_at "py"
          rcases hend with ⟨_, k⟩ | ⟨x, hx, _⟩
          · exact k _ s2
          · exact absurd (List.getElem?_eq_some_iff.mp hx).1 (by omega)
theorem asked_mono {K : PySem.W.Frag} {f : Nat → Addr} {vs : List V} {H : Hp} {Q Q' : VK} {E E' : XK} (h : sp_asked_fields K f vs H Q E) (q : ∀ v H', Q v H' → Q' v H') (e : ∀ C ed H', E C ed H' → E' C ed H') : sp_asked_fields K f vs H Q' E' := by
  obtain ⟨x, rfl, h⟩ := h
  refine ⟨x, rfl, ?_⟩
  rcases h with ⟨t, p, ht, k⟩ | ⟨a, xs, rfl, ha, h⟩
  · exact .inl ⟨t, p, ht, fun H' s => e _ _ _ (k H' s)⟩
  · refine .inr ⟨a, xs, rfl, ha, ?_⟩
    rcases h with ⟨hl, k⟩ | ⟨h1, h8, h⟩
    · exact .inl ⟨hl, fun H' s => e _ _ _ (k H' s)⟩
    · refine .inr ⟨h1, h8, ?_⟩
      rcases h with ⟨hf, k⟩ | ⟨ns, hf, k⟩
      · exact .inl ⟨hf, fun H' s => e _ _ _ (k H' s)⟩
      · exact .inr ⟨ns, hf, fun H' s => q _ _ (k H' s)⟩
theorem upd_swap {H : Hp} {a b : Addr} {o u : HO} (h : a ≠ b) : upd (upd H a o) b u = upd (upd H b u) a o := by
  funext c
  unfold upd
  by_cases e1 : c = a <;> by_cases e2 : c = b <;> simp [e1, e2]
  · exact absurd (e1.symm.trans e2) h
  · intro z
    exact absurd z h
  · intro z
    exact absurd z.symm h
noncomputable def sp_Sheet___init__ (K : PySem.W.Frag) (f : Nat → Addr) : Sp := fun vs H Q E => ∃ a dx x, vs = [.ref a, x] ∧ sp_asked_fields K f [x] H (fun _ H1 => ∃ l xs, x = .ref l ∧ H1 l = some (.lst xs) ∧ H1 a = some (.ins (f 36) dx []) ∧
  ∀ p, H1 p = none → ∀ d, upd H1 p (.lst xs) d = none → Q .non (upd (upd (upd H1 p (.lst xs)) d (.dK [])) a (.ins (f 36) dx [("kept_fields", .ref p), ("kept_rows", .ref d), ("given", .int 0)]))) E
theorem ok_Sheet___init__ (T : Txt w K mg f fd) : FnOk P w K mg base (CXE P w) 6 (f 37000) (fd 37000) ["self", "fields"] (sp_Sheet___init__ K f) := by
  refine T.d_Sheet___init__.F.okX sc_Sheet___init__ (fun vs H Q E h => ?_) (fun cdv A outer s H vs Q E hr h => ?_)
  · obtain ⟨x, y, _, rfl, _⟩ := h
    rfl
  · obtain ⟨a, dx, x, rfl, h⟩ := h
    refine ⟨_, (pss_cons (ps_expr (pe_defX told_cx T.d_asked_fields (ok_asked_fields T) (hr.mono (by decide)) rfl (by decide) rfl (pal rfl (pvl 1) pa_nil)))
     (pss_cons (ps_fld (pvl 0) (pe_cTy (k_list rfl) T.n_list bt_list rfl (by decide) (by decide) rfl (pal rfl (pvl 1) pa_nil)) rfl)
     (pss_cons (ps_fld (pvl 0) pe_dnewK rfl)
     (pss_one (ps_fld (pvl 0) pe_int rfl))))), ?_⟩
    walk_at "py"
    refine asked_mono h (fun v H1 z => ?_) fun _ _ _ z => z
    obtain ⟨l, xs, rfl, hl, ha, k⟩ := z
    refine ⟨l, rfl, xs, .inl (.of hl), fun p hp => ?_⟩
    have nap : a ≠ p := ne_of_none ha hp
    refine ⟨_, _, _, by rw [upd_ne nap]; exact ha, T.o_Sheet.cls, T.na_Sheet_kept_fields, by decide, fun d hd => ?_⟩
    have nad : d ≠ a := fun z => by subst z; rw [upd_same] at hd; cases hd
    refine ⟨_, _, _, by rw [upd_ne (Ne.symm nad), upd_same], T.o_Sheet.cls, T.na_Sheet_kept_rows, by simp [putF], _, _, _, upd_same, T.o_Sheet.cls, T.na_Sheet_given, ?_, ?_⟩
    · simp [putF]
      split <;> simp
    · rw [upd_ne nad] at hd
      have := k p hp d hd
      rw [upd_upd, upd_swap (Ne.symm nad), upd_upd]
      exact this
theorem raised {H1 : Hp} {a dx : Addr} {o1 o2 o3 : HO} (ha : H1 a = none) (hdx : upd H1 a o1 dx = none) (hne : dx ≠ a) : Same H1 (dropH (upd (upd (upd H1 a o1) dx o2) a o3) a) ∧ dropH (upd (upd (upd H1 a o1) dx o2) a o3) a dx = some o2 := by
  refine ⟨fun b o hb1 => ?_, ?_⟩
  · have n1 : b ≠ a := fun z => by subst z; rw [ha] at hb1; cases hb1
    have n2 : b ≠ dx := fun z => by
      subst z
      rw [upd_ne n1] at hdx
      rw [hdx] at hb1; cases hb1
    rw [drop_ne n1, upd_ne n1, upd_ne n2, upd_ne n1]
    exact hb1
  · rw [drop_ne hne, upd_ne hne, upd_same]
noncomputable def Kds (H : Hp) (xs : List V) (kds : List Str) : Prop := kds.length = xs.length ∧ ∀ (i : Nat) x kd, xs[i]? = some x → kds[i]? = some kd → ∃ p n, x = .ref p ∧ H p = some (.tup [.str n, .str kd])
noncomputable def SeqH (H : Hp) (r : Addr) (rs : List V) : Prop := H r = some (.lst rs) ∨ H r = some (.tup rs)
noncomputable def OkTo (kds : List Str) (rs : List V) (i : Nat) : Prop := i ≤ kds.length ∧ ∀ (j : Nat) x kd, j < i → rs[j]? = some x → kds[j]? = some kd → valB kd x = true
noncomputable def BadAt (kds : List Str) (rs : List V) (i : Nat) : Prop := OkTo kds rs i ∧ ((∃ x, rs[i]? = some x ∧ (i = kds.length ∨ ∃ kd, kds[i]? = some kd ∧ valB kd x = false)) ∨ (i = rs.length ∧ i < kds.length))
noncomputable def sp_asked_row (K : PySem.W.Frag) (f : Nat → Addr) : Sp := fun vs H Q E => ∃ l xs kds r rs, vs = [.ref l, .ref r] ∧ H l = some (.lst xs) ∧ Kds H xs kds ∧ SeqH H r rs ∧ (∀ x ∈ rs, ∃ T, Pl K H x T) ∧
  ((rs.length = kds.length ∧ OkTo kds rs rs.length ∧ ∀ H', Same H H' → Q (.bl true) H') ∨ ∃ i : Nat, BadAt kds rs i ∧ ∀ H' dx, Same H H' → H' dx = some (.xd [("place", .int i)]) → E (.ref (f 11)) (some dx) H')
theorem ok_asked_row (T : Txt w K mg f fd) : FnOk P w K mg base (CXE P w) 5 (f 35) (fd 35) ["fields", "row"] (sp_asked_row K f) := by
  refine T.d_asked_row.F.okX sc_asked_row (fun vs H Q E h => ?_) (fun cdv A outer s H vs Q E hr h => ?_)
  · obtain ⟨l, xs, kds, r, rs, rfl, _⟩ := h
    rfl
  · obtain ⟨l, xs, kds, r, rs, rfl, hl, ⟨hkl, hkd⟩, hr', hpl, k⟩ := h
    refine ⟨_, (pss_cons (ps_for PassesOwn.leaving rfl (k_enumS rfl rfl T.n_enumerate (pal rfl (pvl 1) pa_nil) rfl) (k_pgT rfl rfl (pgs_cons (pgl 2 sc_asked_row.nd) (pgs_cons (pgl 3 sc_asked_row.nd) pgs_nil)))
     (pss_one (ps_if (PW.pt (pw_or (pt_cmpR op_ge (pvl 2) (pe_cB (k_len rfl) T.n_len bt_len rfl (by decide) (by decide) rfl (pal rfl (pvl 0) pa_nil)) (nomark _)) (pw_or1 (pt_not (pt_val (pe_defL T.d_is_value (ok_is_value T) (hr.mono (by decide)) rfl (by decide) rfl (pal rfl (pe_ix (k_ixT rfl) (pe_ix (k_ixL rfl) (pvl 0) (pvl 2) (fun _ _ => rfl)) pe_int (fun _ _ => rfl)) (pal rfl (pvl 3) pa_nil))))))))
     (pss_one (ps_raiseI told_cx rfl T.x_NoRow.x T.d_NoRow___init__.fn (ok_NoRow___init__ T) (hr.mono (by decide)) T.d_NoRow___init__.b T.x_NoRow.kp rfl T.x_NoRow.m (by decide) rfl (pal rfl (pvl 2) pa_nil)))
     pss_nil)))
     (pss_cons (ps_if (pt_cmpR op_lt (pe_cB (k_len rfl) T.n_len bt_len rfl (by decide) (by decide) rfl (pal rfl (pvl 1) pa_nil)) (pe_cB (k_len rfl) T.n_len bt_len rfl (by decide) (by decide) rfl (pal rfl (pvl 0) pa_nil)) (nomark _))
     (pss_one (ps_raiseI told_cx rfl T.x_NoRow.x T.d_NoRow___init__.fn (ok_NoRow___init__ T) (hr.mono (by decide)) T.d_NoRow___init__.b T.x_NoRow.kp rfl T.x_NoRow.m (by decide) rfl (pal rfl (pe_cB (k_len rfl) T.n_len bt_len rfl (by decide) (by decide) rfl (pal rfl (pvl 1) pa_nil)) pa_nil)))
     pss_nil)
     (pss_one (ps_ret pe_bl)))), ?_⟩
    walk_at "py"
    -- how far the walk goes
    obtain ⟨m, hm, hok, hend⟩ : ∃ m, m ≤ rs.length ∧ OkTo kds rs m ∧ ((m = rs.length ∧ m = kds.length ∧ ∀ H', Same H H' → Q (.bl true) H') ∨ ((∃ x, rs[m]? = some x ∧ (m = kds.length ∨ ∃ kd, kds[m]? = some kd ∧ valB kd x = false)) ∧ ∀ H' dx, Same H H' → H' dx = some (.xd [("place", .int m)]) → E (.ref (f 11)) (some dx) H') ∨ (m = rs.length ∧ m < kds.length ∧ ∀ H' dx, Same H H' → H' dx = some (.xd [("place", .int m)]) → E (.ref (f 11)) (some dx) H')) := by
      rcases k with ⟨h1, h2, k⟩ | ⟨i, ⟨h1, ⟨x, hx, h2⟩ | ⟨h2, h3⟩⟩, k⟩
      · exact ⟨rs.length, Nat.le_refl _, h2, .inl ⟨rfl, h1, k⟩⟩
      · exact ⟨i, Nat.le_of_lt (List.getElem?_eq_some_iff.mp hx).1, h1, .inr (.inl ⟨⟨x, hx, h2⟩, k⟩)⟩
      · exact ⟨i, Nat.le_of_eq h2, h1, .inr (.inr ⟨h2, h3, k⟩)⟩
    have rz : ∀ (H2 : Hp), Same H H2 → (∀ H' dx, Same H H' → H' dx = some (.xd [("place", .int m)]) → E (.ref (f 11)) (some dx) H') → (1 ≤ sizeLine ∧ ∀ a, H2 a = none → sp_NoRow___init__ K [V.ref a, V.int m] (upd H2 a (ExN a (.ref (f 11)) none)) (fun v H3 => v = .non ∧ ∃ ed, H3 a = some (ExN a (.ref (f 11)) ed) ∧ E (.ref (f 11)) ed (dropH H3 a)) E0) :=
      fun H2 s2 q => ⟨small_line (by decide), fun a ha => ⟨a, f 11, .int m, some (.ref (f 12000)), rfl, upd_same, T.x_NoRow.x, T.x_NoRow.xc.hd, T.x_NoRow.sa, T.na_NoRow_place, fun dx hdx hne => ⟨rfl, some dx, upd_same, q _ dx (s2.trans (raised ha hdx hne).1) (raised ha hdx hne).2⟩⟩⟩
    have sq : ∀ H1 : Hp, Same H H1 → SqL K H1 r rs ∨ SqT K H1 r rs := fun H1 s1 => by
      rcases hr' with hr' | hr'
      · exact .inl (s1.seq (.of hr'))
      · exact .inr (s1.seqT (.of hr'))
    refine for_in ?_
    unfold iEnumS
    walk_at "py"
    rcases hr' with hr' | hr'
    · refine .inl ⟨⟨rs, .of hr'⟩, ForW.enum (xs := rs) (fun j σ H' => (∃ v2 v3, σ = [some (V.ref l), some (V.ref r), v2, v3]) ∧ j ≤ m ∧ Same H H') ⟨⟨none, none, rfl⟩, Nat.zero_le _, Same.refl _⟩ (fun _ _ _ q => q.2.2.seq (.of hr')) ?_ ?_⟩
      · rintro j x σ H1 p hx ⟨⟨v2, v3, rfl⟩, hjm, s1⟩ hp
        have s2 := s1.new hp (HO.tup [V.int (j : Int), x])
        refine ⟨p, _, rfl, .of upd_same, rfl, ?_⟩
        generalize upd H1 p (HO.tup [V.int (j : Int), x]) = H2 at *
        simp only [gCons, gNil, gName]
        walk_at "py"
        refine ⟨xs, .inl (s2.seq (.of hl)), ?_⟩
        obtain ⟨t, pt⟩ := hpl x (List.mem_of_getElem? hx)
        have look : ∀ (kd : Str) (R : VK), kds[j]? = some kd → (∀ H3, Same H2 H3 → R (.bl (valB kd x)) H3) → rIxL K (V.ref l) (V.int ↑j) H2 fun x_1 H1 => rIxT K x_1 (V.int 1) H1 fun x_2 H1 => sp_is_value K [x_2, x] H1 R E0 := fun kd R hk q => by
          have hjx : j < xs.length := by have := (List.getElem?_eq_some_iff.mp hk).1; omega
          obtain ⟨y, hy⟩ : ∃ y, xs[j]? = some y := ⟨_, List.getElem?_eq_getElem hjx⟩
          obtain ⟨q', n, rfl, hq⟩ := hkd j y kd hy hk
          refine ⟨l, xs, _, _, rfl, rfl, .of (s2 _ _ hl), atI_nat hy, ixT_of (.of (s2 _ _ hq)) (by decide) (by simp) fun v hv => ?_⟩
          obtain rfl : V.str kd = v := by simpa using hv
          exact ⟨kd, x, t, rfl, pt.mono s2, q⟩
        by_cases hj : j < m
        · have hjk : j < kds.length := Nat.lt_of_lt_of_le hj hok.1
          obtain ⟨kd, hk⟩ : ∃ kd, kds[j]? = some kd := ⟨_, List.getElem?_eq_getElem hjk⟩
          rw [if_neg (by simp; omega)]
          refine look kd _ hk fun H3 s3 => ⟨_, rfl, ?_⟩
          rw [hok.2 j x kd hj hx hk, if_neg (by decide)]
          exact ⟨⟨_, rfl⟩, hj, s2.trans s3⟩
        · obtain rfl : j = m := by omega
          have hjr := (List.getElem?_eq_some_iff.mp hx).1
          rcases hend with ⟨z, _⟩ | ⟨⟨x', hx', hb⟩, q⟩ | ⟨z, _⟩
          · omega
          · rw [hx] at hx'
            cases hx'
            rcases hb with hb | ⟨kd, hk, hb⟩
            · rw [if_pos (by simp; omega)]
              exact rz H2 s2 q
            · have hjk := (List.getElem?_eq_some_iff.mp hk).1
              rw [if_neg (by simp; omega)]
              refine look kd _ hk fun H3 s3 => ⟨_, rfl, ?_⟩
              rw [hb, if_pos (by decide)]
              exact rz H3 (s2.trans s3) q
          · omega
      · rintro σ H1 ⟨⟨v2, v3, rfl⟩, hjm, s1⟩
        walk_at "py"
        have hmr : m = rs.length := by omega
        refine ⟨rs, sq H1 s1, xs, .inl (s1.seq (.of hl)), ?_⟩
        rcases hend with ⟨_, z, q⟩ | ⟨⟨x', hx', _⟩, _⟩ | ⟨_, z, q⟩
        · rw [if_neg (by simp; omega)]
          exact q H1 s1
        · have := (List.getElem?_eq_some_iff.mp hx').1
          omega
        · rw [if_pos (by simp; omega)]
          refine ⟨rs, sq H1 s1, ?_⟩
          rw [← hmr]
          exact rz H1 s1 q
    · refine .inr ⟨⟨rs, .of hr'⟩, ForW.enumT (xs := rs) (fun j σ H' => (∃ v2 v3, σ = [some (V.ref l), some (V.ref r), v2, v3]) ∧ j ≤ m ∧ Same H H') ⟨⟨none, none, rfl⟩, Nat.zero_le _, Same.refl _⟩ (fun _ _ _ q => q.2.2.seqT (.of hr')) ?_ ?_⟩
      · rintro j x σ H1 p hx ⟨⟨v2, v3, rfl⟩, hjm, s1⟩ hp
        have s2 := s1.new hp (HO.tup [V.int (j : Int), x])
        refine ⟨p, _, rfl, .of upd_same, rfl, ?_⟩
        generalize upd H1 p (HO.tup [V.int (j : Int), x]) = H2 at *
        simp only [gCons, gNil, gName]
        walk_at "py"
        refine ⟨xs, .inl (s2.seq (.of hl)), ?_⟩
        obtain ⟨t, pt⟩ := hpl x (List.mem_of_getElem? hx)
        have look : ∀ (kd : Str) (R : VK), kds[j]? = some kd → (∀ H3, Same H2 H3 → R (.bl (valB kd x)) H3) → rIxL K (V.ref l) (V.int ↑j) H2 fun x_1 H1 => rIxT K x_1 (V.int 1) H1 fun x_2 H1 => sp_is_value K [x_2, x] H1 R E0 := fun kd R hk q => by
          have hjx : j < xs.length := by have := (List.getElem?_eq_some_iff.mp hk).1; omega
          obtain ⟨y, hy⟩ : ∃ y, xs[j]? = some y := ⟨_, List.getElem?_eq_getElem hjx⟩
          obtain ⟨q', n, rfl, hq⟩ := hkd j y kd hy hk
          refine ⟨l, xs, _, _, rfl, rfl, .of (s2 _ _ hl), atI_nat hy, ixT_of (.of (s2 _ _ hq)) (by decide) (by simp) fun v hv => ?_⟩
          obtain rfl : V.str kd = v := by simpa using hv
          exact ⟨kd, x, t, rfl, pt.mono s2, q⟩
        by_cases hj : j < m
        · have hjk : j < kds.length := Nat.lt_of_lt_of_le hj hok.1
          obtain ⟨kd, hk⟩ : ∃ kd, kds[j]? = some kd := ⟨_, List.getElem?_eq_getElem hjk⟩
          rw [if_neg (by simp; omega)]
          refine look kd _ hk fun H3 s3 => ⟨_, rfl, ?_⟩
          rw [hok.2 j x kd hj hx hk, if_neg (by decide)]
          exact ⟨⟨_, rfl⟩, hj, s2.trans s3⟩
        · obtain rfl : j = m := by omega
          have hjr := (List.getElem?_eq_some_iff.mp hx).1
          rcases hend with ⟨z, _⟩ | ⟨⟨x', hx', hb⟩, q⟩ | ⟨z, _⟩
          · omega
          · rw [hx] at hx'
            cases hx'
            rcases hb with hb | ⟨kd, hk, hb⟩
            · rw [if_pos (by simp; omega)]
              exact rz H2 s2 q
            · have hjk := (List.getElem?_eq_some_iff.mp hk).1
              rw [if_neg (by simp; omega)]
              refine look kd _ hk fun H3 s3 => ⟨_, rfl, ?_⟩
              rw [hb, if_pos (by decide)]
              exact rz H3 (s2.trans s3) q
          · omega
      · rintro σ H1 ⟨⟨v2, v3, rfl⟩, hjm, s1⟩
        walk_at "py"
        have hmr : m = rs.length := by omega
        refine ⟨rs, sq H1 s1, xs, .inl (s1.seq (.of hl)), ?_⟩
        rcases hend with ⟨_, z, q⟩ | ⟨⟨x', hx', _⟩, _⟩ | ⟨_, z, q⟩
        · rw [if_neg (by simp; omega)]
          exact q H1 s1
        · have := (List.getElem?_eq_some_iff.mp hx').1
          omega
        · rw [if_pos (by simp; omega)]
          refine ⟨rs, sq H1 s1, ?_⟩
          rw [← hmr]
          exact rz H1 s1 q
noncomputable def shFs (l d : Addr) (g : Int) : List (Str × V) := [("kept_fields", .ref l), ("kept_rows", .ref d), ("given", .int g)]
noncomputable def sp_Sheet_row (K : PySem.W.Frag) (f : Nat → Addr) : Sp := fun vs H Q E => ∃ o l d g dx kvs n, vs = [.ref o, .int n] ∧ H o = some (.ins (f 36) dx (shFs l d g)) ∧ H d = some (.dK kvs) ∧
  ((∃ v, valV kvs (.inl n) = some v ∧ Q v H) ∨ (valV kvs (.inl n) = none ∧ ∀ H' ex, Same H H' → H' ex = some (.xd [("number", .int n)]) → E (.ref (f 12)) (some ex) H'))
theorem ok_Sheet_row (T : Txt w K mg f fd) : FnOk P w K mg base (CXE P w) 3 (f 37005) (fd 37005) ["self", "number"] (sp_Sheet_row K f) := by
  refine T.d_Sheet_row.F.okX sc_Sheet_row (fun vs H Q E h => ?_) (fun cdv A outer s H vs Q E hr h => ?_)
  · obtain ⟨o, l, d, g, dx, kvs, n, rfl, _⟩ := h
    rfl
  · obtain ⟨o, l, d, g, dx, kvs, n, rfl, ho, hd, k⟩ := h
    refine ⟨_, (pss_cons (ps_if (pt_cmp (pc_dnotin (hu_of hr) (pvl 1) (pe_fld (pvl 0) rfl)))
     (pss_one (ps_raiseI told_cx rfl T.x_NoSuch.x T.d_NoSuch___init__.fn (ok_NoSuch___init__ T) (hr.mono (by decide)) T.d_NoSuch___init__.b T.x_NoSuch.kp rfl T.x_NoSuch.m (by decide) rfl (pal rfl (pvl 1) pa_nil)))
     pss_nil)
     (pss_one (ps_ret (pe_dget (hu_of hr) (pe_fld (pvl 0) rfl) (pvl 1) (fun _ _ => rfl))))), ?_⟩
    walk_at "dc"
    refine ⟨_, _, _, ho, T.o_Sheet.cls, T.na_Sheet_kept_rows, _, rfl, d, rfl, _, DGet.k (k := Sum.inl n) hd, ?_⟩
    rcases k with ⟨v, hv, k⟩ | ⟨hv, k⟩
    · rw [hv, if_neg (by simp)]
      exact ⟨_, _, _, ho, T.o_Sheet.cls, T.na_Sheet_kept_rows, _, rfl, d, rfl, v, by rw [← hv]; exact DGet.k (k := Sum.inl n) hd, k⟩
    · rw [hv, if_pos (by simp)]
      exact ⟨small_line (by decide), fun a ha => ⟨a, f 12, .int n, some (.ref (f 13000)), rfl, upd_same, T.x_NoSuch.x, T.x_NoSuch.xc.hd, T.x_NoSuch.sa, T.na_NoSuch_number, fun ex hex hne => ⟨rfl, some ex, upd_same, k _ ex (raised ha hex hne).1 (raised ha hex hne).2⟩⟩⟩
noncomputable def RowQ (K : PySem.W.Frag) (H : Hp) (l r : Addr) (rs : List V) (good : Prop) (bad : Nat → Prop) : Prop := ∃ xs kds, H l = some (.lst xs) ∧ Kds H xs kds ∧ SeqH H r rs ∧ (∀ x ∈ rs, ∃ T, Pl K H x T) ∧ ((rs.length = kds.length ∧ OkTo kds rs rs.length ∧ good) ∨ ∃ i : Nat, BadAt kds rs i ∧ bad i)
noncomputable def sp_Sheet_put (K : PySem.W.Frag) (f : Nat → Addr) : Sp := fun vs H Q E => ∃ o l d g dx kvs r rs, vs = [.ref o, .ref r] ∧ H o = some (.ins (f 36) dx (shFs l d g)) ∧ H d = some (.dK kvs) ∧ kvs.length < 1000 ∧
  RowQ K H l r rs (∀ H' p, Same H H' → H' p = some (.tup rs) → Q (.int g) (upd (upd H' d (.dK (putK kvs (.inl g) (.ref p)))) o (.ins (f 36) dx (shFs l d (g + 1))))) (fun i => ∀ H' ex, Same H H' → H' ex = some (.xd [("place", .int i)]) → E (.ref (f 11)) (some ex) H')
theorem ok_Sheet_put (T : Txt w K mg f fd) : FnOk P w K mg base (CXE P w) 6 (f 37002) (fd 37002) ["self", "row"] (sp_Sheet_put K f) := by
  refine T.d_Sheet_put.F.okX sc_Sheet_put (fun vs H Q E h => ?_) (fun cdv A outer s H vs Q E hr h => ?_)
  · obtain ⟨o, l, d, g, dx, kvs, r, rs, rfl, _⟩ := h
    rfl
  · obtain ⟨o, l, d, g, dx, kvs, r, rs, rfl, ho, hd, hz, xs, kds, hl, hkd, hsq, hpl, k⟩ := h
    refine ⟨_, (pss_cons (ps_expr (pe_defX told_cx T.d_asked_row (ok_asked_row T) (hr.mono (by decide)) rfl (by decide) rfl (pal rfl (pe_fld (pvl 0) rfl) (pal rfl (pvl 1) pa_nil))))
     (pss_cons (psl 2 sc_Sheet_put.nd (pe_fld (pvl 0) rfl))
     (pss_cons (ps_dput (hu_of hr) (pe_fld (pvl 0) rfl) (pvl 2) (pe_cTy (k_tuple rfl) T.n_tuple bt_tuple rfl (by decide) (by decide) rfl (pal rfl (pvl 1) pa_nil)) rfl)
     (pss_cons (ps_fld (pvl 0) (pe_op op_add (pvl 2) pe_int) rfl)
     (pss_one (ps_ret (pvl 2))))))), ?_⟩
    walk_at "dc"
    refine ⟨_, _, _, ho, T.o_Sheet.cls, T.na_Sheet_kept_fields, _, rfl, l, xs, kds, r, rs, rfl, hl, hkd, hsq, hpl, ?_⟩
    rcases k with ⟨h1, h2, k⟩ | ⟨i, h1, k⟩
    · refine .inl ⟨h1, h2, fun H1 s1 => ?_⟩
      have ndo : d ≠ o := fun z => by subst z; rw [ho] at hd; cases hd
      have tail : ∀ H2 p, Same H H2 → H2 p = some (.tup rs) → ∃ x x_1 x_2, H2 o = some (HO.ins x x_1 x_2) ∧ Cls K x ∧ NoAttr K x (Str.ofString "kept_rows") ∧ ∃ v, List.lookup (Str.ofString "kept_rows") x_2 = some v ∧ ∃ a, v = V.ref a ∧ ∃ H4, DPut H2 a (V.int g) (V.ref p) H4 ∧ ∃ i, V.int g = V.int i ∧ ∃ x x_3 x_4, H4 o = some (HO.ins x x_3 x_4) ∧ Cls K x ∧ NoAttr K x (Str.ofString "given") ∧ x_4.length < 1000 ∧ Q (V.int g) (upd H4 o (HO.ins x x_3 (putF (Str.ofString "given") (V.int (i + 1)) x_4))) := fun H2 p s2 hp => by
        have ho2 := s2 _ _ ho
        refine ⟨_, _, _, ho2, T.o_Sheet.cls, T.na_Sheet_kept_rows, _, rfl, d, rfl, _, DPut.k (k := Sum.inl g) (s2 _ _ hd) (small_line (by omega)), g, rfl, _, _, _, by rw [upd_ne (Ne.symm ndo)]; exact ho2, T.o_Sheet.cls, T.na_Sheet_given, (by show 3 < 1000; decide), ?_⟩
        exact k H2 p s2 hp
      refine ⟨_, _, _, s1 _ _ ho, T.o_Sheet.cls, T.na_Sheet_given, _, rfl, rs, ?_⟩
      rcases hsq with hsq | hsq
      · exact .inl ⟨s1.seq (.of hsq), fun p hp => tail _ p (s1.new hp _) upd_same⟩
      · exact .inr ⟨s1.seqT (.of hsq), tail H1 r s1 (s1 _ _ hsq)⟩
    · exact .inr ⟨i, h1, k⟩
noncomputable def sp_Sheet_numbers (K : PySem.W.Frag) : Sp := fun vs H Q E => ∃ o l d g dx kvs c, ∃ ks : List Int, vs = [.ref o] ∧ H o = some (.ins c dx (shFs l d g)) ∧ Cls K c ∧ NoAttr K c "kept_rows" ∧ H d = some (.dK kvs) ∧ kvs.map (·.1) = ks.map Sum.inl ∧ kvs.length < 64 ∧
  ∀ p, ∀ ms : List Int, H p = none → ms.Perm ks → ms.Pairwise (· ≤ ·) → Q (.ref p) (upd H p (.lst (ms.map V.int)))
theorem ok_Sheet_numbers (T : Txt w K mg f fd) : FnOk P w K mg base CX0 1 (f 37006) (fd 37006) ["self"] (sp_Sheet_numbers K) := by
  refine T.d_Sheet_numbers.F.ok sc_Sheet_numbers (fun vs H Q E h => ?_) (fun cdv A outer s H vs Q E hr h => ?_)
  · obtain ⟨o, l, d, g, dx, kvs, c, ks, rfl, _⟩ := h
    rfl
  · obtain ⟨o, l, d, g, dx, kvs, c, ks, rfl, ho, h1, h2, hd, hk, h64, k⟩ := h
    refine ⟨_, (pss_one (ps_ret (pe_cB (call_sortedD rfl) T.n_sorted bt_sorted rfl (by decide) (by decide) rfl (pal rfl (pe_fld (pvl 0) rfl) pa_nil)))), ?_⟩
    walk_at "dc"
    exact ⟨_, _, _, ho, h1, h2, _, rfl, d, rfl, kvs, hd, ks, hk, h64, k⟩
noncomputable def sp_NoField___init__ (K : PySem.W.Frag) : Sp := fun vs H Q _ => ∃ a C v ini, vs = [.ref a, v] ∧ H a = some (ExN a (.ref C) none) ∧ exB K C ini = true ∧ PySem.W.hasDictIn K C = true ∧ PySem.W.findIn K (.ref C) "__setattr__" = some (some (.builtin "object.__setattr__")) ∧ PySem.W.findIn K (.ref C) "name" = some none ∧
  ∀ dx, H dx = none → dx ≠ a → Q .non (upd (upd H dx (.xd [("name", v)])) a (ExN a (.ref C) (some dx)))
theorem ok_NoField___init__ (T : Txt w K mg f fd) : FnOk P w K mg base CX0 1 (f 14000) (fd 14000) ["self", "name"] (sp_NoField___init__ K) := by
  refine T.d_NoField___init__.F.ok sc_NoField___init__ (fun vs H Q E h => ?_) (fun cdv A outer s H vs Q E hr h => ?_)
  · obtain ⟨a, C, v, ini, rfl, _⟩ := h
    rfl
  · obtain ⟨a, C, v, ini, rfl, e1, e2, e3, e4, e5, k⟩ := h
    refine ⟨_, (pss_one (ps_xset (pvl 0) (pvl 1) rfl)), ?_⟩
    walk_at "py"
    exact ⟨C, e1, ⟨ini, e2⟩, e3, e4, e5, k⟩
noncomputable def sp_NoKind___init__ (K : PySem.W.Frag) : Sp := fun vs H Q _ => ∃ a C v ini, vs = [.ref a, v] ∧ H a = some (ExN a (.ref C) none) ∧ exB K C ini = true ∧ PySem.W.hasDictIn K C = true ∧ PySem.W.findIn K (.ref C) "__setattr__" = some (some (.builtin "object.__setattr__")) ∧ PySem.W.findIn K (.ref C) "name" = some none ∧
  ∀ dx, H dx = none → dx ≠ a → Q .non (upd (upd H dx (.xd [("name", v)])) a (ExN a (.ref C) (some dx)))
theorem ok_NoKind___init__ (T : Txt w K mg f fd) : FnOk P w K mg base CX0 1 (f 15000) (fd 15000) ["self", "name"] (sp_NoKind___init__ K) := by
  refine T.d_NoKind___init__.F.ok sc_NoKind___init__ (fun vs H Q E h => ?_) (fun cdv A outer s H vs Q E hr h => ?_)
  · obtain ⟨a, C, v, ini, rfl, _⟩ := h
    rfl
  · obtain ⟨a, C, v, ini, rfl, e1, e2, e3, e4, e5, k⟩ := h
    refine ⟨_, (pss_one (ps_xset (pvl 0) (pvl 1) rfl)), ?_⟩
    walk_at "py"
    exact ⟨C, e1, ⟨ini, e2⟩, e3, e4, e5, k⟩
noncomputable def FldsK (H : Hp) (xs : List V) (ns kds : List Str) : Prop := ns.length = xs.length ∧ kds.length = xs.length ∧ ns.Nodup ∧ ∀ (i : Nat) x n kd, xs[i]? = some x → ns[i]? = some n → kds[i]? = some kd → ∃ p, x = .ref p ∧ H p = some (.tup [.str n, .str kd])
theorem FldsK.mono {H H' : Hp} {xs : List V} {ns kds : List Str} (s : Same H H') (h : FldsK H xs ns kds) : FldsK H' xs ns kds := ⟨h.1, h.2.1, h.2.2.1, fun i x n kd a b c => by
  obtain ⟨p, e, g⟩ := h.2.2.2 i x n kd a b c
  exact ⟨p, e, s _ _ g⟩⟩
theorem FldsK.at {H : Hp} {xs : List V} {ns kds : List Str} (h : FldsK H xs ns kds) {i : Nat} (hi : i < xs.length) : ∃ p n kd, xs[i]? = some (.ref p) ∧ ns[i]? = some n ∧ kds[i]? = some kd ∧ H p = some (.tup [.str n, .str kd]) := by
  have h1 : i < ns.length := by rw [h.1]; exact hi
  have h2 : i < kds.length := by rw [h.2.1]; exact hi
  obtain ⟨p, e, g⟩ := h.2.2.2 i _ _ _ (List.getElem?_eq_getElem hi) (List.getElem?_eq_getElem h1) (List.getElem?_eq_getElem h2)
  exact ⟨p, _, _, by rw [List.getElem?_eq_getElem hi, e], List.getElem?_eq_getElem h1, List.getElem?_eq_getElem h2, g⟩
noncomputable def sp_field_at (K : PySem.W.Frag) (f : Nat → Addr) : Sp := fun vs H Q E => ∃ l xs ns kds n, vs = [.ref l, .str n] ∧ H l = some (.lst xs) ∧ FldsK H xs ns kds ∧
  ((∃ i : Nat, ns[i]? = some n ∧ ∀ H', Same H H' → Q (.int i) H') ∨ (n ∉ ns ∧ ∀ H' dx, Same H H' → H' dx = some (.xd [("name", .str n)]) → E (.ref (f 13)) (some dx) H'))
theorem ok_field_at (T : Txt w K mg f fd) : FnOk P w K mg base (CXE P w) 3 (f 34) (fd 34) ["fields", "name"] (sp_field_at K f) := by
  refine T.d_field_at.F.okX sc_field_at (fun vs H Q E h => ?_) (fun cdv A outer s H vs Q E hr h => ?_)
  · obtain ⟨l, xs, ns, kds, n, rfl, _⟩ := h
    rfl
  · obtain ⟨l, xs, ns, kds, n, rfl, hl, hF, k⟩ := h
    refine ⟨_, (pss_cons (ps_for PassesOwn.leaving rfl (pi_enum rfl T.n_enumerate (pal rfl (pvl 0) pa_nil) rfl) (k_pgT rfl rfl (pgs_cons (pgl 2 sc_field_at.nd) (pgs_cons (pgl 3 sc_field_at.nd) pgs_nil)))
     (pss_one (ps_if (pt_cmpR op_eq (pe_ix (k_ixT rfl) (pvl 3) pe_int (fun _ _ => rfl)) (pvl 1) (nomark _))
     (pss_one (ps_ret (pvl 2)))
     pss_nil)))
     (pss_one (ps_raiseI told_cx rfl T.x_NoField.x T.d_NoField___init__.fn (ok_NoField___init__ T) (hr.mono (by decide)) T.d_NoField___init__.b T.x_NoField.kp rfl T.x_NoField.m (by decide) rfl (pal rfl (pvl 1) pa_nil)))), ?_⟩
    walk_at "py"
    refine for_in ?_
    unfold iEnum
    walk_at "py"
    refine ⟨⟨xs, .of hl⟩, ForW.enum (xs := xs) (fun j σ H' => (∃ v2 v3, σ = [some (V.ref l), some (V.str n), v2, v3]) ∧ n ∉ ns.take j ∧ Same H H') ⟨⟨none, none, rfl⟩, by simp, Same.refl _⟩ (fun _ _ _ q => q.2.2.seq (.of hl)) ?_ ?_⟩
    · rintro j x σ H1 p hx ⟨⟨v2, v3, rfl⟩, hnot, s1⟩ hp
      have s2 := s1.new hp (HO.tup [V.int (j : Int), x])
      refine ⟨p, _, rfl, .of upd_same, rfl, ?_⟩
      generalize upd H1 p (HO.tup [V.int (j : Int), x]) = H2 at *
      obtain ⟨q, nj, kd, hxq, hj, _, hq⟩ := hF.at (List.getElem?_eq_some_iff.mp hx).1
      obtain rfl : x = .ref q := Option.some.inj (hx.symm.trans hxq)
      simp only [gCons, gNil, gName]
      walk_at "py"
      refine ixT_of (.of (s2 _ _ hq)) (by decide) (by simp) fun v hv => ?_
      obtain rfl : V.str nj = v := by simpa using hv
      refine ⟨rfl, ?_⟩
      by_cases e : nj = n
      · subst e
        rw [if_pos (by simp)]
        rcases k with ⟨i, hi, k⟩ | ⟨hno, _⟩
        · obtain rfl := nodup_ix hF.2.2.1 hi hj
          exact k _ s2
        · exact absurd (List.mem_of_getElem? hj) hno
      · rw [if_neg (by simpa using e)]
        refine ⟨⟨_, rfl⟩, ?_, s2⟩
        rw [take_snoc hj]
        intro z
        rcases List.mem_append.mp z with z | z
        · exact hnot z
        · exact e (List.mem_singleton.mp z).symm
    · rintro σ H1 ⟨⟨v2, v3, rfl⟩, hnot, s1⟩
      rw [← hF.1, List.take_length] at hnot
      rcases k with ⟨i, hi, _⟩ | ⟨_, k⟩
      · exact absurd (List.mem_of_getElem? hi) hnot
      · walk_at "py"
        exact ⟨small_line (by decide), fun a ha => ⟨a, f 13, .str n, some (.ref (f 14000)), rfl, upd_same, T.x_NoField.x, T.x_NoField.xc.hd, T.x_NoField.sa, T.na_NoField_name, fun dx hdx hne => ⟨rfl, some dx, upd_same, k _ dx (s1.trans (raised ha hdx hne).1) (raised ha hdx hne).2⟩⟩⟩
noncomputable abbrev wordS : Str := "word"
noncomputable abbrev numS : Str := "number"
noncomputable def OfKd (kd : Str) (x : V) : Prop := (kd = wordS ∧ ∃ z, x = .str z ∧ z.length ≤ 12) ∨ (kd = numS ∧ ∃ i, x = .int i)
noncomputable def OffKd (kd : Str) (x : V) : Prop := (kd = numS ∧ ∃ z, x = .str z ∧ z.length ≤ 12) ∨ (kd = wordS ∧ ∃ i, x = .int i)
noncomputable def sp_is_of_kind (K : PySem.W.Frag) : Sp := fun vs H Q _ => ∃ kd x, vs = [.str kd, x] ∧ ((OfKd kd x ∧ Q (.bl true) H) ∨ (OffKd kd x ∧ Q (.bl false) H))
theorem ok_is_of_kind (T : Txt w K mg f fd) : FnOk P w K mg base CX0 1 (f 38) (fd 38) ["kind", "value"] (sp_is_of_kind K) := by
  refine T.d_is_of_kind.F.ok sc_is_of_kind (fun vs H Q E h => ?_) (fun cdv A outer s H vs Q E hr h => ?_)
  · obtain ⟨kd, x, rfl, _⟩ := h
    rfl
  · obtain ⟨kd, x, rfl, k⟩ := h
    refine ⟨_, (pss_cons (ps_if (pt_cmpR op_eq (pvl 0) pe_str (nomark _))
     (pss_one (ps_ret (pe_cB (k_isP rfl) T.n_isinstance bt_isinstance rfl (by decide) (by decide) rfl (pal rfl (pvl 1) (pal rfl (pty T.n_int bt_int) pa_nil)))))
     pss_nil)
     (pss_one (ps_ret (pe_cB (k_isP rfl) T.n_isinstance bt_isinstance rfl (by decide) (by decide) rfl (pal rfl (pvl 1) (pal rfl (pty T.n_str bt_str) pa_nil)))))), ?_⟩
    walk_at "py"
    rcases k with ⟨⟨rfl, z, rfl, hz⟩ | ⟨rfl, i, rfl⟩, k⟩ | ⟨⟨rfl, z, rfl, hz⟩ | ⟨rfl, i, rfl⟩, k⟩
    · rw [if_neg (by decide)]
      exact ⟨"str", .of_str (small_line (by omega)), by decide, k⟩
    · rw [if_pos (by decide)]
      exact ⟨"int", .of_int, by decide, k⟩
    · rw [if_pos (by decide)]
      exact ⟨"str", .of_str (small_line (by omega)), by decide, k⟩
    · rw [if_neg (by decide)]
      exact ⟨"int", .of_int, by decide, k⟩
inductive Out | right | fld (n : Str) | knd (n : Str)
noncomputable def Form (fm : Str) (rest : List V) : Prop := (fm = "lacks" ∧ rest = []) ∨ (fm = "is" ∧ ∃ x, rest = [x] ∧ ((∃ z, x = .str z ∧ z.length ≤ 12) ∨ ∃ i, x = .int i)) ∨ ((fm = "under" ∨ fm = "over") ∧ ∃ x, rest = [x])
noncomputable def OutP (ns kds : List Str) (fm n : Str) (rest : List V) (r : Out) : Prop := (n ∉ ns ∧ r = .fld n) ∨ ∃ (j : Nat) (kd : Str), ns[j]? = some n ∧ kds[j]? = some kd ∧
  ((fm = "lacks" ∧ r = .right) ∨ ((fm = "under" ∨ fm = "over") ∧ ((kd = numS ∧ r = .right) ∨ (kd = wordS ∧ r = .knd n))) ∨ (fm = "is" ∧ ∃ x, rest = [x] ∧ ((OfKd kd x ∧ r = .right) ∨ (OffKd kd x ∧ r = .knd n))))
noncomputable def NmOk (b : Nat) (n : Str) : Prop := n.length ≤ b ∧ ∀ c ∈ n.cps.toList, c < 1114112
noncomputable def PlainB (b : Nat) (H : Hp) (ns kds : List Str) (v : V) (r : Out) : Prop := ∃ p fm n rest, v = .ref p ∧ H p = some (.tup (.str fm :: .str n :: rest)) ∧ NmOk b n ∧ Form fm rest ∧ OutP ns kds fm n rest r
noncomputable def Tell (f : Nat → Addr) (Q : VK) (E : XK) (H : Hp) (r : Out) : Prop := match r with
  | .right => ∀ H', Same H H' → Q (.bl true) H'
  | .fld n => ∀ H' dx, Same H H' → H' dx = some (.xd [("name", .str n)]) → E (.ref (f 13)) (some dx) H'
  | .knd n => ∀ H' dx, Same H H' → H' dx = some (.xd [("name", .str n)]) → E (.ref (f 14)) (some dx) H'
theorem Tell.mono {f : Nat → Addr} {Q : VK} {E : XK} {H H1 : Hp} {r : Out} (s : Same H H1) (t : Tell f Q E H r) : Tell f Q E H1 r := by
  cases r with
  | right => exact fun H' s' => t H' (s.trans s')
  | fld n => exact fun H' dx s' => t H' dx (s.trans s')
  | knd n => exact fun H' dx s' => t H' dx (s.trans s')
noncomputable def sp_asked_plain (K : PySem.W.Frag) (f : Nat → Addr) : Sp := fun vs H Q E => ∃ l v xs ns kds b r, vs = [.ref l, v] ∧ H l = some (.lst xs) ∧ FldsK H xs ns kds ∧ PlainB b H ns kds v r ∧ Tell f Q E H r
theorem ok_asked_plain (T : Txt w K mg f fd) : FnOk P w K mg base (CXE P w) 4 (f 39) (fd 39) ["fields", "sieve"] (sp_asked_plain K f) := by
  refine T.d_asked_plain.F.okX sc_asked_plain (fun vs H Q E h => ?_) (fun cdv A outer s H vs Q E hr h => ?_)
  · obtain ⟨l, v, xs, ns, kds, b, r, rfl, _⟩ := h
    rfl
  · obtain ⟨l, v, xs, ns, kds, b, r, rfl, hl, hF, ⟨p, fm, n, rest, rfl, hp, hb, hfm, ho⟩, k⟩ := h
    refine ⟨_, (pss_cons (psl 2 sc_asked_plain.nd (pe_ix (k_ixT rfl) (pvl 1) pe_int (fun _ _ => rfl)))
     (pss_cons (psl 3 sc_asked_plain.nd (pe_ix (k_ixT rfl) (pe_ix (k_ixL rfl) (pvl 0) (pe_defX told_cx T.d_field_at (ok_field_at T) (hr.mono (by decide)) rfl (by decide) rfl (pal rfl (pvl 0) (pal rfl (pvl 2) pa_nil))) (fun _ _ => rfl)) pe_int (fun _ _ => rfl)))
     (pss_cons (ps_if (PW.pt (pw_and (pt_cmpR (k_in rfl) (pe_ix (k_ixT rfl) (pvl 1) pe_int (fun _ _ => rfl)) (pe_tup (pal rfl pe_str (pal rfl pe_str pa_nil))) rfl) (pw_and1 (pt_cmpR op_ne (pvl 3) pe_str (nomark _)))))
     (pss_one (ps_raiseI told_cx rfl T.x_NoKind.x T.d_NoKind___init__.fn (ok_NoKind___init__ T) (hr.mono (by decide)) T.d_NoKind___init__.b T.x_NoKind.kp rfl T.x_NoKind.m (by decide) rfl (pal rfl (pvl 2) pa_nil)))
     pss_nil)
     (pss_cons (ps_if (PW.pt (pw_and (pt_cmpR op_eq (pe_ix (k_ixT rfl) (pvl 1) pe_int (fun _ _ => rfl)) pe_str (nomark _)) (pw_and1 (pt_not (pt_val (pe_defL T.d_is_of_kind (ok_is_of_kind T) (hr.mono (by decide)) rfl (by decide) rfl (pal rfl (pvl 3) (pal rfl (pe_ix (k_ixT rfl) (pvl 1) pe_int (fun _ _ => rfl)) pa_nil))))))))
     (pss_one (ps_raiseI told_cx rfl T.x_NoKind.x T.d_NoKind___init__.fn (ok_NoKind___init__ T) (hr.mono (by decide)) T.d_NoKind___init__.b T.x_NoKind.kp rfl T.x_NoKind.m (by decide) rfl (pal rfl (pvl 2) pa_nil)))
     pss_nil)
     (pss_one (ps_ret pe_bl)))))), ?_⟩
    walk_at "py"
    refine ⟨p, _, _, _, rfl, rfl, .of hp, atI_nat (j := 1) rfl, ?_⟩
    rcases ho with ⟨hno, rfl⟩ | ⟨j, kd, hj, hkd, hcase⟩
    · exact ⟨l, xs, ns, kds, n, rfl, hl, hF, .inr ⟨hno, k⟩⟩
    refine ⟨l, xs, ns, kds, n, rfl, hl, hF, .inl ⟨j, hj, fun H1 s1 => ?_⟩⟩
    obtain ⟨p', n', kd', e1, e2, e3, e4⟩ := hF.at (show j < xs.length by rw [← hF.1]; exact (List.getElem?_eq_some_iff.mp hj).1)
    obtain rfl : kd = kd' := Option.some.inj (hkd.symm.trans e3)
    have rz : ∀ (H3 : Hp), Same H H3 → Tell f Q E H (.knd n) → (1 ≤ sizeLine ∧ ∀ a, H3 a = none → sp_NoKind___init__ K [V.ref a, V.str n] (upd H3 a (ExN a (.ref (f 14)) none)) (fun v H2 => v = .non ∧ ∃ ed, H2 a = some (ExN a (.ref (f 14)) ed) ∧ E (.ref (f 14)) ed (dropH H2 a)) E0) :=
      fun H3 s3 kk => ⟨small_line (by decide), fun a ha => ⟨a, f 14, .str n, some (.ref (f 15000)), rfl, upd_same, T.x_NoKind.x, T.x_NoKind.xc.hd, T.x_NoKind.sa, T.na_NoKind_name, fun dx hdx hne => ⟨rfl, some dx, upd_same, kk _ dx (s3.trans (raised ha hdx hne).1) (raised ha hdx hne).2⟩⟩⟩
    refine ⟨l, xs, _, _, rfl, rfl, .of (s1 _ _ hl), atI_nat e1, p', _, _, _, rfl, rfl, .of (s1 _ _ e4), atI_nat (j := 1) rfl, p, _, _, _, rfl, rfl, .of (s1 _ _ hp), atI_nat (j := 0) rfl, small_line (by decide), fun q hq => ?_⟩
    have u := Same.upd_new hq (HO.tup [V.str (Str.ofString "under"), V.str (Str.ofString "over")])
    have gq : upd H1 q (HO.tup [V.str (Str.ofString "under"), V.str (Str.ofString "over")]) q = some (.tup [V.str (Str.ofString "under"), V.str (Str.ofString "over")]) := upd_same
    generalize upd H1 q (HO.tup [V.str (Str.ofString "under"), V.str (Str.ofString "over")]) = H2 at *
    have s2 := s1.trans u
    refine ⟨q, _, rfl, .inr (.of gq), by rfl, by decide, _, rfl, ?_⟩
    rw [if_neg Bool.false_ne_true]
    have ix0 : ∀ R : VK, R (.str fm) H2 → rIxT K (.ref p) (.int 0) H2 R := fun R r => ⟨p, _, _, _, rfl, rfl, .of (s2 _ _ hp), atI_nat (j := 0) rfl, r⟩
    rcases hcase with ⟨rfl, rfl⟩ | ⟨hf, hc⟩ | ⟨rfl, x, rfl, hc⟩
    · rw [if_neg (by decide)]
      refine ix0 _ ⟨rfl, ?_⟩
      rw [if_neg (by decide)]
      exact k H2 s2
    · have hin : inV (V.str fm) [V.str (Str.ofString "under"), V.str (Str.ofString "over")] = true := by rcases hf with rfl | rfl <;> decide
      rw [if_pos hin]
      have hni : fm ≠ "is" := by rcases hf with rfl | rfl <;> decide
      rcases hc with ⟨rfl, rfl⟩ | ⟨rfl, rfl⟩
      · refine ⟨rfl, ?_⟩
        rw [if_neg (by decide)]
        refine ix0 _ ⟨rfl, ?_⟩
        rw [if_neg (by simpa using hni)]
        exact k H2 s2
      · refine ⟨rfl, ?_⟩
        rw [if_pos (by decide)]
        exact rz H2 s2 k
    · rw [if_neg (by decide)]
      refine ix0 _ ⟨rfl, ?_⟩
      rw [if_pos (by decide)]
      refine ⟨p, _, _, _, rfl, rfl, .of (s2 _ _ hp), atI_nat (j := 2) rfl, kd, x, rfl, ?_⟩
      rcases hc with ⟨hx, rfl⟩ | ⟨hx, rfl⟩
      · refine .inl ⟨hx, _, rfl, ?_⟩
        rw [if_neg (by decide)]
        exact k H2 s2
      · refine .inr ⟨hx, _, rfl, ?_⟩
        rw [if_pos (by decide)]
        exact rz H2 s2 k
theorem in2 {a b fm : Str} : inV (.str fm) [.str a, .str b] = (decide (a = fm) || decide (b = fm)) := by
  by_cases h1 : a = fm <;> by_cases h2 : b = fm <;> simp [inV, eqV, h1, h2]
noncomputable def firstOut : List Out → Out
  | [] => .right
  | .right :: r => firstOut r
  | o :: _ => o
theorem firstOut_all : ∀ {os : List Out}, (∀ o ∈ os, o = .right) → firstOut os = .right
  | [], _ => rfl
  | .right :: r, h => firstOut_all (os := r) fun o ho => h o (List.mem_cons_of_mem _ ho)
  | .fld n :: _, h => absurd (h (.fld n) List.mem_cons_self) (fun z => nomatch z)
  | .knd n :: _, h => absurd (h (.knd n) List.mem_cons_self) (fun z => nomatch z)
theorem firstOut_at : ∀ {os : List Out} {i : Nat} {o : Out}, (∀ m, m < i → os[m]? = some .right) → os[i]? = some o → o ≠ .right → firstOut os = o
  | [], _, _, _, h, _ => by simp at h
  | .right :: r, 0, o, _, h, hn => absurd (by simpa using h.symm) hn
  | .fld n :: r, 0, o, _, h, _ => by simpa [firstOut] using h
  | .knd n :: r, 0, o, _, h, _ => by simpa [firstOut] using h
  | .right :: r, i + 1, o, hm, h, hn => firstOut_at (os := r) (i := i) (fun m hmi => by simpa using hm (m + 1) (by omega)) (by simpa using h) hn
  | .fld n :: r, i + 1, o, hm, h, hn => absurd (hm 0 (by omega)) (by simp)
  | .knd n :: r, i + 1, o, hm, h, hn => absurd (hm 0 (by omega)) (by simp)
noncomputable def TSame (H H' : Hp) : Prop := ∀ b ys, H b = some (.tup ys) → H' b = some (.tup ys)
theorem Same.t {H H' : Hp} (s : Same H H') : TSame H H' := fun b ys h => s b _ h
theorem TSame.upd_lst {H : Hp} {p : Addr} {ys : List V} {o : HO} (h : H p = some (.lst ys)) : TSame H (upd H p o) := fun b zs hb => by
  have n : b ≠ p := fun z => by subst z; rw [h] at hb; cases hb
  rw [upd_ne n]
  exact hb
theorem PlainB.mono {b : Nat} {H H' : Hp} {ns kds : List Str} {v : V} {r : Out} (s : TSame H H') (h : PlainB b H ns kds v r) : PlainB b H' ns kds v r := by
  obtain ⟨p, fm, n, rest, e, h1, h2⟩ := h
  exact ⟨p, fm, n, rest, e, s _ _ h1, h2⟩
noncomputable def Bs (b : Nat) (ns kds : List Str) : Nat → Hp → V → Out → Prop
  | 0, H, v, r => PlainB b H ns kds v r
  | d + 1, H, v, r => PlainB b H ns kds v r ∨ ∃ p, v = .ref p ∧ ((∃ x, H p = some (.tup [.str "not", x]) ∧ Bs b ns kds d H x r) ∨
    ∃ (q : Addr) (cs : List (V × Out)), H q = some (.tup (cs.map Prod.fst)) ∧ cs.length ≤ 60 ∧ (∀ c ∈ cs, Bs b ns kds d H c.1 c.2) ∧ r = firstOut (cs.map Prod.snd) ∧ ∃ fm : Str, H p = some (.tup [.str fm, .ref q]) ∧ (fm = "all" ∨ fm = "some"))
theorem Bs.mono {b : Nat} {ns kds : List Str} {H H' : Hp} (s : TSame H H') : ∀ {d : Nat} {v : V} {r : Out}, Bs b ns kds d H v r → Bs b ns kds d H' v r
  | 0, _, _, h => PlainB.mono s h
  | d + 1, v, r, h => by
    rcases h with h | ⟨p, rfl, h⟩
    · exact .inl (h.mono s)
    · refine .inr ⟨p, rfl, ?_⟩
      rcases h with ⟨x, h1, h2⟩ | ⟨q, cs, h1, h2, h3, h4, fm, h5, h6⟩
      · exact .inl ⟨x, s _ _ h1, h2.mono s⟩
      · exact .inr ⟨q, cs, s _ _ h1, h2, fun c hc => (h3 c hc).mono s, h4, fm, s _ _ h5, h6⟩
theorem Bs.out {b : Nat} {ns kds : List Str} {dp : Nat} {H : Hp} {v : V} {r : Out} (h : Bs b ns kds dp H v r) : PlainB b H ns kds v r ∨ ∃ d p, dp = d + 1 ∧ v = .ref p ∧ ((∃ x, H p = some (.tup [.str "not", x]) ∧ Bs b ns kds d H x r) ∨
    ∃ (q : Addr) (cs : List (V × Out)), H q = some (.tup (cs.map Prod.fst)) ∧ cs.length ≤ 60 ∧ (∀ c ∈ cs, Bs b ns kds d H c.1 c.2) ∧ r = firstOut (cs.map Prod.snd) ∧ ∃ fm : Str, H p = some (.tup [.str fm, .ref q]) ∧ (fm = "all" ∨ fm = "some")) := by
  cases dp with
  | zero => exact .inl h
  | succ d =>
    rcases h with h | ⟨p, e, h⟩
    · exact .inl h
    · exact .inr ⟨d, p, rfl, e, h⟩
theorem Form.ne {fm : Str} {rest : List V} (h : Form fm rest) : fm ≠ "not" ∧ fm ≠ "all" ∧ fm ≠ "some" := by
  rcases h with ⟨rfl, _⟩ | ⟨rfl, _⟩ | ⟨rfl | rfl, _⟩ <;> exact ⟨by decide, by decide, by decide⟩
noncomputable def sp_asked_sieve (K : PySem.W.Frag) (f : Nat → Addr) : Nat → Sp
  | 0 => fun _ _ _ _ => False
  | d + 1 => fun vs H Q E => ∃ l v xs ns kds b r, vs = [.ref l, v] ∧ H l = some (.lst xs) ∧ FldsK H xs ns kds ∧ Bs b ns kds d H v r ∧ Tell f Q E H r
theorem st_asked_sieve (T : Txt w K mg f fd) (dp : Nat) (ih : FnOk P w K mg base (CXE P w) (5 + dp) (f 40) (fd 40) ["fields", "sieve"] (sp_asked_sieve K f dp)) : FnOk P w K mg base (CXE P w) (5 + dp + 1) (f 40) (fd 40) ["fields", "sieve"] (sp_asked_sieve K f (dp + 1)) := by
  refine T.d_asked_sieve.F.okX sc_asked_sieve (fun vs H Q E h => ?_) (fun cdv A outer s H vs Q E hr h => ?_)
  · obtain ⟨l, v, xs, ns, kds, b, r, rfl, _⟩ := h
    rfl
  · obtain ⟨l, v, xs, ns, kds, b, r, rfl, hl, hF, hS, k⟩ := h
    refine ⟨_, (pss_cons (ps_if (pt_cmpR op_eq (pe_ix (k_ixT rfl) (pvl 1) pe_int (fun _ _ => rfl)) pe_str (nomark _))
     (pss_one (ps_ret (pe_defX told_cx T.d_asked_sieve ih (hr.mono (by omega)) rfl (by decide) rfl (pal rfl (pvc 0) (pal rfl (pe_ix (k_ixT rfl) (pvl 1) pe_int (fun _ _ => rfl)) pa_nil)))))
     pss_nil)
     (pss_cons (ps_if (pt_cmpR (k_in rfl) (pe_ix (k_ixT rfl) (pvl 1) pe_int (fun _ _ => rfl)) (pe_tup (pal rfl pe_str (pal rfl pe_str pa_nil))) rfl)
     (pss_one (ps_ret (pe_cB (k_all rfl rfl) T.n_all bt_all rfl (by decide) (by decide) rfl (pal rfl (pe_compX leaves_cx ["inner"] ["fields", "sieve"] rfl (show CompSc _ (defScope s_asked_sieve) ["fields", "sieve"] ["fields", "sieve"] from compOk_is (by decide +kernel)) (k_piT rfl (pe_ix (k_ixT rfl) (pvl 1) pe_int (fun _ _ => rfl))) (fun _ _ _ _ _ _ => (pgl 0 (show (["inner", "fields", "sieve"] : List Str).Nodup by decide +kernel))) (fun _ _ _ _ _ _ => pts_nil) (fun _ _ _ _ _ _ TC => (pe_defC TC T.d_asked_sieve ih (hr.mono (by omega)) rfl (by decide) rfl (pal rfl (pvc 1) (pal rfl (pvl 0) pa_nil))))) pa_nil))))
     pss_nil)
     (pss_one (ps_ret (pe_defX told_cx T.d_asked_plain (ok_asked_plain T) (hr.mono (by omega)) rfl (by decide) rfl (pal rfl (pvc 0) (pal rfl (pvl 1) pa_nil))))))), ?_⟩
    walk_at "py"
    rcases hS.out with hp | ⟨d, p, rfl, rfl, ⟨x, h1, h2⟩ | ⟨q, cs, h1, h2, h3, h4, fm, h5, h6⟩⟩
    · obtain ⟨p, fm, n, rest, rfl, hp1, hb, hfm, ho⟩ := id hp
      obtain ⟨n1, n2, n3⟩ := hfm.ne
      refine ⟨p, _, _, _, rfl, rfl, .of hp1, atI_nat (j := 0) rfl, rfl, ?_⟩
      rw [if_neg (by simpa using n1)]
      refine ⟨p, _, _, _, rfl, rfl, .of hp1, atI_nat (j := 0) rfl, small_line (by decide), fun q hq => ?_⟩
      have u := Same.upd_new hq (HO.tup [V.str (Str.ofString "all"), V.str (Str.ofString "some")])
      have gq : upd H q (HO.tup [V.str (Str.ofString "all"), V.str (Str.ofString "some")]) q = some (.tup [V.str (Str.ofString "all"), V.str (Str.ofString "some")]) := upd_same
      generalize upd H q (HO.tup [V.str (Str.ofString "all"), V.str (Str.ofString "some")]) = H2 at *
      refine ⟨q, _, rfl, .inr (.of gq), by rfl, by decide, _, rfl, ?_⟩
      rw [if_neg Bool.false_ne_true, in2, decide_eq_false (Ne.symm n2), decide_eq_false (Ne.symm n3), if_neg (by decide)]
      exact ⟨l, _, xs, ns, kds, b, r, rfl, u _ _ hl, hF.mono u, hp.mono (Same.t u), k.mono u⟩
    · refine ⟨p, _, _, _, rfl, rfl, .of h1, atI_nat (j := 0) rfl, rfl, ?_⟩
      rw [if_pos (by decide)]
      exact ⟨p, _, _, _, rfl, rfl, .of h1, atI_nat (j := 1) rfl, l, x, xs, ns, kds, b, r, rfl, hl, hF, h2, k⟩
    · have nn : fm ≠ "not" := by rcases h6 with rfl | rfl <;> decide
      refine ⟨p, _, _, _, rfl, rfl, .of h5, atI_nat (j := 0) rfl, rfl, ?_⟩
      rw [if_neg (by simpa using nn)]
      refine ⟨p, _, _, _, rfl, rfl, .of h5, atI_nat (j := 0) rfl, small_line (by decide), fun q' hq => ?_⟩
      have u := Same.upd_new hq (HO.tup [V.str (Str.ofString "all"), V.str (Str.ofString "some")])
      have gq : upd H q' (HO.tup [V.str (Str.ofString "all"), V.str (Str.ofString "some")]) q' = some (.tup [V.str (Str.ofString "all"), V.str (Str.ofString "some")]) := upd_same
      generalize upd H q' (HO.tup [V.str (Str.ofString "all"), V.str (Str.ofString "some")]) = H2 at *
      refine ⟨q', _, rfl, .inr (.of gq), by rfl, by decide, _, rfl, ?_⟩
      rw [if_neg Bool.false_ne_true, if_pos (by rcases h6 with rfl | rfl <;> decide)]
      refine ⟨p, _, _, _, rfl, rfl, .of (u _ _ h5), atI_nat (j := 1) rfl, q, rfl, ⟨_, .of (u _ _ h1)⟩, ?_⟩
      have hlc : (cs.map Prod.fst).length = cs.length := List.length_map ..
      refine comp_walk (walk_tup (xs := cs.map Prod.fst)) (small_line (by omega)) (fun i ys H' => Same H2 H' ∧ ys = (List.replicate i true).map V.bl ∧ ∀ m, m < i → (cs.map Prod.snd)[m]? = some .right) ⟨Same.refl _, rfl, fun _ hm => absurd hm (by omega)⟩ (fun _ _ H' _ q => (u.trans q.1).seqT (.of h1)) (fun i ys H' q => by rw [q.2.1, List.length_map, List.length_replicate]; exact Nat.le_refl _) (fun i x ys H3 hx q => ?_) (fun ys H3 q D hD => ?_)
      · obtain ⟨t1, rfl, t3⟩ := q
        rw [List.getElem?_map] at hx
        obtain ⟨c, hc, rfl⟩ := Option.map_eq_some_iff.mp hx
        have ho : (cs.map Prod.snd)[i]? = some c.2 := by rw [List.getElem?_map, hc]; rfl
        have S3 := u.trans t1
        walk_at "py"
        refine ⟨l, c.1, xs, ns, kds, b, c.2, rfl, S3 _ _ hl, hF.mono S3, (h3 c (List.mem_of_getElem? hc)).mono (Same.t S3), ?_⟩
        have fo := fun hn => firstOut_at t3 ho hn
        subst h4
        cases hr2 : c.2 with
        | right =>
          exact fun H4 s4 => ⟨⟨_, rfl⟩, t1.trans s4, by rw [List.map_replicate, ← List.replicate_succ', List.replicate_succ], fun m hm => by
            rcases Nat.lt_succ_iff_lt_or_eq.mp hm with hm | rfl
            · exact t3 m hm
            · rw [ho, hr2]⟩
        | fld n =>
          rw [fo (by rw [hr2]; exact fun z => nomatch z), hr2] at k
          exact Tell.mono S3 (r := .fld n) k
        | knd n =>
          rw [fo (by rw [hr2]; exact fun z => nomatch z), hr2] at k
          exact Tell.mono S3 (r := .knd n) k
      · obtain ⟨t1, rfl, t3⟩ := q
        rw [hlc] at t3
        have er : r = .right := by
          rw [h4]
          refine firstOut_all fun o ho => ?_
          obtain ⟨m, hm⟩ := List.mem_iff_getElem?.mp ho
          have hml := (List.getElem?_eq_some_iff.mp hm).1
          rw [List.length_map] at hml
          rw [t3 m hml] at hm
          exact (Option.some.inj hm).symm
        subst er
        refine ⟨_, .of upd_same, ?_⟩
        have e : (List.replicate (cs.map Prod.fst).length true).all id = true := by rw [List.all_eq_true]; intro x hx; rw [List.eq_of_mem_replicate hx]; rfl
        rw [e]
        exact k _ ((u.trans t1).new hD _)
theorem ok_asked_sieve (T : Txt w K mg f fd) : ∀ dp : Nat, FnOk P w K mg base (CXE P w) (5 + dp) (f 40) (fd 40) ["fields", "sieve"] (sp_asked_sieve K f dp)
  | 0 => ⟨fun _ _ _ _ h => False.elim h, fun _ _ _ _ _ _ _ _ _ _ _ _ _ h => False.elim h⟩
  | dp + 1 => st_asked_sieve T dp (ok_asked_sieve T dp)
noncomputable abbrev Valid (z : Str) : Prop := ∀ c ∈ z.cps.toList, c < 1114112
theorem strOk_of {z : Str} (h : Valid z) : PyData.strOk z = true := by
  simp only [PyData.strOk]
  rw [Array.all_eq_true_iff_forall_mem]
  intro c hc'
  exact decide_eq_true (h c (by simpa using hc'))
theorem pair_shaped {x1 x2 : Str} (h1 : Valid x1) (h2 : Valid x2) : SeqAt.shaped (.tuple [.str x1, .str x2]) = true := by
  simp [SeqAt.shaped, PyData.canLay0, PyData.canLayAll0, PyData.depth, PyData.depthAll, strOk_of h1, strOk_of h2]
theorem eqP_of {K : PySem.W.Frag} {H : Hp} {a b : Addr} {x1 x2 y1 y2 : Str} {neg : Bool} {Q : VK} (h1 : H a = some (.tup [.str x1, .str x2])) (h2 : H b = some (.tup [.str y1, .str y2])) (v1 : Valid x1) (v2 : Valid x2) (w1 : Valid y1) (w2 : Valid y2)
    (q : Q (.bl (if neg then !(decide (x1 = y1) && decide (x2 = y2)) else (decide (x1 = y1) && decide (x2 = y2)))) H) : rEqD K neg (.ref a) (.ref b) H Q := by
  have r : ∀ c z1 z2, H c = some (.tup [.str z1, .str z2]) → Rep K H (.tuple [.str z1, .str z2]) (.ref c) := fun c z1 z2 hc => by
    simp only [Rep]; exact ⟨c, _, rfl, .of hc, by simp [Reps, Rep]⟩
  refine ⟨_, _, r a _ _ h1, r b _ _ h2, pair_shaped v1 v2, pair_shaped w1 w2, ?_⟩
  have e : PyData.eqv (.tuple [.str x1, .str x2]) (.tuple [.str y1, .str y2]) = (decide (x1 = y1) && decide (x2 = y2)) := by
    by_cases c1 : x1 = y1 <;> by_cases c2 : x2 = y2 <;> simp [PyData.eqv, PyData.eqvAll, c1, c2]
  rw [e]
  exact q
theorem flds_data {K : PySem.W.Frag} {H : Hp} : ∀ (xs : List V), (∀ x ∈ xs, ∃ p n kd, x = .ref p ∧ H p = some (.tup [.str n, .str kd]) ∧ Valid n ∧ Valid kd) → ∃ ds, Reps K H ds xs ∧ PyData.canLayAll0 ds = true ∧ PyData.depthAll ds ≤ 1 ∧ PyData.eqvAll ds ds = true
  | [], _ => ⟨[], by simp [Reps], by simp [PyData.canLayAll0], by simp [PyData.depthAll], by simp [PyData.eqvAll]⟩
  | x :: xs, h => by
    obtain ⟨ds, h1, h2, h3, h4⟩ := flds_data (K := K) (H := H) xs (fun u hu => h u (List.mem_cons_of_mem _ hu))
    obtain ⟨p, n, kd, rfl, hp, vn, vk⟩ := h x List.mem_cons_self
    refine ⟨.tuple [.str n, .str kd] :: ds, ?_, ?_, ?_, ?_⟩
    · simp only [Reps]
      exact ⟨_, _, rfl, by simp only [Rep]; exact ⟨p, _, rfl, .of hp, by simp [Reps, Rep]⟩, h1⟩
    · simp [PyData.canLayAll0, PyData.canLay0, h2, strOk_of vn, strOk_of vk]
    · simp only [PyData.depthAll, PyData.depth]
      exact Nat.max_le.mpr ⟨by decide, h3⟩
    · simp [PyData.eqvAll, PyData.eqv, h4]
theorem eqF_of {K : PySem.W.Frag} {H : Hp} {a b : Addr} {xs : List V} {neg : Bool} {Q : VK} (h1 : H a = some (.lst xs)) (h2 : H b = some (.lst xs)) (hx : ∀ x ∈ xs, ∃ p n kd, x = .ref p ∧ H p = some (.tup [.str n, .str kd]) ∧ Valid n ∧ Valid kd) (q : Q (.bl (!neg)) H) : rEqD K neg (.ref a) (.ref b) H Q := by
  obtain ⟨ds, r1, r2, r3, r4⟩ := flds_data (K := K) (H := H) xs hx
  have sh : SeqAt.shaped (.list ds) = true := by
    unfold SeqAt.shaped
    simp only [PyData.canLay0, PyData.depth, r2, Bool.true_and]
    exact decide_eq_true (by omega)
  refine ⟨.list ds, .list ds, ?_, ?_, sh, sh, ?_⟩
  · simp only [Rep]; exact ⟨a, xs, rfl, .of h1, r1⟩
  · simp only [Rep]; exact ⟨b, xs, rfl, .of h2, r1⟩
  · have e : PyData.eqv (.list ds) (.list ds) = true := by simp only [PyData.eqv]; exact r4
    rw [e]
    cases neg <;> exact q
inductive FigA | count | named (hd n : Str)
noncomputable def Word4 (hd : Str) : Prop := hd = "sum" ∨ hd = "greatest" ∨ hd = "least" ∨ hd = "unlike"
noncomputable def IsFig (H : Hp) (v : V) : FigA → Prop
  | .count => ∃ p, v = .ref p ∧ H p = some (.tup [.str "count"])
  | .named hd n => ∃ p, v = .ref p ∧ H p = some (.tup [.str hd, .str n]) ∧ Word4 hd ∧ NmOk 13 n
theorem IsFig.mono {H H' : Hp} {v : V} {g : FigA} (s : Same H H') (h : IsFig H v g) : IsFig H' v g := by
  cases g with
  | count => obtain ⟨p, e, hp⟩ := h; exact ⟨p, e, s _ _ hp⟩
  | named hd n => obtain ⟨p, e, hp, r⟩ := h; exact ⟨p, e, s _ _ hp, r⟩
theorem Word4.ok {hd : Str} (h : Word4 hd) : hd ≠ "count" ∧ Valid hd ∧ inV (.str hd) [.str "sum", .str "greatest", .str "least", .str "unlike"] = true := by
  rcases h with rfl | rfl | rfl | rfl <;> exact ⟨by decide, by decide +kernel, by decide⟩
noncomputable def sp_is_figure (K : PySem.W.Frag) : Sp := fun vs H Q _ => ∃ v g, vs = [v] ∧ IsFig H v g ∧ ∀ H', Same H H' → Q (.bl true) H'
theorem ok_is_figure (T : Txt w K mg f fd) : FnOk P w K mg base CX0 1 (f 53) (fd 53) ["thing"] (sp_is_figure K) := by
  refine T.d_is_figure.F.ok sc_is_figure (fun vs H Q E h => ?_) (fun cdv A outer s H vs Q E hr h => ?_)
  · obtain ⟨v, g, rfl, _⟩ := h
    rfl
  · obtain ⟨v, g, rfl, hg, k⟩ := h
    refine ⟨_, (pss_cons (ps_if (pt_not (pt_val (pe_cB (k_isP rfl) T.n_isinstance bt_isinstance rfl (by decide) (by decide) rfl (pal rfl (pvl 0) (pal rfl (pty T.n_tuple bt_tuple) pa_nil)))))
     (pss_one (ps_ret pe_bl))
     pss_nil)
     (pss_cons (ps_if (pt_cmpR (k_eqD rfl hr.units) (pvl 0) (pe_tup (pal rfl pe_str pa_nil)) (nomark _))
     (pss_one (ps_ret pe_bl))
     pss_nil)
     (pss_one (ps_ret (pe_and (pe_cmpR op_eq (pe_cB (k_len rfl) T.n_len bt_len rfl (by decide) (by decide) rfl (pal rfl (pvl 0) pa_nil)) pe_int (nomark _)) (pe_and (pe_cmpR (k_in rfl) (pe_ix (k_ixT rfl) (pvl 0) pe_int (fun _ _ => rfl)) (pgcl T.g_NAMED_FORMS rfl (by decide)) rfl) (pe_one (pe_cB (k_isP rfl) T.n_isinstance bt_isinstance rfl (by decide) (by decide) rfl (pal rfl (pe_ix (k_ixT rfl) (pvl 0) pe_int (fun _ _ => rfl)) (pal rfl (pty T.n_str bt_str) pa_nil)))))))))), ?_⟩
    walk_at "dc"
    have vc : Valid ("count" : Str) := by decide +kernel
    have rc : ∀ (G : Hp) c, G c = some (.tup [.str "count"]) → Rep K G (.tuple [.str "count"]) (.ref c) := fun G c hc => by
      simp only [Rep]; exact ⟨c, _, rfl, .of hc, by simp [Reps, Rep]⟩
    have sc : SeqAt.shaped (.tuple [.str "count"]) = true := by simp [SeqAt.shaped, PyData.canLay0, PyData.canLayAll0, PyData.depth, PyData.depthAll, strOk_of vc]
    cases g with
    | count =>
      obtain ⟨p, rfl, hp⟩ := hg
      refine ⟨_, Pl.of_tup hp, by decide, ?_⟩
      rw [if_neg (by decide)]
      refine ⟨small_line (by decide), fun q hq => ?_⟩
      have u := Same.upd_new hq (HO.tup [V.str (Str.ofString "count")])
      have gq : upd H q (HO.tup [V.str (Str.ofString "count")]) q = some (.tup [V.str (Str.ofString "count")]) := upd_same
      generalize upd H q (HO.tup [V.str (Str.ofString "count")]) = H2 at *
      refine ⟨_, _, rc H2 p (u _ _ hp), rc H2 q gq, sc, sc, _, rfl, ?_⟩
      rw [if_neg Bool.false_ne_true, if_pos (by simp [PyData.eqv, PyData.eqvAll])]
      exact k H2 u
    | named hd n =>
      obtain ⟨p, rfl, hp, hw, hn⟩ := hg
      obtain ⟨w1, w2, w3⟩ := hw.ok
      refine ⟨_, Pl.of_tup hp, by decide, ?_⟩
      rw [if_neg (by decide)]
      refine ⟨small_line (by decide), fun q hq => ?_⟩
      have u := Same.upd_new hq (HO.tup [V.str (Str.ofString "count")])
      have gq : upd H q (HO.tup [V.str (Str.ofString "count")]) q = some (.tup [V.str (Str.ofString "count")]) := upd_same
      generalize upd H q (HO.tup [V.str (Str.ofString "count")]) = H2 at *
      refine ⟨.tuple [.str hd, .str n], _, by simp only [Rep]; exact ⟨p, _, rfl, .of (u _ _ hp), by simp [Reps, Rep]⟩, rc H2 q gq, pair_shaped w2 hn.2, sc, _, rfl, ?_⟩
      rw [if_neg Bool.false_ne_true, if_neg (by simp [PyData.eqv, PyData.eqvAll])]
      have hn13 := hn.1
      refine ⟨p, rfl, _, .inr (.of (u _ _ hp)), ?_⟩
      rw [if_pos (by simp)]
      refine ⟨p, _, _, _, rfl, rfl, .of (u _ _ hp), atI_nat (j := 0) rfl, f 52, _, rfl, .inr (T.t_NAMED_FORMS H2), by rfl, by decide, _, rfl, ?_⟩
      rw [if_neg Bool.false_ne_true, if_pos w3]
      refine ⟨p, _, _, _, rfl, rfl, .of (u _ _ hp), atI_nat (j := 1) rfl, "str", .of_str (small_line (by omega)), by decide, ?_⟩
      exact k H2 u
noncomputable def OutF (ns kds : List Str) : FigA → Out → Prop
  | .count, r => r = .right
  | .named hd n, r => (n ∉ ns ∧ r = .fld n) ∨ ∃ (j : Nat) (kd : Str), ns[j]? = some n ∧ kds[j]? = some kd ∧ ((hd = "sum" ∧ kd = wordS ∧ r = .knd n) ∨ (hd ≠ "sum" ∧ r = .right) ∨ (kd = numS ∧ r = .right))
noncomputable def sp_asked_figure (K : PySem.W.Frag) (f : Nat → Addr) : Sp := fun vs H Q E => ∃ l v xs ns kds g r, vs = [.ref l, v] ∧ H l = some (.lst xs) ∧ FldsK H xs ns kds ∧ IsFig H v g ∧ OutF ns kds g r ∧ Tell f Q E H r
theorem ok_asked_figure (T : Txt w K mg f fd) : FnOk P w K mg base (CXE P w) 4 (f 54) (fd 54) ["fields", "figure"] (sp_asked_figure K f) := by
  refine T.d_asked_figure.F.okX sc_asked_figure (fun vs H Q E h => ?_) (fun cdv A outer s H vs Q E hr h => ?_)
  · obtain ⟨l, v, xs, ns, kds, g, r, rfl, _⟩ := h
    rfl
  · obtain ⟨l, v, xs, ns, kds, g, r, rfl, hl, hF, hg, ho, k⟩ := h
    refine ⟨_, (pss_cons (ps_if (pt_cmpR op_eq (pe_ix (k_ixT rfl) (pvl 1) pe_int (fun _ _ => rfl)) pe_str (nomark _))
     (pss_one (ps_ret pe_bl))
     pss_nil)
     (pss_cons (psl 2 sc_asked_figure.nd (pe_ix (k_ixT rfl) (pe_ix (k_ixL rfl) (pvl 0) (pe_defX told_cx T.d_field_at (ok_field_at T) (hr.mono (by decide)) rfl (by decide) rfl (pal rfl (pvl 0) (pal rfl (pe_ix (k_ixT rfl) (pvl 1) pe_int (fun _ _ => rfl)) pa_nil))) (fun _ _ => rfl)) pe_int (fun _ _ => rfl)))
     (pss_cons (ps_if (PW.pt (pw_and (pt_cmpR op_eq (pe_ix (k_ixT rfl) (pvl 1) pe_int (fun _ _ => rfl)) pe_str (nomark _)) (pw_and1 (pt_cmpR op_ne (pvl 2) pe_str (nomark _)))))
     (pss_one (ps_raiseI told_cx rfl T.x_NoKind.x T.d_NoKind___init__.fn (ok_NoKind___init__ T) (hr.mono (by decide)) T.d_NoKind___init__.b T.x_NoKind.kp rfl T.x_NoKind.m (by decide) rfl (pal rfl (pe_ix (k_ixT rfl) (pvl 1) pe_int (fun _ _ => rfl)) pa_nil)))
     pss_nil)
     (pss_one (ps_ret pe_bl))))), ?_⟩
    walk_at "dc"
    cases g with
    | count =>
      obtain ⟨p, rfl, hp⟩ := hg
      obtain rfl : r = .right := ho
      refine ⟨p, _, _, _, rfl, rfl, .of hp, atI_nat (j := 0) rfl, rfl, ?_⟩
      rw [if_pos (by decide)]
      exact k H (Same.refl H)
    | named hd n =>
      obtain ⟨p, rfl, hp, hw, hn⟩ := hg
      refine ⟨p, _, _, _, rfl, rfl, .of hp, atI_nat (j := 0) rfl, rfl, ?_⟩
      rw [if_neg (by simpa using hw.ok.1)]
      refine ⟨p, _, _, _, rfl, rfl, .of hp, atI_nat (j := 1) rfl, ?_⟩
      rcases ho with ⟨hno, rfl⟩ | ⟨j, kd, hj, hkd, hcase⟩
      · exact ⟨l, xs, ns, kds, n, rfl, hl, hF, .inr ⟨hno, k⟩⟩
      refine ⟨l, xs, ns, kds, n, rfl, hl, hF, .inl ⟨j, hj, fun H1 s1 => ?_⟩⟩
      obtain ⟨p', n', kd', e1, e2, e3, e4⟩ := hF.at (show j < xs.length by rw [← hF.1]; exact (List.getElem?_eq_some_iff.mp hj).1)
      obtain rfl : kd = kd' := Option.some.inj (hkd.symm.trans e3)
      refine ⟨l, xs, _, _, rfl, rfl, .of (s1 _ _ hl), atI_nat e1, p', _, _, _, rfl, rfl, .of (s1 _ _ e4), atI_nat (j := 1) rfl, p, _, _, _, rfl, rfl, .of (s1 _ _ hp), atI_nat (j := 0) rfl, rfl, ?_⟩
      rcases hcase with ⟨rfl, rfl, rfl⟩ | ⟨hs, rfl⟩ | ⟨rfl, rfl⟩
      · rw [if_pos (by decide)]
        refine ⟨rfl, ?_⟩
        rw [if_pos (by decide)]
        refine ⟨p, _, _, _, rfl, rfl, .of (s1 _ _ hp), atI_nat (j := 1) rfl, ?_⟩
        exact ⟨small_line (by decide), fun a ha => ⟨a, f 14, .str n, some (.ref (f 15000)), rfl, upd_same, T.x_NoKind.x, T.x_NoKind.xc.hd, T.x_NoKind.sa, T.na_NoKind_name, fun dx hdx hne => ⟨rfl, some dx, upd_same, k _ dx (s1.trans (raised ha hdx hne).1) (raised ha hdx hne).2⟩⟩⟩
      · rw [if_neg (by simpa using hs)]
        exact k H1 s1
      · by_cases c : hd = "sum"
        · rw [if_pos (by simpa using c)]
          refine ⟨rfl, ?_⟩
          rw [if_neg (by decide)]
          exact k H1 s1
        · rw [if_neg (by simpa using c)]
          exact k H1 s1
noncomputable def sp_is_side (K : PySem.W.Frag) : Sp := fun vs H Q _ => ∃ p, ∃ zs : List Str, vs = [.ref p] ∧ H p = some (.tup (zs.map V.str)) ∧ (∀ z ∈ zs, z.length ≤ 13) ∧ zs.length ≤ 100 ∧ ∀ H', Same H H' → Q (.bl (decide (zs.length ≤ 3))) H'
theorem ok_is_side (T : Txt w K mg f fd) : FnOk P w K mg base CX0 1 (f 58) (fd 58) ["thing"] (sp_is_side K) := by
  refine T.d_is_side.F.ok sc_is_side (fun vs H Q E h => ?_) (fun cdv A outer s H vs Q E hr h => ?_)
  · obtain ⟨p, zs, rfl, _⟩ := h
    rfl
  · obtain ⟨p, zs, rfl, hp, h13, h100, k⟩ := h
    refine ⟨_, (pss_cons (ps_if (PW.pt (pw_or (pt_not (pt_val (pe_cB (k_isP rfl) T.n_isinstance bt_isinstance rfl (by decide) (by decide) rfl (pal rfl (pvl 0) (pal rfl (pty T.n_tuple bt_tuple) pa_nil))))) (pw_or1 (pt_cmpR op_gt (pe_cB (k_len rfl) T.n_len bt_len rfl (by decide) (by decide) rfl (pal rfl (pvl 0) pa_nil)) (pgi T.g_MOST_NAMES) (nomark _)))))
     (pss_one (ps_ret pe_bl))
     pss_nil)
     (pss_one (ps_ret (pe_cB (k_all rfl rfl) T.n_all bt_all rfl (by decide) (by decide) rfl (pal rfl (pe_comp ["name"] ["thing"] rfl (show CompSc _ (defScope s_is_side) ["thing"] ["thing"] from compOk_is (by decide +kernel)) (k_piT rfl (pvl 0)) (fun _ _ _ _ _ => (pgl 0 (show (["name", "thing"] : List Str).Nodup by decide +kernel))) (fun _ _ _ _ _ => pts_nil) (fun _ _ _ _ _ => (pe_cB (k_isP rfl) T.n_isinstance bt_isinstance rfl (by decide) (by decide) rfl (pal rfl (pvl 0) (pal rfl (pty T.n_str bt_str) pa_nil))))) pa_nil))))), ?_⟩
    walk_at "dc"
    refine ⟨_, Pl.of_tup hp, by decide, ?_⟩
    rw [if_neg (by decide)]
    refine ⟨_, .inr (.of hp), ?_⟩
    rw [List.length_map]
    by_cases c : zs.length ≤ 3
    · rw [if_neg (by simp; omega)]
      refine ⟨⟨_, .of hp⟩, ?_⟩
      refine comp_of (as := zs) (g := V.str) walk_tup (small_line (by omega)) (fun H' s => s.seqT (.of hp)) (fun _ => true) (fun _ => .bl true) (fun _ H1 Q _ _ q => q H1 (Same.refl _)) (fun z H1 Q hz _ s1 q => ?_) (fun H1 s1 D hD => ?_)
      · walk_at "dc"
        have := h13 z hz
        exact ⟨"str", .of_str (small_line (by omega)), by decide, q H1 (Same.refl _)⟩
      · rw [filter_yes]
        refine ⟨zs.map fun _ => true, .of (by rw [upd_same, List.map_map]; rfl), ?_⟩
        have e : (zs.map fun _ => true).all id = true := by rw [List.all_map]; simp
        rw [e]
        have := k _ (s1.new hD (HO.lst (zs.map fun _ => V.bl true)))
        rw [decide_eq_true c] at this
        exact this
    · rw [if_pos (by simp; omega)]
      have := k H (Same.refl H)
      rw [decide_eq_false c] at this
      exact this
noncomputable def sp_is_figures (K : PySem.W.Frag) : Sp := fun vs H Q _ => ∃ p, ∃ gs : List (V × FigA), vs = [.ref p] ∧ H p = some (.tup (gs.map Prod.fst)) ∧ (∀ g ∈ gs, IsFig H g.1 g.2) ∧ gs.length ≤ 100 ∧ ∀ H', Same H H' → Q (.bl (decide (1 ≤ gs.length ∧ gs.length ≤ 4))) H'
theorem ok_is_figures (T : Txt w K mg f fd) : FnOk P w K mg base CX0 2 (f 59) (fd 59) ["thing"] (sp_is_figures K) := by
  refine T.d_is_figures.F.ok sc_is_figures (fun vs H Q E h => ?_) (fun cdv A outer s H vs Q E hr h => ?_)
  · obtain ⟨p, gs, rfl, _⟩ := h
    rfl
  · obtain ⟨p, gs, rfl, hp, hg, h100, k⟩ := h
    refine ⟨_, (pss_cons (ps_if (PW.pt (pw_or (pt_not (pt_val (pe_cB (k_isP rfl) T.n_isinstance bt_isinstance rfl (by decide) (by decide) rfl (pal rfl (pvl 0) (pal rfl (pty T.n_tuple bt_tuple) pa_nil))))) (pw_or1 (pt_not (pt_chain op_le op_le pe_int (pe_cB (k_len rfl) T.n_len bt_len rfl (by decide) (by decide) rfl (pal rfl (pvl 0) pa_nil)) (pgi T.g_MOST_FIGURES_heads))))))
     (pss_one (ps_ret pe_bl))
     pss_nil)
     (pss_one (ps_ret (pe_cB (k_all rfl rfl) T.n_all bt_all rfl (by decide) (by decide) rfl (pal rfl (pe_comp ["figure"] ["thing"] rfl (show CompSc _ (defScope s_is_figures) ["thing"] ["thing"] from compOk_is (by decide +kernel)) (k_piT rfl (pvl 0)) (fun _ _ _ _ _ => (pgl 0 (show (["figure", "thing"] : List Str).Nodup by decide +kernel))) (fun _ _ _ _ _ => pts_nil) (fun _ _ _ _ _ => (pe_defL T.d_is_figure (ok_is_figure T) (hr.mono (by decide)) rfl (by decide) rfl (pal rfl (pvl 0) pa_nil)))) pa_nil))))), ?_⟩
    walk_at "dc"
    refine ⟨_, Pl.of_tup hp, by decide, ?_⟩
    rw [if_neg (by decide)]
    refine ⟨_, .inr (.of hp), ?_⟩
    rw [List.length_map]
    have no : ¬ (1 ≤ gs.length ∧ gs.length ≤ 4) → Q (.bl false) H := fun c => by
      have := k H (Same.refl H)
      rw [decide_eq_false c] at this
      exact this
    by_cases c1 : 1 ≤ gs.length
    · rw [if_pos (decide_eq_true (by omega))]
      by_cases c4 : gs.length ≤ 4
      · rw [if_neg (by simp; omega)]
        refine ⟨⟨_, .of hp⟩, ?_⟩
        refine comp_of (as := gs) (g := Prod.fst) walk_tup (small_line (by omega)) (fun H' s => s.seqT (.of hp)) (fun _ => true) (fun _ => .bl true) (fun _ H1 Q _ _ q => q H1 (Same.refl _)) (fun g H1 Q hgm _ s1 q => ?_) (fun H1 s1 D hD => ?_)
        · walk_at "dc"
          exact ⟨⟨g.2, (hg g hgm).mono s1⟩, q⟩
        · rw [filter_yes]
          refine ⟨gs.map fun _ => true, .of (by rw [upd_same, List.map_map]; rfl), ?_⟩
          have e : (gs.map fun _ => true).all id = true := by rw [List.all_map]; simp
          rw [e]
          have := k _ (s1.new hD (HO.lst (gs.map fun _ => V.bl true)))
          rw [decide_eq_true ⟨c1, c4⟩] at this
          exact this
      · rw [if_pos (by simp; omega)]
        exact no fun z => c4 z.2
    · rw [if_neg (by simp; omega)]
      exact no fun z => c1 z.1
theorem take_range (zs : List Str) (e : Str) : ∀ k, k ≤ zs.length → (List.range k).map (fun i => zs.getD i e) = zs.take k
  | 0, _ => rfl
  | k + 1, h => by
    have hk : k < zs.length := h
    rw [List.range_succ, List.map_append, take_range zs e k (by omega), take_snoc (List.getElem?_eq_getElem hk)]
    simp [List.getD_eq_getElem?_getD, List.getElem?_eq_getElem hk]
theorem unl_take (zs : List Str) (e : Str) : ∀ k, k ≤ zs.length → (unl (fun i => zs.getD i e) k = k ↔ (zs.take k).Nodup)
  | 0, _ => by simp [unl]
  | k + 1, h => by
    have hk : k < zs.length := h
    have ih := unl_take zs e k (by omega)
    have le := unl_le (fun i => zs.getD i e) k
    have ek : zs.getD k e = zs[k] := by simp [List.getD_eq_getElem?_getD, List.getElem?_eq_getElem hk]
    rw [take_snoc (List.getElem?_eq_getElem hk)]
    unfold unl
    rw [take_range zs e k (by omega), ek]
    have en : (zs.take k ++ [zs[k]]).Nodup ↔ (zs.take k).Nodup ∧ zs[k] ∉ zs.take k := by
      rw [List.nodup_append]
      constructor
      · rintro ⟨a, _, c⟩
        exact ⟨a, fun z => c _ z _ (List.mem_singleton.mpr rfl) rfl⟩
      · rintro ⟨a, c⟩
        exact ⟨a, by simp, fun x hx y hy z => c (by rw [List.mem_singleton.mp hy] at z; rw [← z]; exact hx)⟩
    rw [en]
    by_cases c : zs[k] ∈ zs.take k
    · rw [if_pos (by rw [List.any_eq_true]; exact ⟨_, c, by simp⟩)]
      constructor
      · intro z
        omega
      · exact fun z => absurd c z.2
    · rw [if_neg (by rw [List.any_eq_true]; rintro ⟨x, hx, z⟩; exact c (by rw [← eq_of_beq z]; exact hx))]
      rw [← ih]
      constructor
      · exact fun z => ⟨by omega, c⟩
      · exact fun z => by have := z.1; omega
theorem unl_all (zs : List Str) (e : Str) : unl (fun i => zs.getD i e) zs.length = zs.length ↔ zs.Nodup := by
  have := unl_take zs e zs.length (Nat.le_refl _)
  rwa [List.take_length] at this
noncomputable def IsView (H : Hp) (v : V) (za zb : List Str) (gs : List (V × FigA)) : Prop := ∃ p a b c, v = .ref p ∧ H p = some (.tup [.ref a, .ref b, .ref c]) ∧ H a = some (.tup (za.map V.str)) ∧ H b = some (.tup (zb.map V.str)) ∧ H c = some (.tup (gs.map Prod.fst)) ∧ (∀ z ∈ za ++ zb, NmOk 13 z) ∧ za.length ≤ 8 ∧ zb.length ≤ 8 ∧ (∀ g ∈ gs, IsFig H g.1 g.2) ∧ gs.length ≤ 8
theorem IsView.mono {H H' : Hp} {v : V} {za zb : List Str} {gs : List (V × FigA)} (s : Same H H') (h : IsView H v za zb gs) : IsView H' v za zb gs := by
  obtain ⟨p, a, b, c, e, h1, h2, h3, h4, h5, h6, h7, h8, h9⟩ := h
  exact ⟨p, a, b, c, e, s _ _ h1, s _ _ h2, s _ _ h3, s _ _ h4, h5, h6, h7, fun g hg => (h8 g hg).mono s, h9⟩
noncomputable def FormOk (za zb : List Str) (gs : List (V × FigA)) : Prop := za.length ≤ 3 ∧ zb.length ≤ 3 ∧ (za ++ zb).Nodup ∧ 1 ≤ gs.length ∧ gs.length ≤ 4
noncomputable def sp_asked_form (K : PySem.W.Frag) (f : Nat → Addr) : Sp := fun vs H Q E => ∃ v za zb gs, vs = [v] ∧ IsView H v za zb gs ∧ (FormOk za zb gs → ∀ H', Same H H' → Q (.bl true) H') ∧ (¬ FormOk za zb gs → ∀ H', Same H H' → E (.ref (f 5)) none H')
theorem ok_asked_form (T : Txt w K mg f fd) : FnOk P w K mg base (CXE P w) 3 (f 60) (fd 60) ["view"] (sp_asked_form K f) := by
  refine T.d_asked_form.F.okX sc_asked_form (fun vs H Q E h => ?_) (fun cdv A outer s H vs Q E hr h => ?_)
  · obtain ⟨v, za, zb, gs, rfl, _⟩ := h
    rfl
  · obtain ⟨v, za, zb, gs, rfl, ⟨p, a, b, c, rfl, h1, h2, h3, h4, h5, h6, h7, h8, h9⟩, k1, k2⟩ := h
    refine ⟨_, (pss_cons (ps_if (PW.pt (pw_or (pt_not (pt_val (pe_cB (k_isP rfl) T.n_isinstance bt_isinstance rfl (by decide) (by decide) rfl (pal rfl (pvl 0) (pal rfl (pty T.n_tuple bt_tuple) pa_nil))))) (pw_or1 (pt_cmpR op_ne (pe_cB (k_len rfl) T.n_len bt_len rfl (by decide) (by decide) rfl (pal rfl (pvl 0) pa_nil)) pe_int (nomark _)))))
     (pss_one (ps_raise told_cx rfl T.x_NoView.x rfl T.x_NoView.m (by decide) rfl (pal rfl pe_str pa_nil)))
     pss_nil)
     (pss_cons (ps_if (PW.pt (pw_or (pt_not (pt_val (pe_defL T.d_is_side (ok_is_side T) (hr.mono (by decide)) rfl (by decide) rfl (pal rfl (pe_ix (k_ixT rfl) (pvl 0) pe_int (fun _ _ => rfl)) pa_nil)))) (pw_or1 (pt_not (pt_val (pe_defL T.d_is_side (ok_is_side T) (hr.mono (by decide)) rfl (by decide) rfl (pal rfl (pe_ix (k_ixT rfl) (pvl 0) pe_int (fun _ _ => rfl)) pa_nil)))))))
     (pss_one (ps_raise told_cx rfl T.x_NoView.x rfl T.x_NoView.m (by decide) rfl (pal rfl pe_str pa_nil)))
     pss_nil)
     (pss_cons (psl 1 sc_asked_form.nd (pe_op (k_catA rfl) (pe_ix (k_ixT rfl) (pvl 0) pe_int (fun _ _ => rfl)) (pe_ix (k_ixT rfl) (pvl 0) pe_int (fun _ _ => rfl))))
     (pss_cons (ps_if (pt_cmpR op_lt (pe_cB call_lenSet T.n_len bt_len rfl (by decide) (by decide) rfl (pal rfl (pe_cTy (k_setS rfl rfl) T.n_set bt_set rfl (by decide) (by decide) rfl (pal rfl (pvl 1) pa_nil)) pa_nil)) (pe_cB (k_len rfl) T.n_len bt_len rfl (by decide) (by decide) rfl (pal rfl (pvl 1) pa_nil)) (nomark _))
     (pss_one (ps_raise told_cx rfl T.x_NoView.x rfl T.x_NoView.m (by decide) rfl (pal rfl pe_str pa_nil)))
     pss_nil)
     (pss_cons (ps_if (pt_not (pt_val (pe_defL T.d_is_figures (ok_is_figures T) (hr.mono (by decide)) rfl (by decide) rfl (pal rfl (pe_ix (k_ixT rfl) (pvl 0) pe_int (fun _ _ => rfl)) pa_nil))))
     (pss_one (ps_raise told_cx rfl T.x_NoView.x rfl T.x_NoView.m (by decide) rfl (pal rfl pe_str pa_nil)))
     pss_nil)
     (pss_one (ps_ret pe_bl))))))), ?_⟩
    walk_at "dc"
    refine ⟨_, Pl.of_tup h1, by decide, ?_⟩
    rw [if_neg (by decide)]
    refine ⟨_, .inr (.of h1), ?_⟩
    rw [if_neg (by simp)]
    have no : ∀ G : Hp, ¬ FormOk za zb gs → Same H G → (1 ≤ sizeLine ∧ E (Value.ref (f 5)) none G) := fun G hn s => ⟨small_line (by decide), k2 hn G s⟩
    refine ⟨p, _, _, _, rfl, rfl, .of h1, atI_nat (j := 0) rfl, a, za, rfl, h2, fun z hz => (h5 z (List.mem_append_left _ hz)).1, by omega, fun H1 s1 => ⟨_, rfl, ?_⟩⟩
    by_cases ca : ¬ za.length ≤ 3
    · rw [decide_eq_false ca, if_pos (by decide)]
      exact no H1 (fun z => ca z.1) s1
    replace ca := Decidable.not_not.mp ca
    rw [decide_eq_true ca, if_neg (by decide)]
    refine ⟨p, _, _, _, rfl, rfl, .of (s1 _ _ h1), atI_nat (j := 1) rfl, b, zb, rfl, s1 _ _ h3, fun z hz => (h5 z (List.mem_append_right _ hz)).1, by omega, fun H2 s2 => ⟨_, rfl, ?_⟩⟩
    have S2 := s1.trans s2
    by_cases cb : ¬ zb.length ≤ 3
    · rw [decide_eq_false cb, if_pos (by decide)]
      exact no H2 (fun z => cb z.2.1) S2
    replace cb := Decidable.not_not.mp cb
    rw [decide_eq_true cb, if_neg (by decide)]
    have rest : ∀ (G : Hp) (q : Addr), Same H G → G q = some (.tup ((za ++ zb).map V.str)) → rSetS K [V.ref q] G fun x_1 H1 => rLenSet [x_1] H1 fun x_2 H1 => ∃ p_1, V.ref q = V.ref p_1 ∧ ∃ x, (SqL K H1 p_1 x ∨ SqT K H1 p_1 x) ∧ ∃ i, x_2 = V.int i ∧
        if decide (i < ↑x.length) = true then 1 ≤ sizeLine ∧ E (Value.ref (f 5)) none H1
        else rIxT K (V.ref p) (V.int 2) H1 fun x H1 => sp_is_figures K [x] H1 (fun x H1 => ∃ c, x = V.bl c ∧ if (!c) = true then 1 ≤ sizeLine ∧ E (Value.ref (f 5)) none H1 else Q (V.bl true) H1) E0 := by
      intro G q sG hq
      have hl : (za ++ zb).length = za.length + zb.length := List.length_append
      have le := unl_le (fun i => (za ++ zb).getD i Str.empty) (za ++ zb).length
      have iff := unl_all (za ++ zb) Str.empty
      refine ⟨q, za ++ zb, rfl, .inr (.of hq), by omega, fun d hd => ?_⟩
      have u := Same.upd_new hd (SzO d (unl (fun i => (za ++ zb).getD i Str.empty) (za ++ zb).length))
      have gd : upd G d (SzO d (unl (fun i => (za ++ zb).getD i Str.empty) (za ++ zb).length)) d = some (SzO d (unl (fun i => (za ++ zb).getD i Str.empty) (za ++ zb).length)) := upd_same
      generalize upd G d (SzO d (unl (fun i => (za ++ zb).getD i Str.empty) (za ++ zb).length)) = G2 at *
      generalize unl (fun i => (za ++ zb).getD i Str.empty) (za ++ zb).length = m at *
      have S := sG.trans u
      refine ⟨d, m, rfl, gd, by omega, q, rfl, _, .inr (.of (u _ _ hq)), _, rfl, ?_⟩
      rw [List.length_map]
      by_cases cn : (za ++ zb).Nodup
      · rw [if_neg (by have := iff.mpr cn; simp; omega)]
        refine ⟨p, _, _, _, rfl, rfl, .of (S _ _ h1), atI_nat (j := 2) rfl, c, gs, rfl, S _ _ h4, fun g hg => (h8 g hg).mono S, by omega, fun G3 s3 => ⟨_, rfl, ?_⟩⟩
        by_cases cg : 1 ≤ gs.length ∧ gs.length ≤ 4
        · rw [decide_eq_true cg, if_neg (by decide)]
          exact k1 ⟨ca, cb, cn, cg⟩ G3 (S.trans s3)
        · rw [decide_eq_false cg, if_pos (by decide)]
          exact no G3 (fun z => cg z.2.2.2) (S.trans s3)
      · have hne : m ≠ (za ++ zb).length := fun z => cn (iff.mp z)
        rw [if_pos (by simp; omega)]
        exact no G2 (fun z => cn z.2.2.1) S
    refine ⟨p, _, _, _, rfl, rfl, .of (S2 _ _ h1), atI_nat (j := 0) rfl, p, _, _, _, rfl, rfl, .of (S2 _ _ h1), atI_nat (j := 1) rfl, a, b, _, _, rfl, rfl, .of (S2 _ _ h2), .of (S2 _ _ h3), small_line (by rw [List.length_map, List.length_map]; omega), fun z => ?_, fun _ z => ?_, fun _ _ q hq => ?_⟩
    · obtain rfl : za = [] := List.map_eq_nil_iff.mp z
      exact rest H2 b S2 (S2 _ _ h3)
    · obtain rfl : zb = [] := List.map_eq_nil_iff.mp z
      exact rest H2 a S2 (by rw [List.append_nil]; exact S2 _ _ h2)
    · exact rest _ q (S2.new hq _) (by rw [upd_same, List.map_append])
theorem firstOut_app : ∀ {as bs : List Out}, (∀ o ∈ as, o = .right) → firstOut (as ++ bs) = firstOut bs
  | [], _, _ => rfl
  | .right :: as, bs, h => firstOut_app (as := as) fun o ho => h o (List.mem_cons_of_mem _ ho)
  | .fld n :: _, _, h => absurd (h (.fld n) List.mem_cons_self) (fun z => nomatch z)
  | .knd n :: _, _, h => absurd (h (.knd n) List.mem_cons_self) (fun z => nomatch z)
noncomputable def nmOut (ns : List Str) (n : Str) : Out := if n ∈ ns then .right else .fld n
noncomputable def sp_asked_view (K : PySem.W.Frag) (f : Nat → Addr) : Sp := fun vs H Q E => ∃ (l : Addr) (v : V) (xs : List V) (ns kds za zb : List Str) (gs : List (V × FigA)) (rs : List Out), vs = [.ref l, v] ∧ H l = some (.lst xs) ∧ FldsK H xs ns kds ∧ IsView H v za zb gs ∧
  (rs.length = gs.length ∧ ∀ (i : Nat) g r, gs[i]? = some g → rs[i]? = some r → OutF ns kds g.2 r) ∧ (¬ FormOk za zb gs → ∀ H', Same H H' → E (.ref (f 5)) none H') ∧ (FormOk za zb gs → Tell f Q E H (firstOut ((za ++ zb).map (nmOut ns) ++ rs)))
theorem ok_asked_view (T : Txt w K mg f fd) : FnOk P w K mg base (CXE P w) 5 (f 61) (fd 61) ["fields", "view"] (sp_asked_view K f) := by
  refine T.d_asked_view.F.okX sc_asked_view (fun vs H Q E h => ?_) (fun cdv A outer s H vs Q E hr h => ?_)
  · obtain ⟨l, v, xs, ns, kds, za, zb, gs, rs, rfl, _⟩ := h
    rfl
  · obtain ⟨l, v, xs, ns, kds, za, zb, gs, rs, rfl, hl, hF, hV, ⟨hrl, hrs⟩, k1, k2⟩ := h
    refine ⟨_, (pss_cons (ps_expr (pe_defX told_cx T.d_asked_form (ok_asked_form T) (hr.mono (by decide)) rfl (by decide) rfl (pal rfl (pvl 1) pa_nil)))
     (pss_cons (ps_for PassesOwn.leaving rfl (k_piT rfl (pe_op (k_catA rfl) (pe_ix (k_ixT rfl) (pvl 1) pe_int (fun _ _ => rfl)) (pe_ix (k_ixT rfl) (pvl 1) pe_int (fun _ _ => rfl)))) (pgl 2 sc_asked_view.nd)
     (pss_one (ps_expr (pe_defX told_cx T.d_field_at (ok_field_at T) (hr.mono (by decide)) rfl (by decide) rfl (pal rfl (pvc 0) (pal rfl (pvl 2) pa_nil))))))
     (pss_one (ps_ret (pe_cB (k_all rfl rfl) T.n_all bt_all rfl (by decide) (by decide) rfl (pal rfl (pe_compX leaves_cx ["figure"] ["fields", "view", "name"] rfl (show CompSc _ (defScope s_asked_view) ["fields", "view", "name"] ["fields", "view", "name"] from compOk_is (by decide +kernel)) (k_piT rfl (pe_ix (k_ixT rfl) (pvl 1) pe_int (fun _ _ => rfl))) (fun _ _ _ _ _ _ => (pgl 0 (show (["figure", "fields", "view", "name"] : List Str).Nodup by decide +kernel))) (fun _ _ _ _ _ _ => pts_nil) (fun _ _ _ _ _ _ TC => (pe_defC TC T.d_asked_figure (ok_asked_figure T) (hr.mono (by decide)) rfl (by decide) rfl (pal rfl (pvc 1) (pal rfl (pvl 0) pa_nil))))) pa_nil)))))), ?_⟩
    walk_at "dc"
    refine ⟨v, za, zb, gs, rfl, hV, fun hok H1 s1 => ?_, k1⟩
    replace k2 := k2 hok
    obtain ⟨p, a, b, c, rfl, h1, h2, h3, h4, h5, h6, h7, h8, h9⟩ := hV.mono s1
    refine for_in ?_
    walk_at "dc"
    generalize hD0 : (Ends.mk _ _ _ _ : Ends) = D0
    have hlL : ((za ++ zb).map (nmOut ns)).length = (za ++ zb).length := List.length_map ..
    have hzz : (za ++ zb).length = za.length + zb.length := List.length_append
    have fin : ∀ (v2 : Option V) (G : Hp), Same H G → Same H1 G → (∀ o ∈ (za ++ zb).map (nmOut ns), o = .right) → D0.nx [some (V.ref l), some (V.ref p), v2] G := by
      intro v2 G sG sG1 hall
      subst hD0
      rw [firstOut_app hall] at k2
      walk_at "dc"
      refine ⟨p, _, _, _, rfl, rfl, .of (sG1 _ _ h1), atI_nat (j := 2) rfl, c, rfl, ⟨_, .of (sG1 _ _ h4)⟩, ?_⟩
      have hlc : (gs.map Prod.fst).length = gs.length := List.length_map ..
      refine comp_walk (walk_tup (xs := gs.map Prod.fst)) (small_line (by omega)) (fun i ys H' => Same G H' ∧ ys = (List.replicate i true).map V.bl ∧ ∀ m, m < i → rs[m]? = some .right) ⟨Same.refl _, rfl, fun _ hm => absurd hm (by omega)⟩ (fun _ _ H' _ q => (sG1.trans q.1).seqT (.of h4)) (fun i ys H' q => by rw [q.2.1, List.length_map, List.length_replicate]; exact Nat.le_refl _) (fun i x ys H3 hx q => ?_) (fun ys H3 q D hD => ?_)
      · obtain ⟨t1, rfl, t3⟩ := q
        rw [List.getElem?_map] at hx
        obtain ⟨g, hg, rfl⟩ := Option.map_eq_some_iff.mp hx
        have hi : i < rs.length := by rw [hrl]; exact (List.getElem?_eq_some_iff.mp hg).1
        have ho : rs[i]? = some rs[i] := List.getElem?_eq_getElem hi
        have hof := hrs i g rs[i] hg ho
        have S3 := sG.trans t1
        walk_at "dc"
        refine ⟨xs, S3 _ _ hl, ns, kds, hF.mono S3, g.2, (h8 g (List.mem_of_getElem? hg)).mono (sG1.trans t1), rs[i], hof, ?_⟩
        have fo := fun hn => firstOut_at t3 ho hn
        cases hr2 : rs[i] with
        | right =>
          exact fun H4 s4 => ⟨⟨_, rfl⟩, t1.trans s4, by rw [List.map_replicate, ← List.replicate_succ', List.replicate_succ], fun m hm => by
            rcases Nat.lt_succ_iff_lt_or_eq.mp hm with hm | rfl
            · exact t3 m hm
            · rw [ho, hr2]⟩
        | fld n =>
          rw [fo (by rw [hr2]; exact fun z => nomatch z), hr2] at k2
          exact Tell.mono S3 (r := .fld n) k2
        | knd n =>
          rw [fo (by rw [hr2]; exact fun z => nomatch z), hr2] at k2
          exact Tell.mono S3 (r := .knd n) k2
      · obtain ⟨t1, rfl, t3⟩ := q
        rw [hlc] at t3
        have er : firstOut rs = .right := by
          refine firstOut_all fun o ho => ?_
          obtain ⟨m, hm⟩ := List.mem_iff_getElem?.mp ho
          have hml := (List.getElem?_eq_some_iff.mp hm).1
          rw [t3 m (by omega)] at hm
          exact (Option.some.inj hm).symm
        rw [er] at k2
        refine ⟨_, .of upd_same, ?_⟩
        have e : (List.replicate (gs.map Prod.fst).length true).all id = true := by rw [List.all_eq_true]; intro x hx; rw [List.eq_of_mem_replicate hx]; rfl
        rw [e]
        exact k2 _ ((sG.trans t1).new hD _)
    have loop : ∀ (G : Hp) (q : Addr), Same H1 G → G q = some (.tup ((za ++ zb).map V.str)) → (∃ a, V.ref q = V.ref a ∧ (∃ xs, SqT K G a xs) ∧ ForW (Itt K a) (gName 2) (tDrop (tCallX (fun x => True) (sp_field_at K f) E (tCons (tVar 0) (tCons (tVar 2) tNil)))) D0 [some (V.ref l), some (V.ref p), none] G) := by
      intro G q sG hq
      refine ⟨q, rfl, ⟨_, .of hq⟩, ?_⟩
      refine ForW.of (walk_tup (xs := (za ++ zb).map V.str)) (fun i σ H' => (∃ v2, σ = [some (V.ref l), some (V.ref p), v2]) ∧ Same G H' ∧ ∀ m, m < i → ((za ++ zb).map (nmOut ns))[m]? = some .right) ⟨⟨_, rfl⟩, Same.refl _, fun _ hm => absurd hm (by omega)⟩ (fun _ _ H' _ q => q.2.1.seqT (.of hq)) ?_ ?_
      · rintro i x σ H2 hx ⟨⟨v2, rfl⟩, s2, t3⟩
        rw [List.getElem?_map] at hx
        obtain ⟨n, hn, rfl⟩ := Option.map_eq_some_iff.mp hx
        have ho : ((za ++ zb).map (nmOut ns))[i]? = some (nmOut ns n) := by rw [List.getElem?_map, hn]; rfl
        have S2 := (s1.trans sG).trans s2
        walk_at "dc"
        refine ⟨l, xs, ns, kds, n, rfl, S2 _ _ hl, hF.mono S2, ?_⟩
        by_cases cn : n ∈ ns
        · obtain ⟨j, hj⟩ := List.mem_iff_getElem?.mp cn
          refine .inl ⟨j, hj, fun H3 s3 => ⟨⟨_, rfl⟩, s2.trans s3, fun m hm => ?_⟩⟩
          rcases Nat.lt_succ_iff_lt_or_eq.mp hm with hm | rfl
          · exact t3 m hm
          · rw [ho]
            unfold nmOut
            rw [if_pos cn]
        · refine .inr ⟨cn, ?_⟩
          have eo : nmOut ns n = .fld n := by unfold nmOut; rw [if_neg cn]
          have hil := (List.getElem?_eq_some_iff.mp ho).1
          have fo := firstOut_at (os := (za ++ zb).map (nmOut ns) ++ rs) (i := i) (o := .fld n) (fun m hm => by rw [List.getElem?_append_left (by omega)]; exact t3 m hm) (by rw [List.getElem?_append_left hil, ho, eo]) (fun z => nomatch z)
          rw [fo] at k2
          exact Tell.mono S2 (r := .fld n) k2
      · rintro σ H2 ⟨⟨v2, rfl⟩, s2, t3⟩
        rw [List.length_map] at t3
        refine fin v2 H2 ((s1.trans sG).trans s2) (sG.trans s2) fun o ho => ?_
        obtain ⟨m, hm⟩ := List.mem_iff_getElem?.mp ho
        have hml := (List.getElem?_eq_some_iff.mp hm).1
        rw [t3 m (by omega)] at hm
        exact (Option.some.inj hm).symm
    refine ⟨p, _, _, _, rfl, rfl, .of h1, atI_nat (j := 0) rfl, p, _, _, _, rfl, rfl, .of h1, atI_nat (j := 1) rfl, a, b, _, _, rfl, rfl, .of h2, .of h3, small_line (by rw [List.length_map, List.length_map]; omega), fun z => ?_, fun _ z => ?_, fun _ _ q hq => ?_⟩
    · obtain rfl : za = [] := List.map_eq_nil_iff.mp z
      exact loop H1 b (Same.refl _) h3
    · obtain rfl : zb = [] := List.map_eq_nil_iff.mp z
      exact loop H1 a (Same.refl _) (by rw [List.append_nil]; exact h2)
    · exact loop _ q (Same.upd_new hq _) (by rw [upd_same, List.map_append])
noncomputable def FlatV (v : V) : Prop := v = .non ∨ (∃ i, v = .int i) ∨ ∃ z : Str, v = .str z ∧ z.length ≤ 12 ∧ ∀ c ∈ z.cps.toList, c < 1114112
theorem flat_data {K : PySem.W.Frag} {H : Hp} : ∀ (vs : List V), (∀ v ∈ vs, FlatV v) → ∃ ds, Reps K H ds vs ∧ PyData.canLayAll0 ds = true ∧ PyData.depthAll ds = 0 ∧ PyData.eqvAll ds ds = true
  | [], _ => ⟨[], by simp [Reps], by simp [PyData.canLayAll0], by simp [PyData.depthAll], by simp [PyData.eqvAll]⟩
  | v :: vs, h => by
    obtain ⟨ds, h1, h2, h3, h4⟩ := flat_data (K := K) (H := H) vs (fun u hu => h u (List.mem_cons_of_mem _ hu))
    have one : ∃ d, Rep K H d v ∧ PyData.canLay0 d = true ∧ PyData.depth d = 0 ∧ PyData.eqv d d = true := by
      rcases h v List.mem_cons_self with rfl | ⟨i, rfl⟩ | ⟨z, rfl, hz, hc⟩
      · exact ⟨.none, by simp [Rep], by simp [PyData.canLay0], by simp [PyData.depth], by simp [PyData.eqv]⟩
      · exact ⟨.int i, by simp [Rep], by simp [PyData.canLay0], by simp [PyData.depth], by simp [PyData.eqv]⟩
      · refine ⟨.str z, by simp [Rep], ?_, by simp [PyData.depth], by simp [PyData.eqv]⟩
        simp only [PyData.canLay0, PyData.strOk]
        rw [Array.all_eq_true_iff_forall_mem]
        intro c hc'
        exact decide_eq_true (hc c (by simpa using hc'))
    obtain ⟨d, g1, g2, g3, g4⟩ := one
    refine ⟨d :: ds, ?_, ?_, ?_, ?_⟩
    · simp only [Reps]
      exact ⟨_, _, rfl, g1, h1⟩
    · simp only [PyData.canLayAll0, g2, h2, Bool.and_true]
    · simp only [PyData.depthAll, g3, h3]; rfl
    · simp only [PyData.eqvAll, g4, h4, Bool.and_true]
theorem eqT_of {K : PySem.W.Frag} {H : Hp} {a b : Addr} {vs : List V} {neg : Bool} {Q : VK} (h1 : H a = some (.tup vs)) (h2 : H b = some (.tup vs)) (hv : ∀ v ∈ vs, FlatV v) (q : Q (.bl (!neg)) H) : rEqD K neg (.ref a) (.ref b) H Q := by
  obtain ⟨ds, r1, r2, r3, r4⟩ := flat_data (K := K) (H := H) vs hv
  have sh : SeqAt.shaped (.tuple ds) = true := by
    unfold SeqAt.shaped
    simp only [PyData.canLay0, PyData.depth, r2, r3, Bool.true_and]
    exact decide_eq_true (by omega)
  refine ⟨.tuple ds, .tuple ds, ?_, ?_, sh, sh, ?_⟩
  · simp only [Rep]; exact ⟨a, vs, rfl, .of h1, r1⟩
  · simp only [Rep]; exact ⟨b, vs, rfl, .of h2, r1⟩
  · have e : PyData.eqv (.tuple ds) (.tuple ds) = true := by simp only [PyData.eqv]; exact r4
    rw [e]
    cases neg <;> exact q
theorem eqLs_of {K : PySem.W.Frag} {H : Hp} {a b : Addr} {vs : List V} {neg : Bool} {Q : VK} (h1 : H a = some (.lst vs)) (h2 : H b = some (.lst vs)) (hv : ∀ v ∈ vs, FlatV v) (q : Q (.bl (!neg)) H) : rEqD K neg (.ref a) (.ref b) H Q := by
  obtain ⟨ds, r1, r2, r3, r4⟩ := flat_data (K := K) (H := H) vs hv
  have sh : SeqAt.shaped (.list ds) = true := by
    unfold SeqAt.shaped
    simp only [PyData.canLay0, PyData.depth, r2, r3, Bool.true_and]
    exact decide_eq_true (by omega)
  refine ⟨.list ds, .list ds, ?_, ?_, sh, sh, ?_⟩
  · simp only [Rep]; exact ⟨a, vs, rfl, .of h1, r1⟩
  · simp only [Rep]; exact ⟨b, vs, rfl, .of h2, r1⟩
  · have e : PyData.eqv (.list ds) (.list ds) = true := by simp only [PyData.eqv]; exact r4
    rw [e]
    cases neg <;> exact q
noncomputable def rdFs (z : Str) (a b : Int) : List (Str × V) := [("text", .str z), ("at", .int a), ("begun", .int b)]
theorem put_at (z : Str) (a b c : Int) : putF "at" (.int c) (rdFs z a b) = rdFs z c b := by
  unfold rdFs
  rw [putF, if_neg (by decide), putF, if_pos rfl]
theorem put_begun (z : Str) (a b c : Int) : putF "begun" (.int c) (rdFs z a b) = rdFs z a c := by
  unfold rdFs
  rw [putF, if_neg (by decide), putF, if_neg (by decide), putF, if_pos rfl]
theorem put_init (z : Str) : putF "begun" (.int 0) (putF "at" (.int 0) (putF "text" (.str z) [])) = rdFs z 0 0 := by
  have e1 : putF "at" (.int 0) (putF "text" (.str z) []) = ([("text", .str z), ("at", .int 0)] : List (Str × V)) := by
    show (if (("text" : Str) = "at") then _ else _) = _
    rw [if_neg (by decide)]
    rfl
  rw [e1, putF, if_neg (by decide), putF, if_neg (by decide), putF]
  rfl
theorem st3 (x y : Str) (i : Nat) : Txt.startswith3 x y (i : Int) = (decide (i + y.length ≤ x.length) && ((x.cps.toList.drop i).take y.length == y.cps.toList)) := by
  unfold Txt.startswith3
  rw [PySem.StrLaws.subAt_eq, show fromIndex x.length (i : Int) = i by unfold fromIndex; rw [if_neg (by omega)]; omega]
structure NmT (z nm : Str) : Prop where
  cs : z.cps.toList = nm.cps.toList ++ [63, 38]
  n1 : 1 ≤ nm.length
  n2 : nm.length ≤ 12
  ls : ∀ c ∈ nm.cps.toList, c ∈ letters.cps.toList
theorem NmT.len {z nm : Str} (h : NmT z nm) : z.length = nm.length + 2 := by
  have := congrArg List.length h.cs
  rw [List.length_append] at this
  simpa [Str.length] using this
theorem NmT.off {z nm y : Str} (h : NmT z nm) {c : Nat} {r : List Nat} (e : y.cps.toList = c :: r) (hc : c ∉ letters.cps.toList) : Txt.startswith3 z y 0 = false := by
  rw [show (0 : Int) = ((0 : Nat) : Int) from rfl, st3, List.drop_zero, Bool.and_eq_false_iff]
  right
  have l0 : nm.cps.toList.length = nm.length := by simp [Str.length]
  rw [h.cs, e, beq_eq_false_iff_ne]
  have ly : y.length = r.length + 1 := by
    have := congrArg List.length e
    simpa [Str.length] using this
  rw [ly]
  cases q : nm.cps.toList with
  | nil => have := h.n1; rw [← l0, q] at this; simp at this
  | cons d t =>
    rw [List.cons_append, List.take_succ_cons]
    intro z
    exact hc ((List.cons.inj z).1 ▸ h.ls d (by rw [q]; exact List.mem_cons_self))
theorem NmT.ask {z nm : Str} (h : NmT z nm) : Txt.startswith3 z "?" (nm.length : Int) = true := by
  have l0 : nm.cps.toList.length = nm.length := by simp [Str.length]
  rw [st3, h.len, h.cs, ← l0, List.drop_left, show (("?" : Str)).length = 1 by decide, show (("?" : Str)).cps.toList = [63] by decide]
  simp
noncomputable def sp_Reading___init__ (K : PySem.W.Frag) (f : Nat → Addr) : Sp := fun vs H Q _ => ∃ o dx z, vs = [.ref o, .str z] ∧ H o = some (.ins (f 47) dx []) ∧ Q .non (upd H o (.ins (f 47) dx (rdFs z 0 0)))
theorem ok_Reading___init__ (T : Txt w K mg f fd) : FnOk P w K mg base CX0 1 (f 48000) (fd 48000) ["self", "text"] (sp_Reading___init__ K f) := by
  refine T.d_Reading___init__.F.ok sc_Reading___init__ (fun vs H Q E h => ?_) (fun cdv A outer s H vs Q E hr h => ?_)
  · obtain ⟨o, dx, z, rfl, _⟩ := h
    rfl
  · obtain ⟨o, dx, z, rfl, ho, k⟩ := h
    refine ⟨_, (pss_cons (ps_fld (pvl 0) (pvl 1) rfl)
     (pss_cons (ps_fld (pvl 0) pe_int rfl)
     (pss_one (ps_fld (pvl 0) pe_int rfl)))), ?_⟩
    walk_at "dc"
    refine ⟨_, _, _, ho, T.o_Reading.cls, T.na_Reading_text, by decide, _, _, _, upd_same, T.o_Reading.cls, T.na_Reading_at, by simp [putF], _, _, _, upd_same, T.o_Reading.cls, T.na_Reading_begun, ?_, ?_⟩
    · simp [putF]
      split <;> simp
    · rw [upd_upd, upd_upd, put_init]
      exact k
noncomputable def sp_Reading_takes (K : PySem.W.Frag) (f : Nat → Addr) : Sp := fun vs H Q _ => ∃ o dx z a b g, vs = [.ref o, .str g] ∧ H o = some (.ins (f 47) dx (rdFs z a b)) ∧ g.length ≤ 100 ∧ (Txt.startswith3 z g a = false → Q (.bl false) H) ∧ (Txt.startswith3 z g a = true → Q (.bl true) (upd H o (.ins (f 47) dx (rdFs z (a + g.length) b))))
theorem ok_Reading_takes (T : Txt w K mg f fd) : FnOk P w K mg base CX0 1 (f 48001) (fd 48001) ["self", "signs"] (sp_Reading_takes K f) := by
  refine T.d_Reading_takes.F.ok sc_Reading_takes (fun vs H Q E h => ?_) (fun cdv A outer s H vs Q E hr h => ?_)
  · obtain ⟨o, dx, z, a, b, g, rfl, _⟩ := h
    rfl
  · obtain ⟨o, dx, z, a, b, g, rfl, ho, hg, k0, k1⟩ := h
    refine ⟨_, (pss_cons (ps_if (pt_not (pt_val (k_bmL rfl PySem.F.plainAttrs_str PySem.F.slot_str_startswith PySem.F.type_str_startswith mt_startswith3 rfl rfl rfl rfl (pe_fld (pvl 0) rfl) (pal rfl (pvl 1) (pal rfl (pe_fld (pvl 0) rfl) pa_nil)))))
     (pss_one (ps_ret pe_bl))
     pss_nil)
     (pss_cons (ps_fldaug (pvl 0) (pe_cB call_len_str T.n_len bt_len rfl (by decide) (by decide) rfl (pal rfl (pvl 1) pa_nil)) in_add)
     (pss_one (ps_ret pe_bl)))), ?_⟩
    walk_at "dc"
    refine ⟨_, _, _, ho, T.o_Reading.cls, T.na_Reading_text, .str z, rfl, rfl, _, _, _, ho, T.o_Reading.cls, T.na_Reading_at, .int a, rfl, z, g, a, rfl, rfl, _, rfl, ?_⟩
    cases hs : Txt.startswith3 z g a with
    | false =>
      rw [if_pos (by simp)]
      exact k0 hs
    | true =>
      rw [if_neg (by simp)]
      unfold sFldAug
      walk_at "dc"
      refine ⟨_, _, _, ho, T.o_Reading.cls, T.na_Reading_at, .int a, rfl, small_line (by omega), a, rfl, _, _, ho, by simp [rdFs], ?_⟩
      rw [put_at]
      exact k1 hs
theorem upd_self {H : Hp} {o : Addr} {v : HO} (h : H o = some v) : upd H o v = H := by
  funext b
  unfold upd
  split
  · next e => rw [e, h]
  · rfl
theorem NmT.at {z nm : Str} (h : NmT z nm) {i : Nat} (hi : i < nm.length) : ∃ c, z.cps.toList[i]? = some c ∧ c ∈ letters.cps.toList := by
  have l0 : nm.cps.toList.length = nm.length := by simp [Str.length]
  have hl : i < nm.cps.toList.length := by omega
  exact ⟨nm.cps.toList[i], by rw [h.cs, List.getElem?_append_left hl, List.getElem?_eq_getElem hl], h.ls _ (List.getElem_mem hl)⟩
theorem NmT.end {z nm : Str} (h : NmT z nm) : z.cps.toList[nm.length]? = some 63 := by
  have l0 : nm.cps.toList.length = nm.length := by simp [Str.length]
  rw [h.cs, ← l0, List.getElem?_append_right (Nat.le_refl _), Nat.sub_self]
  rfl
theorem h_len {z nm : Str} (h : NmT z nm) : z.cps.toList.length = nm.length + 2 := by
  rw [← h.len]
  simp [Str.length]
noncomputable def sp_Reading_run_of (K : PySem.W.Frag) (f : Nat → Addr) : Sp := fun vs H Q _ => ∃ o dx z nm b, vs = [.ref o, .str letters] ∧ H o = some (.ins (f 47) dx (rdFs z 0 b)) ∧ NmT z nm ∧ Q (.str nm) (upd H o (.ins (f 47) dx (rdFs z nm.length b)))
theorem ok_Reading_run_of (T : Txt w K mg f fd) : FnOk P w K mg base CX0 1 (f 48002) (fd 48002) ["self", "signs"] (sp_Reading_run_of K f) := by
  refine T.d_Reading_run_of.F.ok sc_Reading_run_of (fun vs H Q E h => ?_) (fun cdv A outer s H vs Q E hr h => ?_)
  · obtain ⟨o, dx, z, nm, b, rfl, _⟩ := h
    rfl
  · obtain ⟨o, dx, z, nm, b, rfl, ho, hz, k⟩ := h
    refine ⟨_, (pss_cons (psl 2 sc_Reading_run_of.nd (pe_fld (pvl 0) rfl))
     (pss_cons (ps_while PassesOwn.never (PW.pt (pw_and (pt_cmpR op_lt (pe_fld (pvl 0) rfl) (pe_cB call_len_str T.n_len bt_len rfl (by decide) (by decide) rfl (pal rfl (pe_fld (pvl 0) rfl) pa_nil)) (nomark _)) (pw_and1 (pt_cmpR op_in_str (pe_ix ix_str (pe_fld (pvl 0) rfl) (pe_fld (pvl 0) rfl) (fun _ _ => rfl)) (pvl 1) rfl))))
     (pss_one (ps_fldaug (pvl 0) pe_int in_add)))
     (pss_one (ps_ret (pe_slice sl_str (pe_fld (pvl 0) rfl) (po_some (pvl 2)) (po_some (pe_fld (pvl 0) rfl))))))), ?_⟩
    walk_at "dc"
    refine ⟨_, _, _, ho, T.o_Reading.cls, T.na_Reading_at, .int 0, rfl, ?_⟩
    rw [← upd_self ho]
    have hzl := hz.len
    have h12 := hz.n2
    refine while_in (fun m σ H' => ∃ i : Nat, i ≤ nm.length ∧ m = nm.length - i ∧ σ = [some (V.ref o), some (V.str letters), some (V.int 0)] ∧ H' = upd H o (.ins (f 47) dx (rdFs z i b))) ⟨_, 0, Nat.zero_le _, rfl, rfl, rfl⟩ ?_
    rintro m σ H' ⟨i, hi, rfl, rfl, rfl⟩
    have gi : upd H o (.ins (f 47) dx (rdFs z i b)) o = some (.ins (f 47) dx (rdFs z i b)) := upd_same
    walk_at "dc"
    refine ⟨_, _, _, gi, T.o_Reading.cls, T.na_Reading_at, .int i, rfl, _, _, _, gi, T.o_Reading.cls, T.na_Reading_text, .str z, rfl, z, rfl, small_line (by omega), i, rfl, ?_⟩
    rw [if_pos (decide_eq_true (by omega))]
    refine ⟨_, _, _, gi, T.o_Reading.cls, T.na_Reading_text, .str z, rfl, _, _, _, gi, T.o_Reading.cls, T.na_Reading_at, .int i, rfl, ?_⟩
    by_cases hc : i < nm.length
    · obtain ⟨c, hc1, hc2⟩ := hz.at hc
      refine ⟨z, i, c, rfl, rfl, small_line (by omega), atI_nat hc1, ⟨#[c]⟩, rfl, ?_⟩
      rw [in_sgn, if_pos (decide_eq_true hc2)]
      refine WGo.of ?_
      unfold sFldAug
      walk_at "dc"
      refine ⟨_, _, _, gi, T.o_Reading.cls, T.na_Reading_at, .int i, rfl, i, rfl, _, _, gi, by simp [rdFs], ?_⟩
      rw [put_at, upd_upd]
      exact ⟨nm.length - (i + 1), by omega, i + 1, by omega, rfl, rfl⟩
    · obtain rfl : i = nm.length := by omega
      refine ⟨z, nm.length, 63, rfl, rfl, small_line (by omega), atI_nat hz.end, ⟨#[63]⟩, rfl, ?_⟩
      rw [in_sgn, if_neg (by decide)]
      refine ⟨_, _, _, gi, T.o_Reading.cls, T.na_Reading_text, .str z, rfl, _, _, _, gi, T.o_Reading.cls, T.na_Reading_at, .int nm.length, rfl, nm.length, rfl, z, rfl, small_line (by omega), ?_⟩
      have e : (⟨(cutL z.cps.toList (some 0) (some (nm.length : Int))).toArray⟩ : Str) = nm := by
        have l0 : nm.cps.toList.length = nm.length := by simp [Str.length]
        have e1 : cutL z.cps.toList (some 0) (some (nm.length : Int)) = nm.cps.toList := by
          unfold cutL
          rw [show (some (0 : Int)) = some ((0 : Nat) : Int) from rfl, HT.sIx_nat, HT.sIx_nat, h_len hz, Nat.zero_min, List.drop_zero, Nat.sub_zero, Nat.min_eq_left (by omega), hz.cs, ← l0, List.take_left]
        rw [e1]
      rw [e]
      exact k
theorem NmT.short {z nm : Str} (h : NmT z nm) : shortV (.str nm) letters = true := by
  have e : madeOf nm letters = true := List.all_eq_true.mpr fun c hc => decide_eq_true (h.ls c hc)
  unfold shortV
  simp [h.n1, h.n2, e]
noncomputable def sp_Reading_plain_sieve (K : PySem.W.Frag) (f : Nat → Addr) : Sp := fun vs H Q _ => ∃ o dx z nm b, vs = [.ref o] ∧ H o = some (.ins (f 47) dx (rdFs z 0 b)) ∧ NmT z nm ∧ ∀ H' p, (∀ q u, q ≠ o → H q = some u → H' q = some u) → H' o = some (.ins (f 47) dx (rdFs z (nm.length + 1) b)) → Q (.ref p) H'
theorem ok_Reading_plain_sieve (T : Txt w K mg f fd) : FnOk P w K mg base CX0 4 (f 48005) (fd 48005) ["self"] (sp_Reading_plain_sieve K f) := by
  refine T.d_Reading_plain_sieve.F.ok sc_Reading_plain_sieve (fun vs H Q E h => ?_) (fun cdv A outer s H vs Q E hr h => ?_)
  · obtain ⟨o, dx, z, nm, b, rfl, _⟩ := h
    rfl
  · obtain ⟨o, dx, z, nm, b, rfl, ho, hz, k⟩ := h
    refine ⟨_, (pss_cons (psl 1 sc_Reading_plain_sieve.nd (pe_meth (pvl 0) T.o_Reading.cls T.m_Reading_run_of (ok_Reading_run_of T) (hr.mono (by decide)) T.d_Reading_run_of.b .nil pass0 (pal rfl (pgs T.g_LETTERS) pa_nil) rfl rfl rfl))
     (pss_cons (ps_if (pt_not (pt_val (pe_defL T.d_is_name (ok_is_name T) (hr.mono (by decide)) rfl (by decide) rfl (pal rfl (pvl 1) pa_nil))))
     (pss_one ps_never)
     pss_nil)
     (pss_cons (ps_if (pt_val (pe_meth (pvl 0) T.o_Reading.cls T.m_Reading_takes (ok_Reading_takes T) (hr.mono (by decide)) T.d_Reading_takes.b .nil pass0 (pal rfl pe_str pa_nil) rfl rfl rfl))
     (pss_one (ps_ret (pe_tup (pal rfl pe_str (pal rfl (pvl 1) pa_nil)))))
     pss_nil)
     (pss_cons ps_never
     (pss_one ps_never))))), ?_⟩
    walk_at "dc"
    refine ⟨_, _, ho, rfl, o, dx, z, nm, b, rfl, ho, hz, ?_⟩
    have g1 : upd H o (.ins (f 47) dx (rdFs z nm.length b)) o = some (.ins (f 47) dx (rdFs z nm.length b)) := upd_same
    have h12 := hz.n2
    refine ⟨.str nm, "str", rfl, Pl.of_str (small_line (by omega)), fun H2 s2 => ⟨_, rfl, ?_⟩⟩
    rw [hz.short, if_neg (by decide)]
    refine ⟨_, _, s2 _ _ g1, rfl, o, dx, z, nm.length, b, "?", rfl, s2 _ _ g1, by decide, fun e => absurd e (by rw [hz.ask]; simp), fun _ => ⟨_, rfl, ?_⟩⟩
    rw [if_pos rfl, show ((("?" : Str).length : Nat) : Int) = 1 by decide]
    refine ⟨small_line (by decide), fun p hp => k _ p (fun q u hq e => ?_) (Same.upd_new hp _ _ _ upd_same)⟩
    refine Same.upd_new hp _ _ _ ?_
    rw [upd_ne hq]
    exact s2 _ _ (by rw [upd_ne hq]; exact e)
noncomputable def sp_Reading_one_sieve (K : PySem.W.Frag) (f : Nat → Addr) : Sp := fun vs H Q _ => ∃ o dx z nm, vs = [.ref o, .int 1] ∧ H o = some (.ins (f 47) dx (rdFs z 0 0)) ∧ NmT z nm ∧ ∀ H' p, (∀ q u, q ≠ o → H q = some u → H' q = some u) → H' o = some (.ins (f 47) dx (rdFs z (nm.length + 1) 1)) → Q (.ref p) H'
theorem ok_Reading_one_sieve (T : Txt w K mg f fd) : FnOk P w K mg base CX0 5 (f 48003) (fd 48003) ["self", "level"] (sp_Reading_one_sieve K f) := by
  refine T.d_Reading_one_sieve.F.ok sc_Reading_one_sieve (fun vs H Q E h => ?_) (fun cdv A outer s H vs Q E hr h => ?_)
  · obtain ⟨o, dx, z, nm, rfl, _⟩ := h
    rfl
  · obtain ⟨o, dx, z, nm, rfl, ho, hz, k⟩ := h
    refine ⟨_, (pss_cons (ps_fldaug (pvl 0) pe_int in_add)
     (pss_cons (ps_if (PW.pt (pw_or (pt_cmpR op_gt (pvl 1) (pgi T.g_MOST_LEVELS) (nomark _)) (pw_or1 (pt_cmpR op_gt (pe_fld (pvl 0) rfl) (pgi T.g_MOST_SIEVES) (nomark _)))))
     (pss_one ps_never)
     pss_nil)
     (pss_cons (ps_if (pt_val (pe_meth (pvl 0) T.o_Reading.cls T.m_Reading_takes (ok_Reading_takes T) (hr.mono (by decide)) T.d_Reading_takes.b .nil pass0 (pal rfl pe_str pa_nil) rfl rfl rfl))
     (pss_one ps_never)
     pss_nil)
     (pss_cons (ps_for PassesOwn.never rfl (pi_items T.c_JOINTS T.g_JOINTS rfl (by decide) rfl rfl) (k_pgT rfl rfl (pgs_cons (pgl 2 sc_Reading_one_sieve.nd) (pgs_cons (pgl 3 sc_Reading_one_sieve.nd) pgs_nil)))
     (pss_one (ps_if (pt_val (pe_meth (pvl 0) T.o_Reading.cls T.m_Reading_takes (ok_Reading_takes T) (hr.mono (by decide)) T.d_Reading_takes.b .nil pass0 (pal rfl (pe_op op_add_str pe_str (pvl 3)) pa_nil) rfl rfl rfl))
     (pss_one ps_never)
     pss_nil)))
     (pss_one (ps_ret (pe_meth0 (pvl 0) T.o_Reading.cls T.m_Reading_plain_sieve (ok_Reading_plain_sieve T) (hr.mono (by decide)) T.d_Reading_plain_sieve.b .nil pass0 rfl))))))), ?_⟩
    generalize hB : tSeq (tIfS (tB _) _ _) _ = B
    unfold sFldAug
    walk_at "dc"
    refine ⟨_, _, _, ho, T.o_Reading.cls, T.na_Reading_begun, .int 0, rfl, 0, rfl, _, _, ho, by simp [rdFs], ?_⟩
    rw [put_begun, if_neg (by decide)]
    have g1 : upd H o (.ins (f 47) dx (rdFs z 0 (0 + 1))) o = some (.ins (f 47) dx (rdFs z 0 1)) := upd_same
    have keep : ∀ q u, q ≠ o → H q = some u → upd H o (.ins (f 47) dx (rdFs z 0 (0 + 1))) q = some u := fun q u hq e => by rw [upd_ne hq]; exact e
    generalize upd H o (.ins (f 47) dx (rdFs z 0 (0 + 1))) = H1 at *
    refine ⟨_, _, _, g1, T.o_Reading.cls, T.na_Reading_begun, .int 1, rfl, 1, rfl, ?_⟩
    rw [if_neg (by decide)]
    subst hB
    walk_at "dc"
    refine ⟨_, _, g1, rfl, o, dx, z, 0, 1, "!", rfl, g1, by decide, fun _ => ⟨_, rfl, ?_⟩, fun e => absurd e (by rw [hz.off (show (("!" : Str)).cps.toList = [33] by decide) (by decide)]; simp)⟩
    rw [if_neg (by decide)]
    refine for_in ?_
    refine ForW.items (fun i σ H' => (∃ v2 v3, σ = [some (V.ref o), some (V.int 1), v2, v3]) ∧ Same H1 H') ⟨⟨none, none, rfl⟩, Same.refl _⟩ ?_ ?_
    · rintro i kv σ H2 p hkv ⟨⟨v2, v3, rfl⟩, s2⟩ hp
      have s3 := s2.new hp (HO.tup [V.str kv.1, V.str kv.2])
      refine ⟨p, _, rfl, .of upd_same, rfl, ?_⟩
      generalize upd H2 p (HO.tup [V.str kv.1, V.str kv.2]) = H3 at *
      have g3 := s3 _ _ g1
      simp only [gCons, gNil, gName]
      have kv2 : kv.2 = "&" ∨ kv.2 = "|" := by
        match i, hkv with
        | 0, e => exact .inl (by cases e; rfl)
        | 1, e => exact .inr (by cases e; rfl)
        | _ + 2, e => simp at e
      have len2 : kv.2.length = 1 := by rcases kv2 with e | e <;> rw [e] <;> decide
      have len1 : (Str.ofString "(").length = 1 := by decide
      have off : Txt.startswith3 z (Str.ofString "(" ++ kv.2) 0 = false := by
        rcases kv2 with e | e <;> rw [e]
        · exact hz.off (c := 40) (r := [38]) (by decide) (by decide)
        · exact hz.off (c := 40) (r := [124]) (by decide) (by decide)
      have len3 : (Str.ofString "(" ++ kv.2).length ≤ 100 := by rcases kv2 with e | e <;> rw [e] <;> decide
      walk_at "dc"
      refine ⟨_, _, g3, rfl, small_line (by omega), o, dx, z, 0, 1, _, rfl, g3, len3, fun _ => ⟨_, rfl, ?_⟩, fun e => absurd e (by rw [off]; simp)⟩
      rw [if_neg (by decide)]
      exact ⟨⟨_, rfl⟩, s3⟩
    · rintro σ H2 ⟨⟨v2, v3, rfl⟩, s2⟩
      walk_at "dc"
      exact ⟨_, _, s2 _ _ g1, rfl, o, dx, z, nm, 1, rfl, s2 _ _ g1, hz, fun H' p kp hp => k H' p (fun q u hq e => kp q u hq (s2 _ _ (keep q u hq e))) hp⟩
noncomputable def sp_read_sieve (K : PySem.W.Frag) (f : Nat → Addr) : Sp := fun vs H Q E => ∃ l z nm, vs = [.ref l, .str z] ∧ NmT z nm ∧ ∀ H', Same H H' → E (.ref (f 4)) none H'
theorem ok_read_sieve (T : Txt w K mg f fd) : FnOk P w K mg base (CXE P w) 6 (f 50) (fd 50) ["fields", "text"] (sp_read_sieve K f) := by
  refine T.d_read_sieve.F.okX sc_read_sieve (fun vs H Q E h => ?_) (fun cdv A outer s H vs Q E hr h => ?_)
  · obtain ⟨l, z, nm, rfl, _⟩ := h
    rfl
  · obtain ⟨l, z, nm, rfl, hz, k⟩ := h
    refine ⟨_, (pss_cons (psl 2 sc_read_sieve.nd (pe_make T.o_Reading.mkr (ok_Reading___init__ T) (hr.mono (by decide)) rfl T.o_Reading.m T.d_Reading___init__.b .nil pass0 (pal rfl (pvl 1) pa_nil) (by decide) rfl rfl))
     (pss_cons (psl 3 sc_read_sieve.nd (pe_meth (pvl 2) T.o_Reading.cls T.m_Reading_one_sieve (ok_Reading_one_sieve T) (hr.mono (by decide)) T.d_Reading_one_sieve.b .nil pass0 (pal rfl pe_int pa_nil) rfl rfl rfl))
     (pss_cons (ps_if (pt_cmpR op_lt (pe_fld (pvl 2) rfl) (pe_cB call_len_str T.n_len bt_len rfl (by decide) (by decide) rfl (pal rfl (pvl 1) pa_nil)) (nomark _))
     (pss_one (ps_raise told_cx rfl T.x_NoSieve.x rfl T.x_NoSieve.m (by decide) rfl (pal rfl pe_str pa_nil)))
     pss_nil)
     (pss_one ps_never)))), ?_⟩
    walk_at "dc"
    unfold tMake
    walk_at "dc"
    intro o dx ho hdx hne
    refine ⟨o, dx, z, rfl, upd_same, rfl, ?_⟩
    rw [upd_upd]
    have hn1 : upd H dx (.own o) o = none := by rw [upd_ne (Ne.symm hne)]; exact ho
    have s1 : Same H (upd (upd H dx (.own o)) o (.ins (f 47) dx (rdFs z 0 0))) := (Same.upd_new hdx _).new hn1 _
    have g1 : upd (upd H dx (.own o)) o (.ins (f 47) dx (rdFs z 0 0)) o = some (.ins (f 47) dx (rdFs z 0 0)) := upd_same
    generalize upd (upd H dx (.own o)) o (.ins (f 47) dx (rdFs z 0 0)) = H1 at *
    have hzl := hz.len
    have h12 := hz.n2
    refine ⟨_, _, g1, rfl, o, dx, z, nm, rfl, g1, hz, fun H2 p kp h2 => ?_⟩
    refine ⟨_, _, _, h2, T.o_Reading.cls, T.na_Reading_at, .int (nm.length + 1), rfl, small_line (by omega), _, rfl, ?_⟩
    rw [if_pos (decide_eq_true (by omega))]
    exact ⟨small_line (by decide), k H2 fun q u e => kp q u (fun z => by rw [z, ho] at e; cases e) (s1 _ _ e)⟩
noncomputable def sp_asked_path (K : PySem.W.Frag) (f : Nat → Addr) : Sp := fun vs H Q E => ∃ (l pn pp : Addr) (xs : List V) (ns kds : List Str) (i : Nat) (n kd : Str) (v : V) (T : String), vs = [.ref l, .ref pn, .ref pp] ∧ H l = some (.lst xs) ∧ FldsK H xs ns kds ∧ ns[i]? = some n ∧ kds[i]? = some kd ∧ H pn = some (.tup [.str n]) ∧ H pp = some (.tup [v]) ∧ Pl K H v T ∧ valB kd v = false ∧ ∀ H', Same H H' → E (.ref (f 6)) none H'
theorem ok_asked_path (T : Txt w K mg f fd) : FnOk P w K mg base (CXE P w) 5 (f 62) (fd 62) ["fields", "names", "path"] (sp_asked_path K f) := by
  refine T.d_asked_path.F.okX sc_asked_path (fun vs H Q E h => ?_) (fun cdv A outer s H vs Q E hr h => ?_)
  · obtain ⟨l, pn, pp, xs, ns, kds, i, n, kd, v, T, rfl, _⟩ := h
    rfl
  · obtain ⟨l, pn, pp, xs, ns, kds, i, n, kd, v, Ty, rfl, hl, hF, hi, hk, hn, hp, hv, hb, k⟩ := h
    refine ⟨_, (pss_cons (ps_if (pt_cmpR op_gt (pe_cB (k_len rfl) T.n_len bt_len rfl (by decide) (by decide) rfl (pal rfl (pvl 2) pa_nil)) (pe_cB (k_len rfl) T.n_len bt_len rfl (by decide) (by decide) rfl (pal rfl (pvl 1) pa_nil)) (nomark _))
     (pss_one (ps_raise told_cx rfl T.x_NoHead.x rfl T.x_NoHead.m (by decide) rfl (pal rfl pe_str pa_nil)))
     pss_nil)
     (pss_cons (ps_for PassesOwn.leaving rfl (k_zipT rfl rfl T.n_zip (pal rfl (pvl 1) (pal rfl (pvl 2) pa_nil)) rfl rfl) (k_pgT rfl rfl (pgs_cons (pgl 3 sc_asked_path.nd) (pgs_cons (pgl 4 sc_asked_path.nd) pgs_nil)))
     (pss_one (ps_if (pt_not (pt_val (pe_defL T.d_is_value (ok_is_value T) (hr.mono (by decide)) rfl (by decide) rfl (pal rfl (pe_ix (k_ixT rfl) (pe_ix (k_ixL rfl) (pvl 0) (pe_defX told_cx T.d_field_at (ok_field_at T) (hr.mono (by decide)) rfl (by decide) rfl (pal rfl (pvl 0) (pal rfl (pvl 3) pa_nil))) (fun _ _ => rfl)) pe_int (fun _ _ => rfl)) (pal rfl (pvl 4) pa_nil)))))
     (pss_one (ps_raise told_cx rfl T.x_NoHead.x rfl T.x_NoHead.m (by decide) rfl (pal rfl pe_str pa_nil)))
     pss_nil)))
     (pss_one (ps_ret pe_bl)))), ?_⟩
    walk_at "dc"
    refine ⟨_, .inr (.of hp), _, .inr (.of hn), ?_⟩
    rw [if_neg (by simp)]
    refine for_in ?_
    walk_at "dc"
    refine ⟨⟨_, .of hn⟩, ⟨_, .of hp⟩, ForW.zipT1 (.of hn) (.of hp) fun p hpp => ?_⟩
    have s1 := Same.upd_new hpp (HO.tup [V.str n, v])
    refine ⟨p, _, rfl, .of upd_same, rfl, ?_⟩
    generalize upd H p (HO.tup [V.str n, v]) = H1 at *
    simp only [gCons, gNil, gName]
    walk_at "dc"
    have hil : i < xs.length := by rw [← hF.1]; exact (List.getElem?_eq_some_iff.mp hi).1
    refine ⟨l, xs, ns, kds, n, rfl, s1 _ _ hl, hF.mono s1, .inl ⟨i, hi, fun H2 s2 => ?_⟩⟩
    obtain ⟨pf, nn, kd', f1, f2, f3, f4⟩ := hF.at hil
    obtain rfl := Option.some.inj (hk.symm.trans f3)
    have S2 := s1.trans s2
    refine ⟨l, xs, _, .ref pf, rfl, rfl, .of (S2 _ _ hl), atI_nat f1, pf, _, _, _, rfl, rfl, .of (S2 _ _ f4), atI_nat (j := 1) rfl, _, v, Ty, rfl, hv.mono S2, fun H3 s3 => ⟨_, rfl, ?_⟩⟩
    rw [hb, if_pos (by decide)]
    exact ⟨small_line (by decide), k _ (S2.trans s3)⟩
noncomputable def kinds (x : Nat → Bool) : List Bool := [x 3, x 11, x 12, x 13, x 14, x 4, x 5, x 6, x 9, x 10, x 7, x 15, x 8]
noncomputable def sp_l_classes (K : PySem.W.Frag) (f : Nat → Addr) : Sp := fun vs H Q _ => ∃ (a C : Addr) (ed : Option Addr) (x : Nat → Bool), vs = [.ref a] ∧ H a = some (ExO a (.ref C) ed) ∧ XdOk H ed ∧ XCls K C ∧ (∀ j, 3 ≤ j → j ≤ 15 → PySem.W.kitOne K (.ref C) (.ref (f j)) = some (x j)) ∧ ∀ H' p, Same H H' → H p = none → H' p = some (.lst ((kinds x).map V.bl)) → Q (.ref p) H'
theorem XdOk.mono {H H' : Hp} {ed : Option Addr} (s : Same H H') (h : XdOk H ed) : XdOk H' ed := by
  rcases h with h | ⟨dx, fs, e, h⟩
  · exact .inl h
  · exact .inr ⟨dx, fs, e, s _ _ h⟩
theorem ok_l_classes (T : Txt w K mg f fd) : FnOkH P w K mg base 1 (f 66) (fd 66) ["_law_e"] (sp_l_classes K f) := by
  refine T.d_l_classes.F.okH sc_l_classes (fun vs H Q E h => ?_) (fun cdv A outer s H vs Q E hr h => ?_)
  · obtain ⟨a, C, ed, x, rfl, _⟩ := h
    rfl
  · obtain ⟨a, C, ed, x, rfl, ha, hd, xc, hx, k⟩ := h
    refine ⟨_, (pss_cons (psl 1 sc_l_classes.nd (pe_lst (pal rfl (pe_cB (k_isX rfl) T.n_isinstance bt_isinstance rfl (by decide) (by decide) rfl (pal rfl (pvl 0) (pal rfl (pgcl T.x_NoFields.m rfl (by decide)) pa_nil))) (pal rfl (pe_cB (k_isX rfl) T.n_isinstance bt_isinstance rfl (by decide) (by decide) rfl (pal rfl (pvl 0) (pal rfl (pgcl T.x_NoRow.m rfl (by decide)) pa_nil))) (pal rfl (pe_cB (k_isX rfl) T.n_isinstance bt_isinstance rfl (by decide) (by decide) rfl (pal rfl (pvl 0) (pal rfl (pgcl T.x_NoSuch.m rfl (by decide)) pa_nil))) (pal rfl (pe_cB (k_isX rfl) T.n_isinstance bt_isinstance rfl (by decide) (by decide) rfl (pal rfl (pvl 0) (pal rfl (pgcl T.x_NoField.m rfl (by decide)) pa_nil))) pa_nil))))))
     (pss_cons (psl 1 sc_l_classes.nd (pe_op op_cat (pvl 1) (pe_lst (pal rfl (pe_cB (k_isX rfl) T.n_isinstance bt_isinstance rfl (by decide) (by decide) rfl (pal rfl (pvl 0) (pal rfl (pgcl T.x_NoKind.m rfl (by decide)) pa_nil))) (pal rfl (pe_cB (k_isX rfl) T.n_isinstance bt_isinstance rfl (by decide) (by decide) rfl (pal rfl (pvl 0) (pal rfl (pgcl T.x_NoSieve.m rfl (by decide)) pa_nil))) (pal rfl (pe_cB (k_isX rfl) T.n_isinstance bt_isinstance rfl (by decide) (by decide) rfl (pal rfl (pvl 0) (pal rfl (pgcl T.x_NoView.m rfl (by decide)) pa_nil))) (pal rfl (pe_cB (k_isX rfl) T.n_isinstance bt_isinstance rfl (by decide) (by decide) rfl (pal rfl (pvl 0) (pal rfl (pgcl T.x_NoHead.m rfl (by decide)) pa_nil))) pa_nil)))))))
     (pss_cons (psl 1 sc_l_classes.nd (pe_op op_cat (pvl 1) (pe_lst (pal rfl (pe_cB (k_isX rfl) T.n_isinstance bt_isinstance rfl (by decide) (by decide) rfl (pal rfl (pvl 0) (pal rfl (pgcl T.x_NoGroups.m rfl (by decide)) pa_nil))) (pal rfl (pe_cB (k_isX rfl) T.n_isinstance bt_isinstance rfl (by decide) (by decide) rfl (pal rfl (pvl 0) (pal rfl (pgcl T.x_NoLine.m rfl (by decide)) pa_nil))) (pal rfl (pe_cB (k_isX rfl) T.n_isinstance bt_isinstance rfl (by decide) (by decide) rfl (pal rfl (pvl 0) (pal rfl (pgcl T.x_NoNet.m rfl (by decide)) pa_nil))) (pal rfl (pe_cB (k_isX rfl) T.n_isinstance bt_isinstance rfl (by decide) (by decide) rfl (pal rfl (pvl 0) (pal rfl (pgcl T.x_NoVeil.m rfl (by decide)) pa_nil))) pa_nil)))))))
     (pss_one (ps_ret (pe_op op_cat (pvl 1) (pe_lst (pal rfl (pe_cB (k_isX rfl) T.n_isinstance bt_isinstance rfl (by decide) (by decide) rfl (pal rfl (pvl 0) (pal rfl (pgcl T.x_NoWhole.m rfl (by decide)) pa_nil))) pa_nil)))))))), ?_⟩
    generalize hB : tSeq (tAsg _ (gName 1)) (tSeq (tAsg _ (gName 1)) (tRet _)) = B
    walk_at "dl"
    refine ⟨a, C, ed, ha, hd, xc, rfl, _, hx 3 (by decide) (by decide), a, C, ed, ha, hd, xc, rfl, _, hx 11 (by decide) (by decide), a, C, ed, ha, hd, xc, rfl, _, hx 12 (by decide) (by decide), a, C, ed, ha, hd, xc, rfl, _, hx 13 (by decide) (by decide), small_line (by decide), fun p hp => ?_⟩
    have s1 := Same.upd_new hp (HO.lst [V.bl (x 3), V.bl (x 11), V.bl (x 12), V.bl (x 13)])
    have g1 : upd H p (HO.lst [V.bl (x 3), V.bl (x 11), V.bl (x 12), V.bl (x 13)]) p = some (.lst [V.bl (x 3), V.bl (x 11), V.bl (x 12), V.bl (x 13)]) := upd_same
    generalize upd H p (HO.lst [V.bl (x 3), V.bl (x 11), V.bl (x 12), V.bl (x 13)]) = H1 at *
    have ha1 := s1 _ _ ha
    have hd1 := XdOk.mono s1 hd
    subst hB
    generalize hB : tSeq (tAsg _ (gName 1)) (tRet _) = B
    walk_at "dl"
    refine ⟨a, C, ed, ha1, hd1, xc, rfl, _, hx 14 (by decide) (by decide), a, C, ed, ha1, hd1, xc, rfl, _, hx 4 (by decide) (by decide), a, C, ed, ha1, hd1, xc, rfl, _, hx 5 (by decide) (by decide), a, C, ed, ha1, hd1, xc, rfl, _, hx 6 (by decide) (by decide), small_line (by decide), fun q hq => ⟨p, q, _, _, rfl, rfl, Same.upd_new hq _ _ _ g1, upd_same, small_line (show 8 ≤ 1000000 by decide), fun r hr => ?_⟩⟩
    have s2 := (s1.new hq (HO.lst [V.bl (x 14), V.bl (x 4), V.bl (x 5), V.bl (x 6)])).new hr (HO.lst ([V.bl (x 3), V.bl (x 11), V.bl (x 12), V.bl (x 13)] ++ [V.bl (x 14), V.bl (x 4), V.bl (x 5), V.bl (x 6)]))
    have g2 : upd (upd H1 q (HO.lst [V.bl (x 14), V.bl (x 4), V.bl (x 5), V.bl (x 6)])) r (HO.lst ([V.bl (x 3), V.bl (x 11), V.bl (x 12), V.bl (x 13)] ++ [V.bl (x 14), V.bl (x 4), V.bl (x 5), V.bl (x 6)])) r = some (.lst ([V.bl (x 3), V.bl (x 11), V.bl (x 12), V.bl (x 13)] ++ [V.bl (x 14), V.bl (x 4), V.bl (x 5), V.bl (x 6)])) := upd_same
    generalize upd (upd H1 q (HO.lst [V.bl (x 14), V.bl (x 4), V.bl (x 5), V.bl (x 6)])) r (HO.lst ([V.bl (x 3), V.bl (x 11), V.bl (x 12), V.bl (x 13)] ++ [V.bl (x 14), V.bl (x 4), V.bl (x 5), V.bl (x 6)])) = H2 at *
    have ha2 := s2 _ _ ha
    have hd2 := XdOk.mono s2 hd
    clear g1 ha1 hd1 s1
    subst hB
    generalize hB : tRet _ = B
    walk_at "dl"
    refine ⟨a, C, ed, ha2, hd2, xc, rfl, _, hx 9 (by decide) (by decide), a, C, ed, ha2, hd2, xc, rfl, _, hx 10 (by decide) (by decide), a, C, ed, ha2, hd2, xc, rfl, _, hx 7 (by decide) (by decide), a, C, ed, ha2, hd2, xc, rfl, _, hx 15 (by decide) (by decide), small_line (by decide), fun q2 hq2 => ⟨r, q2, _, _, rfl, rfl, Same.upd_new hq2 _ _ _ g2, upd_same, small_line (show 12 ≤ 1000000 by decide), fun r2 hr2 => ?_⟩⟩
    dsimp only
    have s3 := (s2.new hq2 (HO.lst [V.bl (x 9), V.bl (x 10), V.bl (x 7), V.bl (x 15)])).new hr2 (HO.lst ([V.bl (x 3), V.bl (x 11), V.bl (x 12), V.bl (x 13)] ++ [V.bl (x 14), V.bl (x 4), V.bl (x 5), V.bl (x 6)] ++ [V.bl (x 9), V.bl (x 10), V.bl (x 7), V.bl (x 15)]))
    have g3 : upd (upd H2 q2 (HO.lst [V.bl (x 9), V.bl (x 10), V.bl (x 7), V.bl (x 15)])) r2 (HO.lst ([V.bl (x 3), V.bl (x 11), V.bl (x 12), V.bl (x 13)] ++ [V.bl (x 14), V.bl (x 4), V.bl (x 5), V.bl (x 6)] ++ [V.bl (x 9), V.bl (x 10), V.bl (x 7), V.bl (x 15)])) r2 = some (.lst ([V.bl (x 3), V.bl (x 11), V.bl (x 12), V.bl (x 13)] ++ [V.bl (x 14), V.bl (x 4), V.bl (x 5), V.bl (x 6)] ++ [V.bl (x 9), V.bl (x 10), V.bl (x 7), V.bl (x 15)])) := upd_same
    generalize upd (upd H2 q2 (HO.lst [V.bl (x 9), V.bl (x 10), V.bl (x 7), V.bl (x 15)])) r2 (HO.lst ([V.bl (x 3), V.bl (x 11), V.bl (x 12), V.bl (x 13)] ++ [V.bl (x 14), V.bl (x 4), V.bl (x 5), V.bl (x 6)] ++ [V.bl (x 9), V.bl (x 10), V.bl (x 7), V.bl (x 15)])) = H3 at *
    have ha3 := s3 _ _ ha
    have hd3 := XdOk.mono s3 hd
    clear g2 ha2 hd2 s2
    subst hB
    walk_at "dl"
    refine ⟨a, C, ed, ha3, hd3, xc, rfl, _, hx 8 (by decide) (by decide), small_line (by decide), fun q4 hq4 => ⟨r2, q4, _, _, rfl, rfl, Same.upd_new hq4 _ _ _ g3, upd_same, small_line (show 13 ≤ 1000000 by decide), fun r4 hr4 => ?_⟩⟩
    exact k _ r4 ((s3.new hq4 _).new hr4 _) ((s3.new hq4 _).free hr4) upd_same
noncomputable def ClsOk (K : PySem.W.Frag) (f : Nat → Addr) (c : Nat) : Prop := (∃ x, exB K (f c) x = true) ∧ subB K (f c) (f 2) = true ∧ XCls K (f c) ∧ (∀ j, 3 ≤ j → j ≤ 15 → PySem.W.kitOne K (.ref (f c)) (.ref (f j)) = some (decide (j = c))) ∧ PySem.W.kitOne K (.ref (f c)) (.type "ValueError") = some true
noncomputable def raised8 : List Nat := [3, 11, 12, 13, 14, 4, 5, 6]
theorem cls_ok (T : Txt w K mg f fd) {c : Nat} (hc : c ∈ raised8) : ClsOk K f c := by
  have c3 : ClsOk K f 3 := ⟨⟨_, T.x_NoFields.x⟩, T.su_NoFields_CrossError, T.x_NoFields.xc, fun j a b => by
        rcases (by omega : j = 3 ∨ j = 4 ∨ j = 5 ∨ j = 6 ∨ j = 7 ∨ j = 8 ∨ j = 9 ∨ j = 10 ∨ j = 11 ∨ j = 12 ∨ j = 13 ∨ j = 14 ∨ j = 15) with rfl | rfl | rfl | rfl | rfl | rfl | rfl | rfl | rfl | rfl | rfl | rfl | rfl
        · exact T.ki_NoFields_NoFields
        · exact T.ki_NoFields_NoSieve
        · exact T.ki_NoFields_NoView
        · exact T.ki_NoFields_NoHead
        · exact T.ki_NoFields_NoNet
        · exact T.ki_NoFields_NoWhole
        · exact T.ki_NoFields_NoGroups
        · exact T.ki_NoFields_NoLine
        · exact T.ki_NoFields_NoRow
        · exact T.ki_NoFields_NoSuch
        · exact T.ki_NoFields_NoField
        · exact T.ki_NoFields_NoKind
        · exact T.ki_NoFields_NoVeil, T.kv_NoFields⟩
  have c11 : ClsOk K f 11 := ⟨⟨_, T.x_NoRow.x⟩, T.su_NoRow_CrossError, T.x_NoRow.xc, fun j a b => by
        rcases (by omega : j = 3 ∨ j = 4 ∨ j = 5 ∨ j = 6 ∨ j = 7 ∨ j = 8 ∨ j = 9 ∨ j = 10 ∨ j = 11 ∨ j = 12 ∨ j = 13 ∨ j = 14 ∨ j = 15) with rfl | rfl | rfl | rfl | rfl | rfl | rfl | rfl | rfl | rfl | rfl | rfl | rfl
        · exact T.ki_NoRow_NoFields
        · exact T.ki_NoRow_NoSieve
        · exact T.ki_NoRow_NoView
        · exact T.ki_NoRow_NoHead
        · exact T.ki_NoRow_NoNet
        · exact T.ki_NoRow_NoWhole
        · exact T.ki_NoRow_NoGroups
        · exact T.ki_NoRow_NoLine
        · exact T.ki_NoRow_NoRow
        · exact T.ki_NoRow_NoSuch
        · exact T.ki_NoRow_NoField
        · exact T.ki_NoRow_NoKind
        · exact T.ki_NoRow_NoVeil, T.kv_NoRow⟩
  have c12 : ClsOk K f 12 := ⟨⟨_, T.x_NoSuch.x⟩, T.su_NoSuch_CrossError, T.x_NoSuch.xc, fun j a b => by
        rcases (by omega : j = 3 ∨ j = 4 ∨ j = 5 ∨ j = 6 ∨ j = 7 ∨ j = 8 ∨ j = 9 ∨ j = 10 ∨ j = 11 ∨ j = 12 ∨ j = 13 ∨ j = 14 ∨ j = 15) with rfl | rfl | rfl | rfl | rfl | rfl | rfl | rfl | rfl | rfl | rfl | rfl | rfl
        · exact T.ki_NoSuch_NoFields
        · exact T.ki_NoSuch_NoSieve
        · exact T.ki_NoSuch_NoView
        · exact T.ki_NoSuch_NoHead
        · exact T.ki_NoSuch_NoNet
        · exact T.ki_NoSuch_NoWhole
        · exact T.ki_NoSuch_NoGroups
        · exact T.ki_NoSuch_NoLine
        · exact T.ki_NoSuch_NoRow
        · exact T.ki_NoSuch_NoSuch
        · exact T.ki_NoSuch_NoField
        · exact T.ki_NoSuch_NoKind
        · exact T.ki_NoSuch_NoVeil, T.kv_NoSuch⟩
  have c13 : ClsOk K f 13 := ⟨⟨_, T.x_NoField.x⟩, T.su_NoField_CrossError, T.x_NoField.xc, fun j a b => by
        rcases (by omega : j = 3 ∨ j = 4 ∨ j = 5 ∨ j = 6 ∨ j = 7 ∨ j = 8 ∨ j = 9 ∨ j = 10 ∨ j = 11 ∨ j = 12 ∨ j = 13 ∨ j = 14 ∨ j = 15) with rfl | rfl | rfl | rfl | rfl | rfl | rfl | rfl | rfl | rfl | rfl | rfl | rfl
        · exact T.ki_NoField_NoFields
        · exact T.ki_NoField_NoSieve
        · exact T.ki_NoField_NoView
        · exact T.ki_NoField_NoHead
        · exact T.ki_NoField_NoNet
        · exact T.ki_NoField_NoWhole
        · exact T.ki_NoField_NoGroups
        · exact T.ki_NoField_NoLine
        · exact T.ki_NoField_NoRow
        · exact T.ki_NoField_NoSuch
        · exact T.ki_NoField_NoField
        · exact T.ki_NoField_NoKind
        · exact T.ki_NoField_NoVeil, T.kv_NoField⟩
  have c14 : ClsOk K f 14 := ⟨⟨_, T.x_NoKind.x⟩, T.su_NoKind_CrossError, T.x_NoKind.xc, fun j a b => by
        rcases (by omega : j = 3 ∨ j = 4 ∨ j = 5 ∨ j = 6 ∨ j = 7 ∨ j = 8 ∨ j = 9 ∨ j = 10 ∨ j = 11 ∨ j = 12 ∨ j = 13 ∨ j = 14 ∨ j = 15) with rfl | rfl | rfl | rfl | rfl | rfl | rfl | rfl | rfl | rfl | rfl | rfl | rfl
        · exact T.ki_NoKind_NoFields
        · exact T.ki_NoKind_NoSieve
        · exact T.ki_NoKind_NoView
        · exact T.ki_NoKind_NoHead
        · exact T.ki_NoKind_NoNet
        · exact T.ki_NoKind_NoWhole
        · exact T.ki_NoKind_NoGroups
        · exact T.ki_NoKind_NoLine
        · exact T.ki_NoKind_NoRow
        · exact T.ki_NoKind_NoSuch
        · exact T.ki_NoKind_NoField
        · exact T.ki_NoKind_NoKind
        · exact T.ki_NoKind_NoVeil, T.kv_NoKind⟩
  have c4 : ClsOk K f 4 := ⟨⟨_, T.x_NoSieve.x⟩, T.su_NoSieve_CrossError, T.x_NoSieve.xc, fun j a b => by
        rcases (by omega : j = 3 ∨ j = 4 ∨ j = 5 ∨ j = 6 ∨ j = 7 ∨ j = 8 ∨ j = 9 ∨ j = 10 ∨ j = 11 ∨ j = 12 ∨ j = 13 ∨ j = 14 ∨ j = 15) with rfl | rfl | rfl | rfl | rfl | rfl | rfl | rfl | rfl | rfl | rfl | rfl | rfl
        · exact T.ki_NoSieve_NoFields
        · exact T.ki_NoSieve_NoSieve
        · exact T.ki_NoSieve_NoView
        · exact T.ki_NoSieve_NoHead
        · exact T.ki_NoSieve_NoNet
        · exact T.ki_NoSieve_NoWhole
        · exact T.ki_NoSieve_NoGroups
        · exact T.ki_NoSieve_NoLine
        · exact T.ki_NoSieve_NoRow
        · exact T.ki_NoSieve_NoSuch
        · exact T.ki_NoSieve_NoField
        · exact T.ki_NoSieve_NoKind
        · exact T.ki_NoSieve_NoVeil, T.kv_NoSieve⟩
  have c5 : ClsOk K f 5 := ⟨⟨_, T.x_NoView.x⟩, T.su_NoView_CrossError, T.x_NoView.xc, fun j a b => by
        rcases (by omega : j = 3 ∨ j = 4 ∨ j = 5 ∨ j = 6 ∨ j = 7 ∨ j = 8 ∨ j = 9 ∨ j = 10 ∨ j = 11 ∨ j = 12 ∨ j = 13 ∨ j = 14 ∨ j = 15) with rfl | rfl | rfl | rfl | rfl | rfl | rfl | rfl | rfl | rfl | rfl | rfl | rfl
        · exact T.ki_NoView_NoFields
        · exact T.ki_NoView_NoSieve
        · exact T.ki_NoView_NoView
        · exact T.ki_NoView_NoHead
        · exact T.ki_NoView_NoNet
        · exact T.ki_NoView_NoWhole
        · exact T.ki_NoView_NoGroups
        · exact T.ki_NoView_NoLine
        · exact T.ki_NoView_NoRow
        · exact T.ki_NoView_NoSuch
        · exact T.ki_NoView_NoField
        · exact T.ki_NoView_NoKind
        · exact T.ki_NoView_NoVeil, T.kv_NoView⟩
  have c6 : ClsOk K f 6 := ⟨⟨_, T.x_NoHead.x⟩, T.su_NoHead_CrossError, T.x_NoHead.xc, fun j a b => by
        rcases (by omega : j = 3 ∨ j = 4 ∨ j = 5 ∨ j = 6 ∨ j = 7 ∨ j = 8 ∨ j = 9 ∨ j = 10 ∨ j = 11 ∨ j = 12 ∨ j = 13 ∨ j = 14 ∨ j = 15) with rfl | rfl | rfl | rfl | rfl | rfl | rfl | rfl | rfl | rfl | rfl | rfl | rfl
        · exact T.ki_NoHead_NoFields
        · exact T.ki_NoHead_NoSieve
        · exact T.ki_NoHead_NoView
        · exact T.ki_NoHead_NoHead
        · exact T.ki_NoHead_NoNet
        · exact T.ki_NoHead_NoWhole
        · exact T.ki_NoHead_NoGroups
        · exact T.ki_NoHead_NoLine
        · exact T.ki_NoHead_NoRow
        · exact T.ki_NoHead_NoSuch
        · exact T.ki_NoHead_NoField
        · exact T.ki_NoHead_NoKind
        · exact T.ki_NoHead_NoVeil, T.kv_NoHead⟩
  unfold raised8 at hc
  simp only [List.mem_cons, List.not_mem_nil, or_false] at hc
  rcases hc with rfl | rfl | rfl | rfl | rfl | rfl | rfl | rfl
  · exact c3
  · exact c11
  · exact c12
  · exact c13
  · exact c14
  · exact c4
  · exact c5
  · exact c6
theorem ifE_no {A R : TS} {D : Ends} {H : Hp} {σ : St} {i c : Int} (hne : decide (i = c) = false) (h : R D (some (V.int i) :: σ) H) : tIfS (tTest (tOp rEq (tVar 0) (tC (V.int c)))) A R D (some (V.int i) :: σ) H :=
  ⟨rfl, _, rfl, by dsimp only; rw [if_neg (by simpa using hne)]; exact h⟩
theorem ifE_yes {A R : TS} {D : Ends} {H : Hp} {σ : St} {i : Int} (h : ∀ nx, A { D with nx := nx } (some (V.int i) :: σ) H) : tIfS (tTest (tOp rEq (tVar 0) (tC (V.int i)))) A R D (some (V.int i) :: σ) H :=
  ⟨rfl, _, rfl, by dsimp only; rw [if_pos (by simp)]; exact h D.nx⟩
noncomputable def due (i : Nat) : Nat := [3, 11, 12, 13, 14, 4, 5, 13, 14, 6].getD i 0
noncomputable def NmL (z : Str) : Prop := 1 ≤ z.length ∧ z.length ≤ 11 ∧ ∀ c ∈ z.cps.toList, c ∈ letters.cps.toList
structure DeedAt (f : Nat → Addr) (K : PySem.W.Frag) (H : Hp) (o lf ln l d dx : Addr) (g n : Int) (xs : List V) (kvs : List (Key × V)) (n0 n1 : Str) : Prop where
  ho : H o = some (.ins (f 36) dx (shFs l d g))
  hd : H d = some (.dK kvs)
  hl : H l = some (.lst xs)
  hf : H lf = some (.lst xs)
  hF : FldsK H xs [n0, n1] [wordS, numS]
  hn : H ln = some (.lst [.str n0, .str n1])
  kl : kvs.length < 1000
  kn : valV kvs (.inl n) = none
  l0 : NmL n0
  l1 : NmL n1
  hx : (n0 ++ "x") ∉ [n0, n1]
theorem DeedAt.mono {f : Nat → Addr} {K : PySem.W.Frag} {H H' : Hp} {o lf ln l d dx : Addr} {g n : Int} {xs : List V} {kvs : List (Key × V)} {n0 n1 : Str} (s : Same H H') (h : DeedAt f K H o lf ln l d dx g n xs kvs n0 n1) : DeedAt f K H' o lf ln l d dx g n xs kvs n0 n1 := ⟨s _ _ h.ho, s _ _ h.hd, s _ _ h.hl, s _ _ h.hf, h.hF.mono s, s _ _ h.hn, h.kl, h.kn, h.l0, h.l1, h.hx⟩
theorem bools_reps {K : PySem.W.Frag} {H : Hp} : ∀ zs : List Bool, Reps K H (zs.map .bool) (zs.map V.bl) ∧ PyData.canLayAll0 (zs.map .bool) = true ∧ PyData.depthAll (zs.map .bool) = 0 ∧ PyData.eqvAll (zs.map .bool) (zs.map .bool) = true
  | [] => by simp [Reps, PyData.canLayAll0, PyData.depthAll, PyData.eqvAll]
  | z :: zs => by
    obtain ⟨h1, h2, h3, h4⟩ := bools_reps (K := K) (H := H) zs
    refine ⟨?_, ?_, ?_, ?_⟩
    · simp only [List.map_cons, Reps]
      exact ⟨_, _, rfl, by simp [Rep], h1⟩
    · simp [PyData.canLayAll0, PyData.canLay0, h2]
    · simp [PyData.depthAll, PyData.depth, h3]
    · simp [PyData.eqvAll, PyData.eqv, h4]
theorem boolsEq_of {K : PySem.W.Frag} {H : Hp} {a b : Addr} {zs : List Bool} {neg : Bool} {Q : VK} (h1 : H a = some (.lst (zs.map V.bl))) (h2 : H b = some (.lst (zs.map V.bl))) (q : Q (.bl (!neg)) H) : rEqD K neg (.ref a) (.ref b) H Q := by
  obtain ⟨r1, r2, r3, r4⟩ := bools_reps (K := K) (H := H) zs
  have sh : SeqAt.shaped (.list (zs.map .bool)) = true := by
    unfold SeqAt.shaped
    simp only [PyData.canLay0, PyData.depth, r2, Bool.true_and]
    exact decide_eq_true (by omega)
  refine ⟨.list (zs.map .bool), .list (zs.map .bool), by simp only [Rep]; exact ⟨a, _, rfl, .of h1, r1⟩, by simp only [Rep]; exact ⟨b, _, rfl, .of h2, r1⟩, sh, sh, ?_⟩
  have e : PyData.eqv (.list (zs.map .bool)) (.list (zs.map .bool)) = true := by simp only [PyData.eqv, r4]
  rw [e]
  cases neg <;> exact q
noncomputable def ixn (i : Nat) : Nat := [0, 1, 2, 3, 4, 5, 6, 3, 4, 7].getD i 0
theorem ten {i : Nat} (hi : i < 10) : i = 0 ∨ i = 1 ∨ i = 2 ∨ i = 3 ∨ i = 4 ∨ i = 5 ∨ i = 6 ∨ i = 7 ∨ i = 8 ∨ i = 9 := by omega
theorem ixn_at {i : Nat} (hi : i < 10) : atI [V.int 0, V.int 1, V.int 2, V.int 3, V.int 4, V.int 5, V.int 6, V.int 3, V.int 4, V.int 7] (i : Int) = some (V.int (ixn i : Nat)) := by
  rcases ten hi with rfl | rfl | rfl | rfl | rfl | rfl | rfl | rfl | rfl | rfl <;> exact atI_nat rfl
theorem kinds_eq {i : Nat} (hi : i < 10) : ((List.range 13).map fun k => decide (k = ixn i)) = kinds fun j => decide (j = due i) := by
  rcases ten hi with rfl | rfl | rfl | rfl | rfl | rfl | rfl | rfl | rfl | rfl <;> decide
theorem NmL.short {z : Str} (h : NmL z) : shortV (.str z) letters = true := by
  have e : madeOf z letters = true := List.all_eq_true.mpr fun c hc => decide_eq_true (h.2.2 c hc)
  unfold shortV
  have h1 := h.1
  have h2 : z.length ≤ 12 := by have := h.2.1; omega
  simp [h1, h2, e]
theorem ltr_small : ∀ c ∈ letters.cps.toList, c < 1114112 := by decide
theorem NmL.ok {z : Str} (h : NmL z) : NmOk 13 z := ⟨by have := h.2.1; omega, fun c hc => ltr_small c (h.2.2 c hc)⟩
theorem cat_cps (a b : Str) : (a ++ b).cps.toList = a.cps.toList ++ b.cps.toList := by
  show (a.cps ++ b.cps).toList = _
  rw [Array.toList_append]
theorem cat_len (a b : Str) : (a ++ b).length = a.length + b.length := by
  have := congrArg List.length (cat_cps a b)
  rw [List.length_append] at this
  simpa [Str.length] using this
theorem NmL.okx {z : Str} (h : NmL z) : NmOk 13 (z ++ "x") := ⟨by
  rw [cat_len, show (("x" : Str)).length = 1 by decide]; have := h.2.1; omega, fun c hc => by
  rw [cat_cps] at hc
  rcases List.mem_append.mp hc with hc | hc
  · exact ltr_small c (h.2.2 c hc)
  · exact (show ∀ c ∈ (("x" : Str)).cps.toList, c < 1114112 by decide) c hc⟩
theorem NmL.nmT {z : Str} (h : NmL z) : NmT (z ++ "?&") z := ⟨by rw [cat_cps, show (("?&" : Str)).cps.toList = [63, 38] by decide], h.1, by have := h.2.1; omega, h.2.2⟩
theorem FldsK.kds {H : Hp} {xs : List V} {ns kds : List Str} (h : FldsK H xs ns kds) : Kds H xs kds := ⟨h.2.1, fun i x kd hx hk => by
  have hi : i < ns.length := by rw [h.1]; exact (List.getElem?_eq_some_iff.mp hx).1
  obtain ⟨p, e, g⟩ := h.2.2.2 i x ns[i] kd hx (List.getElem?_eq_getElem hi) hk
  exact ⟨p, _, e, g⟩⟩
noncomputable def sp_l_deed (K : PySem.W.Frag) (f : Nat → Addr) : Sp := fun vs H Q _ => ∃ (i : Nat) (o lf ln l d dx : Addr) (g n : Int) (xs : List V) (kvs : List (Key × V)) (n0 n1 : Str), vs = [.int i, .ref o, .ref lf, .ref ln, .int n] ∧ i < 10 ∧ DeedAt f K H o lf ln l d dx g n xs kvs n0 n1 ∧ ∀ H', Same H H' → Q (.bl true) H'
theorem ok_l_deed (T : Txt w K mg f fd) : FnOk P w K mg base CX0 10 (f 67) (fd 67) ["_law_way", "_law_sheet", "_law_fields", "_law_names", "_law_number"] (sp_l_deed K f) := by
  refine T.d_l_deed.F.ok sc_l_deed (fun vs H Q E h => ?_) (fun cdv A outer s H vs Q E hr h => ?_)
  · obtain ⟨i, o, lf, ln, l, d, dx, g, n, xs, kvs, n0, n1, rfl, _⟩ := h
    rfl
  · obtain ⟨i, o, lf, ln, l, d, dx, g, n, xs, kvs, n0, n1, rfl, hi, S, k⟩ := h
    refine ⟨_, (pss_cons (psl 5 sc_l_deed.nd pe_str)
     (pss_cons (psl 6 sc_l_deed.nd (pe_lst pa_nil))
     (pss_cons (ps_try rfl rfl (fun _ _ _ => (pss_one (ps_if (pt_cmpR op_eq (pvl 0) pe_int (nomark _))
     (pss_one (ps_expr (pe_defX (told_try rfl) T.d_asked_fields (ok_asked_fields T) (hr.mono (by decide)) rfl (by decide) rfl (pal rfl (pe_lst (pal rfl (pe_tup (pal rfl (pe_ix (k_ixL rfl) (pvl 3) pe_int (fun _ _ => rfl)) (pal rfl pe_str pa_nil))) (pal rfl (pe_tup (pal rfl (pe_ix (k_ixL rfl) (pvl 3) pe_int (fun _ _ => rfl)) (pal rfl pe_str pa_nil))) pa_nil))) pa_nil))))
     (pss_one (ps_if (pt_cmpR op_eq (pvl 0) pe_int (nomark _))
     (pss_one (ps_expr (pe_methX (told_try rfl) (pvl 1) T.o_Sheet.cls T.m_Sheet_put (ok_Sheet_put T) (hr.mono (by decide)) T.d_Sheet_put.b rfl (pal rfl (pe_lst (pal rfl pe_str (pal rfl pe_str pa_nil))) pa_nil) rfl)))
     (pss_one (ps_if (pt_cmpR op_eq (pvl 0) pe_int (nomark _))
     (pss_one (ps_expr (pe_methX (told_try rfl) (pvl 1) T.o_Sheet.cls T.m_Sheet_row (ok_Sheet_row T) (hr.mono (by decide)) T.d_Sheet_row.b rfl (pal rfl (pvl 4) pa_nil) rfl)))
     (pss_one (ps_if (pt_cmpR op_eq (pvl 0) pe_int (nomark _))
     (pss_one (ps_expr (pe_defX (told_try rfl) T.d_asked_sieve (ok_asked_sieve T 4) (hr.mono (by decide)) rfl (by decide) rfl (pal rfl (pvl 2) (pal rfl (pe_tup (pal rfl pe_str (pal rfl (pe_tup (pal rfl pe_str (pal rfl (pe_op op_add_str (pe_ix (k_ixL rfl) (pvl 3) pe_int (fun _ _ => rfl)) pe_str) pa_nil))) pa_nil))) pa_nil)))))
     (pss_one (ps_if (pt_cmpR op_eq (pvl 0) pe_int (nomark _))
     (pss_one (ps_expr (pe_defX (told_try rfl) T.d_asked_sieve (ok_asked_sieve T 4) (hr.mono (by decide)) rfl (by decide) rfl (pal rfl (pvl 2) (pal rfl (pe_tup (pal rfl pe_str (pal rfl (pe_ix (k_ixL rfl) (pvl 3) pe_int (fun _ _ => rfl)) (pal rfl (pvl 4) pa_nil)))) pa_nil)))))
     (pss_one (ps_if (pt_cmpR op_eq (pvl 0) pe_int (nomark _))
     (pss_one (ps_expr (pe_defX (told_try rfl) T.d_read_sieve (ok_read_sieve T) (hr.mono (by decide)) rfl (by decide) rfl (pal rfl (pvl 2) (pal rfl (pe_op op_add_str (pe_ix (k_ixL rfl) (pvl 3) pe_int (fun _ _ => rfl)) pe_str) pa_nil)))))
     (pss_one (ps_if (pt_cmpR op_eq (pvl 0) pe_int (nomark _))
     (pss_one (ps_expr (pe_defX (told_try rfl) T.d_asked_view (ok_asked_view T) (hr.mono (by decide)) rfl (by decide) rfl (pal rfl (pvl 2) (pal rfl (pe_tup (pal rfl (pe_tup (pal rfl (pe_ix (k_ixL rfl) (pvl 3) pe_int (fun _ _ => rfl)) pa_nil)) (pal rfl (pe_tup (pal rfl (pe_ix (k_ixL rfl) (pvl 3) pe_int (fun _ _ => rfl)) pa_nil)) (pal rfl (pe_tup pa_nil) pa_nil)))) pa_nil)))))
     (pss_one (ps_if (pt_cmpR op_eq (pvl 0) pe_int (nomark _))
     (pss_one (ps_expr (pe_defX (told_try rfl) T.d_asked_view (ok_asked_view T) (hr.mono (by decide)) rfl (by decide) rfl (pal rfl (pvl 2) (pal rfl (pe_tup (pal rfl (pe_tup (pal rfl (pe_op op_add_str (pe_ix (k_ixL rfl) (pvl 3) pe_int (fun _ _ => rfl)) pe_str) pa_nil)) (pal rfl (pe_tup pa_nil) (pal rfl (pe_tup (pal rfl (pe_tup (pal rfl pe_str pa_nil)) pa_nil)) pa_nil)))) pa_nil)))))
     (pss_one (ps_if (pt_cmpR op_eq (pvl 0) pe_int (nomark _))
     (pss_one (ps_expr (pe_defX (told_try rfl) T.d_asked_view (ok_asked_view T) (hr.mono (by decide)) rfl (by decide) rfl (pal rfl (pvl 2) (pal rfl (pe_tup (pal rfl (pe_tup pa_nil) (pal rfl (pe_tup pa_nil) (pal rfl (pe_tup (pal rfl (pe_tup (pal rfl pe_str (pal rfl (pe_ix (k_ixL rfl) (pvl 3) pe_int (fun _ _ => rfl)) pa_nil))) pa_nil)) pa_nil)))) pa_nil)))))
     (pss_one (ps_expr (pe_defX (told_try rfl) T.d_asked_path (ok_asked_path T) (hr.mono (by decide)) rfl (by decide) rfl (pal rfl (pvl 2) (pal rfl (pe_tup (pal rfl (pe_ix (k_ixL rfl) (pvl 3) pe_int (fun _ _ => rfl)) pa_nil)) (pal rfl (pe_tup (pal rfl pe_str pa_nil)) pa_nil)))))))))))))))))))))))))
     (ph_as rfl T.x_CrossError.m T.x_CrossError.x (by decide) sc_l_deed.nd (i := 7) rfl rfl (fun _ => (pss_cons (psl 5 sc_l_deed.nd (pe_ix (k_ixL rfl) (pe_lst (pal rfl pe_str (pal rfl pe_str pa_nil))) (pe_cTy call_int1 T.n_int bt_int rfl (by decide) (by decide) rfl (pal rfl (pe_cB (k_isX rfl) T.n_isinstance bt_isinstance rfl (by decide) (by decide) rfl (pal rfl (pvl 7) (pal rfl (pty T.n_ValueError bt_ValueError) pa_nil))) pa_nil)) (fun _ _ => rfl)))
     (pss_one (psl 6 sc_l_deed.nd (pe_defH T.d_l_classes (ok_l_classes T) ((hr.mono (by decide)).toH.mark _) rfl (by decide) rfl (pal rfl (pvl 7) pa_nil))))))
     ph_nil))
     (pss_cons (psc 8 sc_l_deed.nd (pe_ix (k_ixL rfl) (pe_lst (pal rfl pe_int (pal rfl pe_int (pal rfl pe_int (pal rfl pe_int (pal rfl pe_int (pal rfl pe_int (pal rfl pe_int (pal rfl pe_int (pal rfl pe_int (pal rfl pe_int pa_nil))))))))))) (pvl 0) (fun _ _ => rfl)))
     (pss_one (ps_ret (pe_and (pe_cmpR op_eq (pvl 5) pe_str (nomark _)) (pe_one (pe_cmpR (k_eqD rfl hr.units) (pvl 6) (pe_comp ["_law_k"] ["_law_way", "_law_sheet", "_law_fields", "_law_names", "_law_number", "_law_told", "_law_caught", "_law_e", "_law_due"] rfl (show CompSc _ (defScope s_l_deed) ["_law_way", "_law_sheet", "_law_fields", "_law_names", "_law_number", "_law_told", "_law_caught", "_law_e", "_law_due"] ["_law_way", "_law_sheet", "_law_fields", "_law_names", "_law_number", "_law_told", "_law_caught", "_law_e", "_law_due"] from compOk_is (by decide +kernel)) (pi_range1 rfl T.n_range (pal rfl pe_int pa_nil)) (fun _ _ _ _ _ => (pgl 0 (show (["_law_k", "_law_way", "_law_sheet", "_law_fields", "_law_names", "_law_number", "_law_told", "_law_caught", "_law_e", "_law_due"] : List Str).Nodup by decide +kernel))) (fun _ _ _ _ _ => pts_nil) (fun _ _ _ _ _ => (pe_cmpR op_eq (pvl 0) (pvc 9) (nomark _)))) (nomark _)))))))))), ?_⟩
    dsimp only [cxOf, L2.Cx.inTry, L2.Cx.inHand]
    simp only [L2.start, tSeq, tAsg, gName, tC, tLst, tNil, tTry]
    refine ⟨Nat.zero_le _, fun p0 hp0 => ?_⟩
    have s1 := Same.upd_new hp0 (HO.lst [])
    generalize upd H p0 (HO.lst []) = H1 at *
    have S := S.mono s1
    replace k : ∀ H', Same H1 H' → Q (.bl true) H' := fun H' s => k H' (s1.trans s)
    clear s1 hp0
    change tIfS _ _ _ _ [some (V.int i), some (V.ref o), some (V.ref lf), some (V.ref ln), some (V.int n), some (V.str "taken"), some (V.ref p0), none, none] H1
    generalize hE : (fun (C : Value) (ed : Option Addr) (H' : Hp) => tAs _ _ _ _ _ C ed _ _ H') = E1
    have fin : ∀ H2 ed, Same H1 H2 → XdOk H2 ed → E1 (.ref (f (due i))) ed H2 := by
      intro H2 ed s2 hx
      have hdu : due i ∈ raised8 := by
        rcases (by omega : i = 0 ∨ i = 1 ∨ i = 2 ∨ i = 3 ∨ i = 4 ∨ i = 5 ∨ i = 6 ∨ i = 7 ∨ i = 8 ∨ i = 9) with rfl | rfl | rfl | rfl | rfl | rfl | rfl | rfl | rfl | rfl <;> decide
      obtain ⟨q1, q2, q3, q4, q5⟩ := cls_ok T hdu
      subst hE
      walk_at "dl"
      refine ⟨_, rfl, q1, ?_⟩
      rw [if_pos q2]
      intro a ha
      refine ⟨small_line (by decide), fun p hp => ?_⟩
      have s3 := (Same.upd_new ha (ExO a (Value.ref (f (due i))) ed)).new hp (HO.lst [V.str (Str.ofString "odd"), V.str (Str.ofString "refused")])
      have ga : upd (upd H2 a (ExO a (Value.ref (f (due i))) ed)) p (HO.lst [V.str (Str.ofString "odd"), V.str (Str.ofString "refused")]) a = some (ExO a (Value.ref (f (due i))) ed) := Same.upd_new hp _ _ _ upd_same
      have gp : upd (upd H2 a (ExO a (Value.ref (f (due i))) ed)) p (HO.lst [V.str (Str.ofString "odd"), V.str (Str.ofString "refused")]) p = some (HO.lst [V.str (Str.ofString "odd"), V.str (Str.ofString "refused")]) := upd_same
      generalize upd (upd H2 a (ExO a (Value.ref (f (due i))) ed)) p (HO.lst [V.str (Str.ofString "odd"), V.str (Str.ofString "refused")]) = H3 at *
      have hx3 := XdOk.mono s3 hx
      refine ⟨a, f (due i), ed, ga, hx3, q3, rfl, true, q5, ?_⟩
      rw [if_pos rfl]
      refine ⟨p, _, _, .str "refused", rfl, rfl, .of gp, atI_nat (j := 1) rfl, a, f (due i), ed, fun j => decide (j = due i), rfl, ga, hx3, q3, q4, fun H4 pc s4 _ hpc => ⟨small_line (by decide), fun pd hpd => ?_⟩⟩
      have s5 := Same.upd_new hpd (HO.lst [V.int 0, V.int 1, V.int 2, V.int 3, V.int 4, V.int 5, V.int 6, V.int 3, V.int 4, V.int 7])
      refine ⟨pd, _, _, .int (ixn i : Nat), rfl, rfl, .of upd_same, ixn_at hi, rfl, ?_⟩
      rw [if_pos rfl]
      generalize upd H4 pd (HO.lst [V.int 0, V.int 1, V.int 2, V.int 3, V.int 4, V.int 5, V.int 6, V.int 3, V.int 4, V.int 7]) = H5 at *
      refine ⟨by decide, by decide, ?_⟩
      rw [show Int.toNat 13 = 13 from rfl]
      refine comp_walk (walk_range (n := 13)) (by rw [rangeV_len]; exact small_line (by decide)) (fun j ys H' => H' = H5 ∧ ys = ((List.range j).map fun k => decide (k = ixn i)).map V.bl) ⟨rfl, rfl⟩ (fun _ _ _ _ _ => trivial) (fun j ys H' q => by rw [q.2, List.length_map, List.length_map, List.length_range]; exact Nat.le_refl _) (fun j x ys H6 hx6 q => ?_) (fun ys H6 q D hD => ?_)
      · obtain ⟨rfl, rfl⟩ := q
        obtain ⟨hj, rfl⟩ := range_item hx6
        walk_at "dl"
        refine ⟨⟨_, rfl⟩, ?_⟩
        rw [List.range_succ, List.map_append, List.map_append]
        simp
        omega
      · obtain ⟨rfl, rfl⟩ := q
        rw [rangeV_len, kinds_eq hi]
        exact boolsEq_of (Same.upd_new hD _ _ _ (s5 _ _ hpc)) upd_same (k _ ((((s2.trans s3).trans s4).trans s5).new hD _))
    generalize hD : (Ends.mk _ _ _ _ : Ends) = D
    clear hD hE
    have ix0 : ∀ {H' : Hp} {Q' : VK}, Same H1 H' → Q' (.str n0) H' → rIxL K (.ref ln) (.int 0) H' Q' := fun s q => ⟨ln, _, _, .str n0, rfl, rfl, .of (s _ _ S.hn), atI_nat (j := 0) rfl, q⟩
    have ix1 : ∀ {H' : Hp} {Q' : VK}, Same H1 H' → Q' (.str n1) H' → rIxL K (.ref ln) (.int 1) H' Q' := fun s q => ⟨ln, _, _, .str n1, rfl, rfl, .of (s _ _ S.hn), atI_nat (j := 1) rfl, q⟩
    rcases ten hi with rfl | rfl | rfl | rfl | rfl | rfl | rfl | rfl | rfl | rfl
    · rw [show V.int ((0 : Nat) : Int) = V.int 0 from rfl]
      refine ifE_yes fun nx => ?_
      walk_at "dl"
      refine ix0 (Same.refl _) ⟨small_line (by decide), fun p hp => ?_⟩
      have s2 := Same.upd_new hp (HO.tup [V.str n0, V.str (Str.ofString "word")])
      have g2 : upd H1 p (HO.tup [V.str n0, V.str (Str.ofString "word")]) p = some (HO.tup [V.str n0, V.str (Str.ofString "word")]) := upd_same
      generalize upd H1 p (HO.tup [V.str n0, V.str (Str.ofString "word")]) = H2 at *
      refine ix0 s2 ⟨small_line (by decide), fun p1 hp1 => ⟨small_line (by decide), fun p2 hp2 => ?_⟩⟩
      have w3 := (Same.upd_new hp1 (HO.tup [V.str n0, V.str (Str.ofString "number")])).new hp2 (HO.lst [V.ref p, V.ref p1])
      have g3 : upd (upd H2 p1 (HO.tup [V.str n0, V.str (Str.ofString "number")])) p2 (HO.lst [V.ref p, V.ref p1]) p1 = some (HO.tup [V.str n0, V.str (Str.ofString "number")]) := Same.upd_new hp2 _ _ _ upd_same
      have sh := S.l0.short
      have hl0 := S.l0.2.1
      refine ⟨.ref p2, rfl, .inr ⟨p2, [.ref p, .ref p1], rfl, upd_same, .inr ⟨by simp, by simp, .inl ⟨⟨1, [n0], .ref p1, ⟨rfl, by simp, fun j x m hx hm => ?_⟩, rfl, .inr ⟨n0, by simp, p1, "number", rfl, g3, small_line (by omega), sh, by decide⟩⟩, fun H' s => fin _ none (s2.trans (w3.trans s)) (.inl rfl)⟩⟩⟩⟩
      match j, hx, hm with
      | 0, hx, hm =>
        cases hx; cases hm
        exact ⟨p, "word", rfl, w3 _ _ g2, small_line (by omega), sh, by decide⟩
      | j + 1, hx, hm => simp at hx
    · rw [show V.int ((1 : Nat) : Int) = V.int 1 from rfl]
      refine ifE_no rfl ?_
      refine ifE_yes fun nx => ?_
      walk_at "dl"
      refine ⟨_, _, S.ho, rfl, small_line (by decide), fun p hp => ?_⟩
      have s2 := Same.upd_new hp (HO.lst [V.str (Str.ofString "a"), V.str (Str.ofString "a")])
      have S2 := S.mono s2
      refine ⟨o, l, d, g, dx, kvs, p, _, rfl, S2.ho, S2.hd, S2.kl, xs, [wordS, numS], S2.hl, S2.hF.kds, .inl upd_same, fun x hx => ?_, .inr ⟨1, ⟨⟨by decide, fun j x kd hj hx hk => ?_⟩, .inl ⟨_, rfl, .inr ⟨numS, rfl, by decide⟩⟩⟩, fun H' ex s hx => fin _ (some ex) (s2.trans s) (.inr ⟨ex, _, rfl, hx⟩)⟩⟩
      · simp only [List.mem_cons, List.not_mem_nil, or_false, or_self] at hx
        subst hx
        exact ⟨_, Pl.of_str (small_line (by decide))⟩
      · obtain rfl : j = 0 := by omega
        cases hx; cases hk
        decide
    · rw [show V.int ((2 : Nat) : Int) = V.int 2 from rfl]
      refine ifE_no rfl ?_
      refine ifE_no rfl ?_
      refine ifE_yes fun nx => ?_
      walk_at "dl"
      exact ⟨_, _, S.ho, rfl, l, d, ⟨g, dx, S.ho⟩, kvs, S.hd, .inr ⟨S.kn, fun H' ex s hx => fin _ (some ex) s (.inr ⟨ex, _, rfl, hx⟩)⟩⟩
    · rw [show V.int ((3 : Nat) : Int) = V.int 3 from rfl]
      refine ifE_no rfl ?_
      refine ifE_no rfl ?_
      refine ifE_no rfl ?_
      refine ifE_yes fun nx => ?_
      walk_at "dl"
      have hl0 := S.l0.2.1
      have lx : (Str.ofString "x").length = 1 := by decide
      refine ix0 (Same.refl _) ⟨n0, rfl, small_line (by omega), small_line (by decide), fun p hp => ⟨small_line (by decide), fun p1 hp1 => ?_⟩⟩
      have s2 := (Same.upd_new hp (HO.tup [V.str (Str.ofString "lacks"), V.str (n0 ++ Str.ofString "x")])).new hp1 (HO.tup [V.str (Str.ofString "not"), V.ref p])
      have g2 : upd (upd H1 p (HO.tup [V.str (Str.ofString "lacks"), V.str (n0 ++ Str.ofString "x")])) p1 (HO.tup [V.str (Str.ofString "not"), V.ref p]) p = some (HO.tup [V.str (Str.ofString "lacks"), V.str (n0 ++ Str.ofString "x")]) := Same.upd_new hp1 _ _ _ upd_same
      have S2 := S.mono s2
      exact ⟨lf, .ref p1, xs, _, _, 13, .fld (n0 ++ "x"), rfl, S2.hf, S2.hF, .inr ⟨p1, rfl, .inl ⟨.ref p, upd_same, .inl ⟨p, "lacks", n0 ++ "x", [], rfl, g2, S.l0.okx, .inl ⟨rfl, rfl⟩, .inl ⟨S.hx, rfl⟩⟩⟩⟩, fun H' ex s hx => fin _ (some ex) (s2.trans s) (.inr ⟨ex, _, rfl, hx⟩)⟩
    · rw [show V.int ((4 : Nat) : Int) = V.int 4 from rfl]
      refine ifE_no rfl ?_
      refine ifE_no rfl ?_
      refine ifE_no rfl ?_
      refine ifE_no rfl ?_
      refine ifE_yes fun nx => ?_
      walk_at "dl"
      refine ix0 (Same.refl _) ⟨small_line (by decide), fun p hp => ?_⟩
      have s2 := Same.upd_new hp (HO.tup [V.str (Str.ofString "over"), V.str n0, V.int n])
      have S2 := S.mono s2
      exact ⟨lf, .ref p, xs, _, _, 13, .knd n0, rfl, S2.hf, S2.hF, .inl ⟨p, "over", n0, [.int n], rfl, upd_same, S.l0.ok, .inr (.inr ⟨.inr rfl, _, rfl⟩), .inr ⟨0, wordS, rfl, rfl, .inr (.inl ⟨.inr rfl, .inr ⟨rfl, rfl⟩⟩)⟩⟩, fun H' ex s hx => fin _ (some ex) (s2.trans s) (.inr ⟨ex, _, rfl, hx⟩)⟩
    · rw [show V.int ((5 : Nat) : Int) = V.int 5 from rfl]
      refine ifE_no rfl ?_
      refine ifE_no rfl ?_
      refine ifE_no rfl ?_
      refine ifE_no rfl ?_
      refine ifE_no rfl ?_
      refine ifE_yes fun nx => ?_
      walk_at "dl"
      have hl0 := S.l0.2.1
      have lx : (Str.ofString "?&").length = 2 := by decide
      exact ix0 (Same.refl _) ⟨n0, rfl, small_line (by omega), ⟨n0, S.l0.nmT⟩, fun H' s => fin _ none s (.inl rfl)⟩
    · rw [show V.int ((6 : Nat) : Int) = V.int 6 from rfl]
      refine ifE_no rfl ?_
      refine ifE_no rfl ?_
      refine ifE_no rfl ?_
      refine ifE_no rfl ?_
      refine ifE_no rfl ?_
      refine ifE_no rfl ?_
      refine ifE_yes fun nx => ?_
      walk_at "dl"
      refine ix0 (Same.refl _) ⟨small_line (by decide), fun p hp => ?_⟩
      have s2 := Same.upd_new hp (HO.tup [V.str n0])
      have g2 : upd H1 p (HO.tup [V.str n0]) p = some (HO.tup [V.str n0]) := upd_same
      generalize upd H1 p (HO.tup [V.str n0]) = H2 at *
      refine ix1 s2 ⟨small_line (by decide), fun p1 hp1 => ⟨Nat.zero_le _, fun p2 hp2 => ⟨small_line (by decide), fun p3 hp3 => ?_⟩⟩⟩
      have w3 := ((Same.upd_new hp1 (HO.tup [V.str n1])).new hp2 (HO.tup [])).new hp3 (HO.tup [V.ref p, V.ref p1, V.ref p2])
      have a1 : upd (upd (upd H2 p1 (HO.tup [V.str n1])) p2 (HO.tup [])) p3 (HO.tup [V.ref p, V.ref p1, V.ref p2]) p1 = some (HO.tup [V.str n1]) := (Same.upd_new hp2 (HO.tup [])).new hp3 (HO.tup [V.ref p, V.ref p1, V.ref p2]) _ _ upd_same
      have a2 : upd (upd (upd H2 p1 (HO.tup [V.str n1])) p2 (HO.tup [])) p3 (HO.tup [V.ref p, V.ref p1, V.ref p2]) p2 = some (HO.tup []) := Same.upd_new hp3 _ _ _ upd_same
      have S3 := S.mono (s2.trans w3)
      exact ⟨xs, S3.hf, _, _, S3.hF, [n0], [n1], [], ⟨p3, p, p1, p2, rfl, upd_same, w3 _ _ g2, a1, a2, fun z hz => by
        simp at hz
        rcases hz with rfl | rfl
        · exact S.l0.ok
        · exact S.l1.ok, by simp, by simp, (fun _ h => nomatch h), by simp⟩, [], rfl, fun i g r h => by simp at h, fun _ H' s => fin _ none (s2.trans (w3.trans s)) (.inl rfl), fun h => absurd h.2.2.2.1 (by simp)⟩
    · rw [show V.int ((7 : Nat) : Int) = V.int 7 from rfl]
      refine ifE_no rfl ?_
      refine ifE_no rfl ?_
      refine ifE_no rfl ?_
      refine ifE_no rfl ?_
      refine ifE_no rfl ?_
      refine ifE_no rfl ?_
      refine ifE_no rfl ?_
      refine ifE_yes fun nx => ?_
      walk_at "dl"
      have hl0 := S.l0.2.1
      have lx : (Str.ofString "x").length = 1 := by decide
      refine ix0 (Same.refl _) ⟨n0, rfl, small_line (by omega), small_line (by decide), fun p hp => ⟨Nat.zero_le _, fun p1 hp1 => ⟨small_line (by decide), fun p2 hp2 => ⟨small_line (by decide), fun p3 hp3 => ⟨small_line (by decide), fun p4 hp4 => ?_⟩⟩⟩⟩⟩
      have u0 := Same.upd_new hp (HO.tup [V.str (n0 ++ Str.ofString "x")])
      have u1 := Same.upd_new hp1 (HO.tup [])
      have u2 := Same.upd_new hp2 (HO.tup [V.str (Str.ofString "count")])
      have u3 := Same.upd_new hp3 (HO.tup [V.ref p2])
      have u4 := Same.upd_new hp4 (HO.tup [V.ref p, V.ref p1, V.ref p3])
      have t3 := u3.trans u4
      have t2 := u2.trans t3
      have t1 := u1.trans t2
      have S3 := S.mono (u0.trans t1)
      have e : firstOut (([n0 ++ Str.ofString "x"] ++ []).map (nmOut [n0, n1]) ++ [Out.right]) = .fld (n0 ++ Str.ofString "x") := by
        have hx := S.hx
        simp only [List.append_nil, List.map_cons, List.map_nil, nmOut]
        rw [if_neg hx]
        rfl
      exact ⟨xs, S3.hf, _, _, S3.hF, [n0 ++ Str.ofString "x"], [], [(.ref p2, .count)], ⟨p4, p, p1, p3, rfl, upd_same, t1 _ _ upd_same, t2 _ _ upd_same, u4 _ _ upd_same, fun z hz => by
        simp at hz
        subst hz
        exact S.l0.okx, by simp, by simp, fun g hg => by
        simp at hg
        subst hg
        exact ⟨p2, rfl, t3 _ _ upd_same⟩, by simp⟩, [.right], rfl, fun j g r hg hr => by
        match j, hg, hr with
        | 0, hg, hr => cases hg; cases hr; rfl
        | j + 1, hg, hr => simp at hg, fun h => absurd ⟨by simp, by simp, by simp, by simp, by simp⟩ h, fun _ => by
        rw [e]
        exact fun H' ex s hx => fin _ (some ex) ((u0.trans t1).trans s) (.inr ⟨ex, _, rfl, hx⟩)⟩
    · rw [show V.int ((8 : Nat) : Int) = V.int 8 from rfl]
      refine ifE_no rfl ?_
      refine ifE_no rfl ?_
      refine ifE_no rfl ?_
      refine ifE_no rfl ?_
      refine ifE_no rfl ?_
      refine ifE_no rfl ?_
      refine ifE_no rfl ?_
      refine ifE_no rfl ?_
      refine ifE_yes fun nx => ?_
      walk_at "dl"
      refine ⟨Nat.zero_le _, fun p hp => ⟨Nat.zero_le _, fun p1 hp1 => ?_⟩⟩
      have s2 := (Same.upd_new hp (HO.tup [])).new hp1 (HO.tup [])
      have b0 : upd (upd H1 p (HO.tup [])) p1 (HO.tup []) p = some (HO.tup []) := Same.upd_new hp1 _ _ _ upd_same
      have b1 : upd (upd H1 p (HO.tup [])) p1 (HO.tup []) p1 = some (HO.tup []) := upd_same
      generalize upd (upd H1 p (HO.tup [])) p1 (HO.tup []) = H2 at *
      refine ix0 s2 ⟨small_line (by decide), fun p2 hp2 => ⟨small_line (by decide), fun p3 hp3 => ⟨small_line (by decide), fun p4 hp4 => ?_⟩⟩⟩
      have u2 := Same.upd_new hp2 (HO.tup [V.str (Str.ofString "sum"), V.str n0])
      have u3 := Same.upd_new hp3 (HO.tup [V.ref p2])
      have u4 := Same.upd_new hp4 (HO.tup [V.ref p, V.ref p1, V.ref p3])
      have t3 := u3.trans u4
      have t2 := u2.trans t3
      have S3 := S.mono (s2.trans t2)
      exact ⟨xs, S3.hf, _, _, S3.hF, [], [], [(.ref p2, .named "sum" n0)], ⟨p4, p, p1, p3, rfl, upd_same, t2 _ _ b0, t2 _ _ b1, u4 _ _ upd_same, (fun z hz => by simp at hz), by simp, by simp, (fun g hg => by
        simp at hg
        subst hg
        exact ⟨p2, rfl, t3 _ _ upd_same, .inl rfl, S.l0.ok⟩), by simp⟩, [.knd n0], rfl, (fun j g r hg hr => by
        match j, hg, hr with
        | 0, hg, hr => cases hg; cases hr; exact .inr ⟨0, wordS, rfl, rfl, .inl ⟨rfl, rfl, rfl⟩⟩
        | j + 1, hg, hr => simp at hg), (fun h => absurd ⟨by simp, by simp, by simp, by simp, by simp⟩ h), fun _ H' ex s hx => fin _ (some ex) ((s2.trans t2).trans s) (.inr ⟨ex, _, rfl, hx⟩)⟩
    · rw [show V.int ((9 : Nat) : Int) = V.int 9 from rfl]
      refine ifE_no rfl ?_
      refine ifE_no rfl ?_
      refine ifE_no rfl ?_
      refine ifE_no rfl ?_
      refine ifE_no rfl ?_
      refine ifE_no rfl ?_
      refine ifE_no rfl ?_
      refine ifE_no rfl ?_
      refine ifE_no rfl ?_
      walk_at "dl"
      refine ix1 (Same.refl _) ⟨small_line (by decide), fun p hp => ⟨small_line (by decide), fun p1 hp1 => ?_⟩⟩
      have s2 := (Same.upd_new hp (HO.tup [V.str n1])).new hp1 (HO.tup [V.str (Str.ofString "a")])
      have S2 := S.mono s2
      exact ⟨lf, p, p1, xs, _, _, 1, n1, numS, .str "a", "str", rfl, S2.hf, S2.hF, rfl, rfl, Same.upd_new hp1 _ _ _ upd_same, upd_same, Pl.of_str (small_line (by decide)), by decide, fun H' s => fin _ none (s2.trans s) (.inl rfl)⟩
theorem mulOk_one (c : Nat) {n : Int} (h0 : 0 ≤ n) (h : n ≤ 12) : MulOk ⟨#[c]⟩ n := by
  refine ⟨by rw [decide_eq_false (by omega), decide_eq_false (by omega)]; rfl, fun h1 _ => ?_, fun h1 _ => ?_⟩
  · show ¬ (1 : Int) > (2 ^ 63 - 1) / n
    rcases (by omega : n = 1 ∨ n = 2 ∨ n = 3 ∨ n = 4 ∨ n = 5 ∨ n = 6 ∨ n = 7 ∨ n = 8 ∨ n = 9 ∨ n = 10 ∨ n = 11 ∨ n = 12) with rfl | rfl | rfl | rfl | rfl | rfl | rfl | rfl | rfl | rfl | rfl | rfl <;> decide
  · show Builtin.Str.tooLong (1 * n.toNat) = false
    rcases (by omega : n = 1 ∨ n = 2 ∨ n = 3 ∨ n = 4 ∨ n = 5 ∨ n = 6 ∨ n = 7 ∨ n = 8 ∨ n = 9 ∨ n = 10 ∨ n = 11 ∨ n = 12) with rfl | rfl | rfl | rfl | rfl | rfl | rfl | rfl | rfl | rfl | rfl | rfl <;> decide +kernel
theorem len_cps (z : Str) : z.cps.toList.length = z.length := by simp [Str.length]
theorem mul_len (c : Nat) (n : Int) : (Txt.mul ⟨#[c]⟩ n).length = n.toNat := by rw [← len_cps, PyProof.Rows.mul_one_list, List.length_replicate]
noncomputable abbrev ltr25 : Str := "abcdefghijklmnopqrstuvwyz"
theorem mul_cps (c : Nat) (n : Int) : (Txt.mul ⟨#[c]⟩ n).cps.toList = List.replicate n.toNat c := PyProof.Rows.mul_one_list ..
theorem NmL.mul {c : Nat} {n : Int} (h1 : 1 ≤ n) (h2 : n ≤ 11) (hc : c ∈ letters.cps.toList) : NmL (Txt.mul ⟨#[c]⟩ n) := ⟨by rw [mul_len]; omega, by rw [mul_len]; omega, fun d hd => by
  rw [mul_cps] at hd
  rw [List.eq_of_mem_replicate hd]; exact hc⟩
theorem ltr25_in : ∀ c ∈ ltr25.cps.toList, c ∈ letters.cps.toList ∧ c ≠ 120 := by decide
theorem first_of {c : Nat} {n : Int} (h1 : 1 ≤ n) : ∃ r, (Txt.mul ⟨#[c]⟩ n).cps.toList = c :: r := by
  rw [mul_cps]
  obtain ⟨m, hm⟩ : ∃ m, n.toNat = m + 1 := ⟨n.toNat - 1, by omega⟩
  rw [hm, List.replicate_succ]
  exact ⟨_, rfl⟩
theorem two_names {c : Nat} {m n : Int} (hm : 1 ≤ m) (hn : 1 ≤ n) (hc : c ≠ 120) : Txt.mul ⟨#[c]⟩ m ≠ Txt.mul ⟨#[120]⟩ n ∧ (Txt.mul ⟨#[c]⟩ m ++ "x") ∉ [Txt.mul ⟨#[c]⟩ m, Txt.mul ⟨#[120]⟩ n] := by
  obtain ⟨r, hr⟩ := first_of (c := c) hm
  obtain ⟨t, ht⟩ := first_of (c := 120) hn
  refine ⟨fun e => ?_, fun h => ?_⟩
  · rw [e, ht] at hr
    exact hc (List.cons.inj hr).1.symm
  · simp only [List.mem_cons, List.not_mem_nil, or_false] at h
    rcases h with h | h
    · have := congrArg Str.length h
      rw [cat_len, show (("x" : Str)).length = 1 by decide] at this
      omega
    · have := congrArg (fun z : Str => z.cps.toList) h
      simp only [cat_cps] at this
      rw [hr, ht, List.cons_append] at this
      exact hc (List.cons.inj this).1
noncomputable def sp_law (K : PySem.W.Frag) : Sp := fun vs H Q _ => ∃ (a : Addr) (ns : List Int), vs = [.ref a] ∧ SqL K H a (ns.map V.int) ∧ ns.length ≤ 63 ∧ ∀ H', Q (.bl true) H'
theorem ok_law (T : Txt w K mg f fd) : FnOk P w K mg base CX0 11 (f 68) (fd 68) ["_law_script"] (sp_law K) := by
  refine T.d_law.F.ok sc_law (fun vs H Q E h => ?_) (fun cdv A outer s H vs Q E hr h => ?_)
  · obtain ⟨a, ns, rfl, _⟩ := h
    rfl
  · obtain ⟨a, ns, rfl, hs, hlen, k⟩ := h
    refine ⟨_, (pss_cons (ps_for PassesOwn.never rfl (pi_range1 rfl T.n_range (pal rfl (pe_op op_add pe_int (pe_cB (call_min2 rfl) T.n_min bt_min rfl (by decide) (by decide) rfl (pal rfl pe_int (pal rfl (pe_cB (k_len rfl) T.n_len bt_len rfl (by decide) (by decide) rfl (pal rfl (pvl 0) pa_nil)) pa_nil)))) pa_nil)) (pgl 1 sc_law.nd)
     (pss_cons (psl 2 sc_law.nd (pe_defL T.d_l_mix (ok_l_mix T) (hr.mono (by decide)) rfl (by decide) rfl (pal rfl (pe_defL T.d_l_cell_at (ok_l_cell_at T) (hr.mono (by decide)) rfl (by decide) rfl (pal rfl (pvl 0) (pal rfl (pvl 1) pa_nil))) (pal rfl (pvl 1) pa_nil))))
     (pss_cons (psl 3 sc_law.nd (pe_ix ix_str pe_str (pe_op op_mod (pvl 2) pe_int) (fun _ _ => rfl)))
     (pss_cons (psl 4 sc_law.nd (pe_lst (pal rfl (pe_op op_rep_str (pvl 3) (pe_op op_add pe_int (pe_op op_mod (pe_op op_fdiv (pvl 2) pe_int) pe_int))) (pal rfl (pe_op op_rep_str pe_str (pe_op op_add pe_int (pe_op op_mod (pe_op op_fdiv (pvl 2) pe_int) pe_int))) pa_nil))))
     (pss_cons (psl 5 sc_law.nd (pe_lst (pal rfl (pe_tup (pal rfl (pe_ix (k_ixL rfl) (pvl 4) pe_int (fun _ _ => rfl)) (pal rfl pe_str pa_nil))) (pal rfl (pe_tup (pal rfl (pe_ix (k_ixL rfl) (pvl 4) pe_int (fun _ _ => rfl)) (pal rfl pe_str pa_nil))) pa_nil))))
     (pss_cons (psl 6 sc_law.nd (pe_makeX (told_no rfl) T.o_Sheet.mkr (ok_Sheet___init__ T) (hr.mono (by decide)) rfl T.o_Sheet.m T.d_Sheet___init__.b (by decide) rfl (pal rfl (pe_cTy (k_list rfl) T.n_list bt_list rfl (by decide) (by decide) rfl (pal rfl (pvl 5) pa_nil)) pa_nil)))
     (pss_cons (ps_expr (pe_methX (told_no rfl) (pvl 6) T.o_Sheet.cls T.m_Sheet_put (ok_Sheet_put T) (hr.mono (by decide)) T.d_Sheet_put.b rfl (pal rfl (pe_lst (pal rfl pe_str (pal rfl pe_int pa_nil))) pa_nil) rfl))
     (pss_cons (ps_for PassesOwn.never rfl (pi_range1 rfl T.n_range (pal rfl pe_int pa_nil)) (pgl 7 sc_law.nd)
     (pss_one (ps_if (pt_not (pt_val (pe_defL T.d_l_deed (ok_l_deed T) (hr.mono (by decide)) rfl (by decide) rfl (pal rfl (pvl 7) (pal rfl (pvl 6) (pal rfl (pe_cTy (k_list rfl) T.n_list bt_list rfl (by decide) (by decide) rfl (pal rfl (pvl 5) pa_nil)) (pal rfl (pvl 4) (pal rfl (pe_op op_add pe_int (pe_op op_mod (pvl 2) (pe_op op_pow pe_int pe_int))) pa_nil))))))))
     (pss_one (ps_ret pe_bl))
     pss_nil)))
     (pss_one (ps_if (PW.pt (pw_or (pt_cmpR (k_neD rfl hr.units) (pe_meth0 (pvl 6) T.o_Sheet.cls T.m_Sheet_numbers (ok_Sheet_numbers T) (hr.mono (by decide)) T.d_Sheet_numbers.b .nil pass0 rfl) (pe_lst (pal rfl pe_int pa_nil)) (nomark _)) (pw_or1 (pt_cmpR (k_neD rfl hr.units) (pe_methX (told_no rfl) (pvl 6) T.o_Sheet.cls T.m_Sheet_row (ok_Sheet_row T) (hr.mono (by decide)) T.d_Sheet_row.b rfl (pal rfl pe_int pa_nil) rfl) (pe_tup (pal rfl pe_str (pal rfl pe_int pa_nil))) (nomark _)))))
     (pss_one (ps_ret pe_bl))
     pss_nil))))))))))
     (pss_one (ps_ret pe_bl))), ?_⟩
    dsimp only [cxOf]
    generalize hB : tSeq (tFor (iRng1 _) (gName 7) _) _ = B
    refine for_in ?_
    walk_at "dl"
    refine ⟨_, .inl hs, ?_⟩
    rw [List.length_map]
    obtain ⟨M, hM⟩ : ∃ M : Nat, (1 + if (ns.length : Int) < 12 then (ns.length : Int) else 12) = (M : Int) := ⟨(1 + if (ns.length : Int) < 12 then (ns.length : Int) else 12).toNat, by split <;> omega⟩
    have hM2 : M ≤ 13 := by
      split at hM <;> omega
    rw [hM, Int.toNat_natCast]
    refine ⟨by omega, by omega, ?_⟩
    refine ForW.of walk_range (fun j σ H' => (∃ v1 v2 v3 v4 v5 v6 v7, σ = [some (V.ref a), v1, v2, v3, v4, v5, v6, v7]) ∧ Same H H') ⟨⟨none, none, none, none, none, none, none, rfl⟩, Same.refl _⟩ (fun _ _ _ _ _ => trivial) ?_ ?_
    · rintro j x σ H1 hx ⟨⟨v1, v2, v3, v4, v5, v6, v7, rfl⟩, s1⟩
      obtain ⟨hj, rfl⟩ := range_item hx
      walk_at "dl"
      refine ⟨a, ns, _, rfl, s1.seq hs, by omega, fun v0 => ⟨_, _, rfl, ?_⟩⟩
      generalize mixI v0 (0 + (j : Int)) = sd
      have b1 := Int.emod_nonneg sd (show (25 : Int) ≠ 0 by decide)
      have b2 := Int.emod_lt_of_pos sd (show (0 : Int) < 25 by decide)
      have l25 : ltr25.length = 25 := by decide
      refine ⟨sd, rfl, ixS_of (small_line (by decide)) b1 (by rw [show (Str.ofString "abcdefghijklmnopqrstuvwyz").length = 25 from l25]; exact b2) fun c hc => ?_⟩
      obtain ⟨hcl, hcx⟩ := ltr25_in c (List.mem_of_getElem? hc)
      have m0 := Int.emod_nonneg (sd / 25) (show (11 : Int) ≠ 0 by decide)
      have m1 := Int.emod_lt_of_pos (sd / 25) (show (0 : Int) < 11 by decide)
      have m2 := Int.emod_nonneg (sd / 275) (show (11 : Int) ≠ 0 by decide)
      have m3 := Int.emod_lt_of_pos (sd / 275) (show (0 : Int) < 11 by decide)
      have ex : (Str.ofString "x") = ⟨#[120]⟩ := by decide
      rw [ex]
      refine ⟨sd, rfl, ⟨by decide, by decide⟩, ⟨#[c]⟩, rfl, mulOk_one c (by omega) (by omega), sd, rfl, ⟨by decide, by decide⟩, mulOk_one 120 (by omega) (by omega), small_line (by decide), fun p hp => ?_⟩
      obtain ⟨hne, hnx⟩ := two_names (c := c) (m := 1 + sd / 25 % 11) (n := 1 + sd / 275 % 11) (by omega) (by omega) hcx
      have q0 : NmL (Txt.mul ⟨#[c]⟩ (1 + sd / 25 % 11)) := NmL.mul (by omega) (by omega) hcl
      have q1 : NmL (Txt.mul ⟨#[120]⟩ (1 + sd / 275 % 11)) := NmL.mul (by omega) (by omega) (by decide)
      generalize Txt.mul ⟨#[c]⟩ (1 + sd / 25 % 11) = n0 at *
      generalize Txt.mul ⟨#[120]⟩ (1 + sd / 275 % 11) = n1 at *
      have s2 := s1.new hp (HO.lst [V.str n0, V.str n1])
      have gn : upd H1 p (HO.lst [V.str n0, V.str n1]) p = some (HO.lst [V.str n0, V.str n1]) := upd_same
      generalize upd H1 p (HO.lst [V.str n0, V.str n1]) = H2 at *
      refine ⟨p, _, _, .str n0, rfl, rfl, .of gn, atI_nat (j := 0) rfl, small_line (by decide), fun p1 hp1 => ?_⟩
      have w3 := Same.upd_new hp1 (HO.tup [V.str n0, V.str (Str.ofString "word")])
      have g3 : upd H2 p1 (HO.tup [V.str n0, V.str (Str.ofString "word")]) p1 = some (HO.tup [V.str n0, V.str (Str.ofString "word")]) := upd_same
      generalize upd H2 p1 (HO.tup [V.str n0, V.str (Str.ofString "word")]) = H3 at *
      refine ⟨p, _, _, .str n1, rfl, rfl, .of (w3 _ _ gn), atI_nat (j := 1) rfl, small_line (by decide), fun p2 hp2 => ⟨small_line (by decide), fun p3 hp3 => ?_⟩⟩
      have w4 := Same.upd_new hp2 (HO.tup [V.str n1, V.str (Str.ofString "number")])
      have g4 : upd H3 p2 (HO.tup [V.str n1, V.str (Str.ofString "number")]) p2 = some (HO.tup [V.str n1, V.str (Str.ofString "number")]) := upd_same
      generalize upd H3 p2 (HO.tup [V.str n1, V.str (Str.ofString "number")]) = H4 at *
      have w5 := Same.upd_new hp3 (HO.lst [V.ref p1, V.ref p2])
      have g5 : upd H4 p3 (HO.lst [V.ref p1, V.ref p2]) p3 = some (HO.lst [V.ref p1, V.ref p2]) := upd_same
      generalize upd H4 p3 (HO.lst [V.ref p1, V.ref p2]) = H5 at *
      have hF : FldsK H5 [V.ref p1, V.ref p2] [n0, n1] [wordS, numS] := ⟨rfl, rfl, by simp [hne], fun i x m kd hx hm hk => by
        match i, hx, hm, hk with
        | 0, hx, hm, hk => cases hx; cases hm; cases hk; exact ⟨p1, rfl, w5 _ _ (w4 _ _ g3)⟩
        | 1, hx, hm, hk => cases hx; cases hm; cases hk; exact ⟨p2, rfl, w5 _ _ g4⟩
        | i + 2, hx, hm, hk => simp at hx⟩
      have gn5 := w5 _ _ (w4 _ _ (w3 _ _ gn))
      have s5 := s2.trans (w3.trans (w4.trans w5))
      clear w3 w4 w5 g3 g4 s2 s1 hp1 hp2 hp3 hp gn
      refine ⟨_, .inl (.of g5), fun l hl => ?_⟩
      have w6 := Same.upd_new hl (HO.lst [V.ref p1, V.ref p2])
      have g6 : upd H5 l (HO.lst [V.ref p1, V.ref p2]) l = some (HO.lst [V.ref p1, V.ref p2]) := upd_same
      generalize upd H5 l (HO.lst [V.ref p1, V.ref p2]) = H6 at *
      intro o dx ho hdx hne2
      have hn1 : upd H6 dx (.own o) o = none := by rw [upd_ne (Ne.symm hne2)]; exact ho
      have w7 := (Same.upd_new hdx (.own o)).new hn1 (.ins (f 36) dx [])
      have g7 : upd (upd H6 dx (.own o)) o (.ins (f 36) dx []) o = some (.ins (f 36) dx []) := upd_same
      generalize upd (upd H6 dx (.own o)) o (.ins (f 36) dx []) = H7 at *
      have hF7 := hF.mono (w6.trans w7)
      have k0 := q0.2.1
      have k1 := q1.2.1
      have fl7 : Flds H7 [V.ref p1, V.ref p2] [n0, n1] := ⟨rfl, by simp [hne], fun i x m hx hm => by
        match i, hx, hm with
        | 0, hx, hm =>
          obtain ⟨r, e, g⟩ := hF7.2.2.2 0 x m wordS hx hm rfl
          cases hm
          exact ⟨r, _, e, g, small_line (by omega), q0.short, by decide⟩
        | 1, hx, hm =>
          obtain ⟨r, e, g⟩ := hF7.2.2.2 1 x m numS hx hm rfl
          cases hm
          exact ⟨r, _, e, g, small_line (by omega), q1.short, by decide⟩
        | i + 2, hx, hm => simp at hx⟩
      refine ⟨o, dx, .ref l, rfl, .ref l, rfl, .inr ⟨l, _, rfl, w7 _ _ g6, .inr ⟨by simp, by simp, .inr ⟨[n0, n1], fl7, fun H8 s8 => ⟨l, _, rfl, s8 _ _ (w7 _ _ g6), s8 _ _ g7, fun pc hpc d hd => ⟨rfl, ?_⟩⟩⟩⟩⟩⟩
      have npo : pc ≠ o := fun e => by rw [e, s8 _ _ g7] at hpc; cases hpc
      have ndo : d ≠ o := fun e => by
        rw [e, upd_ne (Ne.symm npo), s8 _ _ g7] at hd; cases hd
      have s9 : Same H6 (upd (upd (upd H8 pc (.lst [V.ref p1, V.ref p2])) d (.dK [])) o (.ins (f 36) dx (shFs pc d 0))) := (((w7.trans s8).new hpc _).new hd _).set ho _
      have e1 : upd (upd (upd H8 pc (.lst [V.ref p1, V.ref p2])) d (.dK [])) o (.ins (f 36) dx (shFs pc d 0)) o = some (.ins (f 36) dx (shFs pc d 0)) := upd_same
      have e2 : upd (upd (upd H8 pc (.lst [V.ref p1, V.ref p2])) d (.dK [])) o (.ins (f 36) dx (shFs pc d 0)) d = some (.dK []) := by rw [upd_ne ndo]; exact upd_same
      have e3 : upd (upd (upd H8 pc (.lst [V.ref p1, V.ref p2])) d (.dK [])) o (.ins (f 36) dx (shFs pc d 0)) pc = some (.lst [V.ref p1, V.ref p2]) := by rw [upd_ne npo]; exact Same.upd_new hd _ _ _ upd_same
      have hd6 : H6 d = none := ((w7.trans s8).new hpc _).free hd
      rw [show ([(Str.ofString "kept_fields", V.ref pc), (Str.ofString "kept_rows", V.ref d), (Str.ofString "given", V.int 0)] : List (Str × V)) = shFs pc d 0 from rfl]
      generalize upd (upd (upd H8 pc (.lst [V.ref p1, V.ref p2])) d (.dK [])) o (.ins (f 36) dx (shFs pc d 0)) = H9 at *
      refine ⟨_, _, e1, rfl, small_line (by decide), fun p5 hp5 => ?_⟩
      have w10 := Same.upd_new hp5 (HO.lst [V.str (Str.ofString "a"), V.int 5])
      refine ⟨o, pc, d, 0, dx, [], p5, _, rfl, w10 _ _ e1, w10 _ _ e2, by decide, [V.ref p1, V.ref p2], [wordS, numS], w10 _ _ e3, (hF.mono (w6.trans (s9.trans w10))).kds, .inl upd_same, fun x hx => ?_, .inl ⟨rfl, ⟨by decide, fun j x kd hj hx hk => ?_⟩, fun H' pr s hpr => ?_⟩⟩
      · simp only [List.mem_cons, List.not_mem_nil, or_false] at hx
        rcases hx with rfl | rfl
        · exact ⟨_, Pl.of_str (small_line (by decide))⟩
        · exact ⟨_, Pl.of_int⟩
      · match j, hx, hk with
        | 0, hx, hk => cases hx; cases hk; decide
        | 1, hx, hk => cases hx; cases hk; decide
        | j + 2, hx, hk => simp at hx
      have S6 : Same H6 (upd (upd H' d (.dK (putK [] (.inl 0) (.ref pr)))) o (.ins (f 36) dx (shFs pc d (0 + 1)))) := ((s9.trans (w10.trans s)).set hd6 _).set ho _
      have w11 := w10.trans s
      have npd : pc ≠ d := ne_of e3 e2 (fun z => nomatch z)
      have nro : pr ≠ o := ne_of hpr (w11 _ _ e1) (fun z => nomatch z)
      have nrd : pr ≠ d := ne_of hpr (w11 _ _ e2) (fun z => nomatch z)
      have y1 : upd (upd H' d (.dK (putK [] (.inl 0) (.ref pr)))) o (.ins (f 36) dx (shFs pc d (0 + 1))) o = some (.ins (f 36) dx (shFs pc d 1)) := upd_same
      have y2 : upd (upd H' d (.dK (putK [] (.inl 0) (.ref pr)))) o (.ins (f 36) dx (shFs pc d (0 + 1))) d = some (.dK [(.inl 0, .ref pr)]) := by rw [upd_ne ndo]; exact upd_same
      have y3 : upd (upd H' d (.dK (putK [] (.inl 0) (.ref pr)))) o (.ins (f 36) dx (shFs pc d (0 + 1))) pc = some (.lst [V.ref p1, V.ref p2]) := by rw [upd_ne npo, upd_ne npd]; exact w11 _ _ e3
      have y4 : upd (upd H' d (.dK (putK [] (.inl 0) (.ref pr)))) o (.ins (f 36) dx (shFs pc d (0 + 1))) pr = some (.tup [V.str (Str.ofString "a"), V.int 5]) := by rw [upd_ne nro, upd_ne nrd]; exact hpr
      dsimp only
      generalize upd (upd H' d (.dK (putK [] (.inl 0) (.ref pr)))) o (.ins (f 36) dx (shFs pc d (0 + 1))) = G at *
      have sG := w6.trans S6
      have SG := s5.trans sG
      have gp := sG _ _ gn5
      have gf := sG _ _ g5
      have hFG := hF.mono sG
      clear S6 w11 w10 s9 e1 e2 e3 hpr s fl7 hF7 s8 w7 g7 w6 g6 hd hpc hl hp5
      subst hB
      walk_at "dl"
      refine for_in ?_
      walk_at "dl"
      refine ⟨by decide, by decide, ?_⟩
      rw [show Int.toNat 10 = 10 from rfl]
      generalize hD1 : (Ends.mk _ _ _ _ : Ends) = D1
      refine ForW.of (walk_range (n := 10)) (fun i σ H' => (∃ v7, σ = [some (V.ref a), some (V.int (0 + (j : Int))), some (V.int sd), some (sgn c), some (V.ref p), some (V.ref p3), some (V.ref o), v7]) ∧ Same G H') ⟨⟨v7, rfl⟩, Same.refl _⟩ (fun _ _ _ _ _ => trivial) ?_ ?_
      · rintro i x σ G1 hx ⟨⟨v7, rfl⟩, t1⟩
        obtain ⟨hi, rfl⟩ := range_item hx
        subst hD1
        walk_at "dl"
        refine ⟨_, .inl (.of (t1 _ _ gf)), fun lf hlf => ?_⟩
        have t2 := t1.new hlf (HO.lst [V.ref p1, V.ref p2])
        have gl : upd G1 lf (HO.lst [V.ref p1, V.ref p2]) lf = some (HO.lst [V.ref p1, V.ref p2]) := upd_same
        generalize upd G1 lf (HO.lst [V.ref p1, V.ref p2]) = G2 at *
        have pos : (0 : Int) < 10 ^ Int.toNat 9 := by decide
        have nn := Int.emod_nonneg sd (show (10 : Int) ^ Int.toNat 9 ≠ 0 by decide)
        refine ⟨⟨by decide, by decide, by decide⟩, pos, i, o, lf, p, pc, d, dx, 1, 1 + sd % 10 ^ Int.toNat 9, [V.ref p1, V.ref p2], [(.inl 0, .ref pr)], n0, n1, by rw [Int.zero_add], hi, ⟨t2 _ _ y1, t2 _ _ y2, t2 _ _ y3, gl, hFG.mono t2, t2 _ _ gp, by simp, ?_, q0, q1, hnx⟩, fun H'' t3 => ⟨_, rfl, ?_⟩⟩
        · have ne : ¬ ((0 : Int) = 1 + sd % 10 ^ Int.toNat 9) := by omega
          simp [valV]
          omega
        · rw [if_neg (by decide)]
          exact ⟨⟨_, rfl⟩, t2.trans t3⟩
      · rintro σ G1 ⟨⟨v7, rfl⟩, t1⟩
        subst hD1
        walk_at "dl"
        refine ⟨_, _, t1 _ _ y1, rfl, o, pc, d, 1, dx, [(.inl 0, .ref pr)], f 36, [0], rfl, t1 _ _ y1, T.o_Sheet.cls, T.na_Sheet_kept_rows, t1 _ _ y2, rfl, by simp, fun pl ms hpl pm pw => ?_⟩
        obtain rfl : ms = [0] := List.perm_singleton.mp pm
        refine ⟨small_line (by decide), fun pq hpq => ?_⟩
        have t2 := (t1.new hpl (HO.lst ([(0 : Int)].map V.int))).new hpq (HO.lst [V.int 0])
        refine eqLs_of (Same.upd_new hpq _ _ _ upd_same) upd_same (fun v hv => ?_) ⟨_, rfl, ?_⟩
        · obtain rfl := List.mem_singleton.mp hv
          exact .inr (.inl ⟨_, rfl⟩)
        rw [if_neg (by decide)]
        generalize upd (upd G1 pl (HO.lst ([(0 : Int)].map V.int))) pq (HO.lst [V.int 0]) = G3 at *
        refine ⟨_, _, t2 _ _ y1, rfl, o, pc, d, 1, dx, _, 0, rfl, t2 _ _ y1, t2 _ _ y2, .inl ⟨.ref pr, rfl, small_line (by decide), fun pt hpt => ?_⟩⟩
        have t3 := t2.new hpt (HO.tup [V.str (Str.ofString "a"), V.int 5])
        refine eqT_of (t3 _ _ y4) upd_same (fun v hv => ?_) ⟨_, rfl, ?_⟩
        · simp only [List.mem_cons, List.not_mem_nil, or_false] at hv
          rcases hv with rfl | rfl
          · exact .inr (.inr ⟨_, rfl, by decide, by decide⟩)
          · exact .inr (.inl ⟨_, rfl⟩)
        rw [if_neg (by decide)]
        exact ⟨⟨_, rfl⟩, SG.trans t3⟩
    · rintro σ H1 ⟨⟨v1, v2, v3, v4, v5, v6, v7, rfl⟩, s1⟩
      walk_at "dl"
      exact k _
end
theorem walk {l : PySem.W.OpenLaw} {q : Program} {loose : List Str} {XP : (Str → Option Value) → Heap → Prop} {YP : World → Heap → Prop} {d : DefRec} {K : Params → PySem.W.Frag} (hn : l.most = some 63) (hdf : d.params.defaults = [])
    (hY : ∀ (w : World) (h : Heap), YP w h → (K w.params).In h)
    (F : ∀ (w : World) (mg : Str → Option Value) (fa : Addr) (h : Heap), (K w.params).In h → h.Ns mainGlobals mg → mg d.name = some (.ref fa) →
      ∃ fd : FuncData, (∀ (s : Shared) (u : Value), BindsTo s fd ⟨[u], []⟩ [("_law_script", u)]) ∧ ∀ base : Heap, (K w.params).In base → base.Ns mainGlobals mg → FnOk l.prog w (K w.params) mg base CX0 11 fa fd ["_law_script"] (sp_law (K w.params))) :
    PySem.W.WalkO q loose XP YP l.row.toRowW d [] (fun f vs => PySem.call f vs) :=
  L2.walk_of (n := 63) (k := 11) (x := "_law_script") (CX := fun _ => CX0) (sp := fun w => sp_law (K w.params)) hn (by decide) hdf ⟨rfl, by decide, by decide⟩ hY F (fun _ _ a ns hl _ hS => ⟨a, ns, rfl, hS, hl, fun _ => rfl⟩) fun _ _ _ _ _ z => z
theorem all_mk {l : PySem.W.OpenLaw} {w : World} {K : PySem.W.Frag} {h : Heap} {mg : Str → Option Value} {fa : Addr} (X : K.In h) (G : h.Ns mainGlobals mg) (hfa : mg "law" = some (.ref fa)) (T : ∃ f fd, Txt w K mg f fd ∧ f 68 = f 68 ∧ ∃ kV dc pm an cd ct, fd 68 = PySem.W.fnOf "law" "law" (defArgs s_law) (defBody s_law) (defScope s_law) .none kV dc pm an cd ct) :
    ∃ fd : FuncData, (∀ (s : Shared) (v : Value), BindsTo s fd ⟨[v], []⟩ [("_law_script", v)]) ∧ ∀ base : Heap, K.In base → base.Ns mainGlobals mg → FnOk l.prog w K mg base CX0 11 fa fd ["_law_script"] (sp_law K) := by
  obtain ⟨f, fd, T, _, kV, dc, pm, an, cd, ct, e⟩ := T
  have e2 := hfa.symm.trans T.d_law.m
  cases e2
  exact ⟨fd 68, fun s v => by rw [e]; exact .of_eq rfl, fun base _ _ => ok_law T⟩
end NS
namespace PySem.W.Fast
noncomputable def tw9863789235107610656 : Nat := 0
noncomputable def tw10606673556990762112 : Nat := 0
noncomputable def tw15962360139183471744 : Nat := 0
noncomputable def tw535347390915891328 : Nat := 0
noncomputable def tw10392206187896521920 : Nat := 0
noncomputable def tw13114394170471171296 : Nat := 0
noncomputable def tw5878423390452976896 : Nat := 0
noncomputable def tw4775230284686422336 : Nat := 0
noncomputable def tw15590097045527801184 : Nat := 0
noncomputable def tw6885898741349634400 : Nat := 0
noncomputable def tw17568117932686266784 : Nat := 0
noncomputable def tw8759819408895542816 : Nat := 0
noncomputable def tw11885296639447238208 : Nat := 0
noncomputable def tw11735189508620664384 : Nat := 0
noncomputable def tw2954048894414971584 : Nat := 0
noncomputable def tw13274864598395342528 : Nat := 0
noncomputable def tw17555434252555898560 : Nat := 0
noncomputable def tw5326155840252060480 : Nat := 0
noncomputable def tw14455760855219241792 : Nat := 0
noncomputable def tw323696038085905248 : Nat := 0
noncomputable def tw7138049429558602656 : Nat := 0
noncomputable def tw17086734539330741152 : Nat := 0
noncomputable def tw9629595498276643744 : Nat := 0
noncomputable def tw12581589705700227008 : Nat := 0
noncomputable def tw7877057109073600480 : Nat := 0
noncomputable def tw1383863822976215008 : Nat := 0
noncomputable def tw4302014496882388033 : Nat := 0
noncomputable def tw13799014583540929857 : Nat := 0
noncomputable def tw6481806706715042145 : Nat := 0
noncomputable def tw14624024229595060673 : Nat := 0
noncomputable def tw6337066892026328545 : Nat := 0
noncomputable def tw642298707635495521 : Nat := 0
noncomputable def tw2123209653213742753 : Nat := 0
noncomputable def tw12752208582791910145 : Nat := 0
noncomputable def tw9038925008892823361 : Nat := 0
noncomputable def tw3231653231851151169 : Nat := 0
noncomputable def tw7999730566890602305 : Nat := 0
noncomputable def tw17255091560409590593 : Nat := 0
noncomputable def tw11422138831096981409 : Nat := 0
noncomputable def tw5267801291341286337 : Nat := 0
noncomputable def tw16747974039111560258 : Nat := 0
noncomputable def tw11824066832726876226 : Nat := 0
noncomputable def tw5844714603002666146 : Nat := 0
noncomputable def tw14593104142498136258 : Nat := 0
noncomputable def tw1807501898351887554 : Nat := 0
noncomputable def tw6809058483102285058 : Nat := 0
noncomputable def tw8785279200045866306 : Nat := 0
noncomputable def tw1136063353406784866 : Nat := 0
noncomputable def tw3990405834282084834 : Nat := 0
noncomputable def tw16899807714893495842 : Nat := 0
noncomputable def tw5222369717803174498 : Nat := 0
noncomputable def tw18109753024528563842 : Nat := 0
noncomputable def tw7504380838405444226 : Nat := 0
noncomputable def tw9865645825020396226 : Nat := 0
noncomputable def tw16381856382654218018 : Nat := 0
noncomputable def tw9673539614392279938 : Nat := 0
noncomputable def tw8424994414060779426 : Nat := 0
noncomputable def tw12674944497854370754 : Nat := 0
noncomputable def tw8616348551415811171 : Nat := 0
noncomputable def tw16563841829703869635 : Nat := 0
noncomputable def tw13701249747418382563 : Nat := 0
noncomputable def tw14079120939861971235 : Nat := 0
noncomputable def tw6153956134730247491 : Nat := 0
noncomputable def tw312396276270523747 : Nat := 0
noncomputable def tw12348623889092465027 : Nat := 0
noncomputable def tw2166112107557982755 : Nat := 0
noncomputable def tw8679465800645932643 : Nat := 0
noncomputable def tw9022086946663544451 : Nat := 0
noncomputable def tw2573332309151113923 : Nat := 0
noncomputable def tw3251451996633221987 : Nat := 0
noncomputable def tw11998267476012781443 : Nat := 0
noncomputable def tw14829987451007829923 : Nat := 0
noncomputable def tw2760631205301016868 : Nat := 0
noncomputable def tw2625954310385130980 : Nat := 0
noncomputable def tw5056759263608051204 : Nat := 0
noncomputable def tw3985716042381189732 : Nat := 0
noncomputable def tw13255104829093022692 : Nat := 0
noncomputable def tw15030940051579439076 : Nat := 0
noncomputable def tw16405756492282805285 : Nat := 0
noncomputable def tw18192257788468691013 : Nat := 0
noncomputable def tw14745895180015895621 : Nat := 0
noncomputable def tw4730187645432942661 : Nat := 0
noncomputable def tw2452831369655354533 : Nat := 0
noncomputable def tw3051335291233266853 : Nat := 0
noncomputable def tw2760716717773224101 : Nat := 0
noncomputable def tw5266575543351643333 : Nat := 0
noncomputable def tw10072612649389605157 : Nat := 0
noncomputable def tw13174934816717992389 : Nat := 0
noncomputable def tw12657734711033757509 : Nat := 0
noncomputable def tw13425498346101936005 : Nat := 0
noncomputable def tw16412650667199991685 : Nat := 0
noncomputable def tw4248643581422415813 : Nat := 0
noncomputable def tw6864752397329538021 : Nat := 0
noncomputable def tw2839490568197920741 : Nat := 0
noncomputable def tw16043919240261558374 : Nat := 0
noncomputable def tw4680323227637050758 : Nat := 0
noncomputable def tw732388850077728294 : Nat := 0
noncomputable def tw4934034670439686726 : Nat := 0
noncomputable def tw8693241334476151430 : Nat := 0
noncomputable def tw12909813027821905606 : Nat := 0
noncomputable def tw17832597549370323750 : Nat := 0
noncomputable def tw8718212069901892422 : Nat := 0
noncomputable def tw6869705306233174950 : Nat := 0
noncomputable def tw308731667761043591 : Nat := 0
noncomputable def tw5941417183909060743 : Nat := 0
noncomputable def tw14490231647790832839 : Nat := 0
noncomputable def tw9371074378067881223 : Nat := 0
noncomputable def tw6759727066253265223 : Nat := 0
noncomputable def tw10478523753083823463 : Nat := 0
noncomputable def tw13042746905974846887 : Nat := 0
noncomputable def tw16290751449439376871 : Nat := 0
noncomputable def tw7357784650111839751 : Nat := 0
noncomputable def tw16034366322458343015 : Nat := 0
noncomputable def tw11356273382983902855 : Nat := 0
noncomputable def tw8955542217183137415 : Nat := 0
noncomputable def tw8059673475974918919 : Nat := 0
noncomputable def tw10277237309484245863 : Nat := 0
noncomputable def tw12759706997551198055 : Nat := 0
noncomputable def tw12876855271649160360 : Nat := 0
noncomputable def tw1238514500089656616 : Nat := 0
noncomputable def tw13237360969799692616 : Nat := 0
noncomputable def tw18407869440620874344 : Nat := 0
noncomputable def tw17022057616137883240 : Nat := 0
noncomputable def tw894891061523108488 : Nat := 0
noncomputable def tw800353134262901512 : Nat := 0
noncomputable def tw11290298810320542504 : Nat := 0
noncomputable def tw16700866837526190952 : Nat := 0
noncomputable def tw3617554804505868168 : Nat := 0
noncomputable def tw14502654467520627592 : Nat := 0
noncomputable def tw13097973177869372392 : Nat := 0
noncomputable def tw9494710993697375241 : Nat := 0
noncomputable def tw16118003558522414089 : Nat := 0
noncomputable def tw4573936438719617289 : Nat := 0
noncomputable def tw16939559298912704777 : Nat := 0
noncomputable def tw9897414745934733673 : Nat := 0
noncomputable def tw806502841146815913 : Nat := 0
noncomputable def tw6633866814895610537 : Nat := 0
noncomputable def tw11632827088845352713 : Nat := 0
noncomputable def tw13743087089581291337 : Nat := 0
noncomputable def tw2965123441090622377 : Nat := 0
noncomputable def tw17414330862087518185 : Nat := 0
noncomputable def tw15506676680475284490 : Nat := 0
noncomputable def tw12601850208161688586 : Nat := 0
noncomputable def tw15493142940113226954 : Nat := 0
noncomputable def tw8954972395555589354 : Nat := 0
noncomputable def tw10669910529229355402 : Nat := 0
noncomputable def tw3149740277072000554 : Nat := 0
noncomputable def tw3433298244362444554 : Nat := 0
noncomputable def tw4772580456992457514 : Nat := 0
noncomputable def tw9255081804400727914 : Nat := 0
noncomputable def tw7608037463784735690 : Nat := 0
noncomputable def tw9571506718260807626 : Nat := 0
noncomputable def tw9369055227372581995 : Nat := 0
noncomputable def tw6038833567701709963 : Nat := 0
noncomputable def tw1908622027988026571 : Nat := 0
noncomputable def tw16372913332707003723 : Nat := 0
noncomputable def tw17780889922799024459 : Nat := 0
noncomputable def tw710643183522656619 : Nat := 0
noncomputable def tw5726595857380362699 : Nat := 0
noncomputable def tw11444066625523169771 : Nat := 0
noncomputable def tw3815782247076081131 : Nat := 0
noncomputable def tw15267960033397740075 : Nat := 0
noncomputable def tw4123165824380067371 : Nat := 0
noncomputable def tw1240720161507054283 : Nat := 0
noncomputable def tw16861728387898899179 : Nat := 0
noncomputable def tw12338842521467784971 : Nat := 0
noncomputable def tw14676986308670922507 : Nat := 0
noncomputable def tw5833822954499823371 : Nat := 0
noncomputable def tw2224950972987206443 : Nat := 0
noncomputable def tw3754875818421597163 : Nat := 0
noncomputable def tw16517982529903445068 : Nat := 0
noncomputable def tw13624622562137879692 : Nat := 0
noncomputable def tw8394154181446527116 : Nat := 0
noncomputable def tw5096760313361241420 : Nat := 0
noncomputable def tw12456942904204038604 : Nat := 0
noncomputable def tw4308542160484395468 : Nat := 0
noncomputable def tw16470897898413057516 : Nat := 0
noncomputable def tw10858878948569783020 : Nat := 0
noncomputable def tw11163831722724302604 : Nat := 0
noncomputable def tw1770398579951517452 : Nat := 0
noncomputable def tw13906547441110985741 : Nat := 0
noncomputable def tw14720955761224069197 : Nat := 0
noncomputable def tw11292021036390140045 : Nat := 0
noncomputable def tw8912093073549473069 : Nat := 0
noncomputable def tw1854155545282867533 : Nat := 0
noncomputable def tw586851256249140589 : Nat := 0
noncomputable def tw7396308696888813069 : Nat := 0
noncomputable def tw10893726395767473741 : Nat := 0
noncomputable def tw5408313823371447117 : Nat := 0
noncomputable def tw8813586846556572653 : Nat := 0
noncomputable def tw5665858376711471118 : Nat := 0
noncomputable def tw3295065221326485710 : Nat := 0
noncomputable def tw14099825598586669294 : Nat := 0
noncomputable def tw16037057429923257582 : Nat := 0
noncomputable def tw1253347092367133998 : Nat := 0
noncomputable def tw9207114373694630222 : Nat := 0
noncomputable def tw3413283712609643854 : Nat := 0
noncomputable def tw4019979908603356494 : Nat := 0
noncomputable def tw6002094169051626894 : Nat := 0
noncomputable def tw18382609989214519726 : Nat := 0
noncomputable def tw3763218529864148430 : Nat := 0
noncomputable def tw17763951205621091790 : Nat := 0
noncomputable def tw15149318826162185742 : Nat := 0
noncomputable def tw11442917054366122606 : Nat := 0
noncomputable def tw9196973774246172302 : Nat := 0
noncomputable def tw13766391330571494158 : Nat := 0
noncomputable def tw10808779553303637902 : Nat := 0
noncomputable def tw15036572797144479694 : Nat := 0
noncomputable def tw8680849812171999182 : Nat := 0
noncomputable def tw2939819986441977838 : Nat := 0
noncomputable def tw16250378558695877711 : Nat := 0
noncomputable def tw10434334543025374319 : Nat := 0
noncomputable def tw5691432585005274223 : Nat := 0
noncomputable def tw11149317517363456111 : Nat := 0
noncomputable def tw12605299079903660335 : Nat := 0
noncomputable def tw4237804192931843439 : Nat := 0
noncomputable def tw2191471920558240143 : Nat := 0
noncomputable def tw17530041107823621647 : Nat := 0
noncomputable def tw7807267697948195375 : Nat := 0
noncomputable def tw17769636916930990639 : Nat := 0
noncomputable def tw16817011166622043727 : Nat := 0
noncomputable def tw16718160877923015311 : Nat := 0
noncomputable def tw9633374078081472239 : Nat := 0
noncomputable def tw15697438531121273615 : Nat := 0
noncomputable def tw17161612967237687247 : Nat := 0
noncomputable def tw17287984124861771727 : Nat := 0
noncomputable def tw17581923498502070480 : Nat := 0
noncomputable def tw3663616606200208688 : Nat := 0
noncomputable def tw6815885335981062448 : Nat := 0
noncomputable def tw4115266515659906448 : Nat := 0
noncomputable def tw5071318904468037072 : Nat := 0
noncomputable def tw5892053851901114928 : Nat := 0
noncomputable def tw968337889410038416 : Nat := 0
noncomputable def tw14443954052615515856 : Nat := 0
noncomputable def tw4035011142996881200 : Nat := 0
noncomputable def tw8367469995229543376 : Nat := 0
noncomputable def tw11770469381751699569 : Nat := 0
noncomputable def tw14050773792124629169 : Nat := 0
noncomputable def tw4146905518180568369 : Nat := 0
noncomputable def tw4729023901715139921 : Nat := 0
noncomputable def tw16166405156936620497 : Nat := 0
noncomputable def tw7736320323099054609 : Nat := 0
noncomputable def tw8986190013116578449 : Nat := 0
noncomputable def tw16281952055673756369 : Nat := 0
noncomputable def tw15302115152266936049 : Nat := 0
noncomputable def tw9920863169046018961 : Nat := 0
noncomputable def tw3297404436868801554 : Nat := 0
noncomputable def tw10386482930285011090 : Nat := 0
noncomputable def tw3110104261510997202 : Nat := 0
noncomputable def tw3125993758904521106 : Nat := 0
noncomputable def tw14204822531963179506 : Nat := 0
noncomputable def tw15142898508179447442 : Nat := 0
noncomputable def tw10704419751657593586 : Nat := 0
noncomputable def tw8764306709661889298 : Nat := 0
noncomputable def tw842530684938764050 : Nat := 0
noncomputable def tw15797434616541233171 : Nat := 0
noncomputable def tw5156523587314628659 : Nat := 0
noncomputable def tw10693783143633955987 : Nat := 0
noncomputable def tw11943240686086176979 : Nat := 0
noncomputable def tw3158577859720720819 : Nat := 0
noncomputable def tw10132188704429413843 : Nat := 0
noncomputable def tw12102426628087436819 : Nat := 0
noncomputable def tw8770226933241281075 : Nat := 0
noncomputable def tw120847958211983987 : Nat := 0
noncomputable def tw3201252853232833203 : Nat := 0
noncomputable def tw2318821575070925555 : Nat := 0
noncomputable def tw4400659068916949811 : Nat := 0
noncomputable def tw17366051361791972179 : Nat := 0
noncomputable def tw9966447071144781683 : Nat := 0
noncomputable def tw8204522607391415348 : Nat := 0
noncomputable def tw3255044354798213204 : Nat := 0
noncomputable def tw7096812061672257620 : Nat := 0
noncomputable def tw17766149840161887380 : Nat := 0
noncomputable def tw11728641001721047252 : Nat := 0
noncomputable def tw11456377999545554132 : Nat := 0
noncomputable def tw5145502471442888916 : Nat := 0
noncomputable def tw13613949990755668244 : Nat := 0
noncomputable def tw10126990647163977044 : Nat := 0
noncomputable def tw392172861555251604 : Nat := 0
noncomputable def tw18029116722634350996 : Nat := 0
noncomputable def tw191124296526749140 : Nat := 0
noncomputable def tw12616241530734172660 : Nat := 0
noncomputable def tw13771345704255230516 : Nat := 0
noncomputable def tw9211962335850308180 : Nat := 0
noncomputable def tw10623684344109427284 : Nat := 0
noncomputable def tw8419463292196334356 : Nat := 0
noncomputable def tw15710281980637110132 : Nat := 0
noncomputable def tw312846733819196404 : Nat := 0
noncomputable def tw3846884137267913813 : Nat := 0
noncomputable def tw12367318688578394197 : Nat := 0
noncomputable def tw5159808041866361973 : Nat := 0
noncomputable def tw4804134299819326645 : Nat := 0
noncomputable def tw16912713779384276149 : Nat := 0
noncomputable def tw8525705413386448181 : Nat := 0
noncomputable def tw16271385607894884693 : Nat := 0
noncomputable def tw6989688756944228725 : Nat := 0
noncomputable def tw4642184008003680661 : Nat := 0
noncomputable def tw9780103401288563125 : Nat := 0
noncomputable def tw8626189856797328853 : Nat := 0
noncomputable def tw7462053982253589973 : Nat := 0
noncomputable def tw4295910288102791701 : Nat := 0
noncomputable def tw4392426433943078517 : Nat := 0
noncomputable def tw5296404528129582741 : Nat := 0
noncomputable def tw523736057472717493 : Nat := 0
noncomputable def tw2460877379626994421 : Nat := 0
noncomputable def tw3050158953346849525 : Nat := 0
noncomputable def tw16122435978477796085 : Nat := 0
noncomputable def tw9920229252418988821 : Nat := 0
noncomputable def tw5942739630218778421 : Nat := 0
noncomputable def tw6743587074519608117 : Nat := 0
noncomputable def tw7773284572336627541 : Nat := 0
noncomputable def tw15415584417148507093 : Nat := 0
noncomputable def tw16903250911943480374 : Nat := 0
noncomputable def tw8310775560563215414 : Nat := 0
noncomputable def tw1039687338245463158 : Nat := 0
noncomputable def tw7964775163893370070 : Nat := 0
noncomputable def tw1752520455689397526 : Nat := 0
noncomputable def tw14253720953402071382 : Nat := 0
noncomputable def tw15119790063048708438 : Nat := 0
noncomputable def tw1209616639819355542 : Nat := 0
noncomputable def tw15359131444962727478 : Nat := 0
noncomputable def tw1199020777628286518 : Nat := 0
noncomputable def tw3766666636986187382 : Nat := 0
noncomputable def tw17720719036120296054 : Nat := 0
noncomputable def tw13668031960625281814 : Nat := 0
noncomputable def tw9415772235535090646 : Nat := 0
noncomputable def tw1051674456511233047 : Nat := 0
noncomputable def tw3224197693311121559 : Nat := 0
noncomputable def tw9576715151079372983 : Nat := 0
noncomputable def tw15810523911554615511 : Nat := 0
noncomputable def tw11935975707422230999 : Nat := 0
noncomputable def tw11991910505559508631 : Nat := 0
noncomputable def tw12475079237558139543 : Nat := 0
noncomputable def tw14833319432636325591 : Nat := 0
noncomputable def tw7592846035790254807 : Nat := 0
noncomputable def tw2633247453397947159 : Nat := 0
noncomputable def tw2726623985701908279 : Nat := 0
noncomputable def tw4554482048722527127 : Nat := 0
noncomputable def tw15501032046920057783 : Nat := 0
noncomputable def tw15595125521251962936 : Nat := 0
noncomputable def tw2075410332977041560 : Nat := 0
noncomputable def tw17480634265692970168 : Nat := 0
noncomputable def tw5302863432440933592 : Nat := 0
noncomputable def tw4636004929197441304 : Nat := 0
noncomputable def tw13154765498770368792 : Nat := 0
noncomputable def tw11948866634798809368 : Nat := 0
noncomputable def tw5478691372451978808 : Nat := 0
noncomputable def tw8394046585129511512 : Nat := 0
noncomputable def tw15751115090345210520 : Nat := 0
noncomputable def tw3378229317326757560 : Nat := 0
noncomputable def tw11139650911146036952 : Nat := 0
noncomputable def tw10969655992717695736 : Nat := 0
noncomputable def tw11671539130781382424 : Nat := 0
noncomputable def tw2944432675302219576 : Nat := 0
noncomputable def tw10901932920211302200 : Nat := 0
noncomputable def tw15454665677884534648 : Nat := 0
noncomputable def tw13543246147652168664 : Nat := 0
noncomputable def tw6868603604496290808 : Nat := 0
noncomputable def tw2298754768301452345 : Nat := 0
noncomputable def tw18396713118383194201 : Nat := 0
noncomputable def tw15116751179696765081 : Nat := 0
noncomputable def tw12824623527268615513 : Nat := 0
noncomputable def tw15297710785466665465 : Nat := 0
noncomputable def tw1778028761217395225 : Nat := 0
noncomputable def tw10142972707724544633 : Nat := 0
noncomputable def tw15383046724261368505 : Nat := 0
noncomputable def tw13265106313590835897 : Nat := 0
noncomputable def tw11485721699296230105 : Nat := 0
noncomputable def tw12633851790126877529 : Nat := 0
noncomputable def tw18035523246597337977 : Nat := 0
noncomputable def tw15837553991580502905 : Nat := 0
noncomputable def tw14426831735817826265 : Nat := 0
noncomputable def tw8967181098430120058 : Nat := 0
noncomputable def tw5760603190343176410 : Nat := 0
noncomputable def tw14339433777837704442 : Nat := 0
noncomputable def tw17923801081978549498 : Nat := 0
noncomputable def tw1988363915344132442 : Nat := 0
noncomputable def tw3495256963696692666 : Nat := 0
noncomputable def tw7396243203359555034 : Nat := 0
noncomputable def tw11649960109786096154 : Nat := 0
noncomputable def tw14820647715295663866 : Nat := 0
noncomputable def tw1105544288291180378 : Nat := 0
noncomputable def tw14900895805114668315 : Nat := 0
noncomputable def tw9183500548198889755 : Nat := 0
noncomputable def tw10641279828109026875 : Nat := 0
noncomputable def tw15168885766426021467 : Nat := 0
noncomputable def tw1854658480380408443 : Nat := 0
noncomputable def tw1337536878418123675 : Nat := 0
noncomputable def tw13453139280029112315 : Nat := 0
noncomputable def tw9644203594274043964 : Nat := 0
noncomputable def tw2521706896160111708 : Nat := 0
noncomputable def tw5331245401078440124 : Nat := 0
noncomputable def tw14215638722884135164 : Nat := 0
noncomputable def tw17274021064880409916 : Nat := 0
noncomputable def tw8901564944053013820 : Nat := 0
noncomputable def tw7430313603086631324 : Nat := 0
noncomputable def tw14080785077195433404 : Nat := 0
noncomputable def tw11116729245925720668 : Nat := 0
noncomputable def tw14283843767555659388 : Nat := 0
noncomputable def tw473738464394924093 : Nat := 0
noncomputable def tw12750023003764497565 : Nat := 0
noncomputable def tw9580316413225594077 : Nat := 0
noncomputable def tw17624840916091160861 : Nat := 0
noncomputable def tw964098555371515229 : Nat := 0
noncomputable def tw3415529549586786717 : Nat := 0
noncomputable def tw1988035896919846333 : Nat := 0
noncomputable def tw6381032840063027741 : Nat := 0
noncomputable def tw15787727373172707997 : Nat := 0
noncomputable def tw3296754713222732477 : Nat := 0
noncomputable def tw11077631279980730045 : Nat := 0
noncomputable def tw3725013398715801309 : Nat := 0
noncomputable def tw3922128077178197725 : Nat := 0
noncomputable def tw8078782183194331933 : Nat := 0
noncomputable def tw6316276649660997469 : Nat := 0
noncomputable def tw11899889160869694526 : Nat := 0
noncomputable def tw10601485745622502462 : Nat := 0
noncomputable def tw11714636689761831102 : Nat := 0
noncomputable def tw13167945781269368062 : Nat := 0
noncomputable def tw2232713776191643902 : Nat := 0
noncomputable def tw17471128599979841854 : Nat := 0
noncomputable def tw17726777383087004990 : Nat := 0
noncomputable def tw9219330026527348126 : Nat := 0
noncomputable def tw7296009622204681694 : Nat := 0
noncomputable def tw2063114003661639390 : Nat := 0
noncomputable def tw8932380505907332894 : Nat := 0
noncomputable def tw14676976439573636926 : Nat := 0
noncomputable def tw5193509354193049470 : Nat := 0
noncomputable def tw192666519887135646 : Nat := 0
noncomputable def tw16781408892920917023 : Nat := 0
noncomputable def tw13226430907844634655 : Nat := 0
noncomputable def tw5832265903066546239 : Nat := 0
noncomputable def tw4019114940325545215 : Nat := 0
noncomputable def tw11942884266375649567 : Nat := 0
noncomputable def tw16264664778820340031 : Nat := 0
noncomputable def tw17548752838647153183 : Nat := 0
noncomputable def tw17364389907860895263 : Nat := 0
noncomputable def tw6349895347664848575 : Nat := 0
end PySem.W.Fast
open PySem PySem.W PyProof.Rows
set_option maxRecDepth 100000 in
set_option maxHeartbeats 0 in
theorem PySem.Challenge.cw_crosshall_k19_refusals_apart_holds : PySem.Challenge.rw_crosshall_k19_refusals_apart.Holds := by
  w_on; o_law; k_head; (case hw => w_witness2)
  k_fill
  refine NS.walk (l := PySem.Challenge.rw_crosshall_k19_refusals_apart) rfl rfl (fun w h Y => by first | exact PySem.W.kIn_of Y | exact PySem.W.km_in_of Y) ?F
  case F =>
    intro w mg fa h KX G hmg
    refine NS.all_mk KX G hmg ?_
    suffices TT : ∃ f fd, NS.Txt w (L2.KOf KX) mg f fd ∧ f 68 = f 68 ∧ ∃ kV dc pm an cd ct, fd 68 = PySem.W.fnOf "law" "law" (L2.defArgs NS.s_law) (L2.defBody NS.s_law) (L2.defScope NS.s_law) .none kV dc pm an cd ct from TT
    dsimp only [L2.KOf]
    obtain ⟨f, fd, T, _, z⟩ : ∃ f fd, NS.Txt w _ mg f fd ∧ f 68 = _ ∧ ∃ kV dc pm an cd ct, fd 68 = PySem.W.fnOf "law" "law" (L2.defArgs NS.s_law) (L2.defBody NS.s_law) (L2.defScope NS.s_law) .none kV dc pm an cd ct := by
      refine' NS.txt_mk KX G ?a2 ?a3 ?a4 ?a5 ?a6 ?a7 ?a8 ?a9 ?a10 ?a11 ?a12 ?a13 ?a14 ?a15 ?a36 ?a47 ?a21 ?l21 ?c21 ?k21 ?a22 ?l22 ?c22 ?k22 ?a23 ?l23 ?c23 ?k23 ?a24 ?l24 ?c24 ?k24 ?a25 ?l25 ?c25 ?k25 ?a26 ?l26 ?c26 ?k26 ?a32 ?l32 ?c32 ?k32 ?a33 ?l33 ?c33 ?k33 ?a34 ?l34 ?c34 ?k34 ?a35 ?l35 ?c35 ?k35 ?a38 ?l38 ?c38 ?k38 ?a39 ?l39 ?c39 ?k39 ?a40 ?l40 ?c40 ?k40 ?a50 ?l50 ?c50 ?k50 ?a53 ?l53 ?c53 ?k53 ?a54 ?l54 ?c54 ?k54 ?a58 ?l58 ?c58 ?k58 ?a59 ?l59 ?c59 ?k59 ?a60 ?l60 ?c60 ?k60 ?a61 ?l61 ?c61 ?k61 ?a62 ?l62 ?c62 ?k62 ?a64 ?l64 ?c64 ?k64 ?a65 ?l65 ?c65 ?k65 ?a66 ?l66 ?c66 ?k66 ?a67 ?l67 ?c67 ?k67 ?a68 ?l68 ?c68 ?k68 ?a12000 ?l12000 ?c12000 ?k12000 ?b12000 ?a13000 ?l13000 ?c13000 ?k13000 ?b13000 ?a14000 ?l14000 ?c14000 ?k14000 ?b14000 ?a15000 ?l15000 ?c15000 ?k15000 ?b15000 ?a37000 ?l37000 ?c37000 ?k37000 ?b37000 ?a37002 ?l37002 ?c37002 ?k37002 ?b37002 ?a37005 ?l37005 ?c37005 ?k37005 ?b37005 ?a37006 ?l37006 ?c37006 ?k37006 ?b37006 ?a48000 ?l48000 ?c48000 ?k48000 ?b48000 ?a48001 ?l48001 ?c48001 ?k48001 ?b48001 ?a48002 ?l48002 ?c48002 ?k48002 ?b48002 ?a48003 ?l48003 ?c48003 ?k48003 ?b48003 ?a48005 ?l48005 ?c48005 ?k48005 ?b48005 ?x_CrossError_e ?x_CrossError_kp ?x_CrossError_ga ?x_CrossError_gh ?x_CrossError_ba ?x_CrossError_ob ?x_CrossError_hd ?x_CrossError_cl ?x_CrossError_cg ?x_CrossError_ct ?x_CrossError_sa ?x_NoFields_e ?x_NoFields_kp ?x_NoFields_ga ?x_NoFields_gh ?x_NoFields_ba ?x_NoFields_ob ?x_NoFields_hd ?x_NoFields_cl ?x_NoFields_cg ?x_NoFields_ct ?x_NoFields_sa ?x_NoSieve_e ?x_NoSieve_kp ?x_NoSieve_ga ?x_NoSieve_gh ?x_NoSieve_ba ?x_NoSieve_ob ?x_NoSieve_hd ?x_NoSieve_cl ?x_NoSieve_cg ?x_NoSieve_ct ?x_NoSieve_sa ?x_NoView_e ?x_NoView_kp ?x_NoView_ga ?x_NoView_gh ?x_NoView_ba ?x_NoView_ob ?x_NoView_hd ?x_NoView_cl ?x_NoView_cg ?x_NoView_ct ?x_NoView_sa ?x_NoHead_e ?x_NoHead_kp ?x_NoHead_ga ?x_NoHead_gh ?x_NoHead_ba ?x_NoHead_ob ?x_NoHead_hd ?x_NoHead_cl ?x_NoHead_cg ?x_NoHead_ct ?x_NoHead_sa ?x_NoRow_e ?x_NoRow_kp ?x_NoRow_ga ?x_NoRow_gh ?x_NoRow_ba ?x_NoRow_ob ?x_NoRow_hd ?x_NoRow_cl ?x_NoRow_cg ?x_NoRow_ct ?x_NoRow_sa ?x_NoSuch_e ?x_NoSuch_kp ?x_NoSuch_ga ?x_NoSuch_gh ?x_NoSuch_ba ?x_NoSuch_ob ?x_NoSuch_hd ?x_NoSuch_cl ?x_NoSuch_cg ?x_NoSuch_ct ?x_NoSuch_sa ?x_NoField_e ?x_NoField_kp ?x_NoField_ga ?x_NoField_gh ?x_NoField_ba ?x_NoField_ob ?x_NoField_hd ?x_NoField_cl ?x_NoField_cg ?x_NoField_ct ?x_NoField_sa ?x_NoKind_e ?x_NoKind_kp ?x_NoKind_ga ?x_NoKind_gh ?x_NoKind_ba ?x_NoKind_ob ?x_NoKind_hd ?x_NoKind_cl ?x_NoKind_cg ?x_NoKind_ct ?x_NoKind_sa ?o_Sheet_pg ?o_Sheet_hd ?o_Sheet_po ?o_Sheet_sa ?o_Sheet_ma ?o_Sheet_kp ?o_Reading_pg ?o_Reading_hd ?o_Reading_po ?o_Reading_sa ?o_Reading_ma ?o_Reading_kp ?v_na_NoRow_place ?v_na_NoSuch_number ?v_na_NoField_name ?v_na_NoKind_name ?v_na_Sheet_given ?v_na_Sheet_kept_fields ?v_na_Sheet_kept_rows ?v_na_Reading_at ?v_na_Reading_begun ?v_na_Reading_text ?v_su_NoField_CrossError ?v_ki_NoField_CrossError ?v_ki_NoField_NoFields ?v_ki_NoField_NoSieve ?v_ki_NoField_NoView ?v_ki_NoField_NoHead ?v_ki_NoField_NoNet ?v_ki_NoField_NoWhole ?v_ki_NoField_NoGroups ?v_ki_NoField_NoLine ?v_ki_NoField_NoRow ?v_ki_NoField_NoSuch ?v_ki_NoField_NoField ?v_ki_NoField_NoKind ?v_ki_NoField_NoVeil ?v_kv_NoField ?v_su_NoFields_CrossError ?v_ki_NoFields_CrossError ?v_ki_NoFields_NoFields ?v_ki_NoFields_NoSieve ?v_ki_NoFields_NoView ?v_ki_NoFields_NoHead ?v_ki_NoFields_NoNet ?v_ki_NoFields_NoWhole ?v_ki_NoFields_NoGroups ?v_ki_NoFields_NoLine ?v_ki_NoFields_NoRow ?v_ki_NoFields_NoSuch ?v_ki_NoFields_NoField ?v_ki_NoFields_NoKind ?v_ki_NoFields_NoVeil ?v_kv_NoFields ?v_su_NoHead_CrossError ?v_ki_NoHead_CrossError ?v_ki_NoHead_NoFields ?v_ki_NoHead_NoSieve ?v_ki_NoHead_NoView ?v_ki_NoHead_NoHead ?v_ki_NoHead_NoNet ?v_ki_NoHead_NoWhole ?v_ki_NoHead_NoGroups ?v_ki_NoHead_NoLine ?v_ki_NoHead_NoRow ?v_ki_NoHead_NoSuch ?v_ki_NoHead_NoField ?v_ki_NoHead_NoKind ?v_ki_NoHead_NoVeil ?v_kv_NoHead ?v_su_NoKind_CrossError ?v_ki_NoKind_CrossError ?v_ki_NoKind_NoFields ?v_ki_NoKind_NoSieve ?v_ki_NoKind_NoView ?v_ki_NoKind_NoHead ?v_ki_NoKind_NoNet ?v_ki_NoKind_NoWhole ?v_ki_NoKind_NoGroups ?v_ki_NoKind_NoLine ?v_ki_NoKind_NoRow ?v_ki_NoKind_NoSuch ?v_ki_NoKind_NoField ?v_ki_NoKind_NoKind ?v_ki_NoKind_NoVeil ?v_kv_NoKind ?v_su_NoRow_CrossError ?v_ki_NoRow_CrossError ?v_ki_NoRow_NoFields ?v_ki_NoRow_NoSieve ?v_ki_NoRow_NoView ?v_ki_NoRow_NoHead ?v_ki_NoRow_NoNet ?v_ki_NoRow_NoWhole ?v_ki_NoRow_NoGroups ?v_ki_NoRow_NoLine ?v_ki_NoRow_NoRow ?v_ki_NoRow_NoSuch ?v_ki_NoRow_NoField ?v_ki_NoRow_NoKind ?v_ki_NoRow_NoVeil ?v_kv_NoRow ?v_su_NoSieve_CrossError ?v_ki_NoSieve_CrossError ?v_ki_NoSieve_NoFields ?v_ki_NoSieve_NoSieve ?v_ki_NoSieve_NoView ?v_ki_NoSieve_NoHead ?v_ki_NoSieve_NoNet ?v_ki_NoSieve_NoWhole ?v_ki_NoSieve_NoGroups ?v_ki_NoSieve_NoLine ?v_ki_NoSieve_NoRow ?v_ki_NoSieve_NoSuch ?v_ki_NoSieve_NoField ?v_ki_NoSieve_NoKind ?v_ki_NoSieve_NoVeil ?v_kv_NoSieve ?v_su_NoSuch_CrossError ?v_ki_NoSuch_CrossError ?v_ki_NoSuch_NoFields ?v_ki_NoSuch_NoSieve ?v_ki_NoSuch_NoView ?v_ki_NoSuch_NoHead ?v_ki_NoSuch_NoNet ?v_ki_NoSuch_NoWhole ?v_ki_NoSuch_NoGroups ?v_ki_NoSuch_NoLine ?v_ki_NoSuch_NoRow ?v_ki_NoSuch_NoSuch ?v_ki_NoSuch_NoField ?v_ki_NoSuch_NoKind ?v_ki_NoSuch_NoVeil ?v_kv_NoSuch ?v_su_NoView_CrossError ?v_ki_NoView_CrossError ?v_ki_NoView_NoFields ?v_ki_NoView_NoSieve ?v_ki_NoView_NoView ?v_ki_NoView_NoHead ?v_ki_NoView_NoNet ?v_ki_NoView_NoWhole ?v_ki_NoView_NoGroups ?v_ki_NoView_NoLine ?v_ki_NoView_NoRow ?v_ki_NoView_NoSuch ?v_ki_NoView_NoField ?v_ki_NoView_NoKind ?v_ki_NoView_NoVeil ?v_kv_NoView ?z_ValueError ?z_abs ?z_all ?z_bool ?z_enumerate ?z_int ?z_isinstance ?z_len ?z_list ?z_min ?z_range ?z_set ?z_sorted ?z_str ?z_tuple ?z_zip ?y_LETTERS ?y_FIGURES ?y_MOST_SIGNS ?y_KINDS ?l30 ?y_MOST_FIELDS ?y_MOST_LEVELS ?y_MOST_SIEVES ?y_JOINTS ?l45 ?m45 ?k45 ?v45 ?y_NAMED_FORMS ?l52 ?y_MOST_NAMES ?y_MOST_FIGURES_heads
      (case a2 => k_is)
      (case a3 => k_is)
      (case a4 => k_is)
      (case a5 => k_is)
      (case a6 => k_is)
      (case a7 => k_is)
      (case a8 => k_is)
      (case a9 => k_is)
      (case a10 => k_is)
      (case a11 => k_is)
      (case a12 => k_is)
      (case a13 => k_is)
      (case a14 => k_is)
      (case a15 => k_is)
      (case a36 => k_is)
      (case a47 => k_is)
      (case a21 => k_is)
      (case l21 => k_is)
      (case c21 => k_is)
      (case k21 => k_is)
      (case a22 => k_is)
      (case l22 => k_is)
      (case c22 => k_is)
      (case k22 => k_is)
      (case a23 => k_is)
      (case l23 => k_is)
      (case c23 => k_is)
      (case k23 => k_is)
      (case a24 => k_is)
      (case l24 => k_is)
      (case c24 => k_is)
      (case k24 => k_is)
      (case a25 => k_is)
      (case l25 => k_is)
      (case c25 => k_is)
      (case k25 => k_is)
      (case a26 => k_is)
      (case l26 => k_is)
      (case c26 => k_is)
      (case k26 => k_is)
      (case a32 => k_is)
      (case l32 => k_is)
      (case c32 => k_is)
      (case k32 => k_is)
      (case a33 => k_is)
      (case l33 => k_is)
      (case c33 => k_is)
      (case k33 => k_is)
      (case a34 => k_is)
      (case l34 => k_is)
      (case c34 => k_is)
      (case k34 => k_is)
      (case a35 => k_is)
      (case l35 => k_is)
      (case c35 => k_is)
      (case k35 => k_is)
      (case a38 => k_is)
      (case l38 => k_is)
      (case c38 => k_is)
      (case k38 => k_is)
      (case a39 => k_is)
      (case l39 => k_is)
      (case c39 => k_is)
      (case k39 => k_is)
      (case a40 => k_is)
      (case l40 => k_is)
      (case c40 => k_is)
      (case k40 => k_is)
      (case a50 => k_is)
      (case l50 => k_is)
      (case c50 => k_is)
      (case k50 => k_is)
      (case a53 => k_is)
      (case l53 => k_is)
      (case c53 => k_is)
      (case k53 => k_is)
      (case a54 => k_is)
      (case l54 => k_is)
      (case c54 => k_is)
      (case k54 => k_is)
      (case a58 => k_is)
      (case l58 => k_is)
      (case c58 => k_is)
      (case k58 => k_is)
      (case a59 => k_is)
      (case l59 => k_is)
      (case c59 => k_is)
      (case k59 => k_is)
      (case a60 => k_is)
      (case l60 => k_is)
      (case c60 => k_is)
      (case k60 => k_is)
      (case a61 => k_is)
      (case l61 => k_is)
      (case c61 => k_is)
      (case k61 => k_is)
      (case a62 => k_is)
      (case l62 => k_is)
      (case c62 => k_is)
      (case k62 => k_is)
      (case a64 => k_is)
      (case l64 => k_is)
      (case c64 => k_is)
      (case k64 => k_is)
      (case a65 => k_is)
      (case l65 => k_is)
      (case c65 => k_is)
      (case k65 => k_is)
      (case a66 => k_is)
      (case l66 => k_is)
      (case c66 => k_is)
      (case k66 => k_is)
      (case a67 => k_is)
      (case l67 => k_is)
      (case c67 => k_is)
      (case k67 => k_is)
      (case a68 => k_is)
      (case l68 => k_is)
      (case c68 => k_is)
      (case k68 => k_is)
      (case a12000 => k_is)
      (case l12000 => k_is)
      (case c12000 => k_is)
      (case k12000 => k_is)
      (case b12000 => k_is)
      (case a13000 => k_is)
      (case l13000 => k_is)
      (case c13000 => k_is)
      (case k13000 => k_is)
      (case b13000 => k_is)
      (case a14000 => k_is)
      (case l14000 => k_is)
      (case c14000 => k_is)
      (case k14000 => k_is)
      (case b14000 => k_is)
      (case a15000 => k_is)
      (case l15000 => k_is)
      (case c15000 => k_is)
      (case k15000 => k_is)
      (case b15000 => k_is)
      (case a37000 => k_is)
      (case l37000 => k_is)
      (case c37000 => k_is)
      (case k37000 => k_is)
      (case b37000 => k_is)
      (case a37002 => k_is)
      (case l37002 => k_is)
      (case c37002 => k_is)
      (case k37002 => k_is)
      (case b37002 => k_is)
      (case a37005 => k_is)
      (case l37005 => k_is)
      (case c37005 => k_is)
      (case k37005 => k_is)
      (case b37005 => k_is)
      (case a37006 => k_is)
      (case l37006 => k_is)
      (case c37006 => k_is)
      (case k37006 => k_is)
      (case b37006 => k_is)
      (case a48000 => k_is)
      (case l48000 => k_is)
      (case c48000 => k_is)
      (case k48000 => k_is)
      (case b48000 => k_is)
      (case a48001 => k_is)
      (case l48001 => k_is)
      (case c48001 => k_is)
      (case k48001 => k_is)
      (case b48001 => k_is)
      (case a48002 => k_is)
      (case l48002 => k_is)
      (case c48002 => k_is)
      (case k48002 => k_is)
      (case b48002 => k_is)
      (case a48003 => k_is)
      (case l48003 => k_is)
      (case c48003 => k_is)
      (case k48003 => k_is)
      (case b48003 => k_is)
      (case a48005 => k_is)
      (case l48005 => k_is)
      (case c48005 => k_is)
      (case k48005 => k_is)
      (case b48005 => k_is)
      (case x_CrossError_e => kernel_rfl)
      (case x_CrossError_kp => k_is)
      (case x_CrossError_ga => k_is)
      (case x_CrossError_gh => k_is)
      (case x_CrossError_ba => k_is)
      (case x_CrossError_ob => k_is)
      (case x_CrossError_hd => k_is)
      (case x_CrossError_cl => k_is)
      (case x_CrossError_cg => k_is)
      (case x_CrossError_ct => k_is)
      (case x_CrossError_sa => k_is)
      (case x_NoFields_e => kernel_rfl)
      (case x_NoFields_kp => k_is)
      (case x_NoFields_ga => k_is)
      (case x_NoFields_gh => k_is)
      (case x_NoFields_ba => k_is)
      (case x_NoFields_ob => k_is)
      (case x_NoFields_hd => k_is)
      (case x_NoFields_cl => k_is)
      (case x_NoFields_cg => k_is)
      (case x_NoFields_ct => k_is)
      (case x_NoFields_sa => k_is)
      (case x_NoSieve_e => kernel_rfl)
      (case x_NoSieve_kp => k_is)
      (case x_NoSieve_ga => k_is)
      (case x_NoSieve_gh => k_is)
      (case x_NoSieve_ba => k_is)
      (case x_NoSieve_ob => k_is)
      (case x_NoSieve_hd => k_is)
      (case x_NoSieve_cl => k_is)
      (case x_NoSieve_cg => k_is)
      (case x_NoSieve_ct => k_is)
      (case x_NoSieve_sa => k_is)
      (case x_NoView_e => kernel_rfl)
      (case x_NoView_kp => k_is)
      (case x_NoView_ga => k_is)
      (case x_NoView_gh => k_is)
      (case x_NoView_ba => k_is)
      (case x_NoView_ob => k_is)
      (case x_NoView_hd => k_is)
      (case x_NoView_cl => k_is)
      (case x_NoView_cg => k_is)
      (case x_NoView_ct => k_is)
      (case x_NoView_sa => k_is)
      (case x_NoHead_e => kernel_rfl)
      (case x_NoHead_kp => k_is)
      (case x_NoHead_ga => k_is)
      (case x_NoHead_gh => k_is)
      (case x_NoHead_ba => k_is)
      (case x_NoHead_ob => k_is)
      (case x_NoHead_hd => k_is)
      (case x_NoHead_cl => k_is)
      (case x_NoHead_cg => k_is)
      (case x_NoHead_ct => k_is)
      (case x_NoHead_sa => k_is)
      (case x_NoRow_e => kernel_rfl)
      (case x_NoRow_kp => k_is)
      (case x_NoRow_ga => k_is)
      (case x_NoRow_gh => k_is)
      (case x_NoRow_ba => k_is)
      (case x_NoRow_ob => k_is)
      (case x_NoRow_hd => k_is)
      (case x_NoRow_cl => k_is)
      (case x_NoRow_cg => k_is)
      (case x_NoRow_ct => k_is)
      (case x_NoRow_sa => k_is)
      (case x_NoSuch_e => kernel_rfl)
      (case x_NoSuch_kp => k_is)
      (case x_NoSuch_ga => k_is)
      (case x_NoSuch_gh => k_is)
      (case x_NoSuch_ba => k_is)
      (case x_NoSuch_ob => k_is)
      (case x_NoSuch_hd => k_is)
      (case x_NoSuch_cl => k_is)
      (case x_NoSuch_cg => k_is)
      (case x_NoSuch_ct => k_is)
      (case x_NoSuch_sa => k_is)
      (case x_NoField_e => kernel_rfl)
      (case x_NoField_kp => k_is)
      (case x_NoField_ga => k_is)
      (case x_NoField_gh => k_is)
      (case x_NoField_ba => k_is)
      (case x_NoField_ob => k_is)
      (case x_NoField_hd => k_is)
      (case x_NoField_cl => k_is)
      (case x_NoField_cg => k_is)
      (case x_NoField_ct => k_is)
      (case x_NoField_sa => k_is)
      (case x_NoKind_e => kernel_rfl)
      (case x_NoKind_kp => k_is)
      (case x_NoKind_ga => k_is)
      (case x_NoKind_gh => k_is)
      (case x_NoKind_ba => k_is)
      (case x_NoKind_ob => k_is)
      (case x_NoKind_hd => k_is)
      (case x_NoKind_cl => k_is)
      (case x_NoKind_cg => k_is)
      (case x_NoKind_ct => k_is)
      (case x_NoKind_sa => k_is)
      (case o_Sheet_pg => k_is)
      (case o_Sheet_hd => k_is)
      (case o_Sheet_po => k_is)
      (case o_Sheet_sa => k_is)
      (case o_Sheet_ma => k_is)
      (case o_Sheet_kp => k_is)
      (case o_Reading_pg => k_is)
      (case o_Reading_hd => k_is)
      (case o_Reading_po => k_is)
      (case o_Reading_sa => k_is)
      (case o_Reading_ma => k_is)
      (case o_Reading_kp => k_is)
      (case v_na_NoRow_place => k_is)
      (case v_na_NoSuch_number => k_is)
      (case v_na_NoField_name => k_is)
      (case v_na_NoKind_name => k_is)
      (case v_na_Sheet_given => k_is)
      (case v_na_Sheet_kept_fields => k_is)
      (case v_na_Sheet_kept_rows => k_is)
      (case v_na_Reading_at => k_is)
      (case v_na_Reading_begun => k_is)
      (case v_na_Reading_text => k_is)
      (case v_su_NoField_CrossError => rfl)
      (case v_ki_NoField_CrossError => rfl)
      (case v_ki_NoField_NoFields => rfl)
      (case v_ki_NoField_NoSieve => rfl)
      (case v_ki_NoField_NoView => rfl)
      (case v_ki_NoField_NoHead => rfl)
      (case v_ki_NoField_NoNet => rfl)
      (case v_ki_NoField_NoWhole => rfl)
      (case v_ki_NoField_NoGroups => rfl)
      (case v_ki_NoField_NoLine => rfl)
      (case v_ki_NoField_NoRow => rfl)
      (case v_ki_NoField_NoSuch => rfl)
      (case v_ki_NoField_NoField => rfl)
      (case v_ki_NoField_NoKind => rfl)
      (case v_ki_NoField_NoVeil => rfl)
      (case v_kv_NoField => rfl)
      (case v_su_NoFields_CrossError => rfl)
      (case v_ki_NoFields_CrossError => rfl)
      (case v_ki_NoFields_NoFields => rfl)
      (case v_ki_NoFields_NoSieve => rfl)
      (case v_ki_NoFields_NoView => rfl)
      (case v_ki_NoFields_NoHead => rfl)
      (case v_ki_NoFields_NoNet => rfl)
      (case v_ki_NoFields_NoWhole => rfl)
      (case v_ki_NoFields_NoGroups => rfl)
      (case v_ki_NoFields_NoLine => rfl)
      (case v_ki_NoFields_NoRow => rfl)
      (case v_ki_NoFields_NoSuch => rfl)
      (case v_ki_NoFields_NoField => rfl)
      (case v_ki_NoFields_NoKind => rfl)
      (case v_ki_NoFields_NoVeil => rfl)
      (case v_kv_NoFields => rfl)
      (case v_su_NoHead_CrossError => rfl)
      (case v_ki_NoHead_CrossError => rfl)
      (case v_ki_NoHead_NoFields => rfl)
      (case v_ki_NoHead_NoSieve => rfl)
      (case v_ki_NoHead_NoView => rfl)
      (case v_ki_NoHead_NoHead => rfl)
      (case v_ki_NoHead_NoNet => rfl)
      (case v_ki_NoHead_NoWhole => rfl)
      (case v_ki_NoHead_NoGroups => rfl)
      (case v_ki_NoHead_NoLine => rfl)
      (case v_ki_NoHead_NoRow => rfl)
      (case v_ki_NoHead_NoSuch => rfl)
      (case v_ki_NoHead_NoField => rfl)
      (case v_ki_NoHead_NoKind => rfl)
      (case v_ki_NoHead_NoVeil => rfl)
      (case v_kv_NoHead => rfl)
      (case v_su_NoKind_CrossError => rfl)
      (case v_ki_NoKind_CrossError => rfl)
      (case v_ki_NoKind_NoFields => rfl)
      (case v_ki_NoKind_NoSieve => rfl)
      (case v_ki_NoKind_NoView => rfl)
      (case v_ki_NoKind_NoHead => rfl)
      (case v_ki_NoKind_NoNet => rfl)
      (case v_ki_NoKind_NoWhole => rfl)
      (case v_ki_NoKind_NoGroups => rfl)
      (case v_ki_NoKind_NoLine => rfl)
      (case v_ki_NoKind_NoRow => rfl)
      (case v_ki_NoKind_NoSuch => rfl)
      (case v_ki_NoKind_NoField => rfl)
      (case v_ki_NoKind_NoKind => rfl)
      (case v_ki_NoKind_NoVeil => rfl)
      (case v_kv_NoKind => rfl)
      (case v_su_NoRow_CrossError => rfl)
      (case v_ki_NoRow_CrossError => rfl)
      (case v_ki_NoRow_NoFields => rfl)
      (case v_ki_NoRow_NoSieve => rfl)
      (case v_ki_NoRow_NoView => rfl)
      (case v_ki_NoRow_NoHead => rfl)
      (case v_ki_NoRow_NoNet => rfl)
      (case v_ki_NoRow_NoWhole => rfl)
      (case v_ki_NoRow_NoGroups => rfl)
      (case v_ki_NoRow_NoLine => rfl)
      (case v_ki_NoRow_NoRow => rfl)
      (case v_ki_NoRow_NoSuch => rfl)
      (case v_ki_NoRow_NoField => rfl)
      (case v_ki_NoRow_NoKind => rfl)
      (case v_ki_NoRow_NoVeil => rfl)
      (case v_kv_NoRow => rfl)
      (case v_su_NoSieve_CrossError => rfl)
      (case v_ki_NoSieve_CrossError => rfl)
      (case v_ki_NoSieve_NoFields => rfl)
      (case v_ki_NoSieve_NoSieve => rfl)
      (case v_ki_NoSieve_NoView => rfl)
      (case v_ki_NoSieve_NoHead => rfl)
      (case v_ki_NoSieve_NoNet => rfl)
      (case v_ki_NoSieve_NoWhole => rfl)
      (case v_ki_NoSieve_NoGroups => rfl)
      (case v_ki_NoSieve_NoLine => rfl)
      (case v_ki_NoSieve_NoRow => rfl)
      (case v_ki_NoSieve_NoSuch => rfl)
      (case v_ki_NoSieve_NoField => rfl)
      (case v_ki_NoSieve_NoKind => rfl)
      (case v_ki_NoSieve_NoVeil => rfl)
      (case v_kv_NoSieve => rfl)
      (case v_su_NoSuch_CrossError => rfl)
      (case v_ki_NoSuch_CrossError => rfl)
      (case v_ki_NoSuch_NoFields => rfl)
      (case v_ki_NoSuch_NoSieve => rfl)
      (case v_ki_NoSuch_NoView => rfl)
      (case v_ki_NoSuch_NoHead => rfl)
      (case v_ki_NoSuch_NoNet => rfl)
      (case v_ki_NoSuch_NoWhole => rfl)
      (case v_ki_NoSuch_NoGroups => rfl)
      (case v_ki_NoSuch_NoLine => rfl)
      (case v_ki_NoSuch_NoRow => rfl)
      (case v_ki_NoSuch_NoSuch => rfl)
      (case v_ki_NoSuch_NoField => rfl)
      (case v_ki_NoSuch_NoKind => rfl)
      (case v_ki_NoSuch_NoVeil => rfl)
      (case v_kv_NoSuch => rfl)
      (case v_su_NoView_CrossError => rfl)
      (case v_ki_NoView_CrossError => rfl)
      (case v_ki_NoView_NoFields => rfl)
      (case v_ki_NoView_NoSieve => rfl)
      (case v_ki_NoView_NoView => rfl)
      (case v_ki_NoView_NoHead => rfl)
      (case v_ki_NoView_NoNet => rfl)
      (case v_ki_NoView_NoWhole => rfl)
      (case v_ki_NoView_NoGroups => rfl)
      (case v_ki_NoView_NoLine => rfl)
      (case v_ki_NoView_NoRow => rfl)
      (case v_ki_NoView_NoSuch => rfl)
      (case v_ki_NoView_NoField => rfl)
      (case v_ki_NoView_NoKind => rfl)
      (case v_ki_NoView_NoVeil => rfl)
      (case v_kv_NoView => rfl)
      (case z_ValueError => k_is)
      (case z_abs => k_is)
      (case z_all => k_is)
      (case z_bool => k_is)
      (case z_enumerate => k_is)
      (case z_int => k_is)
      (case z_isinstance => k_is)
      (case z_len => k_is)
      (case z_list => k_is)
      (case z_min => k_is)
      (case z_range => k_is)
      (case z_set => k_is)
      (case z_sorted => k_is)
      (case z_str => k_is)
      (case z_tuple => k_is)
      (case z_zip => k_is)
      (case y_LETTERS => k_is)
      (case y_FIGURES => k_is)
      (case y_MOST_SIGNS => k_is)
      (case y_KINDS => k_is)
      (case l30 => k_is)
      (case y_MOST_FIELDS => k_is)
      (case y_MOST_LEVELS => k_is)
      (case y_MOST_SIEVES => k_is)
      (case y_JOINTS => k_is)
      (case l45 => k_is)
      (case m45 => decide)
      (case k45 => k_keys)
      (case v45 => repeat (first | exact .nil | refine .cons ⟨⟨_, rfl⟩, ⟨_, rfl⟩⟩ ?_))
      (case y_NAMED_FORMS => k_is)
      (case l52 => k_is)
      (case y_MOST_NAMES => k_is)
      (case y_MOST_FIGURES_heads => k_is)
    exact ⟨f, fd, T, rfl, z⟩
