import PyProof.Rows.All
import Wide.All
import OpenK.AllK
import Wide.FinOn
import Lean
import PyProof.EqAt
import PyProof.EqKinds
import PyProof.TupleCall
import OpenK.KOwn
import PyProof.InstStoreFacts
import PyProof.EnumFor
import PyProof.EnumMake
import PyProof.EnumStmt
import KE.KDictList
import PyProof.ListRange
import PyProof.Rows.SetFrom
import PyProof.WalksMore
import PyProof.ZipIter
import PyProof.AttrMissSeq
import KE.KDictOf
import PyProof.MinMaxWalk
import PyProof.Rows.CallKwBuiltin
import KE.KMinKey
import KE.KRevSl
import PyProof.SumAny
import PyProof.P3In
import PyProof.SeqI3
import KE.KSortTup
import KE.KSortKey
import KE.KLam
import KE.KNestM
import PySem.Challenge.RW_crosshall_k35_dealt_by_weights
-- CHANGE: your row's module here, as the last of these rows
set_option compiler.extract_closed false
set_option Elab.async false
set_option linter.all false
set_option maxRecDepth 100000
namespace L2
open PySem PySem.Spec PyProof.Rows
noncomputable abbrev Key := Sum Int Str
noncomputable def keyIs : Key → Value → Bool
  | .inl k, v => Value.isInt k v
  | .inr x, v => Value.isStrOf x v
noncomputable def keyH (w : World) : Key → Int
  | .inl k => hashInt k
  | .inr x => hashStr w x
theorem keyIs_shape : ∀ {k : Key} {v : Value}, keyIs k v = true → (∃ i t, k = Sum.inl i ∧ v = Value.int i t) ∨ (∃ x t, k = Sum.inr x ∧ v = Value.str x t)
  | .inl i, v, h => by
    obtain ⟨t, e⟩ := Value.isInt_shape (k := i) (v := v) h
    exact .inl ⟨i, t, rfl, e⟩
  | .inr x, v, h => by
    obtain ⟨t, e⟩ := Value.isStrOf_shape (x := x) (v := v) h
    exact .inr ⟨x, t, rfl, e⟩
theorem key_ll (a b : Int) : decide ((Sum.inl a : Key) = Sum.inl b) = (a == b) := by
  by_cases e : a = b
  · subst e; simp
  · have h : ¬ (Sum.inl a : Key) = Sum.inl b := fun q => e (Sum.inl.inj q)
    rw [decide_eq_false h]
    exact (beq_eq_false_iff_ne.mpr e).symm
theorem key_rr (a b : Str) : decide ((Sum.inr a : Key) = Sum.inr b) = decide (a = b) := by
  by_cases e : a = b
  · subst e; simp
  · have h : ¬ (Sum.inr a : Key) = Sum.inr b := fun q => e (Sum.inr.inj q)
    rw [decide_eq_false h, decide_eq_false e]
theorem key_lr (a : Int) (b : Str) : decide ((Sum.inl a : Key) = Sum.inr b) = false := decide_eq_false (fun q => nomatch q)
theorem key_rl (a : Str) (b : Int) : decide ((Sum.inr a : Key) = Sum.inl b) = false := decide_eq_false (fun q => nomatch q)
noncomputable def mixKind (prog : Program) (w : World) : PySem.KeyKind prog w Key where
  is := keyIs
  hash := keyH w
  inj := fun v a b ha hb => by
    rcases keyIs_shape ha with ⟨i, t, rfl, rfl⟩ | ⟨x, t, rfl, rfl⟩
    · rcases keyIs_shape hb with ⟨j, u, rfl, e⟩ | ⟨y, u, rfl, e⟩
      · injection e with e1 _; rw [e1]
      · exact nomatch e
    · rcases keyIs_shape hb with ⟨j, u, rfl, e⟩ | ⟨y, u, rfl, e⟩
      · exact nomatch e
      · injection e with e1 _; rw [e1]
  byValue := fun k v h => by
    rcases keyIs_shape h with ⟨i, t, rfl, rfl⟩ | ⟨x, t, rfl, rfl⟩ <;> rfl
  pyHash := fun hv h => by
    rcases keyIs_shape hv with ⟨i, t, rfl, rfl⟩ | ⟨x, t, rfl, rfl⟩
    · exact wpAny_pyHash_int h
    · exact wpAny_pyHash_str h
  eqBool := fun hu hv h => by
    rcases keyIs_shape hu with ⟨i, t, rfl, rfl⟩ | ⟨x, t, rfl, rfl⟩
    · rcases keyIs_shape hv with ⟨j, u, rfl, rfl⟩ | ⟨y, u, rfl, rfl⟩
      · rw [key_ll] at h; exact wpAny_eqBool_int h
      · rw [key_lr] at h; exact SeqAt.EqAt.int_str i t y u _ _ _ _ h
    · rcases keyIs_shape hv with ⟨j, u, rfl, rfl⟩ | ⟨y, u, rfl, rfl⟩
      · rw [key_rl] at h; exact SeqAt.EqAt.str_int x t j u _ _ _ _ h
      · rw [key_rr] at h; exact wpAny_eqBool_str h
  «strs» := fun k x t v h => by
    rcases keyIs_shape h with ⟨i, u, rfl, e⟩ | ⟨y, u, rfl, e⟩
    · exact nomatch e
    · injection e with e1 _
      subst e1
      cases v <;> rfl
noncomputable abbrev NKey := Option Key
noncomputable def nIs : NKey → Value → Bool
  | none, .none => true
  | none, _ => false
  | some k, v => keyIs k v
noncomputable def nH (w : World) : NKey → Int
  | none => reduceHash 0xFCA86420
  | some k => keyH w k
theorem nIs_shape : ∀ {k : NKey} {v : Value}, nIs k v = true → (k = none ∧ v = Value.none) ∨ ∃ q, k = some q ∧ keyIs q v = true
  | none, v, h => by cases v <;> first | exact .inl ⟨rfl, rfl⟩ | exact nomatch h
  | some k, v, h => .inr ⟨k, rfl, h⟩
theorem key_not_none {q : Key} (h : keyIs q Value.none = true) : False := by
  rcases keyIs_shape h with ⟨_, _, _, e⟩ | ⟨_, _, _, e⟩ <;> exact nomatch e
theorem pyHash_none {prog : Program} {w : World} {A : Around} {E : Value → Shared → Prop} {s : Shared} {Q : Int → Shared → Prop} (h : Q (reduceHash 0xFCA86420) { s with toks := s.toks + 1 }) : wpAny (model prog w) A (pyHash .none) Q E s :=
  PySem.W.pyHash_slot (T := "NoneType") rfl F.slot_NoneType_hash F.entry_NoneType_hash (F.args_NoneType_hash_1 _) (beq_builtin_none _) (.inl rfl) (wpAny_bind (wpAny_pure (wpAny_bind (wpAny_mkInt (wpAny_pure ⟨_, _, rfl, h⟩)))))
theorem eqBool_none {prog : Program} {w : World} {A : Around} {E : Value → Shared → Prop} {s : Shared} {Q : Bool → Shared → Prop} (h : Q true s) : wpAny (model prog w) A (eqBool .none .none) Q E s := by
  unfold eqBool
  try with_reducible refine wpAny_holding ?_
  show wpAny _ _ (if (Value.none == Value.none) = true then _ else _) Q E s
  rw [if_pos (by decide)]
  exact wpAny_bind (wpAny_rule (wpAny_pure h))
noncomputable def optKind (prog : Program) (w : World) : PySem.KeyKind prog w NKey where
  is := nIs
  hash := nH w
  inj := fun v a b ha hb => by
    rcases nIs_shape ha with ⟨rfl, rfl⟩ | ⟨q, rfl, hq⟩
    · rcases nIs_shape hb with ⟨rfl, _⟩ | ⟨q', rfl, hq'⟩
      · rfl
      · exact (key_not_none hq').elim
    · rcases nIs_shape hb with ⟨rfl, rfl⟩ | ⟨q', rfl, hq'⟩
      · exact (key_not_none hq).elim
      · rw [(mixKind prog w).inj v q q' hq hq']
  byValue := fun k v h => by
    rcases nIs_shape h with ⟨rfl, rfl⟩ | ⟨q, rfl, hq⟩
    · rfl
    · exact (mixKind prog w).byValue q v hq
  pyHash := fun hv h => by
    rcases nIs_shape hv with ⟨rfl, rfl⟩ | ⟨q, rfl, hq⟩
    · exact pyHash_none h
    · exact (mixKind prog w).pyHash hq h
  eqBool := fun {A E s a b u v Q} hu hv h => by
    rcases nIs_shape hu with ⟨rfl, rfl⟩ | ⟨q, rfl, hq⟩
    · rcases nIs_shape hv with ⟨rfl, rfl⟩ | ⟨q', rfl, hq'⟩
      · exact eqBool_none (by simpa using h)
      · have h' : Q false s := by simpa using h
        rcases keyIs_shape hq' with ⟨i, t, rfl, rfl⟩ | ⟨x, t, rfl, rfl⟩
        · exact SeqAt.EqAt.none_int i t _ _ _ _ h'
        · exact SeqAt.EqAt.none_str x t _ _ _ _ h'
    · rcases nIs_shape hv with ⟨rfl, rfl⟩ | ⟨q', rfl, hq'⟩
      · have h' : Q false s := by simpa using h
        rcases keyIs_shape hq with ⟨i, t, rfl, rfl⟩ | ⟨x, t, rfl, rfl⟩
        · exact SeqAt.EqAt.int_none i t _ _ _ _ h'
        · exact SeqAt.EqAt.str_none x t _ _ _ _ h'
      · refine (mixKind prog w).eqBool hq hq' ?_
        have e : decide ((some q : NKey) = some q') = decide (q = q') := by simp
        rw [← e]; exact h
  «strs» := fun k x t v h => by
    rcases nIs_shape h with ⟨rfl, e⟩ | ⟨q, rfl, hq⟩
    · exact nomatch e
    · exact (mixKind prog w).strs q x t v hq
end L2
namespace L2
open PySem PySem.Spec PyProof.Rows
inductive V where
  | non | bl (b : Bool) | int (i : Int) | str (x : Str) | byt (b : Array UInt8) | flt (b : UInt64) | ref (a : Addr) | ty (n : String)
  deriving DecidableEq
noncomputable def RelV : V → Value → Prop
  | .non, u => u = Value.none
  | .bl b, u => u = Value.bool b
  | .int i, u => ∃ t, u = Value.int i t
  | .str x, u => ∃ t, u = Value.str x t
  | .byt b, u => ∃ t, u = Value.bytes b t
  | .flt b, u => ∃ t, u = Value.float b t
  | .ref a, u => u = Value.ref a
  | .ty n, u => u = Value.type n
noncomputable abbrev Vals : List V → List Value → Prop := Paired RelV
theorem Vals.length {xs : List V} {us : List Value} (r : Vals xs us) : xs.length = us.length := Paired.length r
theorem Vals.get : ∀ {xs : List V} {us : List Value} {i : Nat} {x : V}, Vals xs us → xs[i]? = some x → ∃ u, us[i]? = some u ∧ RelV x u
  | _, _, _, _, .nil, e => by simp at e
  | _, _, 0, _, .cons r _, e => by simp at e; subst e; exact ⟨_, rfl, r⟩
  | _, _, i + 1, x, .cons _ t, e => by
    obtain ⟨u, h1, h2⟩ := Vals.get (i := i) (x := x) t (by simpa using e)
    exact ⟨u, by simpa using h1, h2⟩
theorem Vals.set {x : V} {u : Value} (r : RelV x u) : ∀ {xs : List V} {us : List Value} (i : Nat), Vals xs us → Vals (xs.set i x) (us.set i u)
  | _, _, _, .nil => .nil
  | _, _, 0, .cons _ t => .cons r t
  | _, _, i + 1, .cons q t => .cons q (Vals.set r i t)
theorem Vals.append : ∀ {xs ys : List V} {us ws : List Value}, Vals xs us → Vals ys ws → Vals (xs ++ ys) (us ++ ws)
  | _, _, _, _, .nil, s => s
  | _, _, _, _, .cons r t, s => .cons r (Vals.append t s)
theorem Vals.take : ∀ {xs : List V} {us : List Value} (n : Nat), Vals xs us → Vals (xs.take n) (us.take n)
  | _, _, 0, _ => .nil
  | _, _, _ + 1, .nil => .nil
  | _, _, n + 1, .cons r t => .cons r (Vals.take n t)
theorem Vals.drop : ∀ {xs : List V} {us : List Value} (n : Nat), Vals xs us → Vals (xs.drop n) (us.drop n)
  | _, _, 0, r => r
  | _, _, _ + 1, .nil => .nil
  | _, _, n + 1, .cons _ t => Vals.drop n t
noncomputable def RelO : Option V → Option Value → Prop
  | some v, some u => RelV v u
  | none, none => True
  | _, _ => False
noncomputable def KV {κ : Type} : List (κ × V) → List (κ × Value) → Prop := Paired fun (p : κ × V) (q : κ × Value) => p.1 = q.1 ∧ RelV p.2 q.2
noncomputable def kV : Key → V
  | .inl i => .int i
  | .inr x => .str x
noncomputable def nV : NKey → V
  | none => .non
  | some k => kV k
inductive HO where
  | lst (xs : List V)
  | tup (xs : List V)
  | dK (kvs : List (Key × V)) | dT (kvs : List (List NKey × V))
  | set (S : Int → Bool) (n : Nat)
  | ins (C dx : Addr) (fs : List (Str × V))
  | own (x : Addr)
  | xd (fs : List (Str × V))
  | met (f x : Addr)
  | rng (lo hi : Int)
  | frz (o : Obj) (u : HO)
  | tbl (ps : Array Value)
  | ext (φ : Heap → Prop)
noncomputable abbrev Hp := Addr → Option HO
noncomputable def upd (H : Hp) (a : Addr) (o : HO) : Hp := fun b => if b = a then some o else H b
theorem upd_same {H : Hp} {a : Addr} {o : HO} : upd H a o a = some o := by unfold upd; rw [if_pos rfl]
theorem upd_ne {H : Hp} {a b : Addr} {o : HO} (h : b ≠ a) : upd H a o b = H b := by unfold upd; rw [if_neg h]
theorem ne_of_none {H : Hp} {a b : Addr} {o : HO} (h : H a = some o) (h' : H b = none) : a ≠ b := by
  intro e; subst e; rw [h] at h'; cases h'
section
variable (P : Program) (w : World)
noncomputable def ObjOk (H : Hp) (h : Heap) (a : Addr) : HO → Prop
  | .lst xs => xs.length ≤ sizeLine ∧ ∃ (its : List Value) (n : Nat), Vals xs its ∧ h.get? a = some { cls := .type "list", data := .seq its.toArray n }
  | .tup xs => xs.length ≤ sizeLine ∧ ∃ its : List Value, Vals xs its ∧ IsTup h a its.toArray
  | .dK kvs => kvs.length ≤ sizeLine ∧ (a == sysModules) = false ∧ ∃ vs, KV kvs vs ∧ h.DictOf (mixKind P w) a vs
  | .dT kvs => kvs.length ≤ sizeLine ∧ (a == sysModules) = false ∧ ∃ xs : List (List NKey × Addr × Value),
      Paired (fun (p : List NKey × V) (q : List NKey × Addr × Value) => p.1 = q.1 ∧ H q.2.1 = some (.tup (p.1.map nV)) ∧ RelV p.2 q.2.2) kvs xs ∧
      ∃ o es ep, h.get? a = some o ∧ o.ExactDict ∧ o.data = .dict es ep ∧ es.toList = xs.map (entryOfKey (tupleKind (optKind P w))) ∧ (xs.map (·.1)).Nodup
  | .set S n => h.SetOf (intKind P w) a S n
  | .ins C dx fs => H dx = some (.own a) ∧ fs.length ≤ 1000 ∧ dx ≠ a ∧ h.get? a = some (PySem.W.instObj C dx) ∧
      ∃ mA, h.Ns1 dx mA ∧ (∀ f, RelO (fs.lookup f) (mA f)) ∧ PySem.Within mA (fs.map (·.1))
  | .own _ => ∃ o, h.get? a = some o
  | .xd fs => ∃ mA, h.Ns1 a mA ∧ ∀ f, RelO (fs.lookup f) (mA f)
  | .rng lo hi => ∃ t u v, h.get? a = some { cls := .type "range", data := .fields #[.int lo t, .int hi u, .int 1 v] }
  | .frz o u => h.get? a = some o ∧ ObjOk H h a u
  | .tbl ps => h.get? a = some { cls := .none, data := .fields ps }
  | .met f x => h.get? a = some (PySem.W.methodObj (.ref f) (.ref x))
  | .ext φ => φ h ∧ (∃ o, h.get? a = some o) ∧ ∀ h1 h2 : Heap, φ h1 → (∀ o, h1.get? a = some o → h2.get? a = some o) → φ h2
noncomputable def HOk (H : Hp) (h : Heap) : Prop := ∀ a o, H a = some o → ObjOk P w H h a o
end
section
variable {P : Program} {w : World} {H H' : Hp} {h h' : Heap} {a : Addr} {o : HO}
theorem ObjOk.lt (x : ObjOk P w H h a o) : a < h.objs.size := by
  cases o with
  | lst xs => obtain ⟨_, _, _, _, e⟩ := x; exact Heap.lt_size e
  | tup xs => obtain ⟨_, _, _, p⟩ := x; exact p.lt
  | dK kvs => obtain ⟨_, _, _, _, o, _, _, e, _⟩ := x; exact Heap.lt_size e
  | dT kvs => obtain ⟨_, _, _, _, o, _, _, e, _⟩ := x; exact Heap.lt_size e
  | set S n => obtain ⟨o, _, _, _, e, _⟩ := x; exact Heap.lt_size e
  | ins C dx fs => obtain ⟨_, _, _, e, _⟩ := x; exact Heap.lt_size e
  | own y => obtain ⟨_, e⟩ := x; exact Heap.lt_size e
  | xd fs => obtain ⟨_, ⟨_, _, _, e, _⟩, _⟩ := x; exact Heap.lt_size e
  | rng lo hi => obtain ⟨_, _, _, e⟩ := x; exact Heap.lt_size e
  | frz ob u => obtain ⟨e, _⟩ := x; exact Heap.lt_size e
  | tbl ps => exact Heap.lt_size (show h.get? a = some _ from x)
  | met f y => exact Heap.lt_size (show h.get? a = some _ from x)
  | ext φ => obtain ⟨_, ⟨_, e⟩, _⟩ := x; exact Heap.lt_size e
theorem Paired.mapP {α β : Type} {F G : α → β → Prop} : ∀ {l₁ : List α} {l₂ : List β}, Paired F l₁ l₂ → (∀ a b, F a b → G a b) → Paired G l₁ l₂
  | _, _, .nil, _ => .nil
  | _, _, .cons r t, f => .cons (f _ _ r) (Paired.mapP t f)
theorem ObjOk.stay (x : ObjOk P w H h a o) (k : ∀ b u, (b = a ∨ H b = some (.own a)) → h.get? b = some u → h'.get? b = some u)
    (ho : ∀ b, H b = some (.own a) → H' b = some (.own a)) (ht : ∀ b xs, H b = some (.tup xs) → H' b = some (.tup xs)) : ObjOk P w H' h' a o := by
  induction o with
  | lst xs => obtain ⟨z, its, n, r, e⟩ := x; exact ⟨z, its, n, r, k _ _ (.inl rfl) e⟩
  | tup xs => obtain ⟨z, its, r, ob, e, c⟩ := x; exact ⟨z, its, r, ob, k _ _ (.inl rfl) e, c⟩
  | dK kvs => obtain ⟨z, y, vs, r, ob, es, ep, e, c⟩ := x; exact ⟨z, y, vs, r, ob, es, ep, k _ _ (.inl rfl) e, c⟩
  | dT kvs =>
    obtain ⟨z, y, xs, r, ob, es, ep, e, c⟩ := x
    exact ⟨z, y, xs, Paired.mapP r fun p q z => ⟨z.1, ht _ _ z.2.1, z.2.2⟩, ob, es, ep, k _ _ (.inl rfl) e, c⟩
  | set S n => obtain ⟨ob, es, ep, t, e, c⟩ := x; exact ⟨ob, es, ep, t, k _ _ (.inl rfl) e, c⟩
  | ins C dx fs =>
    obtain ⟨d, z, ne, e, mA, ⟨od, es, ep, e2, c⟩, r⟩ := x
    exact ⟨ho _ d, z, ne, k _ _ (.inl rfl) e, mA, ⟨od, es, ep, k _ _ (.inr d) e2, c⟩, r⟩
  | own y => obtain ⟨ob, e⟩ := x; exact ⟨ob, k _ _ (.inl rfl) e⟩
  | xd fs => obtain ⟨mA, ⟨od, es, ep, e, c⟩, r⟩ := x; exact ⟨mA, ⟨od, es, ep, k _ _ (.inl rfl) e, c⟩, r⟩
  | rng lo hi => obtain ⟨t, u, v, e⟩ := x; exact ⟨t, u, v, k _ _ (.inl rfl) e⟩
  | frz ob u ih => obtain ⟨e, q⟩ := x; exact ⟨k _ _ (.inl rfl) e, ih q⟩
  | tbl ps =>
    have e : h.get? a = some { cls := .none, data := .fields ps } := x
    show h'.get? a = some { cls := .none, data := .fields ps }
    exact k a _ (.inl rfl) e
  | met f y =>
    have e : h.get? a = some (PySem.W.methodObj (.ref f) (.ref y)) := x
    show h'.get? a = some (PySem.W.methodObj (.ref f) (.ref y))
    exact k a _ (.inl rfl) e
  | ext φ => obtain ⟨p, ⟨o, e⟩, st⟩ := x; exact ⟨st _ _ p fun o q => k _ _ (.inl rfl) q, ⟨o, k _ _ (.inl rfl) e⟩, st⟩
theorem HOk.lt (x : HOk P w H h) (e : H a = some o) : a < h.objs.size := (x a o e).lt
theorem HOk.fresh (x : HOk P w H h) (e : h.objs.size ≤ a) : H a = none := by
  cases q : H a with
  | none => rfl
  | some u => exact absurd (Nat.lt_of_lt_of_le (x.lt q) e) (Nat.lt_irrefl _)
theorem HOk.kept (x : HOk P w H h) (k : ∀ b u, h.get? b = some u → h'.get? b = some u) : HOk P w H h' := fun a o e =>
  (x a o e).stay (fun b u _ q => k b u q) (fun _ q => q) fun _ _ q => q
theorem HOk.laid (x : HOk P w H h) (k : ∀ b u, h.get? b = some u → h'.get? b = some u) (hp : h.objs.size ≤ a) (new : ObjOk P w (upd H a o) h' a o) : HOk P w (upd H a o) h' := fun b u e => by
  have hn := x.fresh hp
  by_cases hb : b = a
  · subst hb; rw [upd_same] at e; cases e; exact new
  · rw [upd_ne hb] at e
    exact (x b u e).stay (fun c v _ q => k c v q) (fun c q => by rw [upd_ne (ne_of_none q hn)]; exact q) fun c xs q => by rw [upd_ne (ne_of_none q hn)]; exact q
end
noncomputable def Rd (H : Hp) (a : Addr) (u : HO) : Prop := H a = some u ∨ ∃ o, H a = some (.frz o u)
theorem Rd.ok {P : Program} {w : World} {H : Hp} {h : Heap} {a : Addr} {u : HO} (r : Rd H a u) (x : HOk P w H h) : ObjOk P w H h a u := by
  rcases r with r | ⟨o, r⟩
  · exact x a u r
  · obtain ⟨_, q⟩ := x a _ r
    exact q
noncomputable def Mut : Option HO → Prop
  | some (.lst _) => True
  | some (.dK _) => True
  | some (.dT _) => True
  | some (.set _ _) => True
  | some (.ins _ _ _) => True
  | some (.ext _) => True
  | _ => False
section
variable {P : Program} {w : World} {H : Hp} {h h' : Heap} {x e : Addr} {o' : HO}
theorem HOk.write (ok : HOk P w H h) (mu : Mut (H x)) (he : e = x ∨ H e = some (.own x)) (k : ∀ b u, b ≠ e → h.get? b = some u → h'.get? b = some u) (heo : ∃ u, h'.get? e = some u)
    (new : ObjOk P w (upd H x o') h' x o') : HOk P w (upd H x o') h' := fun b u q => by
  have nown : ∀ c y, H c = some (.own y) → c ≠ x := fun c y r z => by subst z; rw [r] at mu; exact mu
  have ntup : ∀ c xs, H c = some (.tup xs) → c ≠ x := fun c xs r z => by subst z; rw [r] at mu; exact mu
  by_cases hb : b = x
  · subst hb; rw [upd_same] at q; cases q; exact new
  · rw [upd_ne hb] at q
    by_cases hbe : b = e
    · have q' : H b = some (.own x) := by
        rcases he with z | z
        · exact absurd (hbe.trans z) hb
        · rw [hbe]; exact z
      rw [q] at q'; cases q'
      obtain ⟨v, hv⟩ := heo
      exact ⟨v, by rw [hbe]; exact hv⟩
    · refine (ok b u q).stay (fun c v hc r => k c v ?_ r) (fun c r => by rw [upd_ne (nown c b r)]; exact r) fun c xs r => by rw [upd_ne (ntup c xs r)]; exact r
      rcases hc with rfl | hc
      · exact hbe
      · rintro rfl
        rcases he with z | z
        · exact nown c b hc z
        · rw [hc] at z; cases z; exact hb rfl
end
structure Un (fs ex : List Addr) (H H' : Hp) (h h' : Heap) : Prop where
  keep : ∀ b o, h.get? b = some o → H b = none → b ∉ fs → b ∉ ex → h'.get? b = some o
  slot : ∀ b o, h.get? b = some o → H b = none → b ∈ fs → b ∉ ex → ∃ sl, h'.get? b = some { o with slots := sl }
  free : ∀ b o, h.get? b = some o → H b = none → b ∉ ex → H' b = none
  there : ∀ b o, h.get? b = some o → b ∉ ex → ∃ o', h'.get? b = some o'
  tups : ∀ b xs, H b = some (.tup xs) → H' b = some (.tup xs)
  frzs : ∀ b o u, H b = some (.frz o u) → H' b = some (.frz o u)
  tbls : ∀ b ps, H b = some (.tbl ps) → ∃ more, H' b = some (.tbl (ps ++ more))
section
variable {fs fs' ex ex' : List Addr} {H H1 H2 : Hp} {h h1 h2 h' : Heap} {a x e : Addr} {o : HO}
theorem Un.any (u : Un fs ex H H1 h h1) {b : Addr} {ob : Obj} (q : h.get? b = some ob) (n : H b = none) (hx : b ∉ ex) : ∃ sl, h1.get? b = some { ob with slots := sl } := by
  by_cases hb : b ∈ fs
  · exact u.slot b ob q n hb hx
  · exact ⟨ob.slots, u.keep b ob q n hb hx⟩
theorem Un.kept (k : ∀ b u, h.get? b = some u → h'.get? b = some u) : Un fs ex H H h h' :=
  ⟨fun b ob q _ _ _ => k b ob q, fun b ob q _ _ _ => ⟨ob.slots, k b ob q⟩, fun _ _ _ n _ => n, fun b ob q _ => ⟨ob, k b ob q⟩, fun _ _ q => q, fun _ _ _ q => q, fun _ ps q => ⟨#[], by rw [q]; simp⟩⟩
theorem Un.refl : Un fs ex H H h h := Un.kept fun _ _ q => q
theorem Un.laid (k : ∀ b u, h.get? b = some u → h'.get? b = some u) (hp : h.objs.size ≤ a) (hn : H a = none) : Un fs ex H (upd H a o) h h' where
  keep := fun b u q _ _ _ => k b u q
  slot := fun b u q _ _ _ => ⟨u.slots, k b u q⟩
  free := fun b u q n _ => by rw [upd_ne (Nat.ne_of_lt (Nat.lt_of_lt_of_le (Heap.lt_size q) hp))]; exact n
  there := fun b u q _ => ⟨u, k b u q⟩
  tups := fun b xs q => by rw [upd_ne (ne_of_none q hn)]; exact q
  frzs := fun b u xs q => by rw [upd_ne (ne_of_none q hn)]; exact q
  tbls := fun b ps q => ⟨#[], by rw [upd_ne (ne_of_none q hn), q]; simp⟩
theorem Un.write (mu : Mut (H x)) (he : e = x ∨ H e = some (.own x)) (k : ∀ b u, b ≠ e → h.get? b = some u → h'.get? b = some u) (heo : ∃ u, h'.get? e = some u) : Un fs ex H (upd H x o) h h' := by
  have hx : ∀ b, H b = none → b ≠ x := fun b n z => by subst z; rw [n] at mu; exact mu
  have hb : ∀ b, H b = none → b ≠ e := fun b n z => by
    subst z
    rcases he with r | r
    · exact hx b n r
    · rw [n] at r; cases r
  have hm : ∀ b u, H b = some u → ¬ Mut (some u) → b ≠ x := fun b u q nm z => by subst z; rw [q] at mu; exact nm mu
  refine ⟨fun b u q n _ _ => k b u (hb b n) q, fun b u q n _ _ => ⟨u.slots, k b u (hb b n) q⟩, fun b u q n _ => by rw [upd_ne (hx b n)]; exact n, fun b u q _ => ?_,
    fun b xs q => by rw [upd_ne (hm b _ q fun z => z)]; exact q, fun b u xs q => by rw [upd_ne (hm b _ q fun z => z)]; exact q, fun b ps q => ⟨#[], by rw [upd_ne (hm b _ q fun z => z), q]; simp⟩⟩
  by_cases hbe : b = e
  · subst hbe; exact heo
  · exact ⟨u, k b u hbe q⟩
end
noncomputable def trk (h : Heap) (H : Hp) : List Addr := (List.range h.objs.size).filter fun a => (H a).isSome
noncomputable def hidT (h : Heap) (H : Hp) : Heap := PySem.W.hideAll h (trk h H)
theorem hidT_size (h : Heap) (H : Hp) : (hidT h H).objs.size = h.objs.size := PySem.W.hideAll_size _ _
theorem hidT_get {h : Heap} {H : Hp} {b : Addr} {o : Obj} (e : h.get? b = some o) (n : H b = none) : (hidT h H).get? b = some o :=
  PySem.W.hideAll_get _ e fun hm => by
    have q : (H b).isSome = true := (List.mem_filter.mp hm).2
    rw [n] at q; simp at q
theorem of_hidT {h : Heap} {H : Hp} {b : Addr} {o : Obj} (e : (hidT h H).get? b = some o) : h.get? b = some o ∧ H b = none := by
  have e' : h.get? b = some o := PySem.W.of_hideAll (trk h H) e
  refine ⟨e', ?_⟩
  cases q : H b with
  | none => rfl
  | some x =>
    have hm : b ∈ trk h H := List.mem_filter.mpr ⟨List.mem_range.mpr (Heap.lt_size e'), by simp [q]⟩
    have z : (hidT h H).get? b = none := PySem.W.hideAll_none (trk h H) hm
    rw [z] at e; cases e
end L2
namespace L2
open PySem PySem.Spec PyProof.Rows
structure Mod (K : PySem.W.Frag) (mg : Str → Option Value) (base : Heap) : Prop where
  kin : K.In base
  glob : base.Ns mainGlobals mg
  blt : ∃ mb, base.Ns builtinsNs mb ∧ ∀ x : Str, x ≠ "__name__" → mb x = bootBuiltins x
  nolimit : base.NoLimit
structure Cx where
  prog : Program
  w : World
  K : PySem.W.Frag
  mg : Str → Option Value
  base : Heap
  A : Around
  N : List Str
  s₀ : Shared
  H₀ : Hp
  env : Env
  outer : List Env
  stack : List Env
  ex : List Addr
  fn : Str → Bool
  calm : Bool
  pn : List (Addr × Obj)
  xe : Value → Shared → Prop
noncomputable def frs (l : List Env) : List Addr := l.filterMap (·.frame)
noncomputable abbrev Cx.fs (X : Cx) : List Addr := frs X.outer
noncomputable def Vis (sc : Scope) (x : Str) : Prop := sc.names.lookup x = some .local ∨ sc.names.lookup x = some .cell ∨ sc.names.lookup x = some .free
noncomputable def Loc (sc : Scope) (x : Str) : Prop := sc.names.lookup x = some .local ∨ sc.names.lookup x = some .cell
noncomputable def Look (env : Env) (h : Heap) (m : Str → Option Value) (x : Str) (u : Value) : Prop :=
  (env.kindOf x = some .local ∧ m x = some u) ∨ ((env.kindOf x = some .cell ∨ env.kindOf x = some .free) ∧ ∃ c, env.cells.lookup x = some c ∧ h.IsCell c (some u))
structure Cx.Ok (X : Cx) : Prop where
  mod : Mod X.K X.mg X.base
  kind : X.env.scope.kind = .function
  glob : X.env.globals = mainGlobals
  blt : X.env.builtins = builtinsNs
  above : X.s₀.heap.objs.size ≤ X.env.locals
  inj : ∀ x y c, X.env.cells.lookup x = some c → X.env.cells.lookup y = some c → x = y
  has : ∀ x, (X.env.kindOf x = some .cell ∨ X.env.kindOf x = some .free) → ∃ c, X.env.cells.lookup x = some c
  cab : ∀ x c, X.fn x = true → X.env.cells.lookup x = some c → X.s₀.heap.objs.size ≤ c
  hd : X.calm = true → X.A.handled = none
  frames : X.A.frames = some X.stack
  stk : X.stack = X.outer ∨ (X.stack = X.env :: X.outer ∧ X.env.frame = some X.env.locals)
  exf : ∀ b ∈ X.ex, b ≠ X.env.locals ∧ ∀ x c, X.env.cells.lookup x = some c → c ≠ b
  bs : ∀ b o, X.base.get? b = some o → X.s₀.heap.get? b = some o ∧ X.H₀ b = none
  bsz : X.base.objs.size ≤ X.s₀.heap.objs.size
  noex : ∀ b o, X.base.get? b = some o → b ∉ X.ex
  exfs : ∀ b ∈ X.ex, b ∉ X.fs
  funs : X.s₀.heap.FunFrames X.base X.outer
  frf : ∀ b ∈ X.fs, X.H₀ b = none
structure Inv (X : Cx) (pins : List (Addr × Obj)) (σ : List (Option V)) (H : Hp) (s : Shared) : Prop where
  ok : X.Ok
  os : s.os = X.s₀.os
  bare : AllBare s.gens
  base : Un X.fs X.ex X.H₀ H X.s₀.heap s.heap
  loc : ∃ m, s.heap.Ns X.env.locals m ∧ ∀ (i : Nat) (x : Str) (v : V), X.N[i]? = some x → σ[i]? = some (some v) → Vis X.env.scope x → ∃ u, RelV v u ∧ Look X.env s.heap m x u
  cell : ∀ x c, X.env.cells.lookup x = some c → ∃ v, s.heap.IsCell c v
  free : H X.env.locals = none
  freeC : ∀ x c, X.env.cells.lookup x = some c → H c = none
  pin : ∀ p ∈ X.pn ++ pins, s.heap.get? p.1 = some p.2 ∧ H p.1 = none ∧ p.1 ≠ X.env.locals ∧ p.1 ∉ X.fs ∧ ∀ v, p.2.data ≠ .cell v
  hok : HOk X.prog X.w H s.heap
  len : σ.length = X.N.length
section
variable {X : Cx} {pins : List (Addr × Obj)} {σ : List (Option V)} {H H' : Hp} {s : Shared} {h' : Heap}
theorem Cx.Ok.nofr (ok : X.Ok) {b : Addr} {o : Obj} (e : X.base.get? b = some o) : b ∉ X.fs := fun hb => by
  have := (ok.funs.mem hb).1
  rw [e] at this; cases this
theorem Inv.bs (I : Inv X pins σ H s) : ∀ b o, X.base.get? b = some o → s.heap.get? b = some o ∧ H b = none := fun b o e =>
  ⟨I.base.keep b o (I.ok.bs b o e).1 (I.ok.bs b o e).2 (I.ok.nofr e) (I.ok.noex b o e), I.base.free b o (I.ok.bs b o e).1 (I.ok.bs b o e).2 (I.ok.noex b o e)⟩
theorem Inv.bk (I : Inv X pins σ H s) : ∀ b o, X.base.get? b = some o → s.heap.get? b = some o := fun b o e => (I.bs b o e).1
theorem Inv.mod (I : Inv X pins σ H s) : Mod X.K X.mg X.base := I.ok.mod
theorem Inv.kIn (I : Inv X pins σ H s) : X.K.In s.heap := I.ok.mod.kin.keeps I.bk
theorem Inv.nolimit (I : Inv X pins σ H s) : s.heap.NoLimit := I.ok.mod.nolimit.keeps I.bk
theorem Inv.lt (I : Inv X pins σ H s) : X.env.locals < s.heap.objs.size := let ⟨_, hn, _⟩ := I.loc; hn.lt
theorem Inv.sz (I : Inv X pins σ H s) : X.s₀.heap.objs.size ≤ s.heap.objs.size := Nat.le_trans I.ok.above (Nat.le_of_lt I.lt)
theorem Inv.nofs (I : Inv X pins σ H s) {a : Addr} (h : s.heap.objs.size ≤ a) : a ∉ X.fs := fun hb => by
  obtain ⟨_, o, ho, _⟩ := I.ok.funs.mem hb
  exact absurd (Nat.lt_of_lt_of_le (Heap.lt_size ho) (Nat.le_trans I.sz h)) (Nat.lt_irrefl _)
theorem Inv.cne (I : Inv X pins σ H s) : ∀ x c, X.env.cells.lookup x = some c → c ≠ X.env.locals := fun x c e z => by
  obtain ⟨v, o, ho, hd⟩ := I.cell x c e
  obtain ⟨m, ⟨o', es, ep, ho', hd', _⟩, _⟩ := I.loc
  rw [z, ho'] at ho; cases ho; rw [hd'] at hd; cases hd
theorem Inv.funs (I : Inv X pins σ H s) : s.heap.FunFrames X.base X.outer := by
  have all : ∀ (l : List Env), (∀ b ∈ frs l, b ∈ X.fs) → X.s₀.heap.FunFrames X.base l → s.heap.FunFrames X.base l := by
    intro l
    induction l with
    | nil => intro _ _; trivial
    | cons env r ih =>
      intro hs hl
      obtain ⟨hk, ⟨L, o, hf, hn, ho, hd⟩, hr⟩ := hl
      have hL : L ∈ X.fs := hs L (by unfold frs; rw [List.filterMap_cons, hf]; exact List.mem_cons_self)
      obtain ⟨sl, e⟩ := I.base.slot L o ho (I.ok.frf L hL) hL fun z => I.ok.exfs L z hL
      exact ⟨hk, ⟨L, _, hf, hn, e, hd⟩, ih (fun b hb => hs b (by unfold frs; rw [List.filterMap_cons, hf]; exact List.mem_cons_of_mem _ hb)) hr⟩
  exact all X.outer (fun _ hb => hb) I.ok.funs
theorem Inv.stack (I : Inv X pins σ H s) : s.heap.FunFrames X.base X.stack := by
  rcases I.ok.stk with e | ⟨e, hf⟩
  · rw [e]; exact I.funs
  · rw [e]
    obtain ⟨m, hn, _⟩ := I.loc
    refine .cons (by rw [I.ok.kind]; decide) hf hn ?_ I.funs
    exact Heap.get?_none_of_le (Nat.le_trans I.ok.bsz I.ok.above)
theorem Inv.stkSub (I : Inv X pins σ H s) : ∀ b ∈ frs X.stack, b ∈ X.env.locals :: X.fs := fun b hb => by
  rcases I.ok.stk with e | ⟨e, hf⟩
  · rw [e] at hb; exact List.mem_cons_of_mem _ hb
  · rw [e] at hb
    unfold frs at hb
    rw [List.filterMap_cons, hf] at hb
    exact hb
theorem Inv.stkFree (I : Inv X pins σ H s) : ∀ b ∈ frs X.stack, H b = none := fun b hb => by
  rcases List.mem_cons.mp (I.stkSub b hb) with e | hb
  · rw [e]; exact I.free
  · obtain ⟨_, o, ho, _⟩ := I.ok.funs.mem hb
    exact I.base.free b o ho (I.ok.frf b hb) fun z => I.ok.exfs b z hb
theorem Inv.step {g' : Array GenState} {t' : Nat} {d' : Drawn} {ch : List Addr} (I : Inv X pins σ H s)
    (hch : ∀ b ∈ ch, (b ∈ X.ex ∨ X.s₀.heap.objs.size ≤ b) ∧ b ≠ X.env.locals ∧ (∀ x c, X.env.cells.lookup x = some c → c ≠ b) ∧ ∀ p ∈ X.pn ++ pins, p.1 ≠ b)
    (keep : ∀ b o, b ≠ X.env.locals → b ∉ X.fs → b ∉ ch → s.heap.get? b = some o → H b = none → h'.get? b = some o)
    (slot : ∀ b o, b ≠ X.env.locals → b ∈ X.fs → b ∉ ch → s.heap.get? b = some o → H b = none → ∃ sl, h'.get? b = some { o with slots := sl }) (free : ∀ b o, b ∉ ch → s.heap.get? b = some o → H b = none → H' b = none)
    (there : ∀ b o, b ∉ ch → s.heap.get? b = some o → ∃ o', h'.get? b = some o')
    (tups : ∀ b xs, H b = some (.tup xs) → H' b = some (.tup xs)) (frzs : ∀ b o u, H b = some (.frz o u) → H' b = some (.frz o u)) (tbls : ∀ b ps, H b = some (.tbl ps) → ∃ more, H' b = some (.tbl (ps ++ more)))
    (ns : ∀ m, s.heap.Ns X.env.locals m → h'.Ns X.env.locals m) (hok : HOk X.prog X.w H' h') (hg : AllBare g') :
    Inv X pins σ H' { s with heap := h', gens := g', drawn := d', toks := t' } := by
  have neL : ∀ b o, X.s₀.heap.get? b = some o → b ≠ X.env.locals := fun b o e => Nat.ne_of_lt (Nat.lt_of_lt_of_le (Heap.lt_size e) I.ok.above)
  have neC : ∀ b o, X.s₀.heap.get? b = some o → b ∉ X.ex → b ∉ ch := fun b o e hx hb => by
    rcases (hch b hb).1 with z | z
    · exact hx z
    · exact absurd (Nat.lt_of_lt_of_le (Heap.lt_size e) z) (Nat.lt_irrefl _)
  have cellK : ∀ x c, X.env.cells.lookup x = some c → ∀ v, s.heap.IsCell c v → h'.IsCell c v := fun x c e v ⟨o, ho, hd⟩ => by
    have nch : c ∉ ch := fun z => (hch c z).2.2.1 x c e rfl
    by_cases hc : c ∈ X.fs
    · obtain ⟨sl, q⟩ := slot c o (I.cne x c e) hc nch ho (I.freeC x c e)
      exact ⟨_, q, hd⟩
    · exact ⟨o, keep c o (I.cne x c e) hc nch ho (I.freeC x c e), hd⟩
  refine ⟨I.ok, I.os, hg, ⟨fun b o e n hb hx => ?_, fun b o e n hb hx => ?_, fun b o e n hx => ?_, fun b o e hx => ?_, fun b xs e => tups b xs (I.base.tups b xs e), fun b o xs e => frzs b o xs (I.base.frzs b o xs e), fun b ps e => ?_⟩, ?_, fun x c e => ?_, ?_, fun x c e => ?_, fun p hp => ?_, hok, I.len⟩
  · exact keep b o (neL b o e) hb (neC b o e hx) (I.base.keep b o e n hb hx) (I.base.free b o e n hx)
  · obtain ⟨sl, e1⟩ := I.base.slot b o e n hb hx
    obtain ⟨sl', e2⟩ := slot b _ (neL b o e) hb (neC b o e hx) e1 (I.base.free b o e n hx)
    exact ⟨sl', e2⟩
  · obtain ⟨o', e1⟩ := I.base.there b o e hx
    exact free b o' (neC b o e hx) e1 (I.base.free b o e n hx)
  · obtain ⟨o', e1⟩ := I.base.there b o e hx
    exact there b o' (neC b o e hx) e1
  · obtain ⟨m1, e1⟩ := I.base.tbls b ps e
    obtain ⟨m2, e2⟩ := tbls b _ e1
    exact ⟨m1 ++ m2, by rw [e2, Array.append_assoc]⟩
  · obtain ⟨m, hn, hl⟩ := I.loc
    refine ⟨m, ns m hn, fun i x v e1 e2 e3 => ?_⟩
    obtain ⟨u, r, l⟩ := hl i x v e1 e2 e3
    refine ⟨u, r, ?_⟩
    rcases l with l | ⟨k, c, e, z⟩
    · exact .inl l
    · exact .inr ⟨k, c, e, cellK x c e _ z⟩
  · obtain ⟨v, z⟩ := I.cell x c e
    exact ⟨v, cellK x c e v z⟩
  · obtain ⟨m, ⟨o, _, _, ho, _⟩, _⟩ := I.loc
    exact free _ o (fun z => (hch _ z).2.1 rfl) ho I.free
  · obtain ⟨v, o, ho, hd⟩ := I.cell x c e
    exact free c o (fun z => (hch c z).2.2.1 x c e rfl) ho (I.freeC x c e)
  · obtain ⟨e, n, ne, nf, d⟩ := I.pin p hp
    have nch : p.1 ∉ ch := fun z => (hch p.1 z).2.2.2 p hp rfl
    exact ⟨keep p.1 p.2 ne nf nch e n, free p.1 p.2 nch e n, ne, nf, d⟩
theorem Inv.un {t' : Nat} (I : Inv X pins σ H s) (u : Un X.fs [] H H' s.heap h') (hok : HOk X.prog X.w H' h') : Inv X pins σ H' { s with heap := h', toks := t' } := by
  obtain ⟨m, ⟨o, es, ep, ho, r⟩, _⟩ := id I.loc
  obtain ⟨sl, hL⟩ := u.any ho I.free (by simp)
  exact I.step (g' := s.gens) (d' := s.drawn) (ch := []) (fun _ z => nomatch z) (fun b o _ hb _ e n => u.keep b o e n hb (by simp)) (fun b o _ hb _ e n => u.slot b o e n hb (by simp)) (fun b o _ e n => u.free b o e n (by simp)) (fun b o _ e => u.there b o e (by simp)) u.tups u.frzs u.tbls (fun m' hm => by
    obtain ⟨o', es', ep', ho', r'⟩ := hm
    rw [ho] at ho'; cases ho'
    exact ⟨_, es', ep', hL, r'⟩) hok I.bare
theorem Inv.call {g' : Array GenState} {t' : Nat} {d' : Drawn} {ch : List Addr} (I : Inv X pins σ H s) (u : Un (frs X.stack) ch H H' s.heap h') (hok : HOk X.prog X.w H' h') (hg : AllBare g')
    (hch : ∀ b ∈ ch, (b ∈ X.ex ∨ X.s₀.heap.objs.size ≤ b) ∧ b ≠ X.env.locals ∧ (∀ x c, X.env.cells.lookup x = some c → c ≠ b) ∧ ∀ p ∈ X.pn ++ pins, p.1 ≠ b) :
    Inv X pins σ H' { s with heap := h', gens := g', drawn := d', toks := t' } := by
  obtain ⟨m, ⟨o, es, ep, ho, r⟩, _⟩ := id I.loc
  obtain ⟨sl, hL⟩ := u.any ho I.free fun z => (hch _ z).2.1 rfl
  exact I.step (ch := ch) hch (fun b o hL hb hc e n => u.keep b o e n (fun z => (List.mem_cons.mp (I.stkSub b z)).elim hL hb) hc) (fun b o _ _ hc e n => u.any e n hc) (fun b o hc e n => u.free b o e n hc) (fun b o hc e => u.there b o e hc) u.tups u.frzs u.tbls (fun m' hm => by
    obtain ⟨o', es', ep', ho', r'⟩ := hm
    rw [ho] at ho'; cases ho'
    exact ⟨_, es', ep', hL, r'⟩) hok hg
theorem Inv.turned {t' : Nat} {it : Addr} (I : Inv X pins σ H s) (k : ∀ b o, b ≠ it → s.heap.get? b = some o → h'.get? b = some o) (hn : H it = none) (hL : it ≠ X.env.locals)
    (h1 : it ∈ X.ex ∨ X.s₀.heap.objs.size ≤ it) (h2 : ∀ x c, X.env.cells.lookup x = some c → c ≠ it) (h3 : ∀ p ∈ X.pn ++ pins, p.1 ≠ it) : Inv X pins σ H { s with heap := h', toks := t' } := by
  have nit : ∀ b u, H b = some u → b ≠ it := fun b u e z => by rw [z, hn] at e; cases e
  refine I.step (g' := s.gens) (d' := s.drawn) (ch := [it]) (fun b hb => ?_) (fun b o _ _ hc e _ => k b o (fun z => hc (by simp [z])) e) (fun b o _ _ hc e _ => ⟨o.slots, k b o (fun z => hc (by simp [z])) e⟩) (fun _ _ _ _ n => n)
    (fun b o hc e => ⟨o, k b o (fun z => hc (by simp [z])) e⟩) (fun _ _ e => e) (fun _ _ _ e => e) (fun b ps e => ⟨#[], by rw [e]; simp⟩) (fun m hm => ?_) (fun b u e => ?_) I.bare
  · have e : b = it := by simpa using hb
    subst e
    exact ⟨h1, hL, h2, h3⟩
  · obtain ⟨o, es, ep, ho, r⟩ := hm
    exact ⟨o, es, ep, k _ o (Ne.symm hL) ho, r⟩
  · refine (I.hok b u e).stay (fun c v hc q => k c v ?_ q) (fun _ q => q) fun _ _ q => q
    rcases hc with z | z
    · rw [z]; exact nit b u e
    · exact nit c _ z
theorem Inv.tok (I : Inv X pins σ H s) (t : Nat) : Inv X pins σ H { s with toks := t } := I.un (h' := s.heap) (t' := t) Un.refl I.hok
theorem Inv.kept {t' : Nat} (I : Inv X pins σ H s) (k : ∀ b u, s.heap.get? b = some u → h'.get? b = some u) : Inv X pins σ H { s with heap := h', toks := t' } := I.un (Un.kept k) (I.hok.kept k)
theorem Inv.laid {a : Addr} {o : HO} {t' : Nat} (I : Inv X pins σ H s) (k : ∀ b u, s.heap.get? b = some u → h'.get? b = some u) (hp : s.heap.objs.size ≤ a) (new : ObjOk X.prog X.w (upd H a o) h' a o) :
    Inv X pins σ (upd H a o) { s with heap := h', toks := t' } := I.un (Un.laid k hp (I.hok.fresh hp)) (I.hok.laid k hp new)
theorem Inv.write {x e : Addr} {o : HO} {t' : Nat} (I : Inv X pins σ H s) (mu : Mut (H x)) (he : e = x ∨ H e = some (.own x)) (k : ∀ b u, b ≠ e → s.heap.get? b = some u → h'.get? b = some u) (heo : ∃ u, h'.get? e = some u)
    (new : ObjOk X.prog X.w (upd H x o) h' x o) : Inv X pins σ (upd H x o) { s with heap := h', toks := t' } := I.un (Un.write mu he k heo) (I.hok.write mu he k heo new)
theorem Inv.pins_of {pins' : List (Addr × Obj)} (I : Inv X pins σ H s) (h : ∀ p ∈ pins', s.heap.get? p.1 = some p.2 ∧ H p.1 = none ∧ p.1 ≠ X.env.locals ∧ p.1 ∉ X.fs ∧ ∀ v, p.2.data ≠ .cell v) : Inv X pins' σ H s :=
  ⟨I.ok, I.os, I.bare, I.base, I.loc, I.cell, I.free, I.freeC, fun p hp => (List.mem_append.mp hp).elim (fun z => I.pin p (List.mem_append_left _ z)) (h p), I.hok, I.len⟩
theorem nodup_ix {N : List Str} (hN : N.Nodup) {i j : Nat} {x : Str} (a : N[i]? = some x) (b : N[j]? = some x) : i = j := by
  obtain ⟨h1, e1⟩ := List.getElem?_eq_some_iff.mp a
  obtain ⟨h2, e2⟩ := List.getElem?_eq_some_iff.mp b
  exact (List.getElem_inj hN).mp (e1.trans e2.symm)
theorem store_ok2 {M : Model} {A : Around} {E : Value → Shared → Prop} {i : Nat} {x : Str} {v : V} {u : Value} {Q : Unit → Shared → Prop} (I : Inv X pins σ H s) (hN : X.N.Nodup) (hi : X.N[i]? = some x) (hx : Loc X.env.scope x) (r : RelV v u)
    (h : ∀ s', Inv X pins (σ.set i (some v)) H s' → (∃ a, Heap.SameBut a s.heap s'.heap ∧ (a = X.env.locals ∨ X.env.cells.lookup x = some a)) → Q () s') (hf : X.fn x = true ∨ X.env.scope.names.lookup x = some .local := by first | exact .inl rfl | exact .inr rfl | assumption) : wpAny M A (storeName X.env x u) Q E s := by
  obtain ⟨m, hn, hl⟩ := id I.loc
  have hcls : (X.env.scope.kind == .class || (X.env.scope.kind == .module && X.env.locals != X.env.globals)) = false := by rw [I.ok.kind]; rfl
  have hiσ : i < σ.length := by rw [I.len]; exact (List.getElem?_eq_some_iff.mp hi).1
  have cne := I.cne
  have tracked : ∀ {a : Addr} {h' : Heap}, (∃ o, s.heap.get? a = some o ∧ H a = none) → Heap.SameBut a s.heap h' → HOk X.prog X.w H h' := fun {a h'} ha hs b ob e => by
    obtain ⟨_, _, hfree⟩ := ha
    refine (I.hok b ob e).stay (fun c w' hc q => (hs.2 c ?_).trans q) (fun _ q => q) fun _ _ q => q
    rintro rfl
    rcases hc with rfl | hc
    · rw [hfree] at e; cases e
    · rw [hfree] at hc; cases hc
  rcases hx with hk | hk
  · refine wpAny_storeName_local hk hn (fun h' hn' hs => ?_) hcls
    obtain ⟨oL, _, _, hoL, _⟩ := id hn
    refine h _ ⟨I.ok, I.os, I.bare, ⟨fun b o e n hb hx => ?_, fun b o e n hb hx => ?_, I.base.free, fun b o e hx => ?_, I.base.tups, I.base.frzs, I.base.tbls⟩, ⟨_, hn', fun j y v' e1 e2 e3 => ?_⟩, fun y c e => ?_, I.free, I.freeC, fun p hp => ?_, tracked ⟨oL, hoL, I.free⟩ hs, by simpa using I.len⟩ ⟨_, hs, .inl rfl⟩
    · exact (hs.2 b (Nat.ne_of_lt (Nat.lt_of_lt_of_le (Heap.lt_size e) I.ok.above))).trans (I.base.keep b o e n hb hx)
    · obtain ⟨sl, e1⟩ := I.base.slot b o e n hb hx
      exact ⟨sl, (hs.2 b (Nat.ne_of_lt (Nat.lt_of_lt_of_le (Heap.lt_size e) I.ok.above))).trans e1⟩
    · obtain ⟨o', e1⟩ := I.base.there b o e hx
      exact ⟨o', (hs.2 b (Nat.ne_of_lt (Nat.lt_of_lt_of_le (Heap.lt_size e) I.ok.above))).trans e1⟩
    · by_cases hj : j = i
      · subst hj
        rw [hi] at e1; cases e1
        rw [List.getElem?_set_self hiσ] at e2
        cases e2
        exact ⟨u, r, .inl ⟨hk, by simp⟩⟩
      · rw [List.getElem?_set_ne (Ne.symm hj)] at e2
        obtain ⟨u', r', q⟩ := hl j y v' e1 e2 e3
        refine ⟨u', r', ?_⟩
        rcases q with ⟨k, e⟩ | ⟨k, c, e, z⟩
        · refine .inl ⟨k, ?_⟩
          have : y ≠ x := fun e => hj (nodup_ix hN e1 (e ▸ hi))
          simp [this, e]
        · exact .inr ⟨k, c, e, z.sameBut hs (cne y c e)⟩
    · obtain ⟨w', z⟩ := I.cell y c e
      exact ⟨w', z.sameBut hs (cne y c e)⟩
    · obtain ⟨e, n, ne, nf, d⟩ := I.pin p hp
      exact ⟨(hs.2 p.1 ne).trans e, n, ne, nf, d⟩
  · have hfn : X.fn x = true := by
      rcases hf with z | z
      · exact z
      · rw [z] at hk; cases hk
    obtain ⟨c, hc⟩ := I.ok.has x (.inl hk)
    obtain ⟨w', z⟩ := I.cell x c hc
    refine wpAny_storeName_cell I.ok.kind hk hc z (fun h' hc' hs => ?_)
    obtain ⟨oc, hoc, hocd⟩ := id z
    refine h { s with heap := h' } ⟨I.ok, I.os, I.bare, ⟨fun b o e n hb hx => ?_, fun b o e n hb hx => ?_, I.base.free, fun b o e hx => ?_, I.base.tups, I.base.frzs, I.base.tbls⟩, ⟨m, hn.sameBut hs (Ne.symm (cne x c hc)), fun j y v' e1 e2 e3 => ?_⟩, fun y c' e => ?_, I.free, I.freeC, fun p hp => ?_, tracked ⟨oc, hoc, I.freeC x c hc⟩ hs, by simpa using I.len⟩ ⟨c, hs, .inr hc⟩
    · exact (hs.2 b (Nat.ne_of_lt (Nat.lt_of_lt_of_le (Heap.lt_size e) (I.ok.cab x c hfn hc)))).trans (I.base.keep b o e n hb hx)
    · obtain ⟨sl, e1⟩ := I.base.slot b o e n hb hx
      exact ⟨sl, (hs.2 b (Nat.ne_of_lt (Nat.lt_of_lt_of_le (Heap.lt_size e) (I.ok.cab x c hfn hc)))).trans e1⟩
    · obtain ⟨o', e1⟩ := I.base.there b o e hx
      exact ⟨o', (hs.2 b (Nat.ne_of_lt (Nat.lt_of_lt_of_le (Heap.lt_size e) (I.ok.cab x c hfn hc)))).trans e1⟩
    · by_cases hj : j = i
      · subst hj
        rw [hi] at e1; cases e1
        rw [List.getElem?_set_self hiσ] at e2
        cases e2
        exact ⟨u, r, .inr ⟨.inl hk, c, hc, hc'⟩⟩
      · rw [List.getElem?_set_ne (Ne.symm hj)] at e2
        obtain ⟨u', r', q⟩ := hl j y v' e1 e2 e3
        refine ⟨u', r', ?_⟩
        rcases q with q | ⟨k, c', e, z'⟩
        · exact .inl q
        · refine .inr ⟨k, c', e, z'.sameBut hs ?_⟩
          rintro rfl
          exact hj (nodup_ix hN e1 (I.ok.inj _ _ _ e hc ▸ hi))
    · by_cases hcc : c' = c
      · subst hcc; exact ⟨_, hc'⟩
      · obtain ⟨w2, z2⟩ := I.cell y c' e
        exact ⟨w2, z2.sameBut hs hcc⟩
    · obtain ⟨e, n, ne, nf, d⟩ := I.pin p hp
      refine ⟨(hs.2 p.1 ?_).trans e, n, ne, nf, d⟩
      intro q
      rw [q, hoc] at e
      have q' : oc = p.2 := Option.some.inj e
      exact d w' (by rw [← q']; exact hocd)
theorem store_ok {M : Model} {A : Around} {E : Value → Shared → Prop} {i : Nat} {x : Str} {v : V} {u : Value} {Q : Unit → Shared → Prop} (I : Inv X pins σ H s) (hN : X.N.Nodup) (hi : X.N[i]? = some x) (hx : Loc X.env.scope x) (r : RelV v u)
    (h : ∀ s', Inv X pins (σ.set i (some v)) H s' → Q () s') (hf : X.fn x = true ∨ X.env.scope.names.lookup x = some .local := by first | exact .inl rfl | exact .inr rfl | assumption) : wpAny M A (storeName X.env x u) Q E s :=
  store_ok2 I hN hi hx r (fun s' I' _ => h s' I') hf
theorem Inv.call' {s' : Shared} {ch : List Addr} (I : Inv X pins σ H s) (ho : s'.os = s.os) (u : Un (frs X.stack) ch H H' s.heap s'.heap) (hok : HOk X.prog X.w H' s'.heap) (hg : AllBare s'.gens)
    (hch : ∀ b ∈ ch, (b ∈ X.ex ∨ X.s₀.heap.objs.size ≤ b) ∧ b ≠ X.env.locals ∧ (∀ x c, X.env.cells.lookup x = some c → c ≠ b) ∧ ∀ p ∈ X.pn ++ pins, p.1 ≠ b) : Inv X pins σ H' s' := by
  obtain ⟨h', g', d', t', o'⟩ := s'
  have e : o' = s.os := ho
  subst e
  exact I.call (g' := g') (t' := t') (d' := d') u hok hg hch
end
noncomputable abbrev XK := Value → Option Addr → Hp → Prop
noncomputable abbrev St := List (Option V)
noncomputable abbrev VK := V → Hp → Prop
noncomputable abbrev TE := St → Hp → VK → Prop
noncomputable abbrev TT := St → Hp → (Bool → Hp → Prop) → Prop
noncomputable abbrev TA := St → Hp → (List V → Hp → Prop) → Prop
structure Ends where
  nx : St → Hp → Prop
  rt : VK
  bk : St → Hp → Prop := fun _ _ => False
  ct : St → Hp → Prop := fun _ _ => False
noncomputable abbrev TS := Ends → St → Hp → Prop
noncomputable def EP (X : Cx) (pins : List (Addr × Obj)) (σ : St) (Q : VK) (u : Value) (s' : Shared) : Prop := ∃ v H', Inv X pins σ H' s' ∧ RelV v u ∧ Q v H'
noncomputable def TP (X : Cx) (pins : List (Addr × Obj)) (σ : St) (Q : Bool → Hp → Prop) (b : Bool) (s' : Shared) : Prop := ∃ H', Inv X pins σ H' s' ∧ Q b H'
noncomputable def AP (X : Cx) (pins : List (Addr × Obj)) (σ : St) (Q : List V → Hp → Prop) (us : List Value) (s' : Shared) : Prop := ∃ vs H', Inv X pins σ H' s' ∧ Vals vs us ∧ Q vs H'
noncomputable def SP (X : Cx) (pins : List (Addr × Obj)) (D : Ends) (f : Flow) (s' : Shared) : Prop :=
  match f with
  | .next => ∃ σ' H', Inv X pins σ' H' s' ∧ D.nx σ' H'
  | .brk => ∃ σ' H', Inv X pins σ' H' s' ∧ D.bk σ' H'
  | .cont => ∃ σ' H', Inv X pins σ' H' s' ∧ D.ct σ' H'
  | .ret u => ∃ v σ' H', Inv X pins σ' H' s' ∧ RelV v u ∧ D.rt v H'
noncomputable def PE (X : Cx) (e : Expr) (t : TE) : Prop :=
  ∀ (pins : List (Addr × Obj)) (s : Shared) (σ : St) (H : Hp) (Q : VK), Inv X pins σ H s → t σ H Q → wpAny (model X.prog X.w) X.A (eval e X.env) (EP X pins σ Q) X.xe s
noncomputable def PT (X : Cx) (e : Expr) (t : TT) : Prop :=
  ∀ (pins : List (Addr × Obj)) (s : Shared) (σ : St) (H : Hp) (Q : Bool → Hp → Prop), Inv X pins σ H s → t σ H Q → wpAny (model X.prog X.w) X.A (isTrue e X.env (eval e X.env)) (TP X pins σ Q) X.xe s
noncomputable def PW (X : Cx) (e : Expr) (t : TT) : Prop :=
  ∀ (whole : Sem Value) (pins : List (Addr × Obj)) (s : Shared) (σ : St) (H : Hp) (Q : Bool → Hp → Prop), Inv X pins σ H s → t σ H Q → wpAny (model X.prog X.w) X.A (isTrue e X.env whole) (TP X pins σ Q) X.xe s
theorem PW.pt {X : Cx} {e : Expr} {t : TT} (h : PW X e t) : PT X e t := h _
noncomputable def PA (X : Cx) (es : List Expr) (t : TA) : Prop :=
  ∀ (pos : Pos) (pins : List (Addr × Obj)) (s : Shared) (σ : St) (H : Hp) (Q : List V → Hp → Prop), Inv X pins σ H s → t σ H Q → wpAny (model X.prog X.w) X.A (spliced (backTo pos (starEach es X.env))) (AP X pins σ Q) X.xe s
noncomputable def PS (X : Cx) (st : Stmt) (t : TS) : Prop :=
  ∀ (pins : List (Addr × Obj)) (s : Shared) (σ : St) (H : Hp) (D : Ends), Inv X pins σ H s → t D σ H → wpAny (model X.prog X.w) X.A (exec st X.env) (SP X pins D) X.xe s
noncomputable def PSs (X : Cx) (st : List Stmt) (t : TS) : Prop :=
  ∀ (pins : List (Addr × Obj)) (s : Shared) (σ : St) (H : Hp) (D : Ends), Inv X pins σ H s → t D σ H → wpAny (model X.prog X.w) X.A (execs st X.env) (SP X pins D) X.xe s
theorem thn {α : Type} {t : Sem α} {Q Q' : α → Shared → Prop} {M : Model} {A : Around} {E : Value → Shared → Prop} {s : Shared} (h : wpAny M A t Q E s) (hQ : ∀ a s, Q a s → Q' a s) : wpAny M A t Q' E s := wpAny_mono h hQ fun _ _ x => x
end L2
namespace L2
open PySem PySem.Spec PyProof.Rows
section
variable {X : Cx}
noncomputable def tVar (i : Nat) : TE := fun σ H Q => match σ[i]? with | some (some v) => Q v H | _ => False
theorem tVar_ex {i : Nat} {σ : St} {H : Hp} {Q : VK} (h : tVar i σ H Q) : ∃ v, σ[i]? = some (some v) ∧ Q v H := by
  unfold tVar at h
  split at h
  · rename_i v e; exact ⟨v, e, h⟩
  · exact h.elim
noncomputable def tC (v : V) : TE := fun _ H Q => Q v H
theorem pe_var {i : Nat} {x : Str} {pos : Pos} (hN : X.N[i]? = some x) (hv : Vis X.env.scope x) (hd : (x == ("__debug__" : Str)) = false := by decide) (hcd : (x == ("__classdict__" : Str)) = false := by decide) : PE X (.Name x pos) (tVar i) := by
  intro pins s σ H Q I h
  obtain ⟨v, e, h⟩ := tVar_ex h
  obtain ⟨m, hn, hl⟩ := I.loc
  obtain ⟨u, r, l⟩ := hl i x v hN e hv
  have fin : EP X pins σ Q u s := ⟨v, H, I, r, h⟩
  rcases l with ⟨hk, hm⟩ | ⟨hk, c, hc, hcell⟩
  · exact wpAny_Name (wpAny_loadName_local I.ok.kind hk hn hm fin) hd
  · rcases hk with hk | hk
    · exact wpAny_Name (wpAny_loadName_cell I.ok.kind hk hc hcell fin) hd
    · exact wpAny_Name (wpAny_loadName_free I.ok.kind hk hc hcell fin hcd) hd
theorem pe_int {i j pos} : PE X (.Constant (.int i) j pos) (tC (.int i)) := fun _ _ _ H _ I h => wpAny_Constant_int ⟨.int i, H, I.tok _, ⟨_, rfl⟩, h⟩
theorem pe_bl {b j pos} : PE X (.Constant (.bool b) j pos) (tC (.bl b)) := fun _ _ _ H _ I h => Constant_bool ⟨.bl b, H, I, rfl, h⟩
theorem pe_non {j pos} : PE X (.Constant .none j pos) (tC .non) := fun _ _ _ H _ I h => Constant_none ⟨.non, H, I, rfl, h⟩
theorem pe_str {x j pos} : PE X (.Constant (.str x) j pos) (tC (.str x)) := fun _ _ _ H _ I h => Calls.Constant_str ⟨.str x, H, I.tok _, ⟨_, rfl⟩, h⟩
noncomputable def Gl (X : Cx) (x : Str) : Prop := X.env.kindOf x = some .globalImplicit
theorem ld_glob {E : Value → Shared → Prop} {pins : List (Addr × Obj)} {s : Shared} {σ : St} {H : Hp} {x : Str} {u : Value} {pos : Pos} {Q : Value → Shared → Prop} (I : Inv X pins σ H s) (hg : Gl X x) (hm : X.mg x = some u) (h : Q u s)
    (hd : (x == ("__debug__" : Str)) = false := by decide) : wpAny (model X.prog X.w) X.A (eval (.Name x pos) X.env) Q E s :=
  Calls.Name_function_global I.ok.kind hg (Calls.loadGlobal_global (by rw [I.ok.glob]; exact I.mod.glob.keeps I.bk) hm h) hd
theorem ld_blt {E : Value → Shared → Prop} {pins : List (Addr × Obj)} {s : Shared} {σ : St} {H : Hp} {x : Str} {u : Value} {pos : Pos} {Q : Value → Shared → Prop} (I : Inv X pins σ H s) (hg : Gl X x) (hm : X.mg x = none) (hv : bootBuiltins x = some u) (h : Q u s)
    (hn : x ≠ "__name__" := by decide) (hd : (x == ("__debug__" : Str)) = false := by decide) : wpAny (model X.prog X.w) X.A (eval (.Name x pos) X.env) Q E s := by
  obtain ⟨mb, h1, h2⟩ := I.mod.blt
  exact Calls.Name_function_global I.ok.kind hg (Calls.loadGlobal_builtin (by rw [I.ok.glob]; exact I.mod.glob.keeps I.bk) hm (by rw [I.ok.blt]; exact h1.keeps I.bk) ((h2 x hn).trans hv) h) hd
theorem pe_glob {x : Str} {v : V} {u : Value} {pos : Pos} (hg : Gl X x) (hm : X.mg x = some u) (r : RelV v u) (hd : (x == ("__debug__" : Str)) = false := by decide) : PE X (.Name x pos) (tC v) :=
  fun _ _ _ H _ I h => ld_glob I hg hm ⟨v, H, I, r, h⟩ hd
theorem pe_bltn {x : Str} {v : V} {u : Value} {pos : Pos} (hg : Gl X x) (hm : X.mg x = none) (hv : bootBuiltins x = some u) (r : RelV v u) (hn : x ≠ "__name__" := by decide) (hd : (x == ("__debug__" : Str)) = false := by decide) : PE X (.Name x pos) (tC v) :=
  fun _ _ _ H _ I h => ld_blt I hg hm hv ⟨v, H, I, r, h⟩ hn hd
variable {a b : Expr} {ta tb : TE} {pos : Pos}
noncomputable def tB (t : TE) : TT := fun σ H Q => t σ H fun x H1 => ∃ c, x = .bl c ∧ Q c H1
theorem pt_val {e : Expr} {t : TE} (h : PE X e t) (he : ∀ whole, isTrue e X.env whole = (do let v ← whole; standAt e.pos; holding [v] (truthy v)) := by intro _; rfl) : PT X e (tB t) := by
  intro pins s σ H Q I hw
  refine isTrue_plain (thn (h pins s σ H _ I hw) fun v s1 ⟨x, H1, I1, r1, q1⟩ => ?_) (he _)
  obtain ⟨d, rfl, q⟩ := q1
  cases r1
  exact wpAny_truthy_bool ⟨H1, I1, q⟩
variable {tA tB' : TT} {rest : List Expr}
noncomputable def tAnd (t u : TT) : TT := fun σ H Q => t σ H fun c H1 => if c = true then u σ H1 Q else Q false H1
noncomputable def tOr (t u : TT) : TT := fun σ H Q => t σ H fun c H1 => if c = true then Q true H1 else u σ H1 Q
noncomputable def tNot (t : TT) : TT := fun σ H Q => t σ H fun c H1 => Q (!c) H1
theorem pw_and1 (ha : PT X a tA) : PW X (.BoolOp .And [a] pos) tA := by
  intro wh pins s σ H Q I h
  refine isTrue_and (thn (ha pins s σ H Q I h) fun c s1 e => ?_)
  cases c with
  | true => exact isTrue_and_nil e
  | false => exact e
theorem pw_or1 (ha : PT X a tA) : PW X (.BoolOp .Or [a] pos) tA := by
  intro wh pins s σ H Q I h
  refine isTrue_or (thn (ha pins s σ H Q I h) fun c s1 e => ?_)
  cases c with
  | false => exact isTrue_or_nil e
  | true => exact e
theorem pw_and (ha : PT X a tA) (hb : PW X (.BoolOp .And (b :: rest) pos) tB') : PW X (.BoolOp .And (a :: b :: rest) pos) (tAnd tA tB') := by
  intro wh pins s σ H Q I h
  refine isTrue_and (thn (ha pins s σ H _ I h) fun c s1 ⟨H1, I1, q1⟩ => ?_)
  cases c with
  | true => exact hb wh pins s1 σ H1 Q I1 q1
  | false => exact ⟨H1, I1, q1⟩
theorem pw_or (ha : PT X a tA) (hb : PW X (.BoolOp .Or (b :: rest) pos) tB') : PW X (.BoolOp .Or (a :: b :: rest) pos) (tOr tA tB') := by
  intro wh pins s σ H Q I h
  refine isTrue_or (thn (ha pins s σ H _ I h) fun c s1 ⟨H1, I1, q1⟩ => ?_)
  cases c with
  | true => exact ⟨H1, I1, q1⟩
  | false => exact hb wh pins s1 σ H1 Q I1 q1
theorem pt_not (ha : PT X a tA) : PT X (.UnaryOp .Not a pos) (tNot tA) := by
  intro pins s σ H Q I h
  exact isTrue_not (ha pins s σ H (fun c H1 => Q (!c) H1) I h)
noncomputable def tAndV (ta tb : TE) : TE := fun σ H Q => ta σ H fun x H1 => ∃ c, x = .bl c ∧ if c = true then tb σ H1 Q else Q (.bl false) H1
noncomputable def tOrV (ta tb : TE) : TE := fun σ H Q => ta σ H fun x H1 => ∃ c, x = .bl c ∧ if c = true then Q (.bl true) H1 else tb σ H1 Q
noncomputable def tNotV (ta : TE) : TE := fun σ H Q => ta σ H fun x H1 => ∃ c, x = .bl c ∧ Q (.bl (!c)) H1
theorem pe_one {op} {t : TE} (h : PE X a t) : PE X (.BoolOp op [a] pos) t := fun pins s σ H Q I hw => BoolOp_one (h pins s σ H Q I hw)
theorem pe_and (ha : PE X a ta) (hb : PE X (.BoolOp .And (b :: rest) pos) tb) : PE X (.BoolOp .And (a :: b :: rest) pos) (tAndV ta tb) := by
  intro pins s σ H Q I h
  refine BoolOp_and (thn (ha pins s σ H _ I h) fun v s1 ⟨x, H1, I1, r1, q1⟩ => ?_)
  obtain ⟨c, rfl, q1⟩ := q1
  cases r1
  refine wpAny_truthy_bool ?_
  cases c with
  | true => exact hb pins s1 σ H1 Q I1 q1
  | false => exact ⟨.bl false, H1, I1, rfl, q1⟩
theorem pe_not (ha : PE X a ta) : PE X (.UnaryOp .Not a pos) (tNotV ta) := by
  intro pins s σ H Q I h
  refine UnaryOp_ (thn (ha pins s σ H _ I h) fun v s1 ⟨x, H1, I1, r1, q1⟩ => ?_)
  obtain ⟨c, rfl, q1⟩ := q1
  cases r1
  exact not_of (wpAny_truthy_bool ⟨.bl (!c), H1, I1, rfl, q1⟩)
noncomputable def tIf (t : TT) (ta tb : TE) : TE := fun σ H Q => t σ H fun c H1 => if c = true then ta σ H1 Q else tb σ H1 Q
end
end L2
namespace L2
open PySem PySem.Spec PyProof.Rows
noncomputable def SqL (K : PySem.W.Frag) (H : Hp) (a : Addr) (xs : List V) : Prop :=
  Rd H a (.lst xs) ∨
    ∃ (o : Obj) (its : Array Value) (n : Nat), K.lookup a = some o ∧ o.cls = .type "list" ∧ o.dict = none ∧ o.data = .seq its n ∧ its.size ≤ sizeLine ∧ Vals xs its.toList
noncomputable def SqT (K : PySem.W.Frag) (H : Hp) (a : Addr) (xs : List V) : Prop :=
  Rd H a (.tup xs) ∨
    ∃ (o : Obj) (its : Array Value) (n : Nat), K.lookup a = some o ∧ o.cls = .type "tuple" ∧ o.data = .seq its n ∧ its.size ≤ sizeLine ∧ Vals xs its.toList
noncomputable def absV : Value → Option V
  | .none => some .non
  | .bool b => some (.bl b)
  | .int i _ => some (.int i)
  | .str x _ => some (.str x)
  | .bytes b _ => some (.byt b)
  | .float b _ => some (.flt b)
  | .ref a => some (.ref a)
  | .type n => some (.ty n)
  | _ => none
theorem RelV.abs {x : V} {u : Value} (r : RelV x u) : absV u = some x := by
  cases x with
  | non => cases r; rfl
  | bl _ => cases r; rfl
  | int _ => obtain ⟨t, rfl⟩ := r; rfl
  | str _ => obtain ⟨t, rfl⟩ := r; rfl
  | byt _ => obtain ⟨t, rfl⟩ := r; rfl
  | flt _ => obtain ⟨t, rfl⟩ := r; rfl
  | ref _ => cases r; rfl
  | ty _ => cases r; rfl
theorem RelV.inj {x y : V} {u : Value} (r : RelV x u) (q : RelV y u) : x = y := Option.some.inj (r.abs.symm.trans q.abs)
theorem Vals.inj : ∀ {xs ys : List V} {us : List Value}, Vals xs us → Vals ys us → xs = ys
  | _, _, _, .nil, .nil => rfl
  | _, _, _, .cons r t, .cons r' t' => by rw [r.inj r', Vals.inj t t']
section
variable {X : Cx} {pins : List (Addr × Obj)} {σ : St} {H : Hp} {s : Shared} {a : Addr} {xs ys : List V}
theorem SqL.of {K : PySem.W.Frag} (h : H a = some (.lst xs)) : SqL K H a xs := .inl (.inl h)
theorem SqT.of {K : PySem.W.Frag} (h : H a = some (.tup xs)) : SqT K H a xs := .inl (.inl h)
theorem Inv.list (I : Inv X pins σ H s) (h : SqL X.K H a xs) : ∃ its : List Value, Vals xs its ∧ PlainL s.heap a its.toArray ∧ xs.length ≤ sizeLine := by
  rcases h with h | ⟨o, its, n, hk, hc, hd, hs, hz, r⟩
  · obtain ⟨z, its, n, r, e⟩ := h.ok I.hok
    exact ⟨its, r, ⟨_, n, e, rfl, rfl, rfl⟩, z⟩
  · refine ⟨its.toList, r, ⟨o, n, I.kIn a o hk, hc, hd, by simpa using hs⟩, ?_⟩
    have e := r.length
    simp only [Array.length_toList] at e
    omega
theorem Inv.tuple (I : Inv X pins σ H s) (h : SqT X.K H a xs) : ∃ its : List Value, Vals xs its ∧ IsTup s.heap a its.toArray ∧ xs.length ≤ sizeLine := by
  rcases h with h | ⟨o, its, n, hk, hc, hs, hz, r⟩
  · obtain ⟨z, its, r, p⟩ := h.ok I.hok
    exact ⟨its, r, p, z⟩
  · refine ⟨its.toList, r, ⟨o, I.kIn a o hk, hc, n, by simpa using hs⟩, ?_⟩
    have e := r.length
    simp only [Array.length_toList] at e
    omega
theorem Inv.list_inj (I : Inv X pins σ H s) (h : SqL X.K H a xs) (h' : SqL X.K H a ys) : xs = ys := by
  obtain ⟨its, r, ⟨o, n, e, _, _, d⟩, _⟩ := I.list h
  obtain ⟨its', r', ⟨o', n', e', _, _, d'⟩, _⟩ := I.list h'
  rw [e] at e'; cases e'
  rw [d] at d'
  injection d' with d1 _
  have : its = its' := by simpa using congrArg Array.toList d1
  subst this
  exact r.inj r'
end
noncomputable abbrev Cx.wish (X : Cx) (E : Value → Shared → Prop) : Cx := { X with xe := E }
noncomputable abbrev Cx.nox (X : Cx) : Cx := X.wish fun _ _ => False
theorem Cx.Ok.wish {X : Cx} (ok : X.Ok) (E : Value → Shared → Prop) : (X.wish E).Ok :=
  ⟨ok.mod, ok.kind, ok.glob, ok.blt, ok.above, ok.inj, ok.has, ok.cab, ok.hd, ok.frames, ok.stk, ok.exf, ok.bs, ok.bsz, ok.noex, ok.exfs, ok.funs, ok.frf⟩
theorem Cx.Ok.unwish {X : Cx} {E : Value → Shared → Prop} (ok : (X.wish E).Ok) : X.Ok :=
  ⟨ok.mod, ok.kind, ok.glob, ok.blt, ok.above, ok.inj, ok.has, ok.cab, ok.hd, ok.frames, ok.stk, ok.exf, ok.bs, ok.bsz, ok.noex, ok.exfs, ok.funs, ok.frf⟩
section
variable {X : Cx} {pins : List (Addr × Obj)} {σ : St} {H : Hp} {s : Shared} {E : Value → Shared → Prop}
theorem Inv.wish (I : Inv X pins σ H s) (E : Value → Shared → Prop) : Inv (X.wish E) pins σ H s := ⟨I.ok.wish E, I.os, I.bare, I.base, I.loc, I.cell, I.free, I.freeC, I.pin, I.hok, I.len⟩
theorem Inv.unwish (I : Inv (X.wish E) pins σ H s) : Inv X pins σ H s := ⟨I.ok.unwish, I.os, I.bare, I.base, I.loc, I.cell, I.free, I.freeC, I.pin, I.hok, I.len⟩
theorem SP.unwish {D : Ends} {f : Flow} {s' : Shared} (h : SP (X.wish E) pins D f s') : SP X pins D f s' := by
  cases f with
  | next => obtain ⟨σ', H', I, q⟩ := h; exact ⟨σ', H', I.unwish, q⟩
  | brk => obtain ⟨σ', H', I, q⟩ := h; exact ⟨σ', H', I.unwish, q⟩
  | cont => obtain ⟨σ', H', I, q⟩ := h; exact ⟨σ', H', I.unwish, q⟩
  | ret u => obtain ⟨v, σ', H', I, r, q⟩ := h; exact ⟨v, σ', H', I.unwish, r, q⟩
theorem PSs.nox {st : List Stmt} {t : TS} (h : PSs X.nox st t) : PSs X st t := fun pins s σ H D I hw =>
  wpAny_mono (h pins s σ H D (I.wish _) hw) (fun _ _ q => q.unwish) fun _ _ z => False.elim z
end
section
variable {X : Cx} {st : Stmt} {rest : List Stmt} {t u : TS} {e : Expr} {te : TE} {pos : Pos}
noncomputable def tNext : TS := fun D σ H => D.nx σ H
noncomputable def tSeq (t u : TS) : TS := fun D σ H => t { D with nx := u D } σ H
theorem pss_nil : PSs X [] tNext := fun _ _ σ H _ I h => wpAny_execs_nil ⟨σ, H, I, h⟩
theorem pss_cons (h1 : PS X st t) (h2 : PSs X rest u) : PSs X (st :: rest) (tSeq t u) := by
  intro pins s σ H D I h
  refine wpAny_execs_cons (thn (h1 pins s σ H { D with nx := u D } I h) fun f s1 q => ?_)
  cases f with
  | next =>
    obtain ⟨σ', H', I', q⟩ := q
    exact h2 pins s1 σ' H' D I' q
  | ret v => exact q
  | brk => exact q
  | cont => exact q
theorem pss_one (h1 : PS X st t) : PSs X [st] t := by
  intro pins s σ H D I h
  refine wpAny_execs_cons (thn (h1 pins s σ H D I h) fun f s1 q => ?_)
  cases f with
  | next => exact wpAny_execs_nil q
  | ret v => exact q
  | brk => exact q
  | cont => exact q
noncomputable def tBreak : TS := fun D σ H => D.bk σ H
theorem Inv.quiet {pins : List (Addr × Obj)} {σ : St} {H : Hp} {s : Shared} (I : Inv X pins σ H s) : interactive X.env = false := by simp [interactive, I.ok.kind]
noncomputable def tDrop (te : TE) : TS := fun D σ H => te σ H fun _ H1 => D.nx σ H1
theorem ps_expr (he : PE X e te) (hs : swapsWith e none pos.line X.env = pure false := by rfl) : PS X (.Expr e pos) (tDrop te) := by
  intro pins s σ H D I h
  exact wpAny_Expr_any (thn (he pins s σ H _ I h) fun v s1 ⟨x, H1, I1, r1, q1⟩ => ⟨σ, H1, I1, q1⟩) I.quiet hs
noncomputable def tRet (te : TE) : TS := fun D σ H => te σ H D.rt
theorem ps_ret (he : PE X e te) : PS X (.Return (some e) pos) (tRet te) := by
  intro pins s σ H D I h
  exact wpAny_Return_some (thn (he pins s σ H _ I h) fun v s1 ⟨x, H1, I1, r1, q1⟩ => ⟨x, σ, H1, I1, r1, q1⟩)
noncomputable def tRetN : TS := fun D _ H => D.rt .non H
noncomputable def tIfS (c : TT) (t u : TS) : TS := fun D σ H => c σ H fun b H1 => if b = true then t D σ H1 else u D σ H1
theorem ps_if {c : Expr} {a b : List Stmt} {tc : TT} (hc : PT X c tc) (ha : PSs X a t) (hb : PSs X b u) : PS X (.If c a b pos) (tIfS tc t u) := by
  intro pins s σ H D I h
  refine wpAny_If (thn (hc pins s σ H _ I h) fun d s1 ⟨H1, I1, q1⟩ => ?_)
  cases d with
  | true => exact ha pins s1 σ H1 D I1 q1
  | false => exact hb pins s1 σ H1 D I1 q1
end
noncomputable abbrev TG := V → St → Hp → (St → Hp → Prop) → Prop
noncomputable abbrev TGs := List V → St → Hp → (St → Hp → Prop) → Prop
noncomputable def PG (X : Cx) (target : Expr) (t : TG) : Prop :=
  ∀ (pins : List (Addr × Obj)) (s : Shared) (σ : St) (H : Hp) (v : V) (u : Value) (Q : St → Hp → Prop), Inv X pins σ H s → RelV v u → t v σ H Q →
    wpAny (model X.prog X.w) X.A (assign target X.env u) (fun _ s' => ∃ σ' H', Inv X pins σ' H' s' ∧ Q σ' H') X.xe s
noncomputable def PGs (X : Cx) (ts : List Expr) (t : TGs) : Prop :=
  ∀ (pins : List (Addr × Obj)) (s : Shared) (σ : St) (H : Hp) (vs : List V) (us : List Value) (Q : St → Hp → Prop), Inv X pins σ H s → Vals vs us → t vs σ H Q →
    wpAny (model X.prog X.w) X.A (assignInOrder ((assignEach ts X.env).map (·.2)) us) (fun _ s' => ∃ σ' H', Inv X pins σ' H' s' ∧ Q σ' H') X.xe s
noncomputable abbrev TSet := V → V → V → Hp → (Hp → Prop) → Prop
noncomputable def PSet (X : Cx) (t : TSet) : Prop :=
  ∀ (pins : List (Addr × Obj)) (s : Shared) (σ : St) (H : Hp) (o i v : V) (ov iv u : Value) (Q : Hp → Prop), Inv X pins σ H s → RelV o ov → RelV i iv → RelV v u → t o i v H Q →
    wpAny (model X.prog X.w) X.A (setItem ov iv u) (fun _ s' => ∃ H', Inv X pins σ H' s' ∧ Q H') X.xe s
noncomputable abbrev TIp := V → V → Hp → VK → Prop
noncomputable def PIp (X : Cx) (op : Operator) (t : TIp) : Prop :=
  ∀ (pins : List (Addr × Obj)) (s : Shared) (σ : St) (H : Hp) (x y : V) (v u : Value) (Q : VK), Inv X pins σ H s → RelV x v → RelV y u → t x y H Q →
    wpAny (model X.prog X.w) X.A (inplaceOp op v u) (EP X pins σ Q) X.xe s
section
variable {X : Cx} {pos : Pos}
noncomputable def gName (i : Nat) : TG := fun v σ H Q => Q (σ.set i (some v)) H
theorem pg_name {i : Nat} {x : Str} (hN : X.N.Nodup) (hi : X.N[i]? = some x) (hx : Loc X.env.scope x) (hf : X.fn x = true ∨ X.env.scope.names.lookup x = some .local := by first | exact .inl rfl | exact .inr rfl | assumption) : PG X (.Name x pos) (gName i) := by
  intro pins s σ H v u Q I r h
  exact wpAny_assign_Name (store_ok I hN hi hx r (fun s' I' => ⟨_, H, I', h⟩) hf)
noncomputable def gSub (to ti : TE) (t : TSet) : TG := fun v σ H Q => to σ H fun o H1 => ti σ H1 fun i H2 => t o i v H2 fun H3 => Q σ H3
theorem pg_sub {o i : Expr} {to ti : TE} {t : TSet} (ho : PE X o to) (hi : PE X i ti) (hs : PSet X t)
    (ha : ∀ v, assign (.Subscript o i pos) X.env v = (do
      let ov ← holding [v] (eval o X.env)
      let iv ← holding [v, ov] (eval i X.env)
      standAt pos
      holding [v, ov, iv] (setItem ov iv v)
      release [v, ov, iv] []) := by intro _; rfl) : PG X (.Subscript o i pos) (gSub to ti t) := by
  intro pins s σ H v u Q I r h
  rw [ha]
  refine wpAny_bind (wpAny_holding (thn (ho pins s σ H _ I h) fun ov s1 ⟨x, H1, I1, r1, q1⟩ => ?_))
  refine wpAny_bind (wpAny_holding (thn (hi pins s1 σ H1 _ I1 q1) fun iv s2 ⟨y, H2, I2, r2, q2⟩ => ?_))
  refine wpAny_bind (wpAny_standAt (wpAny_bind (wpAny_holding (thn (hs pins s2 σ H2 x y v ov iv u _ I2 r1 r2 r q2) fun _ s3 ⟨H3, I3, q3⟩ => ?_))))
  exact wpAny_release ⟨σ, H3, I3, q3⟩
noncomputable def tAsg (te : TE) (g : TG) : TS := fun D σ H => te σ H fun x H1 => g x σ H1 D.nx
theorem ps_asg {tg e : Expr} {te : TE} {g : TG} (he : PE X e te) (hg : PG X tg g) (hs : swapsWithSole [tg] e pos.line X.env = pure false := by rfl) (hw : swappedStores [tg] e X.env = pure none := by rfl)
    (h1 : (assignEach [tg] X.env).map (·.2) = [assign tg X.env] := by rfl) : PS X (.Assign [tg] e pos) (tAsg te g) := by
  intro pins s σ H D I h
  refine wpAny_Assign_stores (thn (he pins s σ H _ I h) fun v s1 ⟨x, H1, I1, r1, q1⟩ => ?_) hs hw
  rw [h1]
  exact thn (hg pins s1 σ H1 x v _ I1 r1 q1) fun _ s2 q => q
theorem ps_set {i : Nat} {x : Str} {e : Expr} {te : TE} {pos' : Pos} (hN : X.N.Nodup) (hi : X.N[i]? = some x) (hx : Loc X.env.scope x) (he : PE X e te) (hs : swapsWith e (some (.Name x pos')) pos.line X.env = pure false := by rfl) (hf : X.fn x = true ∨ X.env.scope.names.lookup x = some .local := by first | exact .inl rfl | exact .inr rfl | assumption) :
    PS X (.Assign [.Name x pos'] e pos) (tAsg te (gName i)) := by
  intro pins s σ H D I h
  refine wpAny_Assign_Name (thn (he pins s σ H _ I h) fun v s1 ⟨y, H1, I1, r1, q1⟩ => ?_) hs
  exact store_ok I1 hN hi hx r1 (fun s2 I2 => ⟨_, H1, I2, q1⟩) hf
noncomputable def tAug (i : Nat) (te : TE) (ti : TIp) : TS := fun D σ H => ∃ x, σ[i]? = some (some x) ∧ te σ H fun y H1 => ti x y H1 fun z H2 => D.nx (σ.set i (some z)) H2
noncomputable def tAugS (to ti te : TE) (tget : V → V → Hp → VK → Prop) (tip : TIp) (tset : TSet) : TS := fun D σ H => to σ H fun o H1 => ti σ H1 fun i H2 => tget o i H2 fun x H3 => te σ H3 fun y H4 => tip x y H4 fun z H5 => tset o i z H5 fun H6 => D.nx σ H6
noncomputable def PGet (X : Cx) (t : V → V → Hp → VK → Prop) : Prop :=
  ∀ (pins : List (Addr × Obj)) (s : Shared) (σ : St) (H : Hp) (o i : V) (ov iv : Value) (Q : VK), Inv X pins σ H s → RelV o ov → RelV i iv → t o i H Q →
    wpAny (model X.prog X.w) X.A (getItem ov iv) (EP X pins σ Q) X.xe s
theorem ps_augS {o i e : Expr} {to ti te : TE} {tget : V → V → Hp → VK → Prop} {tip : TIp} {tset : TSet} {op : Operator} {tpos : Pos} (ho : PE X o to) (hi : PE X i ti) (hg : PGet X tget) (he : PE X e te) (hp : PIp X op tip) (hs : PSet X tset)
    (ha : ∀ ov iv new, augStore i ov iv new = (do holding [new, ov, iv] (setItem ov iv new); release [new, ov, iv] []; pure .next) := by intros; rfl) : PS X (.AugAssign (.Subscript o i tpos) op e pos) (tAugS to ti te tget tip tset) := by
  intro pins s σ H D I h
  refine wpAny_AugAssign_SubscriptAny (thn (ho pins s σ H _ I h) fun ov s1 ⟨x1, H1, I1, r1, q1⟩ => ?_) ha
  refine thn (hi pins s1 σ H1 _ I1 q1) fun iv s2 ⟨x2, H2, I2, r2, q2⟩ => ?_
  refine thn (hg pins s2 σ H2 x1 x2 ov iv _ I2 r1 r2 q2) fun old s3 ⟨x3, H3, I3, r3, q3⟩ => ?_
  refine thn (he pins s3 σ H3 _ I3 q3) fun v s4 ⟨x4, H4, I4, r4, q4⟩ => ?_
  refine thn (hp pins s4 σ H4 x3 x4 old v _ I4 r3 r4 q4) fun new s5 ⟨x5, H5, I5, r5, q5⟩ => ?_
  exact thn (hs pins s5 σ H5 x1 x2 x5 ov iv new _ I5 r1 r2 r5 q5) fun _ s6 ⟨H6, I6, q6⟩ => ⟨σ, H6, I6, q6⟩
noncomputable def ipI (f : Int → Int → Int) : TIp := fun x y H Q => ∃ i j, x = .int i ∧ y = .int j ∧ Q (.int (f i j)) H
theorem ip_add : PIp X .Add (ipI fun i j => i + j) := by
  intro pins s σ H x y v u Q I r1 r2 h
  obtain ⟨i, j, e1, e2, q⟩ := h
  subst e1; subst e2
  obtain ⟨t, rfl⟩ := r1
  obtain ⟨t', rfl⟩ := r2
  exact iadd_int ⟨.int _, H, I.tok _, ⟨_, rfl⟩, q⟩
end
section
variable {X : Cx} {pos : Pos}
end
structure It where
  go : Nat → Hp → Prop
  yld : Nat → Hp → V → Hp → Prop
  stop : Nat → Hp → Prop
noncomputable def FpOk (X : Cx) (pins : List (Addr × Obj)) (H : Hp) (b : Addr) : Prop :=
  H b = none ∧ b ≠ X.env.locals ∧ b ∉ X.fs ∧ (b ∈ X.ex ∨ X.s₀.heap.objs.size ≤ b) ∧ (∀ x c, X.env.cells.lookup x = some c → c ≠ b) ∧ ∀ p ∈ X.pn ++ pins, p.1 ≠ b
theorem Inv.fpOk {X : Cx} {pins : List (Addr × Obj)} {σ : St} {H H' : Hp} {s : Shared} {b : Addr} (I : Inv X pins σ H s) (hb : s.heap.objs.size ≤ b) (hn : H' b = none) : FpOk X pins H' b := by
  refine ⟨hn, Nat.ne_of_gt (Nat.lt_of_lt_of_le I.lt hb), I.nofs hb, .inr (Nat.le_trans I.sz hb), fun x c e z => ?_, fun p hp z => ?_⟩
  · obtain ⟨v, q⟩ := I.cell x c e
    exact absurd (Nat.lt_of_lt_of_le q.lt (by rw [z]; exact hb)) (Nat.lt_irrefl _)
  · exact absurd (Nat.lt_of_lt_of_le (Heap.lt_size (I.pin p hp).1) (by rw [z]; exact hb)) (Nat.lt_irrefl _)
structure Turn (P : Program) (w : World) (K : PySem.W.Frag) (tg : Expr) (J : It) (fp : List Addr) (it : Addr) (tn : Nat → Heap → Prop) : Prop where
  mem : it ∈ fp
  obj : ∀ i h, tn i h → ∀ b ∈ fp, ∃ o, h.get? b = some o ∧ ∀ v, o.data ≠ .cell v
  keep : ∀ i h h', tn i h → (∀ b ∈ fp, ∀ o, h.get? b = some o → h'.get? b = some o) → tn i h'
  item : ∀ (X : Cx), X.prog = P → X.w = w → X.K = K → X.calm = true → ∀ (i : Nat) (pins : List (Addr × Obj)) (s : Shared) (σ : St) (H : Hp) (E : Value → Shared → Prop), Inv X pins σ H s → (∀ b ∈ fp, FpOk X pins H b) → tn i s.heap → J.go i H →
    wpAny (model P w) X.A (pyNext (.ref it)) (fun r s1 => ∃ u, r = some u ∧
      wpAny (model P w) X.A (letOwnedTupleGo tg (.ref it) u) (fun _ s2 => ∃ x H', Inv X pins σ H' s2 ∧ RelV x u ∧ J.yld i H x H' ∧ tn (i + 1) s2.heap ∧ ∀ b ∈ fp, H' b = none) E s1) E s
  done : ∀ (X : Cx), X.prog = P → X.w = w → X.K = K → X.calm = true → ∀ (i : Nat) (pins : List (Addr × Obj)) (s : Shared) (σ : St) (H : Hp) (E : Value → Shared → Prop), Inv X pins σ H s → (∀ b ∈ fp, FpOk X pins H b) → tn i s.heap → J.stop i H →
    wpAny (model P w) X.A (pyNext (.ref it)) (fun r s1 => r = none ∧ Inv X pins σ H s1) E s
  self : ∀ (A : Around) (i : Nat) (s : Shared) (Q : Value → Shared → Prop) (E : Value → Shared → Prop), tn i s.heap → Q (.ref it) s → wpAny (model P w) A (pyIter (.ref it)) Q E s
noncomputable abbrev TI := St → Hp → (It → Hp → Prop) → Prop
noncomputable def PIE (X : Cx) (pins : List (Addr × Obj)) (σ : St) (tg : Expr) (R : It → Hp → Prop) (itv : Value) (s2 : Shared) : Prop :=
  ∃ (it : Addr) (fp : List Addr) (tn : Nat → Heap → Prop) (J : It) (H' : Hp), itv = .ref it ∧ Inv X pins σ H' s2 ∧ Turn X.prog X.w X.K tg J fp it tn ∧ tn 0 s2.heap ∧ (∀ b ∈ fp, FpOk X pins H' b) ∧ R J H'
noncomputable def PI (X : Cx) (tg iter : Expr) (wi : TI) : Prop :=
  ∀ (pins : List (Addr × Obj)) (s : Shared) (σ : St) (H : Hp) (R : It → Hp → Prop), Inv X pins σ H s → wi σ H R →
    wpAny (model X.prog X.w) X.A (eval iter X.env) (fun v s1 => wpAny (model X.prog X.w) X.A (pyIter v) (PIE X pins σ tg R) X.xe s1) X.xe s
theorem go_of {M : Model} {A : Around} {E : Value → Shared → Prop} {s : Shared} {tg : Expr} {it : Addr} {u : Value} {o : Obj} {n : String} {vs : Array Value} {Q : Unit → Shared → Prop} (ho : s.heap.get? it = some o) (hc : o.cls = .type n) (hd : o.data = .fields vs)
    (hn : ["enumerate", "zip", "dict_itemiterator", "dict_reverseitemiterator", "odict_iterator", "itertools.zip_longest", "itertools.pairwise"].contains n = false) (hQ : Q () s) : wpAny M A (letOwnedTupleGo tg (.ref it) u) Q E s := by
  unfold letOwnedTupleGo
  cases tg <;> first
    | exact wpAny_pure hQ
    | (cases u <;> first
        | exact wpAny_pure hQ
        | (refine wpAny_bind (wpAny_load ho ?_)
           rw [hc, hd]
           show wpAny M A (if (["enumerate", "zip", "dict_itemiterator", "dict_reverseitemiterator", "odict_iterator", "itertools.zip_longest", "itertools.pairwise"].contains n && vs[0]? == some (rawInt _)) = true then _ else _) Q E s
           rw [if_neg (by intro h; rw [hn, Bool.false_and] at h; cases h)]
           exact wpAny_pure hQ))
noncomputable def Itl (K : PySem.W.Frag) (a : Addr) : It :=
  ⟨fun i H => ∃ xs x, SqL K H a xs ∧ xs[i]? = some x, fun i H x H' => H' = H ∧ ∀ xs, SqL K H a xs → xs[i]? = some x, fun i H => ∃ xs, SqL K H a xs ∧ xs.length ≤ i⟩
noncomputable def Itt (K : PySem.W.Frag) (a : Addr) : It :=
  ⟨fun i H => ∃ xs x, SqT K H a xs ∧ xs[i]? = some x, fun i H x H' => H' = H ∧ ∀ xs, SqT K H a xs → xs[i]? = some x, fun i H => ∃ xs, SqT K H a xs ∧ xs.length ≤ i⟩
noncomputable def Itr (lo : Int) (n : Nat) : It := ⟨fun i _ => i < n, fun i H x H' => H' = H ∧ x = .int (lo + i), fun i _ => n ≤ i⟩
theorem turn_list {P : Program} {w : World} {K : PySem.W.Frag} {tg : Expr} (a it : Addr) : Turn P w K tg (Itl K a) [it] it (fun i h => h.IsListIter it a i) where
  mem := by simp
  obj := fun i h st b hb => by
    have e : b = it := by simpa using hb
    subst e
    obtain ⟨o, e, c, d⟩ := st
    exact ⟨o, e, fun v z => by rw [d] at z; cases z⟩
  keep := fun i h h' st k => st.at fun o e => k it (by simp) o e
  item := by
    intro X hP hw hK hc i pins s σ H E I hf st hg
    subst hP hw hK
    obtain ⟨xs, x, hq, hx⟩ := hg
    obtain ⟨its, rv, p, hz⟩ := I.list hq
    obtain ⟨u, hu, ru⟩ := rv.get hx
    obtain ⟨f0, f1, f2, f3, f4, f5⟩ := hf it (by simp)
    refine wpAny_pyNext_list_item st p.isList (x := u) (by simpa using hu) fun h' st' sb => ?_
    have I1 : Inv X pins σ H { s with heap := h' } := I.turned (t' := s.toks) (fun b o hb e => (sb.2 b hb).trans e) f0 f1 f3 f4 f5
    obtain ⟨o, e, c, d⟩ := id st'
    exact ⟨u, rfl, go_of (s := { s with heap := h' }) e c d (by decide) ⟨x, H, I1, ru, ⟨rfl, fun ys hy => by rw [I.list_inj hy hq]; exact hx⟩, st', fun b hb => (hf b hb).1⟩⟩
  done := by
    intro X hP hw hK hc i pins s σ H E I hf st hg
    subst hP hw hK
    obtain ⟨xs, hq, hx⟩ := hg
    obtain ⟨its, rv, p, hz⟩ := I.list hq
    obtain ⟨f0, f1, f2, f3, f4, f5⟩ := hf it (by simp)
    have hl := rv.length
    exact wpAny_pyNext_list_end (I.ok.hd hc) st p.isList (by simp; omega) fun h' eb => ⟨rfl, I.turned (t' := s.toks) (fun b o hb e => eb b o hb e) f0 f1 f3 f4 f5⟩
  self := fun _ _ _ _ _ st h => wpAny_pyIter_listiter st h
theorem turn_range {P : Program} {w : World} {K : PySem.W.Frag} {tg : Expr} (it : Addr) (lo : Int) (n : Nat) : Turn P w K tg (Itr lo n) [it] it (fun i h => IsRangeIter h it (lo + (i : Nat) * 1) ((n : Int) - (i : Nat)) 1) where
  mem := by simp
  obj := fun i h st b hb => by
    have e : b = it := by simpa using hb
    subst e
    exact ⟨_, st, fun v z => by
      have z' : Data.fields _ = Data.cell v := z
      cases z'⟩
  keep := fun i h h' st k => k it (by simp) _ st
  item := by
    intro X hP hw hK hc i pins s σ H E I hf st hg
    subst hP hw hK
    obtain ⟨f0, f1, f2, f3, f4, f5⟩ := hf it (by simp)
    have W := Walks.range (prog := X.prog) (w := X.w) (I.ok.hd hc) it lo 1 n
    refine W.item i s _ _ hg st fun v h' tk hv st' kk => ?_
    obtain ⟨t, rfl⟩ := hv
    have I1 : Inv X pins σ H { s with heap := h', toks := tk } := I.turned (fun b o hb e => kk b o (by simpa using hb) e) f0 f1 f3 f4 f5
    refine ⟨_, rfl, go_of (s := { s with heap := h', toks := tk }) (n := "range_iterator") st' rfl rfl (by decide) ⟨.int (lo + i), H, I1, ⟨t, ?_⟩, ⟨rfl, rfl⟩, st', fun b hb => (hf b hb).1⟩⟩
    rw [Int.mul_one]
  done := by
    intro X hP hw hK hc i pins s σ H E I hf st hg
    subst hP hw hK
    obtain ⟨f0, f1, f2, f3, f4, f5⟩ := hf it (by simp)
    exact wpAny_pyNext_range_end (I.ok.hd hc) st (by have : n ≤ i := hg; omega) fun h' eb => ⟨rfl, I.turned (t' := s.toks) (fun b o hb e => eb b o hb e) f0 f1 f3 f4 f5⟩
  self := fun _ _ _ _ _ st h => wpAny_pyIter_rangeiter st h
end L2
namespace L2
open PySem PySem.Spec PyProof.Rows
section
variable {X : Cx} {tg : Expr}
noncomputable def iList (K : PySem.W.Frag) (tl : TE) : TI := fun σ H R => tl σ H fun x H1 => ∃ a, x = .ref a ∧ (∃ xs, SqL K H1 a xs) ∧ R (Itl K a) H1
noncomputable def iTup (K : PySem.W.Frag) (tl : TE) : TI := fun σ H R => tl σ H fun x H1 => ∃ a, x = .ref a ∧ (∃ xs, SqT K H1 a xs) ∧ R (Itt K a) H1
theorem pi_list {l : Expr} {tl : TE} (hl : PE X l tl) : PI X tg l (iList X.K tl) := by
  intro pins s σ H R I h
  refine thn (hl pins s σ H _ I h) fun v s1 ⟨x, H1, I1, r1, q1⟩ => ?_
  obtain ⟨a, e, ⟨xs, hq⟩, q⟩ := q1
  subst e
  cases r1
  obtain ⟨its, rv, p, hz⟩ := I1.list hq
  refine wpAny_pyIter_list p.isList ?_
  refine ⟨s1.heap.objs.size, [s1.heap.objs.size], _, _, H1, rfl, I1.kept (t' := s1.toks) fun b o e => Heap.get?_push_of_some _ e, turn_list a _, ⟨_, Heap.get?_push_size _ rfl, rfl, rfl⟩, fun b hb => ?_, q⟩
  have e : b = s1.heap.objs.size := by simpa using hb
  subst e
  exact I1.fpOk (Nat.le_refl _) (I1.hok.fresh (Nat.le_refl _))
theorem range_it {pins : List (Addr × Obj)} {σ : St} {H : Hp} {s : Shared} {R : It → Hp → Prop} {E : Value → Shared → Prop} {lo hi : Int} {t u v : Tok} {tk : Nat} (I : Inv X pins σ H s) (h1 : -(2 ^ 62) ≤ lo) (h2 : lo < 2 ^ 62) (h3 : -(2 ^ 62) ≤ hi) (h4 : hi < 2 ^ 62)
    (q : R (Itr lo (hi - lo).toNat) H) : wpAny (model X.prog X.w) X.A (pyIter (.ref s.heap.objs.size)) (PIE X pins σ tg R) E { s with heap := s.heap.push { cls := .type "range", data := .fields #[.int lo t, .int hi u, .int 1 v] }, toks := tk } := by
  refine wpAny_pyIter_range (IsRange.new ..) (small_one h1 h2 h3 h4) ?_
  have I1 : Inv X pins σ H { s with heap := s.heap.push { cls := .type "range", data := .fields #[.int lo t, .int hi u, .int 1 v] }, toks := tk } := I.kept fun b o e => Heap.get?_push_of_some _ e
  refine ⟨(s.heap.push { cls := .type "range", data := .fields #[.int lo t, .int hi u, .int 1 v] }).objs.size, [(s.heap.push { cls := .type "range", data := .fields #[.int lo t, .int hi u, .int 1 v] }).objs.size], _, _, H, rfl,
    I1.kept (t' := tk) fun b o e => Heap.get?_push_of_some _ e, turn_range _ lo (hi - lo).toNat, ?_, fun b hb => ?_, q⟩
  · have e1 : lo + ((0 : Nat) : Int) * 1 = lo := by simp
    have e2 : (((hi - lo).toNat : Nat) : Int) - ((0 : Nat) : Int) = Builtin.Range.rangeSize lo hi 1 := by rw [rangeSize_one]; split <;> omega
    show IsRangeIter _ _ (lo + ((0 : Nat) : Int) * 1) ((((hi - lo).toNat : Nat) : Int) - ((0 : Nat) : Int)) 1
    rw [e1, e2]
    exact Heap.get?_push_size _ rfl
  · have e : b = (s.heap.push { cls := .type "range", data := .fields #[.int lo t, .int hi u, .int 1 v] }).objs.size := by simpa using hb
    subst e
    exact I1.fpOk (Nat.le_refl _) (I1.hok.fresh (Nat.le_refl _))
noncomputable def iRng1 (ta : TA) : TI := fun σ H R => ta σ H fun vs H1 => ∃ j : Int, vs = [.int j] ∧ -(2 ^ 62) ≤ j ∧ j < 2 ^ 62 ∧ R (Itr 0 j.toNat) H1
noncomputable def iRng2 (ta : TA) : TI := fun σ H R => ta σ H fun vs H1 => ∃ i j : Int, vs = [.int i, .int j] ∧ (-(2 ^ 62) ≤ i ∧ i < 2 ^ 62 ∧ -(2 ^ 62) ≤ j ∧ j < 2 ^ 62) ∧ R (Itr i (j - i).toNat) H1
theorem pi_range1 {a : Expr} {ta : TA} {p pos : Pos} (hg : Gl X "range") (hm : X.mg "range" = none) (ha : PA X [a] ta) (hs : starEach [a] X.env = [(false, eval a X.env)] := by rfl) : PI X tg (.Call (.Name "range" p) [a] [] pos) (iRng1 ta) := by
  intro pins s σ H R I h
  refine Call_ (ld_blt I hg hm boot_range (PyProof.Rows.callWith_type1 (thn (ha pos pins s σ H _ I h) fun us s1 ⟨vs, H1, I1, r1, q1⟩ => ?_) hs rfl))
  obtain ⟨j, e, q1, q2, q⟩ := q1
  subst e
  cases r1 with
  | cons r rr =>
    cases rr
    obtain ⟨t, rfl⟩ := r
    exact call_range_1 (range_it I1 (by omega) (by omega) q1 q2 (by simpa using q))
noncomputable def tFor (wi : TI) (g : TG) (tb : TS) : TS := fun D σ H => wi σ H fun J H1 => ∃ W : Nat → Nat → St → Hp → Prop, (∃ m, W 0 m σ H1) ∧ ∀ i m σ H, W i m σ H →
  (J.stop i H ∧ D.nx σ H) ∨ (J.go i H ∧ ∃ N : St → Hp → Prop, (∀ σ' H', N σ' H' → ∃ m', m' < m ∧ W (i + 1) m' σ' H') ∧ ∀ x H', J.yld i H x H' → g x σ H' fun σ2 H2 => tb { D with nx := N, ct := N, bk := D.nx } σ2 H2)
noncomputable def pinsAt (fp : List Addr) (h : Heap) : List (Addr × Obj) := fp.filterMap fun b => (h.get? b).map fun o => (b, o)
theorem mem_pinsAt {fp : List Addr} {h : Heap} {b : Addr} {o : Obj} (hb : b ∈ fp) (e : h.get? b = some o) : (b, o) ∈ pinsAt fp h := List.mem_filterMap.mpr ⟨b, hb, by rw [e]; rfl⟩
theorem of_pinsAt {fp : List Addr} {h : Heap} {p : Addr × Obj} (hp : p ∈ pinsAt fp h) : p.1 ∈ fp ∧ h.get? p.1 = some p.2 := by
  obtain ⟨b, hb, e⟩ := List.mem_filterMap.mp hp
  cases q : h.get? b with
  | none => rw [q] at e; cases e
  | some o =>
    rw [q] at e
    have e' : (b, o) = p := Option.some.inj e
    subst e'
    exact ⟨hb, q⟩
theorem Inv.pinned {pins : List (Addr × Obj)} {σ : St} {H : Hp} {s : Shared} {fp : List Addr} (I : Inv X pins σ H s) (hf : ∀ b ∈ fp, FpOk X pins H b) (ho : ∀ b ∈ fp, ∃ o, s.heap.get? b = some o ∧ ∀ v, o.data ≠ .cell v) : Inv X (pins ++ pinsAt fp s.heap) σ H s :=
  I.pins_of fun p hp => (List.mem_append.mp hp).elim (fun z => I.pin p (List.mem_append_right _ z)) fun z => by
    obtain ⟨hb, e⟩ := of_pinsAt z
    obtain ⟨f0, f1, f2, _⟩ := hf p.1 hb
    obtain ⟨o, e', d⟩ := ho p.1 hb
    rw [e] at e'; cases e'
    exact ⟨e, f0, f1, f2, d⟩
theorem Inv.unpinned {pins pl : List (Addr × Obj)} {σ : St} {H : Hp} {s : Shared} (I : Inv X (pins ++ pl) σ H s) : Inv X pins σ H s := I.pins_of fun p hp => I.pin p (List.mem_append_right _ (List.mem_append_left _ hp))
theorem ps_for {iter : Expr} {body : List Stmt} {wi : TI} {g : TG} {tb : TS} {pos : Pos} (hp : PassesOwn (model X.prog X.w) X.A X.env X.xe) (hc : X.calm = true) (hi : PI X tg iter wi) (hg : PG X tg g) (hb : PSs X body tb)
    (hs : ∀ x, foldedSetIterable iter X.env x = pure x := by intro _; rfl) : PS X (.For tg iter body [] pos) (tFor wi g tb) := by
  intro pins s σ H D I h
  refine wpAny_For (thn (hi pins s σ H _ I h) fun v s1 h1 => thn h1 fun itv s2 h2 => ?_) hs
  obtain ⟨it, fp, tn, J, H2, e, I2, T, st2, f2, W, ⟨m0, w0⟩, turn⟩ := h2
  subst e
  -- what stays true of the iterator's objects through the loop
  have stat : ∀ {H' : Hp}, (∀ b ∈ fp, H' b = none) → ∀ b ∈ fp, FpOk X pins H' b := fun hn b hb => ⟨hn b hb, (f2 b hb).2⟩
  refine codeAny_forLoop_any (fun n s' => ∃ i σ' H', Inv X pins σ' H' s' ∧ tn i s'.heap ∧ (∀ b ∈ fp, H' b = none) ∧ W i n σ' H') ?_ m0 ⟨0, σ, H2, I2, st2, fun b hb => (f2 b hb).1, w0⟩
  rintro n s3 ⟨i, σ3, H3, I3, st3, fr3, w3⟩
  rcases turn i n σ3 H3 w3 with ⟨stop, qn⟩ | ⟨go, N, hN, step⟩
  · refine wpAny_passesOwn hp (thn (T.done X rfl rfl rfl hc i pins s3 σ3 H3 X.xe I3 (stat fr3) st3 stop) fun r s4 ⟨hr, I4⟩ => ?_)
    subst hr
    exact wpAny_execs_nil ⟨σ3, H3, I4, qn⟩
  · refine wpAny_passesOwn hp (thn (T.item X rfl rfl rfl hc i pins s3 σ3 H3 X.xe I3 (stat fr3) st3 go) fun r s4 ⟨u, hr, h4⟩ => ?_)
    subst hr
    refine wpAny_passesOwn hp (thn h4 fun _ s5 ⟨x, H5, I5, r5, y5, st5, fr5⟩ => ?_)
    have I5' := I5.pinned (stat fr5) (T.obj _ _ st5)
    refine wpAny_passesOwn hp (thn (hg _ s5 σ3 H5 x u _ I5' r5 (step x H5 y5)) fun _ s6 ⟨σ6, H6, I6, q6⟩ => ?_)
    refine wpAny_passesOwn hp (thn (hb _ s6 σ6 H6 _ I6 q6) fun f s7 q7 => ?_)
    have again : ∀ {σ7 : St} {H7 : Hp}, Inv X (pins ++ pinsAt fp s5.heap) σ7 H7 s7 → N σ7 H7 → ∃ m, m < n ∧ ∃ i σ' H', Inv X pins σ' H' s7 ∧ tn i s7.heap ∧ (∀ b ∈ fp, H' b = none) ∧ W i m σ' H' := fun {σ7 H7} I7 n7 => by
      obtain ⟨m', hm, w7⟩ := hN σ7 H7 n7
      refine ⟨m', hm, i + 1, σ7, H7, I7.unpinned, T.keep _ _ _ st5 fun b hb o e => (I7.pin (b, o) (List.mem_append_right _ (List.mem_append_right _ (mem_pinsAt hb e)))).1, fun b hb => ?_, w7⟩
      obtain ⟨o, e, d⟩ := T.obj _ _ st5 b hb
      exact (I7.pin (b, o) (List.mem_append_right _ (List.mem_append_right _ (mem_pinsAt hb e)))).2.1
    cases f with
    | next => obtain ⟨σ7, H7, I7, n7⟩ := q7; exact again I7 n7
    | cont => obtain ⟨σ7, H7, I7, n7⟩ := q7; exact again I7 n7
    | brk => obtain ⟨σ7, H7, I7, q7⟩ := q7; exact ⟨σ7, H7, I7.unpinned, q7⟩
    | ret v => obtain ⟨x7, σ7, H7, I7, r7, q7⟩ := q7; exact ⟨x7, σ7, H7, I7.unpinned, r7, q7⟩
end
end L2
namespace L2
open PySem PySem.Spec PyProof.Rows
noncomputable abbrev R2 := V → V → Hp → VK → Prop
noncomputable def OpR (X : Cx) (f : Value → Value → Sem Value) (r : R2) : Prop :=
  ∀ (pins : List (Addr × Obj)) (s : Shared) (σ : St) (H : Hp) (x y : V) (v u : Value) (Q : VK), Inv X pins σ H s → RelV x v → RelV y u → r x y H Q →
    wpAny (model X.prog X.w) X.A (f v u) (EP X pins σ Q) X.xe s
noncomputable def UnR (X : Cx) (f : Value → Sem Value) (r : V → Hp → VK → Prop) : Prop :=
  ∀ (pins : List (Addr × Obj)) (s : Shared) (σ : St) (H : Hp) (x : V) (v : Value) (Q : VK), Inv X pins σ H s → RelV x v → r x H Q →
    wpAny (model X.prog X.w) X.A (f v) (EP X pins σ Q) X.xe s
noncomputable def CallR (X : Cx) (f : Value) (r : List V → Hp → VK → Prop) : Prop :=
  ∀ (pins : List (Addr × Obj)) (s : Shared) (σ : St) (H : Hp) (xs : List V) (us : List Value) (Q : VK), Inv X pins σ H s → Vals xs us → r xs H Q →
    wpAny (model X.prog X.w) X.A (call f us) (EP X pins σ Q) X.xe s
noncomputable def tOp (r : R2) (ta tb : TE) : TE := fun σ H Q => ta σ H fun x H1 => tb σ H1 fun y H2 => r x y H2 Q
noncomputable def tUn (r : V → Hp → VK → Prop) (ta : TE) : TE := fun σ H Q => ta σ H fun x H1 => r x H1 Q
noncomputable def rI (C : Int → Int → Prop) (g : Int → Int → V) : R2 := fun x y H Q => ∃ i j, x = .int i ∧ y = .int j ∧ C i j ∧ Q (g i j) H
noncomputable def rI0 (g : Int → Int → V) : R2 := fun x y H Q => ∃ i j, x = .int i ∧ y = .int j ∧ Q (g i j) H
noncomputable def rU (g : Int → V) : V → Hp → VK → Prop := fun x H Q => ∃ i, x = .int i ∧ Q (g i) H
section
variable {X : Cx} {a b c : Expr} {ta tb tc : TE} {pos : Pos}
theorem binT (ha : PE X a ta) (hb : PE X b tb) {pins : List (Addr × Obj)} {s : Shared} {σ : St} {H : Hp} {R : V → V → Hp → Prop} (I : Inv X pins σ H s)
    (h : ta σ H fun x H1 => tb σ H1 fun y H2 => R x y H2) {Q : Value → Shared → Prop} {f : Value → Value → Sem Value}
    (hf : ∀ v u s2 x y H2, Inv X pins σ H2 s2 → RelV x v → RelV y u → R x y H2 → wpAny (model X.prog X.w) X.A (f v u) Q X.xe s2) :
    wpAny (model X.prog X.w) X.A (eval a X.env) (fun v s₁ => wpAny (model X.prog X.w) X.A (eval b X.env) (fun u s₂ => wpAny (model X.prog X.w) X.A (f v u) Q X.xe s₂) X.xe s₁) X.xe s := by
  refine thn (ha pins s σ H _ I h) fun v s1 ⟨x, H1, I1, r1, q1⟩ => ?_
  refine thn (hb pins s1 σ H1 _ I1 q1) fun u s2 ⟨y, H2, I2, r2, q2⟩ => ?_
  exact hf v u s2 x y H2 I2 r1 r2 q2
theorem pe_op {op : Operator} {r : R2} (ho : OpR X (binaryOp op) r) (ha : PE X a ta) (hb : PE X b tb) : PE X (.BinOp a op b pos) (tOp r ta tb) := by
  intro pins s σ H Q I h
  exact wpAny_BinOp (binT ha hb I h fun v u s2 x y H2 I2 rx ry q => ho pins s2 σ H2 x y v u Q I2 rx ry q)
theorem pe_un {op : UnaryOp} {r : V → Hp → VK → Prop} (ho : UnR X (unaryOp op) r) (ha : PE X a ta) : PE X (.UnaryOp op a pos) (tUn r ta) := by
  intro pins s σ H Q I h
  exact UnaryOp_ (thn (ha pins s σ H _ I h) fun v s1 ⟨x, H1, I1, r1, q1⟩ => ho pins s1 σ H1 x v Q I1 r1 q1)
theorem opI {f : Value → Value → Sem Value} {C : Int → Int → Prop} {g : Int → Int → Int}
    (rule : ∀ (i j : Int) (t u : Tok) (s : Shared) (Q : Value → Shared → Prop) (E : Value → Shared → Prop), C i j → Q (.int (g i j) s.toks) { s with toks := s.toks + 1 } → wpAny (model X.prog X.w) X.A (f (.int i t) (.int j u)) Q E s) :
    OpR X f (rI C fun i j => .int (g i j)) := by
  intro pins s σ H x y v u Q I rx ry h
  obtain ⟨i, j, rfl, rfl, hc, q⟩ := h
  obtain ⟨t, rfl⟩ := rx
  obtain ⟨t', rfl⟩ := ry
  exact rule i j t t' s _ _ hc ⟨.int (g i j), H, I.tok _, ⟨_, rfl⟩, q⟩
theorem opI0 {f : Value → Value → Sem Value} {g : Int → Int → Int}
    (rule : ∀ (i j : Int) (t u : Tok) (s : Shared) (Q : Value → Shared → Prop) (E : Value → Shared → Prop), Q (.int (g i j) s.toks) { s with toks := s.toks + 1 } → wpAny (model X.prog X.w) X.A (f (.int i t) (.int j u)) Q E s) :
    OpR X f (rI0 fun i j => .int (g i j)) := by
  intro pins s σ H x y v u Q I rx ry h
  obtain ⟨i, j, rfl, rfl, q⟩ := h
  obtain ⟨t, rfl⟩ := rx
  obtain ⟨t', rfl⟩ := ry
  exact rule i j t t' s _ _ ⟨.int (g i j), H, I.tok _, ⟨_, rfl⟩, q⟩
theorem opB0 {f : Value → Value → Sem Value} {g : Int → Int → Bool}
    (rule : ∀ (i j : Int) (t u : Tok) (s : Shared) (Q : Value → Shared → Prop) (E : Value → Shared → Prop), Q (.bool (g i j)) s → wpAny (model X.prog X.w) X.A (f (.int i t) (.int j u)) Q E s) :
    OpR X f (rI0 fun i j => .bl (g i j)) := by
  intro pins s σ H x y v u Q I rx ry h
  obtain ⟨i, j, rfl, rfl, q⟩ := h
  obtain ⟨t, rfl⟩ := rx
  obtain ⟨t', rfl⟩ := ry
  exact rule i j t t' s _ _ ⟨.bl (g i j), H, I, rfl, q⟩
noncomputable def CDiv (i j : Int) : Prop := 0 < j ∧ j < 1073741824
noncomputable def CPow (i j : Int) : Prop := 0 ≤ j ∧ j ≤ 1000000 ∧ i.natAbs < 2 ^ 64
noncomputable def CMul (i j : Int) : Prop := (-(2 ^ 64) < i ∧ i < 2 ^ 64) ∨ (-(2 ^ 64) < j ∧ j < 2 ^ 64)
theorem CMul.ok {i j : Int} (h : CMul i j) : IntMulOk i j := by
  rcases h with ⟨h1, h2⟩ | ⟨h1, h2⟩
  · exact .of_left (intBits_le_64 h1 h2)
  · exact .of_right (intBits_le_64 h1 h2)
theorem op_add : OpR X (binaryOp .Add) (rI0 fun i j => .int (i + j)) := opI0 fun _ _ _ _ _ _ _ q => add_int q
theorem op_sub : OpR X (binaryOp .Sub) (rI0 fun i j => .int (i - j)) := opI0 fun _ _ _ _ _ _ _ q => sub_int q
theorem op_mul : OpR X (binaryOp .Mult) (rI CMul fun i j => .int (i * j)) := opI fun _ _ _ _ _ _ _ hc q => mul_int q hc.ok
theorem op_fdiv : OpR X (binaryOp .FloorDiv) (rI CDiv fun i j => .int (i / j)) := opI fun i j _ _ _ _ _ hc q => by
  have h1 : (0 : Int) < j := hc.1
  have h2 : j < 1073741824 := hc.2
  exact floordiv_int (by omega) (by rw [Int.fdiv_eq_ediv_of_nonneg i (by omega)]; exact q) (.inl (PyProof.noPylong_small (by omega)))
theorem op_mod : OpR X (binaryOp .Mod) (rI (fun _ j => 0 < j) fun i j => .int (i % j)) := opI fun i j _ _ _ _ _ hc q => by
  have h1 : (0 : Int) < j := hc
  exact mod_int' (by omega) (by rw [Int.fmod_eq_emod_of_nonneg i (by omega)]; exact q)
theorem op_pow : OpR X (binaryOp .Pow) (rI CPow fun i j => .int (i ^ j.toNat)) := opI fun _ _ _ _ _ _ _ hc q => pow_int_small hc.1 hc.2.1 hc.2.2 q
theorem unI {f : Value → Sem Value} {g : Int → Int}
    (rule : ∀ (i : Int) (t : Tok) (s : Shared) (Q : Value → Shared → Prop) (E : Value → Shared → Prop), Q (.int (g i) s.toks) { s with toks := s.toks + 1 } → wpAny (model X.prog X.w) X.A (f (.int i t)) Q E s) :
    UnR X f (rU fun i => .int (g i)) := by
  intro pins s σ H x v Q I rx h
  obtain ⟨i, rfl, q⟩ := h
  obtain ⟨t, rfl⟩ := rx
  exact rule i t s _ _ ⟨.int (g i), H, I.tok _, ⟨_, rfl⟩, q⟩
theorem un_neg : UnR X (unaryOp .USub) (rU fun i => .int (-i)) := unI fun _ _ _ _ _ q => neg_int q
end
noncomputable def scal : V → V → Bool
  | .non, .non => true | .non, .int _ => true | .int _, .non => true | .non, .bl _ => true | .bl _, .non => true | .non, .str _ => true | .str _, .non => true
  | .int _, .int _ => true | .bl _, .bl _ => true | .str _, .str _ => true | .byt _, .byt _ => true
  | .int _, .str _ => true | .str _, .int _ => true | .bl _, .str _ => true | .str _, .bl _ => true
  | _, _ => false
noncomputable def rEq : R2 := fun x y H Q => scal x y = true ∧ Q (.bl (decide (x = y))) H
noncomputable def rNe : R2 := fun x y H Q => scal x y = true ∧ Q (.bl (!decide (x = y))) H
theorem dec_int {i j : Int} : decide (V.int i = V.int j) = (i == j) := by
  rw [Bool.eq_iff_iff]
  simp
theorem dec_bl {i j : Bool} : decide (V.bl i = V.bl j) = (i == j) := by
  rw [Bool.eq_iff_iff]
  simp
theorem dec_str {i j : Str} : decide (V.str i = V.str j) = (i == j) := by
  rw [Bool.eq_iff_iff]
  simp
theorem dec_byt {i j : Array UInt8} : decide (V.byt i = V.byt j) = (i.toList == j.toList) := by
  rw [Bool.eq_iff_iff]
  cases i
  cases j
  simp
section
variable {X : Cx} {a b c : Expr} {ta tb tc : TE} {pos : Pos}
theorem fin_bl {pins : List (Addr × Obj)} {σ : St} {H : Hp} {s : Shared} {Q : VK} {k k' : Bool} (I : Inv X pins σ H s) (q : Q (.bl k) H) (e : k = k') : EP X pins σ Q (.bool k') s := by
  subst e
  exact ⟨.bl k, H, I, rfl, q⟩
theorem op_eq : OpR X (compareOp .Eq) rEq := by
  intro pins s σ H x y v u Q I rx ry h
  obtain ⟨hs, q⟩ := h
  cases x with
  | non =>
    cases rx
    cases y with
    | non => cases ry; exact PySem.EqNone.eq_none_none (fin_bl I q (by simp))
    | bl j => cases ry; exact PySem.EqNone.eq_none_bool (fin_bl I q (by simp))
    | int j => obtain ⟨t', rfl⟩ := ry; exact PySem.EqNone.eq_none_int (fin_bl I q (by simp))
    | str j => obtain ⟨t', rfl⟩ := ry; exact PySem.EqNone.eq_none_str (fin_bl I q (by simp))
    | _ => exact absurd (show false = true from hs) Bool.false_ne_true
  | bl i =>
    cases rx
    cases y with
    | non => cases ry; exact PySem.EqNone.eq_bool_none (fin_bl I q (by simp))
    | bl j => cases ry; exact eq_bool (fin_bl I q dec_bl)
    | str j => obtain ⟨t', rfl⟩ := ry; exact PySem.EqMixed.eq_bool_str (fin_bl I q (by simp))
    | _ => exact absurd (show false = true from hs) Bool.false_ne_true
  | int i =>
    obtain ⟨t, rfl⟩ := rx
    cases y with
    | non => cases ry; exact PySem.EqNone.eq_int_none (fin_bl I q (by simp))
    | int j => obtain ⟨t', rfl⟩ := ry; exact eq_int (fin_bl I q dec_int)
    | str j => obtain ⟨t', rfl⟩ := ry; exact PySem.EqMixed.eq_int_str (fin_bl I q (by simp))
    | _ => exact absurd (show false = true from hs) Bool.false_ne_true
  | str i =>
    obtain ⟨t, rfl⟩ := rx
    cases y with
    | non => cases ry; exact PySem.EqNone.eq_str_none (fin_bl I q (by simp))
    | bl j => cases ry; exact PySem.EqMixed.eq_str_bool (fin_bl I q (by simp))
    | int j => obtain ⟨t', rfl⟩ := ry; exact PySem.EqMixed.eq_str_int (fin_bl I q (by simp))
    | str j => obtain ⟨t', rfl⟩ := ry; exact eq_str (fin_bl I q dec_str)
    | _ => exact absurd (show false = true from hs) Bool.false_ne_true
  | byt i =>
    obtain ⟨t, rfl⟩ := rx
    cases y with
    | byt j => obtain ⟨t', rfl⟩ := ry; exact PySem.W.eq_bytes (fin_bl I q dec_byt)
    | _ => exact absurd (show false = true from hs) Bool.false_ne_true
  | _ => cases y <;> exact absurd (show false = true from hs) Bool.false_ne_true
theorem op_ne : OpR X (compareOp .NotEq) rNe := by
  intro pins s σ H x y v u Q I rx ry h
  obtain ⟨hs, q⟩ := h
  cases x with
  | non =>
    cases rx
    cases y with
    | non => cases ry; exact PySem.EqNone.ne_none_none (fin_bl I q (by simp))
    | bl j => cases ry; exact PySem.EqNone.ne_none_bool (fin_bl I q (by simp))
    | int j => obtain ⟨t', rfl⟩ := ry; exact PySem.EqNone.ne_none_int (fin_bl I q (by simp))
    | str j => obtain ⟨t', rfl⟩ := ry; exact PySem.EqNone.ne_none_str (fin_bl I q (by simp))
    | _ => exact absurd (show false = true from hs) Bool.false_ne_true
  | bl i =>
    cases rx
    cases y with
    | non => cases ry; exact PySem.EqNone.ne_bool_none (fin_bl I q (by simp))
    | bl j => cases ry; exact ne_bool (fin_bl I q (congrArg not dec_bl))
    | str j => obtain ⟨t', rfl⟩ := ry; exact PySem.EqMixed.ne_bool_str (fin_bl I q (by simp))
    | _ => exact absurd (show false = true from hs) Bool.false_ne_true
  | int i =>
    obtain ⟨t, rfl⟩ := rx
    cases y with
    | non => cases ry; exact PySem.EqNone.ne_int_none (fin_bl I q (by simp))
    | int j => obtain ⟨t', rfl⟩ := ry; exact ne_int (fin_bl I q (congrArg not dec_int))
    | str j => obtain ⟨t', rfl⟩ := ry; exact PySem.EqMixed.ne_int_str (fin_bl I q (by simp))
    | _ => exact absurd (show false = true from hs) Bool.false_ne_true
  | str i =>
    obtain ⟨t, rfl⟩ := rx
    cases y with
    | non => cases ry; exact PySem.EqNone.ne_str_none (fin_bl I q (by simp))
    | bl j => cases ry; exact PySem.EqMixed.ne_str_bool (fin_bl I q (by simp))
    | int j => obtain ⟨t', rfl⟩ := ry; exact PySem.EqMixed.ne_str_int (fin_bl I q (by simp))
    | str j => obtain ⟨t', rfl⟩ := ry; exact ne_str (fin_bl I q (congrArg not dec_str))
    | _ => exact absurd (show false = true from hs) Bool.false_ne_true
  | byt i =>
    obtain ⟨t, rfl⟩ := rx
    cases y with
    | byt j => obtain ⟨t', rfl⟩ := ry; exact PySem.W.ne_bytes (fin_bl I q (congrArg not dec_byt))
    | _ => exact absurd (show false = true from hs) Bool.false_ne_true
  | _ => cases y <;> exact absurd (show false = true from hs) Bool.false_ne_true
theorem op_lt : OpR X (compareOp .Lt) (rI0 fun i j => .bl (decide (i < j))) := opB0 fun _ _ _ _ _ _ _ q => lt_int q
theorem op_le : OpR X (compareOp .LtE) (rI0 fun i j => .bl (decide (i ≤ j))) := opB0 fun _ _ _ _ _ _ _ q => le_int q
theorem op_gt : OpR X (compareOp .Gt) (rI0 fun i j => .bl (decide (j < i))) := opB0 fun _ _ _ _ _ _ _ q => gt_int q
theorem op_ge : OpR X (compareOp .GtE) (rI0 fun i j => .bl (decide (j ≤ i))) := opB0 fun _ _ _ _ _ _ _ q => ge_int q
theorem nomark (b : Expr) {op : CmpOp} (h : op ≠ .In := by decide) (h2 : op ≠ .NotIn := by decide) : behindInMarks op b = false := by
  have e1 : (op == CmpOp.In) = false := by cases op <;> first | rfl | exact absurd rfl h
  have e2 : (op == CmpOp.NotIn) = false := by cases op <;> first | rfl | exact absurd rfl h2
  cases b <;> simp [behindInMarks, e1, e2]
theorem pe_cmpR {op : CmpOp} {r : R2} (ho : OpR X (compareOp op) r) (ha : PE X a ta) (hb : PE X b tb) (hm : behindInMarks op b = false) : PE X (.Compare a [op] [b] pos) (tOp r ta tb) := by
  intro pins s σ H Q I h
  exact wpAny_Compare1 (binT ha hb I h fun v u s2 x y H2 I2 rx ry q => ho pins s2 σ H2 x y v u Q I2 rx ry q) hm
noncomputable def tTest (t : TE) : TT := fun σ H Q => t σ H fun x H' => ∃ k, x = .bl k ∧ Q k H'
theorem pt_cmpR {op : CmpOp} {r : R2} (ho : OpR X (compareOp op) r) (ha : PE X a ta) (hb : PE X b tb) (hm : behindInMarks op b = false) : PT X (.Compare a [op] [b] pos) (tTest (tOp r ta tb)) := by
  intro pins s σ H Q I h
  refine wpAny_isTrue_Compare1 (thn (ha pins s σ H _ I h) fun v s1 ⟨x, H1, I1, r1, q1⟩ => thn (hb pins s1 σ H1 _ I1 q1) fun u s2 ⟨y, H2, I2, r2, q2⟩ =>
    thn (ho pins s2 σ H2 x y v u _ I2 r1 r2 q2) fun c s3 ⟨z, H3, I3, r3, k, e, q3⟩ => ?_) hm
  subst e
  cases r3
  exact wpAny_truthy_bool ⟨H3, I3, q3⟩
noncomputable def tChain (r r' : R2) (ta tb tc : TE) : TE := fun σ H Q => ta σ H fun x H1 => tb σ H1 fun y H2 => r x y H2 fun z H3 => ∃ k, z = .bl k ∧
  (if k = true then tc σ H3 fun w' H4 => r' y w' H4 Q else Q (.bl false) H3)
theorem line63 : (sizeLine : Nat) < 2 ^ 63 := by rw [sizeLine_eq]; decide
theorem vals1 {x : V} {us : List Value} (r : Vals [x] us) : ∃ u, us = [u] ∧ RelV x u := by
  cases r with
  | cons r1 r2 => cases r2; exact ⟨_, rfl, r1⟩
theorem vals2 {x y : V} {us : List Value} (r : Vals [x, y] us) : ∃ u w', us = [u, w'] ∧ RelV x u ∧ RelV y w' := by
  cases r with
  | cons r1 r2 =>
    cases r2 with
    | cons r3 r4 => cases r4; exact ⟨_, _, rfl, r1, r3⟩
noncomputable def LenV (K : PySem.W.Frag) (x : V) (H : Hp) (n : Nat) : Prop :=
  match x with
  | .str y => y.length ≤ sizeLine ∧ n = y.length
  | .byt y => y.size ≤ sizeLine ∧ n = y.size
  | .ref p => (∃ xs, SqL K H p xs ∧ n = xs.length) ∨ ∃ xs, SqT K H p xs ∧ n = xs.length
  | _ => False
end
end L2
namespace L2
open PySem PySem.Spec PyProof.Rows
structure ObjM (h : Heap) (x dx C : Addr) (mA : Str → Option Value) : Prop where
  obj : h.get? x = some (PySem.W.instObj C dx)
  ns : h.Ns1 dx mA
  ne : dx ≠ x
theorem lookIn_ns {h : Heap} {dx : Addr} {mA : Str → Option Value} (n : h.Ns1 dx mA) : ∃ od, h.get? dx = some od ∧ ∀ name, PySem.W.lookIn name od = some (mA name) := by
  obtain ⟨o, es, ep, ho, hd, hk, _, hm⟩ := n
  refine ⟨o, ho, fun name => ?_⟩
  have e := hm name
  unfold nsFind findBy at e
  rw [← Array.find?_toList] at e
  unfold PySem.W.lookIn
  rw [hd]
  dsimp only
  split
  · rename_i y q
    rw [q] at e
    exact congrArg some e
  · rename_i q
    rw [q] at e
    have a : es.toList.any (·.refKey) = false := by
      rw [List.any_eq_false]
      intro y hy
      obtain ⟨z, t, hkey⟩ := hk y (Array.mem_toList_iff.mp hy)
      simp [DictEntry.refKey, hkey]
    have a' : ¬ es.toList.any (·.refKey) = true := by rw [a]; exact Bool.false_ne_true
    rw [if_neg a']
    exact congrArg some e
theorem ObjM.look {h : Heap} {x dx C : Addr} {mA : Str → Option Value} (I : ObjM h x dx C mA) : ∃ od, PySem.W.InstAt h x (PySem.W.instObj C dx) C (some od) ∧ ∀ name, PySem.W.lookIn name od = some (mA name) :=
  let ⟨od, ho, hl⟩ := lookIn_ns I.ns
  ⟨od, ⟨I.obj, rfl, rfl, ho⟩, hl⟩
section
variable {prog : Program} {w : World} {A : Around} {E : Value → Shared → Prop} {s : Shared} {K : PySem.W.Frag} {x dx C f : Addr} {mA : Str → Option Value} {name : Str} {v : Value}
theorem get_meth {pl : Sem Bool} {Q : Value × List Value → Shared → Prop} (X : K.In s.heap) (I : ObjM s.heap x dx C mA) (hg : PySem.W.plainGet K C name = true)
    (hf : PySem.W.findIn K (.ref C) name = some (some (.ref f))) (ht : PySem.W.isFn K (.ref f) = true) (hv : mA name = none) (h : Q (.ref f, [.ref x]) s) :
    wpAny (model prog w) A (getMethod (.ref x) name pl) Q E s := by
  obtain ⟨od, J, hl⟩ := I.look
  exact PySem.W.method_fn X J (PySem.W.plainGet_of hg).1 (PySem.W.plainGet_of hg).2 hf (beq_iff_eq.mp ht) (by show (PySem.W.lookIn name od).map (·.isSome) = some false; rw [hl, hv]; rfl) h
theorem make_map {R : Result → Shared → Prop} {vs : List Value} {kw : List (Str × Value)} (X : K.In s.heap) (hm : PySem.W.makesIn K C = true)
    (hi : PySem.W.findIn K (.ref C) "__init__" = some (some (.ref f))) (hf : PySem.W.typeIn K (.ref f) = some (.type "function"))
    (h : codeAny (model prog w) (A.under (.builtin "type.__call__" ⟨.ref C :: vs, kw⟩)) (.call (.ref f) ⟨.ref (s.heap.objs.size + 1) :: vs, kw⟩) (PySem.W.InitBack (s.heap.objs.size + 1) R)
      { s with heap := (s.heap.push PySem.W.emptyDict).push (PySem.W.instObj C s.heap.objs.size) }) :
    codeAny (model prog w) A (.call (.ref C) ⟨vs, kw⟩) R s := by
  obtain ⟨hh, g, d, t, os⟩ := s
  exact PySem.W.make_core (PySem.W.makes_of X hm) (PySem.W.looks_findIn X hi) (fun self => PySem.W.bind_fn X self hf) (.inl rfl) h
end
noncomputable def putF (f : Str) (v : V) : List (Str × V) → List (Str × V)
  | [] => [(f, v)]
  | (g, x) :: r => if g = f then (g, v) :: r else (g, x) :: putF f v r
theorem RelO.none_of {o : Option Value} (r : RelO none o) : o = none := by
  cases o with
  | none => rfl
  | some u => exact (show False from r).elim
section
variable {P : Program} {w : World} {H H' : Hp} {h h' : Heap} {a C dx : Addr} {fs fs' : List (Str × V)}
theorem ins_get (hok : HOk P w H h) (e : H a = some (.ins C dx fs)) : ∃ mA, ObjM h a dx C mA ∧ (∀ f, RelO (fs.lookup f) (mA f)) ∧ PySem.Within mA (fs.map (·.1)) ∧ fs.length ≤ 1000 ∧ H dx = some (.own a) := by
  obtain ⟨d, z, ne, ob, mA, n, r, q⟩ := (show ObjOk P w H h a (.ins C dx fs) from hok a _ e)
  exact ⟨mA, ⟨ob, n, ne⟩, r, q, z, d⟩
end
structure Cls (K : PySem.W.Frag) (C : Addr) : Prop where
  pg : PySem.W.plainGet K C Str.empty = true
  hd : PySem.W.hasDictIn K C = true
  po : PySem.W.plainOver K C = true
  sa : PySem.W.findIn K (.ref C) "__setattr__" = some (some (.builtin "object.__setattr__"))
theorem Cls.get {K : PySem.W.Frag} {C : Addr} (c : Cls K C) (f : Str) : PySem.W.plainGet K C f = true := c.pg
noncomputable def NoAttr (K : PySem.W.Frag) (C : Addr) (f : Str) : Prop := PySem.W.findIn K (.ref C) f = some none
structure Meth (K : PySem.W.Frag) (C : Addr) (m : Str) (f : Addr) : Prop where
  at_ : PySem.W.findIn K (.ref C) m = some (some (.ref f))
  fn : PySem.W.isFn K (.ref f) = true
  kp : PySem.W.keepIn K (.ref f) = true
section
variable {X : Cx} {pins : List (Addr × Obj)} {σ : St} {H : Hp} {s : Shared} {a C dx : Addr} {fs : List (Str × V)} {f : Str} {v : V} {A : Around} {E : Value → Shared → Prop}
theorem getmeth_ok {m : Str} {g : Addr} {pl : Sem Bool} {Q : Value × List Value → Shared → Prop} (I : Inv X pins σ H s) (e : H a = some (.ins C dx fs)) (c : Cls X.K C) (k : Meth X.K C m g) (l : fs.lookup m = none)
    (h : Q (.ref g, [.ref a]) s) : wpAny (model X.prog X.w) A (getMethod (.ref a) m pl) Q E s := by
  obtain ⟨mA, O, r, _, _, _⟩ := ins_get I.hok e
  have hn : mA m = none := RelO.none_of (by rw [← l]; exact r m)
  exact get_meth I.kIn O (c.get m) k.at_ k.fn hn h
theorem Inv.made (I : Inv X pins σ H s) : Inv X pins σ (upd (upd H s.heap.objs.size (.own (s.heap.objs.size + 1))) (s.heap.objs.size + 1) (.ins C s.heap.objs.size []))
    { s with heap := (s.heap.push PySem.W.emptyDict).push (PySem.W.instObj C s.heap.objs.size) } := by
  have e1 : (s.heap.push PySem.W.emptyDict).get? s.heap.objs.size = some PySem.W.emptyDict := Heap.get?_push_size s.heap rfl
  have e2 : ((s.heap.push PySem.W.emptyDict).push (PySem.W.instObj C s.heap.objs.size)).get? (s.heap.objs.size + 1) = some (PySem.W.instObj C s.heap.objs.size) := by
    have := Heap.get?_push_size (s.heap.push PySem.W.emptyDict) (o := PySem.W.instObj C s.heap.objs.size) rfl
    rwa [Heap.size_push] at this
  have e3 : (s.heap.push PySem.W.emptyDict).Ns s.heap.objs.size (fun _ => none) := ⟨PySem.W.emptyDict, #[], _, e1, rfl, (fun e he => absurd he (by simp)), fun _ => rfl⟩
  have I1 := I.laid (a := s.heap.objs.size) (o := .own (s.heap.objs.size + 1)) (h' := s.heap.push PySem.W.emptyDict) (t' := s.toks) (fun b u q => Heap.get?_push_of_some _ q) (Nat.le_refl _) ⟨_, e1⟩
  refine I1.laid (a := s.heap.objs.size + 1) (o := .ins C s.heap.objs.size []) (t' := s.toks) (fun b u q => Heap.get?_push_of_some _ q) (Nat.le_of_eq (Heap.size_push _ _)) ?_
  have ne : s.heap.objs.size ≠ s.heap.objs.size + 1 := Nat.ne_of_lt (Nat.lt_succ_self _)
  refine ⟨by rw [upd_ne ne, upd_same], Nat.zero_le _, ne, e2, fun _ => none, (Heap.Ns1.of_empty e3).at fun o q => Heap.get?_push_of_some _ q, fun _ => True.intro, fun y hy => absurd rfl hy⟩
end
noncomputable def tFld (K : PySem.W.Frag) (ta : TE) (f : Str) : TE := fun σ H Q => ta σ H fun x H1 => ∃ a C dx fs v, x = .ref a ∧ H1 a = some (.ins C dx fs) ∧ Cls K C ∧ NoAttr K C f ∧ fs.lookup f = some v ∧ Q v H1
noncomputable def sFld (K : PySem.W.Frag) (ta tv : TE) (f : Str) : TS := fun D σ H => tv σ H fun y H1 => ta σ H1 fun x H2 => ∃ a C dx fs, x = .ref a ∧ H2 a = some (.ins C dx fs) ∧ Cls K C ∧ NoAttr K C f ∧ fs.length < 1000 ∧
  D.nx σ (upd H2 a (.ins C dx (putF f y fs)))
section
variable {X : Cx} {o e value : Expr} {f : Str} {pos pos' tpos : Pos} {ta tv : TE}
theorem methcall_of {pl : Sem Bool} {m : Str} {apos : Pos} {args : List Expr} {pins : List (Addr × Obj)} {s : Shared} {σ : St} {H : Hp} {Q : Value → Shared → Prop} {te : TE} (he : PE X e te) (I : Inv X pins σ H s)
    (h : te σ H fun x H1 => ∃ a C dx fs g, x = .ref a ∧ H1 a = some (.ins C dx fs) ∧ Cls X.K C ∧ Meth X.K C m g ∧ fs.lookup m = none ∧
      ∀ s1, Inv X pins σ H1 s1 → wpAny (model X.prog X.w) X.A (callWith pos (.ref g) [.ref a] (backTo pos (starEach args X.env)) (backToKw pos (keywordEach [] X.env))) Q X.xe s1)
    (ht : eval (.Call (.Attribute e m apos) args [] pos) X.env = (do
      let ov ← eval e X.env
      standAt apos.atName
      let (f, first) ← holding [ov] (getMethod ov m pl)
      callWith pos f first (backTo pos (starEach args X.env)) (backToKw pos (keywordEach [] X.env)))) :
    wpAny (model X.prog X.w) X.A (eval (.Call (.Attribute e m apos) args [] pos) X.env) Q X.xe s := by
  refine PySem.W.methodCall_KW (pl := pl) (thn (he pins s σ H _ I h) fun u s1 ⟨x, H1, I1, rx, a, C, dx, fs, g, ex, ea, c, k, l, q⟩ => ?_) ht
  subst ex
  obtain rfl : u = Value.ref a := rx
  exact getmeth_ok I1 ea c k l (q s1 I1)
end
section
variable {X : Cx} {pins : List (Addr × Obj)} {σ : St} {H : Hp} {s : Shared} {A : Around} {E : Value → Shared → Prop} {Q : Value → Shared → Prop} {c : Value} {b : Bool}
inductive TyOf (K : PySem.W.Frag) (H : Hp) : V → Value → Prop where
  | non : TyOf K H .non (.type "NoneType")
  | bl (x : Bool) : TyOf K H (.bl x) (.type "bool")
  | int (i : Int) : TyOf K H (.int i) (.type "int")
  | str (x : Str) : TyOf K H (.str x) (.type "str")
  | flt (x : UInt64) : TyOf K H (.flt x) (.type "float")
  | lst {a : Addr} {xs : List V} (e : H a = some (.lst xs)) : TyOf K H (.ref a) (.type "list")
  | frz {a : Addr} {o : Obj} {xs : List V} (e : H a = some (.frz o (.lst xs))) : TyOf K H (.ref a) (.type "list")
  | tup {a : Addr} {xs : List V} (e : H a = some (.tup xs)) : TyOf K H (.ref a) (.type "tuple")
  | dK {a : Addr} {kvs : List (Key × V)} (e : H a = some (.dK kvs)) : TyOf K H (.ref a) (.type "dict")
  | dT {a : Addr} {kvs : List (List NKey × V)} (e : H a = some (.dT kvs)) : TyOf K H (.ref a) (.type "dict")
  | ins {a C dx : Addr} {fs : List (Str × V)} (e : H a = some (.ins C dx fs)) (cl : Cls K C) (ha : PySem.W.findIn K (.ref C) "__class__" = some (some (.builtin "object.__class__")))
      (hn : PySem.W.specialIn K (.builtin "object.__class__") "__get__" = some (some (.builtin "getset_descriptor.__get__"))) (htk : PySem.W.takesIn K (.builtin "object.__class__") = some true)
      (hm : PySem.W.mroIn K C (.type "object") = some true) : TyOf K H (.ref a) (.ref C)
theorem isinst_ok {x : V} {u t : Value} (I : Inv X pins σ H s) (rx : RelV x u) (ty : TyOf X.K H x t) (e : PySem.W.kitOne X.K t c = some b) (h : ∀ tk, Q (.bool b) { s with toks := tk }) :
    wpAny (model X.prog X.w) A (call (.builtin "isinstance") [u, c]) Q E s := by
  cases ty with
  | non => cases (show u = Value.none from rx); exact PySem.W.kia_one PySem.W.kitx_none I.kIn True.intro e (fun z => nomatch z) h
  | bl y => cases (show u = Value.bool y from rx); exact PySem.W.kia_one PySem.W.kitx_bool I.kIn True.intro e (fun z => nomatch z) h
  | int i => obtain ⟨t, q⟩ := (show ∃ t, u = Value.int i t from rx); cases q; exact PySem.W.kia_one PySem.W.kitx_int I.kIn True.intro e (fun z => nomatch z) h
  | str y => obtain ⟨t, q⟩ := (show ∃ t, u = Value.str y t from rx); cases q; exact PySem.W.kia_one PySem.W.kitx_str I.kIn True.intro e (fun z => nomatch z) h
  | flt y => obtain ⟨t, q⟩ := (show ∃ t, u = Value.float y t from rx); cases q; exact PySem.W.kia_one PySem.W.kitx_float I.kIn True.intro e (fun z => nomatch z) h
  | @lst a xs ea =>
    cases (show u = Value.ref a from rx)
    obtain ⟨_, _, n, _, h1⟩ := (show ObjOk X.prog X.w H s.heap a (.lst xs) from I.hok a _ ea)
    exact PySem.W.kia_one PySem.W.kitx_list I.kIn ⟨_, h1, rfl⟩ e (fun z => nomatch z) h
  | @frz a ob xs ea =>
    cases (show u = Value.ref a from rx)
    obtain ⟨_, _, _, n, _, h1⟩ := (show ObjOk X.prog X.w H s.heap a (.frz ob (.lst xs)) from I.hok a _ ea)
    exact PySem.W.kia_one PySem.W.kitx_list I.kIn ⟨_, h1, rfl⟩ e (fun z => nomatch z) h
  | @tup a xs ea =>
    cases (show u = Value.ref a from rx)
    obtain ⟨_, _, _, p⟩ := (show ObjOk X.prog X.w H s.heap a (.tup xs) from I.hok a _ ea)
    obtain ⟨o, h1, h2, _⟩ := p
    exact PySem.W.kia_one PySem.W.kitx_tuple I.kIn ⟨o, h1, h2⟩ e (fun z => nomatch z) h
  | @dK a kvs ea =>
    cases (show u = Value.ref a from rx)
    obtain ⟨_, _, vs, _, p⟩ := (show ObjOk X.prog X.w H s.heap a (.dK kvs) from I.hok a _ ea)
    obtain ⟨o, es, ep, h1, h2, _⟩ := p
    exact PySem.W.kia_one PySem.W.kitx_dict I.kIn ⟨o, h1, h2.1⟩ e (fun z => nomatch z) h
  | @dT a kvs ea =>
    cases (show u = Value.ref a from rx)
    obtain ⟨_, _, xs, _, o, es, ep, h1, h2, _⟩ := (show ObjOk X.prog X.w H s.heap a (.dT kvs) from I.hok a _ ea)
    exact PySem.W.kia_one PySem.W.kitx_dict I.kIn ⟨o, h1, h2.1⟩ e (fun z => nomatch z) h
  | @ins a C dx fs ea cl ha hn htk hm =>
    cases (show u = Value.ref a from rx)
    obtain ⟨mA, O, _⟩ := ins_get I.hok ea
    obtain ⟨od, J, _⟩ := O.look
    exact PySem.W.kia_one (PySem.W.kitx_own (cl.get _) cl.hd ha hn htk hm) I.kIn J e (fun z => nomatch z) h
end
end L2
namespace L2
open PySem PySem.Spec PyProof.Rows
structure Room (k : Nat) (A : Around) : Prop where
  hd : A.handled = none
  dp : A.depth + 3 * k + 5 < recursionLimit
  un : A.units + 16 * k + 200 < cLine
theorem Room.mono {j k : Nat} {A : Around} (r : Room k A) (h : j ≤ k) : Room j A := ⟨r.hd, by have := r.dp; omega, by have := r.un; omega⟩
theorem Room.deeper {k : Nat} {A : Around} (r : Room (k + 1) A) (env : Env) : Room k (A.deeper env) :=
  ⟨r.hd, by have := r.dp; show A.depth + 1 + 3 * k + 5 < _; omega, by have := r.un; show A.units + 3 + 16 * k + 200 < _; omega⟩
theorem Room.depth {k : Nat} {A : Around} (r : Room k A) : A.depth < recursionLimit := by have := r.dp; omega
theorem Room.units {k : Nat} {A : Around} (r : Room k A) : A.units + 64 < cLine := by have := r.un; omega
noncomputable def tNil : TA := fun _ H Q => Q [] H
noncomputable def tCons (ta : TE) (tr : TA) : TA := fun σ H Q => ta σ H fun x H1 => tr σ H1 fun xs H2 => Q (x :: xs) H2
section
variable {X : Cx} {e : Expr} {es : List Expr} {te : TE} {t : TA} {pos : Pos}
theorem pa_nil : PA X [] tNil := fun _ _ _ _ H Q I h => Calls.spliced_nil ⟨[], H, I, .nil, h⟩
theorem pa_cons (ha : PE X e te) (hr : PA X es t) (hs : starEach (e :: es) X.env = (false, eval e X.env) :: starEach es X.env := by rfl) : PA X (e :: es) (tCons te t) := by
  intro pos pins s σ H Q I h
  rw [hs]
  show wpAny _ _ (spliced ((false, eval e X.env) :: backTo pos (starEach es X.env))) _ _ s
  refine Calls.spliced_cons (thn (ha pins s σ H _ I h) fun u s1 ⟨x, H1, I1, r1, q1⟩ => ?_)
  exact thn (hr pos pins s1 σ H1 _ I1 q1) fun us s2 ⟨xs, H2, I2, r2, q2⟩ => ⟨x :: xs, H2, I2, .cons r1 r2, q2⟩
noncomputable def tTup (t : TA) : TE := fun σ H Q => t σ H fun xs H1 => xs.length ≤ sizeLine ∧ ∀ p, H1 p = none → Q (.ref p) (upd H1 p (.tup xs))
noncomputable def tLst (t : TA) : TE := fun σ H Q => t σ H fun xs H1 => xs.length ≤ sizeLine ∧ ∀ p, H1 p = none → Q (.ref p) (upd H1 p (.lst xs))
theorem pe_tup {x1} (h : PA X es t) : PE X (.Tuple es x1 pos) (tTup t) := by
  intro pins s σ H Q I hq
  refine wpAny_Tuple_spliced (thn (h pos pins s σ H _ I hq) fun us s1 ⟨xs, H1, I1, r, z, q⟩ => ⟨by rw [← r.length]; exact z, ?_⟩)
  have hf : H1 s1.heap.objs.size = none := I1.hok.fresh (Nat.le_refl _)
  refine ⟨.ref s1.heap.objs.size, upd H1 s1.heap.objs.size (.tup xs), I1.laid (t' := s1.toks) (fun b u e => Heap.get?_push_of_some _ e) (Nat.le_refl _) ?_, rfl, q _ hf⟩
  exact ⟨z, us, r, ⟨_, Heap.get?_push_size _ rfl, rfl, _, rfl⟩⟩
theorem pe_lst (h : PA X es t) : PE X (.List es pos) (tLst t) := by
  intro pins s σ H Q I hq
  refine wpAny_List_spliced (thn (h pos pins s σ H _ I hq) fun us s1 ⟨xs, H1, I1, r, z, q⟩ => ⟨by rw [← r.length]; exact z, ?_⟩)
  have hf : H1 s1.heap.objs.size = none := I1.hok.fresh (Nat.le_refl _)
  refine ⟨.ref s1.heap.objs.size, upd H1 s1.heap.objs.size (.lst xs), I1.laid (t' := s1.toks) (fun b u e => Heap.get?_push_of_some _ e) (Nat.le_refl _) ?_, rfl, q _ hf⟩
  exact ⟨z, us, 0, r, Heap.get?_push_size _ rfl⟩
end
noncomputable abbrev Sp := List V → Hp → VK → XK → Prop
noncomputable abbrev CXT := List Env → Hp → Shared → XK → Value → Shared → Prop
structure Env0 (P : Program) (w : World) (K : PySem.W.Frag) (mg : Str → Option Value) (base : Heap) (A : Around) (outer : List Env) (s : Shared) (H : Hp) : Prop where
  frames : A.frames = some outer
  mod : Mod K mg base
  bs : ∀ b o, base.get? b = some o → s.heap.get? b = some o ∧ H b = none
  bsz : base.objs.size ≤ s.heap.objs.size
  funs : s.heap.FunFrames base outer
  frf : ∀ b ∈ frs outer, H b = none
  hok : HOk P w H s.heap
  bare : AllBare s.gens
noncomputable def CE (outer : List Env) (P : Program) (w : World) (H : Hp) (s : Shared) (Q : VK) (u : Value) (s' : Shared) : Prop :=
  ∃ v H', s'.os = s.os ∧ AllBare s'.gens ∧ Un (frs outer) [] H H' s.heap s'.heap ∧ HOk P w H' s'.heap ∧ RelV v u ∧ Q v H'
noncomputable def CR (CX : CXT) (outer : List Env) (P : Program) (w : World) (H : Hp) (s : Shared) (Q : VK) (E : XK) (r : Result) (s' : Shared) : Prop :=
  match r with
  | .ok (.ret u) => CE outer P w H s Q u s'
  | .ok _ => False
  | .error e => CX outer H s E e s'
structure FnOk (P : Program) (w : World) (K : PySem.W.Frag) (mg : Str → Option Value) (base : Heap) (CX : CXT) (k : Nat) (f : Addr) (fd : FuncData) (ps : List Str) (sp : Sp) : Prop where
  len : ∀ vs H Q E, sp vs H Q E → vs.length = ps.length
  run : ∀ (A : Around) (outer : List Env) (s : Shared) (H : Hp) (args : Args) (us : List Value) (vs : List V) (Q : VK) (E : XK), Room k A → Env0 P w K mg base A outer s H → BindsTo s fd args (ps.zip us) → Vals vs us → sp vs H Q E →
    codeAny (model P w) A (.call (.ref f) args) (CR CX outer P w H s Q E) s
section
variable {X : Cx} {pins : List (Addr × Obj)} {σ : St} {H : Hp} {s s' : Shared}
theorem Inv.env0 (I : Inv X pins σ H s) : Env0 X.prog X.w X.K X.mg X.base X.A X.stack s H :=
  ⟨I.ok.frames, I.ok.mod, I.bs, Nat.le_trans I.ok.bsz I.sz, I.stack, I.stkFree, I.hok, I.bare⟩
theorem Inv.after {Q : VK} {u : Value} (I : Inv X pins σ H s) (h : CE X.stack X.prog X.w H s Q u s') : EP X pins σ Q u s' := by
  obtain ⟨v, H', os, bare, un, hok, r, q⟩ := h
  obtain ⟨hh, g, d, t, os'⟩ := s'
  obtain rfl : os' = s.os := os
  exact ⟨v, H', I.call (h' := hh) (g' := g) (d' := d) (t' := t) (ch := []) un hok bare (fun b z => absurd z (by simp)), r, q⟩
end
noncomputable def tCall (sp : Sp) (dvs : List V) (E : XK) (t : TA) : TE := fun σ H Q => t σ H fun vs H1 => sp (vs ++ dvs) H1 Q E
noncomputable def tMeth (C : Addr) (m : Str) (sp : Sp) (dvs : List V) (E : XK) (ta : TE) (t : TA) : TE := fun σ H Q => ta σ H fun x H1 => ∃ a dx fs, x = .ref a ∧ H1 a = some (.ins C dx fs) ∧ fs.lookup m = none ∧
  t σ H1 fun vs H2 => sp (x :: (vs ++ dvs)) H2 Q E
noncomputable def tMake (C : Addr) (sp : Sp) (dvs : List V) (E : XK) (t : TA) : TE := fun σ H Q => t σ H fun vs H1 => ∀ x dx, H1 x = none → H1 dx = none → dx ≠ x →
  sp (.ref x :: (vs ++ dvs)) (upd (upd H1 dx (.own x)) x (.ins C dx [])) (fun v H2 => v = .non ∧ Q (.ref x) H2) E
noncomputable def Binds (K : PySem.W.Frag) (fd : FuncData) (ps : List Str) (ds : List Value) : Prop :=
  ∀ (s : Shared) (us : List Value), K.In s.heap → (us ++ ds).length = ps.length → BindsTo s fd ⟨us, []⟩ (ps.zip (us ++ ds))
theorem Binds.all {K : PySem.W.Frag} {fd : FuncData} {ps : List Str} (h : ∀ us : List Value, us.length = ps.length → bindArgs fd ⟨us, []⟩ = pure (ps.zip us)) : Binds K fd ps [] := fun s us _ hl => by
  rw [List.append_nil] at hl ⊢
  exact .of_eq (h us hl)
noncomputable def Passes (CX : CXT) (X : Cx) (E : XK) : Prop := ∀ (pins : List (Addr × Obj)) (σ : St) (H : Hp) (s : Shared) (e : Value) (s' : Shared), Inv X pins σ H s → CX X.stack H s E e s' → X.xe e s'
section
variable {X : Cx} {CX : CXT} {k : Nat} {f C : Addr} {fd : FuncData} {ps : List Str} {sp : Sp} {dvs : List V} {ds : List Value} {E : XK} {x m : Str} {p pos apos : Pos} {e o : Expr} {es : List Expr} {ta : TE} {t : TA}
theorem run_fn {pins : List (Addr × Obj)} {σ : St} {H : Hp} {s : Shared} {Q : VK} {us : List Value} {vs : List V} (F : FnOk X.prog X.w X.K X.mg X.base CX k f fd ps sp) (hr : Room k X.A) (hb : Binds X.K fd ps ds) (hd : Vals dvs ds) (hx : Passes CX X E)
    (I : Inv X pins σ H s) (r : Vals vs us) (h : sp (vs ++ dvs) H Q E) : wpAny (model X.prog X.w) X.A (call (.ref f) us) (EP X pins σ Q) X.xe s := by
  have r2 : Vals (vs ++ dvs) (us ++ ds) := r.append hd
  have hl : (us ++ ds).length = ps.length := by rw [← r2.length]; exact F.len _ _ _ _ h
  refine wpAny_call (codeAny_mono (F.run X.A X.stack s H ⟨us, []⟩ (us ++ ds) (vs ++ dvs) Q E hr I.env0 (hb s us I.kIn hl) r2 h) fun r s' hq => ?_)
  cases r with
  | error e => exact hx pins σ H s e s' I hq
  | ok fl =>
    cases fl with
    | ret u => exact I.after hq
    | next => exact False.elim hq
    | brk => exact False.elim hq
    | cont => exact False.elim hq
theorem pe_call (F : FnOk X.prog X.w X.K X.mg X.base CX k f fd ps sp) (hr : Room k X.A) (hg : Gl X x) (hm : X.mg x = some (.ref f)) (hk : PySem.W.keepIn X.K (.ref f) = true) (hb : Binds X.K fd ps ds) (hd : Vals dvs ds) (hx : Passes CX X E)
    (ha : PA X (e :: es) t) (hdb : (x == ("__debug__" : Str)) = false := by decide) (he : starEach (e :: es) X.env = (false, eval e X.env) :: starEach es X.env := by rfl) (hpl : (backTo pos (starEach es X.env)).any (·.1) = false := by rfl) :
    PE X (.Call (.Name x p) (e :: es) [] pos) (tCall sp dvs E t) := by
  intro pins s σ H Q I h
  refine wpAny_Call_Name_kw (ld_glob I hg hm ?_ hdb)
  refine PySem.W.callWith_K (h₀ := X.base) I.ok.mod.kin hk (thn (ha pos pins s σ H _ I h) fun us s1 ⟨vs, H1, I1, r, q⟩ => ⟨I1.kIn, ?_⟩) he hpl
  exact run_fn F hr hb hd hx I1 r q
end
noncomputable def PK (X : Cx) (kws : List Keyword) (t : TA) : Prop :=
  ∀ (pos : Pos) (pins : List (Addr × Obj)) (s : Shared) (σ : St) (H : Hp) (Q : List V → Hp → Prop), Inv X pins σ H s → t σ H Q → wpAny (model X.prog X.w) X.A (evalAll ((backToKw pos (keywordEach kws X.env)).map (·.2))) (AP X pins σ Q) X.xe s
section
variable {X : Cx} {CX : CXT} {k : Nat} {f C : Addr} {fd : FuncData} {ps ks : List Str} {sp : Sp} {E : XK} {x m : Str} {p pos apos kpos : Pos} {e o : Expr} {es : List Expr} {kws : List Keyword} {te ta : TE} {t tk : TA} {nm : Option Str}
theorem pk_nil : PK X [] tNil := fun _ _ _ _ H Q I h => wpAny_evalAll_nil ⟨[], H, I, .nil, h⟩
theorem pk_cons (ha : PE X e te) (hr : PK X kws t) : PK X (⟨nm, e, kpos⟩ :: kws) (tCons te t) := by
  intro pos pins s σ H Q I h
  show wpAny _ _ (evalAll ((do let v ← eval e X.env; standAt pos; pure v) :: (backToKw pos (keywordEach kws X.env)).map (·.2))) _ _ s
  refine wpAny_evalAll_cons (wpAny_bind (thn (ha pins s σ H _ I h) fun u s1 ⟨x, H1, I1, r1, q1⟩ => wpAny_bind (wpAny_standAt (wpAny_pure ?_))))
  exact thn (hr pos pins s1 σ H1 _ I1 q1) fun us s2 ⟨xs, H2, I2, r2, q2⟩ => ⟨x :: xs, H2, I2, .cons r1 r2, q2⟩
variable {g : List Value → List Value → List Value} {gV : List V → List V → List V}
end
structure FnScope (N P : List Str) (sc : Scope) : Prop where
  kind : sc.kind = .function
  co : sc.isCoroutine = false
  gen : sc.isGenerator = false
  nd : N.Nodup
  pre : N.take P.length = P
  par : ∀ x ∈ P, sc.names.lookup x = some .local ∨ sc.names.lookup x = some .cell
  nofree : ∀ y ∈ sc.names, y.2 ≠ .free
theorem bindL_out {kindOf : Str → Option NameKind} {x : Str} : ∀ {binds : List (Str × Value)} {m : Str → Option Value}, (∀ v, (x, v) ∉ binds) → bindL kindOf binds m x = m x
  | [], _, _ => rfl
  | (n, v) :: r, m, h => by
    unfold bindL
    rw [bindL_out fun w hw => h w (List.mem_cons_of_mem _ hw)]
    split
    · have : x ≠ n := by rintro rfl; exact h v List.mem_cons_self
      simp [this]
    · rfl
theorem bindC_out {kindOf : Str → Option NameKind} {x : Str} : ∀ {binds : List (Str × Value)} {m : Str → Option Value}, (∀ v, (x, v) ∉ binds) → bindC kindOf binds m x = m x
  | [], _, _ => rfl
  | (n, v) :: r, m, h => by
    unfold bindC
    rw [bindC_out fun w hw => h w (List.mem_cons_of_mem _ hw)]
    split
    · rfl
    · have : x ≠ n := by rintro rfl; exact h v List.mem_cons_self
      simp [this]
theorem bindL_get {kindOf : Str → Option NameKind} {x : Str} {v : Value} : ∀ {P : List Str} {vs : List Value} {i : Nat} {m : Str → Option Value}, P.Nodup → P[i]? = some x → vs[i]? = some v → kindOf x = some .local →
    bindL kindOf (P.zip vs) m x = some v
  | [], _, _, _, _, h, _, _ => by simp at h
  | _ :: _, [], _, _, _, _, h, _ => by simp at h
  | p :: P, w :: vs, 0, m, nd, h1, h2, hk => by
    simp at h1 h2; subst h1; subst h2
    show bindL kindOf ((p, w) :: P.zip vs) m p = _
    unfold bindL
    rw [bindL_out fun v hv => (List.nodup_cons.mp nd).1 (List.of_mem_zip hv).1, if_pos hk]
    simp
  | p :: P, w :: vs, i + 1, m, nd, h1, h2, hk => by
    show bindL kindOf ((p, w) :: P.zip vs) m x = _
    unfold bindL
    exact bindL_get (i := i) (List.nodup_cons.mp nd).2 (by simpa using h1) (by simpa using h2) hk
theorem bindC_get {kindOf : Str → Option NameKind} {x : Str} {v : Value} : ∀ {P : List Str} {vs : List Value} {i : Nat} {m : Str → Option Value}, P.Nodup → P[i]? = some x → vs[i]? = some v → kindOf x ≠ some .local →
    bindC kindOf (P.zip vs) m x = some v
  | [], _, _, _, _, h, _, _ => by simp at h
  | _ :: _, [], _, _, _, _, h, _ => by simp at h
  | p :: P, w :: vs, 0, m, nd, h1, h2, hk => by
    simp at h1 h2; subst h1; subst h2
    show bindC kindOf ((p, w) :: P.zip vs) m p = _
    unfold bindC
    rw [bindC_out fun v hv => (List.nodup_cons.mp nd).1 (List.of_mem_zip hv).1, if_neg hk]
    simp
  | p :: P, w :: vs, i + 1, m, nd, h1, h2, hk => by
    show bindC kindOf ((p, w) :: P.zip vs) m x = _
    unfold bindC
    exact bindC_get (i := i) (List.nodup_cons.mp nd).2 (by simpa using h1) (by simpa using h2) hk
noncomputable def start (N : List Str) (vs : List V) : St := vs.map some ++ List.replicate (N.length - vs.length) none
noncomputable def cxOf (CX : CXT) (P : Program) (w : World) (K : PySem.W.Frag) (mg : Str → Option Value) (base : Heap) (N : List Str) (qual : Str) (scope : Scope) (f : Addr) (cd : Value) (A : Around) (outer : List Env) (s : Shared) (H : Hp) (E : XK) : Cx where
  prog := P
  w := w
  K := K
  mg := mg
  base := base
  A := A.deeper (envOfC qual scope s.heap.objs.size f cd)
  N := N
  s₀ := s
  H₀ := H
  env := envOfC qual scope s.heap.objs.size f cd
  outer := outer
  stack := envOfC qual scope s.heap.objs.size f cd :: outer
  ex := []
  calm := true
  fn := fun _ => true
  pn := []
  xe := fun e s' => wpAny (model P w) (A.deeper (envOfC qual scope s.heap.objs.size f cd)) (leaving (envOfC qual scope s.heap.objs.size f cd) e) (fun _ s'' => CX outer H s E e s'') (fun e' s'' => CX outer H s E e' s'') s'
theorem cell_has {sc : Scope} {n : Nat} {x : Str} (h : sc.names.lookup x = some .cell) : ∃ c, (cellsFrom n sc.names []).lookup x = some c := by
  have q := PySem.W.cellsFrom_some sc.names n [] (.inl h)
  exact Option.isSome_iff_exists.mp q
theorem inv_start {CX : CXT} {P : Program} {w : World} {K : PySem.W.Frag} {mg : Str → Option Value} {base : Heap} {N ps : List Str} {qual : Str} {scope : Scope} {f : Addr} {cd : Value} {A : Around} {outer : List Env} {s s1 : Shared} {H : Hp} {E : XK} {us : List Value} {vs : List V}
    (S : FnScope N ps scope) (hd : A.handled = none) (e0 : Env0 P w K mg base A outer s H) (hl : vs.length = ps.length) (r : Vals vs us)
    (x : InCallC s s.heap.objs.size (bindL (envOfC qual scope s.heap.objs.size f cd).kindOf (ps.zip us) fun _ => none) (cellsFrom (s.heap.objs.size + 1) scope.names []) (bindC (envOfC qual scope s.heap.objs.size f cd).kindOf (ps.zip us) fun _ => none) s1) :
    Inv (cxOf CX P w K mg base N qual scope f cd A outer s H E) [] (start N vs) H s1 := by
  have hpl : ps.length ≤ N.length := by have := congrArg List.length S.pre; rw [List.length_take] at this; omega
  obtain ⟨h1, tk, rfl, hk⟩ := x.done
  have noA : ∀ b : Addr, b ∉ (cxOf CX P w K mg base N qual scope f cd A outer s H E).ex := fun b z => absurd (show b ∈ ([] : List Addr) from z) (by simp)
  refine ⟨⟨e0.mod, S.kind, rfl, rfl, Nat.le_refl _, fun y z c h1 h2 => ?_, fun y hy => ?_, fun y c _ h => ?_, fun _ => hd, Around.frames_deeper e0.frames, .inr ⟨rfl, rfl⟩, fun b z => absurd z (noA b), e0.bs, e0.bsz, fun b _ _ => noA b, fun b z => absurd z (noA b), e0.funs, e0.frf⟩,
    rfl, e0.bare, Un.kept hk, ⟨_, x.toInCall.ns, fun i y v h1 h2 h3 => ?_⟩, fun y c h => ⟨_, x.cell y c h⟩, e0.hok.fresh (Nat.le_refl _), fun y c h => ?_, fun p hp => absurd (show p ∈ ([] : List (Addr × Obj)) from hp) (by simp), e0.hok.kept hk, ?_⟩
  · exact name_of_addr x.apart (PySem.mem_of_lookup h1) (PySem.mem_of_lookup h2)
  · have hy : scope.names.lookup y = some .cell ∨ scope.names.lookup y = some .free := hy
    rcases hy with hy | hy
    · exact cell_has hy
    · exact absurd rfl (S.nofree _ (PySem.mem_of_lookup hy))
  · exact Nat.le_of_lt (x.above y c (PySem.mem_of_lookup h))
  · have hi : i < vs.length := by
      unfold start at h2
      by_cases hi : i < vs.length
      · exact hi
      · rw [List.getElem?_append_right (by simpa using hi)] at h2
        rw [List.getElem?_replicate] at h2
        split at h2 <;> cases h2
    have ha : vs[i]? = some v := by
      unfold start at h2
      rw [List.getElem?_append_left (by simpa using hi), List.getElem?_map] at h2
      cases e : vs[i]? with
      | none => rw [e] at h2; cases h2
      | some a => rw [e] at h2; cases h2; rfl
    obtain ⟨u, hu, rv⟩ := r.get ha
    have hp : ps[i]? = some y := by
      rw [← S.pre, List.getElem?_take_of_lt (by omega)]; exact h1
    have ndP : ps.Nodup := by rw [← S.pre]; exact S.nd.sublist (List.take_sublist _ _)
    refine ⟨u, rv, ?_⟩
    rcases S.par y (List.mem_of_getElem? hp) with k | k
    · exact .inl ⟨k, bindL_get ndP hp hu k⟩
    · obtain ⟨c, e⟩ := cell_has (n := s.heap.objs.size + 1) k
      refine .inr ⟨.inl k, c, e, ?_⟩
      have q := x.cell y c e
      rw [bindC_get ndP hp hu (by show scope.names.lookup y ≠ _; rw [k]; decide)] at q
      exact q
  · exact e0.hok.fresh (Nat.le_of_lt (x.above y c (PySem.mem_of_lookup h)))
  · unfold start
    show _ = N.length
    rw [List.length_append, List.length_map, List.length_replicate]
    omega
theorem fn_of {CX : CXT} {P : Program} {w : World} {K : PySem.W.Frag} {mg : Str → Option Value} {base : Heap} {k : Nat} {f : Addr} {name qual : Str} {params : Arguments} {body : List Stmt} {scope : Scope} {dV kV doc pm cdv ct oc : Value} {an od : Option Addr}
    {osl : Array (Option Value)} {N ps : List Str} {sp : Sp} (lk : K.lookup f = some ⟨oc, od, .func (PySem.W.fnOf name qual params body scope dV kV doc pm an cdv ct), osl⟩) (hcd : PySem.W.codeIn K cdv qual = true) (S : FnScope N ps scope)
    (len : ∀ vs H Q E, sp vs H Q E → vs.length = ps.length)
    (hbody : ∀ (A : Around) (outer : List Env) (s : Shared) (H : Hp) (vs : List V) (Q : VK) (E : XK), Room k (A.deeper (envOfC qual scope s.heap.objs.size f cdv)) → sp vs H Q E →
      ∃ t, PSs (cxOf CX P w K mg base N qual scope f cdv A outer s H E) body t ∧ t { nx := fun _ H' => Q .non H', rt := Q } (start N vs) H) :
    FnOk P w K mg base CX (k + 1) f (PySem.W.fnOf name qual params body scope dV kV doc pm an cdv ct) ps sp := by
  refine ⟨len, fun A outer s H args us vs Q E hr e0 hb r hsp => ?_⟩
  have hl := len _ _ _ _ hsp
  have KX : K.In s.heap := e0.mod.kin.keeps fun b o e => (e0.bs b o e).1
  have lim : s.heap.NoLimit := e0.mod.nolimit.keeps fun b o e => (e0.bs b o e).1
  have hkind : ∀ y ∈ ps.zip us, scope.names.lookup y.1 = some .local ∨ (scope.names.lookup y.1 = some .cell ∧ ((cellsFrom (s.heap.objs.size + 1) scope.names []).lookup y.1).isSome = true) := fun ⟨n, v⟩ hy => by
    rcases S.par n (List.of_mem_zip hy).1 with q | q
    · exact .inl q
    · exact .inr ⟨q, PySem.W.cellsFrom_some _ _ _ (.inl q)⟩
  refine codeAny_call_function hr.depth (KX _ _ lk) rfl S.co S.gen rfl (PySem.W.codeRec_of KX hcd) (hb _ _ _ _ ?_)
  refine wpAny_newFunctionEnv_cells S.kind hkind fun env he s1 x => ?_
  subst he
  refine ⟨lim.keeps x.toInCall.keep, codeAny_func ?_⟩
  obtain ⟨t, ht, hq⟩ := hbody A outer s H vs Q E (hr.deeper _) hsp
  have I : Inv (cxOf CX P w K mg base N qual scope f cdv A outer s H E) [] (start N vs) H s1 := inv_start S hr.hd e0 hl r x
  refine wpAny_mono (ht [] s1 (start N vs) H _ I hq) (fun fl s' hs => ?_) fun e s' hs => hs
  have fin : ∀ {σ' : St} {H' : Hp} {v : V} {u : Value}, Inv (cxOf CX P w K mg base N qual scope f cdv A outer s H E) [] σ' H' s' → RelV v u → Q v H' → CE outer P w H s Q u s' :=
    fun {σ' H' v u} J rv q => ⟨v, H', J.os, J.bare, J.base, J.hok, rv, q⟩
  cases fl with
  | ret u =>
    obtain ⟨v, σ', H', J, rv, q⟩ := hs
    exact fin J rv q
  | next =>
    obtain ⟨σ', H', J, q⟩ := hs
    exact fin (v := V.non) (u := Value.none) J rfl q
  | brk =>
    obtain ⟨_, _, _, q⟩ := hs
    exact False.elim q
  | cont =>
    obtain ⟨_, _, _, q⟩ := hs
    exact False.elim q
end L2
namespace L2
open PySem PySem.Spec PyProof.Rows
section
variable {X : Cx} {x : Str} {p pos : Pos} {e : Expr} {es : List Expr} {t : TA} {id T : String} {r : List V → Hp → VK → Prop}
noncomputable def tCB (r : List V → Hp → VK → Prop) (t : TA) : TE := fun σ H Q => t σ H fun vs H1 => r vs H1 Q
theorem pe_callB (hc : CallR X (.builtin id) r) (hg : Gl X x) (hm : X.mg x = none) (hv : bootBuiltins x = some (.builtin id)) (ha : PA X (e :: es) t) (hn : x ≠ "__name__" := by decide) (hdb : (x == ("__debug__" : Str)) = false := by decide)
    (he : starEach (e :: es) X.env = (false, eval e X.env) :: starEach es X.env := by rfl) (hpl : (backTo pos (starEach es X.env)).any (·.1) = false := by rfl) : PE X (.Call (.Name x p) (e :: es) [] pos) (tCB r t) := by
  intro pins s σ H Q I h
  refine wpAny_Call_Name_kw (ld_blt I hg hm hv ?_ hn hdb)
  exact PyProof.Rows.callWith_builtin1 (thn (ha pos pins s σ H _ I h) fun us s1 ⟨vs, H1, I1, r1, q1⟩ => hc pins s1 σ H1 vs us Q I1 r1 q1) he hpl
theorem pe_callTy (hc : CallR X (.type T) r) (hg : Gl X x) (hm : X.mg x = none) (hv : bootBuiltins x = some (.type T)) (ha : PA X (e :: es) t) (hn : x ≠ "__name__" := by decide) (hdb : (x == ("__debug__" : Str)) = false := by decide)
    (he : starEach (e :: es) X.env = (false, eval e X.env) :: starEach es X.env := by rfl) (hpl : (backTo pos (starEach es X.env)).any (·.1) = false := by rfl) : PE X (.Call (.Name x p) (e :: es) [] pos) (tCB r t) := by
  intro pins s σ H Q I h
  refine wpAny_Call_Name_kw (ld_blt I hg hm hv ?_ hn hdb)
  exact PyProof.Rows.callWith_type1 (thn (ha pos pins s σ H _ I h) fun us s1 ⟨vs, H1, I1, r1, q1⟩ => hc pins s1 σ H1 vs us Q I1 r1 q1) he hpl
end
end L2
namespace HT
open PySem PyProof.Rows
section
open PySem.SeqAt
open PySem.AutoSeq1 (wpAny_loadPart')
open PySem.MeetsSeq PySem.MeetsSeq2 PySem.MeetsSeq3
end
section
variable {prog : Program} {w : World} {A : Around} {E : Value → Shared → Prop} {s : Shared}
noncomputable def sIx (n d : Nat) : Option Int → Nat
  | none => d
  | some v => if v < 0 then (v + (n : Int)).toNat else min v.toNat n
theorem sIx_none (n d : Nat) : sIx n d none = d := rfl
theorem sIx_nat (n d k : Nat) : sIx n d (some (k : Int)) = min k n := by
  show (if (k : Int) < 0 then ((k : Int) + (n : Int)).toNat else min (k : Int).toNat n) = min k n
  rw [if_neg (by omega), Int.toNat_natCast]
end
end HT
namespace L2
open PySem PySem.Spec PyProof.Rows
noncomputable abbrev TO := St → Hp → (Option Int → Hp → Prop) → Prop
noncomputable def PO (X : Cx) (e : Option Expr) (t : TO) : Prop :=
  ∀ (pins : List (Addr × Obj)) (s : Shared) (σ : St) (H : Hp) (Q : Option Int → Hp → Prop), Inv X pins σ H s → t σ H Q →
    wpAny (model X.prog X.w) X.A (evalPart e X.env) (fun u s' => ∃ o H', Inv X pins σ H' s' ∧ IsPart u o ∧ Q o H') X.xe s
noncomputable def tNoPart : TO := fun _ H Q => Q none H
noncomputable def tPart (t : TE) : TO := fun σ H Q => t σ H fun x H1 => ∃ i, x = .int i ∧ Q (some i) H1
section
variable {X : Cx} {e : Expr} {te : TE} {lo hi : Option Expr} {tl th : TO} {pos p2 : Pos}
theorem po_none : PO X none tNoPart := by
  intro pins s σ H Q I h
  rw [evalPart_none]
  exact wpAny_pure ⟨none, H, I, .none, h⟩
theorem po_some (h : PE X e te) : PO X (some e) (tPart te) := by
  intro pins s σ H Q I hw
  rw [evalPart_some]
  refine thn (h pins s σ H _ I hw) fun u s1 ⟨x, H1, I1, r1, q1⟩ => ?_
  obtain ⟨i, rfl, q⟩ := q1
  obtain ⟨t, rfl⟩ := r1
  exact ⟨some i, H1, I1, .int i t, q⟩
noncomputable def SlR (X : Cx) (r : V → Option Int → Option Int → Hp → VK → Prop) : Prop :=
  ∀ (pins : List (Addr × Obj)) (s : Shared) (σ : St) (H : Hp) (x : V) (v vl vu : Value) (lo hi : Option Int) (sl : Addr) (Q : VK), Inv X pins σ H s → RelV x v → s.heap.IsSliceOf sl vl vu .none → IsPart vl lo → IsPart vu hi → r x lo hi H Q →
    ∃ T id, typeLookup (.type T) "__getitem__" = pure (some (.builtin id)) ∧ s.TypeIs v T ∧ wpAny (model X.prog X.w) X.A (getItem v (.ref sl)) (EP X pins σ Q) X.xe s
noncomputable def tSl (r : V → Option Int → Option Int → Hp → VK → Prop) (te : TE) (tl th : TO) : TE := fun σ H Q => te σ H fun x H1 => tl σ H1 fun l H2 => th σ H2 fun u H3 => r x l u H3 Q
theorem pe_slice {r : V → Option Int → Option Int → Hp → VK → Prop} (hr : SlR X r) (he : PE X e te) (hl : PO X lo tl) (hu : PO X hi th) : PE X (.Subscript e (.Slice lo hi none p2) pos) (tSl r te tl th) := by
  intro pins s σ H Q I h
  refine Subscript_ (thn (he pins s σ H _ I h) fun v s1 ⟨x, H1, I1, r1, q1⟩ => ?_)
  refine wpAny_Slice (thn (hl pins s1 σ H1 _ I1 q1) fun vl s2 ⟨l, H2, I2, pl, q2⟩ => thn (hu pins s2 σ H2 _ I2 q2) fun vu s3 ⟨u, H3, I3, pu, q3⟩ => ?_)
  rw [evalPart_none]
  refine wpAny_pure ?_
  have I4 : Inv X pins σ H3 { s3 with heap := s3.heap.push { cls := .type "slice", data := .fields #[vl, vu, .none] } } := I3.kept (t' := s3.toks) fun b ob q => Heap.get?_push_of_some _ q
  obtain ⟨T, id, hT, ht, hg⟩ := hr pins { s3 with heap := s3.heap.push { cls := .type "slice", data := .fields #[vl, vu, .none] } } σ H3 x v vl vu l u s3.heap.objs.size Q I4 r1 (Heap.IsSliceOf.new ..) pl pu q3
  show wpAny (model X.prog X.w) X.A (subscriptTail e (.Slice lo hi none p2) v (.ref s3.heap.objs.size)) (EP X pins σ Q) X.xe { s3 with heap := s3.heap.push { cls := .type "slice", data := .fields #[vl, vu, .none] } }
  exact tail_any (ops := [.ref s3.heap.objs.size, v]) ht hT hg (by with_unfolding_all rfl)
noncomputable def cutV (xs : List V) (lo hi : Option Int) : List V := (xs.drop (HT.sIx xs.length 0 lo)).take (HT.sIx xs.length xs.length hi - HT.sIx xs.length 0 lo)
theorem cutV_length (xs : List V) (lo hi : Option Int) : (cutV xs lo hi).length ≤ xs.length := by
  unfold cutV
  rw [List.length_take, List.length_drop]
  omega
end
end L2
namespace L2
open PySem PySem.Spec PyProof.Rows
noncomputable def ixN (n : Nat) (i : Int) : Option Nat := if 0 ≤ i then (if i < n then some i.toNat else none) else if -(n : Int) ≤ i then some (i + n).toNat else none
noncomputable def atI {α : Type} (xs : List α) (i : Int) : Option α := (ixN xs.length i).bind fun j => xs[j]?
theorem ixN_seq {n : Nat} {i : Int} {j : Nat} (h : ixN n i = some j) : seqIndex? i n = some j ∧ j < n ∧ -(n : Int) ≤ i ∧ i < n := by
  unfold ixN at h
  by_cases h0 : 0 ≤ i
  · rw [if_pos h0] at h
    by_cases h1 : i < n
    · rw [if_pos h1] at h
      have e : i.toNat = j := Option.some.inj h
      exact ⟨by rw [seqIndex_of h0 h1, e], by omega, by omega, h1⟩
    · rw [if_neg h1] at h; cases h
  · rw [if_neg h0] at h
    by_cases h1 : -(n : Int) ≤ i
    · rw [if_pos h1] at h
      have e : (i + n).toNat = j := Option.some.inj h
      exact ⟨by rw [seqIndex_neg (by omega) h1, e], by omega, h1, by omega⟩
    · rw [if_neg h1] at h; cases h
theorem atI_get {α : Type} {xs : List α} {i : Int} {v : α} (h : atI xs i = some v) : ∃ j, seqIndex? i xs.length = some j ∧ xs[j]? = some v ∧ j < xs.length ∧ -(xs.length : Int) ≤ i ∧ i < xs.length := by
  unfold atI at h
  cases e : ixN xs.length i with
  | none => rw [e] at h; cases h
  | some j =>
    rw [e] at h
    obtain ⟨h1, h2, h3, h4⟩ := ixN_seq e
    exact ⟨j, h1, h, h2, h3, h4⟩
theorem atI_nat {α : Type} {xs : List α} {j : Nat} {v : α} (h : xs[j]? = some v) : atI xs (j : Int) = some v := by
  have hj : j < xs.length := (List.getElem?_eq_some_iff.mp h).1
  have e : ixN xs.length (j : Int) = some j := by
    unfold ixN
    rw [if_pos (by omega), if_pos (by omega)]; simp
  unfold atI; rw [e]; exact h
noncomputable def PlainIx (b : Expr) : Prop := ∀ o i, subscripted b false o i = operate [o, i] (getItem o i)
noncomputable def IxR (X : Cx) (r : R2) : Prop :=
  ∀ (value slice : Expr) (pins : List (Addr × Obj)) (s : Shared) (σ : St) (H : Hp) (x y : V) (v u : Value) (Q : VK), Inv X pins σ H s → RelV x v → RelV y u → r x y H Q →
    subscripted slice false v u = operate [v, u] (getItem v u) → wpAny (model X.prog X.w) X.A (subscriptTail value slice v u) (EP X pins σ Q) X.xe s
noncomputable def MtR (X : Cx) (id : String) (r : V → List V → Hp → VK → Prop) : Prop :=
  ∀ (pins : List (Addr × Obj)) (s : Shared) (σ : St) (H : Hp) (x : V) (xs : List V) (v : Value) (us : List Value) (Q : VK), Inv X pins σ H s → RelV x v → Vals xs us → r x xs H Q →
    wpAny (model X.prog X.w) X.A (call (.builtin id) (v :: us)) (EP X pins σ Q) X.xe s
section
variable {X : Cx} {a b : Expr} {ta tb : TE} {pos : Pos}
theorem pe_ix {r : R2} (hr : IxR X r) (ha : PE X a ta) (hb : PE X b tb) (hs : PlainIx b) : PE X (.Subscript a b pos) (tOp r ta tb) := by
  intro pins s σ H Q I h
  exact Subscript_ (binT ha hb I h fun v u s2 x y H2 I2 rx ry q => hr a b pins s2 σ H2 x y v u Q I2 rx ry q (hs _ _))
noncomputable def rIxL (K : PySem.W.Frag) : R2 := fun x y H Q => ∃ p xs i v, x = .ref p ∧ y = .int i ∧ SqL K H p xs ∧ atI xs i = some v ∧ Q v H
noncomputable def rIxT (K : PySem.W.Frag) : R2 := fun x y H Q => ∃ p xs i v, x = .ref p ∧ y = .int i ∧ SqT K H p xs ∧ atI xs i = some v ∧ Q v H
theorem ix_list : IxR X (rIxL X.K) := by
  intro value slice pins s σ H x y v u Q I rx ry h hs
  obtain ⟨p, xs, i, z, rfl, rfl, hq, he, q⟩ := h
  cases rx
  obtain ⟨t, rfl⟩ := ry
  obtain ⟨its, r, pl, hz⟩ := I.list hq
  obtain ⟨j, h1, h2, h3, h4, h5⟩ := atI_get he
  obtain ⟨w, ew, rw'⟩ := r.get h2
  have hl := r.length
  have hn := line63
  have fin : EP X pins σ Q w s := ⟨z, H, I, rw', q⟩
  by_cases h0 : 0 ≤ i
  · have hj : i.toNat = j := by
      rw [seqIndex_of h0 h5] at h1
      exact Option.some.inj h1
    exact item_listR pl.isList h0 (by omega) (by rw [hj]; simpa using ew) fin hs
  · have hj : (i + (its.toArray.size : Int)).toNat = j := by
      rw [seqIndex_neg (by omega) h4] at h1
      rw [List.size_toArray, ← hl]
      exact Option.some.inj h1
    exact subscriptTail_builtinR (x := w) pl.isList.typeIs slot_list_getitem.lookup
      (wpAny_getItem_list_neg (Q := fun r s' => r = w ∧ EP X pins σ Q r s') pl.isList (by omega) (by rw [List.size_toArray] <;> omega) (by omega) (by rw [hj]; simpa using ew) ⟨rfl, fin⟩) hs
theorem ix_tup : IxR X (rIxT X.K) := by
  intro value slice pins s σ H x y v u Q I rx ry h hs
  obtain ⟨p, xs, i, z, rfl, rfl, hq, he, q⟩ := h
  cases rx
  obtain ⟨t, rfl⟩ := ry
  obtain ⟨its, r, pl, hz⟩ := I.tuple hq
  obtain ⟨j, h1, h2, h3, h4, h5⟩ := atI_get he
  obtain ⟨w, ew, rw'⟩ := r.get h2
  have hl := r.length
  have hn := line63
  have fin : EP X pins σ Q w s := ⟨z, H, I, rw', q⟩
  exact subscriptTail_builtinR (x := w) pl.typeIs slot_tuple_getitem.lookup
    (getItem_tuple (j := j) (Q := fun r s' => r = w ∧ EP X pins σ Q r s') pl (by omega) (by omega) (by rw [List.size_toArray, ← hl]; exact h1) (by simpa using ew) ⟨rfl, fin⟩) hs
theorem mapSeq_set (its : List Value) (n j : Nat) (u : Value) : Obj.mapSeq (·.setIfInBounds j u) { cls := .type "list", data := .seq its.toArray n } = { cls := .type "list", data := .seq (its.set j u).toArray n } := by
  simp [Obj.mapSeq]
theorem Inv.lst {pins : List (Addr × Obj)} {σ : St} {H : Hp} {s : Shared} {p : Addr} {xs : List V} (I : Inv X pins σ H s) (h : H p = some (.lst xs)) :
    ∃ (its : List Value) (n : Nat), Vals xs its ∧ s.heap.get? p = some { cls := .type "list", data := .seq its.toArray n } ∧ xs.length ≤ sizeLine := by
  obtain ⟨z, its, n, r, e⟩ := I.hok p _ h
  exact ⟨its, n, r, e, z⟩
theorem Inv.lstUpd {pins : List (Addr × Obj)} {σ : St} {H : Hp} {s : Shared} {p : Addr} {xs ys : List V} {its its' : List Value} {n n' : Nat} {f : Obj → Obj} (I : Inv X pins σ H s) (h : H p = some (.lst xs))
    (ho : s.heap.get? p = some { cls := .type "list", data := .seq its.toArray n }) (hf : f { cls := .type "list", data := .seq its.toArray n } = { cls := .type "list", data := .seq its'.toArray n' }) (r : Vals ys its') (hz : ys.length ≤ sizeLine) (t : Nat) :
    Inv X pins σ (upd H p (.lst ys)) { s with heap := s.heap.update p f, toks := t } := by
  have e : (s.heap.update p f).get? p = some { cls := .type "list", data := .seq its'.toArray n' } := by
    rw [Heap.get?_update_self f ho (by rw [hf] <;> rfl), hf]
  refine I.write (x := p) (e := p) (by rw [h]; trivial) (.inl rfl) (fun b u hb q => (Heap.get?_update_other _ _ (Ne.symm hb)).trans q) ⟨_, e⟩ ?_
  exact ⟨hz, its', n', r, e⟩
noncomputable def rSetL : V → V → V → Hp → (Hp → Prop) → Prop := fun o i v H Q => ∃ p xs k j, o = .ref p ∧ i = .int k ∧ H p = some (.lst xs) ∧ ixN xs.length k = some j ∧ Q (upd H p (.lst (xs.set j v)))
theorem set_list : PSet X rSetL := by
  intro pins s σ H o i v ov iv u Q I ro ri rv h
  obtain ⟨p, xs, k, j, rfl, rfl, hp, hj, q⟩ := h
  cases ro
  obtain ⟨t, rfl⟩ := ri
  obtain ⟨its, n, r, ho, hz⟩ := I.lst hp
  obtain ⟨h1, h2, h3, h4⟩ := ixN_seq hj
  have hl := r.length
  have hn := line63
  have I' : Inv X pins σ (upd H p (.lst (xs.set j v))) { s with heap := s.heap.update p (Obj.mapSeq (·.setIfInBounds j u)) } :=
    I.lstUpd hp ho (mapSeq_set its n j u) (r.set rv j) (by rw [List.length_set]; exact hz) s.toks
  by_cases h0 : 0 ≤ k
  · have hk : k.toNat = j := by
      rw [seqIndex_of h0 h4] at h1
      exact Option.some.inj h1
    exact PySem.W.ki_setAt ho h0 (by omega) (by rw [List.size_toArray, ← hl]; exact h4) (by rw [hk]; exact ⟨_, I', q⟩)
  · have hk : (k + (its.toArray.size : Int)).toNat = j := by
      rw [seqIndex_neg (by omega) h3] at h1
      rw [List.size_toArray, ← hl]
      exact Option.some.inj h1
    exact PySem.W.ki_setBack ho (by omega) (by rw [List.size_toArray, ← hl]; exact h3) (by omega) (by rw [hk]; exact ⟨_, I', q⟩)
theorem slice_bounds (lo hi : Option Int) (n : Nat) : (sliceBounds lo hi none n).1 = ((HT.sIx n 0 lo : Nat) : Int) ∧ (sliceBounds lo hi none n).2.1 = ((HT.sIx n n hi : Nat) : Int) ∧ (sliceBounds lo hi none n).2.2 = 1 := by
  refine ⟨?_, ?_, rfl⟩
  · cases lo with
    | none => simp [sliceBounds, HT.sIx]
    | some i =>
      simp only [sliceBounds, HT.sIx, Option.getD_none, show (1 : Int) > 0 by decide, if_true]
      by_cases h : i < 0
      · simp only [h, if_true] <;> omega
      · simp only [h, if_false] <;> omega
  · cases hi with
    | none => simp [sliceBounds, HT.sIx]
    | some i =>
      simp only [sliceBounds, HT.sIx, Option.getD_none, show (1 : Int) > 0 by decide, if_true]
      by_cases h : i < 0
      · simp only [h, if_true] <;> omega
      · simp only [h, if_false] <;> omega
theorem slicePick_cut (its : List Value) (lo hi : Option Int) : slicePick its.toArray lo hi none = ((its.drop (HT.sIx its.length 0 lo)).take (HT.sIx its.length its.length hi - HT.sIx its.length 0 lo)).toArray := by
  obtain ⟨h1, h2, h3⟩ := slice_bounds lo hi its.toArray.size
  unfold slicePick
  rw [h1, h2, h3]
  simp only [sliceRange_one, pick_run, List.size_toArray] <;> rfl
noncomputable def rSlL (K : PySem.W.Frag) : V → Option Int → Option Int → Hp → VK → Prop := fun x lo hi H Q => ∃ a xs, x = .ref a ∧ SqL K H a xs ∧ ∀ p, H p = none → Q (.ref p) (upd H p (.lst (cutV xs lo hi)))
theorem sl_list : SlR X (rSlL X.K) := by
  intro pins s σ H x v vl vu lo hi sl Q I rx hs pl pu h
  obtain ⟨a, xs, rfl, hx, q⟩ := h
  cases rx
  obtain ⟨its, r, ht, hz⟩ := I.list hx
  have hlen := r.length
  refine ⟨"list", _, slot_list_getitem.lookup, ht.isList.typeIs, ?_⟩
  refine wpAny_getItem_list_slice ht.isList hs pl pu .none (by simp) ?_ (by rw [List.size_toArray] <;> omega)
  rw [slicePick_cut, ← hlen]
  refine ⟨.ref s.heap.objs.size, _, I.laid (t' := s.toks) (o := .lst (cutV xs lo hi)) (fun b ob q => Heap.get?_push_of_some _ q) (Nat.le_refl _) ?_, rfl, q _ (I.hok.fresh (Nat.le_refl _))⟩
  exact ⟨Nat.le_trans (cutV_length xs lo hi) hz, _, 0, (r.drop (HT.sIx xs.length 0 lo)).take (HT.sIx xs.length xs.length hi - HT.sIx xs.length 0 lo), Heap.get?_push_size _ rfl⟩
theorem call_len_seq : CallR X (.builtin "len") (fun xs H Q => ∃ p ys, xs = [.ref p] ∧ (SqL X.K H p ys ∨ SqT X.K H p ys) ∧ Q (.int ys.length) H) := by
  intro pins s σ H xs us Q I r h
  obtain ⟨p, ys, rfl, hq, q⟩ := h
  obtain ⟨u, rfl, rx⟩ := vals1 r
  cases rx
  have hn := line63
  rcases hq with hq | hq
  · obtain ⟨its, r', pl, hz⟩ := I.list hq
    have hlen := r'.length
    exact Calls.call_len_list pl.isList (by simp only [List.size_toArray] <;> omega) ⟨.int ys.length, H, I.tok _, ⟨s.toks + 1, by rw [List.size_toArray, hlen]⟩, q⟩
  · obtain ⟨its, r', pl, hz⟩ := I.tuple hq
    have hlen := r'.length
    exact len_tuple pl (by simp only [List.size_toArray] <;> omega) ⟨.int ys.length, H, I.tok _, ⟨s.toks + 1, by rw [List.size_toArray, hlen]⟩, q⟩
theorem call_list_of : CallR X (.type "list") (fun xs H Q => ∃ p ys, xs = [.ref p] ∧ (SqL X.K H p ys ∨ SqT X.K H p ys) ∧ ∀ l, H l = none → Q (.ref l) (upd H l (.lst ys))) := by
  intro pins s σ H xs us Q I r h
  obtain ⟨p, ys, rfl, hq, q⟩ := h
  obtain ⟨u, rfl, rx⟩ := vals1 r
  cases rx
  have fin : ∀ (its : List Value), Vals ys its → ys.length ≤ sizeLine → ∀ (h' : Heap) (c' : Nat), (∀ b o', s.heap.get? b = some o' → h'.get? b = some o') →
      h'.get? s.heap.objs.size = some { cls := .type "list", dict := none, data := .seq its.toArray c', slots := #[] } → EP X pins σ Q (.ref s.heap.objs.size) { s with heap := h' } := fun its r' hz h' c' kp e =>
    ⟨.ref s.heap.objs.size, _, I.laid (t' := s.toks) kp (Nat.le_refl _) (show ObjOk X.prog X.w _ h' _ (.lst ys) from ⟨hz, its, c', r', e⟩), rfl, q _ (I.hok.fresh (Nat.le_refl _))⟩
  rcases hq with hq | hq
  · obtain ⟨its, r', pl, hz⟩ := I.list hq
    have hlen := r'.length
    obtain ⟨o, ho, hc, n, hd⟩ := pl.isList
    exact call_list_seq p (.inl rfl) ho hc hd (fun h' c' kp e => fin its r' hz h' c' kp e) (by simp only [List.size_toArray] <;> omega)
  · obtain ⟨its, r', pl, hz⟩ := I.tuple hq
    have hlen := r'.length
    obtain ⟨o, ho, hc, n, hd⟩ := pl
    exact call_list_seq p (.inr rfl) ho hc hd (fun h' c' kp e => fin its r' hz h' c' kp e) (by simp only [List.size_toArray] <;> omega)
noncomputable def tyV (K : PySem.W.Frag) (T : String) (x : V) (H : Hp) : Prop := match x with
  | .str _ => T = "str"
  | .int _ => T = "int"
  | .ref p => (T = "list" ∧ ∃ xs, SqL K H p xs) ∨ (T = "tuple" ∧ ∃ o, K.lookup p = some o ∧ o.cls = .type "tuple" ∧ o.dict = none) ∨
      (T = "dict" ∧ ((∃ kvs, H p = some (.dK kvs)) ∨ ∃ kvs, H p = some (.dT kvs))) ∨ (T = "set" ∧ ∃ S n, H p = some (.set S n))
  | _ => False
theorem tyV_is {pins : List (Addr × Obj)} {σ : St} {H : Hp} {s : Shared} {T : String} {x : V} {v : Value} (I : Inv X pins σ H s) (r : RelV x v) (ty : tyV X.K T x H) :
    s.TypeIs v T ∧ ∀ a, v = .ref a → ∃ ob, s.heap.get? a = some ob ∧ ob.dict = none := by
  cases x with
  | str z =>
    obtain ⟨t, rfl⟩ := r
    cases (show T = "str" from ty)
    exact ⟨typeIs_str s z t, fun _ e => nomatch e⟩
  | int i =>
    obtain ⟨t, rfl⟩ := r
    cases (show T = "int" from ty)
    exact ⟨typeIs_int s i t, fun _ e => nomatch e⟩
  | ref p =>
    cases r
    rcases ty with ⟨rfl, xs, hq⟩ | ⟨rfl, o, hk, hc, hd⟩ | ⟨rfl, hk⟩ | ⟨rfl, S, n, hk⟩
    · obtain ⟨its, _, pl, _⟩ := I.list hq
      refine ⟨pl.isList.typeIs, fun a e => ?_⟩
      cases e
      obtain ⟨o, n, e, c, hd, _⟩ := pl
      exact ⟨o, e, hd⟩
    · refine ⟨⟨o, I.kIn p o hk, hc⟩, fun a e => ?_⟩
      cases e
      exact ⟨o, I.kIn _ o hk, hd⟩
    · have z : ∃ o, s.heap.get? p = some o ∧ o.ExactDict := by
        rcases hk with ⟨kvs, hk⟩ | ⟨kvs, hk⟩
        · obtain ⟨_, _, _, _, o, _, _, e, ex, _⟩ := I.hok p _ hk
          exact ⟨o, e, ex⟩
        · obtain ⟨_, _, _, _, o, _, _, e, ex, _⟩ := I.hok p _ hk
          exact ⟨o, e, ex⟩
      obtain ⟨o, e, ex⟩ := z
      refine ⟨⟨o, e, ex.1⟩, fun a e2 => ?_⟩
      cases e2
      exact ⟨o, e, ex.2.1⟩
    · obtain ⟨o, _, _, _, e, ex, _⟩ := I.hok p _ hk
      refine ⟨⟨o, e, ex.1⟩, fun a e2 => ?_⟩
      cases e2
      exact ⟨o, e, ex.2.1⟩
  | _ => exact False.elim ty
noncomputable def tBM0 (K : PySem.W.Frag) (T : String) (r : V → List V → Hp → VK → Prop) (to : TE) : TE := fun σ H Q => to σ H fun x H1 => tyV K T x H1 ∧ r x [] H1 Q
noncomputable def tBM (K : PySem.W.Frag) (T : String) (r : V → List V → Hp → VK → Prop) (to : TE) (t : TA) : TE := fun σ H Q => to σ H fun x H1 => tyV K T x H1 ∧ t σ H1 fun xs H2 => r x xs H2 Q
variable {o e : Expr} {es : List Expr} {to : TE} {t : TA} {name : Str} {apos cpos : Pos} {T id : String} {r : V → List V → Hp → VK → Prop}
theorem pe_bm (pa : PlainAttrs T) (slot : Slot T name id) (hty : typeOf (.builtin id) = pure (.type "method_descriptor")) (hm : MtR X id r) (ho : PE X o to) (ha : PA X (e :: es) t)
    (hbase : attributeBase o name X.env (eval o X.env) = eval o X.env := by rfl)
    (hfew : ((backTo cpos (starEach (e :: es) X.env)).all (fun x => !x.1) && (backToKw cpos (keywordEach [] X.env)).all (fun x => x.1.isSome)
      && decide ((e :: es).length + ([] : List Keyword).length + (if ([] : List Keyword).isEmpty then 0 else 1) < 30)) = true := by rfl)
    (hline : (apos.endLine == cpos.line) = true := by rfl) (hs : starEach (e :: es) X.env = (false, eval e X.env) :: starEach es X.env := by rfl) (hplain : (backTo cpos (starEach es X.env)).any (·.1) = false := by rfl) :
    PE X (.Call (.Attribute o name apos) (e :: es) [] cpos) (tBM X.K T r to t) := by
  intro pins s σ H Q I h
  refine wpAny_Call_method_late hbase hfew hline rfl (thn (ho pins s σ H _ I h) fun v s1 ⟨x, H1, I1, r1, ty, q1⟩ => ?_)
  obtain ⟨h1, h2⟩ := tyV_is I1 r1 ty
  refine ⟨T, id, pa, slot, hty, h1, h2, ?_⟩
  have hA := ha cpos pins s1 σ H1 _ I1 q1
  rw [hs] at hA ⊢
  refine Calls.callWith_builtin (by show (false || (backTo cpos (starEach es X.env)).any (·.1)) = false; rw [hplain] <;> rfl) (Calls.evalArgs_plain ?_)
  exact thn hA fun us s2 ⟨vs, H2, I2, r2, q2⟩ => hm pins s2 σ H2 x vs v us Q I2 r1 r2 q2
end
end L2
namespace L2
open PySem PySem.Spec PyProof.Rows
noncomputable def MtM (X : Cx) (id : String) (r : V → List V → Hp → VK → Prop) : Prop :=
  ∀ (pins : List (Addr × Obj)) (s : Shared) (σ : St) (H : Hp) (x : V) (xs : List V) (v : Value) (us : List Value) (Q : VK), Inv X pins σ H s → RelV x v → Vals xs us → r x xs H Q →
    wpAny (model X.prog X.w) X.A (call (.builtin id) (v :: us)) (EP X pins σ Q) X.xe s
theorem Vals.one : ∀ {x : V} {us : List Value}, Vals [x] us → ∃ u, us = [u] ∧ RelV x u
  | _, _, .cons r .nil => ⟨_, rfl, r⟩
theorem Vals.rep {xs : List V} {us : List Value} (h : Vals xs us) : ∀ k : Nat, Vals (List.replicate k xs).flatten (List.replicate k us).flatten
  | 0 => .nil
  | k + 1 => by
    rw [List.replicate_succ, List.replicate_succ, List.flatten_cons, List.flatten_cons]
    exact Vals.append h (Vals.rep h k)
theorem foldl_rep (its : List Value) : ∀ (k : Nat) (acc : List Value),
    List.foldl (fun x1 x2 => x1 ++ x2) acc.toArray (List.replicate k its.toArray) = (acc ++ (List.replicate k its).flatten).toArray
  | 0, acc => by simp
  | k + 1, acc => by
    have e : acc.toArray ++ its.toArray = (acc ++ its).toArray := by simp
    have e2 : (acc ++ its) ++ (List.replicate k its).flatten = acc ++ (List.replicate (k + 1) its).flatten := by
      rw [List.replicate_succ, List.flatten_cons, List.append_assoc]
    rw [← e2, ← foldl_rep its k (acc ++ its), ← e, List.replicate_succ, List.foldl_cons]
section
variable {X : Cx} {pins : List (Addr × Obj)} {σ : St} {H : Hp} {s : Shared} {l b : Addr} {xs ys zs : List V}
theorem Inv.lset {its its' : List Value} {n : Nat} {f : Array Value → Array Value} {t' : Nat} (I : Inv X pins σ H s) (hH : H l = some (.lst xs))
    (e : s.heap.get? l = some { cls := .type "list", data := .seq its.toArray n }) (hf : f its.toArray = its'.toArray) (hv : Vals ys its') (hz : ys.length ≤ sizeLine) :
    Inv X pins σ (upd H l (.lst ys)) { s with heap := s.heap.update l (Obj.mapSeq f), toks := t' } := by
  have q := PySem.IsL.update e f
  rw [hf] at q
  refine I.write (x := l) (e := l) (by rw [hH]; exact trivial) (.inl rfl) (fun b' u hb hu => (Heap.get?_update_other s.heap (Obj.mapSeq f) (Ne.symm hb)).trans hu) ⟨_, q⟩ ?_
  exact ⟨hz, its', _, hv, q⟩
theorem Inv.lnew {its : List Value} {t' : Nat} (I : Inv X pins σ H s) (hv : Vals ys its) (hz : ys.length ≤ sizeLine) :
    Inv X pins σ (upd H s.heap.objs.size (.lst ys)) { s with heap := s.heap.push { cls := .type "list", data := .seq its.toArray }, toks := t' } :=
  I.laid (fun _ _ q => Heap.get?_push_of_some _ q) (Nat.le_refl _) ⟨hz, its, 0, hv, Heap.get?_push_size _ rfl⟩
theorem Inv.fresh (I : Inv X pins σ H s) : H s.heap.objs.size = none := I.hok.fresh (Nat.le_refl _)
theorem Inv.lstM (I : Inv X pins σ H s) (hH : H l = some (.lst xs)) : xs.length ≤ sizeLine ∧ ∃ (its : List Value) (n : Nat), Vals xs its ∧ xs.length = its.length ∧ s.heap.get? l = some { cls := .type "list", data := .seq its.toArray n } := by
  obtain ⟨z, its, n, r, e⟩ := I.hok l _ hH
  exact ⟨z, its, n, r, r.length, e⟩
theorem notLongL {n : Nat} (h : n ≤ sizeLine) : Builtin.List.listTooLong n = false := by
  unfold Builtin.List.listTooLong
  exact decide_eq_false (by omega)
end
section
variable {X : Cx}
noncomputable def rAppend : V → List V → Hp → VK → Prop := fun x vs H Q => ∃ l xs y, x = .ref l ∧ vs = [y] ∧ H l = some (.lst xs) ∧ xs.length < sizeLine ∧ Q .non (upd H l (.lst (xs ++ [y])))
theorem mt_append : MtM X "list.append" rAppend := by
  intro pins s σ H x vs v us Q I rx rv h
  obtain ⟨l, xs, y, rfl, rfl, hH, hz, q⟩ := h
  cases rx
  obtain ⟨u, rfl, ru⟩ := rv.one
  obtain ⟨z, its, n, r, hl, e⟩ := I.lstM hH
  refine call_meets F.slot_list_append ⟨_, e, rfl⟩ F.entry_list_append (F.args_list_append_2 _ _) (PySem.list_append l its.toArray n u (by rw [List.size_toArray]; omega)) ⟨e, ?_⟩
  refine ⟨.non, _, I.lset (its' := its ++ [u]) hH e (by simp) (r.append (.cons ru .nil)) ?_, rfl, q⟩
  rw [List.length_append, List.length_singleton]
  omega
noncomputable def rRep : R2 := fun x y H Q => ∃ l k xs, x = .ref l ∧ y = .int k ∧ H l = some (.lst xs) ∧ -(2 ^ 63) ≤ k ∧ k < 2 ^ 63 ∧ xs.length * k.toNat ≤ sizeLine ∧
  ∀ p, H p = none → Q (.ref p) (upd H p (.lst (List.replicate k.toNat xs).flatten))
theorem len_rep {α : Type} (xs : List α) (k : Nat) : (List.replicate k xs).flatten.length = k * xs.length := by
  induction k with
  | zero => simp
  | succ k ih => rw [List.replicate_succ, List.flatten_cons, List.length_append, ih, Nat.succ_mul, Nat.add_comm]
theorem op_rep : OpR X (binaryOp .Mult) rRep := by
  intro pins s σ H x y v u Q I rx ry h
  obtain ⟨l, k, xs, rfl, rfl, hH, h1, h2, hz, q⟩ := h
  cases rx
  obtain ⟨t, rfl⟩ := ry
  obtain ⟨z, its, n, r, hl, e⟩ := I.lstM hH
  have hlen : its.toArray.size * k.toNat ≤ sizeLine := by rw [List.size_toArray, ← hl]; exact hz
  have hcap : ¬ its.toArray.size * k.toNat > (2 ^ 63 - 1) / 8 := by
    have : (sizeLine : Nat) ≤ (2 ^ 63 - 1) / 8 := by decide
    omega
  have hfit : ¬ (!Builtin.List.listFitsIndex k) = true := by
    rw [fitsIndex_both h1 h2]
    exact Bool.false_ne_true
  have hlong : ¬ Builtin.List.listTooLong (its.toArray.size * k.toNat) = true := by
    rw [notLongL hlen]
    exact Bool.false_ne_true
  have hnew : List.foldl (fun x1 x2 => x1 ++ x2) #[] (List.replicate (if its.toArray.isEmpty = true then 0 else k.toNat) its.toArray) = (List.replicate k.toNat its).flatten.toArray := by
    have f0 : ∀ m : Nat, List.foldl (fun x1 x2 => x1 ++ x2) #[] (List.replicate m its.toArray) = (List.replicate m its).flatten.toArray := fun m => by
      have := foldl_rep its m []
      rw [List.nil_append] at this
      exact this
    rw [f0]
    cases its with
    | nil => simp
    | cons a r' => rw [if_neg (by simp)]
  refine wpAny_binaryOp_repeat_ref (T := "list") (U := "int") (by decide) ⟨_, e, rfl⟩ (fun s' => typeIs_int s' k t) noFill_list_mul F.fills_int_mul F.slot_int_rmul repeat_list F.slot_int_index.lookup
    (call_meets F.slot_int_rmul (typeIs_int s k t) F.entry_int_rmul (F.args_int_rmul_2 _ _) (int___rmul___int_list k t l its.toArray n)
      ⟨e, rfl, ⟨_, e, rfl⟩, call_meets F.slot_list_mul ⟨_, e, rfl⟩ F.entry_list_mul (F.args_list_mul_2 _ _) (AutoListH.list___mul___list_int_3 l its.toArray n k t hfit hcap hlong) ⟨e, ?_⟩⟩)
  rw [hnew]
  exact ⟨.ref _, _, I.lnew (t' := s.toks) (r.rep k.toNat) (by rw [len_rep, Nat.mul_comm]; exact hz), rfl, q _ I.fresh⟩
end
section
variable {prog : Program} {w : World} {A : Around} {E : Value → Shared → Prop} {s : Shared}
set_option maxRecDepth 100000 in
end
section
variable {X : Cx}
end
end L2
namespace L2
open PySem PySem.Spec PyProof.Rows
section
variable {κ : Type} [DecidableEq κ]
noncomputable def valV (kvs : List (κ × V)) (k : κ) : Option V := (kvs.find? fun kv => decide (kv.1 = k)).map (·.2)
noncomputable def putK (kvs : List (κ × V)) (k : κ) (v : V) : List (κ × V) :=
  if (kvs.any fun kv => decide (kv.1 = k)) = true then kvs.map (fun kv => if kv.1 = k then (kv.1, v) else kv) else kvs ++ [(k, v)]
noncomputable def dropK (kvs : List (κ × V)) (k : κ) : List (κ × V) := kvs.filter fun kv => decide (kv.1 ≠ k)
end
section
variable {P : Program} {w : World} {H : Hp} {h : Heap} {a : Addr}
end
noncomputable def DGet (H : Hp) (a : Addr) (y : V) (r : Option V) : Prop :=
  (∃ kvs k, Rd H a (.dK kvs) ∧ y = kV k ∧ r = valV kvs k) ∨ ∃ kvs k b, Rd H a (.dT kvs) ∧ y = .ref b ∧ H b = some (.tup (k.map nV)) ∧ r = valV kvs k
noncomputable def DPut (H : Hp) (a : Addr) (y v : V) (H' : Hp) : Prop :=
  (∃ kvs k, H a = some (.dK kvs) ∧ y = kV k ∧ kvs.length < sizeLine ∧ H' = upd H a (.dK (putK kvs k v))) ∨
  ∃ kvs k b, H a = some (.dT kvs) ∧ y = .ref b ∧ H b = some (.tup (k.map nV)) ∧ kvs.length < sizeLine ∧ H' = upd H a (.dT (putK kvs k v))
section
variable {X : Cx} {pins : List (Addr × Obj)} {σ : St} {H : Hp} {s : Shared} {a : Addr} {y v : V} {u r : Value} {o : Option V} {A : Around} {E : Value → Shared → Prop}
end
section
variable {X : Cx} {pins : List (Addr × Obj)} {σ : St} {H : Hp} {s : Shared} {a : Addr} {kvs : List (Key × V)} {k : Key} {u : Value} {A : Around} {E : Value → Shared → Prop}
end
noncomputable def tDGet (td ty : TE) : TE := fun σ H Q => td σ H fun x H1 => ty σ H1 fun y H2 => ∃ a v, x = .ref a ∧ DGet H2 a y (some v) ∧ Q v H2
noncomputable def tDIn (ty td : TE) : TE := fun σ H Q => ty σ H fun y H1 => td σ H1 fun x H2 => ∃ a o, x = .ref a ∧ DGet H2 a y o ∧ Q (.bl o.isSome) H2
noncomputable def tDNotIn (ty td : TE) : TE := fun σ H Q => ty σ H fun y H1 => td σ H1 fun x H2 => ∃ a o, x = .ref a ∧ DGet H2 a y o ∧ Q (.bl (!o.isSome)) H2
noncomputable def sDPut (td ty tv : TE) : TS := fun D σ H => tv σ H fun v H1 => td σ H1 fun x H2 => ty σ H2 fun y H3 => ∃ a H4, x = .ref a ∧ DPut H3 a y v H4 ∧ D.nx σ H4
section
variable {X : Cx} {o i e value : Expr} {pos pos' tpos : Pos} {td ty tv : TE}
end
noncomputable def tDNewK : TE := fun _ H Q => ∀ p, H p = none → Q (.ref p) (upd H p (.dK []))
section
variable {X : Cx} {pos : Pos}
end
noncomputable def tPairs : List (TE × TE) → St → Hp → (List (V × V) → Hp → Prop) → Prop
  | [], _, H, Q => Q [] H
  | (tk, tv) :: r, σ, H, Q => tk σ H fun x H1 => tv σ H1 fun y H2 => tPairs r σ H2 fun ps H3 => Q ((x, y) :: ps) H3
noncomputable abbrev VV : List (V × V) → List (Value × Value) → Prop := Paired fun p q => RelV p.1 q.1 ∧ RelV p.2 q.2
noncomputable def PPs (X : Cx) (pos : Pos) (keys : List (Option Expr)) (values : List Expr) (trs : List (TE × TE)) : Prop :=
  ∀ (pins : List (Addr × Obj)) (s : Shared) (σ : St) (H : Hp) (Q : List (V × V) → Hp → Prop), Inv X pins σ H s → tPairs trs σ H Q →
    wpAny (model X.prog X.w) X.A (evalPairs (pairTrees keys values X.env pos)) (fun vs s' => ∃ ps H', Inv X pins σ H' s' ∧ VV ps vs ∧ Q ps H') X.xe s
noncomputable def mergeK (kvs more : List (Key × V)) : List (Key × V) := more.foldl (fun acc kv => putK acc kv.1 kv.2) kvs
noncomputable def tDisp (trs : List (TE × TE)) : TE := fun σ H Q => ∀ p, H p = none → tPairs trs σ (upd H p (.dK [])) fun ps H2 => H2 p = some (.dK []) ∧ ∃ kvs : List (Key × V), ps = kvs.map (fun kv => (kV kv.1, kv.2)) ∧ kvs.length ≤ 15 ∧ Q (.ref p) (upd H2 p (.dK (mergeK [] kvs)))
section
variable {X : Cx} {pins : List (Addr × Obj)} {σ : St} {H : Hp} {s : Shared} {a : Addr} {y d : V} {u r : Value} {o : Option V} {A : Around} {E : Value → Shared → Prop}
end
section
variable {X : Cx} {o e f : Expr} {apos cpos : Pos} {td ty tx : TE}
end
section
variable {X : Cx} {pins : List (Addr × Obj)} {σ : St} {H : Hp} {s : Shared} {a : Addr} {kvs : List (Key × V)} {A : Around} {E : Value → Shared → Prop}
end
section
variable {X : Cx} {pins : List (Addr × Obj)} {σ : St} {H : Hp} {s : Shared} {a : Addr} {y : V} {u : Value} {A : Around} {E : Value → Shared → Prop}
end
end L2
namespace Att
open PySem PySem.W PySem.Calls PyProof.Rows
theorem ints_of_wellAll {P : Params} {h : Heap} : ∀ (ns : List Int) (vs : List Value), WellAll P h vs (ns.map WData.int) → IntsAre vs ns := by
  intro ns
  induction ns with
  | nil =>
    intro vs w
    rw [List.map_nil] at w
    cases w
    exact .nil
  | cons n ns ih =>
    intro vs w
    rw [List.map_cons] at w
    cases w with
    | cons a b =>
      cases a
      exact .cons _ _ (ih _ b)
theorem script_of {l : OpenLaw} {n : Nat} (hn : l.most = some n) {P : Params} {h : Heap} {args : List WData} {vals : List Value}
    (hpre : l.row.toRowW.claim.pre args = true) (hwl : WellAll P h vals args) :
    ∃ a vs ns, vals = [Value.ref a] ∧ args = [WData.list (ns.map WData.int)] ∧ h.get? a = some { cls := .type "list", data := .seq vs.toArray } ∧ IntsAre vs ns ∧ ns.length ≤ n := by
  have hsh : WShape.hasAll [] args [.list .int] = true := (pre_splitW hpre).1
  have hc : l.pre.holds [] { args := args } = true := (pre_splitW hpre).2
  obtain ⟨d, r, rfl, h1, h2⟩ := hasAllW_cons hsh
  obtain rfl := hasAllW_nil h2
  obtain ⟨xs, rfl, h3⟩ := hasW_list h1
  obtain ⟨ns, rfl⟩ := items_int h3
  have hlen : ns.length ≤ n := by
    unfold OpenLaw.pre at hc
    have h4 : (WTm.not (.lt (.lit (.int (n : Int))) (.len (.arg 0)))).holds [] { args := [.list (ns.map .int)] } = true := by
      have h4 := (holds_andW hc).1
      rw [hn] at h4
      exact h4
    have h5 := condW_of h4 (w_not (w_lt w_lit (w_len_list (w_arg rfl))))
    rw [List.length_map] at h5
    refine Nat.le_of_not_lt fun q => ?_
    have q' : (n : Int) < ((ns.length : Nat) : Int) := by omega
    first
      | (rw [decide_eq_true q'] at h5; exact absurd h5 (by decide))
      | (simp at h5; omega)
  cases hwl with
  | cons w1 w2 =>
    cases w2
    cases w1 with
    | list ho hall => exact ⟨_, _, ns, rfl, rfl, ho, ints_of_wellAll ns _ hall, hlen⟩
theorem post_true (l : OpenLaw) (args : List WData) : l.row.toRowW.claim.post args (.bool true) args = true :=
  postW_of (r := l.row.toRowW) (X := (true == true))
    (show WShape.has [] (.bool true) .bool = true by first | rfl | decide | simp [WShape.has, WShape.arms, WShape.armsAll])
    (show (WTm.eq .res (.lit (.bool true))).value [] { args := args, res := some (.bool true), after := args } = some (.bool (true == true)) from w_eq_bool (w_res rfl) w_lit) rfl
theorem attach_call {l : OpenLaw} {n : Nat} {q : Program} {loose : List Str} {XP : (Str → Option Value) → Heap → Prop} {YP : World → Heap → Prop} {d : DefRec}
    (hn : l.most = some n) (hdf : d.params.defaults = [])
    (call : ∀ (w : World) (s₀ s₁ : Shared) (mg mb : Str → Option Value) (fa : Addr) (o : Obj) (pm cd doc : Value) (a : Addr) (vs : List Value) (ns : List Int),
      Ground q loose [] XP w s₀ mg mb s₁.heap → YP w s₁.heap →
      s₁.heap.get? fa = some o → o.data = .func (docDef d.name d.params d.body d.scope pm cd doc) → s₁.heap.CodeRec cd d.name → mg d.name = some (.ref fa) →
      s₁.heap.get? a = some { cls := .type "list", data := .seq vs.toArray } → IntsAre vs ns → ns.length ≤ n → s₁.gens = #[] →
      codeAny (model l.prog w) callerA (.call (.ref fa) ⟨[.ref a], []⟩) (fun r s' => r = .ok (.ret (.bool true)) ∧ OldK s₁.heap s'.heap ∧ s'.os = s₁.os ∧ AllBare s'.gens) s₁) :
    WalkO q loose XP YP l.row.toRowW d [] (fun f vs => PySem.call f vs) := by
  intro w s₀ s₁ mg mb G Y fa o pm cd doc dV kV ho hd hcd hD hmg hg args vals as hpre hlay hrd hwl hlo
  obtain rfl : dV = .none := Dflts.none hD hdf
  obtain rfl : kV = .none := Dflts.noKw hD
  obtain ⟨a, vs, ns, rfl, rfl, hobj, hints, hlen⟩ := script_of hn hpre hwl
  refine enter_call (codeAny_mono (call w s₀ s₁ mg mb fa o pm cd doc a vs ns G Y ho (fd_plain hd) hcd hmg hobj hints hlen hg) fun r s' hq => ?_)
  obtain ⟨rfl, h2, h3, h4⟩ := hq
  exact ⟨.inl ⟨.bool true, .bool true, [], rfl, fun _ => rfl, .bool true, post_true l _, fun _ => ⟨List.Pairwise.nil, fun _ hm => (nomatch hm)⟩⟩, h2, h3, h4⟩
section
variable {prog : Program} {w : World} {A : Around} {E : Value → Shared → Prop} {s : Shared} {K : Frag}
theorem make_obj {R : Result → Shared → Prop} {C fI : Addr} {rest : List Value} {kw : List (Str × Value)}
    (X : K.In s.heap) (hm : makesIn K C = true) (hi : findIn K (.ref C) "__init__" = some (some (.ref fI))) (hf : isFn K (.ref fI) = true)
    (h : codeAny (model prog w) (A.under (.builtin "type.__call__" ⟨.ref C :: rest, kw⟩)) (.call (.ref fI) ⟨.ref (s.heap.objs.size + 1) :: rest, kw⟩) (InitBack (s.heap.objs.size + 1) R)
      { s with heap := (s.heap.push emptyDict).push (instObj C s.heap.objs.size) }) : codeAny (model prog w) A (.call (.ref C) ⟨rest, kw⟩) R s := by
  obtain ⟨hh, g, d, t, os⟩ := s
  exact make_core (makes_of X hm) (looks_findIn X hi) (fun self => bind_fn X self (beq_iff_eq.mp hf)) (.inl rfl) h
theorem get_field {x C : Addr} {ox : Obj} {es : List DictEntry} {n : Nat} {name : Str} {expr : Bool} {v : Value} {Q : Value → Shared → Prop}
    (X : K.In s.heap) (I : PySem.W.InstAt s.heap x ox C (some (dictOf es n))) (hg : plainGet K C name = true) (hh : hasDictIn K C = true) (ha : findIn K (.ref C) name = some none)
    (hl : getL name es = some (some v)) (hv : handedIn v = true) (h : Q v { s with toks := s.toks + 1 }) : wpAny (model prog w) A (getAttr (.ref x) name expr) Q E s :=
  get_value X I (plainGet_of hg).1 (findObj_own hh ha rfl hl) hv h
end
end Att
namespace L2
open PySem PySem.Spec PyProof.Rows
theorem vals_ints : ∀ {vs : List Value} {ns : List Int}, IntsAre vs ns → Vals (ns.map V.int) vs
  | _, _, .nil => .nil
  | _, _, .cons n t h => .cons ⟨t, rfl⟩ (vals_ints h)
end L2
namespace L2
open PySem PySem.Spec PyProof.Rows
noncomputable abbrev KOf {K : PySem.W.Frag} {h : Heap} (_ : K.In h) : PySem.W.Frag := K
end L2
namespace L2
open PySem PySem.Spec PyProof.Rows
noncomputable def defArgs (s : Stmt) : Arguments := match s with
  | .FunctionDef _ a _ _ _ _ _ _ _ _ => a
  | _ => { posonlyargs := [], args := [], vararg := none, kwonlyargs := [], kw_defaults := [], kwarg := none, defaults := [] }
noncomputable def defBody (s : Stmt) : List Stmt := match s with
  | .FunctionDef _ _ b _ _ _ _ _ _ _ => b
  | _ => []
noncomputable def defScope (s : Stmt) : Scope := match s with
  | .FunctionDef _ _ _ _ _ _ sc _ _ _ => sc
  | _ => { kind := .function, names := [], isGenerator := false, isCoroutine := false }
noncomputable abbrev CX0 : CXT := fun _ _ _ _ _ _ => False
noncomputable abbrev E0 : XK := fun _ _ _ => False
theorem pass0 {X : Cx} : Passes CX0 X E0 := fun _ _ _ _ _ _ _ h => h.elim
structure Fun (K : PySem.W.Frag) (x qual : Str) (st : Stmt) (f : Addr) (fd : FuncData) : Prop where
  ex : ∃ (oc : Value) (od : Option Addr) (kV doc pm : Value) (an : Option Addr) (cdv ct : Value) (osl : Array (Option Value)),
    fd = PySem.W.fnOf x qual (defArgs st) (defBody st) (defScope st) .none kV doc pm an cdv ct ∧ K.lookup f = some ⟨oc, od, .func fd, osl⟩ ∧ PySem.W.codeIn K cdv qual = true
  kp : PySem.W.keepIn K (.ref f) = true
section
variable {P : Program} {w : World} {K : PySem.W.Frag} {mg : Str → Option Value} {base : Heap}
theorem Fun.ok {x qual : Str} {st : Stmt} {f : Addr} {fd : FuncData} {N ps : List Str} {k : Nat} {sp : Sp} (F : Fun K x qual st f fd) (S : FnScope N ps (defScope st)) (len : ∀ vs H Q E, sp vs H Q E → vs.length = ps.length)
    (hbody : ∀ (cdv : Value) (A : Around) (outer : List Env) (s : Shared) (H : Hp) (vs : List V) (Q : VK) (E : XK), Room k (A.deeper (envOfC qual (defScope st) s.heap.objs.size f cdv)) → sp vs H Q E →
      ∃ t, PSs (cxOf CX0 P w K mg base N qual (defScope st) f cdv A outer s H E).nox (defBody st) t ∧ t { nx := fun _ H' => Q .non H', rt := Q } (start N vs) H) : FnOk P w K mg base CX0 (k + 1) f fd ps sp := by
  obtain ⟨oc, od, kV, doc, pm, an, cdv, ct, osl, rfl, lk, hcd⟩ := F.ex
  refine fn_of lk hcd S len fun A outer s H vs Q E hr hsp => ?_
  obtain ⟨t, h, q⟩ := hbody cdv A outer s H vs Q E hr hsp
  exact ⟨t, h.nox, q⟩
theorem Fun.binds {x qual : Str} {st : Stmt} {f : Addr} {fd : FuncData} {ps : List Str} (F : Fun K x qual st f fd)
    (h : ∀ (kV doc pm : Value) (an : Option Addr) (cdv ct : Value) (us : List Value), us.length = ps.length → bindArgs (PySem.W.fnOf x qual (defArgs st) (defBody st) (defScope st) .none kV doc pm an cdv ct) ⟨us, []⟩ = pure (ps.zip us)) : Binds K fd ps [] := by
  obtain ⟨oc, od, kV, doc, pm, an, cdv, ct, osl, rfl, lk, hcd⟩ := F.ex
  exact .all (h kV doc pm an cdv ct)
theorem fun_mk {x qual : Str} {st : Stmt} {f : Addr} {oc : Value} {od an : Option Addr} {osl : Array (Option Value)} {kV doc pm cdv ct : Value} (l : K.lookup f = some ⟨oc, od, .func (PySem.W.fnOf x qual (defArgs st) (defBody st) (defScope st) .none kV doc pm an cdv ct), osl⟩)
    (c : PySem.W.codeIn K cdv qual = true) (k : PySem.W.keepIn K (.ref f) = true) : Fun K x qual st f (PySem.W.fnOf x qual (defArgs st) (defBody st) (defScope st) .none kV doc pm an cdv ct) := ⟨⟨oc, od, kV, doc, pm, an, cdv, ct, osl, rfl, l, c⟩, k⟩
end
theorem small1000 {n : Nat} (h : n ≤ 1000) : n < sizeLine := Nat.lt_of_le_of_lt h (by decide)
section
variable {X : Cx}
theorem pv (i : Nat) {x : Str} {pos : Pos} (hN : X.N[i]? = some x := by rfl) (hv : Vis X.env.scope x := by first | exact Or.inl rfl | exact Or.inr (Or.inl rfl) | exact Or.inr (Or.inr rfl)) (hd : (x == ("__debug__" : Str)) = false := by decide)
    (hcd : (x == ("__classdict__" : Str)) = false := by decide) : PE X (.Name x pos) (tVar i) := pe_var hN hv hd hcd
end
theorem ite2 {c A B : Prop} [Decidable c] (h1 : c → A) (h2 : ¬ c → B) : if c then A else B := by
  by_cases h : c
  · rw [if_pos h]
    exact h1 h
  · rw [if_neg h]
    exact h2 h
noncomputable def Same (H H' : Hp) : Prop := ∀ b o, H b = some o → H' b = some o
theorem Same.refl (H : Hp) : Same H H := fun _ _ h => h
theorem Same.trans {H H1 H2 : Hp} (a : Same H H1) (b : Same H1 H2) : Same H H2 := fun c o h => b c o (a c o h)
theorem Same.free {H H' : Hp} (e : Same H H') {l : Addr} (h : H' l = Option.none) : H l = Option.none := by
  cases q : H l with
  | none => rfl
  | some o =>
    rw [e l o q] at h
    cases h
theorem Same.seq {K : PySem.W.Frag} {H H' : Hp} {a : Addr} {xs : List V} (e : Same H H') (h : SqL K H a xs) : SqL K H' a xs := by
  rcases h with (h | ⟨o, h⟩) | h
  · exact .inl (.inl (e _ _ h))
  · exact .inl (.inr ⟨o, e _ _ h⟩)
  · exact .inr h
end L2
namespace L2
open PySem PySem.Spec PyProof.Rows
section
variable {X : Cx}
end
section
variable {κ : Type} [DecidableEq κ]
end
end L2
set_option maxHeartbeats 4000000
namespace L2
open PySem PySem.Spec PyProof.Rows
noncomputable abbrev runIfs (ifs : List Expr) (env : Env) : Sem Bool :=
  forIn ifs true fun c r => if r = true then do let ok ← isTrue c env (eval c env); pure (ForInStep.yield ok) else pure (ForInStep.yield r)
theorem comp_loop {prog : Program} {w : World} {A : Around} {R : Result → Shared → Prop} {s : Shared} {elt tg iter : Expr} {ifs : List Expr} {scope : Scope} {pos : Pos} {it acc : Value} {env : Env} (I : Nat → Shared → Prop)
    (turn : ∀ n s, I n s → wpAny (model prog w) A (pyNext it) (fun r s1 => match r with
      | none => R (.ok .next) s1
      | some v => wpAny (model prog w) A (letOwnedTupleGo tg it v) (fun _ s2 => wpAny (model prog w) A (assign tg env v) (fun _ s3 => wpAny (model prog w) A (runIfs ifs env) (fun ok s4 =>
          if ok = true then wpAny (model prog w) A (eval elt env) (fun x s5 => wpAny (model prog w) A (call (.builtin "list.append") [acc, x]) (fun _ s6 => ∃ m, m < n ∧ I m s6) (fun _ _ => False) s5) (fun _ _ => False) s4
          else ∃ m, m < n ∧ I m s4) (fun _ _ => False) s3) (fun _ _ => False) s2) (fun _ _ => False) s1) (fun _ _ => False) s)
    (n : Nat) (h : I n s) : codeAny (model prog w) A (.compLoop (.ListComp elt [⟨tg, iter, ifs, 0⟩] scope pos) 0 it acc env) R s := by
  refine codeAny_loop rfl I (fun n s hI => ?_) n h
  show wpAny _ A ((compTurn (.ListComp elt [⟨tg, iter, ifs, 0⟩] scope pos) 0 it acc env).onRaise (fun x => do noteFrame x env; theTreesLotGoes x)) _ _ s
  refine wpAny_noted (wpAny_noRaise ?_)
  rw [compTurn_list]
  refine wpAny_bind (wpAny_standAt (wpAny_bind (thn (turn n s hI) fun r s1 h1 => ?_)))
  cases r with
  | none => exact wpAny_pure h1
  | some v =>
    refine wpAny_bind (thn h1 fun _ s2 h2 => wpAny_bind (thn h2 fun _ s3 h3 => wpAny_bind (thn h3 fun ok s4 h4 => ?_)))
    cases ok with
    | false => exact wpAny_pure ⟨rfl, h4⟩
    | true => exact wpAny_bind (wpAny_bind (thn h4 fun x s5 h5 => wpAny_bind (thn h5 fun _ s6 h6 => wpAny_pure (wpAny_pure ⟨rfl, h6⟩))))
theorem closure_go (env : Env) : ∀ (names : List (Str × NameKind)) (cs : List (Str × Addr)), (∀ n, (n, NameKind.free) ∈ names → ∃ c, env.cells.lookup n = some c) → (∀ n c, cs.lookup n = some c → env.cells.lookup n = some c) →
    ∃ cl, (forIn names cs fun (p : Str × NameKind) (r : List (Str × Addr)) => (if p.2 == NameKind.free then do let c ← cellOf env p.1; pure (ForInStep.yield ((p.1, c) :: r)) else pure (ForInStep.yield r) : Sem (ForInStep (List (Str × Addr))))) = pure cl ∧
      (∀ n c, cl.lookup n = some c → env.cells.lookup n = some c) ∧ (∀ n, ((n, NameKind.free) ∈ names ∨ ∃ c, cs.lookup n = some c) → ∃ c, cl.lookup n = some c)
  | [], cs, _, hcs => ⟨cs, rfl, hcs, fun n h => h.elim (fun z => nomatch z) id⟩
  | (m, k) :: r, cs, hn, hcs => by
    cases hk : k == NameKind.free with
    | false =>
      obtain ⟨cl, e, h1, h2⟩ := closure_go env r cs (fun n z => hn n (List.mem_cons_of_mem _ z)) hcs
      refine ⟨cl, ?_, h1, fun n z => h2 n ?_⟩
      · rw [List.forIn_cons]; simp only [hk]; exact e
      · rcases z with z | z
        · rcases List.mem_cons.mp z with q | q
          · cases q; simp at hk
          · exact .inl q
        · exact .inr z
    | true =>
      have ek : k = NameKind.free := by simpa using hk
      subst ek
      obtain ⟨c, hc⟩ := hn m List.mem_cons_self
      obtain ⟨cl, e, h1, h2⟩ := closure_go env r ((m, c) :: cs) (fun n z => hn n (List.mem_cons_of_mem _ z)) (fun n c' z => by
        by_cases q : n = m
        · subst q; simp [List.lookup_cons] at z; subst z; exact hc
        · rw [List.lookup_cons, beq_eq_false_iff_ne.mpr q] at z; exact hcs n c' z)
      refine ⟨cl, ?_, h1, fun n z => h2 n ?_⟩
      · rw [List.forIn_cons]; simp only [cellOf, hc]; exact e
      · rcases z with z | ⟨c', z⟩
        · rcases List.mem_cons.mp z with q | q
          · cases q; exact .inr ⟨c, by simp [List.lookup_cons]⟩
          · exact .inl q
        · by_cases q : n = m
          · subst q; exact .inr ⟨c, by simp [List.lookup_cons]⟩
          · exact .inr ⟨c', by rw [List.lookup_cons, beq_eq_false_iff_ne.mpr q]; exact z⟩
theorem closure_of {scope : Scope} {env : Env} (hn : ∀ n, (n, NameKind.free) ∈ scope.names → ∃ c, env.cells.lookup n = some c) :
    ∃ cl, closureFor scope env = pure cl ∧ (∀ n c, cl.lookup n = some c → env.cells.lookup n = some c) ∧ (∀ n, (n, NameKind.free) ∈ scope.names → ∃ c, cl.lookup n = some c) := by
  obtain ⟨cl, e, h1, h2⟩ := closure_go env scope.names [] hn (fun _ _ z => nomatch z)
  refine ⟨cl, ?_, h1, fun n z => h2 n (.inl z)⟩
  unfold closureFor
  simp only [bind_pure]
  exact e
end L2
set_option maxHeartbeats 4000000
namespace L2
open PySem PySem.Spec PyProof.Rows
noncomputable def relNames (names onames : List (Str × NameKind)) : List (Str × NameKind) :=
  names.map fun (n, k) => if (k == .free && onames.lookup n == some .cell) then (n, .cell) else (n, k)
noncomputable def compOk (sc osc : Scope) (N rest : List Str) : Bool :=
  (sc.kind == .function && osc.kind == .function && sc.names.all fun y => y.2 != .cell && (y.2 != .local || sc.names.lookup y.1 == some .local) && (y.2 != .free || osc.names.lookup y.1 == some .cell || osc.names.lookup y.1 == some .free))
  && N.length == rest.length && (N.zip rest).all fun p => match (relNames sc.names osc.names).lookup p.2 with
    | some .local => false
    | some .cell => p.1 == p.2 && (p.2, NameKind.free) ∈ sc.names && (osc.names.lookup p.2 == some .cell || osc.names.lookup p.2 == some .free)
    | some .free => p.1 == p.2 && (p.2, NameKind.free) ∈ sc.names && (osc.names.lookup p.2 == some .cell || osc.names.lookup p.2 == some .free)
    | _ => true
structure CompSc (sc osc : Scope) (N rest : List Str) : Prop where
  kind : sc.kind = .function
  okind : osc.kind = .function
  cell : ∀ y ∈ sc.names, y.2 ≠ .cell
  loc : ∀ y ∈ sc.names, y.2 = .local → sc.names.lookup y.1 = some .local
  free : ∀ n, (n, NameKind.free) ∈ sc.names → osc.names.lookup n = some .cell ∨ osc.names.lookup n = some .free
  len : N.length = rest.length
  look : ∀ (i : Nat) x, rest[i]? = some x → ((relNames sc.names osc.names).lookup x = some .local ∨ (relNames sc.names osc.names).lookup x = some .cell ∨ (relNames sc.names osc.names).lookup x = some .free) →
    N[i]? = some x ∧ (x, NameKind.free) ∈ sc.names ∧ (osc.names.lookup x = some .cell ∨ osc.names.lookup x = some .free) ∧ ((relNames sc.names osc.names).lookup x = some .cell ∨ (relNames sc.names osc.names).lookup x = some .free)
theorem compOk_is {sc osc : Scope} {N rest : List Str} (h : compOk sc osc N rest = true) : CompSc sc osc N rest := by
  unfold compOk at h
  simp only [Bool.and_eq_true, beq_iff_eq, List.all_eq_true] at h
  obtain ⟨⟨⟨⟨hk, hok⟩, hy⟩, hl⟩, hz⟩ := h
  refine ⟨hk, hok, fun y z e => ?_, fun y z e => ?_, fun n z => ?_, hl, fun i x e v => ?_⟩
  · have := (hy y z).1.1; rw [e] at this; simp at this
  · have := (hy y z).1.2; rw [e] at this; simpa using this
  · have := (hy _ z).2; simpa using this
  · have hi : i < rest.length := (List.getElem?_eq_some_iff.mp e).1
    have hi' : i < N.length := by omega
    have hN : N[i]? = some N[i] := List.getElem?_eq_getElem hi'
    have hm : (N[i], x) ∈ N.zip rest := by
      refine List.mem_of_getElem? (i := i) ?_
      rw [List.getElem?_zip_eq_some]; exact ⟨hN, e⟩
    have q := hz _ hm
    dsimp only at q
    rcases v with v | v | v
    · rw [v] at q; simp at q
    · rw [v] at q; simp only [Bool.and_eq_true, beq_iff_eq, Bool.or_eq_true, decide_eq_true_eq] at q
      obtain ⟨⟨q1, q2⟩, q3⟩ := q
      exact ⟨by rw [hN, q1], q2, q3, .inl v⟩
    · rw [v] at q; simp only [Bool.and_eq_true, beq_iff_eq, Bool.or_eq_true, decide_eq_true_eq] at q
      obtain ⟨⟨q1, q2⟩, q3⟩ := q
      exact ⟨by rw [hN, q1], q2, q3, .inr v⟩
theorem relabel_names {sc : Scope} {env : Env} (hk : env.scope.kind = .function) : (relabel sc env).names = relNames sc.names env.scope.names := by
  unfold relabel relNames Env.kindOf
  simp [hk]
theorem rel_free {names onames : List (Str × NameKind)} (hc : ∀ y ∈ names, y.2 ≠ .cell) {x : Str} (h : (relNames names onames).lookup x = some .cell ∨ (relNames names onames).lookup x = some .free) : (x, NameKind.free) ∈ names := by
  have hm : (x, NameKind.cell) ∈ relNames names onames ∨ (x, NameKind.free) ∈ relNames names onames := h.imp PySem.mem_of_lookup PySem.mem_of_lookup
  rcases hm with hm | hm
  · obtain ⟨⟨n, k⟩, hn, e⟩ := List.mem_map.mp hm
    dsimp only at e
    split at e
    · rename_i hh; cases e; simp at hh; obtain ⟨rfl, _⟩ := hh; exact hn
    · cases e; exact absurd rfl (hc _ hn)
  · obtain ⟨⟨n, k⟩, hn, e⟩ := List.mem_map.mp hm
    dsimp only at e
    split at e
    · cases e
    · cases e; exact hn
noncomputable def compCx (X : Cx) (scope : Scope) (N' : List Str) (cl : List (Str × Addr)) (s2 : Shared) (H2 : Hp) (C : Addr) (fp : List Addr) : Cx :=
  { X with N := N', s₀ := s2, H₀ := H2, env := compEnvC scope cl C X.env, outer := X.stack, stack := X.stack, ex := fp, fn := fun _ => false, pn := [], xe := fun _ _ => False }
section
variable {X : Cx} {pins : List (Addr × Obj)} {σ : St} {H2 : Hp} {s2 : Shared} {scope : Scope} {own rest : List Str} {cl : List (Str × Addr)} {fp : List Addr} {C : Addr}
theorem compCx_ok (I : Inv X pins σ H2 s2) (S : CompSc scope X.env.scope X.N rest) (h1 : ∀ n c, cl.lookup n = some c → X.env.cells.lookup n = some c) (h2 : ∀ n, (n, NameKind.free) ∈ scope.names → ∃ c, cl.lookup n = some c)
    (hC : s2.heap.objs.size ≤ C) (hf : ∀ b ∈ fp, FpOk X pins H2 b) (ho : ∀ b ∈ fp, ∃ o, s2.heap.get? b = some o) : (compCx X scope (own ++ rest) cl s2 H2 C fp).Ok where
  mod := I.ok.mod
  kind := S.kind
  glob := I.ok.glob
  blt := I.ok.blt
  above := hC
  inj := fun x y c e1 e2 => I.ok.inj x y c (h1 x c e1) (h1 y c e2)
  has := fun x hx => h2 x (rel_free S.cell (by
    have e : (compCx X scope (own ++ rest) cl s2 H2 C fp).env.kindOf x = (relNames scope.names X.env.scope.names).lookup x := congrArg (List.lookup x) (relabel_names (sc := scope) I.ok.kind)
    rw [e] at hx; exact hx))
  cab := fun _ _ z => nomatch z
  hd := I.ok.hd
  frames := I.ok.frames
  stk := .inl rfl
  exf := fun b hb => by
    obtain ⟨o, e⟩ := ho b hb
    exact ⟨Nat.ne_of_lt (Nat.lt_of_lt_of_le (Heap.lt_size e) hC), fun x c e => (hf b hb).2.2.2.2.1 x c (h1 x c e)⟩
  bs := I.bs
  bsz := Nat.le_trans I.ok.bsz I.sz
  noex := fun b o e hb => by
    rcases (hf b hb).2.2.2.1 with z | z
    · exact I.ok.noex b o e z
    · exact absurd (Nat.lt_of_lt_of_le (Heap.lt_size e) (Nat.le_trans I.ok.bsz z)) (Nat.lt_irrefl _)
  exfs := fun b hb z => by
    rcases List.mem_cons.mp (I.stkSub b z) with q | q
    · exact (hf b hb).2.1 q
    · exact (hf b hb).2.2.1 q
  funs := I.stack
  frf := I.stkFree
theorem comp_start {h1 : Heap} {t1 : Nat} (I : Inv X pins σ H2 s2) (S : CompSc scope X.env.scope X.N rest) (hc1 : ∀ n c, cl.lookup n = some c → X.env.cells.lookup n = some c) (hc2 : ∀ n, (n, NameKind.free) ∈ scope.names → ∃ c, cl.lookup n = some c)
    (hC : s2.heap.objs.size ≤ C) (hf : ∀ b ∈ fp, FpOk X pins H2 b) (ho : ∀ b ∈ fp, ∃ o, s2.heap.get? b = some o)
    (old : ∀ b o, s2.heap.get? b = some o → h1.get? b = some o) (ns : h1.Ns C fun _ => none) :
    Inv (compCx X scope (own ++ rest) cl s2 H2 C fp) [] (List.replicate own.length none ++ σ) H2 { s2 with heap := h1, toks := t1 } := by
  obtain ⟨m, hn, hl⟩ := id I.loc
  have hv : ∀ x, Vis (compCx X scope (own ++ rest) cl s2 H2 C fp).env.scope x → ((relNames scope.names X.env.scope.names).lookup x = some .local ∨ (relNames scope.names X.env.scope.names).lookup x = some .cell ∨ (relNames scope.names X.env.scope.names).lookup x = some .free) := fun x z => by
    have e : (compCx X scope (own ++ rest) cl s2 H2 C fp).env.scope.names = relNames scope.names X.env.scope.names := relabel_names (sc := scope) I.ok.kind
    unfold Vis at z; rw [e] at z; exact z
  refine ⟨compCx_ok I S hc1 hc2 hC hf ho, rfl, I.bare, Un.kept old, ⟨_, ns, fun i x v e1 e2 e3 => ?_⟩, fun x c e => ?_, I.hok.fresh hC, fun x c e => I.freeC x c (hc1 x c e), fun p hp => absurd (show p ∈ ([] : List (Addr × Obj)) from hp) (by simp), I.hok.kept old, ?_⟩
  · have e1' : (own ++ rest)[i]? = some x := e1
    by_cases hi : i < own.length
    · rw [List.getElem?_append_left (by simpa using hi), List.getElem?_replicate] at e2
      split at e2 <;> cases e2
    · have hi' : own.length ≤ i := Nat.le_of_not_lt hi
      rw [List.getElem?_append_right (by simpa using hi'), List.length_replicate] at e2
      rw [List.getElem?_append_right hi'] at e1'
      obtain ⟨q1, q2, q3, q4⟩ := S.look _ x e1' (hv x e3)
      obtain ⟨u, r, l⟩ := hl (i - own.length) x v q1 e2 (q3.elim (fun z => .inr (.inl z)) fun z => .inr (.inr z))
      refine ⟨u, r, .inr ⟨?_, ?_⟩⟩
      · have e : (compCx X scope (own ++ rest) cl s2 H2 C fp).env.kindOf x = (relNames scope.names X.env.scope.names).lookup x := congrArg (List.lookup x) (relabel_names (sc := scope) I.ok.kind)
        rw [e]; exact q4
      · rcases l with ⟨k, _⟩ | ⟨_, c, e, z⟩
        · have k' : X.env.scope.names.lookup x = some .local := k
          rcases q3 with q3 | q3 <;> (rw [q3] at k'; cases k')
        · obtain ⟨c', e'⟩ := hc2 x q2
          have e2 := hc1 x c' e'
          rw [e] at e2; cases e2
          obtain ⟨o, q, d⟩ := z
          exact ⟨c, e', o, old c o q, d⟩
  · obtain ⟨v, o, q, d⟩ := I.cell x c (hc1 x c e)
    exact ⟨v, o, old c o q, d⟩
  · show _ = (own ++ rest).length
    have := I.len; have := S.len
    simp only [List.length_append, List.length_replicate]; omega
theorem comp_end {H' : Hp} {s' : Shared} {σ' : St} {D : Addr} {ys : List V} {its : List Value} {n : Nat} {pins' : List (Addr × Obj)} (I : Inv X pins σ H2 s2) (J : Inv (compCx X scope (own ++ rest) cl s2 H2 C fp) pins' σ' H' s') (hf : ∀ b ∈ fp, FpOk X pins H2 b)
    (hD : s2.heap.objs.size ≤ D) (hDn : H' D = none) (hDo : s'.heap.get? D = some { cls := .type "list", data := .seq its.toArray n }) (r : Vals ys its) (hz : ys.length ≤ sizeLine) :
    Inv X pins σ (upd H' D (.lst ys)) s' := by
  have u : Un (frs X.stack) fp H2 H' s2.heap s'.heap := J.base
  have nD : ∀ b o, s2.heap.get? b = some o → b ≠ D := fun b o e => Nat.ne_of_lt (Nat.lt_of_lt_of_le (Heap.lt_size e) hD)
  refine I.call' (ch := fp) J.os ⟨u.keep, u.slot, fun b o e n hx => ?_, u.there, fun b xs e => ?_, fun b o v e => ?_, fun b ps e => ?_⟩ (fun b o e => ?_) J.bare fun b hb => ?_
  · rw [upd_ne (nD b o e)]; exact u.free b o e n hx
  · rw [upd_ne (ne_of_none (u.tups b xs e) hDn)]; exact u.tups b xs e
  · rw [upd_ne (ne_of_none (u.frzs b o v e) hDn)]; exact u.frzs b o v e
  · obtain ⟨more, q⟩ := u.tbls b ps e
    exact ⟨more, by rw [upd_ne (ne_of_none q hDn)]; exact q⟩
  · by_cases hb : b = D
    · subst hb; rw [upd_same] at e; cases e; exact ⟨hz, its, n, r, hDo⟩
    · rw [upd_ne hb] at e
      exact (J.hok b o e).stay (fun c v _ q => q) (fun c q => by rw [upd_ne (ne_of_none q hDn)]; exact q) fun c xs q => by rw [upd_ne (ne_of_none q hDn)]; exact q
  · obtain ⟨_, f1, _, f3, f4, f5⟩ := hf b hb
    exact ⟨f3, f1, f4, f5⟩
end
end L2
set_option maxHeartbeats 4000000
namespace L2
open PySem PySem.Spec PyProof.Rows
noncomputable def PTs (X : Cx) (ifs : List Expr) (t : TT) : Prop :=
  ∀ (pins : List (Addr × Obj)) (s : Shared) (σ : St) (H : Hp) (Q : Bool → Hp → Prop), Inv X pins σ H s → t σ H Q → wpAny (model X.prog X.w) X.A (runIfs ifs X.env) (TP X pins σ Q) X.xe s
noncomputable def tYes : TT := fun _ H Q => Q true H
theorem pts_nil {X : Cx} : PTs X [] tYes := fun _ _ _ H _ I h => wpAny_tests_nil ⟨H, I, h⟩
noncomputable def CompW (J : It) (g : TG) (tt : TT) (te : TE) (fin : List V → Hp → Prop) (σ0 : St) (H1 : Hp) : Prop :=
  ∃ W : Nat → Nat → List V → St → Hp → Prop, (∃ m, W 0 m [] σ0 H1) ∧ ∀ i m ys σ H, W i m ys σ H →
    (J.stop i H ∧ fin ys H) ∨ (J.go i H ∧ ys.length < sizeLine ∧ ∃ N : List V → St → Hp → Prop, (∀ ys' σ' H', N ys' σ' H' → ∃ m', m' < m ∧ W (i + 1) m' ys' σ' H') ∧
      ∀ x H', J.yld i H x H' → g x σ H' fun σ2 H2 => tt σ2 H2 fun b H3 => if b = true then te σ2 H3 fun y H4 => N (ys ++ [y]) σ2 H4 else N ys σ2 H3)
section
variable {X : Cx} {pins : List (Addr × Obj)} {σ : St} {H2 : Hp} {s2 : Shared} {scope : Scope} {own rest : List Str} {cl : List (Str × Addr)} {fp : List Addr} {E : Value → Shared → Prop}
theorem comp_run {elt tg iter : Expr} {ifs : List Expr} {pos : Pos} {J : It} {it : Addr} {tn : Nat → Heap → Prop} {g : TG} {tt : TT} {te : TE} {fin : List V → Hp → Prop} {RR : Value → Addr → Result → Shared → Prop} {D : Nat} (hD : s2.heap.objs.size = D) (hcalm : X.calm = true)
    (I : Inv X pins σ H2 s2) (S : CompSc scope X.env.scope X.N rest) (hc1 : ∀ n c, cl.lookup n = some c → X.env.cells.lookup n = some c) (hc2 : ∀ n, (n, NameKind.free) ∈ scope.names → ∃ c, cl.lookup n = some c)
    (T : Turn X.prog X.w X.K tg J fp it tn) (st : tn 0 s2.heap) (hf : ∀ b ∈ fp, FpOk X pins H2 b)
    (hg : PG (compCx X scope (own ++ rest) cl s2 H2 (D + 1 : Nat) fp) tg g) (ht : PTs (compCx X scope (own ++ rest) cl s2 H2 (D + 1 : Nat) fp) ifs tt)
    (he : PE (compCx X scope (own ++ rest) cl s2 H2 (D + 1 : Nat) fp) elt te)
    (hw : CompW J g tt te fin (List.replicate own.length none ++ σ) H2)
    (hR : ∀ (s' : Shared) (H' : Hp) (ys : List V), Inv X pins σ (upd H' D (.lst ys)) s' → (∃ m, s'.heap.Ns (D + 1 : Nat) m) → H' D = none → H' (D + 1 : Nat) = none → fin ys H' → RR (.ref D) (D + 1 : Nat) (.ok .next) s') :
    wpAny (model X.prog X.w) X.A (newList []) (fun acc s3 => wpAny (model X.prog X.w) X.A (newFunctionEnv scope X.env.globals cl [] X.env.qual none .none (some X.env)) (fun cenv s4 =>
      codeAny (model X.prog X.w) X.A (.compStart (.ListComp elt [⟨tg, iter, ifs, 0⟩] scope pos) 0 (.ref it) acc { cenv with scope := relabel scope X.env }) (RR acc cenv.locals) s4) E s3) E s2 := by
  refine wpAny_newObj_type (wpAny_newFunctionEnv S.cell (by intro y hy; simp at hy) (fun h1 hns hsb => ?_) S.kind)
  dsimp only at hns hsb ⊢
  generalize hHp : s2.heap.push { cls := .type "list", dict := none, data := .seq ([] : List Value).toArray } = Hp2 at hns hsb ⊢
  have hC : Hp2.objs.size = s2.heap.objs.size + 1 := by rw [← hHp, Heap.size_push]
  rw [hD] at hC
  rw [hC] at hns hsb ⊢
  rw [hD]
  have nDC : D ≠ D + 1 := Nat.ne_of_lt (Nat.lt_succ_self _)
  have below : ∀ b o, s2.heap.get? b = some o → b < D := fun b o e => by rw [← hD]; exact Heap.lt_size e
  have old : ∀ b o, s2.heap.get? b = some o → h1.get? b = some o := fun b o e => by
    exact hsb.extBut b o (Nat.ne_of_lt (Nat.lt_succ_of_lt (below b o e))) (Heap.get?_push_of_some _ (hHp ▸ Heap.get?_push_of_some _ e))
  have hDo : h1.get? D = some { cls := .type "list", data := .seq ([] : List Value).toArray 0 } :=
    hsb.extBut _ _ nDC (Heap.get?_push_of_some _ (by rw [← hHp, ← hD]; exact Heap.get?_push_size _ rfl))
  have hfo : ∀ b ∈ fp, ∃ o, s2.heap.get? b = some o := fun b hb => let ⟨o, e, _⟩ := T.obj 0 _ st b hb; ⟨o, e⟩
  have st1 : tn 0 h1 := T.keep _ _ _ st fun b hb o e => old b o e
  have J0 : Inv (compCx X scope (own ++ rest) cl s2 H2 (D + 1 : Nat) fp) [] (List.replicate own.length none ++ σ) H2 { s2 with heap := h1, toks := s2.toks } :=
    comp_start I S hc1 hc2 (by omega) hf hfo old hns
  have nfs : D ∉ (compCx X scope (own ++ rest) cl s2 H2 (D + 1 : Nat) fp).fs := fun z => by
    have z' : D ∈ frs X.stack := z
    rcases List.mem_cons.mp (I.stkSub D z') with q | q
    · exact Nat.lt_irrefl D (by have h := I.lt; rw [← q, hD] at h; exact h)
    · exact I.nofs (Nat.le_of_eq hD) q
  have ncl : ∀ x c, (compCx X scope (own ++ rest) cl s2 H2 (D + 1 : Nat) fp).env.cells.lookup x = some c → c ≠ D := fun x c e z => by
    obtain ⟨v, o, q, d⟩ := I.cell x c (hc1 x c e)
    exact Nat.ne_of_lt (below c o q) z
  have loop : ∀ s3 : Shared, s3 = { s2 with heap := h1, toks := s2.toks } →
      codeAny (model X.prog X.w) X.A (.compLoop (.ListComp elt [⟨tg, iter, ifs, 0⟩] scope pos) 0 (.ref it) (.ref D) (compEnvC scope cl (D + 1) X.env)) (RR (.ref D) (D + 1)) s3 := by
    rintro s3 rfl
    obtain ⟨W, ⟨m0, w0⟩, turn⟩ := hw
    refine comp_loop (fun m s' => ∃ (i : Nat) (ys : List V) (its : List Value) (n : Nat) (σ' : St) (H' : Hp), Inv (compCx X scope (own ++ rest) cl s2 H2 (D + 1 : Nat) fp) [] σ' H' s' ∧ tn i s'.heap ∧ (∀ b ∈ fp, H' b = none) ∧
      s'.heap.get? D = some { cls := .type "list", data := .seq its.toArray n } ∧ H' D = none ∧ Vals ys its ∧ ys.length ≤ sizeLine ∧ W i m ys σ' H') ?_ m0
      ⟨0, [], [], 0, _, H2, J0, st1, fun b hb => (hf b hb).1, hDo, by rw [← hD]; exact I.fresh, .nil, by simp, w0⟩
    rintro m s3 ⟨i, ys, its, n, σ3, H3, J3, st3, fr3, ho3, hn3, r3, z3, w3⟩
    have pin : ∀ {σ' : St} {H' : Hp} {s' : Shared}, Inv (compCx X scope (own ++ rest) cl s2 H2 (D + 1 : Nat) fp) [] σ' H' s' → s'.heap.get? D = some { cls := .type "list", data := .seq its.toArray n } → H' D = none →
        Inv (compCx X scope (own ++ rest) cl s2 H2 (D + 1 : Nat) fp) [(D, { cls := .type "list", data := .seq its.toArray n })] σ' H' s' := fun {σ' H' s'} K1 K2 K3 =>
      K1.pins_of fun p hp => by
        have e : p = (D, { cls := .type "list", data := .seq its.toArray n }) := by simpa using hp
        subst e
        exact ⟨K2, K3, nDC, nfs, fun v z => nomatch z⟩
    have fpk : ∀ {H' : Hp}, (∀ b ∈ fp, H' b = none) → ∀ b ∈ fp, FpOk (compCx X scope (own ++ rest) cl s2 H2 (D + 1 : Nat) fp) [(D, { cls := .type "list", data := .seq its.toArray n })] H' b := fun {H'} fr b hb => by
      obtain ⟨o, e⟩ := hfo b hb
      have lt := below b o e
      refine ⟨fr b hb, Nat.ne_of_lt (Nat.lt_succ_of_lt lt), ?_, .inl hb, fun x c q => (hf b hb).2.2.2.2.1 x c (hc1 x c q), fun p hp => ?_⟩
      · intro z
        have z' : b ∈ frs X.stack := z
        rcases List.mem_cons.mp (I.stkSub b z') with q | q
        · exact (hf b hb).2.1 q
        · exact (hf b hb).2.2.1 q
      · have e : p = (D, { cls := .type "list", data := .seq its.toArray n }) := by
          have hp' : p ∈ [(D, ({ cls := .type "list", data := .seq its.toArray n } : Obj))] := hp
          simpa using hp'
        subst e
        exact Nat.ne_of_gt lt
    have J3p := pin J3 ho3 hn3
    rcases turn i m ys σ3 H3 w3 with ⟨stop, q⟩ | ⟨go, hlt, N, hN, step⟩
    · refine thn (T.done (compCx X scope (own ++ rest) cl s2 H2 (D + 1 : Nat) fp) rfl rfl rfl hcalm i _ s3 σ3 H3 _ J3p (fpk fr3) st3 stop) fun r s4 ⟨hr, J4⟩ => ?_
      subst hr
      have ho4 := J4.pin _ (List.mem_append_right _ List.mem_cons_self)
      refine hR s4 H3 ys (comp_end I J4 hf (by omega) hn3 ho4.1 r3 z3) ?_ hn3 J4.free q
      obtain ⟨mm, hmm, _⟩ := J4.loc
      exact ⟨mm, hmm⟩
    · refine thn (T.item (compCx X scope (own ++ rest) cl s2 H2 (D + 1 : Nat) fp) rfl rfl rfl hcalm i _ s3 σ3 H3 _ J3p (fpk fr3) st3 go) fun r s4 ⟨u, hr, h4⟩ => ?_
      subst hr
      refine thn h4 fun _ s5 ⟨x, H5, J5, r5, y5, st5, fr5⟩ => ?_
      have J5' := J5.pinned (fpk fr5) (T.obj _ _ st5)
      refine thn (hg _ s5 σ3 H5 x u _ J5' r5 (step x H5 y5)) fun _ s6 ⟨σ6, H6, J6, q6⟩ => ?_
      refine thn (ht _ s6 σ6 H6 _ J6 q6) fun b s7 ⟨H7, J7, q7⟩ => ?_
      have stay : ∀ {σ' : St} {H' : Hp} {s' : Shared}, Inv (compCx X scope (own ++ rest) cl s2 H2 (D + 1 : Nat) fp) ([(D, { cls := .type "list", data := .seq its.toArray n })] ++ pinsAt fp s5.heap) σ' H' s' →
          Inv (compCx X scope (own ++ rest) cl s2 H2 (D + 1 : Nat) fp) [] σ' H' s' ∧ tn (i + 1) s'.heap ∧ (∀ b ∈ fp, H' b = none) ∧ s'.heap.get? D = some { cls := .type "list", data := .seq its.toArray n } ∧ H' D = none := fun {σ' H' s'} K1 => by
        refine ⟨K1.pins_of fun p hp => absurd hp (by simp), T.keep _ _ _ st5 fun b hb o e => (K1.pin (b, o) (List.mem_append_right _ (List.mem_append_right _ (mem_pinsAt hb e)))).1, fun b hb => ?_, ?_, ?_⟩
        · obtain ⟨o, e, d⟩ := T.obj _ _ st5 b hb
          exact (K1.pin (b, o) (List.mem_append_right _ (List.mem_append_right _ (mem_pinsAt hb e)))).2.1
        · exact (K1.pin (D, _) (List.mem_append_right _ (List.mem_append_left _ List.mem_cons_self))).1
        · exact (K1.pin (D, _) (List.mem_append_right _ (List.mem_append_left _ List.mem_cons_self))).2.1
      cases b with
      | false =>
        rw [if_neg Bool.false_ne_true] at q7 ⊢
        obtain ⟨k1, k2, k3, k4, k5⟩ := stay J7
        obtain ⟨m', hm, w'⟩ := hN _ _ _ q7
        exact ⟨m', hm, i + 1, ys, its, n, σ6, H7, k1, k2, k3, k4, k5, r3, z3, w'⟩
      | true =>
        rw [if_pos rfl] at q7 ⊢
        refine thn (he _ s7 σ6 H7 _ J7 q7) fun xv s8 ⟨y, H8, J8, r8, q8⟩ => ?_
        obtain ⟨k1, k2, k3, k4, k5⟩ := stay J8
        refine call_meets F.slot_list_append ⟨_, k4, rfl⟩ F.entry_list_append (F.args_list_append_2 _ _) (PySem.list_append D its.toArray n xv (by rw [List.size_toArray, ← r3.length]; omega)) ⟨k4, ?_⟩
        obtain ⟨m', hm, w'⟩ := hN _ _ _ q8
        have ho9 := PySem.IsL.update k4 (fun a => a.push xv)
        have ek : ∀ b o, b ≠ D → s8.heap.get? b = some o → (s8.heap.update D (Obj.mapSeq (fun a => a.push xv))).get? b = some o := fun b o hb e => (Heap.get?_update_other s8.heap (Obj.mapSeq _) (Ne.symm hb)).trans e
        refine ⟨m', hm, i + 1, ys ++ [y], its ++ [xv], (if ((its.toArray.push xv).size == its.toArray.size) = true then n else n + 1), σ6, H8, k1.turned (it := D) (t' := s8.toks) ek k5 nDC (.inr (show s2.heap.objs.size ≤ D by omega)) ncl (fun p hp => absurd (show p ∈ ([] : List (Addr × Obj)) from hp) (by simp)), ?_, k3, ?_, k5, r3.append (.cons r8 .nil), ?_, w'⟩
        · refine T.keep _ _ _ k2 fun b hb o e => ek b o ?_ e
          obtain ⟨o', e'⟩ := hfo b hb
          exact Nat.ne_of_lt (below b o' e')
        · have e2 : its.toArray.push xv = (its ++ [xv]).toArray := by simp
          rw [← e2]; exact ho9
        · simp only [List.length_append, List.length_cons, List.length_nil]; omega
  exact codeAny_compStart_list (loop _ rfl) (T.self X.A 0 _ _ _ st1 (loop _ rfl))
end
end L2
set_option maxHeartbeats 4000000
namespace L2
open PySem PySem.Spec PyProof.Rows
noncomputable def tComp (k : Nat) (wi : TI) (g : TG) (tt : TT) (te : TE) : TE := fun σ H Q => wi σ H fun J H1 => CompW J g tt te (fun ys H' => ∀ D, H' D = none → Q (.ref D) (upd H' D (.lst ys))) (List.replicate k none ++ σ) H1
section
variable {X : Cx} {elt tg iter : Expr} {ifs : List Expr} {scope : Scope} {pos : Pos} {wi : TI} {g : TG} {tt : TT} {te : TE}
theorem Inv.closed {pins : List (Addr × Obj)} {σ : St} {H : Hp} {s : Shared} {N rest : List Str} (I : Inv X pins σ H s) (S : CompSc scope X.env.scope N rest) :
    ∃ cl, closureFor scope X.env = pure cl ∧ (∀ n c, cl.lookup n = some c → X.env.cells.lookup n = some c) ∧ (∀ n, (n, NameKind.free) ∈ scope.names → ∃ c, cl.lookup n = some c) :=
  closure_of fun n z => I.ok.has n (S.free n z)
theorem Inv.letgo {pins pins' : List (Addr × Obj)} {σ σ' : St} {H H' : Hp} {s s' : Shared} {b : Addr} {h' : Heap} (I : Inv X pins σ H s) (J : Inv X pins σ' H' s') (hb : s.heap.objs.size ≤ b) (hn : H' b = none) (sb : Heap.SameBut b s'.heap h') : Inv X pins σ' H' { s' with heap := h' } := by
  obtain ⟨f0, f1, f2, f3, f4, f5⟩ := I.fpOk hb hn
  exact J.turned (t' := s'.toks) (fun c o hc e => (sb.2 c hc).trans e) f0 f1 f3 f4 f5
theorem pe_comp (own rest : List Str) (hcalm : X.calm = true) (S : CompSc scope X.env.scope X.N rest) (hi : PI X tg iter wi)
    (hg : ∀ cl s2 H2 C fp, PG (compCx X scope (own ++ rest) cl s2 H2 C fp) tg g) (ht : ∀ cl s2 H2 C fp, PTs (compCx X scope (own ++ rest) cl s2 H2 C fp) ifs tt) (he : ∀ cl s2 H2 C fp, PE (compCx X scope (own ++ rest) cl s2 H2 C fp) elt te)
    (hs : ∀ x, foldedSetIterable iter X.env x = pure x := by intro _; rfl) : PE X (.ListComp elt [⟨tg, iter, ifs, 0⟩] scope pos) (tComp own.length wi g tt te) := by
  intro pins s σ H Q I h
  obtain ⟨cl, hcl, hc1, hc2⟩ := I.closed S
  rw [eval_ListComp]
  refine wpAny_comprehension_free (use := none) rfl hs hcl S.kind S.loc (thn (hi pins s σ H _ I h) fun v s1 h1 => thn h1 fun itv s2 h2 => ?_)
  obtain ⟨it, fp, tn, J, H2, e, I2, T, st, hf, hw⟩ := h2
  subst e
  refine comp_run (RR := fun acc C => compPost (model X.prog X.w) X.A X.xe none (EP X pins σ Q) acc C) (D := s2.heap.objs.size) rfl hcalm I2 S hc1 hc2 T st hf (hg _ _ _ _ _) (ht _ _ _ _ _) (he _ _ _ _ _) hw ?_
  intro s' H' ys J' ⟨m, hm⟩ hD hC q
  refine ⟨m, hm, fun h' sb => ⟨.ref s2.heap.objs.size, _, I2.letgo (pins' := pins) (b := (s2.heap.objs.size + 1 : Nat)) J' (Nat.le_succ _) ?_ sb, rfl, q _ hD⟩⟩
  rw [upd_ne (Nat.ne_of_gt (Nat.lt_succ_self _))]; exact hC
theorem ps_comp {i : Nat} {y : Str} {py spos : Pos} (own rest : List Str) (hcalm : X.calm = true) (S : CompSc scope X.env.scope X.N rest) (hN : X.N.Nodup) (hy : X.N[i]? = some y) (hl : X.env.scope.names.lookup y = some .local) (hi : PI X tg iter wi)
    (hg : ∀ cl s2 H2 C fp, PG (compCx X scope (own ++ rest) cl s2 H2 C fp) tg g) (ht : ∀ cl s2 H2 C fp, PTs (compCx X scope (own ++ rest) cl s2 H2 C fp) ifs tt) (he : ∀ cl s2 H2 C fp, PE (compCx X scope (own ++ rest) cl s2 H2 C fp) elt te)
    (hsw : swapsWith (.ListComp elt [⟨tg, iter, ifs, 0⟩] scope pos) (some (.Name y py)) spos.line X.env = pure true := by rfl)
    (hs : ∀ x, foldedSetIterable iter X.env x = pure x := by intro _; rfl) : PS X (.Assign [.Name y py] (.ListComp elt [⟨tg, iter, ifs, 0⟩] scope pos) spos) (tAsg (tComp own.length wi g tt te) (gName i)) := by
  intro pins s σ H D I h
  obtain ⟨cl, hcl, hc1, hc2⟩ := I.closed S
  rw [exec_Assign_Name_used _ _ _ _ hsw]
  refine wpAny_bind (wpAny_standAt (wpAny_bind ?_))
  show wpAny _ X.A (do let _ ← comprehension (.ListComp elt [⟨tg, iter, ifs, 0⟩] scope pos) scope X.env _ (newList []) false (eval iter X.env) (some (assign (.Name y py) X.env))) _ _ s
  refine wpAny_bind (wpAny_mono (wpAny_comprehension_free (use := some (assign (.Name y py) X.env)) (Q := fun _ s' => SP X pins D .next s') rfl hs hcl S.kind S.loc (thn (hi pins s σ H _ I h) fun v s1 h1 => thn h1 fun itv s2 h2 => ?_)) (fun _ s' hq => wpAny_pure (wpAny_pure hq)) fun _ _ e => e)
  obtain ⟨it, fp, tn, J, H2, e, I2, T, st, hf, hw⟩ := h2
  subst e
  refine comp_run (RR := fun acc C => compPost (model X.prog X.w) X.A X.xe (some (assign (.Name y py) X.env)) (fun _ s' => SP X pins D .next s') acc C) (D := s2.heap.objs.size) rfl hcalm I2 S hc1 hc2 T st hf (hg _ _ _ _ _) (ht _ _ _ _ _) (he _ _ _ _ _) hw ?_
  intro s' H' ys J' ⟨m, hm⟩ hD hC q
  show wpAny _ X.A (assign (.Name y py) X.env (.ref s2.heap.objs.size)) _ _ s'
  refine wpAny_assign_Name (store_ok2 (v := .ref s2.heap.objs.size) J' hN hy (.inl hl) rfl (fun s3 J3 ⟨a, sb, ha⟩ => ?_) (.inr hl))
  have hne : s2.heap.objs.size + 1 ≠ a := by
    rcases ha with ha | ha
    · rw [ha]; exact Nat.ne_of_gt (Nat.lt_succ_of_lt I2.lt)
    · obtain ⟨v, o, e, d⟩ := I2.cell y a ha
      exact Nat.ne_of_gt (Nat.lt_succ_of_lt (Heap.lt_size e))
  refine ⟨m, hm.sameBut sb hne, fun h' sb' => ⟨_, _, I2.letgo (pins' := pins) (b := (s2.heap.objs.size + 1 : Nat)) J3 (Nat.le_succ _) ?_ sb', q _ hD⟩⟩
  rw [upd_ne (Nat.ne_of_gt (Nat.lt_succ_self _))]; exact hC
end
structure Walk (J : It) (xs : List V) (ok : Hp → Prop) : Prop where
  go : ∀ i H, ok H → i < xs.length → J.go i H
  yld : ∀ i H x H', ok H → i < xs.length → J.yld i H x H' → H' = H ∧ xs[i]? = some x
  stop : ∀ H, ok H → J.stop xs.length H
theorem walk_list {K : PySem.W.Frag} {a : Addr} {xs : List V} : Walk (Itl K a) xs (fun H => SqL K H a xs) where
  go := fun i H q hi => ⟨xs, xs[i], q, by simp [hi]⟩
  yld := fun i H x H' q _ y => ⟨y.1, y.2 xs q⟩
  stop := fun H q => ⟨xs, q, Nat.le_refl _⟩
noncomputable def rangeV (lo : Int) (n : Nat) : List V := (List.range n).map fun (i : Nat) => V.int (lo + i)
theorem rangeV_len (lo : Int) (n : Nat) : (rangeV lo n).length = n := by simp [rangeV]
theorem rangeV_get {lo : Int} {n i : Nat} (h : i < n) : (rangeV lo n)[i]? = some (.int (lo + i)) := by simp [rangeV, h]
theorem walk_range {lo : Int} {n : Nat} : Walk (Itr lo n) (rangeV lo n) (fun _ => True) where
  go := fun i H _ hi => by rw [rangeV_len] at hi; exact hi
  yld := fun i H x H' _ hi y => ⟨y.1, by rw [rangeV_len] at hi; rw [rangeV_get hi, y.2]⟩
  stop := fun H _ => Nat.le_of_eq (rangeV_len lo n).symm
theorem for_walk {J : It} {xs : List V} {ok : Hp → Prop} (w : Walk J xs ok) {g : TG} {tb : TS} {D : Ends} {σ : St} {H : Hp} (Pv : Nat → St → Hp → Prop) (h0 : Pv 0 σ H) (hl : ∀ i σ H, i ≤ xs.length → Pv i σ H → ok H)
    (hs : ∀ i x σ H, xs[i]? = some x → Pv i σ H → g x σ H fun σ2 H2 => tb { D with nx := Pv (i + 1), ct := Pv (i + 1), bk := D.nx } σ2 H2) (hd : ∀ σ H, Pv xs.length σ H → D.nx σ H) :
    ∃ W : Nat → Nat → St → Hp → Prop, (∃ m, W 0 m σ H) ∧ ∀ i m σ H, W i m σ H →
      (J.stop i H ∧ D.nx σ H) ∨ (J.go i H ∧ ∃ N : St → Hp → Prop, (∀ σ' H', N σ' H' → ∃ m', m' < m ∧ W (i + 1) m' σ' H') ∧ ∀ x H', J.yld i H x H' → g x σ H' fun σ2 H2 => tb { D with nx := N, ct := N, bk := D.nx } σ2 H2) := by
  refine ⟨fun i m σ H => m = xs.length - i ∧ i ≤ xs.length ∧ Pv i σ H, ⟨xs.length, by simp, Nat.zero_le _, h0⟩, ?_⟩
  rintro i m σ H ⟨rfl, hi, p⟩
  have q := hl i σ H hi p
  by_cases hlt : i < xs.length
  · refine .inr ⟨w.go i H q hlt, Pv (i + 1), fun σ' H' p' => ⟨xs.length - (i + 1), by omega, rfl, hlt, p'⟩, fun x H' y => ?_⟩
    obtain ⟨e, y'⟩ := w.yld i H x H' q hlt y
    subst e
    exact hs i x σ _ y' p
  · have e : i = xs.length := by omega
    subst e
    exact .inl ⟨w.stop H q, hd σ H p⟩
theorem comp_walk {J : It} {xs : List V} {ok : Hp → Prop} (w : Walk J xs ok) {tt : TT} {te : TE} {fin : List V → Hp → Prop} {σ : St} {H : Hp} (hz : xs.length ≤ sizeLine) (Pv : Nat → List V → Hp → Prop) (h0 : Pv 0 [] H) (hl : ∀ i ys H, i ≤ xs.length → Pv i ys H → ok H)
    (hlen : ∀ i ys H, Pv i ys H → ys.length ≤ i)
    (hs : ∀ i x ys H, xs[i]? = some x → Pv i ys H → tt (some x :: σ) H fun b H3 => if b = true then te (some x :: σ) H3 fun y H4 => (∃ o, some x :: σ = o :: σ) ∧ Pv (i + 1) (ys ++ [y]) H4 else (∃ o, some x :: σ = o :: σ) ∧ Pv (i + 1) ys H3) (hd : ∀ ys H, Pv xs.length ys H → fin ys H) :
    CompW J (gName 0) tt te fin (List.replicate 1 none ++ σ) H := by
  refine ⟨fun i m ys σ' H => m = xs.length - i ∧ i ≤ xs.length ∧ (∃ o, σ' = o :: σ) ∧ Pv i ys H, ⟨xs.length, by simp, Nat.zero_le _, ⟨none, rfl⟩, h0⟩, ?_⟩
  rintro i m ys σ' H ⟨rfl, hi, ⟨o, rfl⟩, p⟩
  have hy := hlen i ys H p
  have q := hl i ys H hi p
  by_cases hlt : i < xs.length
  · refine .inr ⟨w.go i H q hlt, by omega, fun ys' σ' H' => (∃ o, σ' = o :: σ) ∧ Pv (i + 1) ys' H', fun ys' σ' H' p' => ⟨xs.length - (i + 1), by omega, rfl, hlt, p'⟩, fun x H' y => ?_⟩
    obtain ⟨e, y'⟩ := w.yld i H x H' q hlt y
    subst e
    exact hs i x ys _ y' p
  · have e : i = xs.length := by omega
    subst e
    exact .inl ⟨w.stop H q, hd ys H p⟩
end L2
set_option maxHeartbeats 4000000
namespace L2
open PySem PySem.Spec PyProof.Rows
noncomputable def sgn (c : Nat) : V := .str ⟨#[c]⟩
noncomputable def Its (z : Str) : It := ⟨fun i _ => i < z.cps.size, fun i H x H' => H' = H ∧ ∃ c, z.cps[i]? = some c ∧ x = sgn c, fun i _ => i = z.cps.size⟩
section
variable {X : Cx} {tg : Expr}
noncomputable def iStr (tl : TE) : TI := fun σ H R => tl σ H fun x H1 => ∃ z, x = .str z ∧ R (Its z) H1
end
mutual
noncomputable def Rep (K : PySem.W.Frag) (H : Hp) : PyData → V → Prop
  | .none, v => v = .non
  | .bool b, v => v = .bl b
  | .int i, v => v = .int i
  | .str x, v => v = .str x
  | .list ds, v => ∃ a xs, v = .ref a ∧ SqL K H a xs ∧ Reps K H ds xs
  | .tuple ds, v => ∃ a xs, v = .ref a ∧ SqT K H a xs ∧ Reps K H ds xs
  | .dict _, _ => False
noncomputable def Reps (K : PySem.W.Frag) (H : Hp) : List PyData → List V → Prop
  | [], vs => vs = []
  | d :: ds, vs => ∃ v r, vs = v :: r ∧ Rep K H d v ∧ Reps K H ds r
end
section
variable {X : Cx} {pins : List (Addr × Obj)} {σ : St} {H : Hp} {s : Shared}
mutual
theorem Rep.reads (I : Inv X pins σ H s) : ∀ (d : PyData) (v : V) (u : Value), Rep X.K H d v → RelV v u → ∃ as, Reads s.heap u d as
  | .none, v, u, h, r => by
    have e : v = .non := by simpa [Rep] using h
    subst e; cases r; exact ⟨_, .none⟩
  | .bool b, v, u, h, r => by
    have e : v = .bl b := by simpa [Rep] using h
    subst e; cases r; exact ⟨_, .bool b⟩
  | .int i, v, u, h, r => by
    have e : v = .int i := by simpa [Rep] using h
    subst e; obtain ⟨t, rfl⟩ := r; exact ⟨_, .int i t⟩
  | .str x, v, u, h, r => by
    have e : v = .str x := by simpa [Rep] using h
    subst e; obtain ⟨t, rfl⟩ := r; exact ⟨_, .str x t⟩
  | .list ds, v, u, h, r => by
    obtain ⟨a, xs, rfl, hs, hr⟩ : ∃ a xs, v = .ref a ∧ SqL X.K H a xs ∧ Reps X.K H ds xs := by simpa only [Rep] using h
    cases r
    obtain ⟨its, rv, p, hz⟩ := I.list hs
    obtain ⟨o, ho, hc, n, hd⟩ := p.isList
    obtain ⟨as, q⟩ := Reps.reads I ds xs its hr rv
    exact ⟨_, .list ho hc hd (by simpa using q)⟩
  | .tuple ds, v, u, h, r => by
    obtain ⟨a, xs, rfl, hs, hr⟩ : ∃ a xs, v = .ref a ∧ SqT X.K H a xs ∧ Reps X.K H ds xs := by simpa only [Rep] using h
    cases r
    obtain ⟨its, rv, p, hz⟩ := I.tuple hs
    obtain ⟨o, ho, hc, n, hd⟩ := p
    obtain ⟨as, q⟩ := Reps.reads I ds xs its hr rv
    exact ⟨_, .tuple ho hc hd (by simpa using q)⟩
  | .dict _, v, u, h, r => by simp [Rep] at h
theorem Reps.reads (I : Inv X pins σ H s) : ∀ (ds : List PyData) (vs : List V) (us : List Value), Reps X.K H ds vs → Vals vs us → ∃ as, ReadsAll s.heap us ds as
  | [], vs, us, h, r => by
    have e : vs = [] := by simpa [Reps] using h
    subst e; cases r; exact ⟨_, .nil⟩
  | d :: ds, vs, us, h, r => by
    obtain ⟨v, q, rfl, h1, h2⟩ : ∃ v r, vs = v :: r ∧ Rep X.K H d v ∧ Reps X.K H ds r := by simpa only [Reps] using h
    cases r with
    | cons r1 r2 =>
      obtain ⟨as, q1⟩ := Rep.reads I d v _ h1 r1
      obtain ⟨bs, q2⟩ := Reps.reads I ds q _ h2 r2
      exact ⟨_, .cons q1 q2⟩
end
end
section
variable {X : Cx}
noncomputable def rEqD (K : PySem.W.Frag) (neg : Bool) : R2 := fun x y H Q => ∃ d e, Rep K H d x ∧ Rep K H e y ∧ SeqAt.shaped d = true ∧ SeqAt.shaped e = true ∧ Q (.bl (if neg then !PyData.eqv d e else PyData.eqv d e)) H
theorem op_eqD (hu : X.A.units + 64 < cLine) : OpR X (compareOp .Eq) (rEqD X.K false) := by
  intro pins s σ H x y v u Q I rx ry h
  obtain ⟨d, e, h1, h2, h3, h4, q⟩ := h
  obtain ⟨as, q1⟩ := Rep.reads I d x v h1 rx
  obtain ⟨bs, q2⟩ := Rep.reads I e y u h2 ry
  exact eq_dataH q1 q2 h3 h4 hu (fin_bl I q rfl)
theorem op_neD (hu : X.A.units + 64 < cLine) : OpR X (compareOp .NotEq) (rEqD X.K true) := by
  intro pins s σ H x y v u Q I rx ry h
  obtain ⟨d, e, h1, h2, h3, h4, q⟩ := h
  obtain ⟨as, q1⟩ := Rep.reads I d x v h1 rx
  obtain ⟨bs, q2⟩ := Rep.reads I e y u h2 ry
  exact ne_dataH q1 q2 h3 h4 hu (fin_bl I q rfl)
noncomputable def rIsi (K : PySem.W.Frag) : List V → Hp → VK → Prop := fun xs H Q => ∃ x T t b, xs = [x, .ty T] ∧ TyOf K H x t ∧ PySem.W.kitOne K t (.type T) = some b ∧ Q (.bl b) H
theorem call_isi : CallR X (.builtin "isinstance") (rIsi X.K) := by
  intro pins s σ H xs us Q I r h
  obtain ⟨x, T, t, b, rfl, ty, e, q⟩ := h
  obtain ⟨u, c, rfl, ru, rc⟩ := vals2 r
  cases rc
  exact isinst_ok I ru ty e fun tk => ⟨.bl b, H, I.tok _, rfl, q⟩
theorem bools_of : ∀ {bs : List Bool} {us : List Value}, Vals (bs.map V.bl) us → LSm.BoolsAre us bs
  | [], _, .nil => .nil
  | _ :: _, _, .cons r t => by cases r; exact .cons _ (bools_of t)
noncomputable def rAll (K : PySem.W.Frag) (g : List Bool → Bool) : List V → Hp → VK → Prop := fun xs H Q => ∃ a bs, xs = [.ref a] ∧ SqL K H a (bs.map V.bl) ∧ Q (.bl (g bs)) H
theorem call_all (hc : X.calm = true) : CallR X (.builtin "all") (rAll X.K fun bs => bs.all id) := by
  intro pins s σ H xs us Q I r h
  obtain ⟨a, bs, rfl, hs, q⟩ := h
  obtain ⟨u, rfl, ru⟩ := vals1 r
  cases ru
  obtain ⟨its, rv, p, hz⟩ := I.list hs
  have hl := p.isList
  have hb := bools_of rv
  have hlt : a < s.heap.objs.size := by obtain ⟨_, e, _⟩ := hl; exact Heap.lt_size e
  refine call_all_walk (wpAny_pyIter_list hl ?_)
  refine ⟨s.heap.objs.size, [s.heap.objs.size, a], [s.heap.objs.size], its.toArray.size, _, _, fun i => (bs[i]?).getD true, rfl, Walks.list (A := X.A.in1) (I.ok.hd hc) _ a (Nat.ne_of_lt hlt) its.toArray,
    ⟨⟨_, Heap.get?_push_size _ rfl, rfl, rfl⟩, hl.push _⟩, fun i v s' Q' E' hP hQ => ?_, fun h' tk hk => ?_⟩
  · obtain ⟨b, e, rfl⟩ := hb.get i v (by simpa using hP)
    simp only [e, Option.getD_some] at hQ
    exact wpAny_truthy_bool hQ
  · have e : ((List.range its.toArray.size).all fun i => (bs[i]?).getD true) = bs.all id := by
      rw [List.size_toArray, hb.length]; exact LSm.range_all bs
    rw [e]
    exact ⟨.bl (bs.all id), H, I.kept (LSm.kept_iter hk), rfl, q⟩
end
end L2
set_option maxHeartbeats 4000000
namespace L2
open PySem PySem.Spec PyProof.Rows
section
variable {X : Cx}
structure DefOk (K : PySem.W.Frag) (mg : Str → Option Value) (x : Str) (st : Stmt) (ps : List Str) (f : Addr) (fd : FuncData) : Prop where
  F : Fun K x x st f fd
  b : Binds K fd ps []
  m : mg x = some (.ref f)
theorem pvl (i : Nat) {x : Str} {pos : Pos} (hN : X.N[i]? = some x := by rfl) (hv : X.env.scope.names.lookup x = some .local := by rfl) (hd : (x == ("__debug__" : Str)) = false := by decide) (hcd : (x == ("__classdict__" : Str)) = false := by decide) : PE X (.Name x pos) (tVar i) := pe_var hN (.inl hv) hd hcd
theorem pvc (i : Nat) {x : Str} {pos : Pos} (hN : X.N[i]? = some x := by rfl) (hv : X.env.scope.names.lookup x = some .cell := by rfl) (hd : (x == ("__debug__" : Str)) = false := by decide) (hcd : (x == ("__classdict__" : Str)) = false := by decide) : PE X (.Name x pos) (tVar i) := pe_var hN (.inr (.inl hv)) hd hcd
theorem pgl (i : Nat) {x : Str} {pos : Pos} (hN : X.N.Nodup) (hi : X.N[i]? = some x := by rfl) (hv : X.env.scope.names.lookup x = some .local := by rfl) : PG X (.Name x pos) (gName i) := pg_name hN hi (.inl hv) (.inr hv)
theorem psl (i : Nat) {x : Str} {pos pos' : Pos} {e : Expr} {te : TE} (hN : X.N.Nodup) (he : PE X e te) (hi : X.N[i]? = some x := by rfl) (hv : X.env.scope.names.lookup x = some .local := by rfl) (hs : swapsWith e (some (.Name x pos')) pos.line X.env = pure false := by rfl) :
    PS X (.Assign [.Name x pos'] e pos) (tAsg te (gName i)) := ps_set hN hi (.inl hv) he hs (.inr hv)
theorem psc (i : Nat) {x : Str} {pos pos' : Pos} {e : Expr} {te : TE} (hN : X.N.Nodup) (he : PE X e te) (hi : X.N[i]? = some x := by rfl) (hv : X.env.scope.names.lookup x = some .cell := by rfl) (hs : swapsWith e (some (.Name x pos')) pos.line X.env = pure false := by rfl) (hf : X.fn x = true := by rfl) :
    PS X (.Assign [.Name x pos'] e pos) (tAsg te (gName i)) := ps_set hN hi (.inr hv) he hs (.inl hf)
theorem pty {x : Str} {T : String} {pos : Pos} (hm : X.mg x = none) (hv : bootBuiltins x = some (.type T)) (hg : Gl X x := by rfl) (hn : x ≠ "__name__" := by decide) (hd : (x == ("__debug__" : Str)) = false := by decide) : PE X (.Name x pos) (tC (.ty T)) := pe_bltn hg hm hv rfl hn hd
end
theorem Same.new {H H' : Hp} (e : Same H H') {p : Addr} (h : H' p = none) (o : HO) : Same H (upd H' p o) := fun b q z => by
  rw [upd_ne (ne_of_none (e b q z) h)]; exact e b q z
theorem Same.upd_new {H : Hp} {p : Addr} (h : H p = none) (o : HO) : Same H (upd H p o) := (Same.refl H).new h o
theorem Same.set {H H' : Hp} (e : Same H H') {p : Addr} (h : H p = none) (o : HO) : Same H (upd H' p o) := fun b q z => by
  rw [upd_ne (ne_of_none z h)]; exact e b q z
end L2
set_option maxHeartbeats 4000000
namespace L2
open PySem PySem.Spec PyProof.Rows
theorem bt_len : bootBuiltins "len" = some (.builtin "len") := by decide +kernel
theorem bt_all : bootBuiltins "all" = some (.builtin "all") := by decide +kernel
theorem bt_max : bootBuiltins "max" = some (.builtin "max") := by decide +kernel
theorem bt_sum : bootBuiltins "sum" = some (.builtin "sum") := by decide +kernel
theorem bt_isinstance : bootBuiltins "isinstance" = some (.builtin "isinstance") := by decide +kernel
theorem bt_int : bootBuiltins "int" = some (.type "int") := by decide +kernel
theorem bt_bool : bootBuiltins "bool" = some (.type "bool") := by decide +kernel
theorem bt_list : bootBuiltins "list" = some (.type "list") := by decide +kernel
theorem small_line {n : Nat} (h : n ≤ 1000000) : n ≤ sizeLine := by rw [sizeLine_eq]; omega
theorem take_snoc {α : Type} {xs : List α} {i : Nat} {x : α} (h : xs[i]? = some x) : xs.take (i + 1) = xs.take i ++ [x] := by rw [List.take_add_one, h]; rfl
theorem comp_of {α : Type} {J : It} {as : List α} {g : α → V} {ok : Hp → Prop} (w : Walk J (as.map g) ok) {tt : TT} {te : TE} {fin : List V → Hp → Prop} {σ : St} {H : Hp} (hz : as.length ≤ sizeLine) (h0 : ∀ H', Same H H' → ok H') (p : α → Bool) (f : α → V)
    (ht : ∀ a H1 Q, a ∈ as → Same H H1 → (∀ H2, Same H1 H2 → Q (p a) H2) → tt (some (g a) :: σ) H1 Q)
    (he : ∀ a H1 Q, a ∈ as → p a = true → Same H H1 → (∀ H2, Same H1 H2 → Q (f a) H2) → te (some (g a) :: σ) H1 Q)
    (hd : ∀ H', Same H H' → fin ((as.filter p).map f) H') : CompW J (gName 0) tt te fin (none :: σ) H := by
  refine comp_walk w (by rw [List.length_map]; exact hz) (fun i ys H' => Same H H' ∧ ys = ((as.take i).filter p).map f) ⟨Same.refl H, rfl⟩ (fun i ys H' _ q => h0 H' q.1) (fun i ys H' q => ?_) (fun i x ys H' hx q => ?_) (fun ys H' q => ?_)
  · rw [q.2, List.length_map]
    exact Nat.le_trans (List.length_filter_le _ _) (by rw [List.length_take]; omega)
  · obtain ⟨s1, e⟩ := q
    rw [List.getElem?_map] at hx
    cases ha : as[i]? with
    | none => rw [ha] at hx; cases hx
    | some a =>
      rw [ha] at hx
      have hx' : g a = x := Option.some.inj hx
      subst hx'
      have hm : a ∈ as := List.mem_of_getElem? ha
      refine ht a H' _ hm s1 fun H2 s2 => ?_
      cases hp : p a with
      | false =>
        rw [if_neg Bool.false_ne_true]
        exact ⟨⟨_, rfl⟩, s1.trans s2, by rw [e, take_snoc ha, List.filter_append, List.map_append]; simp [hp]⟩
      | true =>
        rw [if_pos rfl]
        exact he a H2 _ hm hp (s1.trans s2) fun H3 s3 => ⟨⟨_, rfl⟩, (s1.trans s2).trans s3, by rw [e, take_snoc ha, List.filter_append, List.map_append]; simp [hp]⟩
  · obtain ⟨s1, e⟩ := q
    rw [e, List.length_map, List.take_length]
    exact hd H' s1
noncomputable def plainTs : List String := ["NoneType", "bool", "int", "str", "list", "tuple", "dict"]
structure Pl (K : PySem.W.Frag) (H : Hp) (x : V) (T : String) : Prop where
  ty : TyOf K H x (.type T)
  mem : T ∈ plainTs
  sz : ∀ z, x = .str z → z.length ≤ sizeLine
noncomputable def isiN (T S : String) : Bool := T == S || (T == "bool" && S == "int")
theorem isi_plain {K : PySem.W.Frag} {T S : String} (hT : T ∈ plainTs) (hS : S ∈ plainTs) : PySem.W.kitOne K (.type T) (.type S) = some (isiN T S) := by
  simp only [plainTs, List.mem_cons, List.not_mem_nil, or_false] at hT hS
  rcases hT with rfl | rfl | rfl | rfl | rfl | rfl | rfl <;> rcases hS with rfl | rfl | rfl | rfl | rfl | rfl | rfl <;> rfl
theorem Pl.of_int {K : PySem.W.Frag} {H : Hp} {i : Int} : Pl K H (.int i) "int" := ⟨.int i, by decide, fun _ e => by cases e⟩
theorem Pl.of_lst {K : PySem.W.Frag} {H : Hp} {a : Addr} {xs : List V} (h : H a = some (.lst xs)) : Pl K H (.ref a) "list" := ⟨.lst h, by decide, fun _ e => by cases e⟩
noncomputable def rIsP (K : PySem.W.Frag) : List V → Hp → VK → Prop := fun xs H Q => ∃ x S T, xs = [x, .ty S] ∧ Pl K H x T ∧ S ∈ plainTs ∧ Q (.bl (isiN T S)) H
theorem call_isP {X : Cx} : CallR X (.builtin "isinstance") (rIsP X.K) := by
  intro pins s σ H xs us Q I r h
  obtain ⟨x, S, T, rfl, p, hS, q⟩ := h
  exact call_isi pins s σ H _ us Q I r ⟨x, S, .type T, _, rfl, p.ty, isi_plain p.mem hS, q⟩
end L2
set_option maxHeartbeats 4000000
namespace L2
open PySem PySem.Spec PyProof.Rows
section
variable {X : Cx}
end
end L2
set_option maxHeartbeats 4000000
namespace L2
open PySem PySem.Spec PyProof.Rows
section
variable {X : Cx} {K : PySem.W.Frag} (e : X.K = K)
include e
theorem k_isP : CallR X (.builtin "isinstance") (rIsP K) := by subst e; exact call_isP
theorem k_all (hc : X.calm = true) : CallR X (.builtin "all") (rAll K fun bs => bs.all id) := by subst e; exact call_all hc
noncomputable def rLenS (K : PySem.W.Frag) : List V → Hp → VK → Prop := fun xs H Q => ∃ p ys, xs = [.ref p] ∧ (SqL K H p ys ∨ SqT K H p ys) ∧ Q (.int ys.length) H
theorem k_len : CallR X (.builtin "len") (rLenS K) := by subst e; exact call_len_seq
noncomputable def rLenV (K : PySem.W.Frag) : List V → Hp → VK → Prop := fun xs H Q => ∃ x n, xs = [x] ∧ LenV K x H n ∧ Q (.int n) H
noncomputable def rListOf (K : PySem.W.Frag) : List V → Hp → VK → Prop := fun xs H Q => ∃ p ys, xs = [.ref p] ∧ (SqL K H p ys ∨ SqT K H p ys) ∧ ∀ l, H l = none → Q (.ref l) (upd H l (.lst ys))
theorem k_list : CallR X (.type "list") (rListOf K) := by subst e; exact call_list_of
noncomputable def rTupleOf (K : PySem.W.Frag) : List V → Hp → VK → Prop := fun xs H Q => ∃ p ys, xs = [.ref p] ∧ ((SqL K H p ys ∧ ∀ l, H l = none → Q (.ref l) (upd H l (.tup ys))) ∨ (SqT K H p ys ∧ Q (.ref p) H))
theorem k_ixL : IxR X (rIxL K) := by subst e; exact ix_list
theorem k_ixT : IxR X (rIxT K) := by subst e; exact ix_tup
theorem k_slL : SlR X (rSlL K) := by subst e; exact sl_list
theorem k_eqD (hu : X.A.units + 64 < cLine) : OpR X (compareOp .Eq) (rEqD K false) := by subst e; exact op_eqD hu
theorem k_neD (hu : X.A.units + 64 < cLine) : OpR X (compareOp .NotEq) (rEqD K true) := by subst e; exact op_neD hu
theorem k_piL {tg l : Expr} {tl : TE} (hl : PE X l tl) : PI X tg l (iList K tl) := by subst e; exact pi_list hl
theorem k_bm {o a : Expr} {es : List Expr} {to : TE} {t : TA} {name : Str} {apos cpos : Pos} {T id : String} {r : V → List V → Hp → VK → Prop} (pa : PlainAttrs T) (slot : Slot T name id) (hty : typeOf (.builtin id) = pure (.type "method_descriptor")) (hm : MtR X id r) (ho : PE X o to) (ha : PA X (a :: es) t)
    (hbase : attributeBase o name X.env (eval o X.env) = eval o X.env := by rfl)
    (hfew : ((backTo cpos (starEach (a :: es) X.env)).all (fun x => !x.1) && (backToKw cpos (keywordEach [] X.env)).all (fun x => x.1.isSome)
      && decide ((a :: es).length + ([] : List Keyword).length + (if ([] : List Keyword).isEmpty then 0 else 1) < 30)) = true := by rfl)
    (hline : (apos.endLine == cpos.line) = true := by rfl) (hs : starEach (a :: es) X.env = (false, eval a X.env) :: starEach es X.env := by rfl) (hplain : (backTo cpos (starEach es X.env)).any (·.1) = false := by rfl) :
    PE X (.Call (.Attribute o name apos) (a :: es) [] cpos) (tBM K T r to t) := by subst e; exact pe_bm pa slot hty hm ho ha hbase hfew hline hs hplain
end
end L2
namespace L2
open PySem PySem.Spec PyProof.Rows
noncomputable def notStar : Expr → Bool
  | .Starred _ _ => false
  | _ => true
theorem star_cons {e : Expr} {es : List Expr} {env : Env} (h : notStar e = true) : starEach (e :: es) env = (false, eval e env) :: starEach es env := by
  cases e <;> first | rfl | cases h
theorem star_none {env : Env} : ∀ {es : List Expr}, es.all notStar = true → (starEach es env).any (·.1) = false
  | [], _ => rfl
  | e :: es, h => by
    rw [List.all_cons, Bool.and_eq_true] at h
    rw [star_cons h.1, List.any_cons, star_none h.2]; rfl
theorem back_none {env : Env} {pos : Pos} {es : List Expr} (h : es.all notStar = true) : (backTo pos (starEach es env)).any (·.1) = false := by
  have := star_none (env := env) h
  unfold backTo
  rw [List.any_map]
  exact this
section
variable {X : Cx} {e : Expr} {es : List Expr} {te : TE} {t : TA}
theorem pal (hn : notStar e = true) (ha : PE X e te) (hr : PA X es t) : PA X (e :: es) (tCons te t) := pa_cons ha hr (star_cons hn)
theorem pe_defL {x : Str} {st : Stmt} {ps : List Str} {f : Addr} {fd : FuncData} {k : Nat} {sp : Sp} {p pos : Pos} (D : DefOk X.K X.mg x st ps f fd) (G : FnOk X.prog X.w X.K X.mg X.base CX0 k f fd ps sp) (hr : Room k X.A)
    (hg : Gl X x) (hdb : (x == ("__debug__" : Str)) = false) (hn : (e :: es).all notStar = true) (ha : PA X (e :: es) t) :
    PE X (.Call (.Name x p) (e :: es) [] pos) (tCall sp [] E0 t) :=
  have h : notStar e = true ∧ es.all notStar = true := by rw [List.all_cons, Bool.and_eq_true] at hn; exact hn
  pe_call G hr hg D.m D.F.kp D.b .nil pass0 ha hdb (star_cons h.1) (back_none h.2)
theorem pe_cB {x : Str} {p pos : Pos} {id : String} {r : List V → Hp → VK → Prop} (hc : CallR X (.builtin id) r) (hm : X.mg x = none) (hv : bootBuiltins x = some (.builtin id)) (hg : Gl X x) (hn : x ≠ "__name__") (hdb : (x == ("__debug__" : Str)) = false)
    (hs : (e :: es).all notStar = true) (ha : PA X (e :: es) t) : PE X (.Call (.Name x p) (e :: es) [] pos) (tCB r t) :=
  have h : notStar e = true ∧ es.all notStar = true := by rw [List.all_cons, Bool.and_eq_true] at hs; exact hs
  pe_callB hc hg hm hv ha hn hdb (star_cons h.1) (back_none h.2)
theorem pe_cTy {x : Str} {p pos : Pos} {T : String} {r : List V → Hp → VK → Prop} (hc : CallR X (.type T) r) (hm : X.mg x = none) (hv : bootBuiltins x = some (.type T)) (hg : Gl X x) (hn : x ≠ "__name__") (hdb : (x == ("__debug__" : Str)) = false)
    (hs : (e :: es).all notStar = true) (ha : PA X (e :: es) t) : PE X (.Call (.Name x p) (e :: es) [] pos) (tCB r t) :=
  have h : notStar e = true ∧ es.all notStar = true := by rw [List.all_cons, Bool.and_eq_true] at hs; exact hs
  pe_callTy hc hg hm hv ha hn hdb (star_cons h.1) (back_none h.2)
theorem back_all {env : Env} {pos : Pos} {es : List Expr} (h : es.all notStar = true) : (backTo pos (starEach es env)).all (fun x => !x.1) = true := by
  have := back_none (env := env) (pos := pos) h
  rw [List.any_eq_false] at this
  rw [List.all_eq_true]
  intro x hx
  have := this x hx
  simpa using this
theorem k_bmL {K : PySem.W.Frag} {o a : Expr} {to : TE} {name : Str} {apos cpos : Pos} {T id : String} {r : V → List V → Hp → VK → Prop} (ek : X.K = K) (pa : PlainAttrs T) (slot : Slot T name id) (hty : typeOf (.builtin id) = pure (.type "method_descriptor")) (hm : MtR X id r)
    (hbase : attributeBase o name X.env (eval o X.env) = eval o X.env) (hs : (a :: es).all notStar = true) (hsz : decide ((a :: es).length + 0 + 0 < 30) = true) (hline : (apos.endLine == cpos.line) = true) (ho : PE X o to) (ha : PA X (a :: es) t) :
    PE X (.Call (.Attribute o name apos) (a :: es) [] cpos) (tBM K T r to t) :=
  have h : notStar a = true ∧ es.all notStar = true := by rw [List.all_cons, Bool.and_eq_true] at hs; exact hs
  k_bm ek pa slot hty hm ho ha hbase (by rw [back_all hs]; exact hsz) hline (star_cons h.1) (back_none h.2)
end
end L2
namespace L2
open PySem PySem.Spec PyProof.Rows
noncomputable def ForW (J : It) (g : TG) (tb : TS) (D : Ends) (σ : St) (H1 : Hp) : Prop := ∃ W : Nat → Nat → St → Hp → Prop, (∃ m, W 0 m σ H1) ∧ ∀ i m σ H, W i m σ H →
  (J.stop i H ∧ D.nx σ H) ∨ (J.go i H ∧ ∃ N : St → Hp → Prop, (∀ σ' H', N σ' H' → ∃ m', m' < m ∧ W (i + 1) m' σ' H') ∧ ∀ x H', J.yld i H x H' → g x σ H' fun σ2 H2 => tb { D with nx := N, ct := N, bk := D.nx } σ2 H2)
theorem for_in {wi : TI} {g : TG} {tb : TS} {D : Ends} {σ : St} {H : Hp} (h : wi σ H fun J H1 => ForW J g tb D σ H1) : tFor wi g tb D σ H := h
theorem ForW.of {g : TG} {tb : TS} {D : Ends} {σ : St} {H : Hp} {J : It} {xs : List V} {ok : Hp → Prop} (w : Walk J xs ok) (Pv : Nat → St → Hp → Prop) (h0 : Pv 0 σ H) (hl : ∀ i σ H, i ≤ xs.length → Pv i σ H → ok H)
    (hs : ∀ i x σ H, xs[i]? = some x → Pv i σ H → g x σ H fun σ2 H2 => tb { D with nx := Pv (i + 1), ct := Pv (i + 1), bk := D.nx } σ2 H2) (hd : ∀ σ H, Pv xs.length σ H → D.nx σ H) : ForW J g tb D σ H := for_walk w Pv h0 hl hs hd
end L2
set_option maxHeartbeats 4000000
namespace L2
open PySem PySem.Spec PyProof.Rows
noncomputable def cutL {α : Type} (xs : List α) (lo hi : Option Int) : List α := (xs.drop (HT.sIx xs.length 0 lo)).take (HT.sIx xs.length xs.length hi - HT.sIx xs.length 0 lo)
section
variable {X : Cx}
noncomputable def rSlS : V → Option Int → Option Int → Hp → VK → Prop := fun x lo hi H Q => ∃ z, x = .str z ∧ z.length ≤ sizeLine ∧ Q (.str ⟨(cutL z.cps.toList lo hi).toArray⟩) H
noncomputable def rFind : V → List V → Hp → VK → Prop := fun x vs H Q => ∃ z y, x = .str z ∧ vs = [.str y] ∧ Q (.int (Txt.find z y)) H
noncomputable def rStarts : V → List V → Hp → VK → Prop := fun x vs H Q => ∃ z y, x = .str z ∧ vs = [.str y] ∧ Q (.bl (Txt.startswith z y)) H
end
end L2
namespace L2
open PySem
theorem range_item {lo : Int} {n i : Nat} {x : V} (h : (rangeV lo n)[i]? = some x) : i < n ∧ x = .int (lo + i) := by
  have hi : i < n := by have := (List.getElem?_eq_some_iff.mp h).1; rwa [rangeV_len] at this
  rw [rangeV_get hi] at h
  cases h
  exact ⟨hi, rfl⟩
end L2
set_option maxHeartbeats 4000000
namespace L2
open PySem PySem.Spec PyProof.Rows PySem.NumText
noncomputable def dgs (m : Nat) : List Nat := (Nat.toDigits 10 m).map Char.toNat
noncomputable def numS (n : Int) : List Nat := if n < 0 then 45 :: dgs n.natAbs else dgs n.natAbs
section
variable {X : Cx}
noncomputable def rIntT : List V → Hp → VK → Prop := fun xs H Q => ∃ z n, xs = [.str z] ∧ intText? z = some n ∧ z.length ≤ 640 ∧ Q (.int n) H
noncomputable def rStrA : List V → Hp → VK → Prop := fun xs H Q => (∃ i, xs = [.int i] ∧ i.natAbs < 10 ^ 100 ∧ Q (.str ⟨(numS i).toArray⟩) H) ∨ ∃ z, xs = [.str z] ∧ Q (.str z) H
end
end L2
namespace L2
open PySem PySem.Spec PyProof.Rows
section
variable {X : Cx}
noncomputable def rRepS : R2 := fun x y H Q => ∃ z n, x = .str z ∧ y = .int n ∧ MulOk z n ∧ Q (.str (Txt.mul z n)) H
end
end L2
namespace L2
open PySem
end L2
set_option maxHeartbeats 1000000
namespace L2
open PySem PySem.Spec PyProof.Rows
noncomputable def Trc (H : Hp) (h G : Heap) (e : Addr) (C : Value) (ed : Option Addr) (fl : Value) : Prop :=
  G.get? e = none ∧ H e = none ∧ ∃ oe vs, h.get? e = some oe ∧ oe.cls = C ∧ oe.dict = ed ∧ oe.data = .fields vs ∧ 1 < vs.size ∧
    ((vs[1]? = some .none ∧ fl = .none) ∨ ∃ T oT ts, vs[1]? = some (.ref T) ∧ G.get? T = none ∧ T ≠ e ∧ H T = none ∧ h.get? T = some oT ∧ oT.data = .fields ts ∧ ts[3]? = some fl)
structure Kp (H : Hp) (G : Heap) (fs : List Addr) (h h' : Heap) : Prop where
  keep : ∀ b o, h.get? b = some o → b ∉ fs → (G.get? b ≠ none ∨ H b ≠ none) → h'.get? b = some o
  slot : ∀ b o, h.get? b = some o → b ∈ fs → ∃ sl, h'.get? b = some { o with slots := sl }
  there : ∀ b o, h.get? b = some o → ∃ o', h'.get? b = some o'
  size : h.objs.size ≤ h'.objs.size
theorem Kp.refl (H : Hp) (G : Heap) (fs : List Addr) (h : Heap) : Kp H G fs h h := ⟨fun _ _ e _ _ => e, fun _ o e _ => ⟨o.slots, e⟩, fun _ o e => ⟨o, e⟩, Nat.le_refl _⟩
section
variable {M : Model} {A : Around} {E : Value → Shared → Prop} {s : Shared} {Q : Unit → Shared → Prop} {base : Heap} {env : Env} {outer : List Env} {L e : Addr} {C : Value} {ed : Option Addr} {G : Heap} {H : Hp}
theorem entry_wp {oe : Obj} {vs : Array Value} {head : Value} {hadNext : Bool} (hfr : A.frames = some (env :: outer)) (hl : s.heap.FunFrames base (env :: outer)) (hf : env.frame = some L)
    (he : s.heap.get? e = some oe) (hd : oe.data = .fields vs) (hsz : 1 < vs.size)
    (h : ∀ h' T oT ts, s.heap.objs.size ≤ T → h'.get? e = some (oe.mapFields (·.setIfInBounds 1 (.ref T))) → h'.get? T = some oT → oT.data = .fields ts → ts[3]? = some (rawInt L) →
      (∀ b o, b ≠ e → s.heap.get? b = some o → b ∉ frs (env :: outer) → h'.get? b = some o) → (∀ b o, b ≠ e → s.heap.get? b = some o → ∃ sl, h'.get? b = some { o with slots := sl }) → s.heap.objs.size ≤ h'.objs.size → Q () { s with heap := h' }) :
    wpAny M A (do let a ← frameOf env; let pl ← entryPlaceOf L hadNext; let b ← EntryCells.newEntry head a .none (rawInt L) .none pl; setField (.ref e) 1 b) Q E s := by
  have hene : e ∉ frs (env :: outer) := fun hm => by
    obtain ⟨_, o, ho, hnf⟩ := hl.mem hm
    rw [he] at ho
    cases ho
    exact hnf vs hd
  refine wpAny_bind (wpAny_frameOf_fun hfr hl hf fun h₁ hs₁ => ?_)
  refine wpAny_bind (wpAny_entryPlaceOf fun pl hpl => ?_)
  unfold EntryCells.newEntry newFields
  refine wpAny_bind (wpAny_newObj_type ?_ (hpl.sizeOk5 _ _ _ _ _))
  have he₁ : h₁.get? e = some oe := (hs₁.2.1 e hene).trans he
  generalize hO : ({ cls := .type "traceback", dict := none, data := .fields ([head, .ref L, .none, rawInt L, .none] ++ (if pl.isEmpty then List.replicate 6 Value.none else pl)).toArray } : Obj) = O
  have he₂ := Heap.get?_push_of_some (h := h₁) O he₁
  have hTe : h₁.objs.size ≠ e := Nat.ne_of_gt (Heap.lt_size he₁)
  refine wpAny_setField he₂ hd hsz (h _ h₁.objs.size O _ (Nat.le_of_eq hs₁.1.symm) (Heap.get?_update_self _ he₂ (Obj.isFreed_of_fields (Obj.data_mapFields hd _))) ?_ (by rw [← hO]) ?_ ?_ ?_ ?_)
  · rw [Heap.get?_update_other _ _ (Ne.symm hTe)]
    exact Heap.get?_push_size h₁ (by rw [← hO]; rfl)
  · first | (simp; done) | (rcases hpl with rfl | ⟨_, _, _, _, _, _, _, rfl⟩ <;> simp)
  · intro b o hb ho hn
    rw [Heap.get?_update_other _ _ (Ne.symm hb)]
    exact Heap.get?_push_of_some _ ((hs₁.2.1 b hn).trans ho)
  · intro b o hb ho
    obtain ⟨sl, e1⟩ := hs₁.2.2 b o ho
    exact ⟨sl, by rw [Heap.get?_update_other _ _ (Ne.symm hb)]; exact Heap.get?_push_of_some _ e1⟩
  · rw [Heap.size_after_update, Heap.size_push, hs₁.1]
    exact Nat.le_succ _
theorem note_wp (hfr : A.frames = some (env :: outer)) (hl : s.heap.FunFrames base (env :: outer)) (hf : env.frame = some L) (hH : ∀ b, s.heap.objs.size ≤ b → H b = none) (hG : ∀ b, s.heap.objs.size ≤ b → G.get? b = none) (t : Trc H s.heap G e C ed .none)
    (h : ∀ h', Trc H h' G e C ed (rawInt L) → h'.FunFrames base (env :: outer) → Kp H G (frs (env :: outer)) s.heap h' → Q () { s with heap := h' }) : wpAny M A (noteFrame (.ref e) env) Q E s := by
  obtain ⟨hn, hHe, oe, vs, he, hc, hdi, hd, hsz, ht⟩ := t
  unfold noteFrame
  simp only [hf]
  have nfr : ∀ b o ws, s.heap.get? b = some o → o.data = .fields ws → b ∉ frs (env :: outer) := fun b o ws ho hw hm => by
    obtain ⟨_, o', ho', hnf⟩ := hl.mem hm
    rw [ho] at ho'
    cases ho'
    exact hnf ws hw
  have fin : ∀ (s1 : Shared) (h' : Heap) (T : Addr) (oT : Obj) (ts : Array Value), s.heap.objs.size ≤ T → h'.get? e = some (oe.mapFields (·.setIfInBounds 1 (.ref T))) → h'.get? T = some oT → oT.data = .fields ts → ts[3]? = some (rawInt L) →
      (∀ b o, s.heap.get? b = some o → b ∉ frs (env :: outer) → (G.get? b ≠ none ∨ H b ≠ none) → h'.get? b = some o) → (∀ b o, s.heap.get? b = some o → (∀ ws, o.data ≠ .fields ws) → ∃ sl, h'.get? b = some { o with slots := sl }) →
      (∀ b o, s.heap.get? b = some o → ∃ o', h'.get? b = some o') → s.heap.objs.size ≤ h'.objs.size → Q () { s with heap := h' } := by
    intro s1 h' T oT ts hT e1 e2 e3 e4 k1 k2 k3 k4
    have le : e < s.heap.objs.size := Heap.lt_size he
    refine h h' ⟨hn, hHe, _, _, e1, by rw [Obj.cls_mapFields]; exact hc, ?_, Obj.data_mapFields hd _, by simpa using hsz, .inr ⟨T, oT, ts, by simp [hsz], hG T hT, Nat.ne_of_gt (Nat.lt_of_lt_of_le le hT), hH T hT, e2, e3, e4⟩⟩ (hl.of_keeps fun b o hb hnf => ?_) ⟨k1, fun b o hb hm => ?_, k3, k4⟩
    · rw [← hdi]
      obtain ⟨c, d, dt, sl⟩ := oe
      cases dt <;> rfl
    · obtain ⟨sl, q⟩ := k2 b o hb hnf
      exact ⟨_, q, rfl⟩
    · obtain ⟨_, o', ho', hnf⟩ := hl.mem hm
      rw [hb] at ho'
      cases ho'
      exact k2 b o hb hnf
  have nee : ∀ b o, s.heap.get? b = some o → (G.get? b ≠ none ∨ H b ≠ none) → b ≠ e := fun b o hb hx z => by
    subst z
    rcases hx with hx | hx
    · exact hx hn
    · exact hx hHe
  rcases ht with ⟨h1, _⟩ | ⟨T, oT, ts, h1, hT, hTe, hHT, gT, hdT, h3⟩
  · refine wpAny_bind (wpAny_field he hd h1 ?_)
    rw [if_neg (by decide)]
    refine entry_wp hfr hl hf he hd hsz fun h' T' oT' ts' q1 q2 q3 q4 q5 q6 q7 q8 => fin s h' T' oT' ts' q1 q2 q3 q4 q5 (fun b o hb hm hx => q6 b o (nee b o hb hx) hb hm) (fun b o hb hnf => q7 b o (fun z => ?_) hb) (fun b o hb => ?_) q8
    · subst z
      rw [he] at hb
      cases hb
      exact hnf vs hd
    · by_cases z : b = e
      · subst z
        exact ⟨_, q2⟩
      · obtain ⟨sl, q⟩ := q7 b o z hb
        exact ⟨_, q⟩
  · refine wpAny_bind (wpAny_field he hd h1 ?_)
    rw [if_pos (show (Value.ref T != Value.none) = true from by simp)]
    refine wpAny_bind (wpAny_field gT hdT h3 ?_)
    rw [if_neg (show ¬ ((Value.none == rawInt L) = true) from by simp [rawInt])]
    refine wpAny_bind (wpAny_setField gT hdT (Array.getElem?_eq_some_iff.mp h3).1 ?_)
    have other : ∀ b, b ≠ T → (s.heap.update T (Obj.mapFields (·.setIfInBounds 3 Value.none))).get? b = s.heap.get? b := fun b hb => Heap.get?_update_other _ _ (Ne.symm hb)
    have self := Heap.get?_update_self (Obj.mapFields (·.setIfInBounds 3 Value.none)) gT (Obj.isFreed_of_fields (Obj.data_mapFields hdT _))
    have neT : ∀ b o, s.heap.get? b = some o → (G.get? b ≠ none ∨ H b ≠ none) → b ≠ T := fun b o hb hx z => by
      subst z
      rcases hx with hx | hx
      · exact hx hT
      · exact hx hHT
    have neF : ∀ b o, s.heap.get? b = some o → (∀ ws, o.data ≠ .fields ws) → b ≠ T := fun b o hb hnf z => by
      subst z
      rw [gT] at hb
      cases hb
      exact hnf ts hdT
    have sz : (s.heap.update T (Obj.mapFields (·.setIfInBounds 3 Value.none))).objs.size = s.heap.objs.size := Heap.size_after_update ..
    refine entry_wp hfr (hl.of_keeps fun b o hb hnf => ⟨o, (other b (neF b o hb hnf)).trans hb, rfl⟩) hf ((other e (Ne.symm hTe)).trans he) hd hsz
      fun h' T' oT' ts' q1 q2 q3 q4 q5 q6 q7 q8 => fin s h' T' oT' ts' (by rw [sz] at q1; exact q1) q2 q3 q4 q5 (fun b o hb hm hx => q6 b o (nee b o hb hx) ((other b (neT b o hb hx)).trans hb) hm)
        (fun b o hb hnf => q7 b o (fun z => ?_) ((other b (neF b o hb hnf)).trans hb)) (fun b o hb => ?_) (by rw [sz] at q8; exact q8)
    · subst z
      rw [he] at hb
      cases hb
      exact hnf vs hd
    · by_cases z : b = e
      · subst z
        exact ⟨_, q2⟩
      · by_cases y : b = T
        · subst y
          obtain ⟨sl, q⟩ := q7 b _ z self
          exact ⟨_, q⟩
        · obtain ⟨sl, q⟩ := q7 b o z ((other b y).trans hb)
          exact ⟨_, q⟩
theorem flight_wp {fl : Value} (hl : s.heap.FunFrames base outer) (t : Trc H s.heap G e C ed fl)
    (h : ∀ h', Trc H h' G e C ed .none → h'.FunFrames base outer → Kp H G [] s.heap h' → (∀ b o, s.heap.get? b = some o → (∀ ws, o.data ≠ .fields ws) → h'.get? b = some o) → Q () { s with heap := h' }) : wpAny M A (setFlight (.ref e) none) Q E s := by
  obtain ⟨hn, hHe, oe, vs, he, hc, hdi, hd, hsz, ht⟩ := t
  unfold setFlight
  rcases ht with ⟨h1, _⟩ | ⟨T, oT, ts, h1, hT, hTe, hHT, gT, hdT, h3⟩
  · refine wpAny_bind (wpAny_field he hd h1 ?_)
    rw [if_neg (by decide)]
    exact wpAny_pure (h s.heap ⟨hn, hHe, oe, vs, he, hc, hdi, hd, hsz, .inl ⟨h1, rfl⟩⟩ hl (Kp.refl ..) fun _ _ e _ => e)
  · have hs3 : 3 < ts.size := (Array.getElem?_eq_some_iff.mp h3).1
    refine wpAny_bind (wpAny_field he hd h1 ?_)
    rw [if_pos (show (Value.ref T != Value.none) = true from by simp)]
    have other : ∀ b, b ≠ T → (s.heap.update T (Obj.mapFields (·.setIfInBounds 3 ((none : Option Addr).elim Value.none fun f => rawInt f)))).get? b = s.heap.get? b := fun b hb => Heap.get?_update_other _ _ (Ne.symm hb)
    have self := Heap.get?_update_self (Obj.mapFields (·.setIfInBounds 3 ((none : Option Addr).elim Value.none fun f => rawInt f))) gT (Obj.isFreed_of_fields (Obj.data_mapFields hdT _))
    refine wpAny_setField gT hdT hs3 (h _ ⟨hn, hHe, oe, vs, (other e (Ne.symm hTe)).trans he, hc, hdi, hd, hsz, .inr ⟨T, _, _, h1, hT, hTe, hHT, self, Obj.data_mapFields hdT _, by simp [hs3]⟩⟩ (hl.of_keeps fun b o hb hnf => ⟨o, (other b fun z => ?_).trans hb, rfl⟩)
      ⟨fun b o hb _ hx => (other b fun z => ?_).trans hb, fun _ _ _ hm => (nomatch hm), fun b o hb => ?_, Nat.le_of_eq (Heap.size_after_update ..).symm⟩ fun b o hb hnf => (other b fun z => ?_).trans hb)
    · subst z
      rw [gT] at hb
      cases hb
      exact hnf ts hdT
    · subst z
      rcases hx with hx | hx
      · exact hx hT
      · exact hx hHT
    · by_cases z : b = T
      · subst z
        exact ⟨_, self⟩
      · exact ⟨o, (other b z).trans hb⟩
    · subst z
      rw [gT] at hb
      cases hb
      exact hnf ts hdT
end
end L2
set_option maxHeartbeats 1000000
namespace L2
open PySem PySem.Spec PyProof.Rows
noncomputable def CXE (P : Program) (w : World) : CXT := fun outer H s E e s' => ∃ a C ed H', e = .ref a ∧ s'.os = s.os ∧ AllBare s'.gens ∧ Un (frs outer) [] H H' s.heap s'.heap ∧ HOk P w H' s'.heap ∧ Trc H' s'.heap s.heap a C ed .none ∧ E C ed H'
theorem Trc.older {H : Hp} {h G G' : Heap} {e : Addr} {C : Value} {ed : Option Addr} {fl : Value} (t : Trc H h G e C ed fl) (hm : ∀ b, G.get? b = none → G'.get? b = none) : Trc H h G' e C ed fl := by
  obtain ⟨hn, hHe, oe, vs, he, hc, hdi, hd, hsz, ht⟩ := t
  refine ⟨hm _ hn, hHe, oe, vs, he, hc, hdi, hd, hsz, ?_⟩
  rcases ht with ht | ⟨T, oT, ts, h1, hT, r⟩
  · exact .inl ht
  · exact .inr ⟨T, oT, ts, h1, hm _ hT, r⟩
theorem get_none {h : Heap} {b : Addr} (hb : h.objs.size ≤ b) : h.get? b = none := Heap.get?_none_of_le hb
theorem Inv.back {X : Cx} {pins : List (Addr × Obj)} {σ : St} {H : Hp} {s : Shared} (I : Inv X pins σ H s) (hex : X.ex = []) (b : Addr) (e : s.heap.get? b = none) : X.s₀.heap.get? b = none := by
  cases q : X.s₀.heap.get? b with
  | none => rfl
  | some o =>
    obtain ⟨o', e'⟩ := I.base.there b o q (by rw [hex]; simp)
    rw [e] at e'; cases e'
structure Cov (X : Cx) (pins : List (Addr × Obj)) (G : Heap) : Prop where
  loc : G.get? X.env.locals ≠ none
  cell : ∀ x c, X.env.cells.lookup x = some c → G.get? c ≠ none
  pin : ∀ p ∈ X.pn ++ pins, G.get? p.1 ≠ none
  old : ∀ b, G.get? b = none → X.s₀.heap.get? b = none
theorem Inv.cov {X : Cx} {pins : List (Addr × Obj)} {σ : St} {H : Hp} {s : Shared} (I : Inv X pins σ H s) (hex : X.ex = []) : Cov X pins s.heap :=
  ⟨by obtain ⟨m, ⟨o, _, _, ho, _⟩, _⟩ := I.loc; rw [ho]; simp, fun x c e => by obtain ⟨v, o, ho, _⟩ := I.cell x c e; rw [ho]; simp, fun p hp => by rw [(I.pin p hp).1]; simp, I.back hex⟩
structure Told (X : Cx) (S : St → Prop) (E : XK) : Prop where
  ex : X.ex = []
  on : ∀ pins σ H s a C ed G, S σ → Inv X pins σ H s → Trc H s.heap G a C ed .none → Cov X pins G → (∀ b, s.heap.get? b = none → G.get? b = none) → E C ed H → X.xe (.ref a) s
theorem Told.passes {X : Cx} {S : St → Prop} {E : XK} (T : Told X S E) {pins : List (Addr × Obj)} {σ : St} {H : Hp} {s s' : Shared} {e : Value} (hS : S σ) (I : Inv X pins σ H s) (h : CXE X.prog X.w X.stack H s E e s') : X.xe e s' := by
  obtain ⟨a, C, ed, H', rfl, os, bare, un, hok, t, q⟩ := h
  have J : Inv X pins σ H' s' := I.call' os un hok bare (fun b z => absurd z (by simp))
  refine T.on pins σ H' s' a C ed s.heap hS J t (I.cov T.ex) (fun b e => ?_) q
  cases z : s.heap.get? b with
  | none => rfl
  | some o =>
    obtain ⟨o', e'⟩ := un.there b o z (by simp)
    rw [e] at e'; cases e'
theorem Kp.hok {P : Program} {w : World} {H : Hp} {G : Heap} {fs : List Addr} {h h' : Heap} (k : Kp H G fs h h') (hf : ∀ b ∈ fs, H b = none) (ok : HOk P w H h) : HOk P w H h' := fun a o e =>
  (ok a o e).stay (fun b u hb q => by
    have hn : H b ≠ none := by
      rcases hb with rfl | hb
      · rw [e]; simp
      · rw [hb]; simp
    exact k.keep b u q (fun z => hn (hf b z)) (.inr hn)) (fun _ q => q) fun _ _ q => q
theorem leave_own {X : Cx} {pins : List (Addr × Obj)} {σ : St} {H : Hp} {s : Shared} {a : Addr} {C : Value} {ed : Option Addr} {E : XK} {E' : Value → Shared → Prop} (hf : X.env.frame = some X.env.locals) (hst : X.stack = X.env :: X.outer) (hex : X.ex = [])
    (I : Inv X pins σ H s) (t : Trc H s.heap X.s₀.heap a C ed .none) (q : E C ed H) :
    wpAny (model X.prog X.w) X.A (leaving X.env (.ref a)) (fun _ s' => CXE X.prog X.w X.outer X.H₀ X.s₀ E (.ref a) s') E' s := by
  have stk : s.heap.FunFrames X.base (X.env :: X.outer) := hst ▸ I.stack
  have sfr : ∀ b ∈ frs (X.env :: X.outer), H b = none := hst ▸ I.stkFree
  unfold leaving
  refine wpAny_bind (note_wp (hst ▸ I.ok.frames) stk hf (fun b hb => I.hok.fresh hb) (fun b hb => I.back hex b (get_none hb)) t fun h1 t1 f1 k1 => ?_)
  refine flight_wp (s := { s with heap := h1 }) (outer := X.env :: X.outer) f1 t1 fun h2 t2 f2 k2 _ => ?_
  have hlt : ∀ b o, X.s₀.heap.get? b = some o → X.s₀.heap.get? b ≠ none := fun b o e => by rw [e]; simp
  have hnl : ∀ b o, X.s₀.heap.get? b = some o → b ≠ X.env.locals := fun b o e => Nat.ne_of_lt (Nat.lt_of_lt_of_le (Heap.lt_size e) I.ok.above)
  have mem : ∀ b, b ∈ frs (X.env :: X.outer) → b = X.env.locals ∨ b ∈ frs X.outer := fun b hb => by
    unfold frs at hb ⊢
    rw [List.filterMap_cons, hf] at hb
    exact List.mem_cons.mp hb
  have mem2 : ∀ b, b ∈ frs X.outer → b ∈ frs (X.env :: X.outer) := fun b hb => by
    unfold frs at hb ⊢
    rw [List.filterMap_cons, hf]
    exact List.mem_cons_of_mem _ hb
  refine ⟨a, C, ed, H, rfl, I.os, I.bare, ⟨fun b o e hn hb _ => ?_, fun b o e hn hb _ => ?_, fun b o e hn _ => ?_, fun b o e _ => ?_, I.base.tups, I.base.frzs, I.base.tbls⟩, k2.hok (fun _ z => absurd z (by simp)) (k1.hok sfr I.hok), t2, q⟩
  · have e1 := I.base.keep b o e hn hb (by rw [hex]; simp)
    have e2 := k1.keep b o e1 (fun z => (mem b z).elim (hnl b o e) hb) (.inl (hlt b o e))
    exact k2.keep b o e2 (by simp) (.inl (hlt b o e))
  · obtain ⟨sl, e1⟩ := I.base.slot b o e hn hb (by rw [hex]; simp)
    obtain ⟨sl', e2⟩ := k1.slot b _ e1 (mem2 b hb)
    exact ⟨sl', k2.keep b _ e2 (by simp) (.inl (hlt b o e))⟩
  · exact I.base.free b o e hn (by rw [hex]; simp)
  · obtain ⟨o1, e1⟩ := I.base.there b o e (by rw [hex]; simp)
    obtain ⟨o2, e2⟩ := k1.there b o1 e1
    exact k2.there b o2 e2
theorem told_cx {P : Program} {w : World} {K : PySem.W.Frag} {mg : Str → Option Value} {base : Heap} {N : List Str} {qual : Str} {scope : Scope} {f : Addr} {cd : Value} {A : Around} {outer : List Env} {s : Shared} {H : Hp} {E : XK} :
    Told (cxOf (CXE P w) P w K mg base N qual scope f cd A outer s H E) (fun _ => True) E := ⟨rfl, fun _ _ _ _ _ _ _ _ _ I t c _ q => leave_own (X := cxOf (CXE P w) P w K mg base N qual scope f cd A outer s H E) rfl rfl rfl I (t.older c.old) q⟩
section
variable {X : Cx} {k : Nat} {f C : Addr} {fd : FuncData} {ps : List Str} {sp : Sp} {x m : Str} {p pos apos : Pos} {e o : Expr} {es : List Expr} {ta : TE} {t : TA} {S : St → Prop} {E : XK}
theorem run_fnX {pins : List (Addr × Obj)} {σ : St} {H : Hp} {s : Shared} {Q : VK} {us : List Value} {vs : List V} (T : Told X S E) (F : FnOk X.prog X.w X.K X.mg X.base (CXE X.prog X.w) k f fd ps sp) (hr : Room k X.A) (hb : Binds X.K fd ps []) (hS : S σ)
    (I : Inv X pins σ H s) (r : Vals vs us) (h : sp vs H Q E) : wpAny (model X.prog X.w) X.A (call (.ref f) us) (EP X pins σ Q) X.xe s := by
  have hl : (us ++ ([] : List Value)).length = ps.length := by rw [List.append_nil, ← r.length]; exact F.len _ _ _ _ h
  have bd := hb s us I.kIn hl
  rw [List.append_nil] at bd
  refine wpAny_call (codeAny_mono (F.run X.A X.stack s H ⟨us, []⟩ us vs Q E hr I.env0 bd r h) fun r s' hq => ?_)
  match r, hq with
  | .error e, hq => exact T.passes hS I hq
  | .ok (.ret u), hq => exact I.after hq
  | .ok .next, hq => exact False.elim hq
  | .ok .brk, hq => exact False.elim hq
  | .ok .cont, hq => exact False.elim hq
noncomputable def tCallX (S : St → Prop) (sp : Sp) (E : XK) (t : TA) : TE := fun σ H Q => t σ H fun vs H1 => S σ ∧ sp vs H1 Q E
theorem pe_defX {st : Stmt} (T : Told X S E) (D : DefOk X.K X.mg x st ps f fd) (G : FnOk X.prog X.w X.K X.mg X.base (CXE X.prog X.w) k f fd ps sp) (hr : Room k X.A)
    (hg : Gl X x) (hdb : (x == ("__debug__" : Str)) = false) (hn : (e :: es).all notStar = true) (ha : PA X (e :: es) t) :
    PE X (.Call (.Name x p) (e :: es) [] pos) (tCallX S sp E t) := by
  have hs : notStar e = true ∧ es.all notStar = true := by rw [List.all_cons, Bool.and_eq_true] at hn; exact hn
  intro pins s σ H Q I h
  refine wpAny_Call_Name_kw (ld_glob I hg D.m ?_ hdb)
  refine PySem.W.callWith_K (h₀ := X.base) I.ok.mod.kin D.F.kp (thn (ha pos pins s σ H _ I h) fun us s1 ⟨vs, H1, I1, r, hS, q⟩ => ⟨I1.kIn, ?_⟩) (star_cons hs.1) (back_none hs.2)
  exact run_fnX T G hr D.b hS I1 r q
end
end L2
set_option maxHeartbeats 1000000
namespace L2
open PySem PySem.Spec PyProof.Rows
noncomputable abbrev vbm : List Value := [.type "ValueError", .type "Exception", .type "BaseException", .type "object"]
theorem ns_any {K : PySem.W.Frag} {h : Heap} {N : Addr} {mg : Str → Option Value} {n : Str} {r : Option Value} (X : K.In h) (G : h.Ns N mg) (e : PySem.W.nsIn K N n = some r) : mg n = r := by
  obtain ⟨o, es, ep, ho, hd, _, hf⟩ := G
  unfold PySem.W.nsIn at e
  split at e
  · rename_i q
    have z := X _ _ q
    rw [ho] at z
    cases z
    cases hd
    rw [← hf]
    unfold nsFind findBy
    rw [← Array.find?_toList]
    split at e
    · rename_i he
      rw [he]
      exact Option.some.inj e
    · rename_i he
      rw [he]
      split at e
      · cases e
      · exact Option.some.inj e
  · cases e
noncomputable def exB (K : PySem.W.Frag) (C : Addr) (ini : Option Value) : Bool := match K.lookup C with
  | some ⟨.type "type", _, .cls cd, sl⟩ => (match cd.mro, sl.toList with
    | .ref C' :: bm, [_, _, _, _, some (.builtin n), _] => C' == C && (n == "ValueError.__new__" && (PySem.W.tailIn K vbm bm && (!cd.hasDel && (PySem.W.nsOkIn K cd.ns && PySem.W.nsIn K cd.ns "__init__" == some ini))))
    | _, _ => false)
  | _ => false
theorem exB_obj {K : PySem.W.Frag} {h : Heap} {C : Addr} {ini : Option Value} (X : K.In h) (q : exB K C ini = true) :
    ∃ nm qn N bs bm hd sn sub ab col dd k0 k1 k2 k3 k5, h.get? C = some (excClassObj nm qn C N bs bm hd sn sub ab col dd k0 k1 k2 k3 k5 "ValueError.__new__") ∧ (∃ mN, h.Ns N mN ∧ mN "__init__" = ini) ∧ OwnTail h vbm bm := by
  unfold exB at q
  split at q
  · rename_i dd cd sl ho
    split at q
    · rename_i C' bm k0 k1 k2 k3 n k5 hm hs
      simp only [Bool.and_eq_true, beq_iff_eq, Bool.not_eq_true'] at q
      obtain ⟨rfl, rfl, ht, hdel, hok, hni⟩ := q
      obtain ⟨nm, bs, mro, ns, qn, hd, sn, sub, ab, col, del⟩ := cd
      obtain ⟨l⟩ := sl
      dsimp only at hm hdel hok hni hs
      subst hm hdel hs
      have hN : h.Ns ns (h.nsMap ns) := .of_isNs (PySem.W.isNs_of_in X hok)
      exact ⟨nm, qn, ns, bs, bm, hd, sn, sub, ab, col, dd, k0, k1, k2, k3, k5, X _ _ ho, ⟨_, hN, ns_any X hN hni⟩, PySem.W.tail_of_in X ht⟩
    · cases q
  · cases q
theorem exB_base {h : Heap} {bm : List Value} (T : OwnTail h vbm bm) : bm.contains (.type "BaseException") = true := T.hasType (by decide)
theorem ObjOk.got {P : Program} {w : World} {H : Hp} {h : Heap} {a : Addr} {o : HO} (x : ObjOk P w H h a o) : ∃ u, h.get? a = some u := by
  cases o with
  | lst xs => obtain ⟨_, _, _, _, e⟩ := x; exact ⟨_, e⟩
  | tup xs => obtain ⟨_, _, _, _, e, _⟩ := x; exact ⟨_, e⟩
  | dK kvs => obtain ⟨_, _, _, _, o, _, _, e, _⟩ := x; exact ⟨_, e⟩
  | dT kvs => obtain ⟨_, _, _, _, o, _, _, e, _⟩ := x; exact ⟨_, e⟩
  | set S n => obtain ⟨o, _, _, _, e, _⟩ := x; exact ⟨_, e⟩
  | ins C dx fs => obtain ⟨_, _, _, e, _⟩ := x; exact ⟨_, e⟩
  | own y => exact x
  | xd fs => obtain ⟨_, ⟨_, _, _, e, _⟩, _⟩ := x; exact ⟨_, e⟩
  | rng lo hi => obtain ⟨_, _, _, e⟩ := x; exact ⟨_, e⟩
  | frz ob u => obtain ⟨e, _⟩ := x; exact ⟨_, e⟩
  | tbl ps => exact ⟨_, (show h.get? a = some _ from x)⟩
  | met f y => exact ⟨_, (show h.get? a = some _ from x)⟩
  | ext φ => obtain ⟨_, e, _⟩ := x; exact e
theorem HOk.unheld {P : Program} {w : World} {H : Hp} {h : Heap} {a : Addr} (x : HOk P w H h) (e : h.get? a = none) : H a = none := by
  cases q : H a with
  | none => rfl
  | some o =>
    obtain ⟨u, e'⟩ := (x a o q).got
    rw [e] at e'; cases e'
theorem made_trc {H : Hp} {h h' G : Heap} {e : Addr} {C : Value} {vs : List Value} (m : Heap.MadeExcOf h h' e C vs) (hG : ∀ b, h.get? b = none → G.get? b = none) (hH : ∀ b, h.get? b = none → H b = none) : Trc H h' G e C none .none := by
  obtain ⟨t, he, _, _⟩ := m.there
  exact ⟨hG e m.new, hH e m.new, _, _, he, rfl, rfl, rfl, Nat.lt_of_sub_eq_succ rfl, .inl ⟨rfl, rfl⟩⟩
section
variable {X : Cx} {e : Expr} {es : List Expr} {t : TA} {S : St → Prop} {E : XK}
noncomputable def tRaise (S : St → Prop) (E : XK) (C : Addr) (t : TA) : TS := fun _ σ H => t σ H fun vs H1 => S σ ∧ vs.length ≤ sizeLine ∧ E (.ref C) none H1
theorem ps_raise {x : Str} {np cpos pos : Pos} {C : Addr} (T : Told X S E) (hcalm : X.calm = true) (q : exB X.K C none = true) (hg : Gl X x) (hm : X.mg x = some (.ref C)) (hdb : (x == ("__debug__" : Str)) = false) (hn : (e :: es).all notStar = true) (ha : PA X (e :: es) t) :
    PS X (.Raise (some (.Call (.Name x np) (e :: es) [] cpos)) none pos) (tRaise S E C t) := by
  intro pins s σ H D I h
  have hs : notStar e = true ∧ es.all notStar = true := by rw [List.all_cons, Bool.and_eq_true] at hn; exact hn
  obtain ⟨nm, qn, N, bs, bm, hd, sn, sub, ab, col, dd, k0, k1, k2, k3, k5, hC, ⟨mN, hN, hni⟩, TL⟩ := exB_obj I.ok.mod.kin q
  have F := PySem.F.excBase_ValueError
  refine wpAny_Raise_call_subU (nm := nm) (q := qn) (C := C) (N := N) (bs := bs) (bm := bm) (hdct := hd) (sn := sn) (sub := sub) (ab := ab) (col := col) (dd := dd) (k0 := k0) (k1 := k1) (k2 := k2) (k3 := k3) (k5 := k5) F (by decide) F (exB_base TL) (I.ok.hd hcalm) (back_none hn) hni (ld_glob I hg hm ⟨rfl, ?_⟩ hdb)
  have hst := star_cons (es := es) (env := X.env) hs.1
  have ha2 := ha cpos pins s σ H _ I h
  rw [hst] at ha2 ⊢
  refine Calls.evalArgs_plain (thn ha2 fun us s1 z => ?_)
  obtain ⟨vs, H1, I1, r, hS, hl, qE⟩ := z
  refine ⟨rfl, by rw [← r.length]; exact hl, I1.bk _ _ hC, hN.keeps I1.bk, TL.keeps I1.bk, fun h' a m => ?_⟩
  have J : Inv X pins σ H1 { s1 with heap := h' } := by
    have := I1.kept (h' := h') (t' := s1.toks) m.keeps
    exact this
  refine T.on pins σ H1 _ a (.ref C) none s1.heap hS J (made_trc m (fun b hb => hb) fun b hb => I1.hok.unheld hb) (I1.cov T.ex) (fun b hb => ?_) qE
  cases z : s1.heap.get? b with
  | none => rfl
  | some o =>
    have := m.keeps b o z
    rw [show h'.get? b = none from hb] at this; cases this
end
end L2
set_option maxHeartbeats 1000000
namespace L2
open PySem PySem.Spec PyProof.Rows
section
variable {X : Cx} {pins : List (Addr × Obj)} {σ : St} {H : Hp} {s : Shared} {G : Heap}
theorem Inv.kp {h' : Heap} (I : Inv X pins σ H s) (c : Cov X pins G) (k : Kp H G (frs X.stack) s.heap h') : Inv X pins σ H { s with heap := h' } := by
  have any : ∀ b o, s.heap.get? b = some o → G.get? b ≠ none → ∃ sl, h'.get? b = some { o with slots := sl } := fun b o e hg => by
    by_cases hb : b ∈ frs X.stack
    · exact k.slot b o e hb
    · exact ⟨o.slots, k.keep b o e hb (.inl hg)⟩
  have hG : ∀ b o, X.s₀.heap.get? b = some o → G.get? b ≠ none := fun b o e z => by
    have := c.old b z
    rw [e] at this; cases this
  have nL : ∀ b o, X.s₀.heap.get? b = some o → b ≠ X.env.locals := fun b o e => Nat.ne_of_lt (Nat.lt_of_lt_of_le (Heap.lt_size e) I.ok.above)
  have cellK : ∀ x cc, X.env.cells.lookup x = some cc → ∀ v, s.heap.IsCell cc v → h'.IsCell cc v := fun x cc e v ⟨o, ho, hd⟩ => by
    obtain ⟨sl, q⟩ := any cc o ho (c.cell x cc e)
    exact ⟨_, q, hd⟩
  refine ⟨I.ok, I.os, I.bare, ⟨fun b o e hn hb hx => ?_, fun b o e hn hb hx => ?_, I.base.free, fun b o e hx => ?_, I.base.tups, I.base.frzs, I.base.tbls⟩, ?_, fun x cc e => ?_, I.free, I.freeC, fun p hp => ?_, k.hok I.stkFree I.hok, I.len⟩
  · exact k.keep b o (I.base.keep b o e hn hb hx) (fun z => (List.mem_cons.mp (I.stkSub b z)).elim (nL b o e) hb) (.inl (hG b o e))
  · obtain ⟨sl, e1⟩ := I.base.slot b o e hn hb hx
    obtain ⟨sl', e2⟩ := any b _ e1 (hG b o e)
    exact ⟨sl', e2⟩
  · obtain ⟨o1, e1⟩ := I.base.there b o e hx
    exact k.there b o1 e1
  · obtain ⟨m, ⟨o, es, ep, ho, r⟩, hl⟩ := I.loc
    obtain ⟨sl, q⟩ := any _ o ho c.loc
    refine ⟨m, ⟨_, es, ep, q, r⟩, fun i x v e1 e2 e3 => ?_⟩
    obtain ⟨u, ru, l⟩ := hl i x v e1 e2 e3
    refine ⟨u, ru, ?_⟩
    rcases l with l | ⟨kk, cc, e, z⟩
    · exact .inl l
    · exact .inr ⟨kk, cc, e, cellK x cc e _ z⟩
  · obtain ⟨v, z⟩ := I.cell x cc e
    exact ⟨v, cellK x cc e v z⟩
  · obtain ⟨e, n, ne, nf, d⟩ := I.pin p hp
    exact ⟨k.keep p.1 p.2 e (fun z => (List.mem_cons.mp (I.stkSub p.1 z)).elim ne nf) (.inl (c.pin p hp)), n, ne, nf, d⟩
theorem Inv.hold {a : Addr} {o : HO} (I : Inv X pins σ H s) (c : Cov X pins G) (ha : G.get? a = none) (hH : H a = none) (ok : ObjOk X.prog X.w (upd H a o) s.heap a o) : Inv X pins σ (upd H a o) s := by
  have ne : ∀ b, G.get? b ≠ none → b ≠ a := fun b h z => by subst z; exact h ha
  have ne2 : ∀ b u, H b = some u → b ≠ a := fun b u h z => by subst z; rw [hH] at h; cases h
  have neo : ∀ b o', X.s₀.heap.get? b = some o' → b ≠ a := fun b o' e z => by
    subst z
    have := c.old b ha
    rw [e] at this; cases this
  refine ⟨I.ok, I.os, I.bare, ⟨I.base.keep, I.base.slot, fun b o' e hn hx => by rw [upd_ne (neo b o' e)]; exact I.base.free b o' e hn hx, I.base.there, fun b xs e => ?_, fun b o' u e => ?_, fun b ps e => ?_⟩, I.loc, I.cell, by rw [upd_ne (ne _ c.loc)]; exact I.free, fun x cc e => by rw [upd_ne (ne _ (c.cell x cc e))]; exact I.freeC x cc e, fun p hp => ?_, fun b u e => ?_, I.len⟩
  · have := I.base.tups b xs e
    rw [upd_ne (ne2 b _ this)]; exact this
  · have := I.base.frzs b o' u e
    rw [upd_ne (ne2 b _ this)]; exact this
  · obtain ⟨m, this⟩ := I.base.tbls b ps e
    exact ⟨m, by rw [upd_ne (ne2 b _ this)]; exact this⟩
  · obtain ⟨e, n, r⟩ := I.pin p hp
    exact ⟨e, by rw [upd_ne (ne _ (c.pin p hp))]; exact n, r⟩
  · by_cases z : b = a
    · subst z
      rw [upd_same] at e
      cases e
      exact ok
    · rw [upd_ne z] at e
      exact (I.hok b u e).stay (fun _ _ _ q => q) (fun d q => by rw [upd_ne (ne2 d _ q)]; exact q) fun d xs q => by rw [upd_ne (ne2 d _ q)]; exact q
theorem name_gone {M : Model} {A : Around} {E : Value → Shared → Prop} {i : Nat} {n : Str} {pos : Pos} {Q : Unit → Shared → Prop} (I : Inv X pins σ H s) (hN : X.N.Nodup) (hi : X.N[i]? = some n) (hk : X.env.scope.names.lookup n = some .local)
    (h : ∀ s', Inv X pins (σ.set i none) H s' → Q () s') : wpAny M A (do bindName X.env n .none; unbindBehindTheSuite X.env n pos) Q E s := by
  refine wpAny_bind (wpAny_bindName (store_ok (v := .non) I hN hi (.inl hk) rfl (fun s1 I1 => ?_) (.inr hk)))
  have hcls : (X.env.scope.kind == .class || (X.env.scope.kind == .module && X.env.locals != X.env.globals)) = false := by rw [I.ok.kind]; rfl
  have hiσ : i < σ.length := by rw [I.len]; exact (List.getElem?_eq_some_iff.mp hi).1
  obtain ⟨m, hn, hl⟩ := id I1.loc
  obtain ⟨u, ru, l⟩ := hl i n .non hi (List.getElem?_set_self hiσ) (.inl hk)
  have hv : m n = some u := by
    rcases l with l | ⟨l, _⟩
    · exact l.2
    · have l2 : X.env.scope.names.lookup n = some .cell ∨ X.env.scope.names.lookup n = some .free := l
      rw [hk] at l2
      rcases l2 with l2 | l2 <;> cases l2
  unfold unbindBehindTheSuite
  refine wpAny_onRaise (wpAny_unbindName_local hk hn hv hcls fun h' u' hn' hs => h _ ?_)
  obtain ⟨oL, _, _, hoL, _⟩ := id hn
  refine ⟨I1.ok, I1.os, I1.bare, ⟨fun b o e n hb hx => ?_, fun b o e n hb hx => ?_, I1.base.free, fun b o e hx => ?_, I1.base.tups, I1.base.frzs, I1.base.tbls⟩, ⟨_, hn', fun j y v' e1 e2 e3 => ?_⟩, fun y c e => ?_, I1.free, I1.freeC, fun p hp => ?_, fun b ob e => ?_, by simpa using I.len⟩
  · exact (hs.2 b (Nat.ne_of_lt (Nat.lt_of_lt_of_le (Heap.lt_size e) I1.ok.above))).trans (I1.base.keep b o e n hb hx)
  · obtain ⟨sl, e1⟩ := I1.base.slot b o e n hb hx
    exact ⟨sl, (hs.2 b (Nat.ne_of_lt (Nat.lt_of_lt_of_le (Heap.lt_size e) I1.ok.above))).trans e1⟩
  · obtain ⟨o', e1⟩ := I1.base.there b o e hx
    exact ⟨o', (hs.2 b (Nat.ne_of_lt (Nat.lt_of_lt_of_le (Heap.lt_size e) I1.ok.above))).trans e1⟩
  · by_cases hj : j = i
    · subst hj
      rw [List.getElem?_set_self hiσ] at e2
      cases e2
    · rw [List.getElem?_set_ne (Ne.symm hj)] at e2
      obtain ⟨w, rw', q⟩ := hl j y v' e1 (by rw [List.getElem?_set_ne (Ne.symm hj)]; exact e2) e3
      refine ⟨w, rw', ?_⟩
      rcases q with ⟨kk, e⟩ | ⟨kk, c, e, z⟩
      · refine .inl ⟨kk, ?_⟩
        have : y ≠ n := fun e => hj (nodup_ix hN e1 (e ▸ hi))
        simp [this, e]
      · exact .inr ⟨kk, c, e, z.sameBut hs (I1.cne y c e)⟩
  · obtain ⟨w', z⟩ := I1.cell y c e
    exact ⟨w', z.sameBut hs (I1.cne y c e)⟩
  · obtain ⟨e, n, ne, nf, d⟩ := I1.pin p hp
    exact ⟨(hs.2 p.1 ne).trans e, n, ne, nf, d⟩
  · refine (I1.hok b ob e).stay (fun c w' hc q => (hs.2 c ?_).trans q) (fun _ q => q) fun _ _ q => q
    rintro rfl
    rcases hc with rfl | hc
    · rw [I1.free] at e; cases e
    · rw [I1.free] at hc; cases hc
end
end L2
set_option maxHeartbeats 1000000
namespace L2
open PySem PySem.Spec PyProof.Rows
noncomputable def ExO (a : Addr) (C : Value) (ed : Option Addr) : HO := .ext fun h => ∃ oe vs, h.get? a = some oe ∧ oe.cls = C ∧ oe.dict = ed ∧ oe.data = .fields vs
theorem exo_ok {P : Program} {w : World} {H : Hp} {h : Heap} {a : Addr} {C : Value} {ed : Option Addr} (x : ∃ oe vs, h.get? a = some oe ∧ oe.cls = C ∧ oe.dict = ed ∧ oe.data = .fields vs) : ObjOk P w H h a (ExO a C ed) :=
  ⟨x, (let ⟨oe, _, e, _⟩ := x; ⟨oe, e⟩), fun h1 h2 ⟨oe, vs, e, r⟩ k => ⟨oe, vs, k oe e, r⟩⟩
noncomputable def Cx.inTry (X : Cx) (pins : List (Addr × Obj)) (W : Value → Shared → Prop) : Cx := { X with xe := W, pn := X.pn ++ pins }
noncomputable def Cx.inHand (X : Cx) (a : Addr) : Cx := { X with A := X.A.mark (some (.ref a)), calm := false, xe := fun _ _ => False }
section
variable {X : Cx} {pins : List (Addr × Obj)} {σ : St} {H : Hp} {s : Shared} {G : Heap} {W : Value → Shared → Prop}
theorem Inv.inTry (I : Inv X pins σ H s) : Inv (X.inTry pins W) [] σ H s :=
  have ok := I.ok
  ⟨⟨ok.mod, ok.kind, ok.glob, ok.blt, ok.above, ok.inj, ok.has, ok.cab, ok.hd, ok.frames, ok.stk, ok.exf, ok.bs, ok.bsz, ok.noex, ok.exfs, ok.funs, ok.frf⟩, I.os, I.bare, I.base, I.loc, I.cell, I.free, I.freeC,
    fun p hp => I.pin p (by rw [List.append_nil] at hp; exact hp), I.hok, I.len⟩
theorem Inv.offTry {pins' : List (Addr × Obj)} (I : Inv (X.inTry pins W) pins' σ H s) : Inv X pins σ H s :=
  have ok := I.ok
  ⟨⟨ok.mod, ok.kind, ok.glob, ok.blt, ok.above, ok.inj, ok.has, ok.cab, ok.hd, ok.frames, ok.stk, ok.exf, ok.bs, ok.bsz, ok.noex, ok.exfs, ok.funs, ok.frf⟩, I.os, I.bare, I.base, I.loc, I.cell, I.free, I.freeC,
    fun p hp => I.pin p (List.mem_append_left _ hp), I.hok, I.len⟩
theorem Cov.offTry {pins' : List (Addr × Obj)} (c : Cov (X.inTry pins W) pins' G) : Cov X pins G := ⟨c.loc, c.cell, fun p hp => c.pin p (List.mem_append_left _ hp), c.old⟩
theorem Inv.inHand {a : Addr} (I : Inv X pins σ H s) : Inv (X.inHand a) pins σ H s :=
  have ok := I.ok
  ⟨⟨ok.mod, ok.kind, ok.glob, ok.blt, ok.above, ok.inj, ok.has, ok.cab, (fun z => nomatch z), ok.frames, ok.stk, ok.exf, ok.bs, ok.bsz, ok.noex, ok.exfs, ok.funs, ok.frf⟩, I.os, I.bare, I.base, I.loc, I.cell, I.free, I.freeC, I.pin, I.hok, I.len⟩
theorem Inv.offHand {a : Addr} (I : Inv (X.inHand a) pins σ H s) (ox : X.Ok) : Inv X pins σ H s := ⟨ox, I.os, I.bare, I.base, I.loc, I.cell, I.free, I.freeC, I.pin, I.hok, I.len⟩
end
noncomputable def tryW (X : Cx) (pins : List (Addr × Obj)) (σ : St) (E : XK) : Value → Shared → Prop := fun e s => ∃ a C ed H G, e = .ref a ∧ Inv X pins σ H s ∧ Trc H s.heap G a C ed .none ∧ Cov X pins G ∧ (∀ b, s.heap.get? b = none → G.get? b = none) ∧ E C ed H
theorem told_try {X : Cx} {pins : List (Addr × Obj)} {σ : St} {E : XK} (hex : X.ex = []) : Told (X.inTry pins (tryW X pins σ E)) (fun σ' => σ' = σ) E :=
  ⟨hex, fun _ _ H _ a C ed G hS I t c hG q => ⟨a, C, ed, H, G, rfl, by subst hS; exact I.offTry, t, c.offTry, hG, q⟩⟩
noncomputable def PH (X : Cx) (hs : List ExceptHandler) (th : Value → Option Addr → TS) : Prop :=
  ∀ (pins : List (Addr × Obj)) (s : Shared) (σ : St) (H : Hp) (D : Ends) (a : Addr) (C : Value) (ed : Option Addr) (G : Heap), Inv X pins σ H s → Trc H s.heap G a C ed .none → Cov X pins G → th C ed D σ H →
    wpAny (model X.prog X.w) X.A (handleBy (.ref a) X.env hs) (SP X pins D) X.xe s
theorem ph_nil {X : Cx} : PH X [] (fun _ _ _ _ _ => False) := fun _ _ _ _ _ _ _ _ _ _ _ _ h => h.elim
noncomputable def subB (K : PySem.W.Frag) (C B : Addr) : Bool := match K.lookup C with
  | some ⟨_, _, .cls cd, _⟩ => cd.mro.contains (.ref B)
  | _ => false
theorem sub_of {K : PySem.W.Frag} {h : Heap} {C B : Addr} {ini : Option Value} {nm qn : Str} {N : Addr} {bs bm : List Value} {hd : Bool} {sn : List Str} {sub : List Value} {ab : Bool} {col : Option Bool} {dd : Option Addr} {k0 k1 k2 k3 k5 : Option Value} {nw : String} (X : K.In h) (q : exB K C ini = true)
    (hC : h.get? C = some (excClassObj nm qn C N bs bm hd sn sub ab col dd k0 k1 k2 k3 k5 nw)) : subB K C B = (Value.ref C :: bm).contains (.ref B) := by
  unfold exB at q
  split at q
  · rename_i ho
    have e := X _ _ ho
    rw [hC] at e
    cases e
    unfold subB
    rw [ho]
  · cases q
theorem match_own {M : Model} {A : Around} {E : Value → Shared → Prop} {h : Heap} {g : Array GenState} {d : Drawn} {t : Nat} {os : OsState} {e C B : Addr} {oe : Obj} {Q : Bool → Shared → Prop}
    {nm qn : Str} {N : Addr} {bs bm : List Value} {hd : Bool} {sn : List Str} {sub : List Value} {ab : Bool} {col : Option Bool} {dd : Option Addr} {k0 k1 k2 k3 k5 : Option Value} {nw : String}
    {nm' qn' : Str} {N' : Addr} {bs' bm' : List Value} {hd' : Bool} {sn' : List Str} {sub' : List Value} {ab' : Bool} {col' : Option Bool} {dd' : Option Addr} {l0 l1 l2 l3 l5 : Option Value} {nw' : String}
    (hC : h.get? C = some (excClassObj nm qn C N bs bm hd sn sub ab col dd k0 k1 k2 k3 k5 nw)) (hB : h.get? B = some (excClassObj nm' qn' B N' bs' bm' hd' sn' sub' ab' col' dd' l0 l1 l2 l3 l5 nw'))
    (he : h.get? e = some oe) (hcls : oe.cls = .ref C) (hbase : bm'.contains (.type "BaseException") = true) (hq : Q ((Value.ref C :: bm).contains (.ref B)) ⟨h, g, d, t, os⟩) : wpAny M A (excMatches (.ref e) (.ref B)) Q E ⟨h, g, d, t, os⟩ := by
  have hcB : (Value.ref B :: bm').contains (.type "BaseException") = true := by rw [List.contains_cons, hbase, Bool.or_true]
  have f := tc_notTuple
  unfold excMatches
  repeat (first | (with_reducible refine wpAny_loadPart_at he ?_; rw [hcls]) | with_reducible refine wpAny_loadPart_at hB ?_ | (with_reducible refine wpAny_isSubtype_exc hB ?_; rw [hcB]) | with_reducible refine wpAny_isSubtype_exc hC ?_ | wp_step)
  cases hb : (Value.ref C :: bm).contains (.ref B) <;> (rw [hb] at hq; wp_walk; exact hq)
end L2
set_option maxHeartbeats 1000000
namespace L2
open PySem PySem.Spec PyProof.Rows
noncomputable def offE (i : Nat) (D : Ends) : Ends := { nx := fun σ H => D.nx (σ.set i none) H, rt := D.rt, bk := fun σ H => D.bk (σ.set i none) H, ct := fun σ H => D.ct (σ.set i none) H }
noncomputable def tAs (K : PySem.W.Frag) (B : Addr) (i : Nat) (ts : TS) (thr : Value → Option Addr → TS) : Value → Option Addr → TS := fun C ed D σ H => ∃ Cc ini b, C = .ref Cc ∧ exB K Cc ini = true ∧ subB K Cc B = b ∧
  if b = true then (∀ a, H a = none → ts (offE i D) (σ.set i (some (.ref a))) (upd H a (ExO a C ed))) else thr C ed D σ H
section
variable {X : Cx}
theorem Kp.wide' {H : Hp} {G : Heap} {h h' : Heap} {fs : List Addr} (k : Kp H G [] h h') (hd : ∀ b ∈ fs, ∀ o, h.get? b = some o → ∃ sl, h'.get? b = some { o with slots := sl }) : Kp H G fs h h' :=
  ⟨fun b o e _ hx => k.keep b o e (by simp) hx, fun b o e hm => hd b hm o e, k.there, k.size⟩
theorem ph_as {x n : Str} {np hpos : Pos} {b₀ : Stmt} {suite : List Stmt} {rest : List ExceptHandler} {ts : TS} {thr : Value → Option Addr → TS} {B : Addr} {i : Nat} {inB : Option Value} (hg : Gl X x) (hm : X.mg x = some (.ref B)) (qB : exB X.K B inB = true) (hdb : (x == ("__debug__" : Str)) = false)
    (hN : X.N.Nodup) (hi : X.N[i]? = some n) (hk : X.env.scope.names.lookup n = some .local) (hsu : ∀ a, PSs (X.inHand a) (b₀ :: suite) ts) (hr : PH X rest thr) :
    PH X (.ExceptHandler (some (.Name x np)) (some n) (b₀ :: suite) hpos :: rest) (tAs X.K B i ts thr) := by
  intro pins s σ H D a C ed G I t c h
  obtain ⟨Cc, ini, b, rfl, q, hb, h⟩ := h
  have Ih : Inv (X.inHand a) pins σ H s := I.inHand
  refine wpAny_handleBy_cons (codeAny_handlers_test (ld_glob (X := X.inHand a) Ih hg hm ?_ hdb)) (by intro z; cases z)
  obtain ⟨_, qn, N, bs, bm, hd, sn, sub, ab, col, dd, k0, k1, k2, k3, k5, hC, _, TL⟩ := exB_obj I.kIn q
  obtain ⟨_, qn', N', bs', bm', hd', sn', sub', ab', col', dd', l0, l1, l2, l3, l5, hB, _, TB⟩ := exB_obj I.kIn qB
  obtain ⟨ha, hHa, oe, vs, he, hcl, hdi, hda, hsz, htb⟩ := id t
  obtain ⟨sh, sg, sd, stk, sos⟩ := s
  refine match_own hC hB he hcl (exB_base TB) ?_
  rw [← sub_of I.kIn q hC, hb]
  cases b with
  | false =>
    rw [if_neg Bool.false_ne_true] at h
    exact hr pins _ σ H D a _ ed G I t c h
  | true =>
    rw [if_pos rfl] at h
    refine codeAny_handlers_suite_as ?_
    refine flight_wp (outer := X.stack) I.stack t fun h1 t1 f1 kp1 kn1 => ?_
    have I1 : Inv X pins σ H { heap := h1, gens := sg, drawn := sd, toks := stk, os := sos } := I.kp c (kp1.wide' fun b hm o e => ?_)
    · have Ia : Inv X pins σ (upd H a (ExO a (.ref Cc) ed)) { heap := h1, gens := sg, drawn := sd, toks := stk, os := sos } := by
        obtain ⟨_, _, oe1, vs1, he1, hcl1, hdi1, hda1, _⟩ := id t1
        exact I1.hold c ha hHa (exo_ok ⟨oe1, vs1, he1, hcl1, hdi1, hda1⟩)
      refine store_ok (X := X.inHand a) (v := .ref a) Ia.inHand hN hi (.inl hk) rfl (fun s2 I2 => ?_) (.inr hk)
      refine wpAny_mono (hsu a pins s2 _ _ _ I2 (h a hHa)) (fun f s3 z => ?_) fun _ _ z => z.elim
      show wpAny _ X.A (do bindName X.env n .none; unbindBehindTheSuite X.env n hpos) _ _ s3
      cases f with
      | next =>
        obtain ⟨σ', H', J, z⟩ := z
        exact name_gone (J.offHand I.ok) hN hi hk fun s4 J4 => ⟨_, H', J4, z⟩
      | brk =>
        obtain ⟨σ', H', J, z⟩ := z
        exact name_gone (J.offHand I.ok) hN hi hk fun s4 J4 => ⟨_, H', J4, z⟩
      | cont =>
        obtain ⟨σ', H', J, z⟩ := z
        exact name_gone (J.offHand I.ok) hN hi hk fun s4 J4 => ⟨_, H', J4, z⟩
      | ret u =>
        obtain ⟨v, σ', H', J, rv, z⟩ := z
        exact name_gone (J.offHand I.ok) hN hi hk fun s4 J4 => ⟨v, _, H', J4, rv, z⟩
    · obtain ⟨_, o', ho', hnf⟩ := I.stack.mem hm
      have e' := ho'.symm.trans e
      cases e'
      exact ⟨o.slots, kn1 b o ho' hnf⟩
noncomputable def tTry (tb : St → XK → TS) (th : Value → Option Addr → TS) : TS := fun D σ H => tb σ (fun C ed H' => th C ed D σ H') D σ H
theorem ps_try {body : List Stmt} {h₀ : ExceptHandler} {hs : List ExceptHandler} {pos : Pos} {tb : St → XK → TS} {th : Value → Option Addr → TS} (hst : X.stack = X.env :: X.outer) (hfr : X.env.frame = some X.env.locals)
    (hb : ∀ (pins : List (Addr × Obj)) (σ : St) (E : XK), PSs (X.inTry pins (tryW X pins σ E)) body (tb σ E)) (hh : PH X (h₀ :: hs) th) : PS X (.Try body (h₀ :: hs) [] [] pos) (tTry tb th) := by
  intro pins s σ H D I h
  refine wpAny_Try_except (wpAny_mono (hb pins σ _ [] s σ H D I.inTry h) (fun f s1 z => ?_) fun e s1 z => ?_)
  · cases f with
    | next =>
      obtain ⟨σ', H', J, z⟩ := z
      exact wpAny_execs_nil ⟨σ', H', J.offTry, z⟩
    | brk =>
      obtain ⟨σ', H', J, z⟩ := z
      exact ⟨σ', H', J.offTry, z⟩
    | cont =>
      obtain ⟨σ', H', J, z⟩ := z
      exact ⟨σ', H', J.offTry, z⟩
    | ret u =>
      obtain ⟨v, σ', H', J, rv, z⟩ := z
      exact ⟨v, σ', H', J.offTry, rv, z⟩
  · obtain ⟨a, C, ed, H', G, rfl, J, t, c, hG, q⟩ := z
    refine note_wp (hst ▸ J.ok.frames) (hst ▸ J.stack) hfr (fun b hb => J.hok.fresh hb) ?_ t fun h1 t1 f1 k1 => ?_
    · exact fun b hb => hG b (get_none hb)
    · have J1 : Inv X pins σ H' { s1 with heap := h1 } := J.kp c (hst ▸ k1)
      refine flight_wp (s := { s1 with heap := h1 }) (outer := X.env :: X.outer) f1 t1 fun h2 t2 f2 k2 kn2 => ?_
      have J2 : Inv X pins σ H' { s1 with heap := h2 } := J1.kp c (k2.wide' fun b hm o e => ?_)
      · exact hh pins _ σ H' D a C ed G J2 t2 c q
      · have fs1 : h1.FunFrames X.base X.stack := hst ▸ f1
        obtain ⟨_, o', ho', hnf⟩ := fs1.mem hm
        have e' := ho'.symm.trans e
        cases e'
        exact ⟨o.slots, kn2 b o ho' hnf⟩
end
end L2
set_option maxHeartbeats 1000000
namespace L2
open PySem PySem.Spec PyProof.Rows
section
variable {prog : Program} {w : World} {A : Around} {E : Value → Shared → Prop} {s : Shared} {K : PySem.W.Frag} {a C : Addr} {ox : Obj} {od : Option Obj} {name : Str}
structure XCls (K : PySem.W.Frag) (C : Addr) : Prop where
  ga : PySem.W.findIn K (.ref C) "__getattribute__" = some (some (.builtin "BaseException.__getattribute__"))
  gh : PySem.W.findIn K (.ref C) "__getattr__" = some none
  base : PySem.W.mroIn K C (.type "BaseException") = some true
  obj : PySem.W.mroIn K C (.type "object") = some true
  hd : PySem.W.hasDictIn K C = true
  cl : PySem.W.findIn K (.ref C) "__class__" = some (some (.builtin "object.__class__"))
  cg : PySem.W.specialIn K (.builtin "object.__class__") "__get__" = some (some (.builtin "getset_descriptor.__get__"))
  ct : PySem.W.takesIn K (.builtin "object.__class__") = some true
theorem xga_call {tk : Tok} {R : Result → Shared → Prop} (c : XCls K C) (X : K.In s.heap) (I : PySem.W.InstAt s.heap a ox C od)
    (h : wpAny (model prog w) A.in1 (Builtin.«object.__getattribute__» ⟨[.ref a, .str name tk], []⟩) (fun fin s' => match fin with | .done f => R (.ok f) s' | .again c' => c'.quiet = true ∧ codeAny (model prog w) A c' R s') (fun e s' => R (.error e) s') s) :
    codeAny (model prog w) A (.call (.builtin "BaseException.__getattribute__") ⟨[.ref a, .str name tk], []⟩) R s := by
  have hi : PySem.W.Looks (model prog w) s.heap (isInstance (.ref a) (.type "BaseException")) true := I.type.andThen (PySem.W.looks_mroIn X c.base)
  have hk : builtinKind "BaseException.__getattribute__" = some .slot := by decide +kernel
  have hs : splitId "BaseException.__getattribute__" = some ("BaseException", "__getattribute__") := by decide +kernel
  refine codeAny_call_builtin PySem.F.attr_ValueError.ga.plain PySem.F.entry_bexc_ga (@PySem.W.check_slot (model prog w) _ _ s "BaseException.__getattribute__" "BaseException" "__getattribute__" (.ref a) [.str name tk] [] _ hk hs hi (PySem.F.args_bexc_ga _ _) ?_)
  exact h
theorem xget_by {tk : Tok} {fill expr : Bool} {v : Value} {Q : Value → Shared → Prop} (c : XCls K C) (X : K.In s.heap) (I : PySem.W.InstAt s.heap a ox C od) (hh : PySem.W.handedIn v = true)
    (h : ∀ R : Result → Shared → Prop, R (.ok (.ret v)) s → codeAny (model prog w) A (.call (.builtin "BaseException.__getattribute__") ⟨[.ref a, .str name tk], []⟩) R s) (q : Q v s) :
    wpAny (model prog w) A (getAttrBy (.ref a) (.str name tk) fill expr) Q E s := by
  obtain ⟨sh, g, d, t, os⟩ := s
  have L0 := I.type (M := model prog w)
  have L1 := PySem.W.looks_findIn (M := model prog w) X c.ga
  have L2 := PySem.W.looks_findIn (M := model prog w) X c.gh
  have f3 := PySem.F.attr_ValueError.ga.bind (.ref a)
  have hx2 : (Value.builtin "BaseException.__getattribute__" == Value.builtin "object.__getattribute__") = false := by decide +kernel
  unfold getAttrBy
  refine wpAny_holding (wpAny_bind (L0.at (wpAny_bind (L1.at ?_))))
  dsimp only
  rw [hx2, Bool.and_false, if_neg Bool.false_ne_true]
  unfold getAttrByItsOwn hookBefore
  refine wpAny_bind ?_
  rw [if_pos (show onTheHeap (Value.ref C) = true from rfl)]
  refine L2.at (wpAny_bind (wpAny_attempt (wpAny_holding ?_)))
  unfold callGetattribute boundAndCalled
  rw [if_neg (by cases expr <;> decide)]
  rw [f3]
  refine wpAny_bind (wpAny_pure (wpAny_call (h _ ?_)))
  show wpAny _ _ (handedOut v) _ _ _
  rw [PySem.W.handedOut_of hh]
  exact wpAny_pure q
theorem xget_class {tk : Tok} {R : Result → Shared → Prop} (c : XCls K C) (X : K.In s.heap) (I : PySem.W.InstAt s.heap a ox C od) (q : R (.ok (.ret (.ref C))) s) :
    codeAny (model prog w) A (.call (.builtin "BaseException.__getattribute__") ⟨[.ref a, .str "__class__" tk], []⟩) R s := by
  have hf : PySem.W.findObj K C od "__class__" = some (.bind (.builtin "getset_descriptor.__get__") (.builtin "object.__class__")) := by
    obtain ⟨cd, hc, _⟩ := PySem.W.any_some c.hd
    unfold PySem.W.findObj
    rw [hc, Option.bind_some, c.cl, Option.bind_some]
    simp [c.cg, c.ct]
  refine xga_call c X I ?_
  obtain ⟨sh, g, d, t, os⟩ := s
  have L0 := I.type (M := model prog w)
  have L1 := PySem.W.looks_find (M := model prog w) X I hf
  unfold Builtin.«object.__getattribute__»
  refine wpAny_bind (wpAny_pure (wpAny_bind (wpAny_pure (wpAny_bind (L0.at (wpAny_bind (L1.at ?_)))))))
  dsimp only
  refine wpAny_bind (wpAny_holding (wpAny_call (PySem.W.class_get (s := ⟨sh, g, d, t, os⟩) X I c.obj ?_)))
  exact wpAny_pure q
end
end L2
set_option maxHeartbeats 1000000
namespace L2
open PySem PySem.Spec PyProof.Rows
section
variable {K : PySem.W.Frag} {a C : Addr}
theorem kitx_exc (c : XCls K C) : PySem.W.KitX K (.ref a) (.ref C) (fun h => ∃ ox od, PySem.W.InstAt h a ox C od) where
  ty := fun _ _ _ ⟨_, _, I⟩ => I.type
  it := fun _ _ X _ => by
    obtain ⟨cd, hc, _⟩ := PySem.W.any_some c.hd
    unfold PySem.W.clsIn at hc
    split at hc
    · rename_i ho
      intro A' Q' E' s' k q
      unfold isType loadHead
      exact wpAny_bind (wpAny_loadPart (k _ _ (X _ _ ho)) (wpAny_pure q))
    · cases hc
  ne := fun h tp dd its n sl X htp => by
    obtain ⟨cd, hc, _⟩ := PySem.W.any_some c.hd
    refine Bool.eq_false_iff.mpr fun q => ?_
    have e : C = tp := Value.ref.inj (beq_iff_eq.mp q)
    subst e
    unfold PySem.W.clsIn at hc
    split at hc
    · rename_i ho
      have z := (X _ _ ho).symm.trans htp
      cases z
    · cases hc
  ca := fun {prog w A E Q s} X p k => by
    obtain ⟨ox, od, I⟩ := p
    unfold getAttr? getAttrBy?
    refine wpAny_bind (wpAny_mkText (wpAny_bind (wpAny_attempt ?_)))
    refine xget_by (s := { s with toks := s.toks + 1 }) c X I rfl (fun R q => xget_class (s := { s with toks := s.toks + 1 }) c X I q) ?_
    exact wpAny_pure k
end
noncomputable def XdOk (H : Hp) (ed : Option Addr) : Prop := ed = none ∨ ∃ dx fs, ed = some dx ∧ H dx = some (.xd fs)
section
variable {P : Program} {w : World} {H : Hp} {h : Heap} {a C : Addr} {ed : Option Addr}
theorem exo_inst (hok : HOk P w H h) (e : H a = some (ExO a (.ref C) ed)) (hd : XdOk H ed) : ∃ ox od, PySem.W.InstAt h a ox C od := by
  obtain ⟨⟨oe, vs, e1, e2, e3, e4⟩, _⟩ := (show ObjOk P w H h a (ExO a (.ref C) ed) from hok a _ e)
  have hn : PySem.W.notCls oe = true := by
    obtain ⟨c, d, dt, sl⟩ := oe
    cases e4
    rfl
  rcases hd with rfl | ⟨dx, fs, rfl, hx⟩
  · exact ⟨oe, none, e1, e2, hn, by rw [e3]; trivial⟩
  · obtain ⟨mA, hns, _⟩ := (show ObjOk P w H h dx (.xd fs) from hok dx _ hx)
    obtain ⟨od, ho, _⟩ := lookIn_ns hns
    exact ⟨oe, some od, e1, e2, hn, by rw [e3]; exact ho⟩
end
section
variable {X : Cx}
noncomputable def rIsX (K : PySem.W.Frag) : List V → Hp → VK → Prop := fun xs H Q => ∃ a C ed b, H a = some (ExO a (.ref C) ed) ∧ XdOk H ed ∧ XCls K C ∧ ((∃ B, xs = [.ref a, .ref B] ∧ PySem.W.kitOne K (.ref C) (.ref B) = some b) ∨ ∃ S, xs = [.ref a, .ty S] ∧ PySem.W.kitOne K (.ref C) (.type S) = some b) ∧ Q (.bl b) H
theorem call_isX : CallR X (.builtin "isinstance") (rIsX X.K) := by
  intro pins s σ H xs us Q I r h
  obtain ⟨a, C, ed, b, e, hd, c, hx, q⟩ := h
  have J := exo_inst I.hok e hd
  rcases hx with ⟨B, rfl, hk⟩ | ⟨S, rfl, hk⟩
  · obtain ⟨u, z, rfl, ru, rz⟩ := vals2 r
    cases (show u = Value.ref a from ru)
    cases (show z = Value.ref B from rz)
    exact PySem.W.kia_one (kitx_exc c) I.kIn J hk (fun z => nomatch z) fun tk => ⟨.bl b, H, I.tok _, rfl, q⟩
  · obtain ⟨u, z, rfl, ru, rz⟩ := vals2 r
    cases (show u = Value.ref a from ru)
    cases rz
    exact PySem.W.kia_one (kitx_exc c) I.kIn J hk (fun z => nomatch z) fun tk => ⟨.bl b, H, I.tok _, rfl, q⟩
theorem k_isX {K : PySem.W.Frag} (e : X.K = K) : CallR X (.builtin "isinstance") (rIsX K) := by subst e; exact call_isX
noncomputable def tXF (K : PySem.W.Frag) (te : TE) (f : Str) : TE := fun σ H Q => te σ H fun x H1 => ∃ a C dx fs v, x = .ref a ∧ H1 a = some (ExO a (.ref C) (some dx)) ∧ H1 dx = some (.xd fs) ∧ XCls K C ∧ NoAttr K C f ∧ fs.lookup f = some v ∧ Q v H1
end
end L2
set_option maxHeartbeats 1000000
namespace L2
open PySem PySem.Spec PyProof.Rows
section
variable {prog : Program} {w : World} {A : Around} {E : Value → Shared → Prop} {h : Heap} {g : Array GenState} {d : Drawn} {t : Nat} {os : OsState} {K : PySem.W.Frag}
variable {nm q : Str} {C N a : Addr} {bs bm : List Value} {sn : List Str} {sub : List Value} {ab : Bool} {col : Option Bool} {dd : Option Addr} {k0 k1 k2 k3 k5 : Option Value} {newId : String} {name : Str} {v : Value} {o : Obj} {vs : Array Value}
end
end L2
set_option maxHeartbeats 1000000
namespace L2
open PySem PySem.Spec PyProof.Rows
noncomputable def ExN (a : Addr) (C : Value) (ed : Option Addr) : HO := .ext fun h => ∃ oe vs, h.get? a = some oe ∧ oe.cls = C ∧ oe.dict = ed ∧ oe.data = .fields vs ∧ 1 < vs.size ∧ vs[1]? = some .none
noncomputable def dropH (H : Hp) (a : Addr) : Hp := fun b => if b = a then none else H b
section
variable {X : Cx} {pins : List (Addr × Obj)} {σ : St} {H : Hp} {s : Shared} {a : Addr}
noncomputable def sXset (K : PySem.W.Frag) (ta tv : TE) (f : Str) : TS := fun D σ H => tv σ H fun y H1 => ta σ H1 fun x H2 => ∃ a C ini, x = .ref a ∧ H2 a = some (ExN a (.ref C) none) ∧ exB K C ini = true ∧ PySem.W.hasDictIn K C = true ∧
  PySem.W.findIn K (.ref C) "__setattr__" = some (some (.builtin "object.__setattr__")) ∧ NoAttr K C f ∧ ∀ dx, H2 dx = none → dx ≠ a → D.nx σ (upd (upd H2 dx (.xd [(f, y)])) a (ExN a (.ref C) (some dx)))
end
end L2
set_option maxHeartbeats 1000000
namespace L2
open PySem PySem.Spec PyProof.Rows
section
variable {prog : Program} {w : World} {A : Around} {E : Value → Shared → Prop} {h : Heap} {g : Array GenState} {d : Drawn} {t : Nat} {os : OsState}
variable {nm qn : Str} {C N : Addr} {bs bm : List Value} {hd : Bool} {sn : List Str} {sub : List Value} {ab : Bool} {col : Option Bool} {dd : Option Addr} {k0 k1 k2 k3 k5 : Option Value}
end
section
variable {X : Cx} {e : Expr} {es : List Expr} {t : TA} {S : St → Prop} {E : XK} {k : Nat} {f C : Addr} {fd : FuncData} {ps : List Str} {sp : Sp}
noncomputable def tRaiseI (S : St → Prop) (E : XK) (C : Addr) (sp : Sp) (t : TA) : TS := fun _ σ H => t σ H fun vs H1 => S σ ∧ vs.length ≤ sizeLine ∧ ∀ a, H1 a = none → sp (.ref a :: vs) (upd H1 a (ExN a (.ref C) none)) (fun v H2 => v = .non ∧ ∃ ed, H2 a = some (ExN a (.ref C) ed) ∧ E (.ref C) ed (dropH H2 a)) E0
end
end L2
set_option maxHeartbeats 1000000
namespace L2
open PySem PySem.Spec PyProof.Rows
section
variable {X : Cx} {k : Nat} {f C : Addr} {fd : FuncData} {ps : List Str} {sp : Sp} {x m : Str} {p pos apos : Pos} {e o : Expr} {es : List Expr} {ta : TE} {t : TA} {S : St → Prop} {E : XK}
noncomputable def tMethX (S : St → Prop) (C : Addr) (m : Str) (sp : Sp) (E : XK) (ta : TE) (t : TA) : TE := fun σ H Q => ta σ H fun x H1 => ∃ a dx fs, x = .ref a ∧ H1 a = some (.ins C dx fs) ∧ fs.lookup m = none ∧ t σ H1 fun vs H2 => S σ ∧ sp (x :: vs) H2 Q E
noncomputable def tMakeX (S : St → Prop) (C : Addr) (sp : Sp) (E : XK) (t : TA) : TE := fun σ H Q => t σ H fun vs H1 => S σ ∧ ∀ x dx, H1 x = none → H1 dx = none → dx ≠ x → sp (.ref x :: vs) (upd (upd H1 dx (.own x)) x (.ins C dx [])) (fun v H2 => v = .non ∧ Q (.ref x) H2) E
end
end L2
set_option maxHeartbeats 1000000
namespace L2
open PySem PySem.Spec PyProof.Rows
structure ExcOk (K : PySem.W.Frag) (mg : Str → Option Value) (x : Str) (c : Addr) (ini : Option Value) : Prop where
  m : mg x = some (.ref c)
  x : exB K c ini = true
  kp : PySem.W.keepIn K (.ref c) = true
  xc : XCls K c
  sa : PySem.W.findIn K (.ref c) "__setattr__" = some (some (.builtin "object.__setattr__"))
theorem exc_mk {K : PySem.W.Frag} {h : Heap} {mg : Str → Option Value} {x : Str} {c : Addr} {ini : Option Value} (X : K.In h) (G : h.Ns mainGlobals mg) (a : PySem.W.nsIn K mainGlobals x = some (some (.ref c))) (e : exB K c ini = true) (kp : PySem.W.keepIn K (.ref c) = true)
    (ga : PySem.W.findIn K (.ref c) "__getattribute__" = some (some (.builtin "BaseException.__getattribute__"))) (gh : PySem.W.findIn K (.ref c) "__getattr__" = some none) (ba : PySem.W.mroIn K c (.type "BaseException") = some true) (ob : PySem.W.mroIn K c (.type "object") = some true) (hd : PySem.W.hasDictIn K c = true)
    (cl : PySem.W.findIn K (.ref c) "__class__" = some (some (.builtin "object.__class__"))) (cg : PySem.W.specialIn K (.builtin "object.__class__") "__get__" = some (some (.builtin "getset_descriptor.__get__"))) (ct : PySem.W.takesIn K (.builtin "object.__class__") = some true)
    (sa : PySem.W.findIn K (.ref c) "__setattr__" = some (some (.builtin "object.__setattr__"))) : ExcOk K mg x c ini := ⟨PySem.W.mg_of X G a, e, kp, ⟨ga, gh, ba, ob, hd, cl, cg, ct⟩, sa⟩
section
variable {X : Cx}
theorem pgcl {x : Str} {c : Addr} {pos : Pos} (hm : X.mg x = some (.ref c)) (hg : Gl X x) (hd : (x == ("__debug__" : Str)) = false) : PE X (.Name x pos) (tC (.ref c)) := pe_glob hg hm rfl hd
end
theorem bt_ValueError : bootBuiltins "ValueError" = some (.type "ValueError") := by decide +kernel
end L2
set_option maxHeartbeats 1000000
namespace L2
open PySem PySem.Spec PyProof.Rows
noncomputable def Ite (K : PySem.W.Frag) (a : Addr) : It where
  go := fun i H => ∃ xs x, SqL K H a xs ∧ xs[i]? = some x
  yld := fun i H y H' => ∃ p x, H p = none ∧ y = .ref p ∧ (∀ ys, SqL K H a ys → ys[i]? = some x) ∧ H' = upd H p (.tup [.int i, x])
  stop := fun i H => ∃ xs, SqL K H a xs ∧ xs.length ≤ i
section
variable {X : Cx}
noncomputable def iEnum (K : PySem.W.Frag) (ta : TA) : TI := fun σ H R => ta σ H fun vs H1 => ∃ a, vs = [.ref a] ∧ (∃ xs, SqL K H1 a xs) ∧ R (Ite K a) H1
end
end L2
set_option maxHeartbeats 4000000
namespace L2
open PySem PySem.Spec PyProof.Rows
section
variable {prog : Program} {w : World} {A : Around} {E : Value → Shared → Prop} {s : Shared} {T : String} {r d : Addr} {n : Nat} {P : Nat → Value → Prop} {OK : Heap → Prop}
end
end L2
namespace L2
open PySem PySem.Spec PyProof.Rows
theorem ints_of_ix : ∀ {us : List Value} {ks : List Int}, us.length = ks.length → (∀ (i : Nat) v k, us[i]? = some v → ks[i]? = some k → ∃ t, v = Value.int k t) → IntsAre us ks
  | [], [], _, _ => .nil
  | [], _ :: _, h, _ => by cases h
  | _ :: _, [], h, _ => by cases h
  | u :: us, k :: ks, h, f => by
    obtain ⟨t, rfl⟩ := f 0 u k rfl rfl
    exact .cons k t (ints_of_ix (by simpa using h) fun i v k' a b => f (i + 1) v k' (by simpa using a) (by simpa using b))
section
variable {X : Cx}
noncomputable def rSortD : List V → Hp → VK → Prop := fun xs H Q => ∃ d kvs, ∃ ks : List Int, xs = [.ref d] ∧ H d = some (.dK kvs) ∧ kvs.map (·.1) = ks.map Sum.inl ∧ kvs.length < 64 ∧
  ∀ p, ∀ ms : List Int, H p = none → ms.Perm ks → ms.Pairwise (· ≤ ·) → Q (.ref p) (upd H p (.lst (ms.map V.int)))
end
end L2
set_option maxHeartbeats 4000000
namespace L2
open PySem PySem.Spec PyProof.Rows
open AutoSeq1 (wpAny_loadPart')
section
variable {prog : Program} {w : World} {A : Around} {E : Value → Shared → Prop} {s : Shared}
end
end L2
namespace L2
open PySem PySem.Spec PyProof.Rows
section
variable {X : Cx}
noncomputable def rDPop : V → List V → Hp → VK → Prop := fun x vs H Q => ∃ d kvs k v, x = .ref d ∧ vs = [kV k] ∧ H d = some (.dK kvs) ∧ valV kvs k = some v ∧ Q v (upd H d (.dK (dropK kvs k)))
end
end L2
set_option maxHeartbeats 4000000
namespace L2
open PySem PySem.Spec PyProof.Rows
section
variable {X : Cx}
noncomputable def rRng : List V → Hp → VK → Prop := fun xs H Q => ∃ n : Int, xs = [.int n] ∧ -(2 ^ 62) ≤ n ∧ n < 2 ^ 62 ∧ ∀ p, H p = none → Q (.ref p) (upd H p (.rng 0 n))
theorem call_rng : CallR X (.type "range") rRng := by
  intro pins s σ H xs us Q I r h
  obtain ⟨n, rfl, q1, q2, q⟩ := h
  obtain ⟨u, rfl, ru⟩ := vals1 r
  obtain ⟨t, rfl⟩ := ru
  refine call_range_1 ?_
  exact ⟨.ref s.heap.objs.size, upd H s.heap.objs.size (.rng 0 n), I.laid (fun b o e => Heap.get?_push_of_some _ e) (Nat.le_refl _) (show ObjOk X.prog X.w _ _ _ (.rng 0 n) from ⟨_, _, _, Heap.get?_push_size _ rfl⟩), rfl, q _ (I.hok.fresh (Nat.le_refl _))⟩
end
end L2
namespace L2
open PySem PySem.Spec PyProof.Rows
theorem bt_range : bootBuiltins "range" = some (.type "range") := by decide +kernel
section
variable {X : Cx} {k : Nat} {f C : Addr} {fd : FuncData} {ps : List Str} {sp : Sp} {x m : Str} {p pos apos : Pos} {e o : Expr} {es : List Expr} {ta : TE} {t : TA}
end
end L2
set_option maxHeartbeats 4000000
namespace L2
open PySem PySem.Spec PyProof.Rows
section
variable {X : Cx}
noncomputable def rIndexS (K : PySem.W.Frag) : V → List V → Hp → VK → Prop := fun x vs H Q => ∃ l, ∃ ns : List Str, ∃ z, ∃ j : Nat, x = .ref l ∧ vs = [.str z] ∧ SqL K H l (ns.map V.str) ∧ ns[j]? = some z ∧ (∀ m, m < j → ns[m]? ≠ some z) ∧ Q (.int j) H
end
end L2
set_option maxHeartbeats 4000000
namespace L2
open PySem PySem.Spec PyProof.Rows
section
variable {M : Model} {A : Around} {E : Value → Shared → Prop} {s : Shared} {Q : Unit → Shared → Prop} {base : Heap} {env : Env} {outer : List Env} {L e : Addr} {C : Value} {ed : Option Addr} {G : Heap} {H : Hp}
end
section
variable {X : Cx} {k : Nat} {f C : Addr} {fd : FuncData} {ps : List Str} {sp : Sp} {x m : Str} {p pos apos : Pos} {e o : Expr} {es : List Expr} {ta : TE} {t : TA} {E : XK}
end
section
variable {X : Cx} {pins : List (Addr × Obj)} {σ : St} {H : Hp} {s : Shared} {W : Value → Shared → Prop}
end
section
variable {X : Cx} {pins : List (Addr × Obj)} {σ : St} {H2 : Hp} {s2 : Shared} {scope : Scope} {own rest : List Str} {cl : List (Str × Addr)} {fp : List Addr} {E : Value → Shared → Prop}
end
section
variable {X : Cx} {pins : List (Addr × Obj)} {σ : St} {H2 : Hp} {s2 : Shared} {scope : Scope} {N' : List Str} {cl : List (Str × Addr)} {fp : List Addr} {C : Addr} {EX : XK} {use : Option (Value → Sem Unit)} {QQ : Value → Shared → Prop} {acc : Value}
end
section
variable {X : Cx} {elt tg iter : Expr} {ifs : List Expr} {scope : Scope} {pos : Pos} {wi : TI} {g : TG} {tt : TT} {te : TE} {EX : XK}
end
end L2
set_option maxHeartbeats 4000000
namespace L2
open PySem PySem.Spec PyProof.Rows
section
variable {prog : Program} {w : World} {A : Around} {R : Result → Shared → Prop} {I : Addr} {fp wr : List Addr} {G : Array GenState → Array GenState → Prop} {n : Nat} {P : Nat → Value → Prop} {St : Nat → Shared → Prop}
variable {α : Type} [DecidableEq α] [BEq α] [LawfulBEq α] {knd : PySem.KeyKind prog w α}
end
section
variable {prog : Program} {w : World} {A : Around} {E : Value → Shared → Prop} {s : Shared}
set_option maxHeartbeats 3200000 in
variable {α : Type} [DecidableEq α] [BEq α] [LawfulBEq α] {knd : PySem.KeyKind prog w α}
end
end L2
set_option maxHeartbeats 4000000
namespace L2
open PySem PySem.Spec PyProof.Rows
section
variable {X : Cx}
end
end L2
set_option maxHeartbeats 4000000
namespace L2
open PySem PySem.Spec PyProof.Rows
section
variable {X : Cx}
end
end L2
set_option maxHeartbeats 4000000
namespace L2
open PySem PySem.Spec PyProof.Rows
section
variable {X : Cx}
noncomputable def tStop : TS := fun _ _ _ => False
theorem refs_eq : ∀ {Bs : List Addr} {its : List Value}, Vals (Bs.map V.ref) its → its = Bs.map Value.ref
  | [], _, r => by cases r; rfl
  | b :: Bs, _, r => by
    cases r with
    | cons h t =>
      cases (show _ = Value.ref b from h)
      rw [refs_eq t]
      rfl
noncomputable def rIsXT (K : PySem.W.Frag) : List V → Hp → VK → Prop := fun xs H Q => ∃ a tp C ed b, ∃ Bs : List Addr, xs = [.ref a, .ref tp] ∧ H a = some (ExO a (.ref C) ed) ∧ XdOk H ed ∧ XCls K C ∧ SqT K H tp (Bs.map V.ref) ∧ PySem.W.kitAny K (.ref C) (Bs.map Value.ref) = some b ∧ Q (.bl b) H
theorem call_isXT : CallR X (.builtin "isinstance") (rIsXT X.K) := by
  intro pins s σ H xs us Q I r h
  obtain ⟨a, tp, C, ed, b, Bs, rfl, e, hd, c, ht, hk, q⟩ := h
  obtain ⟨u, z, rfl, ru, rz⟩ := vals2 r
  cases (show u = Value.ref a from ru)
  cases (show z = Value.ref tp from rz)
  have J := exo_inst I.hok e hd
  obtain ⟨its, r', pl, _⟩ := I.tuple ht
  obtain ⟨⟨tc, td, tdat, tsl⟩, ho, hc, n, hdat⟩ := pl
  simp only at hc hdat
  subst hc; subst hdat
  obtain rfl := refs_eq r'
  exact PySem.W.kia_tup (kitx_exc c) I.kIn J ho hk (fun z => nomatch z) fun tk => ⟨.bl b, H, I.tok _, rfl, q⟩
theorem k_isXT {K : PySem.W.Frag} (e : X.K = K) : CallR X (.builtin "isinstance") (rIsXT K) := by subst e; exact call_isXT
end
end L2
set_option maxHeartbeats 4000000
namespace L2
open PySem PySem.Spec PyProof.Rows
noncomputable def Itz (K : PySem.W.Frag) (a b : Addr) : It where
  go := fun i H => ∃ xs ys x y, SqL K H a xs ∧ SqL K H b ys ∧ xs[i]? = some x ∧ ys[i]? = some y
  yld := fun i H v H' => ∃ p x y, H p = none ∧ v = .ref p ∧ (∀ zs, SqL K H a zs → zs[i]? = some x) ∧ (∀ zs, SqL K H b zs → zs[i]? = some y) ∧ H' = upd H p (.tup [x, y])
  stop := fun i H => ∃ xs ys, SqL K H a xs ∧ SqL K H b ys ∧ (xs.length ≤ i ∨ ys.length ≤ i)
section
variable {X : Cx}
noncomputable def iZip (K : PySem.W.Frag) (ta : TA) : TI := fun σ H R => ta σ H fun vs H1 => ∃ a b, vs = [.ref a, .ref b] ∧ (∃ xs, SqL K H1 a xs) ∧ (∃ ys, SqL K H1 b ys) ∧ R (Itz K a b) H1
end
section
variable {X : Cx}
noncomputable def rGetL (K : PySem.W.Frag) : V → V → Hp → VK → Prop := fun x y H Q => ∃ p xs, ∃ i : Nat, ∃ v, x = .ref p ∧ y = .int i ∧ SqL K H p xs ∧ xs[i]? = some v ∧ Q v H
theorem get_list : PGet X (rGetL X.K) := by
  intro pins s σ H x y v u Q I rx ry h
  obtain ⟨p, xs, i, z, rfl, rfl, hq, he, q⟩ := h
  cases rx
  obtain ⟨t, rfl⟩ := ry
  obtain ⟨its, r, pl, hz⟩ := I.list hq
  obtain ⟨w, ew, rw'⟩ := r.get he
  have hl := r.length
  have hn := line63
  have hi := (List.getElem?_eq_some_iff.mp he).1
  have h63 : (i : Int) < 2 ^ 63 := by omega
  exact wpAny_getItem_list pl.isList (Int.natCast_nonneg _) h63 (by rw [Int.toNat_natCast]; simpa using ew) ⟨z, H, I, rw', q⟩
theorem k_getL {K : PySem.W.Frag} (e : X.K = K) : PGet X (rGetL K) := by subst e; exact get_list
end
end L2
set_option maxHeartbeats 4000000
namespace L2
open PySem PySem.Spec PyProof.Rows
section
variable {prog : Program} {w : World} {A : Around} {E : Value → Shared → Prop} {s : Shared}
end
section
variable {prog : Program} {w : World} {A : Around} {R : Result → Shared → Prop} {I : Addr} {fp wr : List Addr} {G : Array GenState → Array GenState → Prop} {n : Nat} {P : Nat → Value → Prop} {St : Nat → Shared → Prop}
variable {α : Type} [DecidableEq α] {knd : PySem.KeyKind prog w α}
end
section
variable {prog : Program} {w : World} {A : Around} {E : Value → Shared → Prop} {s : Shared} {α : Type} [DecidableEq α] {knd : PySem.KeyKind prog w α}
end
section
variable {X : Cx}
end
end L2
set_option maxHeartbeats 4000000
namespace HT
open PySem PySem.Spec PyProof.Rows L2
end HT
namespace L2
open PySem PySem.Spec PyProof.Rows HT
section
variable {prog : Program} {w : World} {A : Around} {E : Value → Shared → Prop} {s : Shared}
end
section
variable {X : Cx}
end
end L2
set_option maxHeartbeats 4000000
namespace L2
open PySem PySem.Spec PyProof.Rows
section
variable {prog : Program} {w : World} {A : Around} {R : Result → Shared → Prop} {I : Addr} {fp wr : List Addr} {n : Nat} {P : Nat → Value → Prop} {St : Nat → Heap → Prop}
end
section
variable {prog : Program} {w : World} {A : Around} {E : Value → Shared → Prop} {s : Shared}
end
section
variable {prog : Program} {w : World} {A : Around} {R : Result → Shared → Prop} {I : Addr} {fp wr : List Addr} {n : Nat} {P : Nat → Value → Prop} {St : Nat → Heap → Prop}
end
section
variable {prog : Program} {w : World} {A : Around} {E : Value → Shared → Prop} {s : Shared}
end
end L2
set_option maxHeartbeats 4000000
namespace L2
open PySem PySem.Spec PyProof.Rows
section
variable {X : Cx}
theorem int_val {zs : List Int} {its : List Value} {i : Nat} {v : Value} (r : Vals (zs.map V.int) its) (hv : its.toArray[i]? = some v) : i < zs.length ∧ ∃ t, v = .int (zs.getD i 0) t := by
  have hv' : its[i]? = some v := by simpa using hv
  have hm : i < zs.length := by
    have := r.length
    rw [List.length_map] at this
    rw [this]
    exact (List.getElem?_eq_some_iff.mp hv').1
  obtain ⟨u, hu, t, e⟩ := r.get (i := i) (x := V.int zs[i]) (by rw [List.getElem?_map, List.getElem?_eq_getElem hm]; rfl)
  rw [hv'] at hu
  cases hu
  exact ⟨hm, t, by rw [List.getD_eq_getElem?_getD, List.getElem?_eq_getElem hm]; exact e⟩
theorem getD_at {α : Type} {l : List α} {i : Nat} {x d : α} (h : l[i]? = some x) : l.getD i d = x := by rw [List.getD_eq_getElem?_getD, h]; rfl
end
end L2
set_option maxHeartbeats 4000000
namespace L2
open PySem PySem.Spec PyProof.Rows
section
variable {X : Cx}
noncomputable def rSumI (K : PySem.W.Frag) : List V → Hp → VK → Prop := fun xs H Q => ∃ l, ∃ zs : List Int, xs = [.ref l] ∧ SqL K H l (zs.map V.int) ∧ Q (.int (zs.foldl (· + ·) 0)) H
theorem preSum_fold (zs : List Int) : ∀ k, k ≤ zs.length → preSum (fun i => zs.getD i 0) k = (zs.take k).foldl (· + ·) 0
  | 0, _ => rfl
  | k + 1, h => by
    have hk : k < zs.length := h
    show preSum (fun i => zs.getD i 0) k + zs.getD k 0 = _
    rw [preSum_fold zs k (by omega), List.take_add_one, List.getElem?_eq_getElem hk, List.foldl_append, getD_at (List.getElem?_eq_getElem hk)]
    rfl
theorem call_sum (hc : X.calm = true) : CallR X (.builtin "sum") (rSumI X.K) := by
  intro pins s σ H xs us Q I r h
  obtain ⟨l, zs, rfl, hq, q⟩ := h
  obtain ⟨lv, rfl, rl⟩ := vals1 r
  cases (show lv = Value.ref l from rl)
  obtain ⟨its, r', pl, hz⟩ := I.list hq
  have hl := r'.length
  rw [List.length_map] at hl
  obtain ⟨ol, hol, hcl⟩ := id pl.isList
  have ll : l < s.heap.objs.size := Heap.lt_size hol
  refine call_sum_walkAnyS (wpAny_pyIter_list pl.isList ⟨s.heap.objs.size, _, _, _, _, _, _, fun i => zs.getD i 0, rfl, (Walks.list (by simp [I.ok.hd hc]) s.heap.objs.size l (Nat.ne_of_lt ll) its.toArray).toS, ⟨⟨_, Heap.get?_push_size _ rfl, rfl, rfl⟩, pl.isList.push _⟩, ?_, fun i v hv => (int_val r' hv).2, fun s' t' mv => ?_⟩)
  · intro b hb
    rw [Heap.size_push]
    simp only [List.mem_cons, List.not_mem_nil, or_false] at hb
    rcases hb with rfl | rfl
    · exact Nat.lt_succ_self _
    · exact Nat.lt_succ_of_lt ll
  · obtain ⟨h', g', d', tk', os'⟩ := s'
    obtain rfl : g' = s.gens := mv.gens
    obtain rfl : d' = s.drawn := mv.drawn
    obtain rfl : os' = s.os := mv.os
    have e : preSum (fun i => zs.getD i 0) its.toArray.size = zs.foldl (· + ·) 0 := by
      rw [List.size_toArray, ← hl, preSum_fold zs zs.length (Nat.le_refl _), List.take_length]
    rw [e]
    refine ⟨.int _, H, I.kept (t' := tk') fun b o hb => ?_, ⟨_, rfl⟩, q⟩
    refine mv.heap b o ?_ (Heap.get?_push_of_some _ hb)
    simp only [List.mem_cons, List.not_mem_nil, or_false]
    exact Nat.ne_of_lt (Heap.lt_size hb)
theorem k_sumI {K : PySem.W.Frag} (e : X.K = K) (hc : X.calm = true) : CallR X (.builtin "sum") (rSumI K) := by subst e; exact call_sum hc
end
end L2
set_option maxHeartbeats 4000000
namespace L2
open PySem PySem.Spec PyProof.Rows
section
variable {X : Cx}
end
end L2
set_option maxHeartbeats 4000000
namespace L2
open PySem PySem.Spec PyProof.Rows
section
variable {α β : Type} {R S : α → β → Prop} {xs : List α} {ys : List β}
end
noncomputable def SameBut (x : Addr) (H H' : Hp) : Prop := ∀ b o, b ≠ x → H b = some o → H' b = some o
end L2
set_option maxHeartbeats 4000000
namespace L2
open PySem PySem.Spec PyProof.Rows
section
variable {X : Cx} {pins : List (Addr × Obj)} {σ : St} {H2 : Hp} {s2 : Shared} {scope : Scope} {own rest : List Str} {cl : List (Str × Addr)} {fp : List Addr} {C : Nat}
end
section
variable {X : Cx} {pins : List (Addr × Obj)} {σ : St} {H2 : Hp} {s2 : Shared} {scope : Scope} {own rest : List Str} {cl : List (Str × Addr)} {fp : List Addr} {E : Value → Shared → Prop}
end
section
variable {X : Cx} {elt tg iter : Expr} {ifs : List Expr} {scope : Scope} {pos : Pos} {wi : TI} {g : TG} {tt : TT} {te : TE}
end
noncomputable def BB : Int := 2 ^ 250
theorem BB_nat : BB = ((2 ^ 250 : Nat) : Int) := by unfold BB; norm_cast
theorem natAbs_BB {j : Int} (h1 : -BB < j) (h2 : j < BB) : j.natAbs < 2 ^ 250 := by
  rw [BB_nat] at h1 h2
  generalize (2 ^ 250 : Nat) = N at *
  omega
section
variable {X : Cx}
theorem op_fdivB : OpR X (binaryOp .FloorDiv) (rI (fun _ j => 0 < j ∧ j < BB) fun i j => .int (i / j)) := opI fun i j _ _ _ _ _ hc q => by
  have h1 : (0 : Int) < j := hc.1
  have h0 : (0 : Int) ≤ BB := by rw [BB_nat]; exact Int.natCast_nonneg _
  have h2 : j.natAbs < 2 ^ 250 := natAbs_BB (by omega) hc.2
  refine floordiv_int (by omega) (by rw [Int.fdiv_eq_ediv_of_nonneg i (by omega)]; exact q) (.inl (PyProof.noPylong_of_log2 ?_))
  exact Nat.lt_trans ((Nat.log2_lt (by omega)).mpr h2) (by decide)
theorem op_mulB : OpR X (binaryOp .Mult) (rI (fun i j => (-BB < i ∧ i < BB) ∧ -BB < j ∧ j < BB) fun i j => .int (i * j)) := opI fun i j _ _ _ _ _ hc q =>
  mul_int q (.of_bits (Nat.le_trans (intBits_le (natAbs_BB hc.1.1 hc.1.2)) (by decide)) (Nat.le_trans (intBits_le (natAbs_BB hc.2.1 hc.2.2)) (by decide)))
end
end L2
set_option maxHeartbeats 4000000
namespace L2
open PySem PySem.Spec PyProof.Rows
section
variable {X : Cx}
end
structure ExcM (mg : Str → Option Value) (n : Str) (a : Addr) : Prop where
  m : mg n = some (.ref a)
end L2
set_option maxHeartbeats 4000000
namespace L2
open PySem PySem.Spec PyProof.Rows PySem.W
noncomputable def kasEval {α : Type} (c : Nat → Nat → Bool) : KasT α → α
  | .ret a => a
  | .ask i j k => kasEval c (k (c i j))
noncomputable def Ih {α : Type} (n : Nat) : KasT α → (α → Prop) → Prop
  | .ret a, P => P a
  | .ask i j k, P => i < n ∧ j < n ∧ ∀ b, Ih n (k b) P
theorem Ih.bind {α β : Type} {n : Nat} {f : α → KasT β} {P : α → Prop} {R : β → Prop} : ∀ {t : KasT α}, Ih n t P → (∀ a, P a → Ih n (f a) R) → Ih n (t.bind f) R
  | .ret a, h, hf => hf a h
  | .ask i j k, h, hf => ⟨h.1, h.2.1, fun b => Ih.bind (h.2.2 b) hf⟩
theorem ih_eval {α : Type} {n : Nat} {P : α → Prop} (c : Nat → Nat → Bool) : ∀ t : KasT α, Ih n t P → P (kasEval c t)
  | .ret a, h => h
  | .ask i j k, h => ih_eval c (k (c i j)) (h.2.2 (c i j))
theorem kasWp_of {α : Type} {n : Nat} {P : α → Prop} {cmp : Nat → Nat → (Bool → Shared → Prop) → Shared → Prop} {c : Nat → Nat → Bool} {s : Shared} (hc : ∀ i j C, i < n → j < n → C (c i j) s → cmp i j C s) {Q : α → Shared → Prop} : ∀ {t : KasT α}, Ih n t P → Q (kasEval c t) s → t.kasWp cmp Q s
  | .ret _, _, h => h
  | .ask i j k, ih, h => hc i j _ ih.1 ih.2.1 (kasWp_of hc (ih.2.2 (c i j)) h)
section
variable {n : Nat}
noncomputable def Pl0 (n : Nat) (p : Array Nat) : Prop := p.Perm (List.toArray (List.range n))
theorem Pl0.lt (hn : 0 < n) {p : Array Nat} (h : Pl0 n p) (k : Nat) : p.getD k 0 < n := by
  by_cases hk : k < p.size
  · have e : p.getD k 0 = p[k] := by simp [Array.getD, hk]
    rw [e]
    have hm : p[k] ∈ p.toList := by simp
    have := (Array.perm_iff_toList_perm.mp h).mem_iff.mp hm
    simpa using this
  · have e : p.getD k 0 = 0 := by simp [Array.getD, hk]
    rw [e]
    exact hn
theorem Pl0.rev {p : Array Nat} (h : Pl0 n p) (i j : Nat) : Pl0 n (kas_rev p i j) := (mirror_perm _ _ _ _).trans h
theorem Pl0.bub {p : Array Nat} (h : Pl0 n p) (i j : Nat) : Pl0 n (bubble p i j) := (bubble_perm _ _ _).trans h
theorem ih_asc (hn : 0 < n) {p : Array Nat} (h : Pl0 n p) : ∀ f m, Ih n (kas_asc p f m) fun _ => True
  | 0, m => trivial
  | f + 1, m => ⟨h.lt hn _, h.lt hn _, fun b => by
    cases b with
    | true => exact trivial
    | false => exact ih_asc hn h f (m + 1)⟩
theorem ih_desc (hn : 0 < n) : ∀ (f : Nat) (p : Array Nat) (m q : Nat), Pl0 n p → Ih n (kas_desc f p m q) fun r => Pl0 n r.1
  | 0, p, m, q, h => h
  | f + 1, p, m, q, h => ⟨h.lt hn _, h.lt hn _, fun b => by
    cases b with
    | true =>
      show Ih n (if q > 0 then _ else _) _
      split
      · exact ih_desc hn f _ _ _ (h.rev _ _)
      · exact ih_desc hn f _ _ _ h
    | false => exact ⟨h.lt hn _, h.lt hn _, fun d => by
        cases d with
        | true => exact h
        | false => exact ih_desc hn f _ _ _ h⟩⟩
theorem ih_tail3 (hn : 0 < n) (m nrem : Nat) {p : Array Nat} (h : Pl0 n p) : Ih n (kas_tail3 m nrem p) fun r => Pl0 n r.2 :=
  Ih.bind (ih_asc hn (h.rev 0 m) _ _) fun _ _ => h.rev 0 m
theorem ih_descPart (hn : 0 < n) (m nrem : Nat) {p : Array Nat} (h : Pl0 n p) : Ih n (kas_descPart m nrem p) fun r => Pl0 n r.2 :=
  Ih.bind (ih_desc hn _ p _ _ h) fun r hr => by
    split
    · exact ih_tail3 hn _ _ (hr.rev _ _)
    · exact ih_tail3 hn _ _ hr
theorem ih_count (hn : 0 < n) (nrem : Nat) {p : Array Nat} (h : Pl0 n p) : Ih n (kas_count nrem p) fun r => Pl0 n r.2 :=
  Ih.bind (ih_asc hn h _ _) fun m _ => by
    split
    · exact h
    · split
      · exact ⟨h.lt hn _, h.lt hn _, fun b => by
          cases b with
          | true => exact h
          | false => exact ih_descPart hn _ _ (h.rev _ _)⟩
      · exact ih_descPart hn _ _ h
theorem ih_place (hn : 0 < n) {p : Array Nat} (h : Pl0 n p) (k : Nat) : ∀ f l r, Ih n (kas_place p k f l r) fun _ => True
  | 0, l, r => trivial
  | f + 1, l, r => by
    unfold kas_place
    split
    · exact trivial
    · exact ⟨h.lt hn _, h.lt hn _, fun b => by
        cases b with
        | true => exact ih_place hn h k f _ _
        | false => exact ih_place hn h k f _ _⟩
theorem ih_bin (hn : 0 < n) : ∀ (f : Nat) (p : Array Nat) (k : Nat), Pl0 n p → Ih n (kas_bin f p k) (Pl0 n)
  | 0, p, k, h => h
  | f + 1, p, k, h => Ih.bind (ih_place hn h k _ _ _) fun l _ => ih_bin hn f _ _ (h.bub _ _)
theorem ih_sort (hn : 0 < n) : Ih n (kas_sort n) (Pl0 n) :=
  Ih.bind (ih_count hn n (Array.Perm.refl _)) fun r hr => by
    split
    · exact ih_bin hn _ _ _ hr
    · exact hr
end
section
variable {prog : Program} {w : World} {A : Around} {E : Value → Shared → Prop} {s : Shared}
end
section
variable {X : Cx}
end
end L2
set_option maxHeartbeats 4000000
namespace L2
open PySem PySem.Spec PyProof.Rows PySem.W
noncomputable abbrev cR (r : Nat → Int) : Nat → Nat → Bool := fun i j => decide (r i < r j)
noncomputable def Lx (r : Nat → Int) (i j : Nat) : Prop := r i < r j ∨ (r i = r j ∧ i < j)
noncomputable abbrev gP (p : Array Nat) (k : Nat) : Nat := p.getD k 0
theorem eval_bind {α β : Type} (c : Nat → Nat → Bool) (f : α → KasT β) : ∀ t : KasT α, kasEval c (t.bind f) = kasEval c (f (kasEval c t))
  | .ret _ => rfl
  | .ask i j k => eval_bind c f (k (c i j))
theorem gP_eq (p : Array Nat) (k : Nat) : gP p k = (p[k]?).getD 0 := by unfold gP; simp [Array.getD_eq_getD_getElem?]
theorem rev_get {p : Array Nat} {i j : Nat} (hj : j ≤ p.size) (k : Nat) : gP (kas_rev p i j) k = if i ≤ k ∧ k < j then gP p (i + j - 1 - k) else gP p k := by
  rw [gP_eq, gP_eq, gP_eq]
  unfold kas_rev
  rw [getElem?_mirror_all hj]
  by_cases q : i ≤ k ∧ k < j
  · rw [if_pos q, if_pos q]
  · rw [if_neg q, if_neg q]
theorem bub_get {p : Array Nat} {src d : Nat} (hs : src < p.size) (hd : d ≤ src) (k : Nat) : gP (bubble p src d) k = if k = src - d then gP p src else if src - d < k ∧ k ≤ src then gP p (k - 1) else gP p k := by
  rw [gP_eq, gP_eq, gP_eq, gP_eq, getElem?_bubble hs d hd]
  by_cases q : k = src - d
  · rw [if_pos q, if_pos q]
  · rw [if_neg q, if_neg q]
    by_cases q2 : src - d < k ∧ k ≤ src
    · rw [if_pos q2, if_pos q2]
    · rw [if_neg q2, if_neg q2]
structure Pre (N : Nat) (p : Array Nat) (n : Nat) : Prop where
  size : p.size = N
  le : n ≤ N
  rest : ∀ k, n ≤ k → k < N → gP p k = k
  below : ∀ k, k < n → gP p k < n
theorem Pre.ext {N n : Nat} {p : Array Nat} (h : Pre N p n) (hn : n < N) : Pre N p (n + 1) :=
  ⟨h.size, hn, fun k h1 h2 => h.rest k (by omega) h2, fun k hk => by
    by_cases e : k < n
    · have := h.below k e; omega
    · have : k = n := by omega
      subst this
      rw [h.rest k (Nat.le_refl _) hn]; omega⟩
theorem Pre.rev {N n i j : Nat} {p : Array Nat} (h : Pre N p n) (hj : j ≤ n) : Pre N (kas_rev p i j) n := by
  have hz : j ≤ p.size := by rw [h.size]; have := h.le; omega
  refine ⟨by unfold kas_rev; rw [mirror_size]; exact h.size, h.le, fun k h1 h2 => ?_, fun k hk => ?_⟩
  · rw [rev_get hz, if_neg (by omega)]; exact h.rest k h1 h2
  · rw [rev_get hz]
    split
    · exact h.below _ (by omega)
    · exact h.below k hk
noncomputable def SrtL (r : Nat → Int) (p : Array Nat) (n : Nat) : Prop := ∀ a b, a < b → b < n → Lx r (gP p a) (gP p b)
noncomputable def SrtR (r : Nat → Int) (p : Array Nat) (n : Nat) : Prop := ∀ a b, a < b → b < n → Lx r (gP p b) (gP p a)
theorem Lx.le {r : Nat → Int} {i j : Nat} (h : Lx r i j) : r i ≤ r j := by
  rcases h with h | ⟨h, _⟩ <;> omega
theorem SrtR.turn {N n : Nat} {r : Nat → Int} {p : Array Nat} (h : SrtR r p n) (hp : Pre N p n) : SrtL r (kas_rev p 0 n) n := fun a b hab hb => by
  have hz : n ≤ p.size := by rw [hp.size]; exact hp.le
  rw [rev_get hz, rev_get hz, if_pos ⟨Nat.zero_le _, by omega⟩, if_pos ⟨Nat.zero_le _, hb⟩]
  exact h _ _ (by omega) (by omega)
theorem asc_ok {N : Nat} {r : Nat → Int} {p : Array Nat} : ∀ (f n : Nat), 1 ≤ n → n + f ≤ N → Pre N p n → SrtL r p n →
    n ≤ kasEval (cR r) (kas_asc p f n) ∧ kasEval (cR r) (kas_asc p f n) ≤ n + f ∧ Pre N p (kasEval (cR r) (kas_asc p f n)) ∧ SrtL r p (kasEval (cR r) (kas_asc p f n)) ∧
      (kasEval (cR r) (kas_asc p f n) < n + f → r (gP p (kasEval (cR r) (kas_asc p f n))) < r (gP p (kasEval (cR r) (kas_asc p f n) - 1)))
  | 0, n, _, _, h1, h2 => ⟨Nat.le_refl _, Nat.le_refl _, h1, h2, fun z => absurd z (Nat.lt_irrefl _)⟩
  | f + 1, n, hn, hN, h1, h2 => by
    have e : kasEval (cR r) (kas_asc p (f + 1) n) = kasEval (cR r) (if decide (r (gP p n) < r (gP p (n - 1))) = true then .ret n else kas_asc p f (n + 1)) := rfl
    rw [e]
    by_cases c : r (gP p n) < r (gP p (n - 1))
    · rw [if_pos (decide_eq_true c)]
      exact ⟨Nat.le_refl _, by show n ≤ _; omega, h1, h2, fun _ => c⟩
    · rw [if_neg (by simpa using c)]
      have hr := h1.rest n (Nat.le_refl _) (by omega)
      have s2 : SrtL r p (n + 1) := fun a b hab hb => by
        by_cases hb2 : b < n
        · exact h2 a b hab hb2
        · have : b = n := by omega
          subst this
          have l1 : r (gP p a) ≤ r (gP p (b - 1)) := by
            by_cases ea : a = b - 1
            · rw [ea]; exact Int.le_refl _
            · exact (h2 a (b - 1) (by omega) (by omega)).le
          have l2 := h1.below a hab
          by_cases q : r (gP p a) = r (gP p b)
          · exact .inr ⟨q, by rw [hr]; exact l2⟩
          · exact .inl (by omega)
      obtain ⟨a1, a2, a3, a4, a5⟩ := asc_ok f (n + 1) (by omega) (by omega) (h1.ext (by omega)) s2
      exact ⟨by omega, by omega, a3, a4, fun z => a5 (by omega)⟩
structure Dsc (N : Nat) (r : Nat → Int) (p : Array Nat) (n q : Nat) : Prop where
  pre : Pre N p n
  q1 : q + 1 ≤ n
  hi : ∀ a b, a < n - (q + 1) → a < b → b < n → Lx r (gP p b) (gP p a)
  blk : ∀ k, n - (q + 1) ≤ k → k < n → gP p k = k ∧ r k = r (n - 1)
theorem Dsc.close {N n q : Nat} {r : Nat → Int} {p : Array Nat} (h : Dsc N r p n q) : SrtR r (kas_rev p (n - (q + 1)) n) n := fun a b hab hb => by
  have hz : n ≤ p.size := by rw [h.pre.size]; exact h.pre.le
  have q1 := h.q1
  rw [rev_get hz, rev_get hz]
  by_cases ha : a < n - (q + 1)
  · rw [if_neg (show ¬ (n - (q + 1) ≤ a ∧ a < n) by omega)]
    by_cases hb2 : n - (q + 1) ≤ b
    · rw [if_pos ⟨hb2, hb⟩]; exact h.hi _ _ ha (by omega) (by omega)
    · rw [if_neg (by omega)]; exact h.hi _ _ ha hab hb
  · rw [if_pos ⟨by omega, hb⟩, if_pos ⟨by omega, by omega⟩]
    obtain ⟨x1, x2⟩ := h.blk (n - (q + 1) + n - 1 - a) (by omega) (by omega)
    obtain ⟨y1, y2⟩ := h.blk (n - (q + 1) + n - 1 - b) (by omega) (by omega)
    rw [x1, y1]
    exact .inr ⟨by omega, by omega⟩
theorem Dsc.plain {N n : Nat} {r : Nat → Int} {p : Array Nat} (h : Dsc N r p n 0) : SrtR r p n := fun a b hab hb => h.hi a b (by omega) hab hb
theorem dsc_next {N n : Nat} {r : Nat → Int} {p : Array Nat} (h1 : Pre N p n) (h2 : SrtR r p n) (hn : 1 ≤ n) (hN : n < N) (hl : r n < r (gP p (n - 1))) : Dsc N r p (n + 1) 0 := by
  refine ⟨h1.ext hN, by omega, fun a b ha hab hb => ?_, fun k k1 k2 => ?_⟩
  · by_cases hb2 : b < n
    · exact h2 a b hab hb2
    · have : b = n := by omega
      subst this
      rw [h1.rest b (Nat.le_refl _) hN]
      refine .inl ?_
      by_cases ea : a = b - 1
      · rw [ea]; exact hl
      · have := (h2 a (b - 1) (by omega) (by omega)).le
        omega
  · have : k = n := by omega
    subst this
    exact ⟨h1.rest k (Nat.le_refl _) hN, by simp⟩
theorem desc_ok {N : Nat} {r : Nat → Int} : ∀ (f : Nat) (p : Array Nat) (n q : Nat), n + f ≤ N → Dsc N r p n q →
    Dsc N r (kasEval (cR r) (kas_desc f p n q)).1 (kasEval (cR r) (kas_desc f p n q)).2.1 (kasEval (cR r) (kas_desc f p n q)).2.2 ∧ n ≤ (kasEval (cR r) (kas_desc f p n q)).2.1 ∧ (kasEval (cR r) (kas_desc f p n q)).2.1 ≤ n + f
  | 0, p, n, q, _, h => ⟨h, Nat.le_refl _, Nat.le_refl _⟩
  | f + 1, p, n, q, hN, h => by
    have e : kasEval (cR r) (kas_desc (f + 1) p n q) = kasEval (cR r) (if decide (r (gP p n) < r (gP p (n - 1))) = true then (if q > 0 then kas_desc f (kas_rev p (n - (q + 1)) n) (n + 1) 0 else kas_desc f p (n + 1) 0)
      else .ask (gP p (n - 1)) (gP p n) fun d => if d = true then .ret (p, n, q) else kas_desc f p (n + 1) (q + 1)) := rfl
    have q1 := h.q1
    have hz : n ≤ p.size := by rw [h.pre.size]; exact h.pre.le
    have gn := h.pre.rest n (Nat.le_refl _) (by omega)
    have g1 := (h.blk (n - 1) (by omega) (by omega)).1
    rw [e]
    by_cases c : r (gP p n) < r (gP p (n - 1))
    · rw [if_pos (decide_eq_true c)]
      rw [gn, g1] at c
      by_cases cq : q > 0
      · rw [if_pos cq]
        have hl : r n < r (gP (kas_rev p (n - (q + 1)) n) (n - 1)) := by
          rw [rev_get hz, if_pos ⟨by omega, by omega⟩]
          obtain ⟨x1, x2⟩ := h.blk (n - (q + 1) + n - 1 - (n - 1)) (by omega) (by omega)
          rw [x1, x2]
          exact c
        obtain ⟨a1, a2, a3⟩ := desc_ok f _ (n + 1) 0 (by omega) (dsc_next (h.pre.rev (Nat.le_refl _)) h.close (by omega) (by omega) hl)
        exact ⟨a1, by omega, by omega⟩
      · rw [if_neg cq]
        have q0 : q = 0 := by omega
        subst q0
        obtain ⟨a1, a2, a3⟩ := desc_ok f _ (n + 1) 0 (by omega) (dsc_next h.pre h.plain (by omega) (by omega) (by rw [g1]; exact c))
        exact ⟨a1, by omega, by omega⟩
    · rw [if_neg (by simpa using c)]
      show Dsc N r (kasEval (cR r) (if decide (r (gP p (n - 1)) < r (gP p n)) = true then .ret (p, n, q) else kas_desc f p (n + 1) (q + 1))).1 _ _ ∧ _
      have e2 : kasEval (cR r) (.ask (gP p (n - 1)) (gP p n) fun d => if d = true then .ret (p, n, q) else kas_desc f p (n + 1) (q + 1)) = kasEval (cR r) (if decide (r (gP p (n - 1)) < r (gP p n)) = true then .ret (p, n, q) else kas_desc f p (n + 1) (q + 1)) := rfl
      rw [e2]
      by_cases c2 : r (gP p (n - 1)) < r (gP p n)
      · rw [if_pos (decide_eq_true c2)]
        exact ⟨h, Nat.le_refl _, by show n ≤ _; omega⟩
      · rw [if_neg (by simpa using c2)]
        rw [gn, g1] at c c2
        have hq : r n = r (n - 1) := by omega
        have D2 : Dsc N r p (n + 1) (q + 1) := by
          refine ⟨h.pre.ext (by omega), by omega, fun a b ha hab hb => ?_, fun k k1 k2 => ?_⟩
          · by_cases hb2 : b < n
            · exact h.hi a b (by omega) hab hb2
            · have : b = n := by omega
              subst this
              have h5 := h.hi a (b - 1) (by omega) (by omega) (by omega)
              have h6 := h.pre.below a (by omega)
              rw [g1] at h5
              rw [gn]
              rcases h5 with z | ⟨_, z⟩
              · exact .inl (by omega)
              · omega
          · by_cases hk : k < n
            · obtain ⟨x1, x2⟩ := h.blk k (by omega) hk
              exact ⟨x1, by rw [x2, ← hq]; simp⟩
            · have : k = n := by omega
              subst this
              exact ⟨gn, by simp⟩
        obtain ⟨a1, a2, a3⟩ := desc_ok f p (n + 1) (q + 1) (by omega) D2
        exact ⟨a1, by omega, by omega⟩
theorem tail3_ok {N n : Nat} {r : Nat → Int} {p : Array Nat} (hn : 1 ≤ n) (h1 : Pre N p n) (h2 : SrtR r p n) :
    n ≤ (kasEval (cR r) (kas_tail3 n N p)).1 ∧ Pre N (kasEval (cR r) (kas_tail3 n N p)).2 (kasEval (cR r) (kas_tail3 n N p)).1 ∧ SrtL r (kasEval (cR r) (kas_tail3 n N p)).2 (kasEval (cR r) (kas_tail3 n N p)).1 := by
  unfold kas_tail3
  rw [eval_bind]
  have hle := h1.le
  obtain ⟨a1, a2, a3, a4, _⟩ := asc_ok (r := r) (p := kas_rev p 0 n) (N - n) n hn (by omega) (h1.rev (Nat.le_refl _)) (h2.turn h1)
  exact ⟨a1, a3, a4⟩
theorem descPart_ok {N n : Nat} {r : Nat → Int} {p : Array Nat} (hN : n + 1 ≤ N) (h : Dsc N r p (n + 1) 0) :
    1 ≤ (kasEval (cR r) (kas_descPart n N p)).1 ∧ Pre N (kasEval (cR r) (kas_descPart n N p)).2 (kasEval (cR r) (kas_descPart n N p)).1 ∧ SrtL r (kasEval (cR r) (kas_descPart n N p)).2 (kasEval (cR r) (kas_descPart n N p)).1 := by
  unfold kas_descPart
  rw [eval_bind]
  obtain ⟨d1, d2, d3⟩ := desc_ok (N - (n + 1)) p (n + 1) 0 (by omega) h
  generalize kasEval (cR r) (kas_desc (N - (n + 1)) p (n + 1) 0) = R at *
  by_cases c : R.2.2 > 0
  · rw [if_pos c]
    obtain ⟨t1, t2, t3⟩ := tail3_ok (by omega) (d1.pre.rev (i := R.2.1 - (R.2.2 + 1)) (Nat.le_refl _)) d1.close
    exact ⟨by omega, t2, t3⟩
  · rw [if_neg c]
    have d1' : Dsc N r R.1 R.2.1 0 := by
      have e : R.2.2 = 0 := by omega
      rw [e] at d1
      exact d1
    obtain ⟨t1, t2, t3⟩ := tail3_ok (by omega) d1'.pre d1'.plain
    exact ⟨by omega, t2, t3⟩
theorem range_get {N k : Nat} (hk : k < N) : gP (List.toArray (List.range N)) k = k := by rw [gP_eq]; simp [hk]
theorem count_ok {N : Nat} {r : Nat → Int} (hN : 1 ≤ N) :
    1 ≤ (kasEval (cR r) (kas_count N (List.toArray (List.range N)))).1 ∧ Pre N (kasEval (cR r) (kas_count N (List.toArray (List.range N)))).2 (kasEval (cR r) (kas_count N (List.toArray (List.range N)))).1 ∧ SrtL r (kasEval (cR r) (kas_count N (List.toArray (List.range N)))).2 (kasEval (cR r) (kas_count N (List.toArray (List.range N)))).1 := by
  have p1 : Pre N (List.toArray (List.range N)) 1 := ⟨by simp, hN, fun k _ hk => range_get hk, fun k hk => by
    have : k = 0 := by omega
    subst this
    rw [range_get (by omega)]; omega⟩
  obtain ⟨a1, a2, a3, a4, a5⟩ := asc_ok (r := r) (N - 1) 1 (Nat.le_refl _) (by omega) p1 (fun a b hab hb => by omega)
  unfold kas_count
  rw [eval_bind]
  generalize kasEval (cR r) (kas_asc (List.toArray (List.range N)) (N - 1) 1) = n at *
  by_cases c0 : n = N
  · subst c0
    rw [if_pos (by simp)]
    exact ⟨a1, a3, a4⟩
  rw [if_neg (by simpa using c0)]
  have hl := a5 (by omega)
  have gk : ∀ k, k < N → gP (List.toArray (List.range N)) k = k := fun k hk => range_get hk
  rw [gk n (by omega), gk (n - 1) (by omega)] at hl
  by_cases c1 : n > 1
  · rw [if_pos c1]
    show 1 ≤ (kasEval (cR r) (if decide (r (gP (List.toArray (List.range N)) 0) < r (gP (List.toArray (List.range N)) (n - 1))) = true then .ret (n, List.toArray (List.range N)) else kas_descPart n N (kas_rev (List.toArray (List.range N)) 0 n))).1 ∧ _
    have e2 : kasEval (cR r) (.ask ((List.toArray (List.range N)).getD 0 0) ((List.toArray (List.range N)).getD (n - 1) 0) fun c => if c = true then .ret (n, List.toArray (List.range N)) else kas_descPart n N (kas_rev (List.toArray (List.range N)) 0 n)) = kasEval (cR r) (if decide (r (gP (List.toArray (List.range N)) 0) < r (gP (List.toArray (List.range N)) (n - 1))) = true then .ret (n, List.toArray (List.range N)) else kas_descPart n N (kas_rev (List.toArray (List.range N)) 0 n)) := rfl
    rw [e2]
    by_cases c2 : r (gP (List.toArray (List.range N)) 0) < r (gP (List.toArray (List.range N)) (n - 1))
    · rw [if_pos (decide_eq_true c2)]
      exact ⟨a1, a3, a4⟩
    · rw [if_neg (by simpa using c2)]
      rw [gk 0 (by omega), gk (n - 1) (by omega)] at c2
      have eq : ∀ k, k < n → r k = r (n - 1) := fun k hk => by
        have l1 : r 0 ≤ r k := by
          by_cases e : k = 0
          · rw [e]; exact Int.le_refl _
          · have := (a4 0 k (by omega) hk).le
            rwa [gk 0 (by omega), gk k (by omega)] at this
        have l2 : r k ≤ r (n - 1) := by
          by_cases e : k = n - 1
          · rw [← e]; exact Int.le_refl _
          · have := (a4 k (n - 1) (by omega) (by omega)).le
            rwa [gk k (by omega), gk (n - 1) (by omega)] at this
        omega
      have hz : n ≤ (List.toArray (List.range N)).size := by simp; omega
      have rg : ∀ k, k < n → gP (kas_rev (List.toArray (List.range N)) 0 n) k = n - 1 - k := fun k hk => by
        rw [rev_get hz, if_pos ⟨Nat.zero_le _, hk⟩, gk _ (by omega)]
        omega
      refine descPart_ok (by omega) (dsc_next (a3.rev (Nat.le_refl _)) (fun a b hab hb => ?_) (by omega) (by omega) ?_)
      · rw [rg a (by omega), rg b hb]
        exact .inr ⟨by rw [eq _ (by omega), eq (n - 1 - a) (by omega)], by omega⟩
      · rw [rg (n - 1) (by omega), eq (n - 1 - (n - 1)) (by omega)]
        exact hl
  · rw [if_neg c1]
    have n1 : n = 1 := by omega
    subst n1
    exact descPart_ok (by omega) (dsc_next a3 (fun a b hab hb => by omega) (by omega) (by omega) (by rw [gk _ (by omega)]; exact hl))
theorem place_ok {k : Nat} {r : Nat → Int} {p : Array Nat} (hs : SrtL r p k) : ∀ (f l u : Nat), l ≤ u → u ≤ k → u - l ≤ f → (∀ a, a < l → r (gP p a) ≤ r (gP p k)) → (∀ a, u ≤ a → a < k → r (gP p k) < r (gP p a)) →
    kasEval (cR r) (kas_place p k f l u) ≤ k ∧ (∀ a, a < kasEval (cR r) (kas_place p k f l u) → r (gP p a) ≤ r (gP p k)) ∧ (∀ a, kasEval (cR r) (kas_place p k f l u) ≤ a → a < k → r (gP p k) < r (gP p a))
  | 0, l, u, h1, h2, h3, h4, h5 => by
    have e : l = u := by omega
    subst e
    exact ⟨h2, h4, h5⟩
  | f + 1, l, u, h1, h2, h3, h4, h5 => by
    unfold kas_place
    by_cases c : l ≥ u
    · rw [if_pos c]
      have e : l = u := by omega
      subst e
      exact ⟨h2, h4, h5⟩
    rw [if_neg c]
    have e2 : kasEval (cR r) (.ask (p.getD k 0) (p.getD ((l + u) / 2) 0) fun c => if c = true then kas_place p k f l ((l + u) / 2) else kas_place p k f ((l + u) / 2 + 1) u) = kasEval (cR r) (if decide (r (gP p k) < r (gP p ((l + u) / 2))) = true then kas_place p k f l ((l + u) / 2) else kas_place p k f ((l + u) / 2 + 1) u) := rfl
    rw [e2]
    by_cases c2 : r (gP p k) < r (gP p ((l + u) / 2))
    · rw [if_pos (decide_eq_true c2)]
      refine place_ok hs f l ((l + u) / 2) (by omega) (by omega) (by omega) h4 fun a a1 a2 => ?_
      by_cases e : a = (l + u) / 2
      · rw [e]; exact c2
      · have := (hs ((l + u) / 2) a (by omega) a2).le
        omega
    · rw [if_neg (by simpa using c2)]
      refine place_ok hs f ((l + u) / 2 + 1) u (by omega) h2 (by omega) (fun a ha => ?_) h5
      by_cases e : a = (l + u) / 2
      · rw [e]; omega
      · have := (hs a ((l + u) / 2) (by omega) (by omega)).le
        omega
theorem bin_ok {N : Nat} {r : Nat → Int} : ∀ (f : Nat) (p : Array Nat) (k : Nat), k + f = N → 1 ≤ k → Pre N p k → SrtL r p k → Pre N (kasEval (cR r) (kas_bin f p k)) N ∧ SrtL r (kasEval (cR r) (kas_bin f p k)) N
  | 0, p, k, h1, _, h2, h3 => by
    have e : k = N := by omega
    subst e
    exact ⟨h2, h3⟩
  | f + 1, p, k, h1, hk, h2, h3 => by
    unfold kas_bin
    rw [eval_bind]
    obtain ⟨x1, x2, x3⟩ := place_ok h3 k 0 k (Nat.zero_le _) (Nat.le_refl _) (by omega) (fun a z => absurd z (Nat.not_lt_zero _)) (fun a z1 z2 => absurd z2 (by omega))
    generalize kasEval (cR r) (kas_place p k k 0 k) = x at *
    have hz : k < p.size := by rw [h2.size]; omega
    have gk := h2.rest k (Nat.le_refl _) (by omega)
    have bg := fun i => bub_get (p := p) (src := k) (d := k - x) hz (by omega) i
    have ex : k - (k - x) = x := by omega
    rw [ex] at bg
    refine bin_ok f _ (k + 1) (by omega) (by omega) ⟨by rw [bubble_size]; exact h2.size, by omega, fun i i1 i2 => ?_, fun i hi => ?_⟩ fun a b hab hb => ?_
    · rw [bg i, if_neg (by omega), if_neg (by omega)]
      exact h2.rest i (by omega) i2
    · rw [bg i]
      by_cases e1 : i = x
      · rw [if_pos e1, gk]; omega
      · rw [if_neg e1]
        by_cases e2 : x < i ∧ i ≤ k
        · rw [if_pos e2]; have := h2.below (i - 1) (by omega); omega
        · rw [if_neg e2]; have := h2.below i (by omega); omega
    · have le1 : ∀ a, a < x → Lx r (gP p a) (gP p k) := fun a ha => by
        have z1 := x2 a ha
        have z2 := h2.below a (by omega)
        by_cases q : r (gP p a) = r (gP p k)
        · exact .inr ⟨q, by rw [gk]; exact z2⟩
        · exact .inl (by omega)
      have ge1 : ∀ a, x ≤ a → a < k → Lx r (gP p k) (gP p a) := fun a a1 a2 => .inl (x3 a a1 a2)
      rw [bg a, bg b]
      by_cases ca : a = x
      · rw [if_pos ca, if_neg (by omega), if_pos ⟨by omega, by omega⟩]
        exact ge1 _ (by omega) (by omega)
      · rw [if_neg ca]
        by_cases ca2 : x < a ∧ a ≤ k
        · rw [if_pos ca2, if_neg (by omega), if_pos ⟨by omega, by omega⟩]
          exact h3 _ _ (by omega) (by omega)
        · rw [if_neg ca2]
          by_cases cb : b = x
          · rw [if_pos cb]; exact le1 a (by omega)
          · rw [if_neg cb]
            by_cases cb2 : x < b ∧ b ≤ k
            · rw [if_pos cb2]
              exact h3 _ _ (by omega) (by omega)
            · rw [if_neg cb2]
              exact h3 _ _ hab (by omega)
theorem kas_stable {N : Nat} {r : Nat → Int} (hN : 1 ≤ N) : Pre N (kasEval (cR r) (kas_sort N)) N ∧ SrtL r (kasEval (cR r) (kas_sort N)) N := by
  unfold kas_sort
  rw [eval_bind]
  obtain ⟨c1, c2, c3⟩ := count_ok (r := r) hN
  generalize kasEval (cR r) (kas_count N (List.toArray (List.range N))) = R at *
  by_cases c : R.1 < N
  · rw [if_pos c]
    have hm : max R.1 1 = R.1 := by omega
    rw [hm]
    exact bin_ok (N - R.1) R.2 R.1 (by omega) c1 c2 c3
  · rw [if_neg c]
    have e : R.1 = N := by have := c2.le; omega
    rw [e] at c2 c3
    exact ⟨c2, c3⟩
end L2
set_option maxHeartbeats 4000000
namespace L2
open PySem PySem.Spec PyProof.Rows PySem.W
noncomputable def ordK (ks : List Int) : List Nat := if ks.length < 2 then List.range ks.length else (kasEval (cR fun i => ks.getD i 0) (kas_sort ks.length)).toList
theorem ordK_perm (ks : List Int) : (ordK ks).Perm (List.range ks.length) := by
  unfold ordK
  split
  · exact List.Perm.refl _
  · rename_i h
    have h2 : Pl0 ks.length (kasEval (cR fun i => ks.getD i 0) (kas_sort ks.length)) := ih_eval (P := Pl0 ks.length) _ _ (ih_sort (n := ks.length) (by omega))
    have := Array.perm_iff_toList_perm.mp h2
    simpa using this
theorem ordK_len (ks : List Int) : (ordK ks).length = ks.length := by rw [(ordK_perm ks).length_eq, List.length_range]
theorem ordK_lt {ks : List Int} {i : Nat} (h : i ∈ ordK ks) : i < ks.length := by simpa using (ordK_perm ks).mem_iff.mp h
theorem ordK_sorted (ks : List Int) : (ordK ks).Pairwise (Lx fun i => ks.getD i 0) := by
  unfold ordK
  split
  · rename_i h
    have : ks.length = 0 ∨ ks.length = 1 := by omega
    rcases this with e | e <;> rw [e]
    · exact .nil
    · exact List.pairwise_singleton _ _
  · rename_i h
    obtain ⟨h1, h2⟩ := kas_stable (N := ks.length) (r := fun i => ks.getD i 0) (by omega)
    generalize kasEval (cR fun i => ks.getD i 0) (kas_sort ks.length) = p at *
    rw [List.pairwise_iff_getElem]
    intro i j hi hj hij
    have hj' : j < p.size := by simpa using hj
    have hi' : i < p.size := by simpa using hi
    have e1 : p.toList[i] = gP p i := by simp [gP, Array.getD, hi']
    have e2 : p.toList[j] = gP p j := by simp [gP, Array.getD, hj']
    rw [e1, e2]
    exact h2 i j hij (by rw [← h1.size]; exact hj')
section
variable {prog : Program} {w : World} {A : Around} {E : Value → Shared → Prop} {s : Shared}
theorem ints_getD {us : List Value} {ks : List Int} (h : IntsAre us ks) {i : Nat} (hi : i < ks.length) : ∃ t, us.getD i Value.none = .int (ks.getD i 0) t := by
  obtain ⟨t, ht⟩ := h.get i _ (List.getElem?_eq_getElem hi)
  exact ⟨t, by rw [List.getD_eq_getElem?_getD, ht, List.getD_eq_getElem?_getD, List.getElem?_eq_getElem hi]; rfl⟩
theorem askK {us : List Value} {ks : List Int} (h : IntsAre us ks) {i j : Nat} (hi : i < ks.length) (hj : j < ks.length) {C : Bool → Shared → Prop} (q : C (decide (ks.getD i 0 < ks.getD j 0)) s) : kas_ask prog w A oneType' us i j C s := by
  unfold kas_ask
  obtain ⟨t, e1⟩ := ints_getD h hi
  obtain ⟨u, e2⟩ := ints_getD h hj
  rw [e1, e2]
  show wpAny _ _ (oneLt' true _ _) _ _ _
  exact oneLt_int q
theorem endK {a kS : Addr} {vs : List Value} {kz : List Int} {keys : Array Value} {e e1 : Nat} {P : PySem.Fin → Shared → Prop} (ha : s.heap.get? a = some (seqObj "list" #[] e1)) (hk : s.heap.get? kS = some (seqObj "list" keys e)) (hka : kS ≠ a) (hi : IntsAre keys.toList kz) (hl : kz.length = vs.length) (h64 : vs.length < 64)
    (h : ∀ h' tk e2, (∀ b o, b ≠ a → b ≠ kS → s.heap.get? b = some o → h'.get? b = some o) → h'.get? a = some (seqObj "list" ((ordK kz).map fun i => vs.getD i Value.none).toArray e2) → (∃ o, h'.get? kS = some o) → P (.done (.ret .none)) { s with heap := h', toks := tk }) :
    wpAny (model prog w) A (ksk_end a false vs.toArray e1 (.ref kS) keys) P E s := by
  have hks : keys.size = vs.length := by have := hi.length; rw [Array.length_toList] at this; omega
  have tail : ∀ st : SortSt, failedOf st = none → (arrOf st).map (·.2) = ((ordK kz).map fun i => vs.getD i Value.none).toArray → wpAny (model prog w) A (ksk_tail a false e1 (.ref kS) st) P E s := fun st hf ho => by
    have s1 := Heap.SameBut.update s.heap kS (Obj.mapSeq fun _ => (#[] : Array Value))
    have na1 : (s.heap.update kS (Obj.mapSeq fun _ => (#[] : Array Value))).get? a = some (seqObj "list" #[] e1) := (s1.2 a hka.symm).trans ha
    have nk1 := get?_update_seq hk (fun _ => (#[] : Array Value))
    have hz : ((ordK kz).map fun i => vs.getD i Value.none).toArray.size ≤ sizeLine := by rw [List.size_toArray, List.length_map, ordK_len, sizeLine_eq]; omega
    unfold ksk_tail
    dsimp only
    rw [ho]
    refine wpAny_bind (listUpdate_at hk rfl ?_ (by rw [hks, sizeLine_eq]; omega) (Nat.zero_le _))
    refine wpAny_bind (wpAny_letGo ?_)
    refine wpAny_bind (seqEpoch_at na1 rfl ?_)
    refine wpAny_bind (listUpdate_at na1 rfl ?_ (Nat.zero_le _) (Nat.le_trans hz (Nat.le_succ _)))
    rw [hf]
    simp only [bne_self_eq_false, Bool.false_eq_true, if_false]
    have s2 := Heap.SameBut.update (s.heap.update kS (Obj.mapSeq fun _ => (#[] : Array Value))) a (Obj.mapSeq fun _ => ((ordK kz).map fun i => vs.getD i Value.none).toArray)
    exact wpAny_pure (h _ _ _ (fun b o hb hb2 eb => (s2.2 b hb).trans ((s1.2 b hb2).trans eb)) (get?_update_seq na1 _) ⟨_, (s2.2 kS hka).trans nk1⟩)
  unfold ksk_end
  simp only [Bool.false_eq_true, if_false]
  by_cases h2 : vs.toArray.size < 2
  · rw [if_pos h2, if_pos h2]
    refine wpAny_bind (wpAny_pure ?_)
    rw [StateT.run_pure]
    refine wpAny_bind (wpAny_pure ?_)
    dsimp only
    refine tail _ rfl ?_
    rw [List.size_toArray] at h2
    show (keys.zip vs.toArray).map (·.2) = _
    have eo : ordK kz = List.range vs.length := by unfold ordK; rw [if_pos (by omega), hl]
    rw [eo]
    apply Array.ext'
    rw [Array.toList_map, ksk_zip, List.map_snd_zip (Nat.le_of_eq (by simp [hks]))]
    refine List.ext_getElem? fun i => ?_
    rw [List.getElem?_map]
    by_cases hi : i < vs.length
    · rw [List.getElem?_range hi, List.getElem?_eq_getElem hi]
      show _ = some (vs.getD i Value.none)
      rw [List.getD_eq_getElem?_getD, List.getElem?_eq_getElem hi]
      rfl
    · rw [List.getElem?_eq_none (l := vs) (by omega), List.getElem?_eq_none (by rw [List.length_range]; omega)]
      rfl
  · rw [if_neg h2, if_neg h2]
    rw [List.size_toArray] at h2
    rw [ksk_kind hi (by omega)]
    refine wpAny_bind (wpAny_pure ?_)
    have hkl : keys.toList.length = vs.length := by rw [Array.length_toList]; exact hks
    have ez : keys.zip vs.toArray = keys.toList.toArray.zip vs.toArray := by rw [Array.toArray_toList]
    rw [ez]
    refine wpAny_bind (wpAny_mono (kat_run (κ := oneType') (ks := keys.toList) (vs := vs) (G := fun p s' => s' = s ∧ p.toList = ordK kz) (Q := fun st' s' => s' = s ∧ failedOf st' = none ∧ (arrOf st').map (·.2) = ((ordK kz).map fun i => vs.getD i Value.none).toArray) hkl (by omega) h64 (fun p st' s' a1 a2 a3 a4 => ⟨a4.1, a3, by rw [kat_snds hkl a2, a4.2]⟩) ?_) ?_ fun _ _ e => e)
    · refine kasWp_of (n := kz.length) (c := fun i j => decide (kz.getD i 0 < kz.getD j 0)) (P := Pl0 kz.length) (fun i j C hi' hj' hC => askK hi hi' hj' hC) ?_ ?_
      · rw [← hl]
        exact ih_sort (by omega)
      · refine ⟨rfl, ?_⟩
        unfold ordK
        rw [if_neg (by omega), hl]
    · rintro ⟨⟨⟩, st'⟩ s' ⟨rfl, hf, hs⟩
      exact tail st' hf hs
end
section
variable {X : Cx} {pins : List (Addr × Obj)} {σ : St} {H : Hp} {s : Shared} {E : Value → Shared → Prop}
noncomputable def KeyOk (X : Cx) (pins : List (Addr × Obj)) (σ : St) (H : Hp) (A : Around) (f : Value) (G : Heap → Prop) (vs : List Value) (kz : List Int) : Prop :=
  ∀ (i : Nat) v k, vs[i]? = some v → kz[i]? = some k → ∀ (pl : List (Addr × Obj)) (s' : Shared), Inv X (pins ++ pl) σ H s' → G s'.heap →
    wpAny (model X.prog X.w) A (call f [v]) (fun u s'' => (∃ t, u = .int k t) ∧ Inv X (pins ++ pl) σ H s'' ∧ G s''.heap) (fun _ _ => False) s'
theorem restK {A : Around} {f : Value} {G : Heap → Prop} {a kS : Addr} {vs : List Value} {kz : List Int} {e1 : Nat} {P : PySem.Fin → Shared → Prop} (I : Inv X pins σ H s) (hG : G s.heap) (Gk : ∀ h h' : Heap, G h → (∀ b o, b ≠ kS → h.get? b = some o → h'.get? b = some o) → G h')
    (ha : s.heap.get? a = some (seqObj "list" #[] e1)) (hk : s.heap.get? kS = some (seqObj "list" #[] 0)) (hka : kS ≠ a) (fa : FpOk X pins H a) (fk : FpOk X pins H kS) (hl : kz.length = vs.length) (h64 : vs.length < 64) (KO : KeyOk X pins σ H A f G vs kz)
    (h : ∀ s', Inv X pins σ H s' → ∀ h' tk e2, (∀ b o, b ≠ a → b ≠ kS → s'.heap.get? b = some o → h'.get? b = some o) → (∃ o, s'.heap.get? a = some o) → (∃ o, h'.get? kS = some o) → h'.get? a = some (seqObj "list" ((ordK kz).map fun i => vs.getD i Value.none).toArray e2) → P (.done (.ret .none)) { s' with heap := h', toks := tk }) :
    wpAny (model X.prog X.w) A (ksk_rest a f false vs.toArray e1 (.ref kS)) P E s := by
  unfold ksk_rest
  refine wpAny_bind (wpAny_rule ?_)
  rw [List.forIn_toArray]
  refine wpAny_bind (ksk_fold (fun i s' => ∃ kA e, Inv X pins σ H s' ∧ G s'.heap ∧ s'.heap.get? a = some (seqObj "list" #[] e1) ∧ s'.heap.get? kS = some (seqObj "list" kA e) ∧ IntsAre kA.toList (kz.take i)) vs 0 s
    ⟨#[], 0, I, hG, ha, hk, by simpa using IntsAre.nil⟩ ?step ?done)
  case step =>
    rintro j x s' hx ⟨kA, e, J, g, na, nk, hi⟩
    simp only [Nat.zero_add] at hi ⊢
    have hj : j < vs.length := (List.getElem?_eq_some_iff.mp hx).1
    obtain ⟨k, hkj⟩ : ∃ k, kz[j]? = some k := ⟨_, List.getElem?_eq_getElem (by omega)⟩
    have hz : kA.size ≤ vs.length := by
      have h1 := hi.length
      rw [Array.length_toList, List.length_take] at h1
      omega
    have J2 : Inv X (pins ++ [(a, seqObj "list" #[] e1), (kS, seqObj "list" kA e)]) σ H s' := J.pins_of fun p hp => by
      rcases List.mem_append.mp hp with hp | hp
      · exact J.pin p (List.mem_append_right _ hp)
      · rcases List.mem_cons.mp hp with rfl | hp
        · exact ⟨na, fa.1, fa.2.1, fa.2.2.1, fun v => by simp [seqObj]⟩
        · rw [List.mem_singleton.mp hp]
          exact ⟨nk, fk.1, fk.2.1, fk.2.2.1, fun v => by simp [seqObj]⟩
    refine wpAny_bind (wpAny_attempt (wpAny_mono (KO j x k hx hkj _ s' J2 g) (fun u s'' he => ?_) fun _ _ hF => hF.elim))
    obtain ⟨⟨t2, rfl⟩, J3, g3⟩ := he
    dsimp only
    have na3 := (J3.pin (a, seqObj "list" #[] e1) (List.mem_append_right _ (List.mem_append_right _ (.head _)))).1
    have nk3 := (J3.pin (kS, seqObj "list" kA e) (List.mem_append_right _ (List.mem_append_right _ (.tail _ (.head _))))).1
    have J4 : Inv X pins σ H s'' := J3.unpinned
    have s1 := Heap.SameBut.update s''.heap kS (Obj.mapSeq (·.push (.int k t2)))
    obtain ⟨c2, hc2⟩ : ∃ c2, (s''.heap.update kS (Obj.mapSeq (·.push (.int k t2)))).get? kS = some (seqObj "list" (kA.push (.int k t2)) c2) := ⟨_, get?_update_seq nk3 (·.push (.int k t2))⟩
    have ek : kz.take (j + 1) = kz.take j ++ [k] := by rw [List.take_add_one, hkj]; simp
    have ea : (kA.push (Value.int k t2)).toList = kA.toList ++ [Value.int k t2] := by simp
    refine wpAny_bind (listUpdate_at nk3 rfl ?_ (by rw [sizeLine_eq]; omega) (Nat.le_trans (Nat.le_of_eq (Array.size_push ..)) (by rw [sizeLine_eq]; omega)))
    have kp : ∀ b o, b ≠ kS → s''.heap.get? b = some o → (s''.heap.update kS (Obj.mapSeq (·.push (.int k t2)))).get? b = some o := fun b o hb eb => (s1.2 b hb).trans eb
    exact wpAny_pure ⟨rfl, kA.push (.int k t2), c2, J4.turned (t' := s''.toks) kp fk.1 fk.2.1 fk.2.2.2.1 fk.2.2.2.2.1 fk.2.2.2.2.2, Gk _ _ g3 kp, kp _ _ hka.symm na3, hc2, by rw [ea, ek]; exact ksk_snoc hi⟩
  case done =>
    rintro s' ⟨kA, e, J, g, na, nk, hi⟩
    have hk' : IntsAre kA.toList kz := by
      have e3 : kz.take (0 + vs.length) = kz := List.take_of_length_le (by omega)
      rw [e3] at hi
      exact hi
    refine wpAny_bind (listItems_at nk rfl ?_)
    exact endK na nk hka hk' hl h64 fun h' tk e2 kp ha' hk2 => h s' J h' tk e2 kp ⟨_, na⟩ hk2 ha'
end
end L2
set_option maxHeartbeats 4000000
namespace L2
open PySem PySem.Spec PyProof.Rows PySem.W
noncomputable abbrev upTo (n : Nat) : List Int := (List.range n).map fun i : Nat => (i : Int)
section
variable {prog : Program} {w : World} {A : Around} {E : Value → Shared → Prop} {s : Shared}
theorem proto_range {R : Result → Shared → Prop} {r : Addr} {n : Nat} {t u v : Tok} (hh : A.handled = none) (hr : s.heap.get? r = some { cls := .type "range", data := .fields #[.int 0 t, .int n u, .int 1 v] }) (hn : n ≤ 1000)
    (hR : ∀ h' tk acc' c', (∀ b o, s.heap.get? b = some o → h'.get? b = some o) → h'.get? s.heap.objs.size = some { cls := .type "list", dict := none, data := .seq acc' c', slots := #[] } → ItemsOf (fun i v => ∃ t, v = .int (0 + i * 1) t) acc' n → R (.ok (.ret (.ref s.heap.objs.size))) { s with heap := h', toks := tk }) :
    codeAny (model prog w) A (.builtin "proto.collect" ⟨[.ref r], []⟩) R s := by
  refine codeAny_builtin PySem.F.entry_proto_collect ?_
  rw [Around.under_plainId PySem.F.plain_proto_collect _]
  show wpAny _ A.in1 (newList [] >>= fun l => again (.builtin "list.__iadd__" ⟨[l, .ref r], []⟩)) _ _ s
  refine wpAny_bind (wpAny_newObj_type ?_)
  refine wpAny_pure ⟨plainId_quiet PySem.F.plain_list_iadd _, codeAny_builtin PySem.F.entry_list_iadd ?_⟩
  rw [Around.under_plainId PySem.F.plain_list_iadd _]
  have hS : (s.heap.push { cls := .type "list", data := .seq ([] : List Value).toArray }).get? s.heap.objs.size = some { cls := .type "list", data := .seq #[] 0 } := Heap.get?_push_size _ rfl
  show wpAny _ A.in1 (Builtin.List.listExtendWith (.ref s.heap.objs.size) (.ref r) (.ref s.heap.objs.size)) _ _ _
  exact wpAny_extend_range (s := { s with heap := s.heap.push { cls := .type "list", data := .seq ([] : List Value).toArray } }) (A := A) (n := n) hh (Heap.get?_push_of_some _ hr) (small_one (by decide) (by decide) (by omega) (by omega)) (by rw [rangeSize_one]; split <;> omega) (by omega) s.heap.objs.size (.ref s.heap.objs.size) 0 hS
    (fun h' tk acc' c' hk hS' hacc => hR h' tk acc' c' (fun b o e => hk b o (Nat.ne_of_lt (Heap.lt_size e)) (Heap.get?_push_of_some _ e)) hS' hacc)
theorem collect_range {Q : List Value → Shared → Prop} {r : Addr} {n : Nat} {t u v : Tok} (hh : A.handled = none) (hr : s.heap.get? r = some { cls := .type "range", data := .fields #[.int 0 t, .int n u, .int 1 v] }) (hn : n ≤ 1000)
    (hQ : ∀ h' tk vs, (∀ b o, s.heap.get? b = some o → h'.get? b = some o) → s.heap.objs.size < h'.objs.size → IntsAre vs (upTo n) → Q vs { s with heap := h', toks := tk }) : wpAny (model prog w) A (collect (.ref r)) Q E s := by
  unfold collect
  refine wpAny_bind (wpAny_runValue (proto_range hh hr hn fun h' tk acc' c' hk hS' hacc => ?_))
  show wpAny _ A (load s.heap.objs.size >>= _) _ _ _
  refine wpAny_bind (wpAny_load hS' ?_)
  refine wpAny_pure (hQ h' tk acc'.toList hk (Heap.lt_size hS') (ints_of_ix (by rw [Array.length_toList, hacc.1, List.length_map, List.length_range]) fun i x k hv hki => ?_))
  obtain ⟨tt, ev⟩ := hacc.2 i x (by rw [← Array.getElem?_toList]; exact hv)
  have hil := (List.getElem?_eq_some_iff.mp hki).1
  rw [List.length_map, List.length_range] at hil
  rw [List.getElem?_map, List.getElem?_range hil] at hki
  have : (i : Int) = k := by simpa using hki
  refine ⟨tt, ?_⟩
  rw [ev, ← this]
  simp
end
section
variable {X : Cx} {pins : List (Addr × Obj)} {σ : St} {H : Hp} {s : Shared} {E : Value → Shared → Prop}
theorem Inv.turnedL {h' : Heap} {t' : Nat} {ch : List Addr} (I : Inv X pins σ H s) (k : ∀ b o, b ∉ ch → s.heap.get? b = some o → h'.get? b = some o) (f : ∀ b ∈ ch, FpOk X pins H b) : Inv X pins σ H { s with heap := h', toks := t' } := by
  have nit : ∀ b u, H b = some u → b ∉ ch := fun b u e z => by rw [(f b z).1] at e; cases e
  refine I.step (g' := s.gens) (d' := s.drawn) (ch := ch) (fun b hb => ?_) (fun b o _ _ hc e _ => k b o hc e) (fun b o _ _ hc e _ => ⟨o.slots, k b o hc e⟩) (fun _ _ _ _ n => n)
    (fun b o hc e => ⟨o, k b o hc e⟩) (fun _ _ e => e) (fun _ _ _ e => e) (fun b ps e => ⟨#[], by rw [e]; simp⟩) (fun m hm => ?_) (fun b u e => ?_) I.bare
  · obtain ⟨_, h1, _, h3, h4, h5⟩ := f b hb
    exact ⟨h3, h1, h4, h5⟩
  · obtain ⟨o, es, ep, ho, r⟩ := hm
    exact ⟨o, es, ep, k _ o (fun z => (f _ z).2.1 rfl) ho, r⟩
  · refine (I.hok b u e).stay (fun c v hc q => k c v ?_ q) (fun _ q => q) fun _ _ q => q
    rcases hc with z | z
    · rw [z]; exact nit b u e
    · exact nit c _ z
theorem sorted_rngK {r q : Addr} {n : Nat} {kz : List Int} {Q : VK} {bs : List Addr} (I : Inv X pins σ H s) (hex : X.ex = []) (hc : X.calm = true) (hr : H r = some (.rng 0 n)) (hn : n < 64) (hkz : kz.length = n) (hbs : ∀ b ∈ bs, ∃ o, s.heap.get? b = some o)
    (KO : ∀ vs, IntsAre vs (upTo n) → KeyOk X pins σ H X.A.in1.in1 (.ref q) (fun h => ∀ b ∈ bs, h.get? b = s.heap.get? b) vs kz)
    (hQ : ∀ D, H D = none → Q (.ref D) (upd H D (.lst ((ordK kz).map fun i : Nat => V.int i)))) :
    wpAny (model X.prog X.w) X.A (call (.builtin "sorted") [.ref r] [(Str.ofString "key", .ref q)]) (EP X pins σ Q) E s := by
  obtain ⟨t, u, v, hro⟩ := I.hok r _ hr
  refine call_function_entry_kw kind_sorted plain_sorted entry_sorted (ksk_s1 _ _) ?_
  unfold Builtin.«sorted»
  refine wpAny_bind (m := checkCount "sorted" 1 1 _) (wpAny_pure ?_)
  refine wpAny_bind (collect_range (n := n) (I.ok.hd hc) hro (by omega) fun h1 tk vs hk hsz hi => ?_)
  have hvl : vs.length = n := by rw [hi.length, List.length_map, List.length_range]
  refine wpAny_bind (wpAny_newList ?_ (hsz := by rw [sizeLine_eq]; omega))
  have hoL : (h1.push (seqObj "list" vs.toArray 0)).get? h1.objs.size = some (seqObj "list" vs.toArray 0) := Heap.get?_push_size _ rfl
  have hsL : (h1.push (seqObj "list" vs.toArray 0)).objs.size = h1.objs.size + 1 := Heap.size_push ..
  have kL : ∀ b o, s.heap.get? b = some o → (h1.push (seqObj "list" vs.toArray 0)).get? b = some o := fun b o e => Heap.get?_push_of_some _ (hk b o e)
  show wpAny _ _ _ _ _ { s with heap := h1.push (seqObj "list" vs.toArray 0), toks := tk }
  generalize h1.push (seqObj "list" vs.toArray 0) = h2 at *
  have haz : s.heap.objs.size ≤ h1.objs.size := Nat.le_of_lt hsz
  refine wpAny_bind (wpAny_holding (wpAny_call_entry_kw slot_list_sort ⟨_, hoL, rfl⟩ entry_list_sort ?body (ksk_l1 _ _)))
  case body =>
    show wpAny (model X.prog X.w) X.A.in1.in1 (Builtin.«list.sort» ⟨[.ref h1.objs.size], [(Str.ofString "key", .ref q)]⟩) _ _ _
    rw [ksk_t1]
    unfold ksk_tree
    refine wpAny_bind (listItems_at hoL rfl ?_)
    refine wpAny_bind (listUpdate_at hoL rfl ?_ (by rw [List.size_toArray, sizeLine_eq]; omega) (Nat.zero_le _))
    obtain ⟨e1, ho1⟩ : ∃ e1, (h2.update h1.objs.size (Obj.mapSeq fun _ => (#[] : Array Value))).get? h1.objs.size = some (seqObj "list" #[] e1) := ⟨_, get?_update_seq hoL fun _ => #[]⟩
    have s3 : (h2.update h1.objs.size (Obj.mapSeq fun _ => (#[] : Array Value))).objs.size = h1.objs.size + 1 := by rw [Heap.size_update, hsL]
    have k3 : ∀ b o, s.heap.get? b = some o → (h2.update h1.objs.size (Obj.mapSeq fun _ => (#[] : Array Value))).get? b = some o := fun b o e => (Heap.get?_update_other _ _ (Nat.ne_of_gt (Nat.lt_of_lt_of_le (Heap.lt_size e) haz))).trans (kL b o e)
    refine wpAny_bind (seqEpoch_at ho1 rfl ?_)
    generalize h2.update h1.objs.size (Obj.mapSeq fun _ => (#[] : Array Value)) = h3 at *
    refine wpAny_bind (wpAny_newTuple ?_ (by show vs.length ≤ _; rw [sizeLine_eq]; omega))
    have ho4 : (h3.push (seqObj "tuple" vs.toArray 0)).get? h1.objs.size = some (seqObj "list" #[] e1) := Heap.get?_push_of_some _ ho1
    have s4 : (h3.push (seqObj "tuple" vs.toArray 0)).objs.size = h1.objs.size + 2 := by rw [Heap.size_push, s3]
    have k4 : ∀ b o, s.heap.get? b = some o → (h3.push (seqObj "tuple" vs.toArray 0)).get? b = some o := fun b o e => Heap.get?_push_of_some _ (k3 b o e)
    show wpAny _ _ _ _ _ { s with heap := h3.push (seqObj "tuple" vs.toArray 0), toks := tk }
    generalize h3.push (seqObj "tuple" vs.toArray 0) = h4 at *
    refine wpAny_bind (wpAny_newList ?_ (Nat.zero_le _))
    have hoK : (h4.push (seqObj "list" #[] 0)).get? h4.objs.size = some (seqObj "list" #[] 0) := Heap.get?_push_size _ rfl
    have ho5 : (h4.push (seqObj "list" #[] 0)).get? h1.objs.size = some (seqObj "list" #[] e1) := Heap.get?_push_of_some _ ho4
    have k5 : ∀ b o, s.heap.get? b = some o → (h4.push (seqObj "list" #[] 0)).get? b = some o := fun b o e => Heap.get?_push_of_some _ (k4 b o e)
    show wpAny _ _ _ _ _ { s with heap := h4.push (seqObj "list" #[] 0), toks := tk }
    generalize h4.push (seqObj "list" #[] 0) = h5 at *
    refine wpAny_holding ?_
    have hkz2 : s.heap.objs.size ≤ h4.objs.size := by rw [s4]; omega
    have fa : FpOk X pins H h1.objs.size := I.fpOk haz (I.hok.fresh haz)
    have fk : FpOk X pins H h4.objs.size := I.fpOk hkz2 (I.hok.fresh hkz2)
    have I5 : Inv X pins σ H { s with heap := h5, toks := tk } := I.kept k5
    have hbl : ∀ b ∈ bs, b < s.heap.objs.size := fun b hb => let ⟨o, e⟩ := hbs b hb; Heap.lt_size e
    refine restK (s := { s with heap := h5, toks := tk }) (G := fun h => ∀ b ∈ bs, h.get? b = s.heap.get? b) I5 (fun b hb => ?_) (fun h h' g kp b hb => ?_) ho5 hoK (by show h4.objs.size ≠ h1.objs.size; rw [s4]; exact Nat.ne_of_gt (Nat.lt_add_of_pos_right (by decide))) fa fk (by omega) (by omega) (KO vs hi) fun s' J h' tk' e2 kp _ _ ha' => ⟨_, rfl, ?_⟩
    · obtain ⟨o, e⟩ := hbs b hb
      rw [e]; exact k5 b o e
    · obtain ⟨o, e⟩ := hbs b hb
      have := g b hb
      rw [e] at this
      rw [e]
      exact kp b o (Nat.ne_of_lt (Nat.lt_of_lt_of_le (hbl b hb) hkz2)) this
    · have J2 : Inv X pins σ H { s' with heap := h', toks := tk' } := J.turnedL (ch := [h1.objs.size, h4.objs.size]) (fun b o hb e => by
        simp only [List.mem_cons, List.not_mem_nil, or_false, not_or] at hb
        exact kp b o hb.1 hb.2 e) fun b hb => by
        rcases List.mem_cons.mp hb with rfl | hb
        · exact fa
        · rw [List.mem_singleton.mp hb]; exact fk
      have hln : s.heap.get? h1.objs.size = none := Heap.get?_none_of_le haz
      have hlen : ((ordK kz).map fun i : Nat => V.int i).length = n := by rw [List.length_map, ordK_len, hkz]
      refine wpAny_pure ⟨_, rfl, .ref h1.objs.size, upd H h1.objs.size (.lst ((ordK kz).map fun i : Nat => V.int i)), J2.hold (I.cov hex) hln fa.1 ?_, rfl, hQ _ fa.1⟩
      refine ⟨by rw [hlen, sizeLine_eq]; omega, ((ordK kz).map fun i => vs.getD i Value.none), e2, ?_, ha'⟩
      have key : ∀ l : List Nat, (∀ i ∈ l, i < n) → Vals (l.map fun i : Nat => V.int i) (l.map fun i => vs.getD i Value.none) := by
        intro l
        induction l with
        | nil => intro _; exact .nil
        | cons i l ih =>
          intro hl
          refine .cons ?_ (ih fun j hj => hl j (List.mem_cons_of_mem _ hj))
          have hin := hl i List.mem_cons_self
          obtain ⟨tt, et⟩ := ints_getD hi (i := i) (by rw [List.length_map, List.length_range]; exact hin)
          refine ⟨tt, ?_⟩
          show vs.getD i Value.none = _
          rw [et, List.getD_eq_getElem?_getD, List.getElem?_map, List.getElem?_range hin]
          rfl
      exact key _ fun i hi' => by rw [← hkz]; exact ordK_lt hi'
end
end L2
set_option maxHeartbeats 4000000
namespace L2
open PySem PySem.Spec PyProof.Rows PySem.W
structure LamSc (sc osc : Scope) (x : Str) (N rest : List Str) : Prop where
  kind : sc.kind = .function
  co : sc.isCoroutine = false
  gen : sc.isGenerator = false
  nocell : ∀ y ∈ sc.names, y.2 ≠ .cell
  par : sc.names.lookup x = some .local
  free : ∀ n, (n, NameKind.free) ∈ sc.names → osc.names.lookup n = some .cell ∨ osc.names.lookup n = some .free
  len : N.length = rest.length
  look : ∀ (i : Nat) y, rest[i]? = some y → Vis sc y → N[i]? = some y ∧ (y, NameKind.free) ∈ sc.names ∧ sc.names.lookup y = some .free
noncomputable def lamOk (sc osc : Scope) (x : Str) (N rest : List Str) : Bool :=
  (sc.kind == .function && !sc.isCoroutine && !sc.isGenerator && sc.names.lookup x == some .local && sc.names.all fun y => y.2 != .cell && (y.2 != .free || osc.names.lookup y.1 == some .cell || osc.names.lookup y.1 == some .free))
  && N.length == rest.length && (N.zip rest).all fun p => match sc.names.lookup p.2 with
    | some .local => false
    | some .cell => false
    | some .free => p.1 == p.2
    | _ => true
theorem lamOk_is {sc osc : Scope} {x : Str} {N rest : List Str} (h : lamOk sc osc x N rest = true) : LamSc sc osc x N rest := by
  unfold lamOk at h
  simp only [Bool.and_eq_true, beq_iff_eq, List.all_eq_true, Bool.not_eq_true'] at h
  obtain ⟨⟨⟨⟨⟨⟨hk, hco⟩, hge⟩, hp⟩, hy⟩, hl⟩, hz⟩ := h
  refine ⟨hk, hco, hge, fun y z => ?_, hp, fun n z => ?_, hl, fun i y e v => ?_⟩
  · have := (hy _ z).1; simpa using this
  · have := (hy _ z).2; simpa using this
  · have hi : i < rest.length := (List.getElem?_eq_some_iff.mp e).1
    have hi' : i < N.length := by omega
    have hN : N[i]? = some N[i] := List.getElem?_eq_getElem hi'
    have hm : (N[i], y) ∈ N.zip rest := by
      refine List.mem_of_getElem? (i := i) ?_
      rw [List.getElem?_zip_eq_some]; exact ⟨hN, e⟩
    have q := hz _ hm
    dsimp only at q
    rcases v with v | v | v
    · rw [v] at q; simp at q
    · rw [v] at q; simp at q
    · rw [v] at q
      have q : N[i] = y := by simpa using q
      exact ⟨by rw [hN, q], PySem.mem_of_lookup v, v⟩
noncomputable def lamCx (X : Cx) (A : Around) (N' : List Str) (qual : Str) (scope : Scope) (f : Addr) (cd : Value) (cl : List (Str × Addr)) (s : Shared) (H : Hp) : Cx :=
  { X with A := A.deeper (envX qual scope s.heap.objs.size f cd cl), N := N', s₀ := s, H₀ := H, env := envX qual scope s.heap.objs.size f cd cl, outer := X.stack, stack := envX qual scope s.heap.objs.size f cd cl :: X.stack, ex := [], fn := fun _ => false, calm := true, pn := [], xe := fun _ _ => False }
section
variable {X : Cx} {pins : List (Addr × Obj)} {σ : St} {H : Hp} {s : Shared} {scope : Scope} {x : Str} {rest : List Str} {cl : List (Str × Addr)} {A : Around} {qual : Str} {f : Addr} {cd : Value}
theorem lam_start {u : Value} {v : V} {h' : Heap} {tk : Nat} (S : LamSc scope X.env.scope x X.N rest) (h1 : ∀ n c, cl.lookup n = some c → X.env.cells.lookup n = some c) (h2 : ∀ n, (n, NameKind.free) ∈ scope.names → ∃ c, cl.lookup n = some c)
    (I : Inv X pins σ H s) (hd : A.handled = none) (hfr : A.frames = X.A.frames) (r : RelV v u)
    (hns : h'.Ns s.heap.objs.size fun y => List.lookup y [(x, u)].reverse) (hk : ∀ b o, s.heap.get? b = some o → h'.get? b = some o) :
    Inv (lamCx X A (x :: rest) qual scope f cd cl s H) [] (some v :: σ) H { s with heap := h', toks := tk } := by
  have e0 := I.env0
  have noA : ∀ b : Addr, b ∉ (lamCx X A (x :: rest) qual scope f cd cl s H).ex := fun b z => absurd (show b ∈ ([] : List Addr) from z) (by simp)
  have cellI : ∀ y c, cl.lookup y = some c → ∃ w, s.heap.IsCell c w := fun y c e => I.cell y c (h1 y c e)
  have kc : ∀ {c : Addr} {w : Option Value}, s.heap.IsCell c w → h'.IsCell c w := fun ⟨o, e, d⟩ => ⟨o, hk _ o e, d⟩
  refine ⟨⟨e0.mod, S.kind, rfl, rfl, Nat.le_refl _, fun y z c q1 q2 => I.ok.inj y z c (h1 y c q1) (h1 z c q2), fun y hy => ?_, fun y c z _ => absurd (show false = true from z) (by simp), fun _ => hd, Around.frames_deeper (hfr.trans e0.frames), .inr ⟨rfl, rfl⟩, fun b z => absurd z (noA b), e0.bs, e0.bsz, fun b _ _ => noA b, fun b z => absurd z (noA b), e0.funs, e0.frf⟩,
    rfl, e0.bare, Un.kept hk, ⟨_, hns, fun i y w q1 q2 q3 => ?_⟩, fun y c e => ?_, e0.hok.fresh (Nat.le_refl _), fun y c e => ?_, fun p hp => absurd (show p ∈ ([] : List (Addr × Obj)) from hp) (by simp), e0.hok.kept hk, ?_⟩
  · have hy : scope.names.lookup y = some .cell ∨ scope.names.lookup y = some .free := hy
    rcases hy with hy | hy
    · exact absurd rfl (S.nocell _ (PySem.mem_of_lookup hy))
    · exact h2 y (PySem.mem_of_lookup hy)
  · cases i with
    | zero =>
      have e1 : x = y := Option.some.inj (show some x = some y from q1)
      have e2 : v = w := by simpa using q2
      subst e1; subst e2
      exact ⟨u, r, .inl ⟨S.par, by simp [List.lookup]⟩⟩
    | succ i =>
      have q1 : rest[i]? = some y := q1
      have q2 : σ[i]? = some (some w) := q2
      obtain ⟨hN, hf, hlk⟩ := S.look i y q1 q3
      have ho := S.free y hf
      obtain ⟨m, hn, hl⟩ := I.loc
      obtain ⟨u', rv, l⟩ := hl i y w hN q2 (ho.elim (fun z => .inr (.inl z)) fun z => .inr (.inr z))
      refine ⟨u', rv, .inr ⟨.inr hlk, ?_⟩⟩
      rcases l with ⟨k, _⟩ | ⟨_, c, e, z⟩
      · have k : X.env.scope.names.lookup y = some .local := k
        rcases ho with q | q <;> rw [q] at k <;> cases k
      · obtain ⟨c', e'⟩ := h2 y hf
        have := h1 y c' e'
        rw [e] at this; cases this
        exact ⟨c, e', kc z⟩
  · obtain ⟨w, z⟩ := cellI y c e
    exact ⟨w, kc z⟩
  · exact I.freeC y c (h1 y c e)
  · show σ.length + 1 = rest.length + 1
    rw [I.len, S.len]
theorem lam_call {name : Str} {params : Arguments} {body : Expr} {pm ctv : Value} {c' : Addr} {u : Value} {v : V} {tb : TE} {k : Int} (S : LamSc scope X.env.scope x X.N rest)
    (h1 : ∀ n c, cl.lookup n = some c → X.env.cells.lookup n = some c) (h2 : ∀ n, (n, NameKind.free) ∈ scope.names → ∃ c, cl.lookup n = some c)
    (I : Inv X pins σ H s) (hd : A.handled = none) (hfr : A.frames = X.A.frames) (hdp : A.depth < recursionLimit) (r : RelV v u)
    (hf : s.heap.get? f = some (kla_obj name qual params body scope cl pm c' ctv)) (hc : s.heap.CodeRec (.ref c') qual) (hbd : bindArgs (kla_fn name qual params body scope cl pm (.ref c') ctv) ⟨[u], []⟩ = pure [(x, u)])
    (hb : PE (lamCx X A (x :: rest) qual scope f (.ref c') cl s H) body tb) (h : tb (some v :: σ) H fun w H' => w = .int k ∧ H' = H) :
    wpAny (model X.prog X.w) A (call (.ref f) [u]) (fun u' s' => (∃ t, u' = .int k t) ∧ Inv X pins σ H s') (fun _ _ => False) s := by
  refine wpAny_call (kla_callFunE hdp hf rfl S.co S.gen rfl hc ?_)
  rw [hbd]
  refine wpAny_pure ?_
  refine wpAny_newFunctionEnv S.nocell (fun y hy => ?_) (fun h' hns hsb => ?_) S.kind
  · rw [List.mem_singleton.mp hy]; exact S.par
  · have hk : ∀ b o, s.heap.get? b = some o → h'.get? b = some o := fun b o e => (hsb.2 b (Nat.ne_of_lt (Heap.lt_size e))).trans (Heap.get?_push_of_some _ e)
    refine ⟨I.nolimit.keeps hk, kla_codeExpr ?_⟩
    have J := lam_start (qual := qual) (f := f) (cd := .ref c') (tk := s.toks + [(x, u)].length) S h1 h2 I hd hfr r hns hk
    refine wpAny_mono (hb [] _ _ H _ J h) (fun u' s' hs => ?_) fun _ _ hs => False.elim hs
    obtain ⟨w, H', J', rw', e1, e2⟩ := hs
    subst e1; subst e2
    have CEh : CE X.stack X.prog X.w H' s (fun w2 H2 => w2 = .int k ∧ H2 = H') u' s' := ⟨_, H', J'.os, J'.bare, J'.base, J'.hok, rw', rfl, rfl⟩
    obtain ⟨_, _, I2, rv, e1, e2⟩ := I.after CEh
    subst e1; subst e2
    exact ⟨rv, I2⟩
end
noncomputable def codO (c : Addr) (qual : Str) : HO := .ext fun h => h.CodeRec (.ref c) qual
noncomputable def Tab (P : Addr) (pos : Pos) (qual : Str) (H : Hp) : Prop :=
  H P = some (.tbl #[]) ∨ ∃ c, H P = some (.tbl #[rawInt pos.line, rawInt pos.col, .ref c]) ∧ H c = some (codO c qual)
theorem Tab.same {P : Addr} {pos : Pos} {qual : Str} {H H' : Hp} (t : Tab P pos qual H) (e : Same H H') : Tab P pos qual H' := by
  rcases t with t | ⟨c, t, q⟩
  · exact .inl (e _ _ t)
  · exact .inr ⟨c, e _ _ t, e _ _ q⟩
theorem Tab.tbl {P : Addr} {pos : Pos} {qual : Str} {H : Hp} (t : Tab P pos qual H) : ∃ ps, H P = some (.tbl ps) := by
  rcases t with t | ⟨c, t, q⟩ <;> exact ⟨_, t⟩
noncomputable def lamO (env : Env) (qual : Str) (params : Arguments) (body : Expr) (scope : Scope) (f c : Addr) : HO :=
  .ext fun h => ∃ cl pm ctv, closureFor scope env = pure cl ∧ h.get? f = some (kla_obj (Str.ofString "<lambda>") qual params body scope cl pm c ctv)
structure Makes (K : Frag) (mg : Str → Option Value) (cd : Value) (P : Addr) : Prop where
  code : ∃ c, cd = .ref c ∧ codeHdIn K c P = true
  main : mainGlobals ≠ P
class BAt (base : Heap) (mg : Str → Option Value) (P : Addr) : Prop where
  is : base.BuiltinsAt mg P
section
variable {X : Cx} {pins : List (Addr × Obj)} {σ : St} {H : Hp} {s : Shared} {scope : Scope} {params : Arguments} {body : Expr} {pos : Pos} {P : Addr} {E : Value → Shared → Prop}
theorem lam_make (M : Makes X.K X.mg X.env.code P) (BA : BAt X.base X.mg P) (I : Inv X pins σ H s) (hdf : defaultsOf params X.env = ([], [])) {cl : List (Str × Addr)} (hcl : closureFor scope X.env = pure cl) (T : Tab P pos (X.env.qual ++ Str.ofString "<lambda>") H) :
    wpAny (model X.prog X.w) X.A (eval (.Lambda params body scope pos) X.env)
      (fun u s' => ∃ f c H2, u = .ref f ∧ Inv X pins σ H2 s' ∧ SameBut P H H2 ∧ Tab P pos (X.env.qual ++ Str.ofString "<lambda>") H2 ∧ H2 f = some (lamO X.env (X.env.qual ++ Str.ofString "<lambda>") params body scope f c) ∧ H2 c = some (codO c (X.env.qual ++ Str.ofString "<lambda>"))) E s := by
  refine kla_eval hdf ?_
  generalize X.env.qual ++ Str.ofString "<lambda>" = qual at *
  obtain ⟨⟨c, hcd, hhd⟩, hmain⟩ := M
  obtain ⟨bm, ob, b1, b2, b3, b4, b5, b6⟩ := BA.is
  have hglob : s.heap.Ns mainGlobals X.mg := let ⟨o, es, ep, e, r⟩ := I.mod.glob; ⟨o, es, ep, I.bk _ _ e, r⟩
  have hB : s.heap.BuiltinsAt X.mg P := ⟨bm, ob, b1, b2, b3, b4, I.bk _ _ b5, b6⟩
  have stL : ∀ (g cc : Addr) (h1 h2 : Heap), (∃ cl pm ctv, closureFor scope X.env = pure cl ∧ h1.get? g = some (kla_obj (Str.ofString "<lambda>") qual params body scope cl pm cc ctv)) → (∀ o, h1.get? g = some o → h2.get? g = some o) →
      ∃ cl pm ctv, closureFor scope X.env = pure cl ∧ h2.get? g = some (kla_obj (Str.ofString "<lambda>") qual params body scope cl pm cc ctv) := fun g cc h1 h2 ⟨cl, pm, ctv, a, b⟩ k => ⟨cl, pm, ctv, a, k _ b⟩
  rcases T with T | ⟨c0, T, hc0⟩
  · have hP : s.heap.get? P = some (tabObj #[]) := I.hok P _ T
    refine kla_makeFunction hcl I.ok.glob hglob hcd (codeHd_of_K I.kIn hhd) hP True.intro rfl hmain hB fun c' ctv h' tk hx hc' hcl' hrec hP' => ?_
    have hsz : s.heap.objs.size ≤ h'.objs.size := Nat.le_of_lt (Nat.lt_of_le_of_lt hc' hcl')
    have ltP : P < s.heap.objs.size := Heap.lt_size hP
    have kk : ∀ b o, b ≠ P → s.heap.get? b = some o → (h'.push (kla_obj (Str.ofString "<lambda>") qual params body scope cl ((X.mg (Str.ofString "__name__")).getD Value.none) c' ctv)).get? b = some o := fun b o hb e => Heap.get?_push_of_some _ (hx b o hb e)
    have hfo : (h'.push (kla_obj (Str.ofString "<lambda>") qual params body scope cl ((X.mg (Str.ofString "__name__")).getD Value.none) c' ctv)).get? h'.objs.size = some (kla_obj (Str.ofString "<lambda>") qual params body scope cl ((X.mg (Str.ofString "__name__")).getD Value.none) c' ctv) := Heap.get?_push_size _ rfl
    have hPo : (h'.push (kla_obj (Str.ofString "<lambda>") qual params body scope cl ((X.mg (Str.ofString "__name__")).getD Value.none) c' ctv)).get? P = some (tabObj (#[] ++ #[rawInt pos.line, rawInt pos.col, .ref c'])) := Heap.get?_push_of_some _ hP'
    have hco : (h'.push (kla_obj (Str.ofString "<lambda>") qual params body scope cl ((X.mg (Str.ofString "__name__")).getD Value.none) c' ctv)).CodeRec (.ref c') qual := let ⟨a, b, d, e, f1, f2, f3⟩ := hrec; ⟨a, b, d, e, f1, Heap.get?_push_of_some _ f2, f3⟩
    generalize h'.push (kla_obj (Str.ofString "<lambda>") qual params body scope cl ((X.mg (Str.ofString "__name__")).getD Value.none) c' ctv) = h2 at *
    generalize h'.objs.size = f at *
    have hcP : c' ≠ P := Nat.ne_of_gt (Nat.lt_of_lt_of_le ltP hc')
    have hfP : f ≠ P := Nat.ne_of_gt (Nat.lt_of_lt_of_le ltP hsz)
    have hfc : f ≠ c' := Nat.ne_of_gt hcl'
    have nf : ∀ b u, H b = some u → b ≠ f ∧ b ≠ c' := fun b u e => ⟨Nat.ne_of_lt (Nat.lt_of_lt_of_le (I.hok.lt e) hsz), Nat.ne_of_lt (Nat.lt_of_lt_of_le (I.hok.lt e) hc')⟩
    let H2 : Hp := upd (upd (upd H P (.tbl #[rawInt pos.line, rawInt pos.col, .ref c'])) c' (codO c' qual)) f (lamO X.env qual params body scope f c')
    have e1 : H2 f = some (lamO X.env qual params body scope f c') := upd_same
    have e2 : H2 c' = some (codO c' qual) := (upd_ne hfc.symm).trans upd_same
    have e3 : H2 P = some (.tbl #[rawInt pos.line, rawInt pos.col, .ref c']) := (upd_ne hfP.symm).trans ((upd_ne hcP.symm).trans upd_same)
    have e4 : ∀ b, b ≠ f → b ≠ c' → b ≠ P → H2 b = H b := fun b z1 z2 z3 => (upd_ne z1).trans ((upd_ne z2).trans (upd_ne z3))
    have e5 : ∀ b u, b ≠ P → H b = some u → H2 b = some u := fun b u z e => (e4 b (nf b u e).1 (nf b u e).2 z).trans e
    refine ⟨f, c', H2, rfl, ?_, fun b u z e => e5 b u z e, .inr ⟨c', e3, e2⟩, e1, e2⟩
    have nP : ∀ b, H b = none → b ≠ P := fun b e z => by rw [z, T] at e; cases e
    refine I.step (g' := s.gens) (d' := s.drawn) (ch := []) (fun _ z => nomatch z) (fun b o _ _ _ e n => kk b o (nP b n) e) (fun b o _ _ _ e n => ⟨o.slots, kk b o (nP b n) e⟩) (fun b o _ e n => ?_) (fun b o _ e => ?_) (fun b xs e => e5 b _ (fun z => by rw [z, T] at e; cases e) e)
      (fun b o u e => e5 b _ (fun z => by rw [z, T] at e; cases e) e) (fun b ps e => ?_) (fun m hm => ?_) (fun b u e => ?_) I.bare
    · have lt := Heap.lt_size e
      rw [e4 b (Nat.ne_of_lt (Nat.lt_of_lt_of_le lt hsz)) (Nat.ne_of_lt (Nat.lt_of_lt_of_le lt hc')) (nP b n)]; exact n
    · by_cases hb : b = P
      · rw [hb]; exact ⟨_, hPo⟩
      · exact ⟨o, kk b o hb e⟩
    · by_cases hb : b = P
      · rw [hb, T] at e; cases e
        exact ⟨#[rawInt pos.line, rawInt pos.col, .ref c'], by rw [hb, e3]; simp⟩
      · exact ⟨#[], by rw [e5 b _ hb e]; simp⟩
    · obtain ⟨o, es, ep, e, r⟩ := hm
      exact ⟨o, es, ep, kk _ o (nP _ I.free) e, r⟩
    · by_cases z1 : b = f
      · rw [z1, e1] at e; cases e
        rw [z1]
        exact ⟨⟨cl, _, ctv, hcl, hfo⟩, ⟨_, hfo⟩, fun h1 h2 p k => stL f c' h1 h2 p k⟩
      · by_cases z2 : b = c'
        · rw [z2, e2] at e; cases e
          rw [z2]
          refine ⟨hco, ?_, fun h1 h2 p k => ?_⟩
          · obtain ⟨a, b, d, e, f1, f2, f3⟩ := hco
            cases f1; exact ⟨_, f2⟩
          · obtain ⟨a, b, d, e, f1, f2, f3⟩ := p
            cases f1; exact ⟨_, b, d, e, rfl, k _ f2, f3⟩
        · by_cases z3 : b = P
          · rw [z3, e3] at e; cases e
            rw [z3]
            exact hPo
          · rw [e4 b z1 z2 z3] at e
            refine (I.hok b u e).stay (fun d v hd q => kk d v ?_ q) (fun d q => e5 d _ (fun z => by rw [z, T] at q; cases q) q) (fun d xs q => e5 d _ (fun z => by rw [z, T] at q; cases q) q)
            rcases hd with z | z
            · rw [z]; exact z3
            · intro y; rw [y, T] at z; cases z
  · have hP : s.heap.get? P = some (tabObj #[rawInt pos.line, rawInt pos.col, .ref c0]) := I.hok P _ T
    refine kla_makeFunctionHit (cv := .ref c0) hcl I.ok.glob hglob hcd (codeHd_of_K I.kIn hhd) hP True.intro (by simp [codeAmong, rawInt]) hB fun ctv h' tk kp hsz => ?_
    have hfo : (h'.push (kla_obj (Str.ofString "<lambda>") qual params body scope cl ((X.mg (Str.ofString "__name__")).getD Value.none) c0 ctv)).get? h'.objs.size = some (kla_obj (Str.ofString "<lambda>") qual params body scope cl ((X.mg (Str.ofString "__name__")).getD Value.none) c0 ctv) := Heap.get?_push_size _ rfl
    have hn : H h'.objs.size = none := I.hok.fresh hsz
    have sm : Same H (upd H h'.objs.size (lamO X.env qual params body scope h'.objs.size c0)) := fun b u e => (upd_ne (ne_of_none e hn)).trans e
    refine ⟨h'.objs.size, c0, upd H h'.objs.size (lamO X.env qual params body scope h'.objs.size c0), rfl, I.laid (t' := tk) (fun b u e => Heap.get?_push_of_some _ (kp b u e)) hsz ?_, fun b u _ e => sm b u e, .inr ⟨c0, sm _ _ T, sm _ _ hc0⟩, upd_same, sm _ _ hc0⟩
    exact ⟨⟨cl, _, ctv, hcl, hfo⟩, ⟨_, hfo⟩, fun h1 h2 p k => stL _ c0 h1 h2 p k⟩
noncomputable def tSortLam (P : Addr) (pos : Pos) (qual : Str) (ta : TA) (tb : TE) : TE := fun σ H Q => ta σ H fun vs H1 => ∃ r n kz, vs = [V.ref r] ∧ H1 r = some (.rng 0 ((n : Nat) : Int)) ∧ n < 64 ∧ kz.length = n ∧ Tab P pos qual H1 ∧
  ∀ H2, SameBut P H1 H2 → Tab P pos qual H2 → (∀ i, i < n → tb (some (.int (i : Nat)) :: σ) H2 fun v H' => v = .int (kz.getD i 0) ∧ H' = H2) ∧ ∀ D, H2 D = none → Q (.ref D) (upd H2 D (.lst ((ordK kz).map fun i : Nat => V.int i)))
theorem boot_sorted : bootBuiltins "sorted" = some (.builtin "sorted") := rfl
theorem pe_sortLam {a : Expr} {ta : TA} {tb : TE} {p pos kp lp : Pos} {x : Str} (P : Addr) (rest : List Str) (M : Makes X.K X.mg X.env.code P) (BA : BAt X.base X.mg P) (hc : X.calm = true) (hex : X.ex = []) (hdp : X.A.depth < recursionLimit) (hg : Gl X "sorted") (hm : X.mg "sorted" = none) (hn : notStar a = true) (ha : PA X [a] ta)
    (hdf : defaultsOf params X.env = ([], [])) (S : LamSc scope X.env.scope x X.N rest) (hbd : ∀ qual cl pm c ctv u, bindArgs (kla_fn (Str.ofString "<lambda>") qual params body scope cl pm (.ref c) ctv) ⟨[u], []⟩ = pure [(x, u)])
    (hb : ∀ A f cd cl s H, PE (lamCx X A (x :: rest) (X.env.qual ++ Str.ofString "<lambda>") scope f cd cl s H) body tb) :
    PE X (.Call (.Name "sorted" p) [a] [⟨some "key", .Lambda params body scope lp, kp⟩] pos) (tSortLam P lp (X.env.qual ++ Str.ofString "<lambda>") ta tb) := by
  intro pins s σ H Q I h
  refine wpAny_Call_Name_kw (ld_blt I hg hm boot_sorted ?_)
  refine PyProof.Rows.callWith_kw (thn (ha pos pins s σ H _ I h) fun us s1 ⟨vs, H1, I1, r1, q1⟩ => ?_) (by rw [star_cons hn]; rfl) (by rw [star_cons hn]; rfl)
  obtain ⟨r, n, kz, rfl, hr, hn64, hkl, T, q2⟩ := q1
  obtain ⟨u1, rfl, ru⟩ := vals1 r1
  cases (show u1 = Value.ref r from ru)
  obtain ⟨cl, hcl, hc1, hc2⟩ := closure_of (scope := scope) (env := X.env) fun y z => I1.ok.has y (S.free y z)
  let te : TE := fun _ H' Q' => Tab P lp (X.env.qual ++ Str.ofString "<lambda>") H' ∧ ∀ f c H2, SameBut P H' H2 → Tab P lp (X.env.qual ++ Str.ofString "<lambda>") H2 → H2 f = some (lamO X.env (X.env.qual ++ Str.ofString "<lambda>") params body scope f c) → H2 c = some (codO c (X.env.qual ++ Str.ofString "<lambda>")) → Q' (.ref f) H2
  have he : PE X (.Lambda params body scope lp) te := fun pins s σ H Q I ⟨T, h⟩ => thn (lam_make M BA I hdf hcl T) fun u s' ⟨f, c, H2, e, I2, sb, T2, hf, hcc⟩ => ⟨.ref f, H2, I2, e, h f c H2 sb T2 hf hcc⟩
  refine thn ((pk_cons he pk_nil) pos pins s1 σ H1 (fun zs H2 => ∃ f c, zs = [V.ref f] ∧ SameBut P H1 H2 ∧ Tab P lp (X.env.qual ++ Str.ofString "<lambda>") H2 ∧ H2 f = some (lamO X.env (X.env.qual ++ Str.ofString "<lambda>") params body scope f c) ∧ H2 c = some (codO c (X.env.qual ++ Str.ofString "<lambda>"))) I1 ⟨T, fun f c H2 a1 a2 a3 a4 => ⟨f, c, rfl, a1, a2, a3, a4⟩⟩) fun ws s2 ⟨zs, H2, I2, rz, f, c, ez, sb, T2, hf, hcc⟩ => ?_
  subst ez
  obtain ⟨w', rfl, rw'⟩ := vals1 rz
  cases (show w' = Value.ref f from rw')
  have hr2 : H2 r = some (.rng 0 (n : Int)) := sb r _ (fun z => by
    obtain ⟨ps, e⟩ := T.tbl
    rw [z, e] at hr; cases hr) hr
  obtain ⟨qb, qq⟩ := q2 H2 sb T2
  refine sorted_rngK (bs := []) I2 hex hc hr2 hn64 hkl (fun _ z => nomatch z) (fun vs hi i v k hv hk pl s' J _ => ?_) qq
  have hin : i < n := by rw [← hkl]; exact (List.getElem?_eq_some_iff.mp hk).1
  obtain ⟨cl2, pm, ctv, hcl2, hfo⟩ := (show ObjOk X.prog X.w H2 s'.heap f (lamO X.env (X.env.qual ++ Str.ofString "<lambda>") params body scope f c) from J.hok f _ hf).1
  have hco : s'.heap.CodeRec (.ref c) (X.env.qual ++ Str.ofString "<lambda>") := (show ObjOk X.prog X.w H2 s'.heap c (codO c (X.env.qual ++ Str.ofString "<lambda>")) from J.hok c _ hcc).1
  have ecl : cl2 = cl := by
    have e : (pure cl2 : Sem (List (Str × Addr))) = pure cl := hcl2.symm.trans hcl
    injection e
  subst ecl
  obtain ⟨t, et⟩ := hi.get i (i : Int) (by rw [List.getElem?_map, List.getElem?_range hin]; rfl)
  rw [hv] at et
  cases et
  have ek : kz.getD i 0 = k := by rw [List.getD_eq_getElem?_getD, hk]; rfl
  refine wpAny_mono (lam_call (A := X.A.in1.in1) (v := .int (i : Nat)) (k := k) S hc1 hc2 J (I.ok.hd hc) rfl hdp ⟨t, rfl⟩ hfo hco (hbd _ _ _ _ _ _) (hb _ _ _ _ _ _) ?_) (fun u s3 hs => ⟨hs.1, hs.2, fun _ z => nomatch z⟩) fun _ _ z => z
  rw [← ek]
  exact qb i hin
end
end L2
namespace L2
open PySem PySem.Spec PyProof.Rows PySem.W
theorem Fun.okXM {P : Program} {w : World} {K : Frag} {mg : Str → Option Value} {base : Heap} {x qual : Str} {st : Stmt} {f PT : Addr} {fd : FuncData} {N ps : List Str} {k : Nat} {sp : Sp} (F : Fun K x qual st f fd) (M : Makes K mg fd.code PT) (S : FnScope N ps (defScope st)) (len : ∀ vs H Q E, sp vs H Q E → vs.length = ps.length)
    (hbody : ∀ (cdv : Value) (A : Around) (outer : List Env) (s : Shared) (H : Hp) (vs : List V) (Q : VK) (E : XK), Room k (A.deeper (envOfC qual (defScope st) s.heap.objs.size f cdv)) → Makes K mg cdv PT → sp vs H Q E →
      ∃ t, PSs (cxOf (CXE P w) P w K mg base N qual (defScope st) f cdv A outer s H E) (defBody st) t ∧ t { nx := fun _ H' => Q .non H', rt := Q } (start N vs) H) : FnOk P w K mg base (CXE P w) (k + 1) f fd ps sp := by
  obtain ⟨oc, od, kV, doc, pm, an, cdv, ct, osl, rfl, lk, hcd⟩ := F.ex
  exact fn_of lk hcd S len fun A outer s H vs Q E hr hsp => hbody cdv A outer s H vs Q E hr M hsp
theorem law_run {P : Program} {w : World} {K : Frag} {mg mb : Str → Option Value} {CX : CXT} {k : Nat} {fa a PT : Addr} {fd : FuncData} {x : Str} {sp : Sp} {s₁ : Shared} {H : Hp} {Q : VK} {E : XK}
    (KX : K.In s₁.heap) (hns : s₁.heap.Ns mainGlobals mg) (hb : s₁.heap.Ns builtinsNs mb) (hbb : ∀ x : Str, x ≠ "__name__" → mb x = bootBuiltins x) (hlim : s₁.heap.NoLimit) (hg : s₁.gens = #[]) (hr : Room k callerA)
    (hok : HOk P w H s₁.heap) (hK : ∀ b u, H b = some u → K.lookup b = none) (hD : ∀ b u o, H b = some u → s₁.heap.get? b = some o → ∀ es ep, o.data ≠ .dict es ep)
    (hBA : s₁.heap.BuiltinsAt mg PT) (hP : ∀ b u o, H b = some u → s₁.heap.get? b = some o → o.data ≠ .plain)
    (F : ∀ base : Heap, K.In base → base.Ns mainGlobals mg → BAt base mg PT → FnOk P w K mg base CX k fa fd [x] sp) (hbind : ∀ (s : Shared) (u : Value), BindsTo s fd ⟨[u], []⟩ [(x, u)]) (hsp : sp [.ref a] H Q E) :
    codeAny (model P w) callerA (.call (.ref fa) ⟨[.ref a], []⟩) (CR CX [] P w H s₁ Q E) s₁ := by
  have nsK : ∀ {b : Addr} {m : Str → Option Value}, s₁.heap.Ns b m → (hidT s₁.heap H).Ns b m := fun {b m} z => by
    obtain ⟨o, es, ep, e, d, r⟩ := z
    refine ⟨o, es, ep, hidT_get e ?_, d, r⟩
    cases q : H b with
    | none => rfl
    | some u => exact absurd d (hD b u o q e es ep)
  have kb : K.In (hidT s₁.heap H) := fun b o e => hidT_get (KX b o e) (by
    cases q : H b with
    | none => rfl
    | some u => rw [hK b u q] at e; cases e)
  have lim : (hidT s₁.heap H).NoLimit := by
    obtain ⟨mc, h1, h2⟩ := hlim
    exact ⟨mc, nsK h1, h2⟩
  have e0 : Env0 P w K mg (hidT s₁.heap H) callerA [] s₁ H :=
    { frames := rfl, mod := ⟨kb, nsK hns, ⟨mb, nsK hb, hbb⟩, lim⟩, bs := fun b o e => of_hidT e, bsz := by rw [hidT_size]; exact Nat.le_refl _, funs := trivial, frf := fun b z => absurd (show b ∈ ([] : List Addr) from z) (by simp), hok := hok, bare := .of_eq hg }
  have ba : BAt (hidT s₁.heap H) mg PT := ⟨by
    obtain ⟨bm, o, b1, b2, b3, b4, b5, b6, b7, b8⟩ := hBA
    refine ⟨bm, o, b1, b2, b3, b4, hidT_get b5 ?_, b6, b7, b8⟩
    cases q : H bm with
    | none => rfl
    | some u => exact absurd b8 (hP bm u o q b5)⟩
  exact (F _ kb (nsK hns) ba).run callerA [] s₁ H ⟨[.ref a], []⟩ [.ref a] [.ref a] Q E hr e0 (hbind s₁ (.ref a)) (.cons rfl .nil) hsp
theorem law_callT {P : Program} {w : World} {K : Frag} {mg mb : Str → Option Value} {k : Nat} {fa a PT : Addr} {fd : FuncData} {x : Str} {sp : Sp} {s₁ : Shared} {vs : List Value} {ns : List Int}
    (KX : K.In s₁.heap) (hns : s₁.heap.Ns mainGlobals mg) (hb : s₁.heap.Ns builtinsNs mb) (hbb : ∀ x : Str, x ≠ "__name__" → mb x = bootBuiltins x) (hlim : s₁.heap.NoLimit) (hg : s₁.gens = #[])
    (ha : s₁.heap.get? a = some { cls := .type "list", data := .seq vs.toArray }) (hi : IntsAre vs ns) (hl : ns.length ≤ sizeLine) (hr : Room k callerA)
    (hP : s₁.heap.get? PT = some (tabObj #[])) (hPK : K.lookup PT = none) (hPc : ∃ c, codeHdIn K c PT = true) (hBA : s₁.heap.BuiltinsAt mg PT)
    (F : ∀ base : Heap, K.In base → base.Ns mainGlobals mg → BAt base mg PT → FnOk P w K mg base CX0 k fa fd [x] sp) (hbind : ∀ (s : Shared) (u : Value), BindsTo s fd ⟨[u], []⟩ [(x, u)])
    (hsp : ∀ H : Hp, SqL K H a (ns.map V.int) → H PT = some (.tbl #[]) → sp [.ref a] H (fun v _ => v = .bl true) fun _ _ _ => False) :
    codeAny (model P w) callerA (.call (.ref fa) ⟨[.ref a], []⟩) (fun r s' => r = .ok (.ret (.bool true)) ∧ OldK s₁.heap s'.heap ∧ s'.os = s₁.os ∧ AllBare s'.gens) s₁ := by
  have rv := vals_ints hi
  have hne : a ≠ PT := fun z => by rw [z, hP] at ha; cases ha
  have hcode : isCodeTable s₁.heap PT := by
    obtain ⟨c, hc⟩ := hPc
    obtain ⟨o, vs, _, _, _, _, _, _, _, h1, h2, h3, h4, _⟩ := codeHd_of_K KX hc
    exact ⟨c, o, vs, h1, h2, h3, h4⟩
  have fin : ∀ (H : Hp), HOk P w H s₁.heap → H PT = some (.tbl #[]) → (∀ b u, H b = some u → b = PT ∨ ∃ o xs, u = .frz o (.lst xs)) → ∀ r s', CR CX0 [] P w H s₁ (fun v _ => v = .bl true) (fun _ _ _ => False) r s' → r = .ok (.ret (.bool true)) ∧ OldK s₁.heap s'.heap ∧ s'.os = s₁.os ∧ AllBare s'.gens := by
    intro H hok hPT hO r s' h
    match r, h with
    | .error e, h => exact h.elim
    | .ok .next, h => exact False.elim h
    | .ok .brk, h => exact False.elim h
    | .ok .cont, h => exact False.elim h
    | .ok (.ret u), h =>
      obtain ⟨v, H', os, bare, un, hok', r', q⟩ := h
      have q : v = .bl true := q
      subst q
      obtain rfl : u = Value.bool true := r'
      have nofs : ∀ b, b ∉ frs ([] : List Env) := fun b z => absurd (show b ∈ ([] : List Addr) from z) (by simp)
      refine ⟨rfl, ⟨fun b o e => ?_, fun b o e => un.there b o e (by simp)⟩, os, bare⟩
      cases q : H b with
      | none => exact .inl (un.keep b o e q (nofs b) (by simp))
      | some u =>
        rcases hO b u q with rfl | ⟨ob, xs, rfl⟩
        · rw [hP] at e; cases e
          obtain ⟨more, z⟩ := un.tbls _ _ hPT
          have z2 : s'.heap.get? _ = some { cls := .none, data := .fields (#[] ++ more) } := hok' _ _ z
          exact .inr (.inl ⟨hcode, rfl, #[], more, rfl, z2⟩)
        · have z := un.frzs b ob _ q
          have e1 := (hok b _ q).1
          have e2 := (hok' b _ z).1
          rw [e] at e1; cases e1
          exact .inl e2
  cases hk : K.lookup a with
  | some o =>
    have e := KX a o hk
    rw [ha] at e
    cases e
    let H : Hp := upd (fun _ => none) PT (.tbl #[])
    have hH : ∀ b u, H b = some u → b = PT ∧ u = .tbl #[] := fun b u e => by
      by_cases hb : b = PT
      · subst hb
        have e' : H b = some (.tbl #[]) := upd_same
        rw [e'] at e; cases e; exact ⟨rfl, rfl⟩
      · have e' : H b = none := upd_ne hb
        rw [e'] at e; cases e
    have hok : HOk P w H s₁.heap := fun b u e => by
      obtain ⟨rfl, rfl⟩ := hH b u e
      exact hP
    refine codeAny_mono (law_run (H := H) KX hns hb hbb hlim hg hr hok (fun b u e => ?_) (fun b u o e1 e2 es ep => ?_) hBA (fun b u o e1 e2 => ?_) F hbind (hsp H (.inr ⟨_, vs.toArray, _, hk, rfl, rfl, rfl, by rw [List.size_toArray, hi.length]; exact hl, by simpa using rv⟩) upd_same)) (fin H hok upd_same fun b u e => .inl (hH b u e).1)
    · rw [(hH b u e).1]; exact hPK
    · rw [(hH b u e1).1, hP] at e2; cases e2; simp
    · rw [(hH b u e1).1, hP] at e2; cases e2; simp
  | none =>
    let H : Hp := upd (upd (fun _ => none) PT (.tbl #[])) a (.frz { cls := .type "list", data := .seq vs.toArray } (.lst (ns.map V.int)))
    have hHa : H a = some (.frz { cls := .type "list", data := .seq vs.toArray } (.lst (ns.map V.int))) := upd_same
    have hHP : H PT = some (.tbl #[]) := (upd_ne hne.symm).trans upd_same
    have hH : ∀ b u, H b = some u → b = PT ∧ u = .tbl #[] ∨ b = a ∧ u = .frz { cls := .type "list", data := .seq vs.toArray } (.lst (ns.map V.int)) := fun b u e => by
      by_cases hb : b = PT
      · subst hb; rw [hHP] at e; cases e; exact .inl ⟨rfl, rfl⟩
      · by_cases hb2 : b = a
        · subst hb2; rw [hHa] at e; cases e; exact .inr ⟨rfl, rfl⟩
        · have e' : H b = none := (upd_ne hb2).trans (upd_ne hb)
          rw [e'] at e; cases e
    have hok : HOk P w H s₁.heap := fun b u e => by
      rcases hH b u e with ⟨rfl, rfl⟩ | ⟨rfl, rfl⟩
      · exact hP
      · exact ⟨ha, by rw [List.length_map]; exact hl, vs, _, rv, ha⟩
    refine codeAny_mono (law_run (H := H) KX hns hb hbb hlim hg hr hok (fun b u e => ?_) (fun b u o e1 e2 es ep => ?_) hBA (fun b u o e1 e2 => ?_) F hbind (hsp H (.inl (.inr ⟨_, hHa⟩)) hHP)) (fin H hok hHP fun b u e => (hH b u e).elim (fun z => .inl z.1) fun z => .inr ⟨_, _, z.2⟩)
    · rcases hH b u e with ⟨rfl, _⟩ | ⟨rfl, _⟩
      · exact hPK
      · exact hk
    · rcases hH b u e1 with ⟨rfl, _⟩ | ⟨rfl, _⟩
      · rw [hP] at e2; cases e2; simp
      · rw [ha] at e2; cases e2; simp
    · rcases hH b u e1 with ⟨rfl, _⟩ | ⟨rfl, _⟩
      · rw [hP] at e2; cases e2; simp
      · rw [ha] at e2; cases e2; simp
theorem walk_ofT {l : OpenLaw} {n k : Nat} {q : Program} {loose : List Str} {XP : (Str → Option Value) → Heap → Prop} {YP : World → Heap → Prop} {d : DefRec} {K : Params → Frag} {ts : List Addr} {sp : World → Addr → Sp} {x : Str}
    (hn : l.most = some n) (hn2 : n ≤ sizeLine) (hdf : d.params.defaults = []) (hr : Room k callerA)
    (hY : ∀ (w : World) (h : Heap), YP w h → (K w.params).In h ∧ ∀ P, P ∈ ts → h.get? P = some (tabObj #[]))
    (F : ∀ (w : World) (mg : Str → Option Value) (fa : Addr) (h : Heap), (K w.params).In h → h.Ns mainGlobals mg → mg d.name = some (.ref fa) →
      ∃ (fd : FuncData) (PT : Addr), (∀ (s : Shared) (u : Value), BindsTo s fd ⟨[u], []⟩ [(x, u)]) ∧ PT ∈ ts ∧ (K w.params).lookup PT = none ∧ (∃ c, codeHdIn (K w.params) c PT = true) ∧
        ∀ base : Heap, (K w.params).In base → base.Ns mainGlobals mg → BAt base mg PT → FnOk l.prog w (K w.params) mg base CX0 k fa fd [x] (sp w PT))
    (hsp : ∀ (w : World) (H : Hp) (a PT : Addr) (ns : List Int), ns.length ≤ n → SqL (K w.params) H a (ns.map V.int) → H PT = some (.tbl #[]) → sp w PT [.ref a] H (fun v _ => v = .bl true) fun _ _ _ => False) :
    WalkO q loose XP YP l.row.toRowW d [] (fun f vs => PySem.call f vs) := by
  refine Att.attach_call hn hdf fun w s₀ s₁ mg mb fa o pm cd doc a vs ns G Y ho hd hcd hmg hobj hints hlen hg => ?_
  obtain ⟨KX, tabs⟩ := hY w _ Y
  obtain ⟨fd, PT, hb, hPt, hPK, hPc, hF⟩ := F w mg fa _ KX G.T.g hmg
  have hBA : s₁.heap.BuiltinsAt mg PT := by
    obtain ⟨bm, ob, b1, b2, b3, b4, b5, b6⟩ := G.T.bmain
    refine ⟨bm, ob, b1, b2, fun q => ?_, fun q => ?_, b3, b4, b5, b6⟩
    · obtain ⟨o, es, ep, e, hd, _⟩ := G.T.g
      rw [q, e] at b3; cases b3; rw [hd] at b6; cases b6
    · have e := tabs PT hPt
      rw [q, e] at b3; cases b3; cases b4
  exact law_callT KX G.T.g G.T.b G.T.builtins G.T.nolimit hg hobj hints (Nat.le_trans hlen hn2) hr (tabs PT hPt) hPK hPc hBA hF hb fun H hS hT => hsp w H a PT ns hlen hS hT
end L2
set_option maxHeartbeats 4000000
namespace L2
open PySem PySem.Spec PyProof.Rows
section
variable {X : Cx}
noncomputable def rMaxL (K : PySem.W.Frag) : List V → Hp → VK → Prop := fun xs H Q => ∃ l, ∃ zs : List Int, xs = [.ref l] ∧ SqL K H l (zs.map V.int) ∧ zs ≠ [] ∧ ∀ m ∈ zs, (∀ z ∈ zs, z ≤ m) → Q (.int m) H
theorem call_maxL (hc : X.calm = true) : CallR X (.builtin "max") (rMaxL X.K) := by
  intro pins s σ H xs us Q I r h
  obtain ⟨l, zs, rfl, hq, hne, q⟩ := h
  obtain ⟨lv, rfl, rl⟩ := vals1 r
  cases (show lv = Value.ref l from rl)
  obtain ⟨its, r', pl, hz⟩ := I.list hq
  have hl := r'.length
  rw [List.length_map] at hl
  have hpos : 0 < zs.length := List.length_pos_iff.mpr hne
  obtain ⟨ol, hol, hcl⟩ := id pl.isList
  have ll : l < s.heap.objs.size := Heap.lt_size hol
  refine call_max_walk (wpAny_pyIter_list pl.isList ⟨s.heap.objs.size, _, _, _, _, _, _, rfl, Walks.list (by simp [I.ok.hd hc]) s.heap.objs.size l (Nat.ne_of_lt ll) its.toArray, ⟨⟨_, Heap.get?_push_size _ rfl, rfl, rfl⟩, pl.isList.push _⟩, ?_, by rw [List.size_toArray]; omega, CmpOf.ints_gt (fun i => zs.getD i 0) (fun i v hv => (int_val r' hv).2), fun v h' tk hv hk => ?_⟩)
  · intro b hb
    rw [Heap.size_push]
    simp only [List.mem_cons, List.not_mem_nil, or_false] at hb
    rcases hb with rfl | rfl
    · exact Nat.lt_succ_self _
    · exact Nat.lt_succ_of_lt ll
  · obtain ⟨h1, h2⟩ := argBest_gt (fun i => zs.getD i 0) (its.toArray.size - 1)
    obtain ⟨t, rfl⟩ := (int_val r' hv).2
    rw [List.size_toArray, ← hl] at h1 h2 ⊢
    generalize argBest (fun i j => decide (zs.getD i 0 > zs.getD j 0)) (zs.length - 1) = k at *
    have hk2 : k < zs.length := by omega
    have ek : zs.getD k 0 = zs[k] := getD_at (List.getElem?_eq_getElem hk2)
    refine ⟨.int (zs.getD k 0), H, I.kept (t' := tk) fun b o hb => ?_, ⟨_, rfl⟩, q _ (by rw [ek]; exact List.getElem_mem hk2) fun z hz => ?_⟩
    · refine hk b o ?_ (Heap.get?_push_of_some _ hb)
      simp only [List.mem_cons, List.not_mem_nil, or_false]
      exact Nat.ne_of_lt (Heap.lt_size hb)
    · obtain ⟨j, hj⟩ := List.mem_iff_getElem?.mp hz
      have hjl := (List.getElem?_eq_some_iff.mp hj).1
      have := h2 j (by omega)
      rw [getD_at hj] at this
      exact this
theorem k_maxL {K : PySem.W.Frag} (e : X.K = K) (hc : X.calm = true) : CallR X (.builtin "max") (rMaxL K) := by subst e; exact call_maxL hc
noncomputable def rIndexI (K : PySem.W.Frag) : V → List V → Hp → VK → Prop := fun x vs H Q => ∃ l, ∃ ns : List Int, ∃ z, ∃ j : Nat, x = .ref l ∧ vs = [.int z] ∧ SqL K H l (ns.map V.int) ∧ ns[j]? = some z ∧ (∀ m, m < j → ns[m]? ≠ some z) ∧ Q (.int j) H
theorem mt_indexI : MtR X "list.index" (rIndexI X.K) := by
  intro pins s σ H x vs v us Q I rx rv h
  obtain ⟨l, ns, z, j, rfl, rfl, hq, hj, hno, q⟩ := h
  cases rx
  obtain ⟨u, rfl, ru⟩ := vals1 rv
  obtain ⟨tz, rfl⟩ := ru
  obtain ⟨its, rvs, pl, hz⟩ := I.list hq
  obtain ⟨⟨c1, d1, t1, sl1⟩, e1, hc, n1, hd⟩ := pl.isList
  cases (show c1 = .type "list" from hc)
  cases (show t1 = .seq its.toArray n1 from hd)
  have hget : ∀ (m : Nat) y, its[m]? = some y → ∃ w t, ns[m]? = some w ∧ y = Value.int w t := fun m y hy => by
    have hm : m < (ns.map V.int).length := by rw [rvs.length]; exact (List.getElem?_eq_some_iff.mp hy).1
    obtain ⟨u', hu', ru'⟩ := rvs.get (i := m) (x := (ns.map V.int)[m]) (List.getElem?_eq_getElem hm)
    rw [hy] at hu'
    cases hu'
    rw [List.getElem_map] at ru'
    obtain ⟨t, rfl⟩ := ru'
    exact ⟨_, t, List.getElem?_eq_getElem (by simpa using hm), rfl⟩
  have hjl : j < its.length := by rw [← rvs.length, List.length_map]; exact (List.getElem?_eq_some_iff.mp hj).1
  have hlen : (ns.map V.int).length ≤ sizeLine := hz
  have hsm : (j : Int) < 2 ^ 63 - 1 := by
    have h2 : its.length ≤ sizeLine := by rw [← rvs.length]; exact hlen
    rw [sizeLine_eq] at h2
    omega
  let e : Value → Bool := fun v => match v with
    | .int w _ => w == z
    | _ => false
  refine call_meets F.slot_list_index ⟨_, e1, rfl⟩ F.entry_list_index (F.args_list_index_2 _ _) (SeqAt.list_indexAt l its.toArray n1 d1 sl1 (.int z tz) e j (by simpa using hjl) hsm ?_ ?_) ⟨e1, fun y hy => ?_, ?_⟩
  · obtain ⟨w, t, h1, h2⟩ := hget j its[j] (List.getElem?_eq_getElem hjl)
    rw [hj] at h1
    cases h1
    show e its.toArray[j] = true
    rw [List.getElem_toArray, h2]
    show (z == z) = true
    simp
  · intro m hm hmj
    have hm' : m < its.length := by simpa using hm
    obtain ⟨w, t, h1, h2⟩ := hget m its[m] (List.getElem?_eq_getElem hm')
    show e its.toArray[m] = false
    rw [List.getElem_toArray, h2]
    show (w == z) = false
    rw [beq_eq_false_iff_ne]
    intro z'
    exact hno m hmj (by rw [h1, z'])
  · have hy' : y ∈ its := by simpa using hy
    obtain ⟨m, hm⟩ := List.mem_iff_getElem?.mp hy'
    obtain ⟨w, t, h1, rfl⟩ := hget m y hm
    exact SeqAt.EqAt.int_int _ _ _ _
  · exact ⟨.int j, H, I.tok _, ⟨_, rfl⟩, q⟩
theorem k_indexI {K : PySem.W.Frag} (e : X.K = K) : MtR X "list.index" (rIndexI K) := by subst e; exact mt_indexI
end
end L2
namespace NS
open PySem L2
seal L2.PE L2.PT L2.PA L2.PS L2.PSs L2.PG L2.PI L2.PTs L2.PW L2.PO L2.PGs L2.PPs L2.OpR L2.CallR L2.IxR L2.SlR L2.UnR L2.PSet
noncomputable def top (i : Nat) : Stmt := PySem.Challenge.pw_crosshall_k35_dealt_by_weights.main.body.getD i (.Pass ⟨0, 0, 0, 0⟩)
noncomputable abbrev s_dealt : Stmt := top 8
noncomputable abbrev s_l_draw : Stmt := top 10
noncomputable abbrev s_l_weights : Stmt := top 11
noncomputable abbrev s_l_due : Stmt := top 12
noncomputable abbrev s_l_told : Stmt := top 13
noncomputable abbrev s_l_wholes : Stmt := top 14
noncomputable abbrev s_law : Stmt := top 15
theorem sc_dealt : FnScope ["weights", "many", "whole", "told", "order", "left", "at"] ["weights", "many"] (defScope s_dealt) := ⟨rfl, rfl, rfl, by decide +kernel, rfl, by decide +kernel, by decide +kernel⟩
theorem sc_l_draw : FnScope ["_law_script", "_law_k", "_law_many", "_law_number"] ["_law_script", "_law_k", "_law_many"] (defScope s_l_draw) := ⟨rfl, rfl, rfl, by decide +kernel, rfl, by decide +kernel, by decide +kernel⟩
theorem sc_l_weights : FnScope ["_law_script", "_law_size", "_law_weights_here", "_law_k", "_law_way", "_law_weight"] ["_law_script", "_law_size"] (defScope s_l_weights) := ⟨rfl, rfl, rfl, by decide +kernel, rfl, by decide +kernel, by decide +kernel⟩
theorem sc_l_due : FnScope ["_law_weights_here", "_law_many", "_law_whole", "_law_told_here", "_law_rests", "_law_turn", "_law_k"] ["_law_weights_here", "_law_many"] (defScope s_l_due) := ⟨rfl, rfl, rfl, by decide +kernel, rfl, by decide +kernel, by decide +kernel⟩
theorem sc_l_told : FnScope ["_law_weights_here", "_law_many", "_law_found", "_law_kinds", "e"] ["_law_weights_here", "_law_many"] (defScope s_l_told) := ⟨rfl, rfl, rfl, by decide +kernel, rfl, by decide +kernel, by decide +kernel⟩
theorem sc_l_wholes : FnScope ["_law_found"] ["_law_found"] (defScope s_l_wholes) := ⟨rfl, rfl, rfl, by decide +kernel, rfl, by decide +kernel, by decide +kernel⟩
theorem sc_law : FnScope ["_law_script", "_law_size", "_law_weights_here", "_law_way", "_law_many", "_law_handed", "_law_told_here", "_law_due_here", "_law_k", "_law_off"] ["_law_script"] (defScope s_law) := ⟨rfl, rfl, rfl, by decide +kernel, rfl, by decide +kernel, by decide +kernel⟩
structure Txt (K : PySem.W.Frag) (mg : Str → Option Value) (f : Nat → Addr) (fd : Nat → FuncData) : Prop where
  d_dealt : DefOk K mg "dealt" s_dealt ["weights", "many"] (f 8) (fd 8)
  d_l_draw : DefOk K mg "_law_draw" s_l_draw ["_law_script", "_law_k", "_law_many"] (f 10) (fd 10)
  d_l_weights : DefOk K mg "_law_weights" s_l_weights ["_law_script", "_law_size"] (f 11) (fd 11)
  d_l_due : DefOk K mg "_law_due" s_l_due ["_law_weights_here", "_law_many"] (f 12) (fd 12)
  d_l_told : DefOk K mg "_law_told" s_l_told ["_law_weights_here", "_law_many"] (f 13) (fd 13)
  d_l_wholes : DefOk K mg "_law_wholes" s_l_wholes ["_law_found"] (f 14) (fd 14)
  d_law : DefOk K mg "law" s_law ["_law_script"] (f 15) (fd 15)
  x_CrossError : ExcM mg "CrossError" (f 1)
  x_NoView : ExcM mg "NoView" (f 2)
  x_NoNet : ExcM mg "NoNet" (f 3)
  x_NoGroups : ExcM mg "NoGroups" (f 5)
  x_NoVeil : ExcM mg "NoVeil" (f 6)
  x_NoWhole : ExcOk K mg "NoWhole" (f 4) none
  ki_NoWhole_CrossError : PySem.W.kitOne K (.ref (f 4)) (.ref (f 1)) = some true
  ki_NoWhole_NoView : PySem.W.kitOne K (.ref (f 4)) (.ref (f 2)) = some false
  ki_NoWhole_NoNet : PySem.W.kitOne K (.ref (f 4)) (.ref (f 3)) = some false
  su_NoWhole_NoWhole : subB K (f 4) (f 4) = true
  ki_NoWhole_NoWhole : PySem.W.kitOne K (.ref (f 4)) (.ref (f 4)) = some true
  ki_NoWhole_NoGroups : PySem.W.kitOne K (.ref (f 4)) (.ref (f 5)) = some false
  ki_NoWhole_NoVeil : PySem.W.kitOne K (.ref (f 4)) (.ref (f 6)) = some false
  kv_NoWhole : PySem.W.kitOne K (.ref (f 4)) (.type "ValueError") = some true
  n_ValueError : mg "ValueError" = none
  n_all : mg "all" = none
  n_bool : mg "bool" = none
  n_int : mg "int" = none
  n_isinstance : mg "isinstance" = none
  n_len : mg "len" = none
  n_list : mg "list" = none
  n_max : mg "max" = none
  n_range : mg "range" = none
  n_sorted : mg "sorted" = none
  n_sum : mg "sum" = none
  lam_dealt : Makes K mg (fd 8).code (f 900)
  tab_dealt : K.lookup (f 900) = none
theorem len0 {α : Type} {C : List α → Prop} (h : C []) (us : List α) (e : us.length = 0) : C us := (List.length_eq_zero_iff.mp e) ▸ h
theorem lenS {α : Type} {n : Nat} {C : List α → Prop} (h : ∀ (a : α) (us : List α), us.length = n → C (a :: us)) (us : List α) (e : us.length = n + 1) : C us := by
  cases us with
  | nil => cases e
  | cons a r => exact h a r (Nat.succ.inj e)
theorem lenB1 {fd : FuncData} {ps : List Str} (h : ∀ a : Value, bindArgs fd ⟨[a], []⟩ = pure (ps.zip [a])) (us : List Value) (e : us.length = 1) : bindArgs fd ⟨us, []⟩ = pure (ps.zip us) := by
  revert us
  exact lenS fun a => len0 (h a)
theorem lenB2 {fd : FuncData} {ps : List Str} (h : ∀ a b : Value, bindArgs fd ⟨[a, b], []⟩ = pure (ps.zip [a, b])) (us : List Value) (e : us.length = 2) : bindArgs fd ⟨us, []⟩ = pure (ps.zip us) := by
  revert us
  exact lenS fun a => lenS fun b => len0 (h a b)
theorem lenB3 {fd : FuncData} {ps : List Str} (h : ∀ a b c : Value, bindArgs fd ⟨[a, b, c], []⟩ = pure (ps.zip [a, b, c])) (us : List Value) (e : us.length = 3) : bindArgs fd ⟨us, []⟩ = pure (ps.zip us) := by
  revert us
  exact lenS fun a => lenS fun b => lenS fun c => len0 (h a b c)
theorem txt_mk {K : PySem.W.Frag} {h : Heap} {mg : Str → Option Value} (X : K.In h) (G : h.Ns mainGlobals mg)
    {f8 : Addr} {od8 an8 : Option Addr} {sl8 : Array (Option Value)} {oc8 kV8 dc8 pm8 cd8 ct8 : Value}
    {f10 : Addr} {od10 an10 : Option Addr} {sl10 : Array (Option Value)} {oc10 kV10 dc10 pm10 cd10 ct10 : Value}
    {f11 : Addr} {od11 an11 : Option Addr} {sl11 : Array (Option Value)} {oc11 kV11 dc11 pm11 cd11 ct11 : Value}
    {f12 : Addr} {od12 an12 : Option Addr} {sl12 : Array (Option Value)} {oc12 kV12 dc12 pm12 cd12 ct12 : Value}
    {f13 : Addr} {od13 an13 : Option Addr} {sl13 : Array (Option Value)} {oc13 kV13 dc13 pm13 cd13 ct13 : Value}
    {f14 : Addr} {od14 an14 : Option Addr} {sl14 : Array (Option Value)} {oc14 kV14 dc14 pm14 cd14 ct14 : Value}
    {f15 : Addr} {od15 an15 : Option Addr} {sl15 : Array (Option Value)} {oc15 kV15 dc15 pm15 cd15 ct15 : Value}
    {f1 : Addr}
    {f2 : Addr}
    {f3 : Addr}
    {f4 : Addr}
    {f5 : Addr}
    {f6 : Addr}
    (a1 : PySem.W.nsIn K mainGlobals "CrossError" = some (some (.ref f1)))
    (a2 : PySem.W.nsIn K mainGlobals "NoView" = some (some (.ref f2)))
    (a3 : PySem.W.nsIn K mainGlobals "NoNet" = some (some (.ref f3)))
    (a4 : PySem.W.nsIn K mainGlobals "NoWhole" = some (some (.ref f4)))
    (a5 : PySem.W.nsIn K mainGlobals "NoGroups" = some (some (.ref f5)))
    (a6 : PySem.W.nsIn K mainGlobals "NoVeil" = some (some (.ref f6)))
    (a8 : PySem.W.nsIn K mainGlobals "dealt" = some (some (.ref f8)))
    (l8 : K.lookup f8 = some ⟨oc8, od8, .func (PySem.W.fnOf "dealt" "dealt" (defArgs s_dealt) (defBody s_dealt) (defScope s_dealt) .none kV8 dc8 pm8 an8 cd8 ct8), sl8⟩) (c8 : PySem.W.codeIn K cd8 "dealt" = true) (k8 : PySem.W.keepIn K (.ref f8) = true)
    (a10 : PySem.W.nsIn K mainGlobals "_law_draw" = some (some (.ref f10)))
    (l10 : K.lookup f10 = some ⟨oc10, od10, .func (PySem.W.fnOf "_law_draw" "_law_draw" (defArgs s_l_draw) (defBody s_l_draw) (defScope s_l_draw) .none kV10 dc10 pm10 an10 cd10 ct10), sl10⟩) (c10 : PySem.W.codeIn K cd10 "_law_draw" = true) (k10 : PySem.W.keepIn K (.ref f10) = true)
    (a11 : PySem.W.nsIn K mainGlobals "_law_weights" = some (some (.ref f11)))
    (l11 : K.lookup f11 = some ⟨oc11, od11, .func (PySem.W.fnOf "_law_weights" "_law_weights" (defArgs s_l_weights) (defBody s_l_weights) (defScope s_l_weights) .none kV11 dc11 pm11 an11 cd11 ct11), sl11⟩) (c11 : PySem.W.codeIn K cd11 "_law_weights" = true) (k11 : PySem.W.keepIn K (.ref f11) = true)
    (a12 : PySem.W.nsIn K mainGlobals "_law_due" = some (some (.ref f12)))
    (l12 : K.lookup f12 = some ⟨oc12, od12, .func (PySem.W.fnOf "_law_due" "_law_due" (defArgs s_l_due) (defBody s_l_due) (defScope s_l_due) .none kV12 dc12 pm12 an12 cd12 ct12), sl12⟩) (c12 : PySem.W.codeIn K cd12 "_law_due" = true) (k12 : PySem.W.keepIn K (.ref f12) = true)
    (a13 : PySem.W.nsIn K mainGlobals "_law_told" = some (some (.ref f13)))
    (l13 : K.lookup f13 = some ⟨oc13, od13, .func (PySem.W.fnOf "_law_told" "_law_told" (defArgs s_l_told) (defBody s_l_told) (defScope s_l_told) .none kV13 dc13 pm13 an13 cd13 ct13), sl13⟩) (c13 : PySem.W.codeIn K cd13 "_law_told" = true) (k13 : PySem.W.keepIn K (.ref f13) = true)
    (a14 : PySem.W.nsIn K mainGlobals "_law_wholes" = some (some (.ref f14)))
    (l14 : K.lookup f14 = some ⟨oc14, od14, .func (PySem.W.fnOf "_law_wholes" "_law_wholes" (defArgs s_l_wholes) (defBody s_l_wholes) (defScope s_l_wholes) .none kV14 dc14 pm14 an14 cd14 ct14), sl14⟩) (c14 : PySem.W.codeIn K cd14 "_law_wholes" = true) (k14 : PySem.W.keepIn K (.ref f14) = true)
    (a15 : PySem.W.nsIn K mainGlobals "law" = some (some (.ref f15)))
    (l15 : K.lookup f15 = some ⟨oc15, od15, .func (PySem.W.fnOf "law" "law" (defArgs s_law) (defBody s_law) (defScope s_law) .none kV15 dc15 pm15 an15 cd15 ct15), sl15⟩) (c15 : PySem.W.codeIn K cd15 "law" = true) (k15 : PySem.W.keepIn K (.ref f15) = true)
    (x_NoWhole_e : exB K f4 none = true)
    (x_NoWhole_kp : PySem.W.keepIn K (.ref f4) = true)
    (x_NoWhole_ga : PySem.W.findIn K (.ref f4) "__getattribute__" = some (some (.builtin "BaseException.__getattribute__")))
    (x_NoWhole_gh : PySem.W.findIn K (.ref f4) "__getattr__" = some none)
    (x_NoWhole_ba : PySem.W.mroIn K f4 (.type "BaseException") = some true)
    (x_NoWhole_ob : PySem.W.mroIn K f4 (.type "object") = some true)
    (x_NoWhole_hd : PySem.W.hasDictIn K f4 = true)
    (x_NoWhole_cl : PySem.W.findIn K (.ref f4) "__class__" = some (some (.builtin "object.__class__")))
    (x_NoWhole_cg : PySem.W.specialIn K (.builtin "object.__class__") "__get__" = some (some (.builtin "getset_descriptor.__get__")))
    (x_NoWhole_ct : PySem.W.takesIn K (.builtin "object.__class__") = some true)
    (x_NoWhole_sa : PySem.W.findIn K (.ref f4) "__setattr__" = some (some (.builtin "object.__setattr__")))
    (v_ki_NoWhole_CrossError : PySem.W.kitOne K (.ref f4) (.ref f1) = some true)
    (v_ki_NoWhole_NoView : PySem.W.kitOne K (.ref f4) (.ref f2) = some false)
    (v_ki_NoWhole_NoNet : PySem.W.kitOne K (.ref f4) (.ref f3) = some false)
    (v_su_NoWhole_NoWhole : subB K f4 f4 = true)
    (v_ki_NoWhole_NoWhole : PySem.W.kitOne K (.ref f4) (.ref f4) = some true)
    (v_ki_NoWhole_NoGroups : PySem.W.kitOne K (.ref f4) (.ref f5) = some false)
    (v_ki_NoWhole_NoVeil : PySem.W.kitOne K (.ref f4) (.ref f6) = some false)
    (v_kv_NoWhole : PySem.W.kitOne K (.ref f4) (.type "ValueError") = some true)
    (z_ValueError : PySem.W.nsIn K mainGlobals "ValueError" = some none)
    (z_all : PySem.W.nsIn K mainGlobals "all" = some none)
    (z_bool : PySem.W.nsIn K mainGlobals "bool" = some none)
    (z_int : PySem.W.nsIn K mainGlobals "int" = some none)
    (z_isinstance : PySem.W.nsIn K mainGlobals "isinstance" = some none)
    (z_len : PySem.W.nsIn K mainGlobals "len" = some none)
    (z_list : PySem.W.nsIn K mainGlobals "list" = some none)
    (z_max : PySem.W.nsIn K mainGlobals "max" = some none)
    (z_range : PySem.W.nsIn K mainGlobals "range" = some none)
    (z_sorted : PySem.W.nsIn K mainGlobals "sorted" = some none)
    (z_sum : PySem.W.nsIn K mainGlobals "sum" = some none)
    {f900 c900 : Addr} {vs900 : Array Value} {odc900 : Option Addr} {slc900 : Array (Option Value)} {ts : List Addr}
    (q1_900 : cd8 = .ref c900) (q2_900 : K.lookup c900 = some ⟨.type "code", odc900, .fields vs900, slc900⟩) (q3_900 : vs900[11]? = some (.ref f900)) (q4_900 : PySem.W.codeHdIn K c900 f900 = true) (q5_900 : mainGlobals ≠ f900) (q9_900 : K.lookup f900 = none) (qt_900 : f900 ∈ ts)
    : ∃ f fd, Txt K mg f fd ∧ f 900 ∈ ts ∧ f 15 = f 15 ∧ ∃ kV dc pm an cd ct, fd 15 = PySem.W.fnOf "law" "law" (defArgs s_law) (defBody s_law) (defScope s_law) .none kV dc pm an cd ct := by
  refine ⟨fun i => match i with | 8 => f8 | 10 => f10 | 11 => f11 | 12 => f12 | 13 => f13 | 14 => f14 | 15 => f15 | 1 => f1 | 2 => f2 | 3 => f3 | 4 => f4 | 5 => f5 | 6 => f6 | 900 => f900 | _ => 0, fun i => match i with | 8 => PySem.W.fnOf "dealt" "dealt" (defArgs s_dealt) (defBody s_dealt) (defScope s_dealt) .none kV8 dc8 pm8 an8 cd8 ct8 | 10 => PySem.W.fnOf "_law_draw" "_law_draw" (defArgs s_l_draw) (defBody s_l_draw) (defScope s_l_draw) .none kV10 dc10 pm10 an10 cd10 ct10 | 11 => PySem.W.fnOf "_law_weights" "_law_weights" (defArgs s_l_weights) (defBody s_l_weights) (defScope s_l_weights) .none kV11 dc11 pm11 an11 cd11 ct11 | 12 => PySem.W.fnOf "_law_due" "_law_due" (defArgs s_l_due) (defBody s_l_due) (defScope s_l_due) .none kV12 dc12 pm12 an12 cd12 ct12 | 13 => PySem.W.fnOf "_law_told" "_law_told" (defArgs s_l_told) (defBody s_l_told) (defScope s_l_told) .none kV13 dc13 pm13 an13 cd13 ct13 | 14 => PySem.W.fnOf "_law_wholes" "_law_wholes" (defArgs s_l_wholes) (defBody s_l_wholes) (defScope s_l_wholes) .none kV14 dc14 pm14 an14 cd14 ct14 | 15 => PySem.W.fnOf "law" "law" (defArgs s_law) (defBody s_law) (defScope s_law) .none kV15 dc15 pm15 an15 cd15 ct15 | _ => PySem.W.fnOf "law" "law" (defArgs s_law) (defBody s_law) (defScope s_law) .none kV15 dc15 pm15 an15 cd15 ct15, ⟨?_, ?_, ?_, ?_, ?_, ?_, ?_, ?_, ?_, ?_, ?_, ?_, ?_, ?_, ?_, ?_, ?_, ?_, ?_, ?_, ?_, ?_, ?_, ?_, ?_, ?_, ?_, ?_, ?_, ?_, ?_, ?_, ?_, ?_⟩, qt_900, rfl, _, _, _, _, _, _, rfl⟩
  · exact (by have F := fun_mk (st := s_dealt) l8 c8 k8; exact ⟨F, F.binds (ps := ["weights", "many"]) fun _ _ _ _ _ _ us hl => lenB2 (fun _ _ => rfl) us hl, PySem.W.mg_of X G a8⟩)
  · exact (by have F := fun_mk (st := s_l_draw) l10 c10 k10; exact ⟨F, F.binds (ps := ["_law_script", "_law_k", "_law_many"]) fun _ _ _ _ _ _ us hl => lenB3 (fun _ _ _ => rfl) us hl, PySem.W.mg_of X G a10⟩)
  · exact (by have F := fun_mk (st := s_l_weights) l11 c11 k11; exact ⟨F, F.binds (ps := ["_law_script", "_law_size"]) fun _ _ _ _ _ _ us hl => lenB2 (fun _ _ => rfl) us hl, PySem.W.mg_of X G a11⟩)
  · exact (by have F := fun_mk (st := s_l_due) l12 c12 k12; exact ⟨F, F.binds (ps := ["_law_weights_here", "_law_many"]) fun _ _ _ _ _ _ us hl => lenB2 (fun _ _ => rfl) us hl, PySem.W.mg_of X G a12⟩)
  · exact (by have F := fun_mk (st := s_l_told) l13 c13 k13; exact ⟨F, F.binds (ps := ["_law_weights_here", "_law_many"]) fun _ _ _ _ _ _ us hl => lenB2 (fun _ _ => rfl) us hl, PySem.W.mg_of X G a13⟩)
  · exact (by have F := fun_mk (st := s_l_wholes) l14 c14 k14; exact ⟨F, F.binds (ps := ["_law_found"]) fun _ _ _ _ _ _ us hl => lenB1 (fun _ => rfl) us hl, PySem.W.mg_of X G a14⟩)
  · exact (by have F := fun_mk (st := s_law) l15 c15 k15; exact ⟨F, F.binds (ps := ["_law_script"]) fun _ _ _ _ _ _ us hl => lenB1 (fun _ => rfl) us hl, PySem.W.mg_of X G a15⟩)
  · exact ⟨PySem.W.mg_of X G a1⟩
  · exact ⟨PySem.W.mg_of X G a2⟩
  · exact ⟨PySem.W.mg_of X G a3⟩
  · exact ⟨PySem.W.mg_of X G a5⟩
  · exact ⟨PySem.W.mg_of X G a6⟩
  · exact (exc_mk X G a4 x_NoWhole_e x_NoWhole_kp x_NoWhole_ga x_NoWhole_gh x_NoWhole_ba x_NoWhole_ob x_NoWhole_hd x_NoWhole_cl x_NoWhole_cg x_NoWhole_ct x_NoWhole_sa)
  · exact v_ki_NoWhole_CrossError
  · exact v_ki_NoWhole_NoView
  · exact v_ki_NoWhole_NoNet
  · exact v_su_NoWhole_NoWhole
  · exact v_ki_NoWhole_NoWhole
  · exact v_ki_NoWhole_NoGroups
  · exact v_ki_NoWhole_NoVeil
  · exact v_kv_NoWhole
  · exact (PySem.W.mg_none_of X G z_ValueError)
  · exact (PySem.W.mg_none_of X G z_all)
  · exact (PySem.W.mg_none_of X G z_bool)
  · exact (PySem.W.mg_none_of X G z_int)
  · exact (PySem.W.mg_none_of X G z_isinstance)
  · exact (PySem.W.mg_none_of X G z_len)
  · exact (PySem.W.mg_none_of X G z_list)
  · exact (PySem.W.mg_none_of X G z_max)
  · exact (PySem.W.mg_none_of X G z_range)
  · exact (PySem.W.mg_none_of X G z_sorted)
  · exact (PySem.W.mg_none_of X G z_sum)
  · exact ⟨⟨c900, q1_900, q4_900⟩, q5_900⟩
  · exact q9_900
section
variable {P : Program} {w : World} {K : PySem.W.Frag} {mg : Str → Option Value} {base : Heap} {f : Nat → Addr} {fd : Nat → FuncData}
theorem scal_ii (i j : Int) : scal (.int i) (.int j) = true := rfl
theorem scal_bb (i j : Bool) : scal (.bl i) (.bl j) = true := rfl
local macro_rules | `(tactic| walk_at "dl") => `(tactic| ((try dsimp only [cxOf, L2.Cx.inTry, L2.Cx.inHand]); simp only [L2.start, tSeq, tNext, tIfS, tRet, tRetN, tAsg, tDrop, gName, tVar, tC, tOp, tUn, tCall, tCB, tCons, tNil, tTest, tB, tNot, tAnd, tOr, tAndV, tOrV, tNotV, tIf, tChain, tLst, tTup, tBM, tBM0, rI, rI0, rU, rEq, rNe, scal_ii, scal_bb, tComp, iStr, iList, iTup, iRng1, iRng2, tYes, rIsP, rAll, rLenS, rLenV, rListOf, rTupleOf, tDisp, tPairs, tSl, tPart, tNoPart, rSlS, rSlL, rFind, rStarts, rIntT, rStrA, rRepS, tCallX, tRaise, tRaiseI, tTry, tAs, offE, tXF, sXset, tMethX, tMakeX, rIsX, tFld, sFld, tMeth, rSortD, rDPop, tDNewK, tDIn, tDNotIn, tDGet, sDPut, rIndexS, tStop, tAugS, ipI, iZip, gSub, tAug, iEnum, tMake, tDisp, tPairs, tBreak, tSortLam, 
  List.map_cons, List.map_nil, List.cons_append, List.nil_append, List.length_cons, List.length_nil, List.getElem?_cons_zero, List.getElem?_cons_succ, Option.some.injEq, exists_eq_left', exists_eq_left, List.set_cons_zero, List.set_cons_succ, List.cons.injEq, and_true, true_and, V.int.injEq, V.str.injEq, V.bl.injEq, V.ref.injEq, V.ty.injEq, exists_and_left, exists_and_right, List.append_nil, reduceCtorEq, false_and, and_false, exists_false, or_false, false_or, decide_true, decide_false, Bool.not_true, Bool.not_false, if_true, if_false, Bool.false_eq_true, ite_true, ite_false, and_assoc, Nat.reduceAdd, Nat.reduceSub, List.replicate_succ, List.replicate_zero, Nat.zero_add, Nat.add_zero, Nat.sub_self, Int.reduceEq, Int.reduceLT, Int.reduceLE, ↓reduceIte, decide_eq_true_eq]))
theorem ixN_nat {n j : Nat} (h : j < n) : ixN n (j : Int) = some j := by
  unfold ixN
  rw [if_pos (by omega), if_pos (by omega), Int.toNat_natCast]
theorem getD_of {α : Type} {l : List α} {i : Nat} {x d : α} (h : l[i]? = some x) : l.getD i d = x := by rw [List.getD_eq_getElem?_getD, h]; rfl
noncomputable abbrev sm (zs : List Int) : Int := zs.foldl (· + ·) 0
theorem sm_go : ∀ (zs : List Int) (a : Int), zs.foldl (· + ·) a = a + sm zs
  | [], a => by simp [sm]
  | z :: zs, a => by
    show zs.foldl (· + ·) (a + z) = a + zs.foldl (· + ·) (0 + z)
    rw [sm_go zs (a + z), sm_go zs (0 + z)]
    omega
theorem sm_cons (z : Int) (zs : List Int) : sm (z :: zs) = z + sm zs := by
  show zs.foldl (· + ·) (0 + z) = _
  rw [sm_go]
  omega
theorem sm_append : ∀ (xs ys : List Int), sm (xs ++ ys) = sm xs + sm ys
  | [], ys => by simp [sm]
  | x :: xs, ys => by rw [List.cons_append, sm_cons, sm_cons, sm_append xs ys]; omega
theorem sm_nonneg : ∀ {zs : List Int}, (∀ z ∈ zs, 0 ≤ z) → 0 ≤ sm zs
  | [], _ => by simp [sm]
  | z :: zs, h => by
    have := h z List.mem_cons_self
    have := sm_nonneg (zs := zs) fun y hy => h y (List.mem_cons_of_mem _ hy)
    rw [sm_cons]
    omega
theorem sm_le {M : Int} : ∀ {zs : List Int}, (∀ z ∈ zs, z ≤ M) → sm zs ≤ zs.length * M
  | [], _ => by simp [sm]
  | z :: zs, h => by
    have h0 := h z List.mem_cons_self
    have h1 := sm_le (zs := zs) fun y hy => h y (List.mem_cons_of_mem _ hy)
    rw [sm_cons, List.length_cons]
    have : ((zs.length + 1 : Nat) : Int) * M = zs.length * M + M := by rw [Int.natCast_add, Int.add_mul]; simp
    omega
theorem sm_mul (m : Int) : ∀ zs : List Int, sm (zs.map fun z => m * z) = m * sm zs
  | [] => by simp [sm]
  | z :: zs => by rw [List.map_cons, sm_cons, sm_cons, sm_mul m zs, Int.mul_add]
theorem sm_perm {xs ys : List Int} (h : xs.Perm ys) : sm xs = sm ys := by
  induction h with
  | nil => rfl
  | cons x _ ih => rw [sm_cons, sm_cons, ih]
  | swap x y l => rw [sm_cons, sm_cons, sm_cons, sm_cons]; omega
  | trans _ _ h1 h2 => rw [h1, h2]
theorem map_getD_range (r : List Int) : (List.range r.length).map (fun i => r.getD i 0) = r := by
  apply List.ext_getElem?
  intro i
  rw [List.getElem?_map]
  by_cases h : i < r.length
  · rw [List.getElem?_range h, List.getElem?_eq_getElem h, Option.map_some, getD_of (List.getElem?_eq_getElem h)]
  · rw [List.getElem?_eq_none (by simpa using h), List.getElem?_eq_none (by omega)]; rfl
noncomputable def tl (ws : List Int) (m : Int) : List Int := ws.map fun w => m * w / sm ws
noncomputable def rs (ws : List Int) (m : Int) : List Int := ws.map fun w => m * w % sm ws
noncomputable def kz (ws : List Int) (m : Int) : List Int := ws.map fun w => -(m * w % sm ws)
noncomputable def lf (ws : List Int) (m : Int) : Nat := (m - sm (tl ws m)).toNat
noncomputable def od (ws : List Int) (m : Int) : List Nat := ordK (kz ws m)
noncomputable def bump : List Int → List Nat → List Int
  | t, [] => t
  | t, i :: l => bump (t.set i (t.getD i 0 + 1)) l
noncomputable def mask : List Int → List Nat → List Int
  | t, [] => t
  | t, i :: l => mask (t.set i (-1)) l
noncomputable def deal (ws : List Int) (m : Int) : List Int := bump (tl ws m) ((od ws m).take (lf ws m))
theorem bump_snoc : ∀ (l : List Nat) (t : List Int) (i : Nat), bump t (l ++ [i]) = (bump t l).set i ((bump t l).getD i 0 + 1)
  | [], _, _ => rfl
  | _ :: l, _, i => bump_snoc l _ i
theorem mask_snoc : ∀ (l : List Nat) (t : List Int) (i : Nat), mask t (l ++ [i]) = (mask t l).set i (-1)
  | [], _, _ => rfl
  | _ :: l, _, i => mask_snoc l _ i
theorem bump_len : ∀ (l : List Nat) (t : List Int), (bump t l).length = t.length
  | [], _ => rfl
  | _ :: l, t => (bump_len l _).trans (by simp)
theorem mask_len : ∀ (l : List Nat) (t : List Int), (mask t l).length = t.length
  | [], _ => rfl
  | _ :: l, t => (mask_len l _).trans (by simp)
theorem set_getD {t : List Int} {i j : Nat} {v d : Int} (h : i ≠ j) : (t.set i v).getD j d = t.getD j d := by
  rw [List.getD_eq_getElem?_getD, List.getElem?_set_ne h, ← List.getD_eq_getElem?_getD]
theorem set_getD_same {t : List Int} {i : Nat} {v d : Int} (h : i < t.length) : (t.set i v).getD i d = v := by
  rw [List.getD_eq_getElem?_getD, List.getElem?_set_self h]; rfl
theorem bump_out : ∀ {l : List Nat} {t : List Int} {j : Nat}, j ∉ l → (bump t l).getD j 0 = t.getD j 0
  | [], _, _, _ => rfl
  | i :: l, t, j, h => by
    rw [List.mem_cons, not_or] at h
    show (bump (t.set i _) l).getD j 0 = _
    rw [bump_out h.2, set_getD (Ne.symm h.1)]
theorem bump_in : ∀ {l : List Nat} {t : List Int} {j : Nat}, l.Nodup → j ∈ l → j < t.length → (bump t l).getD j 0 = t.getD j 0 + 1
  | i :: l, t, j, nd, h, hj => by
    obtain ⟨n1, n2⟩ := List.nodup_cons.mp nd
    show (bump (t.set i _) l).getD j 0 = _
    by_cases e : j = i
    · subst e
      rw [bump_out n1, set_getD_same hj]
    · rw [bump_in n2 ((List.mem_cons.mp h).resolve_left e) (by rw [List.length_set]; exact hj), set_getD (Ne.symm e)]
theorem mask_out : ∀ {l : List Nat} {t : List Int} {j : Nat}, j ∉ l → (mask t l).getD j 0 = t.getD j 0
  | [], _, _, _ => rfl
  | i :: l, t, j, h => by
    rw [List.mem_cons, not_or] at h
    show (mask (t.set i _) l).getD j 0 = _
    rw [mask_out h.2, set_getD (Ne.symm h.1)]
theorem mask_in : ∀ {l : List Nat} {t : List Int} {j : Nat}, l.Nodup → j ∈ l → j < t.length → (mask t l).getD j 0 = -1
  | i :: l, t, j, nd, h, hj => by
    obtain ⟨n1, n2⟩ := List.nodup_cons.mp nd
    show (mask (t.set i _) l).getD j 0 = _
    by_cases e : j = i
    · subst e
      rw [mask_out n1, set_getD_same hj]
    · exact mask_in n2 ((List.mem_cons.mp h).resolve_left e) (by rw [List.length_set]; exact hj)
theorem bump_sm : ∀ {l : List Nat} {t : List Int}, (∀ i ∈ l, i < t.length) → sm (bump t l) = sm t + l.length
  | [], _, _ => by simp [bump]
  | i :: l, t, h => by
    show sm (bump (t.set i (t.getD i 0 + 1)) l) = _
    rw [bump_sm fun j hj => by rw [List.length_set]; exact h j (List.mem_cons_of_mem _ hj)]
    have hi := h i List.mem_cons_self
    have e : sm (t.set i (t.getD i 0 + 1)) = sm t + 1 := by
      have e1 : t = t.take i ++ t.getD i 0 :: t.drop (i + 1) := by
        rw [getD_of (List.getElem?_eq_getElem hi), ← List.drop_eq_getElem_cons hi, List.take_append_drop]
      have e2 : t.set i (t.getD i 0 + 1) = t.take i ++ (t.getD i 0 + 1) :: t.drop (i + 1) := by
        rw [List.set_eq_take_append_cons_drop, if_pos hi]
      rw [e2, sm_append, sm_cons]
      conv => rhs; rw [e1, sm_append, sm_cons]
      omega
    rw [e, List.length_cons]
    omega
section
variable {ws : List Int} {m : Int}
theorem tl_len : (tl ws m).length = ws.length := by simp [tl]
theorem rs_len : (rs ws m).length = ws.length := by simp [rs]
theorem kz_len : (kz ws m).length = ws.length := by simp [kz]
theorem od_len : (od ws m).length = ws.length := by rw [od, ordK_len, kz_len]
theorem od_lt {i : Nat} (h : i ∈ od ws m) : i < ws.length := by rw [← kz_len (m := m)]; exact ordK_lt h
theorem od_nd : (od ws m).Nodup := (ordK_perm _).nodup_iff.mpr List.nodup_range
theorem od_mem {i : Nat} (h : i < ws.length) : i ∈ od ws m := (ordK_perm _).mem_iff.mpr (by rw [List.mem_range, kz_len]; exact h)
theorem kz_rs (i : Nat) : (kz ws m).getD i 0 = -(rs ws m).getD i 0 := by
  simp only [kz, rs, List.getD_eq_getElem?_getD, List.getElem?_map]
  cases ws[i]? <;> simp
theorem rs_nn (h : 0 < sm ws) (i : Nat) : 0 ≤ (rs ws m).getD i 0 ∧ (rs ws m).getD i 0 < sm ws := by
  simp only [rs, List.getD_eq_getElem?_getD, List.getElem?_map]
  cases e : ws[i]? with
  | none => simp only [Option.map_none, Option.getD_none]; omega
  | some w => exact ⟨Int.emod_nonneg _ (by omega), Int.emod_lt_of_pos _ h⟩
theorem split_sm : ∀ us : List Int, sm (us.map fun w => m * w / sm ws) * sm ws + sm (us.map fun w => m * w % sm ws) = m * sm us
  | [] => by simp [sm]
  | u :: us => by
    rw [List.map_cons, List.map_cons, sm_cons, sm_cons, sm_cons, Int.add_mul, Int.mul_add]
    have h1 := split_sm us
    have h2 := Int.mul_ediv_add_emod (m * u) (sm ws)
    rw [Int.mul_comm] at h2
    omega
theorem all_sm : sm (tl ws m) * sm ws + sm (rs ws m) = m * sm ws := split_sm ws
theorem left_eq : (m - sm (tl ws m)) * sm ws = sm (rs ws m) := by
  have := all_sm (ws := ws) (m := m)
  rw [Int.sub_mul]
  omega
theorem rs_mem {z : Int} (h : 0 < sm ws) (hz : z ∈ rs ws m) : 0 ≤ z ∧ z < sm ws := by
  obtain ⟨w, _, rfl⟩ := List.mem_map.mp hz
  exact ⟨Int.emod_nonneg _ (by omega), Int.emod_lt_of_pos _ h⟩
theorem left_nn (h : 0 < sm ws) : 0 ≤ m - sm (tl ws m) := by
  have h1 := left_eq (ws := ws) (m := m)
  have h2 : 0 ≤ sm (rs ws m) := sm_nonneg fun z hz => (rs_mem h hz).1
  rw [← h1] at h2
  exact Int.nonneg_of_mul_nonneg_left h2 h
theorem left_le (h : 0 < sm ws) : m - sm (tl ws m) ≤ ws.length := by
  have h1 := left_eq (ws := ws) (m := m)
  have h2 : sm (rs ws m) ≤ (rs ws m).length * sm ws := sm_le fun z hz => Int.le_of_lt (rs_mem h hz).2
  rw [rs_len, ← h1] at h2
  exact Int.le_of_mul_le_mul_right h2 h
theorem lf_eq (h : 0 < sm ws) : ((lf ws m : Nat) : Int) = m - sm (tl ws m) := Int.toNat_of_nonneg (left_nn h)
theorem lf_le (h : 0 < sm ws) : lf ws m ≤ ws.length := by
  have := lf_eq (m := m) h
  have := left_le (m := m) h
  omega
theorem deal_len : (deal ws m).length = ws.length := by rw [deal, bump_len, tl_len]
theorem deal_sm (h : 0 < sm ws) : sm (deal ws m) = m := by
  rw [deal, bump_sm fun i hi => by rw [tl_len]; exact od_lt (List.mem_of_mem_take hi), List.length_take, od_len, Nat.min_eq_left (lf_le h), lf_eq h]
  omega
theorem od_top (h : 0 < sm ws) {t : Nat} (ht : t < ws.length) {j : Nat} (hj : (od ws m)[t]? = some j) : (mask (rs ws m) ((od ws m).take t)).getD j 0 = (rs ws m).getD j 0 ∧
    (∀ z ∈ mask (rs ws m) ((od ws m).take t), z ≤ (rs ws m).getD j 0) ∧ ∀ i, i < j → (mask (rs ws m) ((od ws m).take t)).getD i 0 ≠ (rs ws m).getD j 0 := by
  have nd : (od ws m).Nodup := od_nd
  have hs : (od ws m).Pairwise (Lx fun i => (kz ws m).getD i 0) := ordK_sorted _
  have htl : t < (od ws m).length := by rw [od_len]; exact ht
  have ej : (od ws m)[t] = j := Option.some.inj ((List.getElem?_eq_getElem htl).symm.trans hj)
  have hnot : j ∉ (od ws m).take t := fun hm => by
    obtain ⟨a, ha⟩ := List.mem_iff_getElem?.mp hm
    have hat : a < t := by
      have := (List.getElem?_eq_some_iff.mp ha).1
      rw [List.length_take] at this
      omega
    rw [List.getElem?_take_of_lt hat] at ha
    have ha' := (List.getElem?_eq_some_iff.mp ha)
    obtain ⟨hal, ea⟩ := ha'
    have := (List.getElem_inj nd (h₀ := hal) (h₁ := htl)).mp (by rw [ea, ej])
    omega
  have ndt : ((od ws m).take t).Nodup := nd.sublist (List.take_sublist _ _)
  have jl : j < ws.length := od_lt (List.mem_of_getElem? hj)
  -- each other place that is not yet taken comes behind
  have key : ∀ i, i < ws.length → i ∉ (od ws m).take t → i ≠ j → (rs ws m).getD i 0 < (rs ws m).getD j 0 ∨ ((rs ws m).getD i 0 = (rs ws m).getD j 0 ∧ j < i) := fun i hi hn hne => by
    obtain ⟨b, hb⟩ := List.mem_iff_getElem?.mp (od_mem (m := m) hi)
    obtain ⟨hbl, eb⟩ := List.getElem?_eq_some_iff.mp hb
    have hbt : ¬ b < t := fun c => hn (List.mem_of_getElem? (i := b) (by rw [List.getElem?_take_of_lt c]; exact hb))
    have hbt' : b ≠ t := fun c => by subst c; rw [hj] at hb; cases hb; exact hne rfl
    have q := List.pairwise_iff_getElem.mp hs t b htl hbl (by omega)
    rw [ej, eb] at q
    rcases q with q | ⟨q, q2⟩
    · dsimp only at q; rw [kz_rs, kz_rs] at q; left; omega
    · dsimp only at q; rw [kz_rs, kz_rs] at q; right; exact ⟨by omega, q2⟩
  have val : ∀ i, i < ws.length → (mask (rs ws m) ((od ws m).take t)).getD i 0 = -1 ∨ (i ∉ (od ws m).take t ∧ (mask (rs ws m) ((od ws m).take t)).getD i 0 = (rs ws m).getD i 0) := fun i hi => by
    by_cases c : i ∈ (od ws m).take t
    · exact .inl (mask_in ndt c (by rw [rs_len]; exact hi))
    · exact .inr ⟨c, mask_out c⟩
  have nn := (rs_nn (m := m) h j).1
  refine ⟨mask_out hnot, fun z hz => ?_, fun i hi => ?_⟩
  · obtain ⟨i, hi⟩ := List.mem_iff_getElem?.mp hz
    have hil : i < ws.length := by
      have := (List.getElem?_eq_some_iff.mp hi).1
      rw [mask_len, rs_len] at this
      exact this
    rw [← getD_of (d := 0) hi]
    rcases val i hil with e | ⟨c, e⟩
    · rw [e]; omega
    · rw [e]
      by_cases hij : i = j
      · rw [hij]; exact Int.le_refl _
      · rcases key i hil c hij with q | ⟨q, _⟩ <;> omega
  · have hil : i < ws.length := by omega
    rcases val i hil with e | ⟨c, e⟩
    · rw [e]; omega
    · rw [e]
      rcases key i hil c (by omega) with q | ⟨_, q⟩ <;> omega
theorem deal_off (h : 0 < sm ws) {i : Nat} (hi : i < ws.length) : (deal ws m).getD i 0 * sm ws - m * ws.getD i 0 < sm ws ∧ -(sm ws) < (deal ws m).getD i 0 * sm ws - m * ws.getD i 0 := by
  have et : (tl ws m).getD i 0 = m * ws.getD i 0 / sm ws := by
    simp only [tl, List.getD_eq_getElem?_getD, List.getElem?_map, List.getElem?_eq_getElem hi, Option.map_some, Option.getD_some]
  have er : (rs ws m).getD i 0 = m * ws.getD i 0 % sm ws := by
    simp only [rs, List.getD_eq_getElem?_getD, List.getElem?_map, List.getElem?_eq_getElem hi, Option.map_some, Option.getD_some]
  have e2 := Int.mul_ediv_add_emod (m * ws.getD i 0) (sm ws)
  rw [Int.mul_comm, ← et, ← er] at e2
  have nn := rs_nn (m := m) h i
  have ndt : ((od ws m).take (lf ws m)).Nodup := od_nd.sublist (List.take_sublist _ _)
  by_cases c : i ∈ (od ws m).take (lf ws m)
  · rw [deal, bump_in ndt c (by rw [tl_len]; exact hi), Int.add_mul]
    -- the rest of one that is taken is above nought
    have pos : 0 < (rs ws m).getD i 0 := by
      by_cases z : 0 < (rs ws m).getD i 0
      · exact z
      · exfalso
        have z0 : (rs ws m).getD i 0 = 0 := by omega
        obtain ⟨t, ht⟩ := List.mem_iff_getElem?.mp c
        have htl : t < lf ws m := by
          have := (List.getElem?_eq_some_iff.mp ht).1
          rw [List.length_take] at this
          omega
        rw [List.getElem?_take_of_lt htl] at ht
        have top := (od_top (m := m) h (by have := lf_le (m := m) h; omega) ht).2.1
        rw [z0] at top
        -- all rests but the first t are nought
        have s1 : sm (rs ws m) = sm ((od ws m).map fun i => (rs ws m).getD i 0) := by
          have p := (ordK_perm (kz ws m)).map fun i => (rs ws m).getD i 0
          rw [kz_len, ← rs_len (m := m), map_getD_range] at p
          exact (sm_perm p).symm
        have s2 : sm ((od ws m).map fun i => (rs ws m).getD i 0) = sm (((od ws m).take t).map fun i => (rs ws m).getD i 0) + sm (((od ws m).drop t).map fun i => (rs ws m).getD i 0) := by
          rw [← sm_append, ← List.map_append, List.take_append_drop]
        have s3 : sm (((od ws m).drop t).map fun i => (rs ws m).getD i 0) ≤ 0 := by
          have := sm_le (M := 0) (zs := ((od ws m).drop t).map fun i => (rs ws m).getD i 0) fun z hz => by
            obtain ⟨a, ha, rfl⟩ := List.mem_map.mp hz
            have hal : a < ws.length := od_lt (List.mem_of_mem_drop ha)
            have hn : a ∉ (od ws m).take t := fun b => by
              have nd : (od ws m).Nodup := od_nd
              rw [← List.take_append_drop t (od ws m)] at nd
              exact (List.nodup_append.mp nd).2.2 a b a ha rfl
            have := top ((mask (rs ws m) ((od ws m).take t)).getD a 0) (List.mem_of_getElem? (i := a) (by
              rw [List.getElem?_eq_getElem (by rw [mask_len, rs_len]; exact hal), getD_of (List.getElem?_eq_getElem (by rw [mask_len, rs_len]; exact hal))]))
            rw [mask_out hn] at this
            exact this
          simpa using this
        have s4 : sm (((od ws m).take t).map fun i => (rs ws m).getD i 0) ≤ t * sm ws := by
          have := sm_le (M := sm ws) (zs := ((od ws m).take t).map fun i => (rs ws m).getD i 0) fun z hz => by
            obtain ⟨a, _, rfl⟩ := List.mem_map.mp hz
            exact Int.le_of_lt (rs_nn h a).2
          rw [List.length_map, List.length_take, od_len, Nat.min_eq_left (by have := lf_le (m := m) h; omega)] at this
          exact this
        have s5 := left_eq (ws := ws) (m := m)
        rw [← lf_eq h] at s5
        have s6 : ((t + 1 : Nat) : Int) * sm ws ≤ (lf ws m : Int) * sm ws := Int.mul_le_mul_of_nonneg_right (by omega) (by omega)
        rw [Int.natCast_add, Int.add_mul] at s6
        simp only [Int.natCast_one, Int.one_mul] at s6
        omega
    omega
  · rw [deal, bump_out c]
    omega
end
noncomputable def sp_l_draw (K : PySem.W.Frag) : Sp := fun vs H Q _ => ∃ (a : Addr) (ns : List Int) (k m : Int), vs = [.ref a, .int k, .int m] ∧ SqL K H a (ns.map V.int) ∧ 0 ≤ k ∧ k < 1000000 ∧ 0 < m ∧ ∀ v, 0 ≤ v → v < m → Q (.int v) H
theorem ok_l_draw (T : Txt K mg f fd) : FnOk P w K mg base CX0 1 (f 10) (fd 10) ["_law_script", "_law_k", "_law_many"] (sp_l_draw K) := by
  refine T.d_l_draw.F.ok sc_l_draw (fun vs H Q E h => ?_) (fun cdv A outer s H vs Q E hr h => ?_)
  · obtain ⟨a, ns, k, m, rfl, _⟩ := h
    rfl
  · obtain ⟨a, ns, i, m, rfl, hs, h0, h1, hm, k⟩ := h
    refine ⟨_, (pss_cons (ps_if (pt_cmpR op_lt (pvl 1) (pe_cB (k_len rfl) T.n_len bt_len rfl (by decide) (by decide) rfl (pal rfl (pvl 0) pa_nil)) (nomark _))
     (pss_one (ps_ret (pe_op op_mod (pe_ix (k_ixL rfl) (pvl 0) (pvl 1) (fun _ _ => rfl)) (pvl 2))))
     pss_nil)
     (pss_cons (psl 3 sc_l_draw.nd (pe_op op_add (pe_op op_mul (pvl 1) (pvl 1)) pe_int))
     (pss_cons (ps_if (pt_cmpR op_gt (pe_cB (k_len rfl) T.n_len bt_len rfl (by decide) (by decide) rfl (pal rfl (pvl 0) pa_nil)) pe_int (nomark _))
     (pss_one (psl 3 sc_l_draw.nd (pe_op op_add (pvl 3) (pe_op op_mod (pe_ix (k_ixL rfl) (pvl 0) (pe_op op_mod (pvl 1) (pe_cB (k_len rfl) T.n_len bt_len rfl (by decide) (by decide) rfl (pal rfl (pvl 0) pa_nil))) (fun _ _ => rfl)) pe_int))))
     pss_nil)
     (pss_one (ps_ret (pe_op op_mod (pe_op op_mod (pe_op op_mul (pe_op op_add (pe_op op_mod (pe_op op_mul (pvl 3) pe_int) pe_int) pe_int) pe_int) pe_int) (pvl 2))))))), ?_⟩
    ((try dsimp only [cxOf, L2.Cx.inTry, L2.Cx.inHand]); simp only [L2.start, tSeq, tNext, tIfS, tRet, tRetN, tAsg, tDrop, gName, tVar, tC, tOp, tUn, tCall, tCB, tCons, tNil, tTest, tB, tNot, tAnd, tOr, tAndV, tOrV, tNotV, tIf, tChain, tLst, tTup, tBM, tBM0, rI, rI0, rU, rEq, rNe, scal_ii, scal_bb, tComp, iStr, iList, iTup, iRng1, iRng2, tYes, rIsP, rAll, rLenS, rLenV, rListOf, rTupleOf, tDisp, tPairs, tSl, tPart, tNoPart, rSlS, rSlL, rFind, rStarts, rIntT, rStrA, rRepS, tCallX, tRaise, tRaiseI, tTry, tAs, offE, tXF, sXset, tMethX, tMakeX, rIsX, tFld, sFld, tMeth, rSortD, rDPop, tDNewK, tDIn, tDNotIn, tDGet, sDPut, rIndexS, tStop, tAugS, ipI, iZip, gSub, 
  List.map_cons, List.map_nil, List.cons_append, List.nil_append, List.length_cons, List.length_nil, List.getElem?_cons_zero, List.getElem?_cons_succ, Option.some.injEq, exists_eq_left', exists_eq_left, List.set_cons_zero, List.set_cons_succ, List.cons.injEq, and_true, true_and, V.int.injEq, V.str.injEq, V.bl.injEq, V.ref.injEq, V.ty.injEq, exists_and_left, exists_and_right, List.append_nil, reduceCtorEq, false_and, and_false, exists_false, or_false, false_or, decide_true, decide_false, Bool.not_true, Bool.not_false, if_true, if_false, Bool.false_eq_true, ite_true, ite_false, and_assoc, Nat.reduceAdd, Nat.reduceSub, List.replicate_succ, List.replicate_zero, Nat.zero_add, Nat.add_zero, Nat.sub_self])
    have cm : ∀ x : Int, 0 ≤ x % m ∧ x % m < m := fun x => ⟨Int.emod_nonneg _ (by omega), Int.emod_lt_of_pos _ hm⟩
    have fin : ∀ x : Int, Q (V.int (x % m)) H := fun x => k _ (cm x).1 (cm x).2
    refine ⟨_, .inl hs, ?_⟩
    rw [List.length_map]
    by_cases c : i < (ns.length : Int)
    · rw [if_pos (decide_eq_true c)]
      obtain ⟨j, rfl⟩ : ∃ j : Nat, i = (j : Int) := ⟨i.toNat, by omega⟩
      have hj : j < ns.length := by omega
      exact ⟨a, _, _, .int ns[j], rfl, rfl, hs, atI_nat (by rw [List.getElem?_map, List.getElem?_eq_getElem hj]; rfl), _, rfl, hm, fin _⟩
    · rw [if_neg (by simpa using c)]
      refine ⟨.inl ⟨by omega, by omega⟩, _, .inl hs, ?_⟩
      rw [List.length_map]
      have c48 : ∀ x : Int, CMul x 48271 := fun x => .inr ⟨by decide, by decide⟩
      have c40 : ∀ x : Int, CMul x 40692 := fun x => .inr ⟨by decide, by decide⟩
      by_cases c0 : (0 : Int) < (ns.length : Int)
      · rw [if_pos (decide_eq_true c0)]
        refine ⟨_, .inl hs, ?_⟩
        rw [List.length_map]
        refine ⟨c0, ?_⟩
        have b1 := Int.emod_nonneg i (show (ns.length : Int) ≠ 0 by omega)
        have b2 := Int.emod_lt_of_pos i c0
        obtain ⟨j, hj'⟩ : ∃ j : Nat, i % (ns.length : Int) = (j : Int) := ⟨(i % (ns.length : Int)).toNat, by omega⟩
        rw [hj'] at b2 ⊢
        have hj : j < ns.length := by omega
        exact ⟨a, _, _, .int ns[j], rfl, rfl, hs, atI_nat (by rw [List.getElem?_map, List.getElem?_eq_getElem hj]; rfl), _, rfl, by decide, c48 _, by decide, c40 _, by decide, hm, fin _⟩
      · rw [if_neg (by simpa using c0)]
        exact ⟨c48 _, by decide, c40 _, by decide, hm, fin _⟩
noncomputable def sp_l_weights (K : PySem.W.Frag) : Sp := fun vs H Q _ => ∃ (a : Addr) (ns : List Int) (n : Nat), vs = [.ref a, .int n] ∧ SqL K H a (ns.map V.int) ∧ n ≤ 63 ∧ ∀ (H' : Hp) (p : Addr) (ws : List Int), Same H H' → H p = none → H' p = some (.lst (ws.map V.int)) → ws.length = n → (∀ w ∈ ws, 0 ≤ w ∧ w < 10 ^ 58) → Q (.ref p) H'
theorem ok_l_weights (T : Txt K mg f fd) : FnOk P w K mg base CX0 2 (f 11) (fd 11) ["_law_script", "_law_size"] (sp_l_weights K) := by
  refine T.d_l_weights.F.ok sc_l_weights (fun vs H Q E h => ?_) (fun cdv A outer s H vs Q E hr h => ?_)
  · obtain ⟨a, ns, n, rfl, _⟩ := h
    rfl
  · obtain ⟨a, ns, n, rfl, hs, hn, k⟩ := h
    refine ⟨_, (pss_cons (psl 2 sc_l_weights.nd (pe_lst pa_nil))
     (pss_cons (ps_for PassesOwn.never rfl (pi_range1 rfl T.n_range (pal rfl (pvl 1) pa_nil)) (pgl 3 sc_l_weights.nd)
     (pss_cons (psl 4 sc_l_weights.nd (pe_defL T.d_l_draw (ok_l_draw T) (hr.mono (by decide)) rfl (by decide) rfl (pal rfl (pvl 0) (pal rfl (pe_op op_add pe_int (pvl 3)) (pal rfl pe_int pa_nil)))))
     (pss_cons (psl 5 sc_l_weights.nd (pe_op op_fdiv (pe_defL T.d_l_draw (ok_l_draw T) (hr.mono (by decide)) rfl (by decide) rfl (pal rfl (pvl 0) (pal rfl (pe_op op_add pe_int (pvl 3)) (pal rfl pe_int pa_nil)))) pe_int))
     (pss_cons (ps_if (pt_cmpR op_eq (pvl 4) pe_int (nomark _))
     (pss_one (psl 5 sc_l_weights.nd pe_int))
     pss_nil)
     (pss_cons (ps_if (PW.pt (pw_and (pt_cmpR op_eq (pvl 4) pe_int (nomark _)) (pw_and1 (pt_cmpR op_gt (pvl 3) pe_int (nomark _)))))
     (pss_one (psl 5 sc_l_weights.nd (pe_ix (k_ixL rfl) (pvl 2) (pe_op op_sub (pvl 3) pe_int) (fun _ _ => rfl))))
     pss_nil)
     (pss_cons (ps_if (PW.pt (pw_and (pt_cmpR op_eq (pvl 4) pe_int (nomark _)) (pw_and1 (pt_cmpR op_lt (pe_op op_add pe_int (pvl 3)) (pe_cB (k_len rfl) T.n_len bt_len rfl (by decide) (by decide) rfl (pal rfl (pvl 0) pa_nil)) (nomark _)))))
     (pss_one (psl 5 sc_l_weights.nd (pe_op op_mod (pe_ix (k_ixL rfl) (pvl 0) (pe_op op_add pe_int (pvl 3)) (fun _ _ => rfl)) (pe_op op_pow pe_int pe_int))))
     pss_nil)
     (pss_one (ps_expr (k_bmL rfl PySem.F.plainAttrs_list PySem.F.slot_list_append PySem.F.type_list_append mt_append rfl rfl rfl rfl (pvl 2) (pal rfl (pvl 5) pa_nil))))))))))
     (pss_one (ps_ret (pvl 2))))), ?_⟩
    walk_at "dl"
    refine ⟨Nat.zero_le _, fun p hp => ?_⟩
    refine for_in ?_
    walk_at "dl"
    refine ⟨by omega, by omega, ?_⟩
    rw [Int.toNat_natCast]
    refine ForW.of walk_range (fun j σ H' => ∃ ws : List Int, (∃ v3 v4 v5, σ = [some (V.ref a), some (V.int n), some (V.ref p), v3, v4, v5]) ∧ Same H H' ∧ H' p = some (.lst (ws.map V.int)) ∧ ws.length = j ∧ ∀ w ∈ ws, 0 ≤ w ∧ w < 10 ^ 58) ⟨[], ⟨none, none, none, rfl⟩, Same.upd_new hp _, upd_same, rfl, fun _ z => nomatch z⟩ (fun _ _ _ _ _ => trivial) ?_ ?_
    · rintro j x σ H2 hx ⟨ws, ⟨v3, v4, v5, rfl⟩, s2, hp2, hl, hb⟩
      obtain ⟨hj, rfl⟩ := range_item hx
      generalize hB : tSeq (tIfS _ _ _) _ = B
      walk_at "dl"
      refine ⟨a, ns, _, _, rfl, s2.seq hs, by omega, by omega, by decide, fun d d0 d1 => ⟨a, ns, _, _, rfl, s2.seq hs, by omega, by omega, by decide, fun e e0 e1 => ⟨e, rfl, ⟨by decide, by decide⟩, ?_⟩⟩⟩
      have e2 : 0 ≤ e / 5 ∧ e / 5 < 10 := ⟨by omega, by omega⟩
      generalize e / 5 = g at *
      subst hB
      have fin : ∀ v : Int, 0 ≤ v → v < 10 ^ 58 → tyV K "list" (V.ref p) H2 ∧ rAppend (V.ref p) [V.int v] H2 fun x H1 => (∃ x, some (V.int v) = x) ∧ Same H H1 ∧ ∃ x : List Int, H1 p = some (HO.lst (List.map V.int x)) ∧ x.length = j + 1 ∧ ∀ w : Int, w ∈ x → 0 ≤ w ∧ w < 10 ^ 58 := fun v v0 v1 =>
        ⟨.inl ⟨rfl, _, .of hp2⟩, p, _, _, rfl, rfl, hp2, by rw [List.length_map]; exact small1000 (by omega), ⟨_, rfl⟩, s2.set hp _, ws ++ [v], by rw [List.map_append]; exact upd_same, by simp [hl], fun w hw => by
          rcases List.mem_append.mp hw with z | z
          · exact hb w z
          · rw [List.mem_singleton.mp z]; exact ⟨v0, v1⟩⟩
      rcases (by omega : d = 0 ∨ d = 1 ∨ d = 2 ∨ d = 3 ∨ d = 4) with rfl | rfl | rfl | rfl | rfl
      · walk_at "dl"
        exact fin 0 (by decide) (by decide)
      · walk_at "dl"
        refine ite2 (fun c => ?_) fun _ => fin g e2.1 (by omega)
        obtain ⟨i, rfl⟩ : ∃ i, j = i + 1 := ⟨j - 1, by omega⟩
        have hi : i < ws.length := by omega
        have hm := hb _ (List.getElem_mem hi)
        exact ⟨p, _, _, .int ws[i], rfl, rfl, .of hp2, by rw [show (0 + ((i + 1 : Nat) : Int) - 1) = (i : Int) by omega]; exact atI_nat (by rw [List.getElem?_map, List.getElem?_eq_getElem hi]; rfl), fin _ hm.1 hm.2⟩
      · walk_at "dl"
        refine ⟨_, .inl (s2.seq hs), ?_⟩
        rw [List.length_map]
        refine ite2 (fun c => ?_) fun _ => fin g e2.1 (by omega)
        have hi : 4 + j < ns.length := by omega
        have hz : (10 : Int) ^ Int.toNat 58 = 10 ^ 58 := rfl
        rw [hz]
        exact ⟨a, _, _, .int ns[4 + j], rfl, rfl, s2.seq hs, by rw [show (4 + (0 + (j : Int))) = ((4 + j : Nat) : Int) by omega]; exact atI_nat (by rw [List.getElem?_map, List.getElem?_eq_getElem hi]; rfl), ⟨by decide, by decide, by decide⟩, _, rfl, by decide, fin _ (Int.emod_nonneg _ (by decide)) (Int.emod_lt_of_pos _ (by decide))⟩
      · walk_at "dl"
        exact fin g e2.1 (by omega)
      · walk_at "dl"
        exact fin g e2.1 (by omega)
    · rintro σ H2 ⟨ws, ⟨v3, v4, v5, rfl⟩, s2, hp2, hl, hb⟩
      walk_at "dl"
      exact k H2 p ws s2 hp hp2 (by rw [hl]; simp [rangeV]) hb
noncomputable def lamPos : Pos := match (defBody s_dealt).getD 3 (.Pass ⟨0, 0, 0, 0⟩) with
  | PySem.Stmt.Assign _ (PySem.Expr.Call _ _ [⟨_, PySem.Expr.Lambda _ _ _ p, _⟩] _) _ => p
  | _ => ⟨0, 0, 0, 0⟩
noncomputable def lamQ : Str := (Str.ofString "dealt" ++ Str.ofString ".<locals>.") ++ Str.ofString "<lambda>"
noncomputable abbrev TabF (f : Nat → Addr) (H : Hp) : Prop := Tab (f 900) lamPos lamQ H
structure WsOk (ws : List Int) (m : Int) : Prop where
  len : ws.length < 64
  pos : ∀ w ∈ ws, 0 ≤ w ∧ w < 10 ^ 58
  m0 : 0 ≤ m
  m1 : m < 10 ^ 60
theorem bb_of {x : Int} (h0 : 0 ≤ x) (h1 : x < 10 ^ 61) : -BB < x ∧ x < BB := by
  have h2 : (10 : Int) ^ 61 < BB := by unfold BB; decide
  have h3 : (0 : Int) < BB := by unfold BB; decide
  omega
theorem WsOk.wt {ws : List Int} {m w : Int} (ok : WsOk ws m) (h : w ∈ ws) : -BB < w ∧ w < BB := bb_of (ok.pos w h).1 (by have := (ok.pos w h).2; omega)
theorem WsOk.m' {ws : List Int} {m : Int} (ok : WsOk ws m) : -BB < m ∧ m < BB := bb_of ok.m0 (by have := ok.m1; omega)
theorem WsOk.s0 {ws : List Int} {m : Int} (ok : WsOk ws m) : 0 ≤ sm ws := sm_nonneg fun z hz => (ok.pos z hz).1
theorem WsOk.s1 {ws : List Int} {m : Int} (ok : WsOk ws m) : sm ws < 10 ^ 60 := by
  have h := sm_le (M := 10 ^ 58) fun z hz => Int.le_of_lt (ok.pos z hz).2
  have hl := ok.len
  have : (ws.length : Int) * 10 ^ 58 ≤ 63 * 10 ^ 58 := Int.mul_le_mul_of_nonneg_right (by omega) (by decide)
  omega
theorem WsOk.s {ws : List Int} {m : Int} (ok : WsOk ws m) : -BB < sm ws ∧ sm ws < BB := bb_of ok.s0 (by have := ok.s1; omega)
theorem filter_all {α : Type} (l : List α) : l.filter (fun _ => true) = l := by simp
theorem cut_to {xs : List V} {k : Nat} : cutV xs none (some (k : Int)) = xs.take k := by
  unfold cutV
  rw [HT.sIx_none, HT.sIx_nat, List.drop_zero, Nat.sub_zero]
  rw [List.take_eq_take_iff]
  omega
theorem take_snoc' {α : Type} {l : List α} {j : Nat} {x : α} (h : l[j]? = some x) : l.take (j + 1) = l.take j ++ [x] := by rw [List.take_add_one, h]; rfl
theorem TabF.set {f : Nat → Addr} {H : Hp} {D : Addr} {xs : List V} {o : HO} (t : TabF f H) (h : H D = some (.lst xs)) : TabF f (upd H D o) := by
  rcases t with t | ⟨c, t, q⟩
  · exact .inl ((upd_ne (fun e => by rw [e, h] at t; cases t)).trans t)
  · exact .inr ⟨c, (upd_ne (fun e => by rw [e, h] at t; cases t)).trans t, (upd_ne (fun e => by rw [e, h] at q; cases q)).trans q⟩
noncomputable def sp_dealt (K : PySem.W.Frag) (f : Nat → Addr) : Sp := fun vs H Q E => ∃ (l : Addr) (ws : List Int) (m : Int), vs = [.ref l, .int m] ∧ H l = some (.lst (ws.map V.int)) ∧ WsOk ws m ∧ TabF f H ∧
  (sm ws = 0 → ∀ H' ed, Same H H' → XdOk H' ed → E (.ref (f 4)) ed H') ∧ (sm ws ≠ 0 → ∀ (H' : Hp) (p : Addr), SameBut (f 900) H H' → TabF f H' → H p = none → H' p = some (.lst ((deal ws m).map V.int)) → Q (.ref p) H')
theorem ok_dealt (T : Txt K mg f fd) (hB : BAt base mg (f 900)) : FnOk P w K mg base (CXE P w) 1 (f 8) (fd 8) ["weights", "many"] (sp_dealt K f) := by
  refine T.d_dealt.F.okXM T.lam_dealt sc_dealt (fun vs H Q E h => ?_) (fun cdv A outer s H vs Q E hr hM h => ?_)
  · obtain ⟨l, ws, m, rfl, _⟩ := h
    rfl
  · obtain ⟨l, ws, m, rfl, hl, ok, tb, kx, kq⟩ := h
    refine ⟨_, (pss_cons (psc 2 sc_dealt.nd (pe_cB (k_sumI rfl rfl) T.n_sum bt_sum rfl (by decide) (by decide) rfl (pal rfl (pvc 0) pa_nil)))
     (pss_cons (ps_if (pt_cmpR op_eq (pvc 2) pe_int (nomark _))
     (pss_one (ps_raise told_cx rfl T.x_NoWhole.x rfl T.x_NoWhole.m (by decide) rfl (pal rfl pe_str pa_nil)))
     pss_nil)
     (pss_cons (ps_comp ["weight"] ["weights", "many", "whole", "told", "order", "left", "at"] rfl (show CompSc _ (defScope s_dealt) ["weights", "many", "whole", "told", "order", "left", "at"] ["weights", "many", "whole", "told", "order", "left", "at"] from compOk_is (by decide +kernel)) sc_dealt.nd (i := 3) rfl rfl (k_piL rfl (pvc 0)) (fun _ _ _ _ _ => (pgl 0 (show (["weight", "weights", "many", "whole", "told", "order", "left", "at"] : List Str).Nodup by decide +kernel))) (fun _ _ _ _ _ => pts_nil) (fun _ _ _ _ _ => (pe_op op_fdivB (pe_op op_mulB (pvc 2) (pvl 0)) (pvc 3))))
     (pss_cons (psl 4 sc_dealt.nd (pe_sortLam (f 900) ["weights", "many", "whole", "#3", "#4", "#5", "#6"] hM hB rfl rfl hr.depth rfl T.n_sorted rfl (pal rfl (pe_cTy call_rng T.n_range bt_range rfl (by decide) (by decide) rfl (pal rfl (pe_cB (k_len rfl) T.n_len bt_len rfl (by decide) (by decide) rfl (pal rfl (pvc 0) pa_nil)) pa_nil)) pa_nil) rfl (show LamSc _ (defScope s_dealt) "at" ["weights", "many", "whole", "told", "order", "left", "at"] ["weights", "many", "whole", "#3", "#4", "#5", "#6"] from lamOk_is (by decide +kernel)) (fun _ _ _ _ _ _ => rfl) (fun _ _ _ _ _ _ => (pe_un un_neg (pe_op op_mod (pe_op op_mulB (pv 2) (pe_ix (k_ixL rfl) (pv 1) (pvl 0) (fun _ _ => rfl))) (pv 3))))))
     (pss_cons (psl 5 sc_dealt.nd (pe_op op_sub (pvc 1) (pe_cB (k_sumI rfl rfl) T.n_sum bt_sum rfl (by decide) (by decide) rfl (pal rfl (pvl 3) pa_nil))))
     (pss_cons (ps_for PassesOwn.leaving rfl (k_piL rfl (pe_slice (k_slL rfl) (pvl 4) po_none (po_some (pvl 5)))) (pgl 6 sc_dealt.nd)
     (pss_one (ps_augS (pvl 3) (pvl 6) (k_getL rfl) pe_int ip_add set_list)))
     (pss_one (ps_ret (pvl 3))))))))), ?_⟩
    generalize hB : tSeq (tAsg (tComp _ _ _ _ _) _) _ = B
    walk_at "dl"
    refine ⟨l, ws, rfl, .of hl, ?_⟩
    dsimp only
    refine ⟨rfl, ?_⟩
    by_cases c : sm ws = 0
    · rw [if_pos (show V.int (sm ws) = V.int 0 by rw [c])]
      exact ⟨small_line (by decide), kx c H none (Same.refl _) (by first | trivial | exact (fun _ z => nomatch z) | simp [XdOk])⟩
    · rw [if_neg (fun e : V.int (sm ws) = V.int 0 => c (V.int.inj e))]
      subst hB
      have wpos : 0 < sm ws := by
        have := sm_nonneg fun z hz => (ok.pos z hz).1
        omega
      generalize hB : tSeq (tAsg (tSortLam _ _ _ _ _) _) _ = B
      walk_at "dl"
      refine ⟨⟨_, .of hl⟩, ?_⟩
      have hz : ws.length ≤ sizeLine := Nat.le_of_lt (small1000 (by have := ok.len; omega))
      refine comp_of (as := ws) (g := V.int) walk_list hz (fun H' q => .of (q _ _ hl)) (fun _ => true) (fun w => V.int (m * w / sm ws)) (fun n H1 Q' _ s1 q => ?_) (fun n H1 Q' hn _ s1 q => ?_) (fun H1 s1 D hD => ?_)
      · walk_at "dl"
        exact q H1 (Same.refl _)
      · walk_at "dl"
        obtain ⟨m1, m2⟩ := ok.m'
        obtain ⟨w1, w2⟩ := ok.wt hn
        exact ⟨m1, m2, w1, w2, wpos, ok.s.2, q H1 (Same.refl _)⟩
      rw [filter_all, show ws.map (fun w => V.int (m * w / sm ws)) = (tl ws m).map V.int by simp [tl]]
      have fD : H D = none := s1.free hD
      have s2 := s1.new hD (HO.lst ((tl ws m).map V.int))
      have gD : upd H1 D (HO.lst ((tl ws m).map V.int)) D = some (.lst ((tl ws m).map V.int)) := upd_same
      generalize upd H1 D (HO.lst ((tl ws m).map V.int)) = H2 at *
      clear hD
      subst hB
      generalize hB : tSeq (tAsg (tOp _ _ _) _) _ = B
      walk_at "dl"
      refine ⟨_, .inl (.of (s2 _ _ hl)), ?_⟩
      rw [List.length_map]
      refine ⟨(ws.length : Int), rfl, by have := ok.len; omega, by have := ok.len; omega, fun r hr => ⟨r, rfl, ws.length, upd_same, ok.len, kz ws m, kz_len, ?_, fun H3 s3 tb3 => ⟨fun i hi => ?_, fun D2 hD2 => ?_⟩⟩⟩
      · exact Tab.same tb (s2.new hr _)
      · have hl3 : H3 l = some (.lst (ws.map V.int)) := s3 l _ (fun e => by
          obtain ⟨ps, q⟩ := tb.tbl
          rw [← e, hl] at q; cases q) ((s2.new hr _) _ _ hl)
        have e : (kz ws m).getD i 0 = -(m * ws[i] % sm ws) := getD_of (by rw [kz, List.getElem?_map, List.getElem?_eq_getElem hi]; rfl)
        obtain ⟨w1, w2⟩ := ok.wt (List.getElem_mem hi)
        exact ⟨l, _, _, .int ws[i], rfl, rfl, .of hl3, atI_nat (by rw [List.getElem?_map, List.getElem?_eq_getElem hi]; rfl), _, rfl, ok.m'.1, ok.m'.2, w1, w2, wpos, e.symm, rfl⟩
      · have nP : ∀ {b : Addr} {xs : List V} {G : Hp}, TabF f G → G b = some (.lst xs) → b ≠ f 900 := fun t z e => by
          obtain ⟨ps, q⟩ := t.tbl
          rw [← e, z] at q; cases q
        have tb2 : TabF f H2 := Tab.same tb s2
        have wr : Same H2 (upd H2 r (HO.rng 0 (ws.length : Int))) := Same.upd_new hr _
        have s4 : SameBut (f 900) H H3 := fun b o hb z => s3 b o hb (wr _ _ (s2 _ _ z))
        have gD3 := s3 D _ (nP tb2 gD) (wr _ _ gD)
        have w5 := Same.upd_new hD2 (HO.lst ((ordK (kz ws m)).map fun i : Nat => V.int i))
        have s5 : SameBut (f 900) H (upd H3 D2 (HO.lst ((ordK (kz ws m)).map fun i : Nat => V.int i))) := fun b o hb z => w5 _ _ (s4 b o hb z)
        have tb5 : TabF f (upd H3 D2 (HO.lst ((ordK (kz ws m)).map fun i : Nat => V.int i))) := Tab.same tb3 w5
        have gD5 := w5 _ _ gD3
        have g2 : upd H3 D2 (HO.lst ((ordK (kz ws m)).map fun i : Nat => V.int i)) D2 = some (.lst ((od ws m).map fun i : Nat => V.int i)) := upd_same
        have f2 : H D2 = none := by
          cases q : H D2 with
          | none => rfl
          | some u =>
            by_cases e : D2 = f 900
            · obtain ⟨ps, z⟩ := tb3.tbl
              rw [← e, hD2] at z; cases z
            · rw [s4 D2 u e q] at hD2; cases hD2
        generalize upd H3 D2 (HO.lst ((ordK (kz ws m)).map fun i : Nat => V.int i)) = H5 at *
        subst hB
        clear s3 tb3 hr s4 gD3 w5 wr gD tb2 s2
        walk_at "dl"
        refine ⟨D, tl ws m, rfl, .of gD5, ?_⟩
        refine ⟨_, rfl, ?_⟩
        have elf : m - List.foldl (fun x1 x2 => x1 + x2) 0 (tl ws m) = (lf ws m : Int) := (lf_eq wpos).symm
        rw [elf]
        refine for_in ?_
        walk_at "dl"
        refine ⟨_, .of g2, fun p hp => ?_⟩
        rw [cut_to, ← List.map_take]
        have fD' : D ≠ p := fun e => by rw [e, hp] at gD5; cases gD5
        have w6 := Same.upd_new hp (HO.lst (((od ws m).take (lf ws m)).map fun i : Nat => V.int i))
        have g6 : upd H5 p (HO.lst (((od ws m).take (lf ws m)).map fun i : Nat => V.int i)) p = some (HO.lst (((od ws m).take (lf ws m)).map fun i : Nat => V.int i)) := upd_same
        have gD6 := w6 _ _ gD5
        have s6 : SameBut (f 900) H (upd H5 p (HO.lst (((od ws m).take (lf ws m)).map fun i : Nat => V.int i))) := fun b o hb z => w6 _ _ (s5 b o hb z)
        have tb6 := Tab.same tb5 w6
        generalize upd H5 p (HO.lst (((od ws m).take (lf ws m)).map fun i : Nat => V.int i)) = H6 at *
        refine ⟨⟨_, .of g6⟩, ?_⟩
        refine ForW.of walk_list (fun j σ H' => (∃ v, σ = [some (V.ref l), some (V.int m), some (V.int (sm ws)), some (V.ref D), some (V.ref D2), some (V.int (lf ws m)), v]) ∧ SameBut (f 900) H H' ∧ TabF f H' ∧ H' p = some (HO.lst (((od ws m).take (lf ws m)).map fun i : Nat => V.int i)) ∧ H' D = some (.lst ((bump (tl ws m) (((od ws m).take (lf ws m)).take j)).map V.int))) ⟨⟨none, rfl⟩, s6, tb6, g6, gD6⟩ (fun _ _ _ _ q => .of q.2.2.2.1) ?_ ?_
        · rintro j x σ H7 hx ⟨⟨v, rfl⟩, s7, tb7, g7, gD7⟩
          rw [List.getElem?_map] at hx
          obtain ⟨i, hi, rfl⟩ := Option.map_eq_some_iff.mp hx
          have hil : i < ws.length := od_lt (m := m) (List.mem_of_mem_take (List.mem_of_getElem? hi))
          have hbl : (bump (tl ws m) (((od ws m).take (lf ws m)).take j)).length = ws.length := by rw [bump_len, tl_len]
          have hib : i < (bump (tl ws m) (((od ws m).take (lf ws m)).take j)).length := by rw [hbl]; exact hil
          walk_at "dl"
          refine ⟨D, _, _, .int ((bump (tl ws m) (((od ws m).take (lf ws m)).take j)).getD i 0), rfl, rfl, .of gD7, by rw [List.getElem?_map, List.getElem?_eq_getElem hib, getD_of (List.getElem?_eq_getElem hib)]; rfl, _, rfl, D, _, _, i, rfl, rfl, gD7, ixN_nat (by rw [List.length_map]; exact hib), ⟨_, rfl⟩, fun b o hb z => (upd_ne (ne_of_none z fD)).trans (s7 b o hb z), tb7.set gD7, (upd_ne fun e => ?_).trans g7, ?_⟩
          · exact fD' e.symm
          · rw [take_snoc' hi, bump_snoc, ← List.map_set]
            exact upd_same
        · rintro σ H7 ⟨⟨v, rfl⟩, s7, tb7, g7, gD7⟩
          walk_at "dl"
          rw [List.length_map, List.take_length] at gD7
          exact kq c H7 D s7 tb7 fD gD7
theorem sm_mem : ∀ {zs : List Int} {x : Int}, (∀ z ∈ zs, 0 ≤ z) → x ∈ zs → x ≤ sm zs
  | z :: zs, x, h, hx => by
    have h0 := h z List.mem_cons_self
    have h1 : ∀ y ∈ zs, 0 ≤ y := fun y hy => h y (List.mem_cons_of_mem _ hy)
    have h2 := sm_nonneg h1
    rw [sm_cons]
    rcases List.mem_cons.mp hx with e | e
    · omega
    · have := sm_mem h1 e
      omega
theorem tl_le {ws : List Int} {m : Int} (ok : WsOk ws m) (h : 0 < sm ws) (i : Nat) : 0 ≤ (tl ws m).getD i 0 ∧ (tl ws m).getD i 0 ≤ m := by
  simp only [tl, List.getD_eq_getElem?_getD, List.getElem?_map]
  cases e : ws[i]? with
  | none => exact ⟨Int.le_refl _, ok.m0⟩
  | some w =>
    have hm := List.mem_of_getElem? e
    have h1 := (ok.pos w hm).1
    have h2 := sm_mem (fun z hz => (ok.pos z hz).1) hm
    refine ⟨Int.ediv_nonneg (Int.mul_nonneg ok.m0 h1) (by omega), Int.ediv_le_of_le_mul h ?_⟩
    exact Int.mul_le_mul_of_nonneg_left h2 ok.m0
theorem deal_le {ws : List Int} {m : Int} (ok : WsOk ws m) (h : 0 < sm ws) {i : Nat} (hi : i < ws.length) : -BB < (deal ws m).getD i 0 ∧ (deal ws m).getD i 0 < BB := by
  have h1 := tl_le ok h i
  have h2 := ok.m1
  by_cases c : i ∈ (od ws m).take (lf ws m)
  · rw [deal, bump_in (od_nd.sublist (List.take_sublist _ _)) c (by rw [tl_len]; exact hi)]
    exact bb_of (by omega) (by omega)
  · rw [deal, bump_out c]
    exact bb_of (by omega) (by omega)
noncomputable def sp_l_due (K : PySem.W.Frag) : Sp := fun vs H Q _ => ∃ (l : Addr) (ws : List Int) (m : Int), vs = [.ref l, .int m] ∧ H l = some (.lst (ws.map V.int)) ∧ WsOk ws m ∧ sm ws ≠ 0 ∧ ∀ (H' : Hp) (p : Addr), Same H H' → H p = none → H' p = some (.lst ((deal ws m).map V.int)) → Q (.ref p) H'
theorem ok_l_due (T : Txt K mg f fd) : FnOk P w K mg base CX0 1 (f 12) (fd 12) ["_law_weights_here", "_law_many"] (sp_l_due K) := by
  refine T.d_l_due.F.ok sc_l_due (fun vs H Q E h => ?_) (fun cdv A outer s H vs Q E hr h => ?_)
  · obtain ⟨l, ws, m, rfl, _⟩ := h
    rfl
  · obtain ⟨l, ws, m, rfl, hl, ok, c, kq⟩ := h
    refine ⟨_, (pss_cons (psc 2 sc_l_due.nd (pe_cB (k_sumI rfl rfl) T.n_sum bt_sum rfl (by decide) (by decide) rfl (pal rfl (pvc 0) pa_nil)))
     (pss_cons (psc 3 sc_l_due.nd (pe_comp ["_law_weight"] ["_law_weights_here", "_law_many", "_law_whole", "_law_told_here", "_law_rests", "_law_turn", "_law_k"] rfl (show CompSc _ (defScope s_l_due) ["_law_weights_here", "_law_many", "_law_whole", "_law_told_here", "_law_rests", "_law_turn", "_law_k"] ["_law_weights_here", "_law_many", "_law_whole", "_law_told_here", "_law_rests", "_law_turn", "_law_k"] from compOk_is (by decide +kernel)) (k_piL rfl (pvc 0)) (fun _ _ _ _ _ => (pgl 0 (show (["_law_weight", "_law_weights_here", "_law_many", "_law_whole", "_law_told_here", "_law_rests", "_law_turn", "_law_k"] : List Str).Nodup by decide +kernel))) (fun _ _ _ _ _ => pts_nil) (fun _ _ _ _ _ => (pe_op op_fdivB (pe_op op_mulB (pvc 2) (pvl 0)) (pvc 3)))))
     (pss_cons (ps_comp ["_law_k"] ["_law_weights_here", "_law_many", "_law_whole", "_law_told_here", "_law_rests", "_law_turn", "#6"] rfl (show CompSc _ (defScope s_l_due) ["_law_weights_here", "_law_many", "_law_whole", "_law_told_here", "_law_rests", "_law_turn", "_law_k"] ["_law_weights_here", "_law_many", "_law_whole", "_law_told_here", "_law_rests", "_law_turn", "#6"] from compOk_is (by decide +kernel)) sc_l_due.nd (i := 4) rfl rfl (pi_range1 rfl T.n_range (pal rfl (pe_cB (k_len rfl) T.n_len bt_len rfl (by decide) (by decide) rfl (pal rfl (pvc 0) pa_nil)) pa_nil)) (fun _ _ _ _ _ => (pgl 0 (show (["_law_k", "_law_weights_here", "_law_many", "_law_whole", "_law_told_here", "_law_rests", "_law_turn", "#6"] : List Str).Nodup by decide +kernel))) (fun _ _ _ _ _ => pts_nil) (fun _ _ _ _ _ => (pe_op op_sub (pe_op op_mulB (pvc 2) (pe_ix (k_ixL rfl) (pvc 1) (pvl 0) (fun _ _ => rfl))) (pe_op op_mulB (pe_ix (k_ixL rfl) (pvc 4) (pvl 0) (fun _ _ => rfl)) (pvc 3)))))
     (pss_cons (ps_for PassesOwn.never rfl (pi_range1 rfl T.n_range (pal rfl (pe_op op_sub (pvc 1) (pe_cB (k_sumI rfl rfl) T.n_sum bt_sum rfl (by decide) (by decide) rfl (pal rfl (pvc 3) pa_nil))) pa_nil)) (pgl 5 sc_l_due.nd)
     (pss_cons (psl 6 sc_l_due.nd (k_bmL rfl PySem.F.plainAttrs_list PySem.F.slot_list_index PySem.F.type_list_index (k_indexI rfl) rfl rfl rfl rfl (pvl 4) (pal rfl (pe_cB (k_maxL rfl rfl) T.n_max bt_max rfl (by decide) (by decide) rfl (pal rfl (pvl 4) pa_nil)) pa_nil)))
     (pss_cons (ps_asg (pe_op op_add (pe_ix (k_ixL rfl) (pvc 3) (pvl 6) (fun _ _ => rfl)) pe_int) (pg_sub (pvc 3) (pvl 6) set_list))
     (pss_one (ps_asg (pe_un un_neg pe_int) (pg_sub (pvl 4) (pvl 6) set_list))))))
     (pss_one (ps_ret (pvc 3))))))), ?_⟩
    have wpos : 0 < sm ws := by have := ok.s0; omega
    generalize hB : tSeq (tAsg (tComp _ _ _ _ _) _) _ = B
    walk_at "dl"
    refine ⟨l, ws, rfl, .of hl, ?_⟩
    dsimp only
    subst hB
    generalize hB : tSeq (tAsg (tComp _ (iRng1 _) _ _ _) _) _ = B
    walk_at "dl"
    refine ⟨⟨_, .of hl⟩, ?_⟩
    have hz : ws.length ≤ sizeLine := Nat.le_of_lt (small1000 (by have := ok.len; omega))
    refine comp_of (as := ws) (g := V.int) walk_list hz (fun H' q => .of (q _ _ hl)) (fun _ => true) (fun w => V.int (m * w / sm ws)) (fun n H1 Q' _ s1 q => ?_) (fun n H1 Q' hn _ s1 q => ?_) (fun H1 s1 D hD => ?_)
    · walk_at "dl"
      exact q H1 (Same.refl _)
    · walk_at "dl"
      obtain ⟨m1, m2⟩ := ok.m'
      obtain ⟨w1, w2⟩ := ok.wt hn
      exact ⟨m1, m2, w1, w2, wpos, ok.s.2, q H1 (Same.refl _)⟩
    rw [filter_all, show ws.map (fun w => V.int (m * w / sm ws)) = (tl ws m).map V.int by simp [tl]]
    have fD : H D = none := s1.free hD
    have s2 := s1.new hD (HO.lst ((tl ws m).map V.int))
    have gD : upd H1 D (HO.lst ((tl ws m).map V.int)) D = some (.lst ((tl ws m).map V.int)) := upd_same
    generalize upd H1 D (HO.lst ((tl ws m).map V.int)) = H2 at *
    clear hD
    subst hB
    generalize hB : tSeq (tFor _ _ _) _ = B
    walk_at "dl"
    refine ⟨_, .inl (.of (s2 _ _ hl)), ?_⟩
    rw [List.length_map]
    have hln := ok.len
    refine ⟨by omega, by omega, ?_⟩
    rw [Int.toNat_natCast]
    refine comp_of (as := List.range ws.length) (g := fun i => V.int (0 + (i : Int))) walk_range (by rw [List.length_range]; exact hz) (fun _ _ => trivial) (fun _ => true) (fun i => V.int ((rs ws m).getD i 0)) (fun n H3 Q' _ s3 q => ?_) (fun n H3 Q' hn _ s3 q => ?_) (fun H3 s3 D2 hD2 => ?_)
    · walk_at "dl"
      exact q H3 (Same.refl _)
    · walk_at "dl"
      have hn : n < ws.length := List.mem_range.mp hn
      have hnt : n < (tl ws m).length := by rw [tl_len]; exact hn
      obtain ⟨m1, m2⟩ := ok.m'
      obtain ⟨w1, w2⟩ := ok.wt (List.getElem_mem hn)
      have ht := tl_le ok wpos n
      have ht2 := bb_of ht.1 (by have := ok.m1; omega)
      have er : m * ws[n] - (tl ws m).getD n 0 * sm ws = (rs ws m).getD n 0 := by
        have e1 : (tl ws m).getD n 0 = m * ws[n] / sm ws := getD_of (by rw [tl, List.getElem?_map, List.getElem?_eq_getElem hn]; rfl)
        have e2 : (rs ws m).getD n 0 = m * ws[n] % sm ws := getD_of (by rw [rs, List.getElem?_map, List.getElem?_eq_getElem hn]; rfl)
        have e3 := Int.mul_ediv_add_emod (m * ws[n]) (sm ws)
        rw [Int.mul_comm, ← e1, ← e2] at e3
        omega
      refine ⟨l, _, _, .int ws[n], rfl, rfl, .of ((s2.trans s3) _ _ hl), by rw [Int.zero_add]; exact atI_nat (by rw [List.getElem?_map, List.getElem?_eq_getElem hn]; rfl), _, rfl, m1, m2, w1, w2, D, _, _, .int ((tl ws m).getD n 0), rfl, rfl, .of (s3 _ _ gD), by rw [Int.zero_add]; exact atI_nat (by rw [List.getElem?_map, List.getElem?_eq_getElem hnt]; rw [← getD_of (d := 0) (List.getElem?_eq_getElem hnt)]; rfl), _, rfl, ht2.1, ht2.2, ok.s.1, ok.s.2, ?_⟩
      have er' : m * ws[n] - (tl ws m).getD n 0 * List.foldl (fun x1 x2 => x1 + x2) 0 ws = (rs ws m).getD n 0 := er
      rw [er']
      exact q H3 (Same.refl _)
    have erm : ((List.range ws.length).map fun i => V.int ((rs ws m).getD i 0)) = (rs ws m).map V.int := by
      rw [← rs_len (m := m)]
      conv => rhs; rw [← map_getD_range (rs ws m)]
      rw [List.map_map]
      rfl
    rw [filter_all, erm]
    have fD2 : H D2 = none := (s2.trans s3).free hD2
    have w4 := s3.new hD2 (HO.lst ((rs ws m).map V.int))
    have s4 := s2.trans w4
    have gD4 := w4 _ _ gD
    have g4 : upd H3 D2 (HO.lst ((rs ws m).map V.int)) D2 = some (.lst ((rs ws m).map V.int)) := upd_same
    have neD : D ≠ D2 := fun e => by rw [← e, s3 _ _ gD] at hD2; cases hD2
    generalize upd H3 D2 (HO.lst ((rs ws m).map V.int)) = H4 at *
    clear hD2 w4 s3 gD s2
    subst hB
    refine for_in ?_
    walk_at "dl"
    refine ⟨D, tl ws m, rfl, .of gD4, _, rfl, ?_⟩
    have elf : m - List.foldl (fun x1 x2 => x1 + x2) 0 (tl ws m) = (lf ws m : Int) := (lf_eq wpos).symm
    rw [elf]
    have hlf := lf_le (m := m) wpos
    refine ⟨by omega, by omega, ?_⟩
    rw [Int.toNat_natCast]
    refine ForW.of walk_range (fun j σ H' => (∃ v5 v6, σ = [some (V.ref l), some (V.int m), some (V.int (sm ws)), some (V.ref D), some (V.ref D2), v5, v6]) ∧ Same H H' ∧ H' D = some (.lst ((bump (tl ws m) ((od ws m).take j)).map V.int)) ∧ H' D2 = some (.lst ((mask (rs ws m) ((od ws m).take j)).map V.int))) ⟨⟨none, none, rfl⟩, s4, gD4, g4⟩ (fun _ _ _ _ _ => trivial) ?_ ?_
    · rintro j x σ H5 hx ⟨⟨v5, v6, rfl⟩, s5, gD5, g5⟩
      obtain ⟨hj, rfl⟩ := range_item hx
      have hjo : j < (od ws m).length := by rw [od_len]; omega
      have ho : (od ws m)[j]? = some (od ws m)[j] := List.getElem?_eq_getElem hjo
      generalize (od ws m)[j] = i at ho
      have hil : i < ws.length := od_lt (m := m) (List.mem_of_getElem? ho)
      obtain ⟨t1, t2, t3⟩ := od_top (m := m) wpos (by omega) ho
      have hml : (mask (rs ws m) ((od ws m).take j)).length = ws.length := by rw [mask_len, rs_len]
      have hbl : (bump (tl ws m) ((od ws m).take j)).length = ws.length := by rw [bump_len, tl_len]
      have him : i < (mask (rs ws m) ((od ws m).take j)).length := by rw [hml]; exact hil
      have hib : i < (bump (tl ws m) ((od ws m).take j)).length := by rw [hbl]; exact hil
      have emi : (mask (rs ws m) ((od ws m).take j))[i]? = some ((rs ws m).getD i 0) := by
        rw [List.getElem?_eq_getElem him, ← t1, getD_of (List.getElem?_eq_getElem him)]
      walk_at "dl"
      refine ⟨.inl ⟨rfl, _, .of g5⟩, D2, _, rfl, .of g5, fun e => by rw [e] at him; exact absurd him (Nat.not_lt_zero _), fun mx h1 h2 => ?_⟩
      have emx : mx = (rs ws m).getD i 0 := Int.le_antisymm (t2 mx h1) (h2 _ (List.mem_of_getElem? emi))
      subst emx
      refine ⟨D2, _, _, i, rfl, rfl, .of g5, emi, fun a ha e => t3 a ha (getD_of e), D, _, _, .int ((bump (tl ws m) ((od ws m).take j)).getD i 0), rfl, rfl, .of gD5, atI_nat (by rw [List.getElem?_map, List.getElem?_eq_getElem hib, getD_of (List.getElem?_eq_getElem hib)]; rfl), _, rfl, D, _, _, i, rfl, rfl, gD5, ixN_nat (by rw [List.length_map]; exact hib), D2, _, _, i, rfl, rfl, (upd_ne (Ne.symm neD)).trans g5, ixN_nat (by rw [List.length_map]; exact him), ⟨_, rfl⟩, (s5.set fD _).set fD2 _, ?_, ?_⟩
      · rw [upd_ne neD, take_snoc' ho, bump_snoc, ← List.map_set]
        exact upd_same
      · rw [take_snoc' ho, mask_snoc, List.map_set]
        exact upd_same
    · rintro σ H5 ⟨⟨v5, v6, rfl⟩, s5, gD5, g5⟩
      walk_at "dl"
      rw [show (rangeV 0 (lf ws m)).length = lf ws m by simp [rangeV]] at gD5
      exact kq H5 D s5 fD gD5
theorem XdOk.mono {H H' : Hp} {ed : Option Addr} (s : Same H H') (h : XdOk H ed) : XdOk H' ed := by
  rcases h with h | ⟨dx, fs, e, h⟩
  · exact .inl h
  · exact .inr ⟨dx, fs, e, s _ _ h⟩
noncomputable def sp_l_told (K : PySem.W.Frag) (f : Nat → Addr) : Sp := fun vs H Q _ => ∃ (l : Addr) (ws : List Int) (m : Int), vs = [.ref l, .int m] ∧ H l = some (.lst (ws.map V.int)) ∧ WsOk ws m ∧ TabF f H ∧
  (sm ws = 0 → ∀ (H' : Hp) (p q : Addr), Same H H' → H' p = some (.tup [.non, .ref q]) → H' q = some (.tup [.bl true, .bl true, .bl false]) → Q (.ref p) H') ∧
  (sm ws ≠ 0 → ∀ (H' : Hp) (p q e : Addr), SameBut (f 900) H H' → TabF f H' → H q = none → H' p = some (.tup [.ref q, .ref e]) → H' q = some (.lst ((deal ws m).map V.int)) → H' e = some (.tup []) → Q (.ref p) H')
theorem ok_l_told (T : Txt K mg f fd) (hB : BAt base mg (f 900)) : FnOk P w K mg base CX0 2 (f 13) (fd 13) ["_law_weights_here", "_law_many"] (sp_l_told K f) := by
  refine T.d_l_told.F.ok sc_l_told (fun vs H Q E h => ?_) (fun cdv A outer s H vs Q E hr h => ?_)
  · obtain ⟨l, ws, m, rfl, _⟩ := h
    rfl
  · obtain ⟨l, ws, m, rfl, hl, ok, tb, kx, kq⟩ := h
    refine ⟨_, (pss_cons (psl 2 sc_l_told.nd pe_non)
     (pss_cons (psl 3 sc_l_told.nd (pe_tup pa_nil))
     (pss_cons (ps_try rfl rfl (fun _ _ _ => (pss_one (psl 2 sc_l_told.nd (pe_defX (told_try rfl) T.d_dealt (ok_dealt T hB) (hr.mono (by decide)) rfl (by decide) rfl (pal rfl (pvl 0) (pal rfl (pvl 1) pa_nil))))))
     (ph_as rfl T.x_NoWhole.m T.x_NoWhole.x (by decide) sc_l_told.nd (i := 4) rfl rfl (fun _ => (pss_one (psl 3 sc_l_told.nd (pe_tup (pal rfl (pe_cB (k_isX rfl) T.n_isinstance bt_isinstance rfl (by decide) (by decide) rfl (pal rfl (pvl 4) (pal rfl (pgcl T.x_CrossError.m rfl (by decide)) pa_nil))) (pal rfl (pe_cB (k_isX rfl) T.n_isinstance bt_isinstance rfl (by decide) (by decide) rfl (pal rfl (pvl 4) (pal rfl (pty T.n_ValueError bt_ValueError) pa_nil))) (pal rfl (pe_cB (k_isXT rfl) T.n_isinstance bt_isinstance rfl (by decide) (by decide) rfl (pal rfl (pvl 4) (pal rfl (pe_tup (pal rfl (pgcl T.x_NoGroups.m rfl (by decide)) (pal rfl (pgcl T.x_NoNet.m rfl (by decide)) (pal rfl (pgcl T.x_NoVeil.m rfl (by decide)) (pal rfl (pgcl T.x_NoView.m rfl (by decide)) pa_nil))))) pa_nil))) pa_nil)))))))
     ph_nil))
     (pss_one (ps_ret (pe_tup (pal rfl (pvl 2) (pal rfl (pvl 3) pa_nil)))))))), ?_⟩
    walk_at "dl"
    refine ⟨Nat.zero_le _, fun p0 hp0 => ?_⟩
    have s1 := Same.upd_new hp0 (HO.tup [])
    have g1 : upd H p0 (HO.tup []) p0 = some (.tup []) := upd_same
    generalize upd H p0 (HO.tup []) = H1 at *
    have hfp : p0 ≠ f 900 := fun e => by
      obtain ⟨ps, z⟩ := (Tab.same tb s1 : TabF f H1).tbl
      rw [← e, g1] at z; cases z
    refine ⟨ws, s1 _ _ hl, ok, Tab.same tb s1, fun c H2 ed s2 hx => ?_, fun c H2 p s2 tb2 fp hp => ?_⟩
    · refine ⟨_, rfl, ⟨_, T.x_NoWhole.x⟩, ?_⟩
      rw [if_pos T.su_NoWhole_NoWhole]
      intro a ha
      have w3 := Same.upd_new ha (ExO a (Value.ref (f 4)) ed)
      have s3 := (s1.trans s2).trans w3
      have hx3 := XdOk.mono w3 hx
      have g3 : upd H2 a (ExO a (Value.ref (f 4)) ed) a = some (ExO a (Value.ref (f 4)) ed) := upd_same
      generalize upd H2 a (ExO a (Value.ref (f 4)) ed) = H3 at *
      refine ⟨a, f 4, ed, g3, hx3, T.x_NoWhole.xc, rfl, _, T.ki_NoWhole_CrossError, a, f 4, ed, g3, hx3, T.x_NoWhole.xc, rfl, _, T.kv_NoWhole, small_line (by decide), fun p hp => ?_⟩
      have w4 := Same.upd_new hp (HO.tup [V.ref (f 5), V.ref (f 3), V.ref (f 6), V.ref (f 2)])
      have g4 : upd H3 p (HO.tup [V.ref (f 5), V.ref (f 3), V.ref (f 6), V.ref (f 2)]) p = some (HO.tup [V.ref (f 5), V.ref (f 3), V.ref (f 6), V.ref (f 2)]) := upd_same
      have s4 := s3.trans w4
      have g34 := w4 _ _ g3
      have hx4 := XdOk.mono w4 hx3
      generalize upd H3 p (HO.tup [V.ref (f 5), V.ref (f 3), V.ref (f 6), V.ref (f 2)]) = H4 at *
      refine ⟨a, p, f 4, ed, false, [f 5, f 3, f 6, f 2], rfl, g34, hx4, T.x_NoWhole.xc, .of g4, ?_, small_line (by decide), fun q hq => ⟨small_line (by decide), fun r hr => ?_⟩⟩
      · simp only [List.map_cons, List.map_nil, PySem.W.kitAny, T.ki_NoWhole_NoGroups, T.ki_NoWhole_NoNet, T.ki_NoWhole_NoVeil, T.ki_NoWhole_NoView]
        try rfl
      · have w5 := Same.upd_new hq (HO.tup [V.bl true, V.bl true, V.bl false])
        have w6 := Same.upd_new hr (HO.tup [V.non, V.ref q])
        exact kx c _ r q ((s4.trans w5).trans w6) upd_same (w6 _ _ upd_same)
    · refine ⟨small_line (by decide), fun r hr => ?_⟩
      have w3 := Same.upd_new hr (HO.tup [V.ref p, V.ref p0])
      exact kq c _ r p p0 (fun b o hb z => w3 _ _ (s2 b o hb (s1 _ _ z))) (Tab.same tb2 w3) (s1.free fp) upd_same (w3 _ _ hp) (w3 _ _ (s2 _ _ hfp g1))
noncomputable def sp_l_wholes (K : PySem.W.Frag) : Sp := fun vs H Q _ => ∃ (l : Addr) (zs : List Int), vs = [.ref l] ∧ H l = some (.lst (zs.map V.int)) ∧ zs.length ≤ 1000 ∧ ∀ H', Same H H' → Q (.bl true) H'
theorem ok_l_wholes (T : Txt K mg f fd) : FnOk P w K mg base CX0 1 (f 14) (fd 14) ["_law_found"] (sp_l_wholes K) := by
  refine T.d_l_wholes.F.ok sc_l_wholes (fun vs H Q E h => ?_) (fun cdv A outer s H vs Q E hr h => ?_)
  · obtain ⟨l, zs, rfl, _⟩ := h
    rfl
  · obtain ⟨l, zs, rfl, hl, hz, k⟩ := h
    refine ⟨_, (pss_cons (ps_if (pt_not (pt_val (pe_cB (k_isP rfl) T.n_isinstance bt_isinstance rfl (by decide) (by decide) rfl (pal rfl (pvl 0) (pal rfl (pty T.n_list bt_list) pa_nil)))))
     (pss_one (ps_ret pe_bl))
     pss_nil)
     (pss_one (ps_ret (pe_cB (k_all rfl rfl) T.n_all bt_all rfl (by decide) (by decide) rfl (pal rfl (pe_comp ["_law_number"] ["_law_found"] rfl (show CompSc _ (defScope s_l_wholes) ["_law_found"] ["_law_found"] from compOk_is (by decide +kernel)) (k_piL rfl (pvl 0)) (fun _ _ _ _ _ => (pgl 0 (show (["_law_number", "_law_found"] : List Str).Nodup by decide +kernel))) (fun _ _ _ _ _ => pts_nil) (fun _ _ _ _ _ => (pe_and (pe_cB (k_isP rfl) T.n_isinstance bt_isinstance rfl (by decide) (by decide) rfl (pal rfl (pvl 0) (pal rfl (pty T.n_int bt_int) pa_nil))) (pe_one (pe_not (pe_cB (k_isP rfl) T.n_isinstance bt_isinstance rfl (by decide) (by decide) rfl (pal rfl (pvl 0) (pal rfl (pty T.n_bool bt_bool) pa_nil)))))))) pa_nil))))), ?_⟩
    walk_at "dl"
    refine ⟨_, Pl.of_lst hl, by decide, ?_⟩
    rw [show isiN "list" "list" = true from rfl, if_neg (by decide)]
    refine ⟨⟨_, .of hl⟩, ?_⟩
    refine comp_of (as := zs) (g := V.int) walk_list (small_line (by omega)) (fun H' q => .of (q _ _ hl)) (fun _ => true) (fun _ => V.bl true) (fun n H1 Q' _ s1 q => ?_) (fun n H1 Q' _ _ s1 q => ?_) (fun H1 s1 D hD => ?_)
    · exact q H1 (Same.refl _)
    · walk_at "dl"
      refine ⟨_, Pl.of_int, by decide, ?_⟩
      rw [show isiN "int" "int" = true from rfl, if_pos rfl]
      refine ⟨_, Pl.of_int, by decide, ?_⟩
      rw [show isiN "int" "bool" = false from rfl]
      exact q H1 (Same.refl _)
    · have eb : ((zs.filter fun _ => true).map fun _ => V.bl true) = ((zs.map fun _ => true).map V.bl) := by
        rw [List.filter_eq_self.mpr (fun _ _ => rfl), List.map_map]
        rfl
      rw [eb]
      refine ⟨_, .of upd_same, ?_⟩
      rw [show (zs.map fun _ => true).all id = true by simp]
      exact k _ (s1.new hD _)
theorem ints_reps {K : PySem.W.Frag} {H : Hp} : ∀ zs : List Int, Reps K H (zs.map .int) (zs.map V.int) ∧ PyData.canLayAll0 (zs.map .int) = true ∧ PyData.depthAll (zs.map .int) = 0
  | [] => by simp [Reps, PyData.canLayAll0, PyData.depthAll]
  | z :: zs => by
    obtain ⟨h1, h2, h3⟩ := ints_reps (K := K) (H := H) zs
    refine ⟨?_, ?_, ?_⟩
    · simp only [List.map_cons, Reps]
      exact ⟨_, _, rfl, by simp [Rep], h1⟩
    · simp [PyData.canLayAll0, PyData.canLay0, h2]
    · simp [PyData.depthAll, PyData.depth, h3]
theorem ints_self : ∀ a : List Int, PyData.eqvAll (a.map .int) (a.map .int) = true
  | [] => by simp [PyData.eqvAll]
  | x :: a => by simp [PyData.eqvAll, PyData.eqv, ints_self a]
theorem eqD_of {K : PySem.W.Frag} {H : Hp} {x y : V} {neg : Bool} {Q : VK} (d : PyData) (h1 : Rep K H d x) (h2 : Rep K H d y) (sh : SeqAt.shaped d = true) (e : PyData.eqv d d = true) (q : Q (.bl (!neg)) H) : rEqD K neg x y H Q :=
  ⟨d, d, h1, h2, sh, sh, by rw [e]; cases neg <;> exact q⟩
theorem rep_ints {K : PySem.W.Frag} {H : Hp} {a : Addr} {zs : List Int} (h : H a = some (.lst (zs.map V.int))) : Rep K H (.list (zs.map .int)) (.ref a) := by
  simp only [Rep]; exact ⟨a, _, rfl, .of h, (ints_reps zs).1⟩
theorem intsEq_of {K : PySem.W.Frag} {H : Hp} {a b : Addr} {zs : List Int} {neg : Bool} {Q : VK} (h1 : H a = some (.lst (zs.map V.int))) (h2 : H b = some (.lst (zs.map V.int))) (q : Q (.bl (!neg)) H) : rEqD K neg (.ref a) (.ref b) H Q := by
  obtain ⟨r1, r2, r3⟩ := ints_reps (K := K) (H := H) zs
  refine eqD_of (.list (zs.map .int)) (rep_ints h1) (rep_ints h2) ?_ (by simp only [PyData.eqv, ints_self]) q
  unfold SeqAt.shaped
  simp only [PyData.canLay0, PyData.depth, r2, Bool.true_and]
  exact decide_eq_true (by omega)
theorem noneEq_of {K : PySem.W.Frag} {H : Hp} {a b c d : Addr} {neg : Bool} {Q : VK} (h1 : H a = some (.tup [.non, .ref c])) (h2 : H c = some (.tup [.bl true, .bl true, .bl false])) (h3 : H b = some (.tup [.non, .ref d])) (h4 : H d = some (.tup [.bl true, .bl true, .bl false])) (q : Q (.bl (!neg)) H) : rEqD K neg (.ref a) (.ref b) H Q := by
  have rep : ∀ x y, H x = some (.tup [.non, .ref y]) → H y = some (.tup [.bl true, .bl true, .bl false]) → Rep K H (.tuple [.none, .tuple [.bool true, .bool true, .bool false]]) (.ref x) := fun x y e1 e2 => by
    simp only [Rep, Reps]
    exact ⟨x, _, rfl, .of e1, _, _, rfl, rfl, _, _, rfl, ⟨y, _, rfl, .of e2, _, _, rfl, rfl, _, _, rfl, rfl, _, _, rfl, rfl, rfl⟩, rfl⟩
  exact eqD_of _ (rep a c h1 h2) (rep b d h3 h4) (by decide) (by decide) q
theorem tupEq_of {K : PySem.W.Frag} {H : Hp} {a b : Addr} {neg : Bool} {Q : VK} (h1 : H a = some (.tup [])) (h2 : H b = some (.tup [])) (q : Q (.bl (!neg)) H) : rEqD K neg (.ref a) (.ref b) H Q := by
  have rep : ∀ x, H x = some (.tup []) → Rep K H (.tuple []) (.ref x) := fun x e => by
    simp only [Rep, Reps]
    exact ⟨x, _, rfl, .of e, rfl⟩
  exact eqD_of _ (rep a h1) (rep b h2) (by decide) (by decide) q
theorem dealEq_of {K : PySem.W.Frag} {H : Hp} {a b l1 l2 e1 e2 : Addr} {zs : List Int} {neg : Bool} {Q : VK} (h1 : H a = some (.tup [.ref l1, .ref e1])) (h2 : H l1 = some (.lst (zs.map V.int))) (h3 : H e1 = some (.tup [])) (h4 : H b = some (.tup [.ref l2, .ref e2])) (h5 : H l2 = some (.lst (zs.map V.int))) (h6 : H e2 = some (.tup [])) (q : Q (.bl (!neg)) H) : rEqD K neg (.ref a) (.ref b) H Q := by
  obtain ⟨r1, r2, r3⟩ := ints_reps (K := K) (H := H) zs
  have rep : ∀ x y z, H x = some (.tup [.ref y, .ref z]) → H y = some (.lst (zs.map V.int)) → H z = some (.tup []) → Rep K H (.tuple [.list (zs.map .int), .tuple []]) (.ref x) := fun x y z e1 e2 e3 => by
    simp only [Rep, Reps]
    exact ⟨x, _, rfl, .of e1, _, _, rfl, ⟨y, _, rfl, .of e2, (ints_reps zs).1⟩, _, _, rfl, ⟨z, _, rfl, .of e3, rfl⟩, rfl⟩
  refine eqD_of (.tuple [.list (zs.map .int), .tuple []]) (rep a l1 e1 h1 h2 h3) (rep b l2 e2 h4 h5 h6) ?_ (by simp [PyData.eqv, PyData.eqvAll, ints_self]) q
  unfold SeqAt.shaped
  simp only [PyData.canLay0, PyData.canLayAll0, PyData.depth, PyData.depthAll, r2, r3, Bool.true_and, Bool.and_true]
  decide
noncomputable def sp_law (K : PySem.W.Frag) (PT : Addr) : Sp := fun vs H Q _ => ∃ (a : Addr) (ns : List Int), vs = [.ref a] ∧ SqL K H a (ns.map V.int) ∧ ns.length ≤ 63 ∧ H PT = some (.tbl #[]) ∧ ∀ H', Q (.bl true) H'
theorem ok_law (T : Txt K mg f fd) (hB : BAt base mg (f 900)) : FnOk P w K mg base CX0 3 (f 15) (fd 15) ["_law_script"] (sp_law K (f 900)) := by
  refine T.d_law.F.ok sc_law (fun vs H Q E h => ?_) (fun cdv A outer s H vs Q E hr h => ?_)
  · obtain ⟨a, ns, rfl, _⟩ := h
    rfl
  · obtain ⟨a, ns, rfl, hs, hns, hT, k⟩ := h
    refine ⟨_, (pss_cons (psl 1 sc_law.nd (pe_defL T.d_l_draw (ok_l_draw T) (hr.mono (by decide)) rfl (by decide) rfl (pal rfl (pvl 0) (pal rfl pe_int (pal rfl pe_int pa_nil)))))
     (pss_cons (ps_if (pt_cmpR op_eq (pe_op op_fdiv (pe_defL T.d_l_draw (ok_l_draw T) (hr.mono (by decide)) rfl (by decide) rfl (pal rfl (pvl 0) (pal rfl pe_int (pal rfl pe_int pa_nil)))) pe_int) pe_int (nomark _))
     (pss_one (psl 1 sc_law.nd (pe_op op_add pe_int (pvl 1))))
     pss_nil)
     (pss_cons (psl 2 sc_law.nd (pe_defL T.d_l_weights (ok_l_weights T) (hr.mono (by decide)) rfl (by decide) rfl (pal rfl (pvl 0) (pal rfl (pvl 1) pa_nil))))
     (pss_cons (ps_if (pt_cmpR op_eq (pe_defL T.d_l_draw (ok_l_draw T) (hr.mono (by decide)) rfl (by decide) rfl (pal rfl (pvl 0) (pal rfl pe_int (pal rfl pe_int pa_nil)))) pe_int (nomark _))
     (pss_one (psl 2 sc_law.nd (pe_op op_rep (pe_lst (pal rfl pe_int pa_nil)) (pvl 1))))
     pss_nil)
     (pss_cons (psl 3 sc_law.nd (pe_defL T.d_l_draw (ok_l_draw T) (hr.mono (by decide)) rfl (by decide) rfl (pal rfl (pvl 0) (pal rfl pe_int (pal rfl pe_int pa_nil)))))
     (pss_cons (psl 4 sc_law.nd (pe_defL T.d_l_draw (ok_l_draw T) (hr.mono (by decide)) rfl (by decide) rfl (pal rfl (pvl 0) (pal rfl pe_int (pal rfl pe_int pa_nil)))))
     (pss_cons (ps_if (pt_cmpR op_eq (pvl 3) pe_int (nomark _))
     (pss_one (psl 4 sc_law.nd (pe_cB (k_sumI rfl rfl) T.n_sum bt_sum rfl (by decide) (by decide) rfl (pal rfl (pvl 2) pa_nil))))
     pss_nil)
     (pss_cons (ps_if (PW.pt (pw_and (pt_cmpR op_eq (pvl 3) pe_int (nomark _)) (pw_and1 (pt_cmpR op_gt (pe_cB (k_len rfl) T.n_len bt_len rfl (by decide) (by decide) rfl (pal rfl (pvl 0) pa_nil)) pe_int (nomark _)))))
     (pss_one (psl 4 sc_law.nd (pe_op op_mod (pe_ix (k_ixL rfl) (pvl 0) pe_int (fun _ _ => rfl)) (pe_op op_pow pe_int pe_int))))
     pss_nil)
     (pss_cons (psl 5 sc_law.nd (pe_cTy (k_list rfl) T.n_list bt_list rfl (by decide) (by decide) rfl (pal rfl (pvl 2) pa_nil)))
     (pss_cons (psl 6 sc_law.nd (pe_defL T.d_l_told (ok_l_told T hB) (hr.mono (by decide)) rfl (by decide) rfl (pal rfl (pvl 5) (pal rfl (pvl 4) pa_nil))))
     (pss_cons (ps_if (pt_cmpR (k_neD rfl hr.units) (pvl 5) (pvl 2) (nomark _))
     (pss_one (ps_ret pe_bl))
     pss_nil)
     (pss_cons (ps_if (pt_cmpR op_eq (pe_cB (k_sumI rfl rfl) T.n_sum bt_sum rfl (by decide) (by decide) rfl (pal rfl (pvl 2) pa_nil)) pe_int (nomark _))
     (pss_one (ps_ret (pe_cmpR (k_eqD rfl hr.units) (pvl 6) (pe_tup (pal rfl pe_non (pal rfl (pe_tup (pal rfl pe_bl (pal rfl pe_bl (pal rfl pe_bl pa_nil)))) pa_nil))) (nomark _))))
     pss_nil)
     (pss_cons (psl 7 sc_law.nd (pe_defL T.d_l_due (ok_l_due T) (hr.mono (by decide)) rfl (by decide) rfl (pal rfl (pvl 2) (pal rfl (pvl 4) pa_nil))))
     (pss_cons (ps_if (PW.pt (pw_or (pt_cmpR (k_neD rfl hr.units) (pe_ix (k_ixT rfl) (pvl 6) pe_int (fun _ _ => rfl)) (pe_tup pa_nil) (nomark _)) (pw_or (pt_not (pt_val (pe_defL T.d_l_wholes (ok_l_wholes T) (hr.mono (by decide)) rfl (by decide) rfl (pal rfl (pe_ix (k_ixT rfl) (pvl 6) pe_int (fun _ _ => rfl)) pa_nil)))) (pw_or (pt_cmpR (k_neD rfl hr.units) (pe_ix (k_ixT rfl) (pvl 6) pe_int (fun _ _ => rfl)) (pvl 7) (nomark _)) (pw_or1 (pt_cmpR op_ne (pe_cB (k_sumI rfl rfl) T.n_sum bt_sum rfl (by decide) (by decide) rfl (pal rfl (pvl 7) pa_nil)) (pvl 4) (nomark _)))))))
     (pss_one (ps_ret pe_bl))
     pss_nil)
     (pss_cons (ps_expr (k_bmL rfl PySem.F.plainAttrs_list PySem.F.slot_list_append PySem.F.type_list_append mt_append rfl rfl rfl rfl (pe_ix (k_ixT rfl) (pvl 6) pe_int (fun _ _ => rfl)) (pal rfl pe_int pa_nil)))
     (pss_cons (ps_for PassesOwn.never rfl (pi_range1 rfl T.n_range (pal rfl (pe_cB (k_len rfl) T.n_len bt_len rfl (by decide) (by decide) rfl (pal rfl (pvl 2) pa_nil)) pa_nil)) (pgl 8 sc_law.nd)
     (pss_cons (psl 9 sc_law.nd (pe_op op_sub (pe_op op_mulB (pe_ix (k_ixL rfl) (pvl 7) (pvl 8) (fun _ _ => rfl)) (pe_cB (k_sumI rfl rfl) T.n_sum bt_sum rfl (by decide) (by decide) rfl (pal rfl (pvl 2) pa_nil))) (pe_op op_mulB (pvl 4) (pe_ix (k_ixL rfl) (pvl 2) (pvl 8) (fun _ _ => rfl)))))
     (pss_one (ps_if (PW.pt (pw_or (pt_cmpR op_ge (pvl 9) (pe_cB (k_sumI rfl rfl) T.n_sum bt_sum rfl (by decide) (by decide) rfl (pal rfl (pvl 2) pa_nil)) (nomark _)) (pw_or1 (pt_cmpR op_le (pvl 9) (pe_op op_sub pe_int (pe_cB (k_sumI rfl rfl) T.n_sum bt_sum rfl (by decide) (by decide) rfl (pal rfl (pvl 2) pa_nil))) (nomark _)))))
     (pss_one (ps_ret pe_bl))
     pss_nil))))
     (pss_one (ps_ret (pe_and (pe_cmpR (k_eqD rfl hr.units) (pe_defL T.d_l_told (ok_l_told T hB) (hr.mono (by decide)) rfl (by decide) rfl (pal rfl (pvl 5) (pal rfl (pvl 4) pa_nil))) (pe_tup (pal rfl (pvl 7) (pal rfl (pe_tup pa_nil) pa_nil))) (nomark _)) (pe_one (pe_cmpR (k_eqD rfl hr.units) (pvl 5) (pvl 2) (nomark _)))))))))))))))))))))), ?_⟩
    generalize hB1 : tSeq (tAsg _ (gName 2)) _ = B1
    have key1 : ∀ n : Nat, n ≤ 40 → B1 { nx := fun _ H' => Q V.non H', rt := Q } [some (V.ref a), some (V.int n), none, none, none, none, none, none, none, none] H := by
      intro n hn
      subst hB1
      generalize hB2 : tSeq (tAsg _ (gName 3)) _ = B2
      have key2 : ∀ (wl : Addr) (ws : List Int) (H1 : Hp), Same H H1 → H1 wl = some (.lst (ws.map V.int)) → ws.length ≤ 40 → (∀ w ∈ ws, 0 ≤ w ∧ w < 10 ^ 58) → B2 { nx := fun _ H' => Q V.non H', rt := Q } [some (V.ref a), some (V.int n), some (V.ref wl), none, none, none, none, none, none, none] H1 := by
        intro wl ws H1 s1 hw hl hb
        subst hB2
        generalize hB3 : tSeq (tAsg _ (gName 5)) _ = B3
        have key3 : ∀ (m v3 : Int), WsOk ws m → B3 { nx := fun _ H' => Q V.non H', rt := Q } [some (V.ref a), some (V.int n), some (V.ref wl), some (V.int v3), some (V.int m), none, none, none, none, none] H1 := by
          intro m v3 ok
          subst hB3
          generalize hB4 : tSeq (tIfS _ _ _) _ = B4
          walk_at "dl"
          refine ⟨_, .inl (.of hw), fun hd hhd => ?_⟩
          have w2 := Same.upd_new hhd (HO.lst (ws.map V.int))
          have g2 : upd H1 hd (HO.lst (ws.map V.int)) hd = some (.lst (ws.map V.int)) := upd_same
          have s2 := s1.trans w2
          have gw2 := w2 _ _ hw
          generalize upd H1 hd (HO.lst (ws.map V.int)) = H2 at *
          have tb2 : TabF f H2 := .inl (s2 _ _ hT)
          refine ⟨hd, ws, m, rfl, g2, ok, tb2, fun c H3 p q s3 gp gq => ?_, fun c H3 p q e s3 tb3 fq gp gq ge => ?_⟩
          · subst hB4
            generalize hB5 : tSeq (tAsg _ (gName 7)) _ = B5
            walk_at "dl"
            refine intsEq_of (s3 _ _ g2) (s3 _ _ gw2) ⟨_, rfl, ?_⟩
            rw [if_neg (by decide)]
            refine ⟨wl, ws, rfl, .of (s3 _ _ gw2), ?_⟩
            dsimp only
            refine ⟨rfl, ?_⟩
            rw [if_pos (show V.int (sm ws) = V.int 0 by rw [c])]
            refine ⟨small_line (by decide), fun p1 h1 => ⟨small_line (by decide), fun p2 h2 => ?_⟩⟩
            have w4 := Same.upd_new h1 (HO.tup [V.bl true, V.bl true, V.bl false])
            have w5 := Same.upd_new h2 (HO.tup [V.non, V.ref p1])
            exact noneEq_of (w5 _ _ (w4 _ _ gp)) (w5 _ _ (w4 _ _ gq)) upd_same (w5 _ _ upd_same) (k _)
          · subst hB4
            generalize hB5 : tSeq (tAsg _ (gName 7)) _ = B5
            walk_at "dl"
            have nP : ∀ {b : Addr} {xs : List V}, H2 b = some (.lst xs) → b ≠ f 900 := fun z e => by
              obtain ⟨ps, q⟩ := tb2.tbl
              rw [← e, z] at q; cases q
            have g3 := s3 _ _ (nP g2) g2
            have gw3 := s3 _ _ (nP gw2) gw2
            have wpos : 0 < sm ws := by have := ok.s0; omega
            refine intsEq_of g3 gw3 ⟨_, rfl, ?_⟩
            rw [if_neg (by decide)]
            refine ⟨wl, ws, rfl, .of gw3, ?_⟩
            dsimp only
            refine ⟨rfl, ?_⟩
            rw [if_neg (fun z : V.int (sm ws) = V.int 0 => c (V.int.inj z))]
            subst hB5
            generalize hB6 : tSeq (tDrop _) _ = B6
            walk_at "dl"
            refine ⟨wl, ws, m, rfl, gw3, ok, c, fun H4 u s4 fu gu => ?_⟩
            dsimp only
            have gp4 := s4 _ _ gp
            have gq4 := s4 _ _ gq
            have ge4 := s4 _ _ ge
            have g4 := s4 _ _ g3
            have gw4 := s4 _ _ gw3
            have tb4 : TabF f H4 := Tab.same tb3 s4
            refine ⟨p, _, _, .ref e, rfl, rfl, .of gp4, rfl, Nat.zero_le _, fun p5 h5 => ?_⟩
            have w5 := Same.upd_new h5 (HO.tup [])
            have g5 : upd H4 p5 (HO.tup []) p5 = some (HO.tup []) := upd_same
            have gp5 := w5 _ _ gp4
            have gq5 := w5 _ _ gq4
            have ge5 := w5 _ _ ge4
            have gu5 := w5 _ _ gu
            have gw5 := w5 _ _ gw4
            have gh5 := w5 _ _ g4
            have tb5 : TabF f (upd H4 p5 (HO.tup [])) := Tab.same tb4 w5
            generalize upd H4 p5 (HO.tup []) = H5 at *
            have hdl : (deal ws m).length ≤ 1000 := by rw [deal_len]; have := ok.len; omega
            refine tupEq_of ge5 g5 ⟨_, rfl, ?_⟩
            rw [if_neg (by decide)]
            refine ⟨p, _, _, .ref q, rfl, rfl, .of gp5, rfl, q, deal ws m, rfl, gq5, hdl, fun H6 s6 => ⟨_, rfl, ?_⟩⟩
            rw [if_neg (by decide)]
            have gp6 := s6 _ _ gp5
            have gq6 := s6 _ _ gq5
            have gu6 := s6 _ _ gu5
            have gw6 := s6 _ _ gw5
            have gh6 := s6 _ _ gh5
            have tb6 : TabF f H6 := Tab.same tb5 s6
            refine ⟨p, _, _, .ref q, rfl, rfl, .of gp6, rfl, intsEq_of gq6 gu6 ⟨_, rfl, ?_⟩⟩
            rw [if_neg (by decide)]
            refine ⟨u, deal ws m, rfl, .of gu6, rfl, ?_⟩
            rw [if_neg (by
              have e : List.foldl (fun x1 x2 => x1 + x2) 0 (deal ws m) = m := deal_sm wpos
              rw [e]; simp)]
            have nqw : wl ≠ q := fun z => by rw [← z, gw2] at fq; cases fq
            have nqh : hd ≠ q := fun z => by rw [← z, g2] at fq; cases fq
            have nqu : u ≠ q := fun z => by rw [z, gq] at fu; cases fu
            clear gp5 gq5 ge5 gu5 gw5 gh5 tb5 s6 g5 w5 h5 gp4 gq4 ge4 g4 gw4 tb4 s4 fu gu
            subst hB6
            generalize hB7 : tSeq (tFor _ _ _) _ = B7
            walk_at "dl"
            refine ⟨p, _, _, .ref q, rfl, rfl, .of gp6, rfl, .inl ⟨rfl, _, .of gq6⟩, q, _, _, rfl, rfl, gq6, by rw [List.length_map]; exact small1000 hdl, ?_⟩
            have gu7 : upd H6 q (HO.lst ((deal ws m).map V.int ++ [V.int 1])) u = some (.lst ((deal ws m).map V.int)) := (upd_ne nqu).trans gu6
            have gw7 : upd H6 q (HO.lst ((deal ws m).map V.int ++ [V.int 1])) wl = some (.lst (ws.map V.int)) := (upd_ne nqw).trans gw6
            have gh7 : upd H6 q (HO.lst ((deal ws m).map V.int ++ [V.int 1])) hd = some (.lst (ws.map V.int)) := (upd_ne nqh).trans gh6
            have tb7 : TabF f (upd H6 q (HO.lst ((deal ws m).map V.int ++ [V.int 1]))) := tb6.set gq6
            generalize upd H6 q (HO.lst ((deal ws m).map V.int ++ [V.int 1])) = H7 at *
            subst hB7
            refine for_in ?_
            walk_at "dl"
            refine ⟨_, .inl (.of gw7), ?_⟩
            rw [List.length_map]
            have hln := ok.len
            refine ⟨by omega, by omega, ?_⟩
            rw [Int.toNat_natCast]
            refine ForW.of walk_range (fun j σ H' => (∃ v8 v9, σ = [some (V.ref a), some (V.int n), some (V.ref wl), some (V.int v3), some (V.int m), some (V.ref hd), some (V.ref p), some (V.ref u), v8, v9]) ∧ H' = H7) ⟨⟨none, none, rfl⟩, rfl⟩ (fun _ _ _ _ _ => trivial) ?_ ?_
            · rintro j x σ H8 hx ⟨⟨v8, v9, rfl⟩, rfl⟩
              obtain ⟨hj, rfl⟩ := range_item hx
              have hjd : j < (deal ws m).length := by rw [deal_len]; exact hj
              have hof := deal_off (m := m) wpos hj
              have hdb := deal_le ok wpos hj
              have hwb := ok.wt (List.getElem_mem hj)
              rw [getD_of (List.getElem?_eq_getElem hj), getD_of (List.getElem?_eq_getElem hjd)] at hof
              rw [getD_of (List.getElem?_eq_getElem hjd)] at hdb
              walk_at "dl"
              rw [Int.zero_add]
              refine ⟨u, _, _, .int (deal ws m)[j], rfl, rfl, .of gu7, atI_nat (by rw [List.getElem?_map, List.getElem?_eq_getElem hjd]; rfl), wl, ws, rfl, .of gw7, ?_⟩
              refine ⟨_, rfl, _, rfl, hdb.1, hdb.2, ok.s.1, ok.s.2, wl, _, _, .int ws[j], rfl, rfl, .of gw7, atI_nat (by rw [List.getElem?_map, List.getElem?_eq_getElem hj]; rfl), _, rfl, ok.m'.1, ok.m'.2, hwb.1, hwb.2, wl, ws, rfl, .of gw7, _, rfl, ?_⟩
              have o1 : ¬ (sm ws ≤ (deal ws m)[j] * sm ws - m * ws[j]) := by omega
              have o2 : ¬ ((deal ws m)[j] * sm ws - m * ws[j] ≤ 0 - sm ws) := by omega
              refine ite2 (fun z => absurd z o1) fun _ => ⟨wl, ws, rfl, .of gw7, _, rfl, ite2 (fun z => absurd z o2) fun _ => ⟨⟨_, rfl⟩, rfl⟩⟩
            · rintro σ H8 ⟨⟨v8, v9, rfl⟩, rfl⟩
              walk_at "dl"
              refine ⟨hd, ws, m, rfl, gh7, ok, tb7, fun c' => absurd c' c, fun _ H9 p' q' e' s9 tb9 _ gp9 gq9 ge9 => ?_⟩
              have nP7 : ∀ {b : Addr} {xs : List V}, H8 b = some (.lst xs) → b ≠ f 900 := fun z e => by
                obtain ⟨ps, q⟩ := tb7.tbl
                rw [← e, z] at q; cases q
              have gu9 := s9 _ _ (nP7 gu7) gu7
              have gw9 := s9 _ _ (nP7 gw7) gw7
              have gh9 := s9 _ _ (nP7 gh7) gh7
              refine ⟨Nat.zero_le _, fun p1 h1 => ⟨small_line (by decide), fun p2 h2 => ?_⟩⟩
              have w10 := Same.upd_new h1 (HO.tup [])
              have w11 := Same.upd_new h2 (HO.tup [V.ref u, V.ref p1])
              have w12 := w10.trans w11
              refine dealEq_of (w12 _ _ gp9) (w12 _ _ gq9) (w12 _ _ ge9) upd_same (w12 _ _ gu9) (w11 _ _ upd_same) ⟨_, rfl, ?_⟩
              rw [if_pos (by decide)]
              exact intsEq_of (w12 _ _ gh9) (w12 _ _ gw9) (k _)
        have okm : ∀ m : Int, 0 ≤ m → m < 10 ^ 60 → WsOk ws m := fun m h0 h1 => ⟨by omega, hb, h0, h1⟩
        have ok0 := okm 0 (by decide) (by decide)
        have zp : (10 : Int) ^ Int.toNat 59 = 10 ^ 59 := rfl
        walk_at "dl"
        refine ⟨a, ns, _, _, rfl, s1.seq hs, by decide, by decide, by decide, fun d d0 d1 => ⟨a, ns, _, _, rfl, s1.seq hs, by decide, by decide, by decide, fun e e0 e1 => ?_⟩⟩
        rcases (by omega : d = 0 ∨ d = 1 ∨ d = 2 ∨ d = 3) with rfl | rfl | rfl | rfl
        · walk_at "dl"
          exact key3 e 0 (okm e e0 (by omega))
        · walk_at "dl"
          refine ⟨wl, ws, rfl, .of hw, ?_⟩
          exact key3 (sm ws) 1 (okm _ ok0.s0 ok0.s1)
        · walk_at "dl"
          refine ⟨_, .inl (s1.seq hs), ?_⟩
          rw [List.length_map]
          refine ite2 (fun c => ?_) fun _ => key3 e 2 (okm e e0 (by omega))
          have hi : 3 < ns.length := by omega
          rw [zp]
          have b1 := Int.emod_nonneg ns[3] (show (10 : Int) ^ 59 ≠ 0 by decide)
          have b2 := Int.emod_lt_of_pos ns[3] (show (0 : Int) < 10 ^ 59 by decide)
          exact ⟨a, _, _, .int ns[3], rfl, rfl, s1.seq hs, atI_nat (j := 3) (by rw [List.getElem?_map, List.getElem?_eq_getElem hi]; rfl), ⟨by decide, by decide, by decide⟩, _, rfl, by decide, key3 _ 2 (okm _ b1 (by omega))⟩
        · walk_at "dl"
          exact key3 e 3 (okm e e0 (by omega))
      walk_at "dl"
      refine ⟨a, ns, n, rfl, hs, by omega, fun H1 wl ws s1 _ hw hl hb => ⟨a, ns, _, _, rfl, s1.seq hs, by decide, by decide, by decide, fun d d0 d1 => ⟨rfl, ?_⟩⟩⟩
      refine ite2 (fun _ => ⟨small_line (by decide), fun p hp => ?_⟩) fun _ => key2 wl ws H1 s1 hw (by omega) hb
      have w2 := Same.upd_new hp (HO.lst [V.int 0])
      have g2 : upd H1 p (HO.lst [V.int 0]) p = some (HO.lst [V.int 0]) := upd_same
      generalize upd H1 p (HO.lst [V.int 0]) = H2 at *
      refine ⟨p, n, [V.int 0], rfl, rfl, g2, by omega, by omega, ?_, fun r hr => ?_⟩
      · exact small_line (by simp; omega)
      · have e : (List.replicate (Int.toNat n) [V.int 0]).flatten = (List.replicate n (0 : Int)).map V.int := by
          rw [Int.toNat_natCast]
          simp
        rw [e]
        exact key2 r (List.replicate n 0) _ ((s1.trans w2).new hr _) upd_same (by rw [List.length_replicate]; omega) fun w hw => by
          rw [List.eq_of_mem_replicate hw]
          exact ⟨by decide, by decide⟩
    walk_at "dl"
    refine ⟨a, ns, _, _, rfl, hs, by decide, by decide, by decide, fun d d0 d1 => ⟨a, ns, _, _, rfl, hs, by decide, by decide, by decide, fun e e0 e1 => ⟨e, rfl, ⟨by decide, by decide⟩, ?_⟩⟩⟩
    refine ite2 (fun _ => ⟨d, rfl, ?_⟩) fun _ => ?_
    · have := key1 (29 + d.toNat) (by omega)
      rw [show ((29 + d.toNat : Nat) : Int) = 29 + d by omega] at this
      exact this
    · have := key1 d.toNat (by omega)
      rw [show ((d.toNat : Nat) : Int) = d by omega] at this
      exact this
end
theorem walk {l : PySem.W.OpenLaw} {q : Program} {loose : List Str} {XP : (Str → Option Value) → Heap → Prop} {YP : World → Heap → Prop} {d : DefRec} {K : Params → PySem.W.Frag} {ts : List Addr} (hn : l.most = some 63) (hdf : d.params.defaults = [])
    (hY : ∀ (w : World) (h : Heap), YP w h → (K w.params).In h ∧ ∀ P, P ∈ ts → h.get? P = some (PySem.W.tabObj #[]))
    (F : ∀ (w : World) (mg : Str → Option Value) (fa : Addr) (h : Heap), (K w.params).In h → h.Ns mainGlobals mg → mg d.name = some (.ref fa) →
      ∃ (fd : FuncData) (PT : Addr), (∀ (s : Shared) (u : Value), BindsTo s fd ⟨[u], []⟩ [("_law_script", u)]) ∧ PT ∈ ts ∧ (K w.params).lookup PT = none ∧ (∃ c, PySem.W.codeHdIn (K w.params) c PT = true) ∧ ∀ base : Heap, (K w.params).In base → base.Ns mainGlobals mg → BAt base mg PT → FnOk l.prog w (K w.params) mg base CX0 3 fa fd ["_law_script"] (sp_law (K w.params) PT)) :
    PySem.W.WalkO q loose XP YP l.row.toRowW d [] (fun f vs => PySem.call f vs) :=
  L2.walk_ofT (n := 63) (k := 3) (x := "_law_script") (sp := fun w PT => sp_law (K w.params) PT) hn (by decide) hdf ⟨rfl, by decide, by decide⟩ hY F (fun _ _ a PT ns hl hS hT => ⟨a, ns, rfl, hS, hl, hT, fun _ => rfl⟩)
theorem all_mk {l : PySem.W.OpenLaw} {w : World} {K : PySem.W.Frag} {h : Heap} {mg : Str → Option Value} {fa : Addr} {ts : List Addr} (X : K.In h) (G : h.Ns mainGlobals mg) (hfa : mg "law" = some (.ref fa)) (T : ∃ f fd, Txt K mg f fd ∧ f 900 ∈ ts ∧ f 15 = f 15 ∧ ∃ kV dc pm an cd ct, fd 15 = PySem.W.fnOf "law" "law" (defArgs s_law) (defBody s_law) (defScope s_law) .none kV dc pm an cd ct) :
    ∃ (fd : FuncData) (PT : Addr), (∀ (s : Shared) (v : Value), BindsTo s fd ⟨[v], []⟩ [("_law_script", v)]) ∧ PT ∈ ts ∧ K.lookup PT = none ∧ (∃ c, PySem.W.codeHdIn K c PT = true) ∧ ∀ base : Heap, K.In base → base.Ns mainGlobals mg → BAt base mg PT → FnOk l.prog w K mg base CX0 3 fa fd ["_law_script"] (sp_law K PT) := by
  obtain ⟨f, fd, T, ht, _, kV, dc, pm, an, cd, ct, e⟩ := T
  have e2 := hfa.symm.trans T.d_law.m
  cases e2
  exact ⟨fd 15, f 900, fun s v => by rw [e]; exact .of_eq rfl, ht, T.tab_dealt, (let ⟨c, _, q⟩ := T.lam_dealt.code; ⟨c, q⟩), fun base _ _ ba => ok_law T ba⟩
end NS
open PySem PySem.W PyProof.Rows
set_option maxRecDepth 100000 in
set_option maxHeartbeats 0 in
theorem PySem.Challenge.cw_crosshall_k35_dealt_by_weights_holds : PySem.Challenge.rw_crosshall_k35_dealt_by_weights.Holds := by
  w_on; o_law; k_head; (case hw => w_witness2)
  k_fill
  refine NS.walk (l := PySem.Challenge.rw_crosshall_k35_dealt_by_weights) rfl rfl (fun w h Y => ⟨PySem.W.km_in_of Y, PySem.W.km_tabs_of Y⟩) ?F
  case F =>
    intro w mg fa h KX G hmg
    refine NS.all_mk KX G hmg ?_
    suffices TT : ∃ f fd, NS.Txt (L2.KOf KX) mg f fd ∧ f 900 ∈ _ ∧ f 15 = f 15 ∧ ∃ kV dc pm an cd ct, fd 15 = PySem.W.fnOf "law" "law" (L2.defArgs NS.s_law) (L2.defBody NS.s_law) (L2.defScope NS.s_law) .none kV dc pm an cd ct from TT
    dsimp only [L2.KOf]
    refine' NS.txt_mk KX G ?a1 ?a2 ?a3 ?a4 ?a5 ?a6 ?a8 ?l8 ?c8 ?k8 ?a10 ?l10 ?c10 ?k10 ?a11 ?l11 ?c11 ?k11 ?a12 ?l12 ?c12 ?k12 ?a13 ?l13 ?c13 ?k13 ?a14 ?l14 ?c14 ?k14 ?a15 ?l15 ?c15 ?k15 ?x_NoWhole_e ?x_NoWhole_kp ?x_NoWhole_ga ?x_NoWhole_gh ?x_NoWhole_ba ?x_NoWhole_ob ?x_NoWhole_hd ?x_NoWhole_cl ?x_NoWhole_cg ?x_NoWhole_ct ?x_NoWhole_sa ?v_ki_NoWhole_CrossError ?v_ki_NoWhole_NoView ?v_ki_NoWhole_NoNet ?v_su_NoWhole_NoWhole ?v_ki_NoWhole_NoWhole ?v_ki_NoWhole_NoGroups ?v_ki_NoWhole_NoVeil ?v_kv_NoWhole ?z_ValueError ?z_all ?z_bool ?z_int ?z_isinstance ?z_len ?z_list ?z_max ?z_range ?z_sorted ?z_sum ?q1_900 ?q2_900 ?q3_900 ?q4_900 ?q5_900 ?q9_900 ?qt_900
    (case a1 => k_is)
    (case a2 => k_is)
    (case a3 => k_is)
    (case a4 => k_is)
    (case a5 => k_is)
    (case a6 => k_is)
    (case a8 => k_is)
    (case l8 => k_is)
    (case c8 => k_is)
    (case k8 => k_is)
    (case a10 => k_is)
    (case l10 => k_is)
    (case c10 => k_is)
    (case k10 => k_is)
    (case a11 => k_is)
    (case l11 => k_is)
    (case c11 => k_is)
    (case k11 => k_is)
    (case a12 => k_is)
    (case l12 => k_is)
    (case c12 => k_is)
    (case k12 => k_is)
    (case a13 => k_is)
    (case l13 => k_is)
    (case c13 => k_is)
    (case k13 => k_is)
    (case a14 => k_is)
    (case l14 => k_is)
    (case c14 => k_is)
    (case k14 => k_is)
    (case a15 => k_is)
    (case l15 => k_is)
    (case c15 => k_is)
    (case k15 => k_is)
    (case x_NoWhole_e => kernel_rfl)
    (case x_NoWhole_kp => k_is)
    (case x_NoWhole_ga => k_is)
    (case x_NoWhole_gh => k_is)
    (case x_NoWhole_ba => k_is)
    (case x_NoWhole_ob => k_is)
    (case x_NoWhole_hd => k_is)
    (case x_NoWhole_cl => k_is)
    (case x_NoWhole_cg => k_is)
    (case x_NoWhole_ct => k_is)
    (case x_NoWhole_sa => k_is)
    (case v_ki_NoWhole_CrossError => rfl)
    (case v_ki_NoWhole_NoView => rfl)
    (case v_ki_NoWhole_NoNet => rfl)
    (case v_su_NoWhole_NoWhole => rfl)
    (case v_ki_NoWhole_NoWhole => rfl)
    (case v_ki_NoWhole_NoGroups => rfl)
    (case v_ki_NoWhole_NoVeil => rfl)
    (case v_kv_NoWhole => rfl)
    (case z_ValueError => k_is)
    (case z_all => k_is)
    (case z_bool => k_is)
    (case z_int => k_is)
    (case z_isinstance => k_is)
    (case z_len => k_is)
    (case z_list => k_is)
    (case z_max => k_is)
    (case z_range => k_is)
    (case z_sorted => k_is)
    (case z_sum => k_is)
    (case q1_900 => rfl)
    (case q2_900 => k_is)
    (case q3_900 => rfl)
    (case q4_900 => rfl)
    (case q5_900 => decide)
    (case q9_900 => kernel_rfl)
    (case qt_900 => first | decide | simp)
