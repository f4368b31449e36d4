import PyProof.Rows.All
import Wide.All
import OpenK.AllK
import Wide.FinOn
import Lean
import PyProof.EqAt
import PyProof.EqKinds
import PyProof.TupleCall
import OpenK.KOwn
import PyProof.InstStoreFacts
import PyProof.EnumFor
import PyProof.EnumMake
import PyProof.EnumStmt
import KE.KDictList
import PyProof.ListRange
import PyProof.Rows.SetFrom
import PyProof.WalksMore
import PyProof.ZipIter
import PyProof.AttrMissSeq
import KE.KDictOf
import PyProof.MinMaxWalk
import PyProof.Rows.CallKwBuiltin
import KE.KMinKey
import KE.KRevSl
import PyProof.SumAny
import PyProof.P3In
import PyProof.SeqI3
import PyProof.DictItems
import PyProof.DictItemsLoops
import PyProof.Rows.StrNews2
import KE.KPairComp
import PyProof.FString
import PySem.Challenge.RW_crosshall_k09_sieve_texts
-- CHANGE: your row's module here, as the last of these rows
set_option compiler.extract_closed false
set_option Elab.async false
set_option linter.all false
set_option maxRecDepth 100000
namespace L2
open PySem PySem.Spec PyProof.Rows
noncomputable abbrev Key := Sum Int Str
noncomputable def keyIs : Key → Value → Bool
  | .inl k, v => Value.isInt k v
  | .inr x, v => Value.isStrOf x v
noncomputable def keyH (w : World) : Key → Int
  | .inl k => hashInt k
  | .inr x => hashStr w x
theorem keyIs_shape : ∀ {k : Key} {v : Value}, keyIs k v = true → (∃ i t, k = Sum.inl i ∧ v = Value.int i t) ∨ (∃ x t, k = Sum.inr x ∧ v = Value.str x t)
  | .inl i, v, h => by
    obtain ⟨t, e⟩ := Value.isInt_shape (k := i) (v := v) h
    exact .inl ⟨i, t, rfl, e⟩
  | .inr x, v, h => by
    obtain ⟨t, e⟩ := Value.isStrOf_shape (x := x) (v := v) h
    exact .inr ⟨x, t, rfl, e⟩
theorem keyIs_int (i : Int) (t : Tok) : keyIs (.inl i) (.int i t) = true := by simp [keyIs, Value.isInt]
theorem keyIs_str (x : Str) (t : Tok) : keyIs (.inr x) (.str x t) = true := by simp [keyIs, Value.isStrOf]
theorem key_ll (a b : Int) : decide ((Sum.inl a : Key) = Sum.inl b) = (a == b) := by
  by_cases e : a = b
  · subst e; simp
  · have h : ¬ (Sum.inl a : Key) = Sum.inl b := fun q => e (Sum.inl.inj q)
    rw [decide_eq_false h]
    exact (beq_eq_false_iff_ne.mpr e).symm
theorem key_rr (a b : Str) : decide ((Sum.inr a : Key) = Sum.inr b) = decide (a = b) := by
  by_cases e : a = b
  · subst e; simp
  · have h : ¬ (Sum.inr a : Key) = Sum.inr b := fun q => e (Sum.inr.inj q)
    rw [decide_eq_false h, decide_eq_false e]
theorem key_lr (a : Int) (b : Str) : decide ((Sum.inl a : Key) = Sum.inr b) = false := decide_eq_false (fun q => nomatch q)
theorem key_rl (a : Str) (b : Int) : decide ((Sum.inr a : Key) = Sum.inl b) = false := decide_eq_false (fun q => nomatch q)
noncomputable def mixKind (prog : Program) (w : World) : PySem.KeyKind prog w Key where
  is := keyIs
  hash := keyH w
  inj := fun v a b ha hb => by
    rcases keyIs_shape ha with ⟨i, t, rfl, rfl⟩ | ⟨x, t, rfl, rfl⟩
    · rcases keyIs_shape hb with ⟨j, u, rfl, e⟩ | ⟨y, u, rfl, e⟩
      · injection e with e1 _; rw [e1]
      · exact nomatch e
    · rcases keyIs_shape hb with ⟨j, u, rfl, e⟩ | ⟨y, u, rfl, e⟩
      · exact nomatch e
      · injection e with e1 _; rw [e1]
  byValue := fun k v h => by
    rcases keyIs_shape h with ⟨i, t, rfl, rfl⟩ | ⟨x, t, rfl, rfl⟩ <;> rfl
  pyHash := fun hv h => by
    rcases keyIs_shape hv with ⟨i, t, rfl, rfl⟩ | ⟨x, t, rfl, rfl⟩
    · exact wpAny_pyHash_int h
    · exact wpAny_pyHash_str h
  eqBool := fun hu hv h => by
    rcases keyIs_shape hu with ⟨i, t, rfl, rfl⟩ | ⟨x, t, rfl, rfl⟩
    · rcases keyIs_shape hv with ⟨j, u, rfl, rfl⟩ | ⟨y, u, rfl, rfl⟩
      · rw [key_ll] at h; exact wpAny_eqBool_int h
      · rw [key_lr] at h; exact SeqAt.EqAt.int_str i t y u _ _ _ _ h
    · rcases keyIs_shape hv with ⟨j, u, rfl, rfl⟩ | ⟨y, u, rfl, rfl⟩
      · rw [key_rl] at h; exact SeqAt.EqAt.str_int x t j u _ _ _ _ h
      · rw [key_rr] at h; exact wpAny_eqBool_str h
  «strs» := fun k x t v h => by
    rcases keyIs_shape h with ⟨i, u, rfl, e⟩ | ⟨y, u, rfl, e⟩
    · exact nomatch e
    · injection e with e1 _
      subst e1
      cases v <;> rfl
theorem mixKind_int (prog : Program) (w : World) (i : Int) (t : Tok) : (mixKind prog w).is (.inl i) (.int i t) = true := keyIs_int i t
theorem mixKind_str (prog : Program) (w : World) (x : Str) (t : Tok) : (mixKind prog w).is (.inr x) (.str x t) = true := keyIs_str x t
noncomputable abbrev NKey := Option Key
noncomputable def nIs : NKey → Value → Bool
  | none, .none => true
  | none, _ => false
  | some k, v => keyIs k v
noncomputable def nH (w : World) : NKey → Int
  | none => reduceHash 0xFCA86420
  | some k => keyH w k
theorem nIs_shape : ∀ {k : NKey} {v : Value}, nIs k v = true → (k = none ∧ v = Value.none) ∨ ∃ q, k = some q ∧ keyIs q v = true
  | none, v, h => by cases v <;> first | exact .inl ⟨rfl, rfl⟩ | exact nomatch h
  | some k, v, h => .inr ⟨k, rfl, h⟩
theorem key_not_none {q : Key} (h : keyIs q Value.none = true) : False := by
  rcases keyIs_shape h with ⟨_, _, _, e⟩ | ⟨_, _, _, e⟩ <;> exact nomatch e
theorem pyHash_none {prog : Program} {w : World} {A : Around} {E : Value → Shared → Prop} {s : Shared} {Q : Int → Shared → Prop} (h : Q (reduceHash 0xFCA86420) { s with toks := s.toks + 1 }) : wpAny (model prog w) A (pyHash .none) Q E s :=
  PySem.W.pyHash_slot (T := "NoneType") rfl F.slot_NoneType_hash F.entry_NoneType_hash (F.args_NoneType_hash_1 _) (beq_builtin_none _) (.inl rfl) (wpAny_bind (wpAny_pure (wpAny_bind (wpAny_mkInt (wpAny_pure ⟨_, _, rfl, h⟩)))))
theorem eqBool_none {prog : Program} {w : World} {A : Around} {E : Value → Shared → Prop} {s : Shared} {Q : Bool → Shared → Prop} (h : Q true s) : wpAny (model prog w) A (eqBool .none .none) Q E s := by
  unfold eqBool
  try with_reducible refine wpAny_holding ?_
  show wpAny _ _ (if (Value.none == Value.none) = true then _ else _) Q E s
  rw [if_pos (by decide)]
  exact wpAny_bind (wpAny_rule (wpAny_pure h))
noncomputable def optKind (prog : Program) (w : World) : PySem.KeyKind prog w NKey where
  is := nIs
  hash := nH w
  inj := fun v a b ha hb => by
    rcases nIs_shape ha with ⟨rfl, rfl⟩ | ⟨q, rfl, hq⟩
    · rcases nIs_shape hb with ⟨rfl, _⟩ | ⟨q', rfl, hq'⟩
      · rfl
      · exact (key_not_none hq').elim
    · rcases nIs_shape hb with ⟨rfl, rfl⟩ | ⟨q', rfl, hq'⟩
      · exact (key_not_none hq).elim
      · rw [(mixKind prog w).inj v q q' hq hq']
  byValue := fun k v h => by
    rcases nIs_shape h with ⟨rfl, rfl⟩ | ⟨q, rfl, hq⟩
    · rfl
    · exact (mixKind prog w).byValue q v hq
  pyHash := fun hv h => by
    rcases nIs_shape hv with ⟨rfl, rfl⟩ | ⟨q, rfl, hq⟩
    · exact pyHash_none h
    · exact (mixKind prog w).pyHash hq h
  eqBool := fun {A E s a b u v Q} hu hv h => by
    rcases nIs_shape hu with ⟨rfl, rfl⟩ | ⟨q, rfl, hq⟩
    · rcases nIs_shape hv with ⟨rfl, rfl⟩ | ⟨q', rfl, hq'⟩
      · exact eqBool_none (by simpa using h)
      · have h' : Q false s := by simpa using h
        rcases keyIs_shape hq' with ⟨i, t, rfl, rfl⟩ | ⟨x, t, rfl, rfl⟩
        · exact SeqAt.EqAt.none_int i t _ _ _ _ h'
        · exact SeqAt.EqAt.none_str x t _ _ _ _ h'
    · rcases nIs_shape hv with ⟨rfl, rfl⟩ | ⟨q', rfl, hq'⟩
      · have h' : Q false s := by simpa using h
        rcases keyIs_shape hq with ⟨i, t, rfl, rfl⟩ | ⟨x, t, rfl, rfl⟩
        · exact SeqAt.EqAt.int_none i t _ _ _ _ h'
        · exact SeqAt.EqAt.str_none x t _ _ _ _ h'
      · refine (mixKind prog w).eqBool hq hq' ?_
        have e : decide ((some q : NKey) = some q') = decide (q = q') := by simp
        rw [← e]; exact h
  «strs» := fun k x t v h => by
    rcases nIs_shape h with ⟨rfl, e⟩ | ⟨q, rfl, hq⟩
    · exact nomatch e
    · exact (mixKind prog w).strs q x t v hq
end L2
namespace L2
open PySem PySem.Spec PyProof.Rows
inductive V where
  | non | bl (b : Bool) | int (i : Int) | str (x : Str) | byt (b : Array UInt8) | flt (b : UInt64) | ref (a : Addr) | ty (n : String)
  deriving DecidableEq
noncomputable def RelV : V → Value → Prop
  | .non, u => u = Value.none
  | .bl b, u => u = Value.bool b
  | .int i, u => ∃ t, u = Value.int i t
  | .str x, u => ∃ t, u = Value.str x t
  | .byt b, u => ∃ t, u = Value.bytes b t
  | .flt b, u => ∃ t, u = Value.float b t
  | .ref a, u => u = Value.ref a
  | .ty n, u => u = Value.type n
noncomputable abbrev Vals : List V → List Value → Prop := Paired RelV
theorem Vals.length {xs : List V} {us : List Value} (r : Vals xs us) : xs.length = us.length := Paired.length r
theorem Vals.get : ∀ {xs : List V} {us : List Value} {i : Nat} {x : V}, Vals xs us → xs[i]? = some x → ∃ u, us[i]? = some u ∧ RelV x u
  | _, _, _, _, .nil, e => by simp at e
  | _, _, 0, _, .cons r _, e => by simp at e; subst e; exact ⟨_, rfl, r⟩
  | _, _, i + 1, x, .cons _ t, e => by
    obtain ⟨u, h1, h2⟩ := Vals.get (i := i) (x := x) t (by simpa using e)
    exact ⟨u, by simpa using h1, h2⟩
theorem Vals.append : ∀ {xs ys : List V} {us ws : List Value}, Vals xs us → Vals ys ws → Vals (xs ++ ys) (us ++ ws)
  | _, _, _, _, .nil, s => s
  | _, _, _, _, .cons r t, s => .cons r (Vals.append t s)
theorem Vals.take : ∀ {xs : List V} {us : List Value} (n : Nat), Vals xs us → Vals (xs.take n) (us.take n)
  | _, _, 0, _ => .nil
  | _, _, _ + 1, .nil => .nil
  | _, _, n + 1, .cons r t => .cons r (Vals.take n t)
theorem Vals.drop : ∀ {xs : List V} {us : List Value} (n : Nat), Vals xs us → Vals (xs.drop n) (us.drop n)
  | _, _, 0, r => r
  | _, _, _ + 1, .nil => .nil
  | _, _, n + 1, .cons _ t => Vals.drop n t
noncomputable def RelO : Option V → Option Value → Prop
  | some v, some u => RelV v u
  | none, none => True
  | _, _ => False
noncomputable def KV {κ : Type} : List (κ × V) → List (κ × Value) → Prop := Paired fun (p : κ × V) (q : κ × Value) => p.1 = q.1 ∧ RelV p.2 q.2
noncomputable def kV : Key → V
  | .inl i => .int i
  | .inr x => .str x
noncomputable def nV : NKey → V
  | none => .non
  | some k => kV k
inductive HO where
  | lst (xs : List V)
  | tup (xs : List V)
  | dK (kvs : List (Key × V)) | dT (kvs : List (List NKey × V))
  | set (S : Int → Bool) (n : Nat)
  | ins (C dx : Addr) (fs : List (Str × V))
  | own (x : Addr)
  | xd (fs : List (Str × V))
  | met (f x : Addr)
  | rng (lo hi : Int)
  | frz (o : Obj) (u : HO)
  | tbl (ps : Array Value)
  | ext (φ : Heap → Prop)
noncomputable abbrev Hp := Addr → Option HO
noncomputable def upd (H : Hp) (a : Addr) (o : HO) : Hp := fun b => if b = a then some o else H b
theorem upd_same {H : Hp} {a : Addr} {o : HO} : upd H a o a = some o := by unfold upd; rw [if_pos rfl]
theorem upd_ne {H : Hp} {a b : Addr} {o : HO} (h : b ≠ a) : upd H a o b = H b := by unfold upd; rw [if_neg h]
theorem upd_upd {H : Hp} {a : Addr} {o u : HO} : upd (upd H a o) a u = upd H a u := by
  funext b; unfold upd; split <;> rfl
theorem ne_of_none {H : Hp} {a b : Addr} {o : HO} (h : H a = some o) (h' : H b = none) : a ≠ b := by
  intro e; subst e; rw [h] at h'; cases h'
section
variable (P : Program) (w : World)
noncomputable def ObjOk (H : Hp) (h : Heap) (a : Addr) : HO → Prop
  | .lst xs => xs.length ≤ sizeLine ∧ ∃ (its : List Value) (n : Nat), Vals xs its ∧ h.get? a = some { cls := .type "list", data := .seq its.toArray n }
  | .tup xs => xs.length ≤ sizeLine ∧ ∃ its : List Value, Vals xs its ∧ IsTup h a its.toArray
  | .dK kvs => kvs.length ≤ sizeLine ∧ (a == sysModules) = false ∧ ∃ vs, KV kvs vs ∧ h.DictOf (mixKind P w) a vs
  | .dT kvs => kvs.length ≤ sizeLine ∧ (a == sysModules) = false ∧ ∃ xs : List (List NKey × Addr × Value),
      Paired (fun (p : List NKey × V) (q : List NKey × Addr × Value) => p.1 = q.1 ∧ H q.2.1 = some (.tup (p.1.map nV)) ∧ RelV p.2 q.2.2) kvs xs ∧
      ∃ o es ep, h.get? a = some o ∧ o.ExactDict ∧ o.data = .dict es ep ∧ es.toList = xs.map (entryOfKey (tupleKind (optKind P w))) ∧ (xs.map (·.1)).Nodup
  | .set S n => h.SetOf (intKind P w) a S n
  | .ins C dx fs => H dx = some (.own a) ∧ fs.length ≤ 1000 ∧ dx ≠ a ∧ h.get? a = some (PySem.W.instObj C dx) ∧
      ∃ mA, h.Ns1 dx mA ∧ (∀ f, RelO (fs.lookup f) (mA f)) ∧ PySem.Within mA (fs.map (·.1))
  | .own _ => ∃ o, h.get? a = some o
  | .xd fs => ∃ mA, h.Ns1 a mA ∧ ∀ f, RelO (fs.lookup f) (mA f)
  | .rng lo hi => ∃ t u v, h.get? a = some { cls := .type "range", data := .fields #[.int lo t, .int hi u, .int 1 v] }
  | .frz o u => h.get? a = some o ∧ ObjOk H h a u
  | .tbl ps => h.get? a = some { cls := .none, data := .fields ps }
  | .met f x => h.get? a = some (PySem.W.methodObj (.ref f) (.ref x))
  | .ext φ => φ h ∧ (∃ o, h.get? a = some o) ∧ ∀ h1 h2 : Heap, φ h1 → (∀ o, h1.get? a = some o → h2.get? a = some o) → φ h2
noncomputable def HOk (H : Hp) (h : Heap) : Prop := ∀ a o, H a = some o → ObjOk P w H h a o
end
section
variable {P : Program} {w : World} {H H' : Hp} {h h' : Heap} {a : Addr} {o : HO}
theorem ObjOk.lt (x : ObjOk P w H h a o) : a < h.objs.size := by
  cases o with
  | lst xs => obtain ⟨_, _, _, _, e⟩ := x; exact Heap.lt_size e
  | tup xs => obtain ⟨_, _, _, p⟩ := x; exact p.lt
  | dK kvs => obtain ⟨_, _, _, _, o, _, _, e, _⟩ := x; exact Heap.lt_size e
  | dT kvs => obtain ⟨_, _, _, _, o, _, _, e, _⟩ := x; exact Heap.lt_size e
  | set S n => obtain ⟨o, _, _, _, e, _⟩ := x; exact Heap.lt_size e
  | ins C dx fs => obtain ⟨_, _, _, e, _⟩ := x; exact Heap.lt_size e
  | own y => obtain ⟨_, e⟩ := x; exact Heap.lt_size e
  | xd fs => obtain ⟨_, ⟨_, _, _, e, _⟩, _⟩ := x; exact Heap.lt_size e
  | rng lo hi => obtain ⟨_, _, _, e⟩ := x; exact Heap.lt_size e
  | frz ob u => obtain ⟨e, _⟩ := x; exact Heap.lt_size e
  | tbl ps => exact Heap.lt_size (show h.get? a = some _ from x)
  | met f y => exact Heap.lt_size (show h.get? a = some _ from x)
  | ext φ => obtain ⟨_, ⟨_, e⟩, _⟩ := x; exact Heap.lt_size e
theorem Paired.mapP {α β : Type} {F G : α → β → Prop} : ∀ {l₁ : List α} {l₂ : List β}, Paired F l₁ l₂ → (∀ a b, F a b → G a b) → Paired G l₁ l₂
  | _, _, .nil, _ => .nil
  | _, _, .cons r t, f => .cons (f _ _ r) (Paired.mapP t f)
theorem ObjOk.stay (x : ObjOk P w H h a o) (k : ∀ b u, (b = a ∨ H b = some (.own a)) → h.get? b = some u → h'.get? b = some u)
    (ho : ∀ b, H b = some (.own a) → H' b = some (.own a)) (ht : ∀ b xs, H b = some (.tup xs) → H' b = some (.tup xs)) : ObjOk P w H' h' a o := by
  induction o with
  | lst xs => obtain ⟨z, its, n, r, e⟩ := x; exact ⟨z, its, n, r, k _ _ (.inl rfl) e⟩
  | tup xs => obtain ⟨z, its, r, ob, e, c⟩ := x; exact ⟨z, its, r, ob, k _ _ (.inl rfl) e, c⟩
  | dK kvs => obtain ⟨z, y, vs, r, ob, es, ep, e, c⟩ := x; exact ⟨z, y, vs, r, ob, es, ep, k _ _ (.inl rfl) e, c⟩
  | dT kvs =>
    obtain ⟨z, y, xs, r, ob, es, ep, e, c⟩ := x
    exact ⟨z, y, xs, Paired.mapP r fun p q z => ⟨z.1, ht _ _ z.2.1, z.2.2⟩, ob, es, ep, k _ _ (.inl rfl) e, c⟩
  | set S n => obtain ⟨ob, es, ep, t, e, c⟩ := x; exact ⟨ob, es, ep, t, k _ _ (.inl rfl) e, c⟩
  | ins C dx fs =>
    obtain ⟨d, z, ne, e, mA, ⟨od, es, ep, e2, c⟩, r⟩ := x
    exact ⟨ho _ d, z, ne, k _ _ (.inl rfl) e, mA, ⟨od, es, ep, k _ _ (.inr d) e2, c⟩, r⟩
  | own y => obtain ⟨ob, e⟩ := x; exact ⟨ob, k _ _ (.inl rfl) e⟩
  | xd fs => obtain ⟨mA, ⟨od, es, ep, e, c⟩, r⟩ := x; exact ⟨mA, ⟨od, es, ep, k _ _ (.inl rfl) e, c⟩, r⟩
  | rng lo hi => obtain ⟨t, u, v, e⟩ := x; exact ⟨t, u, v, k _ _ (.inl rfl) e⟩
  | frz ob u ih => obtain ⟨e, q⟩ := x; exact ⟨k _ _ (.inl rfl) e, ih q⟩
  | tbl ps =>
    have e : h.get? a = some { cls := .none, data := .fields ps } := x
    show h'.get? a = some { cls := .none, data := .fields ps }
    exact k a _ (.inl rfl) e
  | met f y =>
    have e : h.get? a = some (PySem.W.methodObj (.ref f) (.ref y)) := x
    show h'.get? a = some (PySem.W.methodObj (.ref f) (.ref y))
    exact k a _ (.inl rfl) e
  | ext φ => obtain ⟨p, ⟨o, e⟩, st⟩ := x; exact ⟨st _ _ p fun o q => k _ _ (.inl rfl) q, ⟨o, k _ _ (.inl rfl) e⟩, st⟩
theorem HOk.lt (x : HOk P w H h) (e : H a = some o) : a < h.objs.size := (x a o e).lt
theorem HOk.fresh (x : HOk P w H h) (e : h.objs.size ≤ a) : H a = none := by
  cases q : H a with
  | none => rfl
  | some u => exact absurd (Nat.lt_of_lt_of_le (x.lt q) e) (Nat.lt_irrefl _)
theorem HOk.kept (x : HOk P w H h) (k : ∀ b u, h.get? b = some u → h'.get? b = some u) : HOk P w H h' := fun a o e =>
  (x a o e).stay (fun b u _ q => k b u q) (fun _ q => q) fun _ _ q => q
theorem HOk.laid (x : HOk P w H h) (k : ∀ b u, h.get? b = some u → h'.get? b = some u) (hp : h.objs.size ≤ a) (new : ObjOk P w (upd H a o) h' a o) : HOk P w (upd H a o) h' := fun b u e => by
  have hn := x.fresh hp
  by_cases hb : b = a
  · subst hb; rw [upd_same] at e; cases e; exact new
  · rw [upd_ne hb] at e
    exact (x b u e).stay (fun c v _ q => k c v q) (fun c q => by rw [upd_ne (ne_of_none q hn)]; exact q) fun c xs q => by rw [upd_ne (ne_of_none q hn)]; exact q
end
noncomputable def Rd (H : Hp) (a : Addr) (u : HO) : Prop := H a = some u ∨ ∃ o, H a = some (.frz o u)
theorem Rd.ok {P : Program} {w : World} {H : Hp} {h : Heap} {a : Addr} {u : HO} (r : Rd H a u) (x : HOk P w H h) : ObjOk P w H h a u := by
  rcases r with r | ⟨o, r⟩
  · exact x a u r
  · obtain ⟨_, q⟩ := x a _ r
    exact q
noncomputable def Mut : Option HO → Prop
  | some (.lst _) => True
  | some (.dK _) => True
  | some (.dT _) => True
  | some (.set _ _) => True
  | some (.ins _ _ _) => True
  | some (.ext _) => True
  | _ => False
section
variable {P : Program} {w : World} {H : Hp} {h h' : Heap} {x e : Addr} {o' : HO}
theorem HOk.write (ok : HOk P w H h) (mu : Mut (H x)) (he : e = x ∨ H e = some (.own x)) (k : ∀ b u, b ≠ e → h.get? b = some u → h'.get? b = some u) (heo : ∃ u, h'.get? e = some u)
    (new : ObjOk P w (upd H x o') h' x o') : HOk P w (upd H x o') h' := fun b u q => by
  have nown : ∀ c y, H c = some (.own y) → c ≠ x := fun c y r z => by subst z; rw [r] at mu; exact mu
  have ntup : ∀ c xs, H c = some (.tup xs) → c ≠ x := fun c xs r z => by subst z; rw [r] at mu; exact mu
  by_cases hb : b = x
  · subst hb; rw [upd_same] at q; cases q; exact new
  · rw [upd_ne hb] at q
    by_cases hbe : b = e
    · have q' : H b = some (.own x) := by
        rcases he with z | z
        · exact absurd (hbe.trans z) hb
        · rw [hbe]; exact z
      rw [q] at q'; cases q'
      obtain ⟨v, hv⟩ := heo
      exact ⟨v, by rw [hbe]; exact hv⟩
    · refine (ok b u q).stay (fun c v hc r => k c v ?_ r) (fun c r => by rw [upd_ne (nown c b r)]; exact r) fun c xs r => by rw [upd_ne (ntup c xs r)]; exact r
      rcases hc with rfl | hc
      · exact hbe
      · rintro rfl
        rcases he with z | z
        · exact nown c b hc z
        · rw [hc] at z; cases z; exact hb rfl
end
structure Un (fs ex : List Addr) (H H' : Hp) (h h' : Heap) : Prop where
  keep : ∀ b o, h.get? b = some o → H b = none → b ∉ fs → b ∉ ex → h'.get? b = some o
  slot : ∀ b o, h.get? b = some o → H b = none → b ∈ fs → b ∉ ex → ∃ sl, h'.get? b = some { o with slots := sl }
  free : ∀ b o, h.get? b = some o → H b = none → b ∉ ex → H' b = none
  there : ∀ b o, h.get? b = some o → b ∉ ex → ∃ o', h'.get? b = some o'
  tups : ∀ b xs, H b = some (.tup xs) → H' b = some (.tup xs)
  frzs : ∀ b o u, H b = some (.frz o u) → H' b = some (.frz o u)
  tbls : ∀ b ps, H b = some (.tbl ps) → ∃ more, H' b = some (.tbl (ps ++ more))
section
variable {fs fs' ex ex' : List Addr} {H H1 H2 : Hp} {h h1 h2 h' : Heap} {a x e : Addr} {o : HO}
theorem Un.any (u : Un fs ex H H1 h h1) {b : Addr} {ob : Obj} (q : h.get? b = some ob) (n : H b = none) (hx : b ∉ ex) : ∃ sl, h1.get? b = some { ob with slots := sl } := by
  by_cases hb : b ∈ fs
  · exact u.slot b ob q n hb hx
  · exact ⟨ob.slots, u.keep b ob q n hb hx⟩
theorem Un.kept (k : ∀ b u, h.get? b = some u → h'.get? b = some u) : Un fs ex H H h h' :=
  ⟨fun b ob q _ _ _ => k b ob q, fun b ob q _ _ _ => ⟨ob.slots, k b ob q⟩, fun _ _ _ n _ => n, fun b ob q _ => ⟨ob, k b ob q⟩, fun _ _ q => q, fun _ _ _ q => q, fun _ ps q => ⟨#[], by rw [q]; simp⟩⟩
theorem Un.refl : Un fs ex H H h h := Un.kept fun _ _ q => q
theorem Un.laid (k : ∀ b u, h.get? b = some u → h'.get? b = some u) (hp : h.objs.size ≤ a) (hn : H a = none) : Un fs ex H (upd H a o) h h' where
  keep := fun b u q _ _ _ => k b u q
  slot := fun b u q _ _ _ => ⟨u.slots, k b u q⟩
  free := fun b u q n _ => by rw [upd_ne (Nat.ne_of_lt (Nat.lt_of_lt_of_le (Heap.lt_size q) hp))]; exact n
  there := fun b u q _ => ⟨u, k b u q⟩
  tups := fun b xs q => by rw [upd_ne (ne_of_none q hn)]; exact q
  frzs := fun b u xs q => by rw [upd_ne (ne_of_none q hn)]; exact q
  tbls := fun b ps q => ⟨#[], by rw [upd_ne (ne_of_none q hn), q]; simp⟩
theorem Un.write (mu : Mut (H x)) (he : e = x ∨ H e = some (.own x)) (k : ∀ b u, b ≠ e → h.get? b = some u → h'.get? b = some u) (heo : ∃ u, h'.get? e = some u) : Un fs ex H (upd H x o) h h' := by
  have hx : ∀ b, H b = none → b ≠ x := fun b n z => by subst z; rw [n] at mu; exact mu
  have hb : ∀ b, H b = none → b ≠ e := fun b n z => by
    subst z
    rcases he with r | r
    · exact hx b n r
    · rw [n] at r; cases r
  have hm : ∀ b u, H b = some u → ¬ Mut (some u) → b ≠ x := fun b u q nm z => by subst z; rw [q] at mu; exact nm mu
  refine ⟨fun b u q n _ _ => k b u (hb b n) q, fun b u q n _ _ => ⟨u.slots, k b u (hb b n) q⟩, fun b u q n _ => by rw [upd_ne (hx b n)]; exact n, fun b u q _ => ?_,
    fun b xs q => by rw [upd_ne (hm b _ q fun z => z)]; exact q, fun b u xs q => by rw [upd_ne (hm b _ q fun z => z)]; exact q, fun b ps q => ⟨#[], by rw [upd_ne (hm b _ q fun z => z), q]; simp⟩⟩
  by_cases hbe : b = e
  · subst hbe; exact heo
  · exact ⟨u, k b u hbe q⟩
end
noncomputable def trk (h : Heap) (H : Hp) : List Addr := (List.range h.objs.size).filter fun a => (H a).isSome
noncomputable def hidT (h : Heap) (H : Hp) : Heap := PySem.W.hideAll h (trk h H)
theorem hidT_size (h : Heap) (H : Hp) : (hidT h H).objs.size = h.objs.size := PySem.W.hideAll_size _ _
theorem hidT_get {h : Heap} {H : Hp} {b : Addr} {o : Obj} (e : h.get? b = some o) (n : H b = none) : (hidT h H).get? b = some o :=
  PySem.W.hideAll_get _ e fun hm => by
    have q : (H b).isSome = true := (List.mem_filter.mp hm).2
    rw [n] at q; simp at q
theorem of_hidT {h : Heap} {H : Hp} {b : Addr} {o : Obj} (e : (hidT h H).get? b = some o) : h.get? b = some o ∧ H b = none := by
  have e' : h.get? b = some o := PySem.W.of_hideAll (trk h H) e
  refine ⟨e', ?_⟩
  cases q : H b with
  | none => rfl
  | some x =>
    have hm : b ∈ trk h H := List.mem_filter.mpr ⟨List.mem_range.mpr (Heap.lt_size e'), by simp [q]⟩
    have z : (hidT h H).get? b = none := PySem.W.hideAll_none (trk h H) hm
    rw [z] at e; cases e
end L2
namespace L2
open PySem PySem.Spec PyProof.Rows
structure Mod (K : PySem.W.Frag) (mg : Str → Option Value) (base : Heap) : Prop where
  kin : K.In base
  glob : base.Ns mainGlobals mg
  blt : ∃ mb, base.Ns builtinsNs mb ∧ ∀ x : Str, x ≠ "__name__" → mb x = bootBuiltins x
  nolimit : base.NoLimit
structure Cx where
  prog : Program
  w : World
  K : PySem.W.Frag
  mg : Str → Option Value
  base : Heap
  A : Around
  N : List Str
  s₀ : Shared
  H₀ : Hp
  env : Env
  outer : List Env
  stack : List Env
  ex : List Addr
  fn : Str → Bool
  calm : Bool
  pn : List (Addr × Obj)
  xe : Value → Shared → Prop
noncomputable def frs (l : List Env) : List Addr := l.filterMap (·.frame)
noncomputable abbrev Cx.fs (X : Cx) : List Addr := frs X.outer
noncomputable def Vis (sc : Scope) (x : Str) : Prop := sc.names.lookup x = some .local ∨ sc.names.lookup x = some .cell ∨ sc.names.lookup x = some .free
noncomputable def Loc (sc : Scope) (x : Str) : Prop := sc.names.lookup x = some .local ∨ sc.names.lookup x = some .cell
noncomputable def Look (env : Env) (h : Heap) (m : Str → Option Value) (x : Str) (u : Value) : Prop :=
  (env.kindOf x = some .local ∧ m x = some u) ∨ ((env.kindOf x = some .cell ∨ env.kindOf x = some .free) ∧ ∃ c, env.cells.lookup x = some c ∧ h.IsCell c (some u))
structure Cx.Ok (X : Cx) : Prop where
  mod : Mod X.K X.mg X.base
  kind : X.env.scope.kind = .function
  glob : X.env.globals = mainGlobals
  blt : X.env.builtins = builtinsNs
  above : X.s₀.heap.objs.size ≤ X.env.locals
  inj : ∀ x y c, X.env.cells.lookup x = some c → X.env.cells.lookup y = some c → x = y
  has : ∀ x, (X.env.kindOf x = some .cell ∨ X.env.kindOf x = some .free) → ∃ c, X.env.cells.lookup x = some c
  cab : ∀ x c, X.fn x = true → X.env.cells.lookup x = some c → X.s₀.heap.objs.size ≤ c
  hd : X.calm = true → X.A.handled = none
  frames : X.A.frames = some X.stack
  stk : X.stack = X.outer ∨ (X.stack = X.env :: X.outer ∧ X.env.frame = some X.env.locals)
  exf : ∀ b ∈ X.ex, b ≠ X.env.locals ∧ ∀ x c, X.env.cells.lookup x = some c → c ≠ b
  bs : ∀ b o, X.base.get? b = some o → X.s₀.heap.get? b = some o ∧ X.H₀ b = none
  bsz : X.base.objs.size ≤ X.s₀.heap.objs.size
  noex : ∀ b o, X.base.get? b = some o → b ∉ X.ex
  exfs : ∀ b ∈ X.ex, b ∉ X.fs
  funs : X.s₀.heap.FunFrames X.base X.outer
  frf : ∀ b ∈ X.fs, X.H₀ b = none
structure Inv (X : Cx) (pins : List (Addr × Obj)) (σ : List (Option V)) (H : Hp) (s : Shared) : Prop where
  ok : X.Ok
  os : s.os = X.s₀.os
  bare : AllBare s.gens
  base : Un X.fs X.ex X.H₀ H X.s₀.heap s.heap
  loc : ∃ m, s.heap.Ns X.env.locals m ∧ ∀ (i : Nat) (x : Str) (v : V), X.N[i]? = some x → σ[i]? = some (some v) → Vis X.env.scope x → ∃ u, RelV v u ∧ Look X.env s.heap m x u
  cell : ∀ x c, X.env.cells.lookup x = some c → ∃ v, s.heap.IsCell c v
  free : H X.env.locals = none
  freeC : ∀ x c, X.env.cells.lookup x = some c → H c = none
  pin : ∀ p ∈ X.pn ++ pins, s.heap.get? p.1 = some p.2 ∧ H p.1 = none ∧ p.1 ≠ X.env.locals ∧ p.1 ∉ X.fs ∧ ∀ v, p.2.data ≠ .cell v
  hok : HOk X.prog X.w H s.heap
  len : σ.length = X.N.length
section
variable {X : Cx} {pins : List (Addr × Obj)} {σ : List (Option V)} {H H' : Hp} {s : Shared} {h' : Heap}
theorem Cx.Ok.nofr (ok : X.Ok) {b : Addr} {o : Obj} (e : X.base.get? b = some o) : b ∉ X.fs := fun hb => by
  have := (ok.funs.mem hb).1
  rw [e] at this; cases this
theorem Inv.bs (I : Inv X pins σ H s) : ∀ b o, X.base.get? b = some o → s.heap.get? b = some o ∧ H b = none := fun b o e =>
  ⟨I.base.keep b o (I.ok.bs b o e).1 (I.ok.bs b o e).2 (I.ok.nofr e) (I.ok.noex b o e), I.base.free b o (I.ok.bs b o e).1 (I.ok.bs b o e).2 (I.ok.noex b o e)⟩
theorem Inv.bk (I : Inv X pins σ H s) : ∀ b o, X.base.get? b = some o → s.heap.get? b = some o := fun b o e => (I.bs b o e).1
theorem Inv.mod (I : Inv X pins σ H s) : Mod X.K X.mg X.base := I.ok.mod
theorem Inv.kIn (I : Inv X pins σ H s) : X.K.In s.heap := I.ok.mod.kin.keeps I.bk
theorem Inv.lt (I : Inv X pins σ H s) : X.env.locals < s.heap.objs.size := let ⟨_, hn, _⟩ := I.loc; hn.lt
theorem Inv.sz (I : Inv X pins σ H s) : X.s₀.heap.objs.size ≤ s.heap.objs.size := Nat.le_trans I.ok.above (Nat.le_of_lt I.lt)
theorem Inv.nofs (I : Inv X pins σ H s) {a : Addr} (h : s.heap.objs.size ≤ a) : a ∉ X.fs := fun hb => by
  obtain ⟨_, o, ho, _⟩ := I.ok.funs.mem hb
  exact absurd (Nat.lt_of_lt_of_le (Heap.lt_size ho) (Nat.le_trans I.sz h)) (Nat.lt_irrefl _)
theorem Inv.cne (I : Inv X pins σ H s) : ∀ x c, X.env.cells.lookup x = some c → c ≠ X.env.locals := fun x c e z => by
  obtain ⟨v, o, ho, hd⟩ := I.cell x c e
  obtain ⟨m, ⟨o', es, ep, ho', hd', _⟩, _⟩ := I.loc
  rw [z, ho'] at ho; cases ho; rw [hd'] at hd; cases hd
theorem Inv.funs (I : Inv X pins σ H s) : s.heap.FunFrames X.base X.outer := by
  have all : ∀ (l : List Env), (∀ b ∈ frs l, b ∈ X.fs) → X.s₀.heap.FunFrames X.base l → s.heap.FunFrames X.base l := by
    intro l
    induction l with
    | nil => intro _ _; trivial
    | cons env r ih =>
      intro hs hl
      obtain ⟨hk, ⟨L, o, hf, hn, ho, hd⟩, hr⟩ := hl
      have hL : L ∈ X.fs := hs L (by unfold frs; rw [List.filterMap_cons, hf]; exact List.mem_cons_self)
      obtain ⟨sl, e⟩ := I.base.slot L o ho (I.ok.frf L hL) hL fun z => I.ok.exfs L z hL
      exact ⟨hk, ⟨L, _, hf, hn, e, hd⟩, ih (fun b hb => hs b (by unfold frs; rw [List.filterMap_cons, hf]; exact List.mem_cons_of_mem _ hb)) hr⟩
  exact all X.outer (fun _ hb => hb) I.ok.funs
theorem Inv.stack (I : Inv X pins σ H s) : s.heap.FunFrames X.base X.stack := by
  rcases I.ok.stk with e | ⟨e, hf⟩
  · rw [e]; exact I.funs
  · rw [e]
    obtain ⟨m, hn, _⟩ := I.loc
    refine .cons (by rw [I.ok.kind]; decide) hf hn ?_ I.funs
    exact Heap.get?_none_of_le (Nat.le_trans I.ok.bsz I.ok.above)
theorem Inv.stkSub (I : Inv X pins σ H s) : ∀ b ∈ frs X.stack, b ∈ X.env.locals :: X.fs := fun b hb => by
  rcases I.ok.stk with e | ⟨e, hf⟩
  · rw [e] at hb; exact List.mem_cons_of_mem _ hb
  · rw [e] at hb
    unfold frs at hb
    rw [List.filterMap_cons, hf] at hb
    exact hb
theorem Inv.stkFree (I : Inv X pins σ H s) : ∀ b ∈ frs X.stack, H b = none := fun b hb => by
  rcases List.mem_cons.mp (I.stkSub b hb) with e | hb
  · rw [e]; exact I.free
  · obtain ⟨_, o, ho, _⟩ := I.ok.funs.mem hb
    exact I.base.free b o ho (I.ok.frf b hb) fun z => I.ok.exfs b z hb
theorem Inv.step {g' : Array GenState} {t' : Nat} {d' : Drawn} {ch : List Addr} (I : Inv X pins σ H s)
    (hch : ∀ b ∈ ch, (b ∈ X.ex ∨ X.s₀.heap.objs.size ≤ b) ∧ b ≠ X.env.locals ∧ (∀ x c, X.env.cells.lookup x = some c → c ≠ b) ∧ ∀ p ∈ X.pn ++ pins, p.1 ≠ b)
    (keep : ∀ b o, b ≠ X.env.locals → b ∉ X.fs → b ∉ ch → s.heap.get? b = some o → H b = none → h'.get? b = some o)
    (slot : ∀ b o, b ≠ X.env.locals → b ∈ X.fs → b ∉ ch → s.heap.get? b = some o → H b = none → ∃ sl, h'.get? b = some { o with slots := sl }) (free : ∀ b o, b ∉ ch → s.heap.get? b = some o → H b = none → H' b = none)
    (there : ∀ b o, b ∉ ch → s.heap.get? b = some o → ∃ o', h'.get? b = some o')
    (tups : ∀ b xs, H b = some (.tup xs) → H' b = some (.tup xs)) (frzs : ∀ b o u, H b = some (.frz o u) → H' b = some (.frz o u)) (tbls : ∀ b ps, H b = some (.tbl ps) → ∃ more, H' b = some (.tbl (ps ++ more)))
    (ns : ∀ m, s.heap.Ns X.env.locals m → h'.Ns X.env.locals m) (hok : HOk X.prog X.w H' h') (hg : AllBare g') :
    Inv X pins σ H' { s with heap := h', gens := g', drawn := d', toks := t' } := by
  have neL : ∀ b o, X.s₀.heap.get? b = some o → b ≠ X.env.locals := fun b o e => Nat.ne_of_lt (Nat.lt_of_lt_of_le (Heap.lt_size e) I.ok.above)
  have neC : ∀ b o, X.s₀.heap.get? b = some o → b ∉ X.ex → b ∉ ch := fun b o e hx hb => by
    rcases (hch b hb).1 with z | z
    · exact hx z
    · exact absurd (Nat.lt_of_lt_of_le (Heap.lt_size e) z) (Nat.lt_irrefl _)
  have cellK : ∀ x c, X.env.cells.lookup x = some c → ∀ v, s.heap.IsCell c v → h'.IsCell c v := fun x c e v ⟨o, ho, hd⟩ => by
    have nch : c ∉ ch := fun z => (hch c z).2.2.1 x c e rfl
    by_cases hc : c ∈ X.fs
    · obtain ⟨sl, q⟩ := slot c o (I.cne x c e) hc nch ho (I.freeC x c e)
      exact ⟨_, q, hd⟩
    · exact ⟨o, keep c o (I.cne x c e) hc nch ho (I.freeC x c e), hd⟩
  refine ⟨I.ok, I.os, hg, ⟨fun b o e n hb hx => ?_, fun b o e n hb hx => ?_, fun b o e n hx => ?_, fun b o e hx => ?_, fun b xs e => tups b xs (I.base.tups b xs e), fun b o xs e => frzs b o xs (I.base.frzs b o xs e), fun b ps e => ?_⟩, ?_, fun x c e => ?_, ?_, fun x c e => ?_, fun p hp => ?_, hok, I.len⟩
  · exact keep b o (neL b o e) hb (neC b o e hx) (I.base.keep b o e n hb hx) (I.base.free b o e n hx)
  · obtain ⟨sl, e1⟩ := I.base.slot b o e n hb hx
    obtain ⟨sl', e2⟩ := slot b _ (neL b o e) hb (neC b o e hx) e1 (I.base.free b o e n hx)
    exact ⟨sl', e2⟩
  · obtain ⟨o', e1⟩ := I.base.there b o e hx
    exact free b o' (neC b o e hx) e1 (I.base.free b o e n hx)
  · obtain ⟨o', e1⟩ := I.base.there b o e hx
    exact there b o' (neC b o e hx) e1
  · obtain ⟨m1, e1⟩ := I.base.tbls b ps e
    obtain ⟨m2, e2⟩ := tbls b _ e1
    exact ⟨m1 ++ m2, by rw [e2, Array.append_assoc]⟩
  · obtain ⟨m, hn, hl⟩ := I.loc
    refine ⟨m, ns m hn, fun i x v e1 e2 e3 => ?_⟩
    obtain ⟨u, r, l⟩ := hl i x v e1 e2 e3
    refine ⟨u, r, ?_⟩
    rcases l with l | ⟨k, c, e, z⟩
    · exact .inl l
    · exact .inr ⟨k, c, e, cellK x c e _ z⟩
  · obtain ⟨v, z⟩ := I.cell x c e
    exact ⟨v, cellK x c e v z⟩
  · obtain ⟨m, ⟨o, _, _, ho, _⟩, _⟩ := I.loc
    exact free _ o (fun z => (hch _ z).2.1 rfl) ho I.free
  · obtain ⟨v, o, ho, hd⟩ := I.cell x c e
    exact free c o (fun z => (hch c z).2.2.1 x c e rfl) ho (I.freeC x c e)
  · obtain ⟨e, n, ne, nf, d⟩ := I.pin p hp
    have nch : p.1 ∉ ch := fun z => (hch p.1 z).2.2.2 p hp rfl
    exact ⟨keep p.1 p.2 ne nf nch e n, free p.1 p.2 nch e n, ne, nf, d⟩
theorem Inv.un {t' : Nat} (I : Inv X pins σ H s) (u : Un X.fs [] H H' s.heap h') (hok : HOk X.prog X.w H' h') : Inv X pins σ H' { s with heap := h', toks := t' } := by
  obtain ⟨m, ⟨o, es, ep, ho, r⟩, _⟩ := id I.loc
  obtain ⟨sl, hL⟩ := u.any ho I.free (by simp)
  exact I.step (g' := s.gens) (d' := s.drawn) (ch := []) (fun _ z => nomatch z) (fun b o _ hb _ e n => u.keep b o e n hb (by simp)) (fun b o _ hb _ e n => u.slot b o e n hb (by simp)) (fun b o _ e n => u.free b o e n (by simp)) (fun b o _ e => u.there b o e (by simp)) u.tups u.frzs u.tbls (fun m' hm => by
    obtain ⟨o', es', ep', ho', r'⟩ := hm
    rw [ho] at ho'; cases ho'
    exact ⟨_, es', ep', hL, r'⟩) hok I.bare
theorem Inv.call {g' : Array GenState} {t' : Nat} {d' : Drawn} {ch : List Addr} (I : Inv X pins σ H s) (u : Un (frs X.stack) ch H H' s.heap h') (hok : HOk X.prog X.w H' h') (hg : AllBare g')
    (hch : ∀ b ∈ ch, (b ∈ X.ex ∨ X.s₀.heap.objs.size ≤ b) ∧ b ≠ X.env.locals ∧ (∀ x c, X.env.cells.lookup x = some c → c ≠ b) ∧ ∀ p ∈ X.pn ++ pins, p.1 ≠ b) :
    Inv X pins σ H' { s with heap := h', gens := g', drawn := d', toks := t' } := by
  obtain ⟨m, ⟨o, es, ep, ho, r⟩, _⟩ := id I.loc
  obtain ⟨sl, hL⟩ := u.any ho I.free fun z => (hch _ z).2.1 rfl
  exact I.step (ch := ch) hch (fun b o hL hb hc e n => u.keep b o e n (fun z => (List.mem_cons.mp (I.stkSub b z)).elim hL hb) hc) (fun b o _ _ hc e n => u.any e n hc) (fun b o hc e n => u.free b o e n hc) (fun b o hc e => u.there b o e hc) u.tups u.frzs u.tbls (fun m' hm => by
    obtain ⟨o', es', ep', ho', r'⟩ := hm
    rw [ho] at ho'; cases ho'
    exact ⟨_, es', ep', hL, r'⟩) hok hg
theorem Inv.turned {t' : Nat} {it : Addr} (I : Inv X pins σ H s) (k : ∀ b o, b ≠ it → s.heap.get? b = some o → h'.get? b = some o) (hn : H it = none) (hL : it ≠ X.env.locals)
    (h1 : it ∈ X.ex ∨ X.s₀.heap.objs.size ≤ it) (h2 : ∀ x c, X.env.cells.lookup x = some c → c ≠ it) (h3 : ∀ p ∈ X.pn ++ pins, p.1 ≠ it) : Inv X pins σ H { s with heap := h', toks := t' } := by
  have nit : ∀ b u, H b = some u → b ≠ it := fun b u e z => by rw [z, hn] at e; cases e
  refine I.step (g' := s.gens) (d' := s.drawn) (ch := [it]) (fun b hb => ?_) (fun b o _ _ hc e _ => k b o (fun z => hc (by simp [z])) e) (fun b o _ _ hc e _ => ⟨o.slots, k b o (fun z => hc (by simp [z])) e⟩) (fun _ _ _ _ n => n)
    (fun b o hc e => ⟨o, k b o (fun z => hc (by simp [z])) e⟩) (fun _ _ e => e) (fun _ _ _ e => e) (fun b ps e => ⟨#[], by rw [e]; simp⟩) (fun m hm => ?_) (fun b u e => ?_) I.bare
  · have e : b = it := by simpa using hb
    subst e
    exact ⟨h1, hL, h2, h3⟩
  · obtain ⟨o, es, ep, ho, r⟩ := hm
    exact ⟨o, es, ep, k _ o (Ne.symm hL) ho, r⟩
  · refine (I.hok b u e).stay (fun c v hc q => k c v ?_ q) (fun _ q => q) fun _ _ q => q
    rcases hc with z | z
    · rw [z]; exact nit b u e
    · exact nit c _ z
theorem Inv.tok (I : Inv X pins σ H s) (t : Nat) : Inv X pins σ H { s with toks := t } := I.un (h' := s.heap) (t' := t) Un.refl I.hok
theorem Inv.kept {t' : Nat} (I : Inv X pins σ H s) (k : ∀ b u, s.heap.get? b = some u → h'.get? b = some u) : Inv X pins σ H { s with heap := h', toks := t' } := I.un (Un.kept k) (I.hok.kept k)
theorem Inv.laid {a : Addr} {o : HO} {t' : Nat} (I : Inv X pins σ H s) (k : ∀ b u, s.heap.get? b = some u → h'.get? b = some u) (hp : s.heap.objs.size ≤ a) (new : ObjOk X.prog X.w (upd H a o) h' a o) :
    Inv X pins σ (upd H a o) { s with heap := h', toks := t' } := I.un (Un.laid k hp (I.hok.fresh hp)) (I.hok.laid k hp new)
theorem Inv.write {x e : Addr} {o : HO} {t' : Nat} (I : Inv X pins σ H s) (mu : Mut (H x)) (he : e = x ∨ H e = some (.own x)) (k : ∀ b u, b ≠ e → s.heap.get? b = some u → h'.get? b = some u) (heo : ∃ u, h'.get? e = some u)
    (new : ObjOk X.prog X.w (upd H x o) h' x o) : Inv X pins σ (upd H x o) { s with heap := h', toks := t' } := I.un (Un.write mu he k heo) (I.hok.write mu he k heo new)
theorem Inv.pins_of {pins' : List (Addr × Obj)} (I : Inv X pins σ H s) (h : ∀ p ∈ pins', s.heap.get? p.1 = some p.2 ∧ H p.1 = none ∧ p.1 ≠ X.env.locals ∧ p.1 ∉ X.fs ∧ ∀ v, p.2.data ≠ .cell v) : Inv X pins' σ H s :=
  ⟨I.ok, I.os, I.bare, I.base, I.loc, I.cell, I.free, I.freeC, fun p hp => (List.mem_append.mp hp).elim (fun z => I.pin p (List.mem_append_left _ z)) (h p), I.hok, I.len⟩
theorem nodup_ix {N : List Str} (hN : N.Nodup) {i j : Nat} {x : Str} (a : N[i]? = some x) (b : N[j]? = some x) : i = j := by
  obtain ⟨h1, e1⟩ := List.getElem?_eq_some_iff.mp a
  obtain ⟨h2, e2⟩ := List.getElem?_eq_some_iff.mp b
  exact (List.getElem_inj hN).mp (e1.trans e2.symm)
theorem store_ok2 {M : Model} {A : Around} {E : Value → Shared → Prop} {i : Nat} {x : Str} {v : V} {u : Value} {Q : Unit → Shared → Prop} (I : Inv X pins σ H s) (hN : X.N.Nodup) (hi : X.N[i]? = some x) (hx : Loc X.env.scope x) (r : RelV v u)
    (h : ∀ s', Inv X pins (σ.set i (some v)) H s' → (∃ a, Heap.SameBut a s.heap s'.heap ∧ (a = X.env.locals ∨ X.env.cells.lookup x = some a)) → Q () s') (hf : X.fn x = true ∨ X.env.scope.names.lookup x = some .local := by first | exact .inl rfl | exact .inr rfl | assumption) : wpAny M A (storeName X.env x u) Q E s := by
  obtain ⟨m, hn, hl⟩ := id I.loc
  have hcls : (X.env.scope.kind == .class || (X.env.scope.kind == .module && X.env.locals != X.env.globals)) = false := by rw [I.ok.kind]; rfl
  have hiσ : i < σ.length := by rw [I.len]; exact (List.getElem?_eq_some_iff.mp hi).1
  have cne := I.cne
  have tracked : ∀ {a : Addr} {h' : Heap}, (∃ o, s.heap.get? a = some o ∧ H a = none) → Heap.SameBut a s.heap h' → HOk X.prog X.w H h' := fun {a h'} ha hs b ob e => by
    obtain ⟨_, _, hfree⟩ := ha
    refine (I.hok b ob e).stay (fun c w' hc q => (hs.2 c ?_).trans q) (fun _ q => q) fun _ _ q => q
    rintro rfl
    rcases hc with rfl | hc
    · rw [hfree] at e; cases e
    · rw [hfree] at hc; cases hc
  rcases hx with hk | hk
  · refine wpAny_storeName_local hk hn (fun h' hn' hs => ?_) hcls
    obtain ⟨oL, _, _, hoL, _⟩ := id hn
    refine h _ ⟨I.ok, I.os, I.bare, ⟨fun b o e n hb hx => ?_, fun b o e n hb hx => ?_, I.base.free, fun b o e hx => ?_, I.base.tups, I.base.frzs, I.base.tbls⟩, ⟨_, hn', fun j y v' e1 e2 e3 => ?_⟩, fun y c e => ?_, I.free, I.freeC, fun p hp => ?_, tracked ⟨oL, hoL, I.free⟩ hs, by simpa using I.len⟩ ⟨_, hs, .inl rfl⟩
    · exact (hs.2 b (Nat.ne_of_lt (Nat.lt_of_lt_of_le (Heap.lt_size e) I.ok.above))).trans (I.base.keep b o e n hb hx)
    · obtain ⟨sl, e1⟩ := I.base.slot b o e n hb hx
      exact ⟨sl, (hs.2 b (Nat.ne_of_lt (Nat.lt_of_lt_of_le (Heap.lt_size e) I.ok.above))).trans e1⟩
    · obtain ⟨o', e1⟩ := I.base.there b o e hx
      exact ⟨o', (hs.2 b (Nat.ne_of_lt (Nat.lt_of_lt_of_le (Heap.lt_size e) I.ok.above))).trans e1⟩
    · by_cases hj : j = i
      · subst hj
        rw [hi] at e1; cases e1
        rw [List.getElem?_set_self hiσ] at e2
        cases e2
        exact ⟨u, r, .inl ⟨hk, by simp⟩⟩
      · rw [List.getElem?_set_ne (Ne.symm hj)] at e2
        obtain ⟨u', r', q⟩ := hl j y v' e1 e2 e3
        refine ⟨u', r', ?_⟩
        rcases q with ⟨k, e⟩ | ⟨k, c, e, z⟩
        · refine .inl ⟨k, ?_⟩
          have : y ≠ x := fun e => hj (nodup_ix hN e1 (e ▸ hi))
          simp [this, e]
        · exact .inr ⟨k, c, e, z.sameBut hs (cne y c e)⟩
    · obtain ⟨w', z⟩ := I.cell y c e
      exact ⟨w', z.sameBut hs (cne y c e)⟩
    · obtain ⟨e, n, ne, nf, d⟩ := I.pin p hp
      exact ⟨(hs.2 p.1 ne).trans e, n, ne, nf, d⟩
  · have hfn : X.fn x = true := by
      rcases hf with z | z
      · exact z
      · rw [z] at hk; cases hk
    obtain ⟨c, hc⟩ := I.ok.has x (.inl hk)
    obtain ⟨w', z⟩ := I.cell x c hc
    refine wpAny_storeName_cell I.ok.kind hk hc z (fun h' hc' hs => ?_)
    obtain ⟨oc, hoc, hocd⟩ := id z
    refine h { s with heap := h' } ⟨I.ok, I.os, I.bare, ⟨fun b o e n hb hx => ?_, fun b o e n hb hx => ?_, I.base.free, fun b o e hx => ?_, I.base.tups, I.base.frzs, I.base.tbls⟩, ⟨m, hn.sameBut hs (Ne.symm (cne x c hc)), fun j y v' e1 e2 e3 => ?_⟩, fun y c' e => ?_, I.free, I.freeC, fun p hp => ?_, tracked ⟨oc, hoc, I.freeC x c hc⟩ hs, by simpa using I.len⟩ ⟨c, hs, .inr hc⟩
    · exact (hs.2 b (Nat.ne_of_lt (Nat.lt_of_lt_of_le (Heap.lt_size e) (I.ok.cab x c hfn hc)))).trans (I.base.keep b o e n hb hx)
    · obtain ⟨sl, e1⟩ := I.base.slot b o e n hb hx
      exact ⟨sl, (hs.2 b (Nat.ne_of_lt (Nat.lt_of_lt_of_le (Heap.lt_size e) (I.ok.cab x c hfn hc)))).trans e1⟩
    · obtain ⟨o', e1⟩ := I.base.there b o e hx
      exact ⟨o', (hs.2 b (Nat.ne_of_lt (Nat.lt_of_lt_of_le (Heap.lt_size e) (I.ok.cab x c hfn hc)))).trans e1⟩
    · by_cases hj : j = i
      · subst hj
        rw [hi] at e1; cases e1
        rw [List.getElem?_set_self hiσ] at e2
        cases e2
        exact ⟨u, r, .inr ⟨.inl hk, c, hc, hc'⟩⟩
      · rw [List.getElem?_set_ne (Ne.symm hj)] at e2
        obtain ⟨u', r', q⟩ := hl j y v' e1 e2 e3
        refine ⟨u', r', ?_⟩
        rcases q with q | ⟨k, c', e, z'⟩
        · exact .inl q
        · refine .inr ⟨k, c', e, z'.sameBut hs ?_⟩
          rintro rfl
          exact hj (nodup_ix hN e1 (I.ok.inj _ _ _ e hc ▸ hi))
    · by_cases hcc : c' = c
      · subst hcc; exact ⟨_, hc'⟩
      · obtain ⟨w2, z2⟩ := I.cell y c' e
        exact ⟨w2, z2.sameBut hs hcc⟩
    · obtain ⟨e, n, ne, nf, d⟩ := I.pin p hp
      refine ⟨(hs.2 p.1 ?_).trans e, n, ne, nf, d⟩
      intro q
      rw [q, hoc] at e
      have q' : oc = p.2 := Option.some.inj e
      exact d w' (by rw [← q']; exact hocd)
theorem store_ok {M : Model} {A : Around} {E : Value → Shared → Prop} {i : Nat} {x : Str} {v : V} {u : Value} {Q : Unit → Shared → Prop} (I : Inv X pins σ H s) (hN : X.N.Nodup) (hi : X.N[i]? = some x) (hx : Loc X.env.scope x) (r : RelV v u)
    (h : ∀ s', Inv X pins (σ.set i (some v)) H s' → Q () s') (hf : X.fn x = true ∨ X.env.scope.names.lookup x = some .local := by first | exact .inl rfl | exact .inr rfl | assumption) : wpAny M A (storeName X.env x u) Q E s :=
  store_ok2 I hN hi hx r (fun s' I' _ => h s' I') hf
theorem Inv.call' {s' : Shared} {ch : List Addr} (I : Inv X pins σ H s) (ho : s'.os = s.os) (u : Un (frs X.stack) ch H H' s.heap s'.heap) (hok : HOk X.prog X.w H' s'.heap) (hg : AllBare s'.gens)
    (hch : ∀ b ∈ ch, (b ∈ X.ex ∨ X.s₀.heap.objs.size ≤ b) ∧ b ≠ X.env.locals ∧ (∀ x c, X.env.cells.lookup x = some c → c ≠ b) ∧ ∀ p ∈ X.pn ++ pins, p.1 ≠ b) : Inv X pins σ H' s' := by
  obtain ⟨h', g', d', t', o'⟩ := s'
  have e : o' = s.os := ho
  subst e
  exact I.call (g' := g') (t' := t') (d' := d') u hok hg hch
end
noncomputable abbrev XK := Value → Option Addr → Hp → Prop
noncomputable abbrev St := List (Option V)
noncomputable abbrev VK := V → Hp → Prop
noncomputable abbrev TE := St → Hp → VK → Prop
noncomputable abbrev TT := St → Hp → (Bool → Hp → Prop) → Prop
noncomputable abbrev TA := St → Hp → (List V → Hp → Prop) → Prop
structure Ends where
  nx : St → Hp → Prop
  rt : VK
  bk : St → Hp → Prop := fun _ _ => False
  ct : St → Hp → Prop := fun _ _ => False
noncomputable abbrev TS := Ends → St → Hp → Prop
noncomputable def EP (X : Cx) (pins : List (Addr × Obj)) (σ : St) (Q : VK) (u : Value) (s' : Shared) : Prop := ∃ v H', Inv X pins σ H' s' ∧ RelV v u ∧ Q v H'
noncomputable def TP (X : Cx) (pins : List (Addr × Obj)) (σ : St) (Q : Bool → Hp → Prop) (b : Bool) (s' : Shared) : Prop := ∃ H', Inv X pins σ H' s' ∧ Q b H'
noncomputable def AP (X : Cx) (pins : List (Addr × Obj)) (σ : St) (Q : List V → Hp → Prop) (us : List Value) (s' : Shared) : Prop := ∃ vs H', Inv X pins σ H' s' ∧ Vals vs us ∧ Q vs H'
noncomputable def SP (X : Cx) (pins : List (Addr × Obj)) (D : Ends) (f : Flow) (s' : Shared) : Prop :=
  match f with
  | .next => ∃ σ' H', Inv X pins σ' H' s' ∧ D.nx σ' H'
  | .brk => ∃ σ' H', Inv X pins σ' H' s' ∧ D.bk σ' H'
  | .cont => ∃ σ' H', Inv X pins σ' H' s' ∧ D.ct σ' H'
  | .ret u => ∃ v σ' H', Inv X pins σ' H' s' ∧ RelV v u ∧ D.rt v H'
noncomputable def PE (X : Cx) (e : Expr) (t : TE) : Prop :=
  ∀ (pins : List (Addr × Obj)) (s : Shared) (σ : St) (H : Hp) (Q : VK), Inv X pins σ H s → t σ H Q → wpAny (model X.prog X.w) X.A (eval e X.env) (EP X pins σ Q) X.xe s
noncomputable def PT (X : Cx) (e : Expr) (t : TT) : Prop :=
  ∀ (pins : List (Addr × Obj)) (s : Shared) (σ : St) (H : Hp) (Q : Bool → Hp → Prop), Inv X pins σ H s → t σ H Q → wpAny (model X.prog X.w) X.A (isTrue e X.env (eval e X.env)) (TP X pins σ Q) X.xe s
noncomputable def PW (X : Cx) (e : Expr) (t : TT) : Prop :=
  ∀ (whole : Sem Value) (pins : List (Addr × Obj)) (s : Shared) (σ : St) (H : Hp) (Q : Bool → Hp → Prop), Inv X pins σ H s → t σ H Q → wpAny (model X.prog X.w) X.A (isTrue e X.env whole) (TP X pins σ Q) X.xe s
theorem PW.pt {X : Cx} {e : Expr} {t : TT} (h : PW X e t) : PT X e t := h _
noncomputable def PA (X : Cx) (es : List Expr) (t : TA) : Prop :=
  ∀ (pos : Pos) (pins : List (Addr × Obj)) (s : Shared) (σ : St) (H : Hp) (Q : List V → Hp → Prop), Inv X pins σ H s → t σ H Q → wpAny (model X.prog X.w) X.A (spliced (backTo pos (starEach es X.env))) (AP X pins σ Q) X.xe s
noncomputable def PS (X : Cx) (st : Stmt) (t : TS) : Prop :=
  ∀ (pins : List (Addr × Obj)) (s : Shared) (σ : St) (H : Hp) (D : Ends), Inv X pins σ H s → t D σ H → wpAny (model X.prog X.w) X.A (exec st X.env) (SP X pins D) X.xe s
noncomputable def PSs (X : Cx) (st : List Stmt) (t : TS) : Prop :=
  ∀ (pins : List (Addr × Obj)) (s : Shared) (σ : St) (H : Hp) (D : Ends), Inv X pins σ H s → t D σ H → wpAny (model X.prog X.w) X.A (execs st X.env) (SP X pins D) X.xe s
theorem thn {α : Type} {t : Sem α} {Q Q' : α → Shared → Prop} {M : Model} {A : Around} {E : Value → Shared → Prop} {s : Shared} (h : wpAny M A t Q E s) (hQ : ∀ a s, Q a s → Q' a s) : wpAny M A t Q' E s := wpAny_mono h hQ fun _ _ x => x
end L2
namespace L2
open PySem PySem.Spec PyProof.Rows
section
variable {X : Cx}
noncomputable def tVar (i : Nat) : TE := fun σ H Q => match σ[i]? with | some (some v) => Q v H | _ => False
theorem tVar_ex {i : Nat} {σ : St} {H : Hp} {Q : VK} (h : tVar i σ H Q) : ∃ v, σ[i]? = some (some v) ∧ Q v H := by
  unfold tVar at h
  split at h
  · rename_i v e; exact ⟨v, e, h⟩
  · exact h.elim
noncomputable def tC (v : V) : TE := fun _ H Q => Q v H
theorem pe_var {i : Nat} {x : Str} {pos : Pos} (hN : X.N[i]? = some x) (hv : Vis X.env.scope x) (hd : (x == ("__debug__" : Str)) = false := by decide) (hcd : (x == ("__classdict__" : Str)) = false := by decide) : PE X (.Name x pos) (tVar i) := by
  intro pins s σ H Q I h
  obtain ⟨v, e, h⟩ := tVar_ex h
  obtain ⟨m, hn, hl⟩ := I.loc
  obtain ⟨u, r, l⟩ := hl i x v hN e hv
  have fin : EP X pins σ Q u s := ⟨v, H, I, r, h⟩
  rcases l with ⟨hk, hm⟩ | ⟨hk, c, hc, hcell⟩
  · exact wpAny_Name (wpAny_loadName_local I.ok.kind hk hn hm fin) hd
  · rcases hk with hk | hk
    · exact wpAny_Name (wpAny_loadName_cell I.ok.kind hk hc hcell fin) hd
    · exact wpAny_Name (wpAny_loadName_free I.ok.kind hk hc hcell fin hcd) hd
theorem pe_int {i j pos} : PE X (.Constant (.int i) j pos) (tC (.int i)) := fun _ _ _ H _ I h => wpAny_Constant_int ⟨.int i, H, I.tok _, ⟨_, rfl⟩, h⟩
theorem pe_bl {b j pos} : PE X (.Constant (.bool b) j pos) (tC (.bl b)) := fun _ _ _ H _ I h => Constant_bool ⟨.bl b, H, I, rfl, h⟩
theorem pe_non {j pos} : PE X (.Constant .none j pos) (tC .non) := fun _ _ _ H _ I h => Constant_none ⟨.non, H, I, rfl, h⟩
theorem pe_str {x j pos} : PE X (.Constant (.str x) j pos) (tC (.str x)) := fun _ _ _ H _ I h => Calls.Constant_str ⟨.str x, H, I.tok _, ⟨_, rfl⟩, h⟩
noncomputable def Gl (X : Cx) (x : Str) : Prop := X.env.kindOf x = some .globalImplicit
theorem ld_glob {E : Value → Shared → Prop} {pins : List (Addr × Obj)} {s : Shared} {σ : St} {H : Hp} {x : Str} {u : Value} {pos : Pos} {Q : Value → Shared → Prop} (I : Inv X pins σ H s) (hg : Gl X x) (hm : X.mg x = some u) (h : Q u s)
    (hd : (x == ("__debug__" : Str)) = false := by decide) : wpAny (model X.prog X.w) X.A (eval (.Name x pos) X.env) Q E s :=
  Calls.Name_function_global I.ok.kind hg (Calls.loadGlobal_global (by rw [I.ok.glob]; exact I.mod.glob.keeps I.bk) hm h) hd
theorem ld_blt {E : Value → Shared → Prop} {pins : List (Addr × Obj)} {s : Shared} {σ : St} {H : Hp} {x : Str} {u : Value} {pos : Pos} {Q : Value → Shared → Prop} (I : Inv X pins σ H s) (hg : Gl X x) (hm : X.mg x = none) (hv : bootBuiltins x = some u) (h : Q u s)
    (hn : x ≠ "__name__" := by decide) (hd : (x == ("__debug__" : Str)) = false := by decide) : wpAny (model X.prog X.w) X.A (eval (.Name x pos) X.env) Q E s := by
  obtain ⟨mb, h1, h2⟩ := I.mod.blt
  exact Calls.Name_function_global I.ok.kind hg (Calls.loadGlobal_builtin (by rw [I.ok.glob]; exact I.mod.glob.keeps I.bk) hm (by rw [I.ok.blt]; exact h1.keeps I.bk) ((h2 x hn).trans hv) h) hd
theorem pe_glob {x : Str} {v : V} {u : Value} {pos : Pos} (hg : Gl X x) (hm : X.mg x = some u) (r : RelV v u) (hd : (x == ("__debug__" : Str)) = false := by decide) : PE X (.Name x pos) (tC v) :=
  fun _ _ _ H _ I h => ld_glob I hg hm ⟨v, H, I, r, h⟩ hd
theorem pe_bltn {x : Str} {v : V} {u : Value} {pos : Pos} (hg : Gl X x) (hm : X.mg x = none) (hv : bootBuiltins x = some u) (r : RelV v u) (hn : x ≠ "__name__" := by decide) (hd : (x == ("__debug__" : Str)) = false := by decide) : PE X (.Name x pos) (tC v) :=
  fun _ _ _ H _ I h => ld_blt I hg hm hv ⟨v, H, I, r, h⟩ hn hd
variable {a b : Expr} {ta tb : TE} {pos : Pos}
noncomputable def PC (X : Cx) (op : CmpOp) (a b : Expr) (t : TE) : Prop :=
  ∀ (pins : List (Addr × Obj)) (s : Shared) (σ : St) (H : Hp) (Q : VK), Inv X pins σ H s → t σ H Q →
    wpAny (model X.prog X.w) X.A (eval a X.env) (fun v s₁ => wpAny (model X.prog X.w) X.A (eval b X.env) (fun u s₂ => wpAny (model X.prog X.w) X.A (compareOp op v u) (EP X pins σ Q) X.xe s₂) X.xe s₁) X.xe s
noncomputable def tB (t : TE) : TT := fun σ H Q => t σ H fun x H1 => ∃ c, x = .bl c ∧ Q c H1
theorem pt_cmp {op : CmpOp} {t : TE} (h : PC X op a b t) (h1 : behindInMarks op b = false := by first | exact nobehind _ (by decide) (by decide) | rfl) : PT X (.Compare a [op] [b] pos) (tB t) := by
  intro pins s σ H Q I hw
  refine wpAny_isTrue_Compare1 (thn (h pins s σ H _ I hw) fun v s1 h1 => thn h1 fun u s2 h2 => thn h2 fun c s3 ⟨x, H1, I1, r1, q1⟩ => ?_) h1
  obtain ⟨d, rfl, q⟩ := q1
  cases r1
  exact wpAny_truthy_bool ⟨H1, I1, q⟩
theorem pt_val {e : Expr} {t : TE} (h : PE X e t) (he : ∀ whole, isTrue e X.env whole = (do let v ← whole; standAt e.pos; holding [v] (truthy v)) := by intro _; rfl) : PT X e (tB t) := by
  intro pins s σ H Q I hw
  refine isTrue_plain (thn (h pins s σ H _ I hw) fun v s1 ⟨x, H1, I1, r1, q1⟩ => ?_) (he _)
  obtain ⟨d, rfl, q⟩ := q1
  cases r1
  exact wpAny_truthy_bool ⟨H1, I1, q⟩
variable {tA tB' : TT} {rest : List Expr}
noncomputable def tAnd (t u : TT) : TT := fun σ H Q => t σ H fun c H1 => if c = true then u σ H1 Q else Q false H1
noncomputable def tOr (t u : TT) : TT := fun σ H Q => t σ H fun c H1 => if c = true then Q true H1 else u σ H1 Q
noncomputable def tNot (t : TT) : TT := fun σ H Q => t σ H fun c H1 => Q (!c) H1
theorem pw_and1 (ha : PT X a tA) : PW X (.BoolOp .And [a] pos) tA := by
  intro wh pins s σ H Q I h
  refine isTrue_and (thn (ha pins s σ H Q I h) fun c s1 e => ?_)
  cases c with
  | true => exact isTrue_and_nil e
  | false => exact e
theorem pw_or1 (ha : PT X a tA) : PW X (.BoolOp .Or [a] pos) tA := by
  intro wh pins s σ H Q I h
  refine isTrue_or (thn (ha pins s σ H Q I h) fun c s1 e => ?_)
  cases c with
  | false => exact isTrue_or_nil e
  | true => exact e
theorem pw_and (ha : PT X a tA) (hb : PW X (.BoolOp .And (b :: rest) pos) tB') : PW X (.BoolOp .And (a :: b :: rest) pos) (tAnd tA tB') := by
  intro wh pins s σ H Q I h
  refine isTrue_and (thn (ha pins s σ H _ I h) fun c s1 ⟨H1, I1, q1⟩ => ?_)
  cases c with
  | true => exact hb wh pins s1 σ H1 Q I1 q1
  | false => exact ⟨H1, I1, q1⟩
theorem pw_or (ha : PT X a tA) (hb : PW X (.BoolOp .Or (b :: rest) pos) tB') : PW X (.BoolOp .Or (a :: b :: rest) pos) (tOr tA tB') := by
  intro wh pins s σ H Q I h
  refine isTrue_or (thn (ha pins s σ H _ I h) fun c s1 ⟨H1, I1, q1⟩ => ?_)
  cases c with
  | true => exact ⟨H1, I1, q1⟩
  | false => exact hb wh pins s1 σ H1 Q I1 q1
theorem pt_not (ha : PT X a tA) : PT X (.UnaryOp .Not a pos) (tNot tA) := by
  intro pins s σ H Q I h
  exact isTrue_not (ha pins s σ H (fun c H1 => Q (!c) H1) I h)
noncomputable def tAndV (ta tb : TE) : TE := fun σ H Q => ta σ H fun x H1 => ∃ c, x = .bl c ∧ if c = true then tb σ H1 Q else Q (.bl false) H1
noncomputable def tOrV (ta tb : TE) : TE := fun σ H Q => ta σ H fun x H1 => ∃ c, x = .bl c ∧ if c = true then Q (.bl true) H1 else tb σ H1 Q
noncomputable def tNotV (ta : TE) : TE := fun σ H Q => ta σ H fun x H1 => ∃ c, x = .bl c ∧ Q (.bl (!c)) H1
theorem pe_one {op} {t : TE} (h : PE X a t) : PE X (.BoolOp op [a] pos) t := fun pins s σ H Q I hw => BoolOp_one (h pins s σ H Q I hw)
theorem pe_and (ha : PE X a ta) (hb : PE X (.BoolOp .And (b :: rest) pos) tb) : PE X (.BoolOp .And (a :: b :: rest) pos) (tAndV ta tb) := by
  intro pins s σ H Q I h
  refine BoolOp_and (thn (ha pins s σ H _ I h) fun v s1 ⟨x, H1, I1, r1, q1⟩ => ?_)
  obtain ⟨c, rfl, q1⟩ := q1
  cases r1
  refine wpAny_truthy_bool ?_
  cases c with
  | true => exact hb pins s1 σ H1 Q I1 q1
  | false => exact ⟨.bl false, H1, I1, rfl, q1⟩
theorem pe_or (ha : PE X a ta) (hb : PE X (.BoolOp .Or (b :: rest) pos) tb) : PE X (.BoolOp .Or (a :: b :: rest) pos) (tOrV ta tb) := by
  intro pins s σ H Q I h
  refine BoolOp_or (thn (ha pins s σ H _ I h) fun v s1 ⟨x, H1, I1, r1, q1⟩ => ?_)
  obtain ⟨c, rfl, q1⟩ := q1
  cases r1
  refine wpAny_truthy_bool ?_
  cases c with
  | false => exact hb pins s1 σ H1 Q I1 q1
  | true => exact ⟨.bl true, H1, I1, rfl, q1⟩
noncomputable def tIf (t : TT) (ta tb : TE) : TE := fun σ H Q => t σ H fun c H1 => if c = true then ta σ H1 Q else tb σ H1 Q
theorem pe_ifExp {c : Expr} (hc : PT X c tA) (ha : PE X a ta) (hb : PE X b tb) : PE X (.IfExp c a b pos) (tIf tA ta tb) := by
  intro pins s σ H Q I h
  refine wpAny_IfExp (thn (hc pins s σ H _ I h) fun d s1 ⟨H1, I1, q1⟩ => ?_)
  cases d with
  | true => exact ha pins s1 σ H1 Q I1 q1
  | false => exact hb pins s1 σ H1 Q I1 q1
end
end L2
namespace L2
open PySem PySem.Spec PyProof.Rows
noncomputable def SqL (K : PySem.W.Frag) (H : Hp) (a : Addr) (xs : List V) : Prop :=
  Rd H a (.lst xs) ∨
    ∃ (o : Obj) (its : Array Value) (n : Nat), K.lookup a = some o ∧ o.cls = .type "list" ∧ o.dict = none ∧ o.data = .seq its n ∧ its.size ≤ sizeLine ∧ Vals xs its.toList
noncomputable def SqT (K : PySem.W.Frag) (H : Hp) (a : Addr) (xs : List V) : Prop :=
  Rd H a (.tup xs) ∨
    ∃ (o : Obj) (its : Array Value) (n : Nat), K.lookup a = some o ∧ o.cls = .type "tuple" ∧ o.data = .seq its n ∧ its.size ≤ sizeLine ∧ Vals xs its.toList
noncomputable def absV : Value → Option V
  | .none => some .non
  | .bool b => some (.bl b)
  | .int i _ => some (.int i)
  | .str x _ => some (.str x)
  | .bytes b _ => some (.byt b)
  | .float b _ => some (.flt b)
  | .ref a => some (.ref a)
  | .type n => some (.ty n)
  | _ => none
theorem RelV.abs {x : V} {u : Value} (r : RelV x u) : absV u = some x := by
  cases x with
  | non => cases r; rfl
  | bl _ => cases r; rfl
  | int _ => obtain ⟨t, rfl⟩ := r; rfl
  | str _ => obtain ⟨t, rfl⟩ := r; rfl
  | byt _ => obtain ⟨t, rfl⟩ := r; rfl
  | flt _ => obtain ⟨t, rfl⟩ := r; rfl
  | ref _ => cases r; rfl
  | ty _ => cases r; rfl
theorem RelV.inj {x y : V} {u : Value} (r : RelV x u) (q : RelV y u) : x = y := Option.some.inj (r.abs.symm.trans q.abs)
theorem Vals.inj : ∀ {xs ys : List V} {us : List Value}, Vals xs us → Vals ys us → xs = ys
  | _, _, _, .nil, .nil => rfl
  | _, _, _, .cons r t, .cons r' t' => by rw [r.inj r', Vals.inj t t']
section
variable {X : Cx} {pins : List (Addr × Obj)} {σ : St} {H : Hp} {s : Shared} {a : Addr} {xs ys : List V}
theorem SqL.of {K : PySem.W.Frag} (h : H a = some (.lst xs)) : SqL K H a xs := .inl (.inl h)
theorem SqT.of {K : PySem.W.Frag} (h : H a = some (.tup xs)) : SqT K H a xs := .inl (.inl h)
theorem Inv.list (I : Inv X pins σ H s) (h : SqL X.K H a xs) : ∃ its : List Value, Vals xs its ∧ PlainL s.heap a its.toArray ∧ xs.length ≤ sizeLine := by
  rcases h with h | ⟨o, its, n, hk, hc, hd, hs, hz, r⟩
  · obtain ⟨z, its, n, r, e⟩ := h.ok I.hok
    exact ⟨its, r, ⟨_, n, e, rfl, rfl, rfl⟩, z⟩
  · refine ⟨its.toList, r, ⟨o, n, I.kIn a o hk, hc, hd, by simpa using hs⟩, ?_⟩
    have e := r.length
    simp only [Array.length_toList] at e
    omega
theorem Inv.tuple (I : Inv X pins σ H s) (h : SqT X.K H a xs) : ∃ its : List Value, Vals xs its ∧ IsTup s.heap a its.toArray ∧ xs.length ≤ sizeLine := by
  rcases h with h | ⟨o, its, n, hk, hc, hs, hz, r⟩
  · obtain ⟨z, its, r, p⟩ := h.ok I.hok
    exact ⟨its, r, p, z⟩
  · refine ⟨its.toList, r, ⟨o, I.kIn a o hk, hc, n, by simpa using hs⟩, ?_⟩
    have e := r.length
    simp only [Array.length_toList] at e
    omega
theorem Inv.list_inj (I : Inv X pins σ H s) (h : SqL X.K H a xs) (h' : SqL X.K H a ys) : xs = ys := by
  obtain ⟨its, r, ⟨o, n, e, _, _, d⟩, _⟩ := I.list h
  obtain ⟨its', r', ⟨o', n', e', _, _, d'⟩, _⟩ := I.list h'
  rw [e] at e'; cases e'
  rw [d] at d'
  injection d' with d1 _
  have : its = its' := by simpa using congrArg Array.toList d1
  subst this
  exact r.inj r'
theorem Inv.tuple_inj (I : Inv X pins σ H s) (h : SqT X.K H a xs) (h' : SqT X.K H a ys) : xs = ys := by
  obtain ⟨its, r, ⟨o, e, _, n, d⟩, _⟩ := I.tuple h
  obtain ⟨its', r', ⟨o', e', _, n', d'⟩, _⟩ := I.tuple h'
  rw [e] at e'; cases e'
  rw [d] at d'
  injection d' with d1 _
  have : its = its' := by simpa using congrArg Array.toList d1
  subst this
  exact r.inj r'
end
noncomputable abbrev Cx.wish (X : Cx) (E : Value → Shared → Prop) : Cx := { X with xe := E }
noncomputable abbrev Cx.nox (X : Cx) : Cx := X.wish fun _ _ => False
theorem Cx.Ok.wish {X : Cx} (ok : X.Ok) (E : Value → Shared → Prop) : (X.wish E).Ok :=
  ⟨ok.mod, ok.kind, ok.glob, ok.blt, ok.above, ok.inj, ok.has, ok.cab, ok.hd, ok.frames, ok.stk, ok.exf, ok.bs, ok.bsz, ok.noex, ok.exfs, ok.funs, ok.frf⟩
theorem Cx.Ok.unwish {X : Cx} {E : Value → Shared → Prop} (ok : (X.wish E).Ok) : X.Ok :=
  ⟨ok.mod, ok.kind, ok.glob, ok.blt, ok.above, ok.inj, ok.has, ok.cab, ok.hd, ok.frames, ok.stk, ok.exf, ok.bs, ok.bsz, ok.noex, ok.exfs, ok.funs, ok.frf⟩
section
variable {X : Cx} {pins : List (Addr × Obj)} {σ : St} {H : Hp} {s : Shared} {E : Value → Shared → Prop}
theorem Inv.wish (I : Inv X pins σ H s) (E : Value → Shared → Prop) : Inv (X.wish E) pins σ H s := ⟨I.ok.wish E, I.os, I.bare, I.base, I.loc, I.cell, I.free, I.freeC, I.pin, I.hok, I.len⟩
theorem Inv.unwish (I : Inv (X.wish E) pins σ H s) : Inv X pins σ H s := ⟨I.ok.unwish, I.os, I.bare, I.base, I.loc, I.cell, I.free, I.freeC, I.pin, I.hok, I.len⟩
theorem SP.unwish {D : Ends} {f : Flow} {s' : Shared} (h : SP (X.wish E) pins D f s') : SP X pins D f s' := by
  cases f with
  | next => obtain ⟨σ', H', I, q⟩ := h; exact ⟨σ', H', I.unwish, q⟩
  | brk => obtain ⟨σ', H', I, q⟩ := h; exact ⟨σ', H', I.unwish, q⟩
  | cont => obtain ⟨σ', H', I, q⟩ := h; exact ⟨σ', H', I.unwish, q⟩
  | ret u => obtain ⟨v, σ', H', I, r, q⟩ := h; exact ⟨v, σ', H', I.unwish, r, q⟩
theorem PSs.nox {st : List Stmt} {t : TS} (h : PSs X.nox st t) : PSs X st t := fun pins s σ H D I hw =>
  wpAny_mono (h pins s σ H D (I.wish _) hw) (fun _ _ q => q.unwish) fun _ _ z => False.elim z
end
section
variable {X : Cx} {st : Stmt} {rest : List Stmt} {t u : TS} {e : Expr} {te : TE} {pos : Pos}
noncomputable def tNext : TS := fun D σ H => D.nx σ H
noncomputable def tSeq (t u : TS) : TS := fun D σ H => t { D with nx := u D } σ H
theorem pss_nil : PSs X [] tNext := fun _ _ σ H _ I h => wpAny_execs_nil ⟨σ, H, I, h⟩
theorem pss_cons (h1 : PS X st t) (h2 : PSs X rest u) : PSs X (st :: rest) (tSeq t u) := by
  intro pins s σ H D I h
  refine wpAny_execs_cons (thn (h1 pins s σ H { D with nx := u D } I h) fun f s1 q => ?_)
  cases f with
  | next =>
    obtain ⟨σ', H', I', q⟩ := q
    exact h2 pins s1 σ' H' D I' q
  | ret v => exact q
  | brk => exact q
  | cont => exact q
theorem pss_one (h1 : PS X st t) : PSs X [st] t := by
  intro pins s σ H D I h
  refine wpAny_execs_cons (thn (h1 pins s σ H D I h) fun f s1 q => ?_)
  cases f with
  | next => exact wpAny_execs_nil q
  | ret v => exact q
  | brk => exact q
  | cont => exact q
theorem Inv.quiet {pins : List (Addr × Obj)} {σ : St} {H : Hp} {s : Shared} (I : Inv X pins σ H s) : interactive X.env = false := by simp [interactive, I.ok.kind]
noncomputable def tDrop (te : TE) : TS := fun D σ H => te σ H fun _ H1 => D.nx σ H1
theorem ps_expr (he : PE X e te) (hs : swapsWith e none pos.line X.env = pure false := by rfl) : PS X (.Expr e pos) (tDrop te) := by
  intro pins s σ H D I h
  exact wpAny_Expr_any (thn (he pins s σ H _ I h) fun v s1 ⟨x, H1, I1, r1, q1⟩ => ⟨σ, H1, I1, q1⟩) I.quiet hs
noncomputable def tRet (te : TE) : TS := fun D σ H => te σ H D.rt
theorem ps_ret (he : PE X e te) : PS X (.Return (some e) pos) (tRet te) := by
  intro pins s σ H D I h
  exact wpAny_Return_some (thn (he pins s σ H _ I h) fun v s1 ⟨x, H1, I1, r1, q1⟩ => ⟨x, σ, H1, I1, r1, q1⟩)
noncomputable def tRetN : TS := fun D _ H => D.rt .non H
noncomputable def tIfS (c : TT) (t u : TS) : TS := fun D σ H => c σ H fun b H1 => if b = true then t D σ H1 else u D σ H1
theorem ps_if {c : Expr} {a b : List Stmt} {tc : TT} (hc : PT X c tc) (ha : PSs X a t) (hb : PSs X b u) : PS X (.If c a b pos) (tIfS tc t u) := by
  intro pins s σ H D I h
  refine wpAny_If (thn (hc pins s σ H _ I h) fun d s1 ⟨H1, I1, q1⟩ => ?_)
  cases d with
  | true => exact ha pins s1 σ H1 D I1 q1
  | false => exact hb pins s1 σ H1 D I1 q1
noncomputable def tNever : TS := fun _ _ _ => False
theorem ps_never : PS X st tNever := fun _ _ _ _ _ _ h => h.elim
end
noncomputable abbrev TG := V → St → Hp → (St → Hp → Prop) → Prop
noncomputable abbrev TGs := List V → St → Hp → (St → Hp → Prop) → Prop
noncomputable def PG (X : Cx) (target : Expr) (t : TG) : Prop :=
  ∀ (pins : List (Addr × Obj)) (s : Shared) (σ : St) (H : Hp) (v : V) (u : Value) (Q : St → Hp → Prop), Inv X pins σ H s → RelV v u → t v σ H Q →
    wpAny (model X.prog X.w) X.A (assign target X.env u) (fun _ s' => ∃ σ' H', Inv X pins σ' H' s' ∧ Q σ' H') X.xe s
noncomputable def PGs (X : Cx) (ts : List Expr) (t : TGs) : Prop :=
  ∀ (pins : List (Addr × Obj)) (s : Shared) (σ : St) (H : Hp) (vs : List V) (us : List Value) (Q : St → Hp → Prop), Inv X pins σ H s → Vals vs us → t vs σ H Q →
    wpAny (model X.prog X.w) X.A (assignInOrder ((assignEach ts X.env).map (·.2)) us) (fun _ s' => ∃ σ' H', Inv X pins σ' H' s' ∧ Q σ' H') X.xe s
noncomputable abbrev TSet := V → V → V → Hp → (Hp → Prop) → Prop
noncomputable def PSet (X : Cx) (t : TSet) : Prop :=
  ∀ (pins : List (Addr × Obj)) (s : Shared) (σ : St) (H : Hp) (o i v : V) (ov iv u : Value) (Q : Hp → Prop), Inv X pins σ H s → RelV o ov → RelV i iv → RelV v u → t o i v H Q →
    wpAny (model X.prog X.w) X.A (setItem ov iv u) (fun _ s' => ∃ H', Inv X pins σ H' s' ∧ Q H') X.xe s
section
variable {X : Cx} {pos : Pos}
noncomputable def gName (i : Nat) : TG := fun v σ H Q => Q (σ.set i (some v)) H
theorem pg_name {i : Nat} {x : Str} (hN : X.N.Nodup) (hi : X.N[i]? = some x) (hx : Loc X.env.scope x) (hf : X.fn x = true ∨ X.env.scope.names.lookup x = some .local := by first | exact .inl rfl | exact .inr rfl | assumption) : PG X (.Name x pos) (gName i) := by
  intro pins s σ H v u Q I r h
  exact wpAny_assign_Name (store_ok I hN hi hx r (fun s' I' => ⟨_, H, I', h⟩) hf)
noncomputable def gNil : TGs := fun vs σ H Q => vs = [] ∧ Q σ H
noncomputable def gCons (t : TG) (u : TGs) : TGs := fun vs σ H Q => ∃ v r, vs = v :: r ∧ t v σ H fun σ' H' => u r σ' H' Q
theorem pgs_nil : PGs X [] gNil := by
  intro pins s σ H vs us Q I r h
  obtain ⟨e, h⟩ := h
  subst e
  cases r
  exact assignInOrder_nil ⟨σ, H, I, h⟩
theorem pgs_cons {e : Expr} {es : List Expr} {t : TG} {u : TGs} (h1 : PG X e t) (h2 : PGs X es u)
    (hs : (assignEach (e :: es) X.env).map (·.2) = assign e X.env :: (assignEach es X.env).map (·.2) := by rfl) : PGs X (e :: es) (gCons t u) := by
  intro pins s σ H vs us Q I r h
  obtain ⟨v, vr, e1, h⟩ := h
  subst e1
  cases r with
  | cons r rr =>
    rw [hs]
    refine assignInOrder_cons (thn (h1 pins s σ H _ _ _ I r h) fun _ s1 ⟨σ1, H1, I1, q1⟩ => ?_)
    exact h2 pins s1 σ1 H1 _ _ Q I1 rr q1
noncomputable def gTup (K : PySem.W.Frag) (n : Nat) (t : TGs) : TG := fun v σ H Q => ∃ a xs, v = .ref a ∧ SqT K H a xs ∧ xs.length = n ∧ t xs σ H Q
theorem pg_tup {es : List Expr} {k : Nat} {t : TGs} {n : Nat} (hc : X.calm = true) (h : PGs X es t)
    (hn : (assignEach es X.env).length = n := by rfl) (hst : (assignEach es X.env).findIdx? (·.1) = none := by rfl) : PG X (.Tuple es k pos) (gTup X.K n t) := by
  intro pins s σ H v u Q I r hw
  obtain ⟨a, xs, e1, hq, hl, hw⟩ := hw
  subst e1
  cases r
  obtain ⟨its, rv, ht, hz⟩ := I.tuple hq
  refine assign_Tuple_tuple (I.ok.hd hc) ht (by simp [hn, ← hl, rv.length]) hst fun h' hx => ?_
  have I1 : Inv X pins σ H { s with heap := h' } := I.kept (t' := s.toks) fun b o e => hx b o (Nat.ne_of_lt (Heap.lt_size e)) e
  exact h pins _ σ H xs _ Q I1 (by simpa using rv) hw
noncomputable def gSub (to ti : TE) (t : TSet) : TG := fun v σ H Q => to σ H fun o H1 => ti σ H1 fun i H2 => t o i v H2 fun H3 => Q σ H3
noncomputable def tAsg (te : TE) (g : TG) : TS := fun D σ H => te σ H fun x H1 => g x σ H1 D.nx
theorem ps_asg {tg e : Expr} {te : TE} {g : TG} (he : PE X e te) (hg : PG X tg g) (hs : swapsWithSole [tg] e pos.line X.env = pure false := by rfl) (hw : swappedStores [tg] e X.env = pure none := by rfl)
    (h1 : (assignEach [tg] X.env).map (·.2) = [assign tg X.env] := by rfl) : PS X (.Assign [tg] e pos) (tAsg te g) := by
  intro pins s σ H D I h
  refine wpAny_Assign_stores (thn (he pins s σ H _ I h) fun v s1 ⟨x, H1, I1, r1, q1⟩ => ?_) hs hw
  rw [h1]
  exact thn (hg pins s1 σ H1 x v _ I1 r1 q1) fun _ s2 q => q
theorem ps_set {i : Nat} {x : Str} {e : Expr} {te : TE} {pos' : Pos} (hN : X.N.Nodup) (hi : X.N[i]? = some x) (hx : Loc X.env.scope x) (he : PE X e te) (hs : swapsWith e (some (.Name x pos')) pos.line X.env = pure false := by rfl) (hf : X.fn x = true ∨ X.env.scope.names.lookup x = some .local := by first | exact .inl rfl | exact .inr rfl | assumption) :
    PS X (.Assign [.Name x pos'] e pos) (tAsg te (gName i)) := by
  intro pins s σ H D I h
  refine wpAny_Assign_Name (thn (he pins s σ H _ I h) fun v s1 ⟨y, H1, I1, r1, q1⟩ => ?_) hs
  exact store_ok I1 hN hi hx r1 (fun s2 I2 => ⟨_, H1, I2, q1⟩) hf
end
section
variable {X : Cx} {pos : Pos}
noncomputable def tWhile (c : TT) (tb : TS) : TS := fun D σ H => ∃ W : Nat → St → Hp → Prop, (∃ m, W m σ H) ∧ ∀ m σ H, W m σ H →
  c σ H fun b H1 => if b = true then ∃ N : St → Hp → Prop, (∀ σ' H', N σ' H' → ∃ m', m' < m ∧ W m' σ' H') ∧ tb { D with nx := N, ct := N, bk := D.nx } σ H1 else D.nx σ H1
theorem ps_while {c : Expr} {body : List Stmt} {tc : TT} {tb : TS} (hp : PassesOwn (model X.prog X.w) X.A X.env X.xe) (hc : PT X c tc) (hb : PSs X body tb) : PS X (.While c body [] pos) (tWhile tc tb) := by
  intro pins s σ H D I h
  obtain ⟨W, ⟨m0, w0⟩, turn⟩ := h
  refine wpAny_While (codeAny_whileLoop (fun n s' => ∃ σ' H', Inv X pins σ' H' s' ∧ W n σ' H') ?_ m0 ⟨σ, H, I, w0⟩)
  rintro n s1 ⟨σ1, H1, I1, w1⟩
  refine wpAny_passesOwn hp (thn (hc pins s1 σ1 H1 _ I1 (turn n σ1 H1 w1)) fun b s2 ⟨H2, I2, q2⟩ => ?_)
  cases b with
  | true =>
    obtain ⟨N, hN, q2⟩ := q2
    rw [if_pos rfl]
    refine wpAny_passesOwn hp (thn (hb pins s2 σ1 H2 _ I2 q2) fun f s3 q3 => ?_)
    cases f with
    | next =>
      obtain ⟨σ3, H3, I3, n3⟩ := q3
      obtain ⟨m', hm, w3⟩ := hN σ3 H3 n3
      exact ⟨m', hm, σ3, H3, I3, w3⟩
    | cont =>
      obtain ⟨σ3, H3, I3, n3⟩ := q3
      obtain ⟨m', hm, w3⟩ := hN σ3 H3 n3
      exact ⟨m', hm, σ3, H3, I3, w3⟩
    | brk => exact q3
    | ret v => exact q3
  | false =>
    rw [if_neg Bool.false_ne_true]
    exact wpAny_execs_nil ⟨σ1, H2, I2, q2⟩
end
structure It where
  go : Nat → Hp → Prop
  yld : Nat → Hp → V → Hp → Prop
  stop : Nat → Hp → Prop
noncomputable def FpOk (X : Cx) (pins : List (Addr × Obj)) (H : Hp) (b : Addr) : Prop :=
  H b = none ∧ b ≠ X.env.locals ∧ b ∉ X.fs ∧ (b ∈ X.ex ∨ X.s₀.heap.objs.size ≤ b) ∧ (∀ x c, X.env.cells.lookup x = some c → c ≠ b) ∧ ∀ p ∈ X.pn ++ pins, p.1 ≠ b
theorem Inv.fpOk {X : Cx} {pins : List (Addr × Obj)} {σ : St} {H H' : Hp} {s : Shared} {b : Addr} (I : Inv X pins σ H s) (hb : s.heap.objs.size ≤ b) (hn : H' b = none) : FpOk X pins H' b := by
  refine ⟨hn, Nat.ne_of_gt (Nat.lt_of_lt_of_le I.lt hb), I.nofs hb, .inr (Nat.le_trans I.sz hb), fun x c e z => ?_, fun p hp z => ?_⟩
  · obtain ⟨v, q⟩ := I.cell x c e
    exact absurd (Nat.lt_of_lt_of_le q.lt (by rw [z]; exact hb)) (Nat.lt_irrefl _)
  · exact absurd (Nat.lt_of_lt_of_le (Heap.lt_size (I.pin p hp).1) (by rw [z]; exact hb)) (Nat.lt_irrefl _)
structure Turn (P : Program) (w : World) (K : PySem.W.Frag) (tg : Expr) (J : It) (fp : List Addr) (it : Addr) (tn : Nat → Heap → Prop) : Prop where
  mem : it ∈ fp
  obj : ∀ i h, tn i h → ∀ b ∈ fp, ∃ o, h.get? b = some o ∧ ∀ v, o.data ≠ .cell v
  keep : ∀ i h h', tn i h → (∀ b ∈ fp, ∀ o, h.get? b = some o → h'.get? b = some o) → tn i h'
  item : ∀ (X : Cx), X.prog = P → X.w = w → X.K = K → X.calm = true → ∀ (i : Nat) (pins : List (Addr × Obj)) (s : Shared) (σ : St) (H : Hp) (E : Value → Shared → Prop), Inv X pins σ H s → (∀ b ∈ fp, FpOk X pins H b) → tn i s.heap → J.go i H →
    wpAny (model P w) X.A (pyNext (.ref it)) (fun r s1 => ∃ u, r = some u ∧
      wpAny (model P w) X.A (letOwnedTupleGo tg (.ref it) u) (fun _ s2 => ∃ x H', Inv X pins σ H' s2 ∧ RelV x u ∧ J.yld i H x H' ∧ tn (i + 1) s2.heap ∧ ∀ b ∈ fp, H' b = none) E s1) E s
  done : ∀ (X : Cx), X.prog = P → X.w = w → X.K = K → X.calm = true → ∀ (i : Nat) (pins : List (Addr × Obj)) (s : Shared) (σ : St) (H : Hp) (E : Value → Shared → Prop), Inv X pins σ H s → (∀ b ∈ fp, FpOk X pins H b) → tn i s.heap → J.stop i H →
    wpAny (model P w) X.A (pyNext (.ref it)) (fun r s1 => r = none ∧ Inv X pins σ H s1) E s
  self : ∀ (A : Around) (i : Nat) (s : Shared) (Q : Value → Shared → Prop) (E : Value → Shared → Prop), tn i s.heap → Q (.ref it) s → wpAny (model P w) A (pyIter (.ref it)) Q E s
noncomputable abbrev TI := St → Hp → (It → Hp → Prop) → Prop
noncomputable def PIE (X : Cx) (pins : List (Addr × Obj)) (σ : St) (tg : Expr) (R : It → Hp → Prop) (itv : Value) (s2 : Shared) : Prop :=
  ∃ (it : Addr) (fp : List Addr) (tn : Nat → Heap → Prop) (J : It) (H' : Hp), itv = .ref it ∧ Inv X pins σ H' s2 ∧ Turn X.prog X.w X.K tg J fp it tn ∧ tn 0 s2.heap ∧ (∀ b ∈ fp, FpOk X pins H' b) ∧ R J H'
noncomputable def PI (X : Cx) (tg iter : Expr) (wi : TI) : Prop :=
  ∀ (pins : List (Addr × Obj)) (s : Shared) (σ : St) (H : Hp) (R : It → Hp → Prop), Inv X pins σ H s → wi σ H R →
    wpAny (model X.prog X.w) X.A (eval iter X.env) (fun v s1 => wpAny (model X.prog X.w) X.A (pyIter v) (PIE X pins σ tg R) X.xe s1) X.xe s
theorem go_of {M : Model} {A : Around} {E : Value → Shared → Prop} {s : Shared} {tg : Expr} {it : Addr} {u : Value} {o : Obj} {n : String} {vs : Array Value} {Q : Unit → Shared → Prop} (ho : s.heap.get? it = some o) (hc : o.cls = .type n) (hd : o.data = .fields vs)
    (hn : ["enumerate", "zip", "dict_itemiterator", "dict_reverseitemiterator", "odict_iterator", "itertools.zip_longest", "itertools.pairwise"].contains n = false) (hQ : Q () s) : wpAny M A (letOwnedTupleGo tg (.ref it) u) Q E s := by
  unfold letOwnedTupleGo
  cases tg <;> first
    | exact wpAny_pure hQ
    | (cases u <;> first
        | exact wpAny_pure hQ
        | (refine wpAny_bind (wpAny_load ho ?_)
           rw [hc, hd]
           show wpAny M A (if (["enumerate", "zip", "dict_itemiterator", "dict_reverseitemiterator", "odict_iterator", "itertools.zip_longest", "itertools.pairwise"].contains n && vs[0]? == some (rawInt _)) = true then _ else _) Q E s
           rw [if_neg (by intro h; rw [hn, Bool.false_and] at h; cases h)]
           exact wpAny_pure hQ))
noncomputable def Itl (K : PySem.W.Frag) (a : Addr) : It :=
  ⟨fun i H => ∃ xs x, SqL K H a xs ∧ xs[i]? = some x, fun i H x H' => H' = H ∧ ∀ xs, SqL K H a xs → xs[i]? = some x, fun i H => ∃ xs, SqL K H a xs ∧ xs.length ≤ i⟩
noncomputable def Itt (K : PySem.W.Frag) (a : Addr) : It :=
  ⟨fun i H => ∃ xs x, SqT K H a xs ∧ xs[i]? = some x, fun i H x H' => H' = H ∧ ∀ xs, SqT K H a xs → xs[i]? = some x, fun i H => ∃ xs, SqT K H a xs ∧ xs.length ≤ i⟩
noncomputable def Itr (lo : Int) (n : Nat) : It := ⟨fun i _ => i < n, fun i H x H' => H' = H ∧ x = .int (lo + i), fun i _ => n ≤ i⟩
theorem turn_list {P : Program} {w : World} {K : PySem.W.Frag} {tg : Expr} (a it : Addr) : Turn P w K tg (Itl K a) [it] it (fun i h => h.IsListIter it a i) where
  mem := by simp
  obj := fun i h st b hb => by
    have e : b = it := by simpa using hb
    subst e
    obtain ⟨o, e, c, d⟩ := st
    exact ⟨o, e, fun v z => by rw [d] at z; cases z⟩
  keep := fun i h h' st k => st.at fun o e => k it (by simp) o e
  item := by
    intro X hP hw hK hc i pins s σ H E I hf st hg
    subst hP hw hK
    obtain ⟨xs, x, hq, hx⟩ := hg
    obtain ⟨its, rv, p, hz⟩ := I.list hq
    obtain ⟨u, hu, ru⟩ := rv.get hx
    obtain ⟨f0, f1, f2, f3, f4, f5⟩ := hf it (by simp)
    refine wpAny_pyNext_list_item st p.isList (x := u) (by simpa using hu) fun h' st' sb => ?_
    have I1 : Inv X pins σ H { s with heap := h' } := I.turned (t' := s.toks) (fun b o hb e => (sb.2 b hb).trans e) f0 f1 f3 f4 f5
    obtain ⟨o, e, c, d⟩ := id st'
    exact ⟨u, rfl, go_of (s := { s with heap := h' }) e c d (by decide) ⟨x, H, I1, ru, ⟨rfl, fun ys hy => by rw [I.list_inj hy hq]; exact hx⟩, st', fun b hb => (hf b hb).1⟩⟩
  done := by
    intro X hP hw hK hc i pins s σ H E I hf st hg
    subst hP hw hK
    obtain ⟨xs, hq, hx⟩ := hg
    obtain ⟨its, rv, p, hz⟩ := I.list hq
    obtain ⟨f0, f1, f2, f3, f4, f5⟩ := hf it (by simp)
    have hl := rv.length
    exact wpAny_pyNext_list_end (I.ok.hd hc) st p.isList (by simp; omega) fun h' eb => ⟨rfl, I.turned (t' := s.toks) (fun b o hb e => eb b o hb e) f0 f1 f3 f4 f5⟩
  self := fun _ _ _ _ _ st h => wpAny_pyIter_listiter st h
theorem turn_tuple {P : Program} {w : World} {K : PySem.W.Frag} {tg : Expr} (a it : Addr) : Turn P w K tg (Itt K a) [it] it (fun i h => h.IsTupleIter it a i) where
  mem := by simp
  obj := fun i h st b hb => by
    have e : b = it := by simpa using hb
    subst e
    obtain ⟨o, e, c, d⟩ := st
    exact ⟨o, e, fun v z => by rw [d] at z; cases z⟩
  keep := fun i h h' st k => st.at fun o e => k it (by simp) o e
  item := by
    intro X hP hw hK hc i pins s σ H E I hf st hg
    subst hP hw hK
    obtain ⟨xs, x, hq, hx⟩ := hg
    obtain ⟨its, rv, p, hz⟩ := I.tuple hq
    obtain ⟨u, hu, ru⟩ := rv.get hx
    obtain ⟨f0, f1, f2, f3, f4, f5⟩ := hf it (by simp)
    refine wpAny_pyNext_tuple_item st (show s.heap.IsTuple a its.toArray from p) (x := u) (by simpa using hu) fun h' st' sb => ?_
    have I1 : Inv X pins σ H { s with heap := h' } := I.turned (t' := s.toks) (fun b o hb e => (sb.2 b hb).trans e) f0 f1 f3 f4 f5
    obtain ⟨o, e, c, d⟩ := id st'
    exact ⟨u, rfl, go_of (s := { s with heap := h' }) e c d (by decide) ⟨x, H, I1, ru, ⟨rfl, fun ys hy => by rw [I.tuple_inj hy hq]; exact hx⟩, st', fun b hb => (hf b hb).1⟩⟩
  done := by
    intro X hP hw hK hc i pins s σ H E I hf st hg
    subst hP hw hK
    obtain ⟨xs, hq, hx⟩ := hg
    obtain ⟨its, rv, p, hz⟩ := I.tuple hq
    obtain ⟨f0, f1, f2, f3, f4, f5⟩ := hf it (by simp)
    have hl := rv.length
    exact wpAny_pyNext_tuple_end (I.ok.hd hc) st (show s.heap.IsTuple a its.toArray from p) (by simp; omega) fun h' eb => ⟨rfl, I.turned (t' := s.toks) (fun b o hb e => eb b o hb e) f0 f1 f3 f4 f5⟩
  self := fun _ _ _ _ _ st h => wpAny_pyIter_tupleiter st h
theorem turn_range {P : Program} {w : World} {K : PySem.W.Frag} {tg : Expr} (it : Addr) (lo : Int) (n : Nat) : Turn P w K tg (Itr lo n) [it] it (fun i h => IsRangeIter h it (lo + (i : Nat) * 1) ((n : Int) - (i : Nat)) 1) where
  mem := by simp
  obj := fun i h st b hb => by
    have e : b = it := by simpa using hb
    subst e
    exact ⟨_, st, fun v z => by
      have z' : Data.fields _ = Data.cell v := z
      cases z'⟩
  keep := fun i h h' st k => k it (by simp) _ st
  item := by
    intro X hP hw hK hc i pins s σ H E I hf st hg
    subst hP hw hK
    obtain ⟨f0, f1, f2, f3, f4, f5⟩ := hf it (by simp)
    have W := Walks.range (prog := X.prog) (w := X.w) (I.ok.hd hc) it lo 1 n
    refine W.item i s _ _ hg st fun v h' tk hv st' kk => ?_
    obtain ⟨t, rfl⟩ := hv
    have I1 : Inv X pins σ H { s with heap := h', toks := tk } := I.turned (fun b o hb e => kk b o (by simpa using hb) e) f0 f1 f3 f4 f5
    refine ⟨_, rfl, go_of (s := { s with heap := h', toks := tk }) (n := "range_iterator") st' rfl rfl (by decide) ⟨.int (lo + i), H, I1, ⟨t, ?_⟩, ⟨rfl, rfl⟩, st', fun b hb => (hf b hb).1⟩⟩
    rw [Int.mul_one]
  done := by
    intro X hP hw hK hc i pins s σ H E I hf st hg
    subst hP hw hK
    obtain ⟨f0, f1, f2, f3, f4, f5⟩ := hf it (by simp)
    exact wpAny_pyNext_range_end (I.ok.hd hc) st (by have : n ≤ i := hg; omega) fun h' eb => ⟨rfl, I.turned (t' := s.toks) (fun b o hb e => eb b o hb e) f0 f1 f3 f4 f5⟩
  self := fun _ _ _ _ _ st h => wpAny_pyIter_rangeiter st h
end L2
namespace L2
open PySem PySem.Spec PyProof.Rows
section
variable {X : Cx} {tg : Expr}
noncomputable def iList (K : PySem.W.Frag) (tl : TE) : TI := fun σ H R => tl σ H fun x H1 => ∃ a, x = .ref a ∧ (∃ xs, SqL K H1 a xs) ∧ R (Itl K a) H1
noncomputable def iTup (K : PySem.W.Frag) (tl : TE) : TI := fun σ H R => tl σ H fun x H1 => ∃ a, x = .ref a ∧ (∃ xs, SqT K H1 a xs) ∧ R (Itt K a) H1
theorem pi_list {l : Expr} {tl : TE} (hl : PE X l tl) : PI X tg l (iList X.K tl) := by
  intro pins s σ H R I h
  refine thn (hl pins s σ H _ I h) fun v s1 ⟨x, H1, I1, r1, q1⟩ => ?_
  obtain ⟨a, e, ⟨xs, hq⟩, q⟩ := q1
  subst e
  cases r1
  obtain ⟨its, rv, p, hz⟩ := I1.list hq
  refine wpAny_pyIter_list p.isList ?_
  refine ⟨s1.heap.objs.size, [s1.heap.objs.size], _, _, H1, rfl, I1.kept (t' := s1.toks) fun b o e => Heap.get?_push_of_some _ e, turn_list a _, ⟨_, Heap.get?_push_size _ rfl, rfl, rfl⟩, fun b hb => ?_, q⟩
  have e : b = s1.heap.objs.size := by simpa using hb
  subst e
  exact I1.fpOk (Nat.le_refl _) (I1.hok.fresh (Nat.le_refl _))
theorem pi_tup {l : Expr} {tl : TE} (hl : PE X l tl) : PI X tg l (iTup X.K tl) := by
  intro pins s σ H R I h
  refine thn (hl pins s σ H _ I h) fun v s1 ⟨x, H1, I1, r1, q1⟩ => ?_
  obtain ⟨a, e, ⟨xs, hq⟩, q⟩ := q1
  subst e
  cases r1
  obtain ⟨its, rv, p, hz⟩ := I1.tuple hq
  refine wpAny_pyIter_tuple (show s1.heap.IsTuple a its.toArray from p) ?_
  refine ⟨s1.heap.objs.size, [s1.heap.objs.size], _, _, H1, rfl, I1.kept (t' := s1.toks) fun b o e => Heap.get?_push_of_some _ e, turn_tuple a _, ⟨_, Heap.get?_push_size _ rfl, rfl, rfl⟩, fun b hb => ?_, q⟩
  have e : b = s1.heap.objs.size := by simpa using hb
  subst e
  exact I1.fpOk (Nat.le_refl _) (I1.hok.fresh (Nat.le_refl _))
theorem range_it {pins : List (Addr × Obj)} {σ : St} {H : Hp} {s : Shared} {R : It → Hp → Prop} {E : Value → Shared → Prop} {lo hi : Int} {t u v : Tok} {tk : Nat} (I : Inv X pins σ H s) (h1 : -(2 ^ 62) ≤ lo) (h2 : lo < 2 ^ 62) (h3 : -(2 ^ 62) ≤ hi) (h4 : hi < 2 ^ 62)
    (q : R (Itr lo (hi - lo).toNat) H) : wpAny (model X.prog X.w) X.A (pyIter (.ref s.heap.objs.size)) (PIE X pins σ tg R) E { s with heap := s.heap.push { cls := .type "range", data := .fields #[.int lo t, .int hi u, .int 1 v] }, toks := tk } := by
  refine wpAny_pyIter_range (IsRange.new ..) (small_one h1 h2 h3 h4) ?_
  have I1 : Inv X pins σ H { s with heap := s.heap.push { cls := .type "range", data := .fields #[.int lo t, .int hi u, .int 1 v] }, toks := tk } := I.kept fun b o e => Heap.get?_push_of_some _ e
  refine ⟨(s.heap.push { cls := .type "range", data := .fields #[.int lo t, .int hi u, .int 1 v] }).objs.size, [(s.heap.push { cls := .type "range", data := .fields #[.int lo t, .int hi u, .int 1 v] }).objs.size], _, _, H, rfl,
    I1.kept (t' := tk) fun b o e => Heap.get?_push_of_some _ e, turn_range _ lo (hi - lo).toNat, ?_, fun b hb => ?_, q⟩
  · have e1 : lo + ((0 : Nat) : Int) * 1 = lo := by simp
    have e2 : (((hi - lo).toNat : Nat) : Int) - ((0 : Nat) : Int) = Builtin.Range.rangeSize lo hi 1 := by rw [rangeSize_one]; split <;> omega
    show IsRangeIter _ _ (lo + ((0 : Nat) : Int) * 1) ((((hi - lo).toNat : Nat) : Int) - ((0 : Nat) : Int)) 1
    rw [e1, e2]
    exact Heap.get?_push_size _ rfl
  · have e : b = (s.heap.push { cls := .type "range", data := .fields #[.int lo t, .int hi u, .int 1 v] }).objs.size := by simpa using hb
    subst e
    exact I1.fpOk (Nat.le_refl _) (I1.hok.fresh (Nat.le_refl _))
noncomputable def iRng1 (ta : TA) : TI := fun σ H R => ta σ H fun vs H1 => ∃ j : Int, vs = [.int j] ∧ -(2 ^ 62) ≤ j ∧ j < 2 ^ 62 ∧ R (Itr 0 j.toNat) H1
noncomputable def iRng2 (ta : TA) : TI := fun σ H R => ta σ H fun vs H1 => ∃ i j : Int, vs = [.int i, .int j] ∧ (-(2 ^ 62) ≤ i ∧ i < 2 ^ 62 ∧ -(2 ^ 62) ≤ j ∧ j < 2 ^ 62) ∧ R (Itr i (j - i).toNat) H1
theorem pi_range1 {a : Expr} {ta : TA} {p pos : Pos} (hg : Gl X "range") (hm : X.mg "range" = none) (ha : PA X [a] ta) (hs : starEach [a] X.env = [(false, eval a X.env)] := by rfl) : PI X tg (.Call (.Name "range" p) [a] [] pos) (iRng1 ta) := by
  intro pins s σ H R I h
  refine Call_ (ld_blt I hg hm boot_range (PyProof.Rows.callWith_type1 (thn (ha pos pins s σ H _ I h) fun us s1 ⟨vs, H1, I1, r1, q1⟩ => ?_) hs rfl))
  obtain ⟨j, e, q1, q2, q⟩ := q1
  subst e
  cases r1 with
  | cons r rr =>
    cases rr
    obtain ⟨t, rfl⟩ := r
    exact call_range_1 (range_it I1 (by omega) (by omega) q1 q2 (by simpa using q))
theorem pi_range2 {a b : Expr} {ta : TA} {p pos : Pos} (hg : Gl X "range") (hm : X.mg "range" = none) (ha : PA X [a, b] ta) (hs : starEach [a, b] X.env = [(false, eval a X.env), (false, eval b X.env)] := by rfl) (hs2 : starEach [b] X.env = [(false, eval b X.env)] := by rfl) :
    PI X tg (.Call (.Name "range" p) [a, b] [] pos) (iRng2 ta) := by
  intro pins s σ H R I h
  refine Call_ (ld_blt I hg hm boot_range (PyProof.Rows.callWith_type1 (thn (ha pos pins s σ H _ I h) fun us s1 ⟨vs, H1, I1, r1, q1⟩ => ?_) (by rw [hs, hs2]) (by rw [hs2]; rfl)))
  obtain ⟨i, j, e, ⟨q1, q2, q3, q4⟩, q⟩ := q1
  subst e
  cases r1 with
  | cons r rr =>
    cases rr with
    | cons r' rr =>
      cases rr
      obtain ⟨t, rfl⟩ := r
      obtain ⟨t', rfl⟩ := r'
      exact call_range_2 (range_it I1 q1 q2 q3 q4 q)
noncomputable def tFor (wi : TI) (g : TG) (tb : TS) : TS := fun D σ H => wi σ H fun J H1 => ∃ W : Nat → Nat → St → Hp → Prop, (∃ m, W 0 m σ H1) ∧ ∀ i m σ H, W i m σ H →
  (J.stop i H ∧ D.nx σ H) ∨ (J.go i H ∧ ∃ N : St → Hp → Prop, (∀ σ' H', N σ' H' → ∃ m', m' < m ∧ W (i + 1) m' σ' H') ∧ ∀ x H', J.yld i H x H' → g x σ H' fun σ2 H2 => tb { D with nx := N, ct := N, bk := D.nx } σ2 H2)
noncomputable def pinsAt (fp : List Addr) (h : Heap) : List (Addr × Obj) := fp.filterMap fun b => (h.get? b).map fun o => (b, o)
theorem mem_pinsAt {fp : List Addr} {h : Heap} {b : Addr} {o : Obj} (hb : b ∈ fp) (e : h.get? b = some o) : (b, o) ∈ pinsAt fp h := List.mem_filterMap.mpr ⟨b, hb, by rw [e]; rfl⟩
theorem of_pinsAt {fp : List Addr} {h : Heap} {p : Addr × Obj} (hp : p ∈ pinsAt fp h) : p.1 ∈ fp ∧ h.get? p.1 = some p.2 := by
  obtain ⟨b, hb, e⟩ := List.mem_filterMap.mp hp
  cases q : h.get? b with
  | none => rw [q] at e; cases e
  | some o =>
    rw [q] at e
    have e' : (b, o) = p := Option.some.inj e
    subst e'
    exact ⟨hb, q⟩
theorem Inv.pinned {pins : List (Addr × Obj)} {σ : St} {H : Hp} {s : Shared} {fp : List Addr} (I : Inv X pins σ H s) (hf : ∀ b ∈ fp, FpOk X pins H b) (ho : ∀ b ∈ fp, ∃ o, s.heap.get? b = some o ∧ ∀ v, o.data ≠ .cell v) : Inv X (pins ++ pinsAt fp s.heap) σ H s :=
  I.pins_of fun p hp => (List.mem_append.mp hp).elim (fun z => I.pin p (List.mem_append_right _ z)) fun z => by
    obtain ⟨hb, e⟩ := of_pinsAt z
    obtain ⟨f0, f1, f2, _⟩ := hf p.1 hb
    obtain ⟨o, e', d⟩ := ho p.1 hb
    rw [e] at e'; cases e'
    exact ⟨e, f0, f1, f2, d⟩
theorem Inv.unpinned {pins pl : List (Addr × Obj)} {σ : St} {H : Hp} {s : Shared} (I : Inv X (pins ++ pl) σ H s) : Inv X pins σ H s := I.pins_of fun p hp => I.pin p (List.mem_append_right _ (List.mem_append_left _ hp))
theorem ps_for {iter : Expr} {body : List Stmt} {wi : TI} {g : TG} {tb : TS} {pos : Pos} (hp : PassesOwn (model X.prog X.w) X.A X.env X.xe) (hc : X.calm = true) (hi : PI X tg iter wi) (hg : PG X tg g) (hb : PSs X body tb)
    (hs : ∀ x, foldedSetIterable iter X.env x = pure x := by intro _; rfl) : PS X (.For tg iter body [] pos) (tFor wi g tb) := by
  intro pins s σ H D I h
  refine wpAny_For (thn (hi pins s σ H _ I h) fun v s1 h1 => thn h1 fun itv s2 h2 => ?_) hs
  obtain ⟨it, fp, tn, J, H2, e, I2, T, st2, f2, W, ⟨m0, w0⟩, turn⟩ := h2
  subst e
  -- what stays true of the iterator's objects through the loop
  have stat : ∀ {H' : Hp}, (∀ b ∈ fp, H' b = none) → ∀ b ∈ fp, FpOk X pins H' b := fun hn b hb => ⟨hn b hb, (f2 b hb).2⟩
  refine codeAny_forLoop_any (fun n s' => ∃ i σ' H', Inv X pins σ' H' s' ∧ tn i s'.heap ∧ (∀ b ∈ fp, H' b = none) ∧ W i n σ' H') ?_ m0 ⟨0, σ, H2, I2, st2, fun b hb => (f2 b hb).1, w0⟩
  rintro n s3 ⟨i, σ3, H3, I3, st3, fr3, w3⟩
  rcases turn i n σ3 H3 w3 with ⟨stop, qn⟩ | ⟨go, N, hN, step⟩
  · refine wpAny_passesOwn hp (thn (T.done X rfl rfl rfl hc i pins s3 σ3 H3 X.xe I3 (stat fr3) st3 stop) fun r s4 ⟨hr, I4⟩ => ?_)
    subst hr
    exact wpAny_execs_nil ⟨σ3, H3, I4, qn⟩
  · refine wpAny_passesOwn hp (thn (T.item X rfl rfl rfl hc i pins s3 σ3 H3 X.xe I3 (stat fr3) st3 go) fun r s4 ⟨u, hr, h4⟩ => ?_)
    subst hr
    refine wpAny_passesOwn hp (thn h4 fun _ s5 ⟨x, H5, I5, r5, y5, st5, fr5⟩ => ?_)
    have I5' := I5.pinned (stat fr5) (T.obj _ _ st5)
    refine wpAny_passesOwn hp (thn (hg _ s5 σ3 H5 x u _ I5' r5 (step x H5 y5)) fun _ s6 ⟨σ6, H6, I6, q6⟩ => ?_)
    refine wpAny_passesOwn hp (thn (hb _ s6 σ6 H6 _ I6 q6) fun f s7 q7 => ?_)
    have again : ∀ {σ7 : St} {H7 : Hp}, Inv X (pins ++ pinsAt fp s5.heap) σ7 H7 s7 → N σ7 H7 → ∃ m, m < n ∧ ∃ i σ' H', Inv X pins σ' H' s7 ∧ tn i s7.heap ∧ (∀ b ∈ fp, H' b = none) ∧ W i m σ' H' := fun {σ7 H7} I7 n7 => by
      obtain ⟨m', hm, w7⟩ := hN σ7 H7 n7
      refine ⟨m', hm, i + 1, σ7, H7, I7.unpinned, T.keep _ _ _ st5 fun b hb o e => (I7.pin (b, o) (List.mem_append_right _ (List.mem_append_right _ (mem_pinsAt hb e)))).1, fun b hb => ?_, w7⟩
      obtain ⟨o, e, d⟩ := T.obj _ _ st5 b hb
      exact (I7.pin (b, o) (List.mem_append_right _ (List.mem_append_right _ (mem_pinsAt hb e)))).2.1
    cases f with
    | next => obtain ⟨σ7, H7, I7, n7⟩ := q7; exact again I7 n7
    | cont => obtain ⟨σ7, H7, I7, n7⟩ := q7; exact again I7 n7
    | brk => obtain ⟨σ7, H7, I7, q7⟩ := q7; exact ⟨σ7, H7, I7.unpinned, q7⟩
    | ret v => obtain ⟨x7, σ7, H7, I7, r7, q7⟩ := q7; exact ⟨x7, σ7, H7, I7.unpinned, r7, q7⟩
end
end L2
namespace L2
open PySem PySem.Spec PyProof.Rows
noncomputable abbrev R2 := V → V → Hp → VK → Prop
noncomputable def OpR (X : Cx) (f : Value → Value → Sem Value) (r : R2) : Prop :=
  ∀ (pins : List (Addr × Obj)) (s : Shared) (σ : St) (H : Hp) (x y : V) (v u : Value) (Q : VK), Inv X pins σ H s → RelV x v → RelV y u → r x y H Q →
    wpAny (model X.prog X.w) X.A (f v u) (EP X pins σ Q) X.xe s
noncomputable def UnR (X : Cx) (f : Value → Sem Value) (r : V → Hp → VK → Prop) : Prop :=
  ∀ (pins : List (Addr × Obj)) (s : Shared) (σ : St) (H : Hp) (x : V) (v : Value) (Q : VK), Inv X pins σ H s → RelV x v → r x H Q →
    wpAny (model X.prog X.w) X.A (f v) (EP X pins σ Q) X.xe s
noncomputable def CallR (X : Cx) (f : Value) (r : List V → Hp → VK → Prop) : Prop :=
  ∀ (pins : List (Addr × Obj)) (s : Shared) (σ : St) (H : Hp) (xs : List V) (us : List Value) (Q : VK), Inv X pins σ H s → Vals xs us → r xs H Q →
    wpAny (model X.prog X.w) X.A (call f us) (EP X pins σ Q) X.xe s
noncomputable def tOp (r : R2) (ta tb : TE) : TE := fun σ H Q => ta σ H fun x H1 => tb σ H1 fun y H2 => r x y H2 Q
noncomputable def tUn (r : V → Hp → VK → Prop) (ta : TE) : TE := fun σ H Q => ta σ H fun x H1 => r x H1 Q
noncomputable def rI (C : Int → Int → Prop) (g : Int → Int → V) : R2 := fun x y H Q => ∃ i j, x = .int i ∧ y = .int j ∧ C i j ∧ Q (g i j) H
noncomputable def rI0 (g : Int → Int → V) : R2 := fun x y H Q => ∃ i j, x = .int i ∧ y = .int j ∧ Q (g i j) H
noncomputable def rU (g : Int → V) : V → Hp → VK → Prop := fun x H Q => ∃ i, x = .int i ∧ Q (g i) H
section
variable {X : Cx} {a b c : Expr} {ta tb tc : TE} {pos : Pos}
theorem binT (ha : PE X a ta) (hb : PE X b tb) {pins : List (Addr × Obj)} {s : Shared} {σ : St} {H : Hp} {R : V → V → Hp → Prop} (I : Inv X pins σ H s)
    (h : ta σ H fun x H1 => tb σ H1 fun y H2 => R x y H2) {Q : Value → Shared → Prop} {f : Value → Value → Sem Value}
    (hf : ∀ v u s2 x y H2, Inv X pins σ H2 s2 → RelV x v → RelV y u → R x y H2 → wpAny (model X.prog X.w) X.A (f v u) Q X.xe s2) :
    wpAny (model X.prog X.w) X.A (eval a X.env) (fun v s₁ => wpAny (model X.prog X.w) X.A (eval b X.env) (fun u s₂ => wpAny (model X.prog X.w) X.A (f v u) Q X.xe s₂) X.xe s₁) X.xe s := by
  refine thn (ha pins s σ H _ I h) fun v s1 ⟨x, H1, I1, r1, q1⟩ => ?_
  refine thn (hb pins s1 σ H1 _ I1 q1) fun u s2 ⟨y, H2, I2, r2, q2⟩ => ?_
  exact hf v u s2 x y H2 I2 r1 r2 q2
theorem pe_op {op : Operator} {r : R2} (ho : OpR X (binaryOp op) r) (ha : PE X a ta) (hb : PE X b tb) : PE X (.BinOp a op b pos) (tOp r ta tb) := by
  intro pins s σ H Q I h
  exact wpAny_BinOp (binT ha hb I h fun v u s2 x y H2 I2 rx ry q => ho pins s2 σ H2 x y v u Q I2 rx ry q)
theorem pe_un {op : UnaryOp} {r : V → Hp → VK → Prop} (ho : UnR X (unaryOp op) r) (ha : PE X a ta) : PE X (.UnaryOp op a pos) (tUn r ta) := by
  intro pins s σ H Q I h
  exact UnaryOp_ (thn (ha pins s σ H _ I h) fun v s1 ⟨x, H1, I1, r1, q1⟩ => ho pins s1 σ H1 x v Q I1 r1 q1)
theorem opI {f : Value → Value → Sem Value} {C : Int → Int → Prop} {g : Int → Int → Int}
    (rule : ∀ (i j : Int) (t u : Tok) (s : Shared) (Q : Value → Shared → Prop) (E : Value → Shared → Prop), C i j → Q (.int (g i j) s.toks) { s with toks := s.toks + 1 } → wpAny (model X.prog X.w) X.A (f (.int i t) (.int j u)) Q E s) :
    OpR X f (rI C fun i j => .int (g i j)) := by
  intro pins s σ H x y v u Q I rx ry h
  obtain ⟨i, j, rfl, rfl, hc, q⟩ := h
  obtain ⟨t, rfl⟩ := rx
  obtain ⟨t', rfl⟩ := ry
  exact rule i j t t' s _ _ hc ⟨.int (g i j), H, I.tok _, ⟨_, rfl⟩, q⟩
theorem opI0 {f : Value → Value → Sem Value} {g : Int → Int → Int}
    (rule : ∀ (i j : Int) (t u : Tok) (s : Shared) (Q : Value → Shared → Prop) (E : Value → Shared → Prop), Q (.int (g i j) s.toks) { s with toks := s.toks + 1 } → wpAny (model X.prog X.w) X.A (f (.int i t) (.int j u)) Q E s) :
    OpR X f (rI0 fun i j => .int (g i j)) := by
  intro pins s σ H x y v u Q I rx ry h
  obtain ⟨i, j, rfl, rfl, q⟩ := h
  obtain ⟨t, rfl⟩ := rx
  obtain ⟨t', rfl⟩ := ry
  exact rule i j t t' s _ _ ⟨.int (g i j), H, I.tok _, ⟨_, rfl⟩, q⟩
theorem opB0 {f : Value → Value → Sem Value} {g : Int → Int → Bool}
    (rule : ∀ (i j : Int) (t u : Tok) (s : Shared) (Q : Value → Shared → Prop) (E : Value → Shared → Prop), Q (.bool (g i j)) s → wpAny (model X.prog X.w) X.A (f (.int i t) (.int j u)) Q E s) :
    OpR X f (rI0 fun i j => .bl (g i j)) := by
  intro pins s σ H x y v u Q I rx ry h
  obtain ⟨i, j, rfl, rfl, q⟩ := h
  obtain ⟨t, rfl⟩ := rx
  obtain ⟨t', rfl⟩ := ry
  exact rule i j t t' s _ _ ⟨.bl (g i j), H, I, rfl, q⟩
noncomputable def CDiv (i j : Int) : Prop := 0 < j ∧ j < 1073741824
noncomputable def CPow (i j : Int) : Prop := 0 ≤ j ∧ j ≤ 1000000 ∧ i.natAbs < 2 ^ 64
noncomputable def CMul (i j : Int) : Prop := (-(2 ^ 64) < i ∧ i < 2 ^ 64) ∨ (-(2 ^ 64) < j ∧ j < 2 ^ 64)
theorem CMul.ok {i j : Int} (h : CMul i j) : IntMulOk i j := by
  rcases h with ⟨h1, h2⟩ | ⟨h1, h2⟩
  · exact .of_left (intBits_le_64 h1 h2)
  · exact .of_right (intBits_le_64 h1 h2)
theorem op_add : OpR X (binaryOp .Add) (rI0 fun i j => .int (i + j)) := opI0 fun _ _ _ _ _ _ _ q => add_int q
theorem op_sub : OpR X (binaryOp .Sub) (rI0 fun i j => .int (i - j)) := opI0 fun _ _ _ _ _ _ _ q => sub_int q
theorem op_mul : OpR X (binaryOp .Mult) (rI CMul fun i j => .int (i * j)) := opI fun _ _ _ _ _ _ _ hc q => mul_int q hc.ok
theorem op_fdiv : OpR X (binaryOp .FloorDiv) (rI CDiv fun i j => .int (i / j)) := opI fun i j _ _ _ _ _ hc q => by
  have h1 : (0 : Int) < j := hc.1
  have h2 : j < 1073741824 := hc.2
  exact floordiv_int (by omega) (by rw [Int.fdiv_eq_ediv_of_nonneg i (by omega)]; exact q) (.inl (PyProof.noPylong_small (by omega)))
theorem op_mod : OpR X (binaryOp .Mod) (rI (fun _ j => 0 < j) fun i j => .int (i % j)) := opI fun i j _ _ _ _ _ hc q => by
  have h1 : (0 : Int) < j := hc
  exact mod_int' (by omega) (by rw [Int.fmod_eq_emod_of_nonneg i (by omega)]; exact q)
theorem op_pow : OpR X (binaryOp .Pow) (rI CPow fun i j => .int (i ^ j.toNat)) := opI fun _ _ _ _ _ _ _ hc q => pow_int_small hc.1 hc.2.1 hc.2.2 q
theorem unI {f : Value → Sem Value} {g : Int → Int}
    (rule : ∀ (i : Int) (t : Tok) (s : Shared) (Q : Value → Shared → Prop) (E : Value → Shared → Prop), Q (.int (g i) s.toks) { s with toks := s.toks + 1 } → wpAny (model X.prog X.w) X.A (f (.int i t)) Q E s) :
    UnR X f (rU fun i => .int (g i)) := by
  intro pins s σ H x v Q I rx h
  obtain ⟨i, rfl, q⟩ := h
  obtain ⟨t, rfl⟩ := rx
  exact rule i t s _ _ ⟨.int (g i), H, I.tok _, ⟨_, rfl⟩, q⟩
theorem un_neg : UnR X (unaryOp .USub) (rU fun i => .int (-i)) := unI fun _ _ _ _ _ q => neg_int q
end
noncomputable def scal : V → V → Bool
  | .non, .non => true | .non, .int _ => true | .int _, .non => true | .non, .bl _ => true | .bl _, .non => true | .non, .str _ => true | .str _, .non => true
  | .int _, .int _ => true | .bl _, .bl _ => true | .str _, .str _ => true | .byt _, .byt _ => true
  | .int _, .str _ => true | .str _, .int _ => true | .bl _, .str _ => true | .str _, .bl _ => true
  | _, _ => false
noncomputable def rEq : R2 := fun x y H Q => scal x y = true ∧ Q (.bl (decide (x = y))) H
noncomputable def rNe : R2 := fun x y H Q => scal x y = true ∧ Q (.bl (!decide (x = y))) H
theorem dec_int {i j : Int} : decide (V.int i = V.int j) = (i == j) := by
  rw [Bool.eq_iff_iff]
  simp
theorem dec_bl {i j : Bool} : decide (V.bl i = V.bl j) = (i == j) := by
  rw [Bool.eq_iff_iff]
  simp
theorem dec_str {i j : Str} : decide (V.str i = V.str j) = (i == j) := by
  rw [Bool.eq_iff_iff]
  simp
theorem dec_byt {i j : Array UInt8} : decide (V.byt i = V.byt j) = (i.toList == j.toList) := by
  rw [Bool.eq_iff_iff]
  cases i
  cases j
  simp
section
variable {X : Cx} {a b c : Expr} {ta tb tc : TE} {pos : Pos}
theorem fin_bl {pins : List (Addr × Obj)} {σ : St} {H : Hp} {s : Shared} {Q : VK} {k k' : Bool} (I : Inv X pins σ H s) (q : Q (.bl k) H) (e : k = k') : EP X pins σ Q (.bool k') s := by
  subst e
  exact ⟨.bl k, H, I, rfl, q⟩
theorem op_eq : OpR X (compareOp .Eq) rEq := by
  intro pins s σ H x y v u Q I rx ry h
  obtain ⟨hs, q⟩ := h
  cases x with
  | non =>
    cases rx
    cases y with
    | non => cases ry; exact PySem.EqNone.eq_none_none (fin_bl I q (by simp))
    | bl j => cases ry; exact PySem.EqNone.eq_none_bool (fin_bl I q (by simp))
    | int j => obtain ⟨t', rfl⟩ := ry; exact PySem.EqNone.eq_none_int (fin_bl I q (by simp))
    | str j => obtain ⟨t', rfl⟩ := ry; exact PySem.EqNone.eq_none_str (fin_bl I q (by simp))
    | _ => exact absurd (show false = true from hs) Bool.false_ne_true
  | bl i =>
    cases rx
    cases y with
    | non => cases ry; exact PySem.EqNone.eq_bool_none (fin_bl I q (by simp))
    | bl j => cases ry; exact eq_bool (fin_bl I q dec_bl)
    | str j => obtain ⟨t', rfl⟩ := ry; exact PySem.EqMixed.eq_bool_str (fin_bl I q (by simp))
    | _ => exact absurd (show false = true from hs) Bool.false_ne_true
  | int i =>
    obtain ⟨t, rfl⟩ := rx
    cases y with
    | non => cases ry; exact PySem.EqNone.eq_int_none (fin_bl I q (by simp))
    | int j => obtain ⟨t', rfl⟩ := ry; exact eq_int (fin_bl I q dec_int)
    | str j => obtain ⟨t', rfl⟩ := ry; exact PySem.EqMixed.eq_int_str (fin_bl I q (by simp))
    | _ => exact absurd (show false = true from hs) Bool.false_ne_true
  | str i =>
    obtain ⟨t, rfl⟩ := rx
    cases y with
    | non => cases ry; exact PySem.EqNone.eq_str_none (fin_bl I q (by simp))
    | bl j => cases ry; exact PySem.EqMixed.eq_str_bool (fin_bl I q (by simp))
    | int j => obtain ⟨t', rfl⟩ := ry; exact PySem.EqMixed.eq_str_int (fin_bl I q (by simp))
    | str j => obtain ⟨t', rfl⟩ := ry; exact eq_str (fin_bl I q dec_str)
    | _ => exact absurd (show false = true from hs) Bool.false_ne_true
  | byt i =>
    obtain ⟨t, rfl⟩ := rx
    cases y with
    | byt j => obtain ⟨t', rfl⟩ := ry; exact PySem.W.eq_bytes (fin_bl I q dec_byt)
    | _ => exact absurd (show false = true from hs) Bool.false_ne_true
  | _ => cases y <;> exact absurd (show false = true from hs) Bool.false_ne_true
theorem op_ne : OpR X (compareOp .NotEq) rNe := by
  intro pins s σ H x y v u Q I rx ry h
  obtain ⟨hs, q⟩ := h
  cases x with
  | non =>
    cases rx
    cases y with
    | non => cases ry; exact PySem.EqNone.ne_none_none (fin_bl I q (by simp))
    | bl j => cases ry; exact PySem.EqNone.ne_none_bool (fin_bl I q (by simp))
    | int j => obtain ⟨t', rfl⟩ := ry; exact PySem.EqNone.ne_none_int (fin_bl I q (by simp))
    | str j => obtain ⟨t', rfl⟩ := ry; exact PySem.EqNone.ne_none_str (fin_bl I q (by simp))
    | _ => exact absurd (show false = true from hs) Bool.false_ne_true
  | bl i =>
    cases rx
    cases y with
    | non => cases ry; exact PySem.EqNone.ne_bool_none (fin_bl I q (by simp))
    | bl j => cases ry; exact ne_bool (fin_bl I q (congrArg not dec_bl))
    | str j => obtain ⟨t', rfl⟩ := ry; exact PySem.EqMixed.ne_bool_str (fin_bl I q (by simp))
    | _ => exact absurd (show false = true from hs) Bool.false_ne_true
  | int i =>
    obtain ⟨t, rfl⟩ := rx
    cases y with
    | non => cases ry; exact PySem.EqNone.ne_int_none (fin_bl I q (by simp))
    | int j => obtain ⟨t', rfl⟩ := ry; exact ne_int (fin_bl I q (congrArg not dec_int))
    | str j => obtain ⟨t', rfl⟩ := ry; exact PySem.EqMixed.ne_int_str (fin_bl I q (by simp))
    | _ => exact absurd (show false = true from hs) Bool.false_ne_true
  | str i =>
    obtain ⟨t, rfl⟩ := rx
    cases y with
    | non => cases ry; exact PySem.EqNone.ne_str_none (fin_bl I q (by simp))
    | bl j => cases ry; exact PySem.EqMixed.ne_str_bool (fin_bl I q (by simp))
    | int j => obtain ⟨t', rfl⟩ := ry; exact PySem.EqMixed.ne_str_int (fin_bl I q (by simp))
    | str j => obtain ⟨t', rfl⟩ := ry; exact ne_str (fin_bl I q (congrArg not dec_str))
    | _ => exact absurd (show false = true from hs) Bool.false_ne_true
  | byt i =>
    obtain ⟨t, rfl⟩ := rx
    cases y with
    | byt j => obtain ⟨t', rfl⟩ := ry; exact PySem.W.ne_bytes (fin_bl I q (congrArg not dec_byt))
    | _ => exact absurd (show false = true from hs) Bool.false_ne_true
  | _ => cases y <;> exact absurd (show false = true from hs) Bool.false_ne_true
theorem op_lt : OpR X (compareOp .Lt) (rI0 fun i j => .bl (decide (i < j))) := opB0 fun _ _ _ _ _ _ _ q => lt_int q
theorem op_le : OpR X (compareOp .LtE) (rI0 fun i j => .bl (decide (i ≤ j))) := opB0 fun _ _ _ _ _ _ _ q => le_int q
theorem op_gt : OpR X (compareOp .Gt) (rI0 fun i j => .bl (decide (j < i))) := opB0 fun _ _ _ _ _ _ _ q => gt_int q
theorem op_in_str : OpR X (compareOp .In) (fun x y H Q => ∃ i j, x = .str i ∧ y = .str j ∧ Q (.bl (!(Builtin.Str.occurrences j i 0 j.length 1).isEmpty)) H) := by
  intro pins s σ H x y v u Q I rx ry h
  obtain ⟨i, j, rfl, rfl, q⟩ := h
  obtain ⟨t, rfl⟩ := rx
  obtain ⟨t', rfl⟩ := ry
  exact in_str (fin_bl I q rfl)
theorem op_isN : OpR X (compareOp .Is) (fun x y H Q => y = .non ∧ Q (.bl (decide (x = .non))) H) := by
  intro pins s σ H x y v u Q I rx ry h
  obtain ⟨rfl, q⟩ := h
  cases ry
  refine is_none_gen (fin_bl I q ?_)
  cases x <;> first
    | (cases rx; rfl)
    | (obtain ⟨t, rfl⟩ := rx; rfl)
theorem nomark (b : Expr) {op : CmpOp} (h : op ≠ .In := by decide) (h2 : op ≠ .NotIn := by decide) : behindInMarks op b = false := by
  have e1 : (op == CmpOp.In) = false := by cases op <;> first | rfl | exact absurd rfl h
  have e2 : (op == CmpOp.NotIn) = false := by cases op <;> first | rfl | exact absurd rfl h2
  cases b <;> simp [behindInMarks, e1, e2]
theorem pe_cmpR {op : CmpOp} {r : R2} (ho : OpR X (compareOp op) r) (ha : PE X a ta) (hb : PE X b tb) (hm : behindInMarks op b = false) : PE X (.Compare a [op] [b] pos) (tOp r ta tb) := by
  intro pins s σ H Q I h
  exact wpAny_Compare1 (binT ha hb I h fun v u s2 x y H2 I2 rx ry q => ho pins s2 σ H2 x y v u Q I2 rx ry q) hm
noncomputable def tTest (t : TE) : TT := fun σ H Q => t σ H fun x H' => ∃ k, x = .bl k ∧ Q k H'
theorem pt_cmpR {op : CmpOp} {r : R2} (ho : OpR X (compareOp op) r) (ha : PE X a ta) (hb : PE X b tb) (hm : behindInMarks op b = false) : PT X (.Compare a [op] [b] pos) (tTest (tOp r ta tb)) := by
  intro pins s σ H Q I h
  refine wpAny_isTrue_Compare1 (thn (ha pins s σ H _ I h) fun v s1 ⟨x, H1, I1, r1, q1⟩ => thn (hb pins s1 σ H1 _ I1 q1) fun u s2 ⟨y, H2, I2, r2, q2⟩ =>
    thn (ho pins s2 σ H2 x y v u _ I2 r1 r2 q2) fun c s3 ⟨z, H3, I3, r3, k, e, q3⟩ => ?_) hm
  subst e
  cases r3
  exact wpAny_truthy_bool ⟨H3, I3, q3⟩
noncomputable def tChain (r r' : R2) (ta tb tc : TE) : TE := fun σ H Q => ta σ H fun x H1 => tb σ H1 fun y H2 => r x y H2 fun z H3 => ∃ k, z = .bl k ∧
  (if k = true then tc σ H3 fun w' H4 => r' y w' H4 Q else Q (.bl false) H3)
theorem pe_chain {op op' : CmpOp} {r r' : R2} (ho : OpR X (compareOp op) r) (ho' : OpR X (compareOp op') r') (ha : PE X a ta) (hb : PE X b tb) (hc : PE X c tc)
    (hm : lastMarks [op, op'] [b, c] = false := by with_unfolding_all rfl) : PE X (.Compare a [op, op'] [b, c] pos) (tChain r r' ta tb tc) := by
  intro pins s σ H Q I h
  refine Compare_chain (thn (ha pins s σ H _ I h) fun v s1 ⟨x, H1, I1, r1, q1⟩ => chain_link (thn (hb pins s1 σ H1 _ I1 q1) fun u s2 ⟨y, H2, I2, r2, q2⟩ =>
    thn (ho pins s2 σ H2 x y v u _ I2 r1 r2 q2) fun d s3 ⟨z, H3, I3, r3, k, e, q3⟩ => ?_)) hm
  subst e
  cases r3
  refine wpAny_truthy_bool ?_
  cases k with
  | false => exact ite_ff ⟨.bl false, H3, I3, rfl, q3⟩
  | true => exact ite_tt (chain_last (thn (hc pins s3 σ H3 _ I3 q3) fun w' s4 ⟨z', H4, I4, r4, q4⟩ => ho' pins s4 σ H4 y z' u w' Q I4 r2 r4 q4))
theorem pt_chain {op op' : CmpOp} {r r' : R2} (ho : OpR X (compareOp op) r) (ho' : OpR X (compareOp op') r') (ha : PE X a ta) (hb : PE X b tb) (hc : PE X c tc)
    (hm : lastMarks [op, op'] [b, c] = false := by with_unfolding_all rfl) : PT X (.Compare a [op, op'] [b, c] pos) (tTest (tChain r r' ta tb tc)) := by
  intro pins s σ H Q I h
  refine isTrue_chain (thn (ha pins s σ H _ I h) fun v s1 ⟨x, H1, I1, r1, q1⟩ => test_link (thn (hb pins s1 σ H1 _ I1 q1) fun u s2 ⟨y, H2, I2, r2, q2⟩ =>
    thn (ho pins s2 σ H2 x y v u _ I2 r1 r2 q2) fun d s3 ⟨z, H3, I3, r3, k, e, q3⟩ => ?_)) hm
  subst e
  cases r3
  refine wpAny_truthy_bool ?_
  cases k with
  | false =>
    obtain ⟨k', e', q'⟩ := q3
    cases e'
    exact ite_ff ⟨H3, I3, q'⟩
  | true =>
    refine ite_tt (test_last (thn (hc pins s3 σ H3 _ I3 q3) fun w' s4 ⟨z', H4, I4, r4, q4⟩ => thn (ho' pins s4 σ H4 y z' u w' _ I4 r2 r4 q4) fun d' s5 ⟨z2, H5, I5, r5, k2, e2, q5⟩ => ?_))
    subst e2
    cases r5
    exact wpAny_truthy_bool ⟨H5, I5, q5⟩
theorem line63 : (sizeLine : Nat) < 2 ^ 63 := by rw [sizeLine_eq]; decide
theorem op_add_str : OpR X (binaryOp .Add) (fun x y H Q => ∃ i j, x = .str i ∧ y = .str j ∧ i.length + j.length ≤ sizeLine ∧ Q (.str (i ++ j)) H) := by
  intro pins s σ H x y v u Q I rx ry h
  obtain ⟨i, j, rfl, rfl, hz, q⟩ := h
  obtain ⟨t, rfl⟩ := rx
  obtain ⟨t', rfl⟩ := ry
  exact add_str (fun t' tk => ⟨.str (i ++ j), H, I.tok _, ⟨_, rfl⟩, q⟩) hz
theorem vals1 {x : V} {us : List Value} (r : Vals [x] us) : ∃ u, us = [u] ∧ RelV x u := by
  cases r with
  | cons r1 r2 => cases r2; exact ⟨_, rfl, r1⟩
theorem vals2 {x y : V} {us : List Value} (r : Vals [x, y] us) : ∃ u w', us = [u, w'] ∧ RelV x u ∧ RelV y w' := by
  cases r with
  | cons r1 r2 =>
    cases r2 with
    | cons r3 r4 => cases r4; exact ⟨_, _, rfl, r1, r3⟩
theorem call_abs : CallR X (.builtin "abs") (fun xs H Q => ∃ i, xs = [.int i] ∧ Q (.int (if i < 0 then -i else i)) H) := by
  intro pins s σ H xs us Q I r h
  obtain ⟨i, rfl, q⟩ := h
  obtain ⟨u, rfl, t, rfl⟩ := vals1 r
  exact call_abs_int fun u tk => ⟨.int (if i < 0 then -i else i), H, I.tok _, ⟨_, rfl⟩, q⟩
theorem call_int1 : CallR X (.type "int") (fun xs H Q => (∃ i, xs = [.int i] ∧ Q (.int i) H) ∨ ∃ k, xs = [.bl k] ∧ Q (.int (if k then 1 else 0)) H) := by
  intro pins s σ H xs us Q I r h
  rcases h with ⟨i, rfl, q⟩ | ⟨k, rfl, q⟩
  · obtain ⟨u, rfl, t, rfl⟩ := vals1 r
    exact call_int_int ⟨.int i, H, I, ⟨_, rfl⟩, q⟩
  · obtain ⟨u, rfl, r1⟩ := vals1 r
    cases r1
    exact call_int_bool ⟨.int (if k then 1 else 0), H, I.tok _, ⟨_, rfl⟩, q⟩
noncomputable def LenV (K : PySem.W.Frag) (x : V) (H : Hp) (n : Nat) : Prop :=
  match x with
  | .str y => y.length ≤ sizeLine ∧ n = y.length
  | .byt y => y.size ≤ sizeLine ∧ n = y.size
  | .ref p => (∃ xs, SqL K H p xs ∧ n = xs.length) ∨ ∃ xs, SqT K H p xs ∧ n = xs.length
  | _ => False
end
end L2
namespace L2
open PySem PySem.Spec PyProof.Rows
structure ObjM (h : Heap) (x dx C : Addr) (mA : Str → Option Value) : Prop where
  obj : h.get? x = some (PySem.W.instObj C dx)
  ns : h.Ns1 dx mA
  ne : dx ≠ x
theorem lookIn_ns {h : Heap} {dx : Addr} {mA : Str → Option Value} (n : h.Ns1 dx mA) : ∃ od, h.get? dx = some od ∧ ∀ name, PySem.W.lookIn name od = some (mA name) := by
  obtain ⟨o, es, ep, ho, hd, hk, _, hm⟩ := n
  refine ⟨o, ho, fun name => ?_⟩
  have e := hm name
  unfold nsFind findBy at e
  rw [← Array.find?_toList] at e
  unfold PySem.W.lookIn
  rw [hd]
  dsimp only
  split
  · rename_i y q
    rw [q] at e
    exact congrArg some e
  · rename_i q
    rw [q] at e
    have a : es.toList.any (·.refKey) = false := by
      rw [List.any_eq_false]
      intro y hy
      obtain ⟨z, t, hkey⟩ := hk y (Array.mem_toList_iff.mp hy)
      simp [DictEntry.refKey, hkey]
    have a' : ¬ es.toList.any (·.refKey) = true := by rw [a]; exact Bool.false_ne_true
    rw [if_neg a']
    exact congrArg some e
theorem ObjM.look {h : Heap} {x dx C : Addr} {mA : Str → Option Value} (I : ObjM h x dx C mA) : ∃ od, PySem.W.InstAt h x (PySem.W.instObj C dx) C (some od) ∧ ∀ name, PySem.W.lookIn name od = some (mA name) :=
  let ⟨od, ho, hl⟩ := lookIn_ns I.ns
  ⟨od, ⟨I.obj, rfl, rfl, ho⟩, hl⟩
section
variable {prog : Program} {w : World} {A : Around} {E : Value → Shared → Prop} {s : Shared} {K : PySem.W.Frag} {x dx C f : Addr} {mA : Str → Option Value} {name : Str} {v : Value}
theorem get_map {expr : Bool} {Q : Value → Shared → Prop} (X : K.In s.heap) (I : ObjM s.heap x dx C mA) (hg : PySem.W.plainGet K C name = true) (hh : PySem.W.hasDictIn K C = true)
    (ha : PySem.W.findIn K (.ref C) name = some none) (hv : mA name = some v) (hv' : PySem.W.handedIn v = true) (h : Q v { s with toks := s.toks + 1 }) :
    wpAny (model prog w) A (getAttr (.ref x) name expr) Q E s := by
  obtain ⟨od, J, hl⟩ := I.look
  exact PySem.W.get_value X J (PySem.W.plainGet_of hg).1 (PySem.W.findObj_own hh ha rfl (by rw [hl, hv])) hv' h
theorem get_meth {pl : Sem Bool} {Q : Value × List Value → Shared → Prop} (X : K.In s.heap) (I : ObjM s.heap x dx C mA) (hg : PySem.W.plainGet K C name = true)
    (hf : PySem.W.findIn K (.ref C) name = some (some (.ref f))) (ht : PySem.W.isFn K (.ref f) = true) (hv : mA name = none) (h : Q (.ref f, [.ref x]) s) :
    wpAny (model prog w) A (getMethod (.ref x) name pl) Q E s := by
  obtain ⟨od, J, hl⟩ := I.look
  exact PySem.W.method_fn X J (PySem.W.plainGet_of hg).1 (PySem.W.plainGet_of hg).2 hf (beq_iff_eq.mp ht) (by show (PySem.W.lookIn name od).map (·.isSome) = some false; rw [hl, hv]; rfl) h
theorem set_map {ns : List Str} {Q : Unit → Shared → Prop} (X : K.In s.heap) (I : ObjM s.heap x dx C mA)
    (hs : PySem.W.findIn K (.ref C) "__setattr__" = some (some (.builtin "object.__setattr__"))) (hp : PySem.W.plainOver K C = true) (ht : PySem.W.takerIn K C name = some none) (hh : PySem.W.hasDictIn K C = true)
    (hw : PySem.Within mA ns) (hsz : ns.length ≤ sizeLine)
    (h : ∀ h', ObjM h' x dx C (fun y => if y = name then some v else mA y) → Heap.SameBut dx s.heap h' → Q () { s with heap := h', toks := s.toks + 2 }) :
    wpAny (model prog w) A (setAttr (.ref x) name v) Q E s := by
  obtain ⟨od, J, hl⟩ := I.look
  refine PySem.W.set_plain X J hs (PySem.W.osa_open (s := { s with toks := s.toks + 1 }) (r := none) X J hp ht fun b => ?_)
  obtain ⟨cd, hc, hd'⟩ := PySem.W.any_some hh
  have hx : s.heap.get? x = some ⟨.ref C, some dx, .plain, #[]⟩ := I.obj
  refine wpAny_bind (wpAny_pure (wpAny_bind (wpAny_bind (wpAny_loadPart hx (wpAny_bind (PySem.W.Looks.here (s := { s with toks := s.toks + 1 }) (PySem.W.looks_clsIn X hc) ?_))))))
  rw [hd']
  refine wpAny_pure (a := some dx) (wpAny_bind (wpAny_pure (wpAny_bind ?_)))
  refine wpAny_nsSet1 (s := { s with toks := s.toks + 1 }) I.ns fun h' hn2 hs2 => ?_
  obtain ⟨oD, esD, epD, hoD, hdD, hcD⟩ := hn2.count (PySem.Within.cons name v hw)
  refine wpAny_bind (wpAny_lookBehind hoD (by rw [hdD]; exact pastItsLine_dict (Nat.le_trans hcD (by rw [List.length_cons]; omega))) ?_)
  exact wpAny_pure (h _ ⟨(hs2.2 _ (Ne.symm I.ne)).trans I.obj, hn2, I.ne⟩ hs2)
theorem make_map {R : Result → Shared → Prop} {vs : List Value} {kw : List (Str × Value)} (X : K.In s.heap) (hm : PySem.W.makesIn K C = true)
    (hi : PySem.W.findIn K (.ref C) "__init__" = some (some (.ref f))) (hf : PySem.W.typeIn K (.ref f) = some (.type "function"))
    (h : codeAny (model prog w) (A.under (.builtin "type.__call__" ⟨.ref C :: vs, kw⟩)) (.call (.ref f) ⟨.ref (s.heap.objs.size + 1) :: vs, kw⟩) (PySem.W.InitBack (s.heap.objs.size + 1) R)
      { s with heap := (s.heap.push PySem.W.emptyDict).push (PySem.W.instObj C s.heap.objs.size) }) :
    codeAny (model prog w) A (.call (.ref C) ⟨vs, kw⟩) R s := by
  obtain ⟨hh, g, d, t, os⟩ := s
  exact PySem.W.make_core (PySem.W.makes_of X hm) (PySem.W.looks_findIn X hi) (fun self => PySem.W.bind_fn X self hf) (.inl rfl) h
end
noncomputable def putF (f : Str) (v : V) : List (Str × V) → List (Str × V)
  | [] => [(f, v)]
  | (g, x) :: r => if g = f then (g, v) :: r else (g, x) :: putF f v r
theorem lookup_putF (f g : Str) (v : V) : ∀ fs : List (Str × V), (putF f v fs).lookup g = if g = f then some v else fs.lookup g
  | [] => by
    show List.lookup g [(f, v)] = _
    by_cases h : g = f
    · have hb : (g == f) = true := beq_iff_eq.mpr h
      simp only [List.lookup, hb, if_pos h]
    · have hb : (g == f) = false := beq_eq_false_iff_ne.mpr h
      simp only [List.lookup, hb, if_neg h]
  | (k, x) :: r => by
    have ih := lookup_putF f g v r
    rw [show putF f v ((k, x) :: r) = (if k = f then (k, v) :: r else (k, x) :: putF f v r) from rfl]
    by_cases hk : k = f
    · rw [if_pos hk]
      by_cases h : g = k
      · have hb : (g == k) = true := beq_iff_eq.mpr h
        simp only [List.lookup, hb, if_pos (h.trans hk)]
      · have hb : (g == k) = false := beq_eq_false_iff_ne.mpr h
        simp only [List.lookup, hb, if_neg (fun e : g = f => h (e.trans hk.symm))]
    · rw [if_neg hk]
      by_cases h : g = k
      · have hb : (g == k) = true := beq_iff_eq.mpr h
        simp only [List.lookup, hb, if_neg (fun e : g = f => hk (h.symm.trans e))]
      · have hb : (g == k) = false := beq_eq_false_iff_ne.mpr h
        simp only [List.lookup, hb]
        exact ih
theorem keys_putF (f : Str) (v : V) : ∀ fs : List (Str × V), f ∈ (putF f v fs).map (·.1) ∧ ∀ g, g ∈ fs.map (·.1) → g ∈ (putF f v fs).map (·.1)
  | [] => ⟨by simp [putF], fun g h => by simp at h⟩
  | (k, x) :: r => by
    obtain ⟨i1, i2⟩ := keys_putF f v r
    rw [show putF f v ((k, x) :: r) = (if k = f then (k, v) :: r else (k, x) :: putF f v r) from rfl]
    by_cases hk : k = f
    · rw [if_pos hk]
      subst hk
      exact ⟨by simp, fun g h => by simpa using h⟩
    · rw [if_neg hk]
      refine ⟨?_, fun g h => ?_⟩
      · rw [List.map_cons]
        exact List.mem_cons_of_mem _ i1
      · rw [List.map_cons] at h ⊢
        rcases List.mem_cons.mp h with e | e
        · exact List.mem_cons.mpr (.inl e)
        · exact List.mem_cons_of_mem _ (i2 g e)
theorem length_putF (f : Str) (v : V) : ∀ fs : List (Str × V), (putF f v fs).length ≤ fs.length + 1
  | [] => by simp [putF]
  | (k, x) :: r => by
    have ih := length_putF f v r
    rw [show putF f v ((k, x) :: r) = (if k = f then (k, v) :: r else (k, x) :: putF f v r) from rfl]
    by_cases hk : k = f
    · rw [if_pos hk, List.length_cons, List.length_cons]; omega
    · rw [if_neg hk, List.length_cons, List.length_cons]; omega
theorem RelO.some_of {v : V} {o : Option Value} (r : RelO (some v) o) : ∃ u, o = some u ∧ RelV v u := by
  cases o with
  | none => exact (show False from r).elim
  | some u => exact ⟨u, rfl, r⟩
theorem RelO.none_of {o : Option Value} (r : RelO none o) : o = none := by
  cases o with
  | none => rfl
  | some u => exact (show False from r).elim
theorem handed_of {v : V} {u : Value} (r : RelV v u) : PySem.W.handedIn u = true := by
  cases v with
  | non => cases (show u = Value.none from r); rfl
  | bl b => cases (show u = Value.bool b from r); rfl
  | int i => obtain ⟨t, e⟩ := (show ∃ t, u = Value.int i t from r); cases e; rfl
  | str x => obtain ⟨t, e⟩ := (show ∃ t, u = Value.str x t from r); cases e; rfl
  | byt b => obtain ⟨t, e⟩ := (show ∃ t, u = Value.bytes b t from r); cases e; rfl
  | flt b => obtain ⟨t, e⟩ := (show ∃ t, u = Value.float b t from r); cases e; rfl
  | ref a => cases (show u = Value.ref a from r); rfl
  | ty n => cases (show u = Value.type n from r); rfl
section
variable {P : Program} {w : World} {H H' : Hp} {h h' : Heap} {a C dx : Addr} {fs fs' : List (Str × V)}
theorem ins_get (hok : HOk P w H h) (e : H a = some (.ins C dx fs)) : ∃ mA, ObjM h a dx C mA ∧ (∀ f, RelO (fs.lookup f) (mA f)) ∧ PySem.Within mA (fs.map (·.1)) ∧ fs.length ≤ 1000 ∧ H dx = some (.own a) := by
  obtain ⟨d, z, ne, ob, mA, n, r, q⟩ := (show ObjOk P w H h a (.ins C dx fs) from hok a _ e)
  exact ⟨mA, ⟨ob, n, ne⟩, r, q, z, d⟩
end
structure Cls (K : PySem.W.Frag) (C : Addr) : Prop where
  pg : PySem.W.plainGet K C Str.empty = true
  hd : PySem.W.hasDictIn K C = true
  po : PySem.W.plainOver K C = true
  sa : PySem.W.findIn K (.ref C) "__setattr__" = some (some (.builtin "object.__setattr__"))
theorem Cls.get {K : PySem.W.Frag} {C : Addr} (c : Cls K C) (f : Str) : PySem.W.plainGet K C f = true := c.pg
noncomputable def NoAttr (K : PySem.W.Frag) (C : Addr) (f : Str) : Prop := PySem.W.findIn K (.ref C) f = some none
theorem NoAttr.taker {K : PySem.W.Frag} {C : Addr} {f : Str} (n : NoAttr K C f) : PySem.W.takerIn K C f = some none := by
  unfold PySem.W.takerIn
  rw [show PySem.W.findIn K (.ref C) f = some none from n]
  rfl
structure Meth (K : PySem.W.Frag) (C : Addr) (m : Str) (f : Addr) : Prop where
  at_ : PySem.W.findIn K (.ref C) m = some (some (.ref f))
  fn : PySem.W.isFn K (.ref f) = true
  kp : PySem.W.keepIn K (.ref f) = true
section
variable {X : Cx} {pins : List (Addr × Obj)} {σ : St} {H : Hp} {s : Shared} {a C dx : Addr} {fs : List (Str × V)} {f : Str} {v : V} {A : Around} {E : Value → Shared → Prop}
theorem getattr_ok {b : Bool} {Q : Value → Shared → Prop} (I : Inv X pins σ H s) (e : H a = some (.ins C dx fs)) (c : Cls X.K C) (n : NoAttr X.K C f) (l : fs.lookup f = some v)
    (h : ∀ u s', Inv X pins σ H s' → RelV v u → Q u s') : wpAny (model X.prog X.w) A (getAttr (.ref a) f b) Q E s := by
  obtain ⟨mA, O, r, _, _, _⟩ := ins_get I.hok e
  obtain ⟨u, hu, ru⟩ := RelO.some_of (v := v) (o := mA f) (by rw [← l]; exact r f)
  exact get_map I.kIn O (c.get f) c.hd n hu (handed_of ru) (h u _ (I.tok _) ru)
theorem getmeth_ok {m : Str} {g : Addr} {pl : Sem Bool} {Q : Value × List Value → Shared → Prop} (I : Inv X pins σ H s) (e : H a = some (.ins C dx fs)) (c : Cls X.K C) (k : Meth X.K C m g) (l : fs.lookup m = none)
    (h : Q (.ref g, [.ref a]) s) : wpAny (model X.prog X.w) A (getMethod (.ref a) m pl) Q E s := by
  obtain ⟨mA, O, r, _, _, _⟩ := ins_get I.hok e
  have hn : mA m = none := RelO.none_of (by rw [← l]; exact r m)
  exact get_meth I.kIn O (c.get m) k.at_ k.fn hn h
theorem setattr_ok {y : V} {u : Value} {Q : Unit → Shared → Prop} (I : Inv X pins σ H s) (e : H a = some (.ins C dx fs)) (c : Cls X.K C) (n : NoAttr X.K C f) (hl : fs.length < 1000) (ry : RelV y u)
    (h : ∀ s', Inv X pins σ (upd H a (.ins C dx (putF f y fs))) s' → Q () s') : wpAny (model X.prog X.w) A (setAttr (.ref a) f u) Q E s := by
  obtain ⟨mA, O, r, wi, _, ho⟩ := ins_get I.hok e
  have hz : (fs.map (·.1)).length ≤ sizeLine := by rw [List.length_map, sizeLine_eq]; omega
  refine set_map I.kIn O c.sa c.po n.taker c.hd wi hz fun h' O' sb => h _ ?_
  have hd : ∃ o, h'.get? dx = some o := let ⟨o, _, _, e', _⟩ := O'.ns; ⟨o, e'⟩
  refine I.write (x := a) (e := dx) (by rw [e]; exact True.intro) (.inr ho) (fun b q hb z => (sb.2 b hb).trans z) hd ?_
  refine ⟨by rw [upd_ne O.ne]; exact ho, ?_, O.ne, O'.obj, _, O'.ns, fun g => ?_, fun g hg => ?_⟩
  · have := length_putF f y fs; omega
  · show RelO ((putF f y fs).lookup g) (if g = f then some u else mA g)
    rw [lookup_putF]
    by_cases q : g = f
    · rw [if_pos q, if_pos q]; exact ry
    · rw [if_neg q, if_neg q]; exact r g
  · by_cases q : g = f
    · rw [q]; exact (keys_putF f y fs).1
    · refine (keys_putF f y fs).2 g (wi g fun z => hg ?_)
      show (if g = f then some u else mA g) = none
      rw [if_neg q]; exact z
theorem Inv.made (I : Inv X pins σ H s) : Inv X pins σ (upd (upd H s.heap.objs.size (.own (s.heap.objs.size + 1))) (s.heap.objs.size + 1) (.ins C s.heap.objs.size []))
    { s with heap := (s.heap.push PySem.W.emptyDict).push (PySem.W.instObj C s.heap.objs.size) } := by
  have e1 : (s.heap.push PySem.W.emptyDict).get? s.heap.objs.size = some PySem.W.emptyDict := Heap.get?_push_size s.heap rfl
  have e2 : ((s.heap.push PySem.W.emptyDict).push (PySem.W.instObj C s.heap.objs.size)).get? (s.heap.objs.size + 1) = some (PySem.W.instObj C s.heap.objs.size) := by
    have := Heap.get?_push_size (s.heap.push PySem.W.emptyDict) (o := PySem.W.instObj C s.heap.objs.size) rfl
    rwa [Heap.size_push] at this
  have e3 : (s.heap.push PySem.W.emptyDict).Ns s.heap.objs.size (fun _ => none) := ⟨PySem.W.emptyDict, #[], _, e1, rfl, (fun e he => absurd he (by simp)), fun _ => rfl⟩
  have I1 := I.laid (a := s.heap.objs.size) (o := .own (s.heap.objs.size + 1)) (h' := s.heap.push PySem.W.emptyDict) (t' := s.toks) (fun b u q => Heap.get?_push_of_some _ q) (Nat.le_refl _) ⟨_, e1⟩
  refine I1.laid (a := s.heap.objs.size + 1) (o := .ins C s.heap.objs.size []) (t' := s.toks) (fun b u q => Heap.get?_push_of_some _ q) (Nat.le_of_eq (Heap.size_push _ _)) ?_
  have ne : s.heap.objs.size ≠ s.heap.objs.size + 1 := Nat.ne_of_lt (Nat.lt_succ_self _)
  refine ⟨by rw [upd_ne ne, upd_same], Nat.zero_le _, ne, e2, fun _ => none, (Heap.Ns1.of_empty e3).at fun o q => Heap.get?_push_of_some _ q, fun _ => True.intro, fun y hy => absurd rfl hy⟩
theorem attr_of {prog : Program} {w : World} {env : Env} {e : Expr} {f : Str} {pos : Pos} {s : Shared} {Q : Value → Shared → Prop} (hb : attributeBase e f env (eval e env) = eval e env)
    (h : wpAny (model prog w) A (eval e env) (fun o s₁ => wpAny (model prog w) A (getAttr o f true) Q E s₁) E s) : wpAny (model prog w) A (eval (.Attribute e f pos) env) Q E s :=
  Attribute_any_ h (by rw [arm_eval_Attribute, hb])
end
noncomputable def tFld (K : PySem.W.Frag) (ta : TE) (f : Str) : TE := fun σ H Q => ta σ H fun x H1 => ∃ a C dx fs v, x = .ref a ∧ H1 a = some (.ins C dx fs) ∧ Cls K C ∧ NoAttr K C f ∧ fs.lookup f = some v ∧ Q v H1
noncomputable def sFld (K : PySem.W.Frag) (ta tv : TE) (f : Str) : TS := fun D σ H => tv σ H fun y H1 => ta σ H1 fun x H2 => ∃ a C dx fs, x = .ref a ∧ H2 a = some (.ins C dx fs) ∧ Cls K C ∧ NoAttr K C f ∧ fs.length < 1000 ∧
  D.nx σ (upd H2 a (.ins C dx (putF f y fs)))
noncomputable def InOp (X : Cx) (op : Operator) (rd : V → V → Hp → VK → Prop) : Prop :=
  ∀ (pins : List (Addr × Obj)) (s : Shared) (σ : St) (H : Hp) (x y : V) (u v : Value) (Q : VK), Inv X pins σ H s → RelV x u → RelV y v → rd x y H Q → wpAny (model X.prog X.w) X.A (inplaceOp op u v) (EP X pins σ Q) X.xe s
noncomputable def sFldAug (K : PySem.W.Frag) (ta tv : TE) (rd : V → V → Hp → VK → Prop) (f : Str) : TS := fun D σ H => ta σ H fun x H1 => ∃ a C dx fs v, x = .ref a ∧ H1 a = some (.ins C dx fs) ∧ Cls K C ∧ NoAttr K C f ∧ fs.lookup f = some v ∧
  tv σ H1 fun y H2 => rd v y H2 fun z H3 => ∃ dx' fs', H3 a = some (.ins C dx' fs') ∧ fs'.length < 1000 ∧ D.nx σ (upd H3 a (.ins C dx' (putF f z fs')))
section
variable {X : Cx} {o e value : Expr} {f : Str} {pos pos' tpos : Pos} {ta tv : TE}
theorem pe_fld (he : PE X e ta) (hb : attributeBase e f X.env (eval e X.env) = eval e X.env) : PE X (.Attribute e f pos) (tFld X.K ta f) := by
  intro pins s σ H Q I h
  refine attr_of hb (thn (he pins s σ H _ I h) fun u s1 ⟨x, H1, I1, rx, a, C, dx, fs, v, ex, ea, c, n, l, q⟩ => ?_)
  subst ex
  obtain rfl : u = Value.ref a := rx
  exact getattr_ok I1 ea c n l fun u' s2 I2 ru => ⟨v, H1, I2, ru, q⟩
theorem ps_fld (ha : PE X o ta) (hv : PE X value tv) (hs : swapsWith value (some (.Attribute o f pos')) pos.line X.env = pure false) : PS X (.Assign [.Attribute o f pos'] value pos) (sFld X.K ta tv f) := by
  intro pins s σ H D I h
  refine plainObj_wpAny_Assign_Attribute (thn (hv pins s σ H _ I h) fun u s1 ⟨y, H1, I1, ry, q⟩ => thn (ha pins s1 σ H1 _ I1 q) fun ov s2 ⟨x, H2, I2, rx, a, C, dx, fs, ex, ea, c, n, l, q2⟩ => ?_) hs
  subst ex
  obtain rfl : ov = Value.ref a := rx
  exact setattr_ok I2 ea c n l ry fun s3 I3 => ⟨σ, _, I3, q2⟩
theorem ps_fldaug {op : Operator} {rd : V → V → Hp → VK → Prop} (ha : PE X o ta) (hv : PE X value tv) (hop : InOp X op rd) : PS X (.AugAssign (.Attribute o f tpos) op value pos) (sFldAug X.K ta tv rd f) := by
  intro pins s σ H D I h
  refine wpAny_AugAssign_AttributeAny (thn (ha pins s σ H _ I h) fun ov s1 ⟨x, H1, I1, rx, a, C, dx, fs, v, ex, ea, c, n, l, q⟩ => ?_)
  subst ex
  obtain rfl : ov = Value.ref a := rx
  refine getattr_ok I1 ea c n l fun u s2 I2 ru => thn (hv pins s2 σ H1 _ I2 q) fun w3 s3 ⟨y, H2, I3, ry, q3⟩ => thn (hop pins s3 σ H2 v y u w3 _ I3 ru ry q3) fun w4 s4 ⟨z, H3, I4, rz, dx', fs', ea', l', q4⟩ => ?_
  exact setattr_ok I4 ea' c n l' rz fun s5 I5 => ⟨σ, _, I5, q4⟩
noncomputable def rAdd : V → V → Hp → VK → Prop := fun x y H Q => ∃ i j, x = .int i ∧ y = .int j ∧ Q (.int (i + j)) H
theorem in_add : InOp X .Add rAdd := by
  rintro pins s σ H x y u v Q I rx ry ⟨i, j, rfl, rfl, q⟩
  obtain ⟨t, rfl⟩ := (show ∃ t, u = Value.int i t from rx)
  obtain ⟨t', rfl⟩ := (show ∃ t', v = Value.int j t' from ry)
  exact PyProof.Rows.iadd_int ⟨.int (i + j), H, I.tok _, ⟨_, rfl⟩, q⟩
end
section
variable {X : Cx} {pins : List (Addr × Obj)} {σ : St} {H : Hp} {s : Shared} {A : Around} {E : Value → Shared → Prop} {Q : Value → Shared → Prop} {c : Value} {b : Bool}
inductive TyOf (K : PySem.W.Frag) (H : Hp) : V → Value → Prop where
  | non : TyOf K H .non (.type "NoneType")
  | bl (x : Bool) : TyOf K H (.bl x) (.type "bool")
  | int (i : Int) : TyOf K H (.int i) (.type "int")
  | str (x : Str) : TyOf K H (.str x) (.type "str")
  | flt (x : UInt64) : TyOf K H (.flt x) (.type "float")
  | lst {a : Addr} {xs : List V} (e : H a = some (.lst xs)) : TyOf K H (.ref a) (.type "list")
  | frz {a : Addr} {o : Obj} {xs : List V} (e : H a = some (.frz o (.lst xs))) : TyOf K H (.ref a) (.type "list")
  | tup {a : Addr} {xs : List V} (e : H a = some (.tup xs)) : TyOf K H (.ref a) (.type "tuple")
  | dK {a : Addr} {kvs : List (Key × V)} (e : H a = some (.dK kvs)) : TyOf K H (.ref a) (.type "dict")
  | dT {a : Addr} {kvs : List (List NKey × V)} (e : H a = some (.dT kvs)) : TyOf K H (.ref a) (.type "dict")
  | ins {a C dx : Addr} {fs : List (Str × V)} (e : H a = some (.ins C dx fs)) (cl : Cls K C) (ha : PySem.W.findIn K (.ref C) "__class__" = some (some (.builtin "object.__class__")))
      (hn : PySem.W.specialIn K (.builtin "object.__class__") "__get__" = some (some (.builtin "getset_descriptor.__get__"))) (htk : PySem.W.takesIn K (.builtin "object.__class__") = some true)
      (hm : PySem.W.mroIn K C (.type "object") = some true) : TyOf K H (.ref a) (.ref C)
theorem isinst_ok {x : V} {u t : Value} (I : Inv X pins σ H s) (rx : RelV x u) (ty : TyOf X.K H x t) (e : PySem.W.kitOne X.K t c = some b) (h : ∀ tk, Q (.bool b) { s with toks := tk }) :
    wpAny (model X.prog X.w) A (call (.builtin "isinstance") [u, c]) Q E s := by
  cases ty with
  | non => cases (show u = Value.none from rx); exact PySem.W.kia_one PySem.W.kitx_none I.kIn True.intro e (fun z => nomatch z) h
  | bl y => cases (show u = Value.bool y from rx); exact PySem.W.kia_one PySem.W.kitx_bool I.kIn True.intro e (fun z => nomatch z) h
  | int i => obtain ⟨t, q⟩ := (show ∃ t, u = Value.int i t from rx); cases q; exact PySem.W.kia_one PySem.W.kitx_int I.kIn True.intro e (fun z => nomatch z) h
  | str y => obtain ⟨t, q⟩ := (show ∃ t, u = Value.str y t from rx); cases q; exact PySem.W.kia_one PySem.W.kitx_str I.kIn True.intro e (fun z => nomatch z) h
  | flt y => obtain ⟨t, q⟩ := (show ∃ t, u = Value.float y t from rx); cases q; exact PySem.W.kia_one PySem.W.kitx_float I.kIn True.intro e (fun z => nomatch z) h
  | @lst a xs ea =>
    cases (show u = Value.ref a from rx)
    obtain ⟨_, _, n, _, h1⟩ := (show ObjOk X.prog X.w H s.heap a (.lst xs) from I.hok a _ ea)
    exact PySem.W.kia_one PySem.W.kitx_list I.kIn ⟨_, h1, rfl⟩ e (fun z => nomatch z) h
  | @frz a ob xs ea =>
    cases (show u = Value.ref a from rx)
    obtain ⟨_, _, _, n, _, h1⟩ := (show ObjOk X.prog X.w H s.heap a (.frz ob (.lst xs)) from I.hok a _ ea)
    exact PySem.W.kia_one PySem.W.kitx_list I.kIn ⟨_, h1, rfl⟩ e (fun z => nomatch z) h
  | @tup a xs ea =>
    cases (show u = Value.ref a from rx)
    obtain ⟨_, _, _, p⟩ := (show ObjOk X.prog X.w H s.heap a (.tup xs) from I.hok a _ ea)
    obtain ⟨o, h1, h2, _⟩ := p
    exact PySem.W.kia_one PySem.W.kitx_tuple I.kIn ⟨o, h1, h2⟩ e (fun z => nomatch z) h
  | @dK a kvs ea =>
    cases (show u = Value.ref a from rx)
    obtain ⟨_, _, vs, _, p⟩ := (show ObjOk X.prog X.w H s.heap a (.dK kvs) from I.hok a _ ea)
    obtain ⟨o, es, ep, h1, h2, _⟩ := p
    exact PySem.W.kia_one PySem.W.kitx_dict I.kIn ⟨o, h1, h2.1⟩ e (fun z => nomatch z) h
  | @dT a kvs ea =>
    cases (show u = Value.ref a from rx)
    obtain ⟨_, _, xs, _, o, es, ep, h1, h2, _⟩ := (show ObjOk X.prog X.w H s.heap a (.dT kvs) from I.hok a _ ea)
    exact PySem.W.kia_one PySem.W.kitx_dict I.kIn ⟨o, h1, h2.1⟩ e (fun z => nomatch z) h
  | @ins a C dx fs ea cl ha hn htk hm =>
    cases (show u = Value.ref a from rx)
    obtain ⟨mA, O, _⟩ := ins_get I.hok ea
    obtain ⟨od, J, _⟩ := O.look
    exact PySem.W.kia_one (PySem.W.kitx_own (cl.get _) cl.hd ha hn htk hm) I.kIn J e (fun z => nomatch z) h
end
end L2
namespace L2
open PySem PySem.Spec PyProof.Rows
structure Room (k : Nat) (A : Around) : Prop where
  hd : A.handled = none
  dp : A.depth + 3 * k + 5 < recursionLimit
  un : A.units + 16 * k + 200 < cLine
theorem Room.mono {j k : Nat} {A : Around} (r : Room k A) (h : j ≤ k) : Room j A := ⟨r.hd, by have := r.dp; omega, by have := r.un; omega⟩
theorem Room.deeper {k : Nat} {A : Around} (r : Room (k + 1) A) (env : Env) : Room k (A.deeper env) :=
  ⟨r.hd, by have := r.dp; show A.depth + 1 + 3 * k + 5 < _; omega, by have := r.un; show A.units + 3 + 16 * k + 200 < _; omega⟩
theorem make_depth {A : Around} {C : Addr} {us : List Value} {kw : List (Str × Value)} : (A.under (.builtin "type.__call__" ⟨.ref C :: us, kw⟩)).depth = A.depth + 1 := by
  first | rfl | simp [Around.under, Code.weight, Code.isCreation, Code.isGuard, Code.isCaller, Code.frames, Code.isFrame, guardIds]
theorem make_units {A : Around} {C : Addr} {us : List Value} {kw : List (Str × Value)} : (A.under (.builtin "type.__call__" ⟨.ref C :: us, kw⟩)).units = A.units + 1 := by
  first | rfl | simp [Around.under, Code.cUnits, Code.frames, Code.isFrame]
theorem Room.make {k : Nat} {A : Around} (r : Room (k + 1) A) (C : Addr) (us : List Value) (kw : List (Str × Value)) : Room k (A.under (.builtin "type.__call__" ⟨.ref C :: us, kw⟩)) :=
  ⟨r.hd, by have := r.dp; rw [make_depth]; omega, by have := r.un; rw [make_units]; omega⟩
theorem Room.depth {k : Nat} {A : Around} (r : Room k A) : A.depth < recursionLimit := by have := r.dp; omega
theorem Room.units {k : Nat} {A : Around} (r : Room k A) : A.units + 64 < cLine := by have := r.un; omega
noncomputable def tNil : TA := fun _ H Q => Q [] H
noncomputable def tCons (ta : TE) (tr : TA) : TA := fun σ H Q => ta σ H fun x H1 => tr σ H1 fun xs H2 => Q (x :: xs) H2
section
variable {X : Cx} {e : Expr} {es : List Expr} {te : TE} {t : TA} {pos : Pos}
theorem pa_nil : PA X [] tNil := fun _ _ _ _ H Q I h => Calls.spliced_nil ⟨[], H, I, .nil, h⟩
theorem pa_cons (ha : PE X e te) (hr : PA X es t) (hs : starEach (e :: es) X.env = (false, eval e X.env) :: starEach es X.env := by rfl) : PA X (e :: es) (tCons te t) := by
  intro pos pins s σ H Q I h
  rw [hs]
  show wpAny _ _ (spliced ((false, eval e X.env) :: backTo pos (starEach es X.env))) _ _ s
  refine Calls.spliced_cons (thn (ha pins s σ H _ I h) fun u s1 ⟨x, H1, I1, r1, q1⟩ => ?_)
  exact thn (hr pos pins s1 σ H1 _ I1 q1) fun us s2 ⟨xs, H2, I2, r2, q2⟩ => ⟨x :: xs, H2, I2, .cons r1 r2, q2⟩
noncomputable def tTup (t : TA) : TE := fun σ H Q => t σ H fun xs H1 => xs.length ≤ sizeLine ∧ ∀ p, H1 p = none → Q (.ref p) (upd H1 p (.tup xs))
noncomputable def tLst (t : TA) : TE := fun σ H Q => t σ H fun xs H1 => xs.length ≤ sizeLine ∧ ∀ p, H1 p = none → Q (.ref p) (upd H1 p (.lst xs))
theorem pe_tup {x1} (h : PA X es t) : PE X (.Tuple es x1 pos) (tTup t) := by
  intro pins s σ H Q I hq
  refine wpAny_Tuple_spliced (thn (h pos pins s σ H _ I hq) fun us s1 ⟨xs, H1, I1, r, z, q⟩ => ⟨by rw [← r.length]; exact z, ?_⟩)
  have hf : H1 s1.heap.objs.size = none := I1.hok.fresh (Nat.le_refl _)
  refine ⟨.ref s1.heap.objs.size, upd H1 s1.heap.objs.size (.tup xs), I1.laid (t' := s1.toks) (fun b u e => Heap.get?_push_of_some _ e) (Nat.le_refl _) ?_, rfl, q _ hf⟩
  exact ⟨z, us, r, ⟨_, Heap.get?_push_size _ rfl, rfl, _, rfl⟩⟩
theorem pe_lst (h : PA X es t) : PE X (.List es pos) (tLst t) := by
  intro pins s σ H Q I hq
  refine wpAny_List_spliced (thn (h pos pins s σ H _ I hq) fun us s1 ⟨xs, H1, I1, r, z, q⟩ => ⟨by rw [← r.length]; exact z, ?_⟩)
  have hf : H1 s1.heap.objs.size = none := I1.hok.fresh (Nat.le_refl _)
  refine ⟨.ref s1.heap.objs.size, upd H1 s1.heap.objs.size (.lst xs), I1.laid (t' := s1.toks) (fun b u e => Heap.get?_push_of_some _ e) (Nat.le_refl _) ?_, rfl, q _ hf⟩
  exact ⟨z, us, 0, r, Heap.get?_push_size _ rfl⟩
end
noncomputable abbrev Sp := List V → Hp → VK → XK → Prop
noncomputable abbrev CXT := List Env → Hp → Shared → XK → Value → Shared → Prop
structure Env0 (P : Program) (w : World) (K : PySem.W.Frag) (mg : Str → Option Value) (base : Heap) (A : Around) (outer : List Env) (s : Shared) (H : Hp) : Prop where
  frames : A.frames = some outer
  mod : Mod K mg base
  bs : ∀ b o, base.get? b = some o → s.heap.get? b = some o ∧ H b = none
  bsz : base.objs.size ≤ s.heap.objs.size
  funs : s.heap.FunFrames base outer
  frf : ∀ b ∈ frs outer, H b = none
  hok : HOk P w H s.heap
  bare : AllBare s.gens
noncomputable def CE (outer : List Env) (P : Program) (w : World) (H : Hp) (s : Shared) (Q : VK) (u : Value) (s' : Shared) : Prop :=
  ∃ v H', s'.os = s.os ∧ AllBare s'.gens ∧ Un (frs outer) [] H H' s.heap s'.heap ∧ HOk P w H' s'.heap ∧ RelV v u ∧ Q v H'
noncomputable def CR (CX : CXT) (outer : List Env) (P : Program) (w : World) (H : Hp) (s : Shared) (Q : VK) (E : XK) (r : Result) (s' : Shared) : Prop :=
  match r with
  | .ok (.ret u) => CE outer P w H s Q u s'
  | .ok _ => False
  | .error e => CX outer H s E e s'
structure FnOk (P : Program) (w : World) (K : PySem.W.Frag) (mg : Str → Option Value) (base : Heap) (CX : CXT) (k : Nat) (f : Addr) (fd : FuncData) (ps : List Str) (sp : Sp) : Prop where
  len : ∀ vs H Q E, sp vs H Q E → vs.length = ps.length
  run : ∀ (A : Around) (outer : List Env) (s : Shared) (H : Hp) (args : Args) (us : List Value) (vs : List V) (Q : VK) (E : XK), Room k A → Env0 P w K mg base A outer s H → BindsTo s fd args (ps.zip us) → Vals vs us → sp vs H Q E →
    codeAny (model P w) A (.call (.ref f) args) (CR CX outer P w H s Q E) s
theorem Env0.make {P : Program} {w : World} {K : PySem.W.Frag} {mg : Str → Option Value} {base : Heap} {A : Around} {outer : List Env} {s : Shared} {H : Hp} (e : Env0 P w K mg base A outer s H) (C : Addr) (us : List Value) (kw : List (Str × Value)) :
    Env0 P w K mg base (A.under (.builtin "type.__call__" ⟨.ref C :: us, kw⟩)) outer s H := ⟨by first | exact e.frames | (simpa [Around.under, Code.envs, Code.isFrame, pushEnvs] using e.frames), e.mod, e.bs, e.bsz, e.funs, e.frf, e.hok, e.bare⟩
section
variable {X : Cx} {pins : List (Addr × Obj)} {σ : St} {H : Hp} {s s' : Shared}
theorem Inv.env0 (I : Inv X pins σ H s) : Env0 X.prog X.w X.K X.mg X.base X.A X.stack s H :=
  ⟨I.ok.frames, I.ok.mod, I.bs, Nat.le_trans I.ok.bsz I.sz, I.stack, I.stkFree, I.hok, I.bare⟩
theorem Inv.after {Q : VK} {u : Value} (I : Inv X pins σ H s) (h : CE X.stack X.prog X.w H s Q u s') : EP X pins σ Q u s' := by
  obtain ⟨v, H', os, bare, un, hok, r, q⟩ := h
  obtain ⟨hh, g, d, t, os'⟩ := s'
  obtain rfl : os' = s.os := os
  exact ⟨v, H', I.call (h' := hh) (g' := g) (d' := d) (t' := t) (ch := []) un hok bare (fun b z => absurd z (by simp)), r, q⟩
end
noncomputable def tCall (sp : Sp) (dvs : List V) (E : XK) (t : TA) : TE := fun σ H Q => t σ H fun vs H1 => sp (vs ++ dvs) H1 Q E
noncomputable def tMeth (C : Addr) (m : Str) (sp : Sp) (dvs : List V) (E : XK) (ta : TE) (t : TA) : TE := fun σ H Q => ta σ H fun x H1 => ∃ a dx fs, x = .ref a ∧ H1 a = some (.ins C dx fs) ∧ fs.lookup m = none ∧
  t σ H1 fun vs H2 => sp (x :: (vs ++ dvs)) H2 Q E
noncomputable def tMake (C : Addr) (sp : Sp) (dvs : List V) (E : XK) (t : TA) : TE := fun σ H Q => t σ H fun vs H1 => ∀ x dx, H1 x = none → H1 dx = none → dx ≠ x →
  sp (.ref x :: (vs ++ dvs)) (upd (upd H1 dx (.own x)) x (.ins C dx [])) (fun v H2 => v = .non ∧ Q (.ref x) H2) E
noncomputable def Binds (K : PySem.W.Frag) (fd : FuncData) (ps : List Str) (ds : List Value) : Prop :=
  ∀ (s : Shared) (us : List Value), K.In s.heap → (us ++ ds).length = ps.length → BindsTo s fd ⟨us, []⟩ (ps.zip (us ++ ds))
theorem Binds.all {K : PySem.W.Frag} {fd : FuncData} {ps : List Str} (h : ∀ us : List Value, us.length = ps.length → bindArgs fd ⟨us, []⟩ = pure (ps.zip us)) : Binds K fd ps [] := fun s us _ hl => by
  rw [List.append_nil] at hl ⊢
  exact .of_eq (h us hl)
noncomputable def Passes (CX : CXT) (X : Cx) (E : XK) : Prop := ∀ (pins : List (Addr × Obj)) (σ : St) (H : Hp) (s : Shared) (e : Value) (s' : Shared), Inv X pins σ H s → CX X.stack H s E e s' → X.xe e s'
section
variable {X : Cx} {CX : CXT} {k : Nat} {f C : Addr} {fd : FuncData} {ps : List Str} {sp : Sp} {dvs : List V} {ds : List Value} {E : XK} {x m : Str} {p pos apos : Pos} {e o : Expr} {es : List Expr} {ta : TE} {t : TA}
theorem run_fn {pins : List (Addr × Obj)} {σ : St} {H : Hp} {s : Shared} {Q : VK} {us : List Value} {vs : List V} (F : FnOk X.prog X.w X.K X.mg X.base CX k f fd ps sp) (hr : Room k X.A) (hb : Binds X.K fd ps ds) (hd : Vals dvs ds) (hx : Passes CX X E)
    (I : Inv X pins σ H s) (r : Vals vs us) (h : sp (vs ++ dvs) H Q E) : wpAny (model X.prog X.w) X.A (call (.ref f) us) (EP X pins σ Q) X.xe s := by
  have r2 : Vals (vs ++ dvs) (us ++ ds) := r.append hd
  have hl : (us ++ ds).length = ps.length := by rw [← r2.length]; exact F.len _ _ _ _ h
  refine wpAny_call (codeAny_mono (F.run X.A X.stack s H ⟨us, []⟩ (us ++ ds) (vs ++ dvs) Q E hr I.env0 (hb s us I.kIn hl) r2 h) fun r s' hq => ?_)
  cases r with
  | error e => exact hx pins σ H s e s' I hq
  | ok fl =>
    cases fl with
    | ret u => exact I.after hq
    | next => exact False.elim hq
    | brk => exact False.elim hq
    | cont => exact False.elim hq
theorem pe_call (F : FnOk X.prog X.w X.K X.mg X.base CX k f fd ps sp) (hr : Room k X.A) (hg : Gl X x) (hm : X.mg x = some (.ref f)) (hk : PySem.W.keepIn X.K (.ref f) = true) (hb : Binds X.K fd ps ds) (hd : Vals dvs ds) (hx : Passes CX X E)
    (ha : PA X (e :: es) t) (hdb : (x == ("__debug__" : Str)) = false := by decide) (he : starEach (e :: es) X.env = (false, eval e X.env) :: starEach es X.env := by rfl) (hpl : (backTo pos (starEach es X.env)).any (·.1) = false := by rfl) :
    PE X (.Call (.Name x p) (e :: es) [] pos) (tCall sp dvs E t) := by
  intro pins s σ H Q I h
  refine wpAny_Call_Name_kw (ld_glob I hg hm ?_ hdb)
  refine PySem.W.callWith_K (h₀ := X.base) I.ok.mod.kin hk (thn (ha pos pins s σ H _ I h) fun us s1 ⟨vs, H1, I1, r, q⟩ => ⟨I1.kIn, ?_⟩) he hpl
  exact run_fn F hr hb hd hx I1 r q
theorem pe_meth {pl : Sem Bool} (he : PE X o ta) (c : Cls X.K C) (hm : Meth X.K C m f) (F : FnOk X.prog X.w X.K X.mg X.base CX k f fd ps sp) (hr : Room k X.A) (hb : Binds X.K fd ps ds) (hd : Vals dvs ds) (hx : Passes CX X E) (ha : PA X (e :: es) t)
    (hst : starEach (e :: es) X.env = (false, eval e X.env) :: starEach es X.env := by rfl) (hpl : (backTo pos (starEach es X.env)).any (·.1) = false := by rfl)
    (ht : eval (.Call (.Attribute o m apos) (e :: es) [] pos) X.env = (do
      let ov ← eval o X.env
      standAt apos.atName
      let (f, first) ← holding [ov] (getMethod ov m pl)
      callWith pos f first (backTo pos (starEach (e :: es) X.env)) (backToKw pos (keywordEach [] X.env))) := by rfl) :
    PE X (.Call (.Attribute o m apos) (e :: es) [] pos) (tMeth C m sp dvs E ta t) := by
  intro pins s σ H Q I h
  refine PySem.W.methodCall_KW (pl := pl) (thn (he pins s σ H _ I h) fun u s1 ⟨x, H1, I1, rx, a, dx, fs, ex, ea, l, q⟩ => ?_) ht
  subst ex
  obtain rfl : u = Value.ref a := rx
  refine getmeth_ok I1 ea c hm l ?_
  refine PySem.W.callWith_K (first := [.ref a]) (h₀ := X.base) I.ok.mod.kin hm.kp (thn (ha pos pins s1 σ H1 _ I1 q) fun us s2 ⟨vs, H2, I2, r, q2⟩ => ⟨I2.kIn, ?_⟩) hst hpl
  exact run_fn (us := .ref a :: us) (vs := .ref a :: vs) F hr hb hd hx I2 (.cons rfl r) q2
theorem pe_meth0 {pl : Sem Bool} (he : PE X o ta) (c : Cls X.K C) (hm : Meth X.K C m f) (F : FnOk X.prog X.w X.K X.mg X.base CX k f fd ps sp) (hr : Room k X.A) (hb : Binds X.K fd ps ds) (hd : Vals dvs ds) (hx : Passes CX X E)
    (ht : eval (.Call (.Attribute o m apos) [] [] pos) X.env = (do
      let ov ← eval o X.env
      standAt apos.atName
      let (f, first) ← holding [ov] (getMethod ov m pl)
      callWith pos f first (backTo pos (starEach [] X.env)) (backToKw pos (keywordEach [] X.env))) := by rfl) :
    PE X (.Call (.Attribute o m apos) [] [] pos) (tMeth C m sp dvs E ta tNil) := by
  intro pins s σ H Q I h
  refine PySem.W.methodCall_KW (pl := pl) (thn (he pins s σ H _ I h) fun u s1 ⟨x, H1, I1, rx, a, dx, fs, ex, ea, l, q⟩ => ?_) ht
  subst ex
  obtain rfl : u = Value.ref a := rx
  refine getmeth_ok I1 ea c hm l ?_
  exact PySem.W.callWith_K0 (first := [.ref a]) I1.kIn hm.kp (run_fn (us := [.ref a]) (vs := [.ref a]) F hr hb hd hx I1 (.cons rfl .nil) q)
structure Mk (K : PySem.W.Frag) (C f : Addr) : Prop where
  makes : PySem.W.makesIn K C = true
  init : PySem.W.findIn K (.ref C) "__init__" = some (some (.ref f))
  fn : PySem.W.isFn K (.ref f) = true
  kp : PySem.W.keepIn K (.ref C) = true
theorem run_make {pins : List (Addr × Obj)} {σ : St} {H : Hp} {s : Shared} {Q : VK} {us : List Value} {vs : List V} (M : Mk X.K C f) (F : FnOk X.prog X.w X.K X.mg X.base CX k f fd ps sp) (hr : Room (k + 1) X.A) (hb : Binds X.K fd ps ds) (hd : Vals dvs ds)
    (hx : Passes CX X E) (I : Inv X pins σ H s) (r : Vals vs us)
    (h : ∀ x dx, H x = none → H dx = none → dx ≠ x → sp (.ref x :: (vs ++ dvs)) (upd (upd H dx (.own x)) x (.ins C dx [])) (fun v H2 => v = .non ∧ Q (.ref x) H2) E) :
    wpAny (model X.prog X.w) X.A (call (.ref C) us) (EP X pins σ Q) X.xe s := by
  have hq := h (s.heap.objs.size + 1) s.heap.objs.size (I.hok.fresh (Nat.le_succ _)) (I.hok.fresh (Nat.le_refl _)) (Nat.ne_of_lt (Nat.lt_succ_self _))
  have I2 := Inv.made (C := C) I
  have r2 : Vals (V.ref (s.heap.objs.size + 1) :: (vs ++ dvs)) (Value.ref (s.heap.objs.size + 1) :: (us ++ ds)) := .cons rfl (r.append hd)
  have hl : (Value.ref (s.heap.objs.size + 1) :: us ++ ds).length = ps.length := by
    have e := r2.length
    rw [F.len _ _ _ _ hq] at e
    exact e.symm
  refine wpAny_call (make_map (f := f) I.kIn M.makes M.init (beq_iff_eq.mp M.fn) (codeAny_mono (F.run _ X.stack _ _ ⟨Value.ref (s.heap.objs.size + 1) :: us, []⟩ (Value.ref (s.heap.objs.size + 1) :: (us ++ ds)) _ _ E (hr.make C us [])
    (I2.env0.make C us []) (hb _ (Value.ref (s.heap.objs.size + 1) :: us) I2.kIn hl) r2 hq) fun r s' hq' => ?_))
  cases r with
  | error e => exact hx pins σ _ _ e s' I2 hq'
  | ok fl =>
    cases fl with
    | ret u =>
      obtain ⟨v, H', I3, rv, ev, q3⟩ := I2.after hq'
      subst ev
      exact ⟨rv, ⟨V.ref (s.heap.objs.size + 1), H', I3, rfl, q3⟩⟩
    | next => exact False.elim hq'
    | brk => exact False.elim hq'
    | cont => exact False.elim hq'
theorem pe_make (M : Mk X.K C f) (F : FnOk X.prog X.w X.K X.mg X.base CX k f fd ps sp) (hr : Room (k + 1) X.A) (hg : Gl X x) (hm : X.mg x = some (.ref C)) (hb : Binds X.K fd ps ds) (hd : Vals dvs ds) (hx : Passes CX X E)
    (ha : PA X (e :: es) t) (hdb : (x == ("__debug__" : Str)) = false := by decide) (he : starEach (e :: es) X.env = (false, eval e X.env) :: starEach es X.env := by rfl) (hpl : (backTo pos (starEach es X.env)).any (·.1) = false := by rfl) :
    PE X (.Call (.Name x p) (e :: es) [] pos) (tMake C sp dvs E t) := by
  intro pins s σ H Q I h
  refine wpAny_Call_Name_kw (ld_glob I hg hm ?_ hdb)
  refine PySem.W.callWith_K (h₀ := X.base) I.ok.mod.kin M.kp (thn (ha pos pins s σ H _ I h) fun us s1 ⟨vs, H1, I1, r, q⟩ => ⟨I1.kIn, ?_⟩) he hpl
  exact run_make M F hr hb hd hx I1 r q
end
section
variable {X : Cx} {CX : CXT} {k : Nat} {f C : Addr} {fd : FuncData} {ps ks : List Str} {sp : Sp} {E : XK} {x m : Str} {p pos apos kpos : Pos} {e o : Expr} {es : List Expr} {kws : List Keyword} {te ta : TE} {t tk : TA} {nm : Option Str}
variable {g : List Value → List Value → List Value} {gV : List V → List V → List V}
end
structure FnScope (N P : List Str) (sc : Scope) : Prop where
  kind : sc.kind = .function
  co : sc.isCoroutine = false
  gen : sc.isGenerator = false
  nd : N.Nodup
  pre : N.take P.length = P
  par : ∀ x ∈ P, sc.names.lookup x = some .local ∨ sc.names.lookup x = some .cell
  nofree : ∀ y ∈ sc.names, y.2 ≠ .free
theorem bindL_out {kindOf : Str → Option NameKind} {x : Str} : ∀ {binds : List (Str × Value)} {m : Str → Option Value}, (∀ v, (x, v) ∉ binds) → bindL kindOf binds m x = m x
  | [], _, _ => rfl
  | (n, v) :: r, m, h => by
    unfold bindL
    rw [bindL_out fun w hw => h w (List.mem_cons_of_mem _ hw)]
    split
    · have : x ≠ n := by rintro rfl; exact h v List.mem_cons_self
      simp [this]
    · rfl
theorem bindC_out {kindOf : Str → Option NameKind} {x : Str} : ∀ {binds : List (Str × Value)} {m : Str → Option Value}, (∀ v, (x, v) ∉ binds) → bindC kindOf binds m x = m x
  | [], _, _ => rfl
  | (n, v) :: r, m, h => by
    unfold bindC
    rw [bindC_out fun w hw => h w (List.mem_cons_of_mem _ hw)]
    split
    · rfl
    · have : x ≠ n := by rintro rfl; exact h v List.mem_cons_self
      simp [this]
theorem bindL_get {kindOf : Str → Option NameKind} {x : Str} {v : Value} : ∀ {P : List Str} {vs : List Value} {i : Nat} {m : Str → Option Value}, P.Nodup → P[i]? = some x → vs[i]? = some v → kindOf x = some .local →
    bindL kindOf (P.zip vs) m x = some v
  | [], _, _, _, _, h, _, _ => by simp at h
  | _ :: _, [], _, _, _, _, h, _ => by simp at h
  | p :: P, w :: vs, 0, m, nd, h1, h2, hk => by
    simp at h1 h2; subst h1; subst h2
    show bindL kindOf ((p, w) :: P.zip vs) m p = _
    unfold bindL
    rw [bindL_out fun v hv => (List.nodup_cons.mp nd).1 (List.of_mem_zip hv).1, if_pos hk]
    simp
  | p :: P, w :: vs, i + 1, m, nd, h1, h2, hk => by
    show bindL kindOf ((p, w) :: P.zip vs) m x = _
    unfold bindL
    exact bindL_get (i := i) (List.nodup_cons.mp nd).2 (by simpa using h1) (by simpa using h2) hk
theorem bindC_get {kindOf : Str → Option NameKind} {x : Str} {v : Value} : ∀ {P : List Str} {vs : List Value} {i : Nat} {m : Str → Option Value}, P.Nodup → P[i]? = some x → vs[i]? = some v → kindOf x ≠ some .local →
    bindC kindOf (P.zip vs) m x = some v
  | [], _, _, _, _, h, _, _ => by simp at h
  | _ :: _, [], _, _, _, _, h, _ => by simp at h
  | p :: P, w :: vs, 0, m, nd, h1, h2, hk => by
    simp at h1 h2; subst h1; subst h2
    show bindC kindOf ((p, w) :: P.zip vs) m p = _
    unfold bindC
    rw [bindC_out fun v hv => (List.nodup_cons.mp nd).1 (List.of_mem_zip hv).1, if_neg hk]
    simp
  | p :: P, w :: vs, i + 1, m, nd, h1, h2, hk => by
    show bindC kindOf ((p, w) :: P.zip vs) m x = _
    unfold bindC
    exact bindC_get (i := i) (List.nodup_cons.mp nd).2 (by simpa using h1) (by simpa using h2) hk
noncomputable def start (N : List Str) (vs : List V) : St := vs.map some ++ List.replicate (N.length - vs.length) none
noncomputable def cxOf (CX : CXT) (P : Program) (w : World) (K : PySem.W.Frag) (mg : Str → Option Value) (base : Heap) (N : List Str) (qual : Str) (scope : Scope) (f : Addr) (cd : Value) (A : Around) (outer : List Env) (s : Shared) (H : Hp) (E : XK) : Cx where
  prog := P
  w := w
  K := K
  mg := mg
  base := base
  A := A.deeper (envOfC qual scope s.heap.objs.size f cd)
  N := N
  s₀ := s
  H₀ := H
  env := envOfC qual scope s.heap.objs.size f cd
  outer := outer
  stack := envOfC qual scope s.heap.objs.size f cd :: outer
  ex := []
  calm := true
  fn := fun _ => true
  pn := []
  xe := fun e s' => wpAny (model P w) (A.deeper (envOfC qual scope s.heap.objs.size f cd)) (leaving (envOfC qual scope s.heap.objs.size f cd) e) (fun _ s'' => CX outer H s E e s'') (fun e' s'' => CX outer H s E e' s'') s'
theorem cell_has {sc : Scope} {n : Nat} {x : Str} (h : sc.names.lookup x = some .cell) : ∃ c, (cellsFrom n sc.names []).lookup x = some c := by
  have q := PySem.W.cellsFrom_some sc.names n [] (.inl h)
  exact Option.isSome_iff_exists.mp q
theorem inv_start {CX : CXT} {P : Program} {w : World} {K : PySem.W.Frag} {mg : Str → Option Value} {base : Heap} {N ps : List Str} {qual : Str} {scope : Scope} {f : Addr} {cd : Value} {A : Around} {outer : List Env} {s s1 : Shared} {H : Hp} {E : XK} {us : List Value} {vs : List V}
    (S : FnScope N ps scope) (hd : A.handled = none) (e0 : Env0 P w K mg base A outer s H) (hl : vs.length = ps.length) (r : Vals vs us)
    (x : InCallC s s.heap.objs.size (bindL (envOfC qual scope s.heap.objs.size f cd).kindOf (ps.zip us) fun _ => none) (cellsFrom (s.heap.objs.size + 1) scope.names []) (bindC (envOfC qual scope s.heap.objs.size f cd).kindOf (ps.zip us) fun _ => none) s1) :
    Inv (cxOf CX P w K mg base N qual scope f cd A outer s H E) [] (start N vs) H s1 := by
  have hpl : ps.length ≤ N.length := by have := congrArg List.length S.pre; rw [List.length_take] at this; omega
  obtain ⟨h1, tk, rfl, hk⟩ := x.done
  have noA : ∀ b : Addr, b ∉ (cxOf CX P w K mg base N qual scope f cd A outer s H E).ex := fun b z => absurd (show b ∈ ([] : List Addr) from z) (by simp)
  refine ⟨⟨e0.mod, S.kind, rfl, rfl, Nat.le_refl _, fun y z c h1 h2 => ?_, fun y hy => ?_, fun y c _ h => ?_, fun _ => hd, Around.frames_deeper e0.frames, .inr ⟨rfl, rfl⟩, fun b z => absurd z (noA b), e0.bs, e0.bsz, fun b _ _ => noA b, fun b z => absurd z (noA b), e0.funs, e0.frf⟩,
    rfl, e0.bare, Un.kept hk, ⟨_, x.toInCall.ns, fun i y v h1 h2 h3 => ?_⟩, fun y c h => ⟨_, x.cell y c h⟩, e0.hok.fresh (Nat.le_refl _), fun y c h => ?_, fun p hp => absurd (show p ∈ ([] : List (Addr × Obj)) from hp) (by simp), e0.hok.kept hk, ?_⟩
  · exact name_of_addr x.apart (PySem.mem_of_lookup h1) (PySem.mem_of_lookup h2)
  · have hy : scope.names.lookup y = some .cell ∨ scope.names.lookup y = some .free := hy
    rcases hy with hy | hy
    · exact cell_has hy
    · exact absurd rfl (S.nofree _ (PySem.mem_of_lookup hy))
  · exact Nat.le_of_lt (x.above y c (PySem.mem_of_lookup h))
  · have hi : i < vs.length := by
      unfold start at h2
      by_cases hi : i < vs.length
      · exact hi
      · rw [List.getElem?_append_right (by simpa using hi)] at h2
        rw [List.getElem?_replicate] at h2
        split at h2 <;> cases h2
    have ha : vs[i]? = some v := by
      unfold start at h2
      rw [List.getElem?_append_left (by simpa using hi), List.getElem?_map] at h2
      cases e : vs[i]? with
      | none => rw [e] at h2; cases h2
      | some a => rw [e] at h2; cases h2; rfl
    obtain ⟨u, hu, rv⟩ := r.get ha
    have hp : ps[i]? = some y := by
      rw [← S.pre, List.getElem?_take_of_lt (by omega)]; exact h1
    have ndP : ps.Nodup := by rw [← S.pre]; exact S.nd.sublist (List.take_sublist _ _)
    refine ⟨u, rv, ?_⟩
    rcases S.par y (List.mem_of_getElem? hp) with k | k
    · exact .inl ⟨k, bindL_get ndP hp hu k⟩
    · obtain ⟨c, e⟩ := cell_has (n := s.heap.objs.size + 1) k
      refine .inr ⟨.inl k, c, e, ?_⟩
      have q := x.cell y c e
      rw [bindC_get ndP hp hu (by show scope.names.lookup y ≠ _; rw [k]; decide)] at q
      exact q
  · exact e0.hok.fresh (Nat.le_of_lt (x.above y c (PySem.mem_of_lookup h)))
  · unfold start
    show _ = N.length
    rw [List.length_append, List.length_map, List.length_replicate]
    omega
theorem fn_of {CX : CXT} {P : Program} {w : World} {K : PySem.W.Frag} {mg : Str → Option Value} {base : Heap} {k : Nat} {f : Addr} {name qual : Str} {params : Arguments} {body : List Stmt} {scope : Scope} {dV kV doc pm cdv ct oc : Value} {an od : Option Addr}
    {osl : Array (Option Value)} {N ps : List Str} {sp : Sp} (lk : K.lookup f = some ⟨oc, od, .func (PySem.W.fnOf name qual params body scope dV kV doc pm an cdv ct), osl⟩) (hcd : PySem.W.codeIn K cdv qual = true) (S : FnScope N ps scope)
    (len : ∀ vs H Q E, sp vs H Q E → vs.length = ps.length)
    (hbody : ∀ (A : Around) (outer : List Env) (s : Shared) (H : Hp) (vs : List V) (Q : VK) (E : XK), Room k (A.deeper (envOfC qual scope s.heap.objs.size f cdv)) → sp vs H Q E →
      ∃ t, PSs (cxOf CX P w K mg base N qual scope f cdv A outer s H E) body t ∧ t { nx := fun _ H' => Q .non H', rt := Q } (start N vs) H) :
    FnOk P w K mg base CX (k + 1) f (PySem.W.fnOf name qual params body scope dV kV doc pm an cdv ct) ps sp := by
  refine ⟨len, fun A outer s H args us vs Q E hr e0 hb r hsp => ?_⟩
  have hl := len _ _ _ _ hsp
  have KX : K.In s.heap := e0.mod.kin.keeps fun b o e => (e0.bs b o e).1
  have lim : s.heap.NoLimit := e0.mod.nolimit.keeps fun b o e => (e0.bs b o e).1
  have hkind : ∀ y ∈ ps.zip us, scope.names.lookup y.1 = some .local ∨ (scope.names.lookup y.1 = some .cell ∧ ((cellsFrom (s.heap.objs.size + 1) scope.names []).lookup y.1).isSome = true) := fun ⟨n, v⟩ hy => by
    rcases S.par n (List.of_mem_zip hy).1 with q | q
    · exact .inl q
    · exact .inr ⟨q, PySem.W.cellsFrom_some _ _ _ (.inl q)⟩
  refine codeAny_call_function hr.depth (KX _ _ lk) rfl S.co S.gen rfl (PySem.W.codeRec_of KX hcd) (hb _ _ _ _ ?_)
  refine wpAny_newFunctionEnv_cells S.kind hkind fun env he s1 x => ?_
  subst he
  refine ⟨lim.keeps x.toInCall.keep, codeAny_func ?_⟩
  obtain ⟨t, ht, hq⟩ := hbody A outer s H vs Q E (hr.deeper _) hsp
  have I : Inv (cxOf CX P w K mg base N qual scope f cdv A outer s H E) [] (start N vs) H s1 := inv_start S hr.hd e0 hl r x
  refine wpAny_mono (ht [] s1 (start N vs) H _ I hq) (fun fl s' hs => ?_) fun e s' hs => hs
  have fin : ∀ {σ' : St} {H' : Hp} {v : V} {u : Value}, Inv (cxOf CX P w K mg base N qual scope f cdv A outer s H E) [] σ' H' s' → RelV v u → Q v H' → CE outer P w H s Q u s' :=
    fun {σ' H' v u} J rv q => ⟨v, H', J.os, J.bare, J.base, J.hok, rv, q⟩
  cases fl with
  | ret u =>
    obtain ⟨v, σ', H', J, rv, q⟩ := hs
    exact fin J rv q
  | next =>
    obtain ⟨σ', H', J, q⟩ := hs
    exact fin (v := V.non) (u := Value.none) J rfl q
  | brk =>
    obtain ⟨_, _, _, q⟩ := hs
    exact False.elim q
  | cont =>
    obtain ⟨_, _, _, q⟩ := hs
    exact False.elim q
end L2
namespace L2
open PySem PySem.Spec PyProof.Rows
section
variable {X : Cx} {x : Str} {p pos : Pos} {e : Expr} {es : List Expr} {t : TA} {id T : String} {r : List V → Hp → VK → Prop}
noncomputable def tCB (r : List V → Hp → VK → Prop) (t : TA) : TE := fun σ H Q => t σ H fun vs H1 => r vs H1 Q
theorem pe_callB (hc : CallR X (.builtin id) r) (hg : Gl X x) (hm : X.mg x = none) (hv : bootBuiltins x = some (.builtin id)) (ha : PA X (e :: es) t) (hn : x ≠ "__name__" := by decide) (hdb : (x == ("__debug__" : Str)) = false := by decide)
    (he : starEach (e :: es) X.env = (false, eval e X.env) :: starEach es X.env := by rfl) (hpl : (backTo pos (starEach es X.env)).any (·.1) = false := by rfl) : PE X (.Call (.Name x p) (e :: es) [] pos) (tCB r t) := by
  intro pins s σ H Q I h
  refine wpAny_Call_Name_kw (ld_blt I hg hm hv ?_ hn hdb)
  exact PyProof.Rows.callWith_builtin1 (thn (ha pos pins s σ H _ I h) fun us s1 ⟨vs, H1, I1, r1, q1⟩ => hc pins s1 σ H1 vs us Q I1 r1 q1) he hpl
theorem pe_callTy (hc : CallR X (.type T) r) (hg : Gl X x) (hm : X.mg x = none) (hv : bootBuiltins x = some (.type T)) (ha : PA X (e :: es) t) (hn : x ≠ "__name__" := by decide) (hdb : (x == ("__debug__" : Str)) = false := by decide)
    (he : starEach (e :: es) X.env = (false, eval e X.env) :: starEach es X.env := by rfl) (hpl : (backTo pos (starEach es X.env)).any (·.1) = false := by rfl) : PE X (.Call (.Name x p) (e :: es) [] pos) (tCB r t) := by
  intro pins s σ H Q I h
  refine wpAny_Call_Name_kw (ld_blt I hg hm hv ?_ hn hdb)
  exact PyProof.Rows.callWith_type1 (thn (ha pos pins s σ H _ I h) fun us s1 ⟨vs, H1, I1, r1, q1⟩ => hc pins s1 σ H1 vs us Q I1 r1 q1) he hpl
end
end L2
namespace HT
open PySem PyProof.Rows
section
open PySem.SeqAt
open PySem.AutoSeq1 (wpAny_loadPart')
open PySem.MeetsSeq PySem.MeetsSeq2 PySem.MeetsSeq3
end
section
variable {prog : Program} {w : World} {A : Around} {E : Value → Shared → Prop} {s : Shared}
noncomputable def sIx (n d : Nat) : Option Int → Nat
  | none => d
  | some v => if v < 0 then (v + (n : Int)).toNat else min v.toNat n
theorem sIx_none (n d : Nat) : sIx n d none = d := rfl
theorem sIx_nat (n d k : Nat) : sIx n d (some (k : Int)) = min k n := by
  show (if (k : Int) < 0 then ((k : Int) + (n : Int)).toNat else min (k : Int).toNat n) = min k n
  rw [if_neg (by omega), Int.toNat_natCast]
theorem sIx_le (n d : Nat) (hd : d ≤ n) (o : Option Int) : sIx n d o ≤ n := by
  cases o with
  | none => exact hd
  | some v =>
    show (if v < 0 then (v + (n : Int)).toNat else min v.toNat n) ≤ n
    by_cases hv : v < 0
    · rw [if_pos hv]; omega
    · rw [if_neg hv]; exact Nat.min_le_right _ _
end
end HT
namespace L2
open PySem PySem.Spec PyProof.Rows
noncomputable abbrev TO := St → Hp → (Option Int → Hp → Prop) → Prop
noncomputable def PO (X : Cx) (e : Option Expr) (t : TO) : Prop :=
  ∀ (pins : List (Addr × Obj)) (s : Shared) (σ : St) (H : Hp) (Q : Option Int → Hp → Prop), Inv X pins σ H s → t σ H Q →
    wpAny (model X.prog X.w) X.A (evalPart e X.env) (fun u s' => ∃ o H', Inv X pins σ H' s' ∧ IsPart u o ∧ Q o H') X.xe s
noncomputable def tNoPart : TO := fun _ H Q => Q none H
noncomputable def tPart (t : TE) : TO := fun σ H Q => t σ H fun x H1 => ∃ i, x = .int i ∧ Q (some i) H1
section
variable {X : Cx} {e : Expr} {te : TE} {lo hi : Option Expr} {tl th : TO} {pos p2 : Pos}
theorem po_none : PO X none tNoPart := by
  intro pins s σ H Q I h
  rw [evalPart_none]
  exact wpAny_pure ⟨none, H, I, .none, h⟩
theorem po_some (h : PE X e te) : PO X (some e) (tPart te) := by
  intro pins s σ H Q I hw
  rw [evalPart_some]
  refine thn (h pins s σ H _ I hw) fun u s1 ⟨x, H1, I1, r1, q1⟩ => ?_
  obtain ⟨i, rfl, q⟩ := q1
  obtain ⟨t, rfl⟩ := r1
  exact ⟨some i, H1, I1, .int i t, q⟩
noncomputable def SlR (X : Cx) (r : V → Option Int → Option Int → Hp → VK → Prop) : Prop :=
  ∀ (pins : List (Addr × Obj)) (s : Shared) (σ : St) (H : Hp) (x : V) (v vl vu : Value) (lo hi : Option Int) (sl : Addr) (Q : VK), Inv X pins σ H s → RelV x v → s.heap.IsSliceOf sl vl vu .none → IsPart vl lo → IsPart vu hi → r x lo hi H Q →
    ∃ T id, typeLookup (.type T) "__getitem__" = pure (some (.builtin id)) ∧ s.TypeIs v T ∧ wpAny (model X.prog X.w) X.A (getItem v (.ref sl)) (EP X pins σ Q) X.xe s
noncomputable def tSl (r : V → Option Int → Option Int → Hp → VK → Prop) (te : TE) (tl th : TO) : TE := fun σ H Q => te σ H fun x H1 => tl σ H1 fun l H2 => th σ H2 fun u H3 => r x l u H3 Q
theorem pe_slice {r : V → Option Int → Option Int → Hp → VK → Prop} (hr : SlR X r) (he : PE X e te) (hl : PO X lo tl) (hu : PO X hi th) : PE X (.Subscript e (.Slice lo hi none p2) pos) (tSl r te tl th) := by
  intro pins s σ H Q I h
  refine Subscript_ (thn (he pins s σ H _ I h) fun v s1 ⟨x, H1, I1, r1, q1⟩ => ?_)
  refine wpAny_Slice (thn (hl pins s1 σ H1 _ I1 q1) fun vl s2 ⟨l, H2, I2, pl, q2⟩ => thn (hu pins s2 σ H2 _ I2 q2) fun vu s3 ⟨u, H3, I3, pu, q3⟩ => ?_)
  rw [evalPart_none]
  refine wpAny_pure ?_
  have I4 : Inv X pins σ H3 { s3 with heap := s3.heap.push { cls := .type "slice", data := .fields #[vl, vu, .none] } } := I3.kept (t' := s3.toks) fun b ob q => Heap.get?_push_of_some _ q
  obtain ⟨T, id, hT, ht, hg⟩ := hr pins { s3 with heap := s3.heap.push { cls := .type "slice", data := .fields #[vl, vu, .none] } } σ H3 x v vl vu l u s3.heap.objs.size Q I4 r1 (Heap.IsSliceOf.new ..) pl pu q3
  show wpAny (model X.prog X.w) X.A (subscriptTail e (.Slice lo hi none p2) v (.ref s3.heap.objs.size)) (EP X pins σ Q) X.xe { s3 with heap := s3.heap.push { cls := .type "slice", data := .fields #[vl, vu, .none] } }
  exact tail_any (ops := [.ref s3.heap.objs.size, v]) ht hT hg (by with_unfolding_all rfl)
noncomputable def cutV (xs : List V) (lo hi : Option Int) : List V := (xs.drop (HT.sIx xs.length 0 lo)).take (HT.sIx xs.length xs.length hi - HT.sIx xs.length 0 lo)
theorem cutV_length (xs : List V) (lo hi : Option Int) : (cutV xs lo hi).length ≤ xs.length := by
  unfold cutV
  rw [List.length_take, List.length_drop]
  omega
end
end L2
namespace L2
open PySem PySem.Spec PyProof.Rows
noncomputable def ixN (n : Nat) (i : Int) : Option Nat := if 0 ≤ i then (if i < n then some i.toNat else none) else if -(n : Int) ≤ i then some (i + n).toNat else none
noncomputable def atI {α : Type} (xs : List α) (i : Int) : Option α := (ixN xs.length i).bind fun j => xs[j]?
theorem ixN_seq {n : Nat} {i : Int} {j : Nat} (h : ixN n i = some j) : seqIndex? i n = some j ∧ j < n ∧ -(n : Int) ≤ i ∧ i < n := by
  unfold ixN at h
  by_cases h0 : 0 ≤ i
  · rw [if_pos h0] at h
    by_cases h1 : i < n
    · rw [if_pos h1] at h
      have e : i.toNat = j := Option.some.inj h
      exact ⟨by rw [seqIndex_of h0 h1, e], by omega, by omega, h1⟩
    · rw [if_neg h1] at h; cases h
  · rw [if_neg h0] at h
    by_cases h1 : -(n : Int) ≤ i
    · rw [if_pos h1] at h
      have e : (i + n).toNat = j := Option.some.inj h
      exact ⟨by rw [seqIndex_neg (by omega) h1, e], by omega, h1, by omega⟩
    · rw [if_neg h1] at h; cases h
theorem atI_get {α : Type} {xs : List α} {i : Int} {v : α} (h : atI xs i = some v) : ∃ j, seqIndex? i xs.length = some j ∧ xs[j]? = some v ∧ j < xs.length ∧ -(xs.length : Int) ≤ i ∧ i < xs.length := by
  unfold atI at h
  cases e : ixN xs.length i with
  | none => rw [e] at h; cases h
  | some j =>
    rw [e] at h
    obtain ⟨h1, h2, h3, h4⟩ := ixN_seq e
    exact ⟨j, h1, h, h2, h3, h4⟩
theorem atI_nat {α : Type} {xs : List α} {j : Nat} {v : α} (h : xs[j]? = some v) : atI xs (j : Int) = some v := by
  have hj : j < xs.length := (List.getElem?_eq_some_iff.mp h).1
  have e : ixN xs.length (j : Int) = some j := by
    unfold ixN
    rw [if_pos (by omega), if_pos (by omega)]; simp
  unfold atI; rw [e]; exact h
theorem atI_last {α : Type} (xs : List α) (v : α) : atI (xs ++ [v]) (-1) = some v := by
  have hl : (xs ++ [v]).length = xs.length + 1 := by simp
  have e : ixN (xs ++ [v]).length (-1) = some xs.length := by
    unfold ixN
    rw [hl, if_neg (by decide), if_pos (by omega)]
    congr 1
    omega
  unfold atI
  rw [e]
  show (xs ++ [v])[xs.length]? = some v
  simp
noncomputable def PlainIx (b : Expr) : Prop := ∀ o i, subscripted b false o i = operate [o, i] (getItem o i)
noncomputable def IxR (X : Cx) (r : R2) : Prop :=
  ∀ (value slice : Expr) (pins : List (Addr × Obj)) (s : Shared) (σ : St) (H : Hp) (x y : V) (v u : Value) (Q : VK), Inv X pins σ H s → RelV x v → RelV y u → r x y H Q →
    subscripted slice false v u = operate [v, u] (getItem v u) → wpAny (model X.prog X.w) X.A (subscriptTail value slice v u) (EP X pins σ Q) X.xe s
noncomputable def MtR (X : Cx) (id : String) (r : V → List V → Hp → VK → Prop) : Prop :=
  ∀ (pins : List (Addr × Obj)) (s : Shared) (σ : St) (H : Hp) (x : V) (xs : List V) (v : Value) (us : List Value) (Q : VK), Inv X pins σ H s → RelV x v → Vals xs us → r x xs H Q →
    wpAny (model X.prog X.w) X.A (call (.builtin id) (v :: us)) (EP X pins σ Q) X.xe s
section
variable {X : Cx} {a b : Expr} {ta tb : TE} {pos : Pos}
theorem pe_ix {r : R2} (hr : IxR X r) (ha : PE X a ta) (hb : PE X b tb) (hs : PlainIx b) : PE X (.Subscript a b pos) (tOp r ta tb) := by
  intro pins s σ H Q I h
  exact Subscript_ (binT ha hb I h fun v u s2 x y H2 I2 rx ry q => hr a b pins s2 σ H2 x y v u Q I2 rx ry q (hs _ _))
noncomputable def rIxL (K : PySem.W.Frag) : R2 := fun x y H Q => ∃ p xs i v, x = .ref p ∧ y = .int i ∧ SqL K H p xs ∧ atI xs i = some v ∧ Q v H
noncomputable def rIxT (K : PySem.W.Frag) : R2 := fun x y H Q => ∃ p xs i v, x = .ref p ∧ y = .int i ∧ SqT K H p xs ∧ atI xs i = some v ∧ Q v H
noncomputable def rIxS : R2 := fun x y H Q => ∃ z i c, x = .str z ∧ y = .int i ∧ z.length ≤ sizeLine ∧ atI z.cps.toList i = some c ∧ Q (.str ⟨#[c]⟩) H
theorem ix_list : IxR X (rIxL X.K) := by
  intro value slice pins s σ H x y v u Q I rx ry h hs
  obtain ⟨p, xs, i, z, rfl, rfl, hq, he, q⟩ := h
  cases rx
  obtain ⟨t, rfl⟩ := ry
  obtain ⟨its, r, pl, hz⟩ := I.list hq
  obtain ⟨j, h1, h2, h3, h4, h5⟩ := atI_get he
  obtain ⟨w, ew, rw'⟩ := r.get h2
  have hl := r.length
  have hn := line63
  have fin : EP X pins σ Q w s := ⟨z, H, I, rw', q⟩
  by_cases h0 : 0 ≤ i
  · have hj : i.toNat = j := by
      rw [seqIndex_of h0 h5] at h1
      exact Option.some.inj h1
    exact item_listR pl.isList h0 (by omega) (by rw [hj]; simpa using ew) fin hs
  · have hj : (i + (its.toArray.size : Int)).toNat = j := by
      rw [seqIndex_neg (by omega) h4] at h1
      rw [List.size_toArray, ← hl]
      exact Option.some.inj h1
    exact subscriptTail_builtinR (x := w) pl.isList.typeIs slot_list_getitem.lookup
      (wpAny_getItem_list_neg (Q := fun r s' => r = w ∧ EP X pins σ Q r s') pl.isList (by omega) (by rw [List.size_toArray] <;> omega) (by omega) (by rw [hj]; simpa using ew) ⟨rfl, fin⟩) hs
theorem ix_tup : IxR X (rIxT X.K) := by
  intro value slice pins s σ H x y v u Q I rx ry h hs
  obtain ⟨p, xs, i, z, rfl, rfl, hq, he, q⟩ := h
  cases rx
  obtain ⟨t, rfl⟩ := ry
  obtain ⟨its, r, pl, hz⟩ := I.tuple hq
  obtain ⟨j, h1, h2, h3, h4, h5⟩ := atI_get he
  obtain ⟨w, ew, rw'⟩ := r.get h2
  have hl := r.length
  have hn := line63
  have fin : EP X pins σ Q w s := ⟨z, H, I, rw', q⟩
  exact subscriptTail_builtinR (x := w) pl.typeIs slot_tuple_getitem.lookup
    (getItem_tuple (j := j) (Q := fun r s' => r = w ∧ EP X pins σ Q r s') pl (by omega) (by omega) (by rw [List.size_toArray, ← hl]; exact h1) (by simpa using ew) ⟨rfl, fin⟩) hs
theorem ix_str : IxR X rIxS := by
  intro value slice pins s σ H x y v u Q I rx ry h hs
  obtain ⟨z, i, c, rfl, rfl, hz, he, q⟩ := h
  obtain ⟨t, rfl⟩ := rx
  obtain ⟨t', rfl⟩ := ry
  obtain ⟨j, h1, h2, h3, h4, h5⟩ := atI_get he
  have hl : z.cps.toList.length = z.length := by simp [Str.length]
  rw [hl] at h1 h4 h5
  have hn := line63
  exact tail_any (typeIs_str s z t) slot_str_getitem.lookup (getItem_str (c := c) (by
    have e1 : decide (i < -(2 ^ 63 : Int)) = false := decide_eq_false (by omega)
    have e2 : decide (i ≥ 2 ^ 63) = false := decide_eq_false (by omega)
    rw [e1, e2, Bool.or_false]) (by rw [h1]; simpa using h2) ⟨.str ⟨#[c]⟩, H, I.tok _, ⟨_, rfl⟩, q⟩) hs
theorem slice_bounds (lo hi : Option Int) (n : Nat) : (sliceBounds lo hi none n).1 = ((HT.sIx n 0 lo : Nat) : Int) ∧ (sliceBounds lo hi none n).2.1 = ((HT.sIx n n hi : Nat) : Int) ∧ (sliceBounds lo hi none n).2.2 = 1 := by
  refine ⟨?_, ?_, rfl⟩
  · cases lo with
    | none => simp [sliceBounds, HT.sIx]
    | some i =>
      simp only [sliceBounds, HT.sIx, Option.getD_none, show (1 : Int) > 0 by decide, if_true]
      by_cases h : i < 0
      · simp only [h, if_true] <;> omega
      · simp only [h, if_false] <;> omega
  · cases hi with
    | none => simp [sliceBounds, HT.sIx]
    | some i =>
      simp only [sliceBounds, HT.sIx, Option.getD_none, show (1 : Int) > 0 by decide, if_true]
      by_cases h : i < 0
      · simp only [h, if_true] <;> omega
      · simp only [h, if_false] <;> omega
theorem slicePick_cut (its : List Value) (lo hi : Option Int) : slicePick its.toArray lo hi none = ((its.drop (HT.sIx its.length 0 lo)).take (HT.sIx its.length its.length hi - HT.sIx its.length 0 lo)).toArray := by
  obtain ⟨h1, h2, h3⟩ := slice_bounds lo hi its.toArray.size
  unfold slicePick
  rw [h1, h2, h3]
  simp only [sliceRange_one, pick_run, List.size_toArray] <;> rfl
noncomputable def rSlL (K : PySem.W.Frag) : V → Option Int → Option Int → Hp → VK → Prop := fun x lo hi H Q => ∃ a xs, x = .ref a ∧ SqL K H a xs ∧ ∀ p, H p = none → Q (.ref p) (upd H p (.lst (cutV xs lo hi)))
theorem sl_list : SlR X (rSlL X.K) := by
  intro pins s σ H x v vl vu lo hi sl Q I rx hs pl pu h
  obtain ⟨a, xs, rfl, hx, q⟩ := h
  cases rx
  obtain ⟨its, r, ht, hz⟩ := I.list hx
  have hlen := r.length
  refine ⟨"list", _, slot_list_getitem.lookup, ht.isList.typeIs, ?_⟩
  refine wpAny_getItem_list_slice ht.isList hs pl pu .none (by simp) ?_ (by rw [List.size_toArray] <;> omega)
  rw [slicePick_cut, ← hlen]
  refine ⟨.ref s.heap.objs.size, _, I.laid (t' := s.toks) (o := .lst (cutV xs lo hi)) (fun b ob q => Heap.get?_push_of_some _ q) (Nat.le_refl _) ?_, rfl, q _ (I.hok.fresh (Nat.le_refl _))⟩
  exact ⟨Nat.le_trans (cutV_length xs lo hi) hz, _, 0, (r.drop (HT.sIx xs.length 0 lo)).take (HT.sIx xs.length xs.length hi - HT.sIx xs.length 0 lo), Heap.get?_push_size _ rfl⟩
noncomputable def flatV : V → Bool
  | .non => true
  | .bl _ => true
  | .int _ => true
  | .str _ => true
  | _ => false
noncomputable def eqV : V → V → Bool
  | .non, .non => true
  | .bl a, .bl b => a == b
  | .bl a, .int b => (if a then 1 else 0) == b
  | .int a, .bl b => a == (if b then 1 else 0)
  | .int a, .int b => a == b
  | .str a, .str b => a == b
  | _, _ => false
theorem eqAt_V {A : Around} {s : Shared} {y x : V} {u v : Value} (ry : RelV y u) (rx : RelV x v) (fy : flatV y = true) (fx : flatV x = true) : SeqAt.EqAt A s u v (eqV y x) := by
  cases y with
  | non =>
    cases ry
    cases x with
    | non => cases rx; exact SeqAt.EqAt.same _
    | bl b => cases rx; exact SeqAt.EqAt.none_bool b
    | int b => obtain ⟨t, rfl⟩ := rx; exact SeqAt.EqAt.none_int b t
    | str b => obtain ⟨t, rfl⟩ := rx; exact SeqAt.EqAt.none_str b t
    | _ => exact absurd (show false = true from fx) Bool.false_ne_true
  | bl a =>
    cases ry
    cases x with
    | non => cases rx; exact SeqAt.EqAt.bool_none a
    | bl b => cases rx; exact SeqAt.EqAt.bool_bool a b
    | int b => obtain ⟨t, rfl⟩ := rx; exact SeqAt.EqAt.bool_int a b t
    | str b => obtain ⟨t, rfl⟩ := rx; exact SeqAt.EqAt.bool_str a b t
    | _ => exact absurd (show false = true from fx) Bool.false_ne_true
  | int a =>
    obtain ⟨t', rfl⟩ := ry
    cases x with
    | non => cases rx; exact SeqAt.EqAt.int_none a t'
    | bl b => cases rx; exact SeqAt.EqAt.int_bool a t' b
    | int b => obtain ⟨t, rfl⟩ := rx; exact SeqAt.EqAt.int_int a t' b t
    | str b => obtain ⟨t, rfl⟩ := rx; exact SeqAt.EqAt.int_str a t' b t
    | _ => exact absurd (show false = true from fx) Bool.false_ne_true
  | str a =>
    obtain ⟨t', rfl⟩ := ry
    cases x with
    | non => cases rx; exact SeqAt.EqAt.str_none a t'
    | bl b => cases rx; exact SeqAt.EqAt.str_bool a t' b
    | int b => obtain ⟨t, rfl⟩ := rx; exact SeqAt.EqAt.str_int a t' b t
    | str b => obtain ⟨t, rfl⟩ := rx; exact SeqAt.EqAt.str_str a t' b t
    | _ => exact absurd (show false = true from fx) Bool.false_ne_true
  | _ => exact absurd (show false = true from fy) Bool.false_ne_true
noncomputable def eqU (x : V) (u : Value) : Bool := match u with
  | .none => eqV .non x
  | .bool b => eqV (.bl b) x
  | .int i _ => eqV (.int i) x
  | .str z _ => eqV (.str z) x
  | _ => false
theorem eqU_of {x y : V} {u : Value} (r : RelV y u) (f : flatV y = true) : eqU x u = eqV y x := by
  cases y with
  | non => cases r; rfl
  | bl b => cases r; rfl
  | int i => obtain ⟨t, rfl⟩ := r; rfl
  | str z => obtain ⟨t, rfl⟩ := r; rfl
  | _ => exact absurd (show false = true from f) Bool.false_ne_true
theorem any_eqU {x : V} : ∀ {xs : List V} {us : List Value}, Vals xs us → xs.all flatV = true → us.any (eqU x) = xs.any fun y => eqV y x
  | _, _, .nil, _ => rfl
  | y :: xs, u :: us, .cons r t, f => by
    rw [List.all_cons, Bool.and_eq_true] at f
    rw [List.any_cons, List.any_cons, eqU_of r f.1, any_eqU t f.2]
theorem mem_eqAt {A : Around} {s : Shared} {x : V} {v : Value} (rx : RelV x v) (fx : flatV x = true) : ∀ {xs : List V} {us : List Value}, Vals xs us → xs.all flatV = true → ∀ u ∈ us, SeqAt.EqAt A s u v (eqU x u)
  | _, _, .nil, _ => fun u hu => by cases hu
  | y :: xs, u :: us, .cons r t, f => fun u' hu => by
    rw [List.all_cons, Bool.and_eq_true] at f
    rcases List.mem_cons.mp hu with rfl | hu
    · rw [eqU_of r f.1]; exact eqAt_V r rx f.1 fx
    · exact mem_eqAt rx fx t f.2 u' hu
noncomputable def inV (x : V) (xs : List V) : Bool := xs.any fun y => eqV y x
noncomputable def rIn (K : PySem.W.Frag) (neg : Bool) : R2 := fun x y H Q => ∃ p xs, y = .ref p ∧ (SqL K H p xs ∨ SqT K H p xs) ∧ flatV x = true ∧ xs.all flatV = true ∧ Q (.bl (if neg then !inV x xs else inV x xs)) H
theorem op_in_seq : OpR X (compareOp .In) (rIn X.K false) := by
  intro pins s σ H x y v u Q I rx ry h
  obtain ⟨p, xs, rfl, hq, fx, fs, q⟩ := h
  cases ry
  rcases hq with hq | hq
  · obtain ⟨its, r, pl, hz⟩ := I.list hq
    refine SeqAt.in_listAt (eqU x) pl.isList (fun w hw => mem_eqAt rx fx r fs w (by simpa using hw)) ⟨.bl _, H, I, rfl, ?_⟩
    rw [show its.toArray.any (eqU x) = its.any (eqU x) by simp, any_eqU r fs]
    exact q
  · obtain ⟨its, r, pl, hz⟩ := I.tuple hq
    refine SeqAt.in_tupleAt (eqU x) pl (fun w hw => mem_eqAt rx fx r fs w (by simpa using hw)) ⟨.bl _, H, I, rfl, ?_⟩
    rw [show its.toArray.any (eqU x) = its.any (eqU x) by simp, any_eqU r fs]
    exact q
theorem call_len_seq : CallR X (.builtin "len") (fun xs H Q => ∃ p ys, xs = [.ref p] ∧ (SqL X.K H p ys ∨ SqT X.K H p ys) ∧ Q (.int ys.length) H) := by
  intro pins s σ H xs us Q I r h
  obtain ⟨p, ys, rfl, hq, q⟩ := h
  obtain ⟨u, rfl, rx⟩ := vals1 r
  cases rx
  have hn := line63
  rcases hq with hq | hq
  · obtain ⟨its, r', pl, hz⟩ := I.list hq
    have hlen := r'.length
    exact Calls.call_len_list pl.isList (by simp only [List.size_toArray] <;> omega) ⟨.int ys.length, H, I.tok _, ⟨s.toks + 1, by rw [List.size_toArray, hlen]⟩, q⟩
  · obtain ⟨its, r', pl, hz⟩ := I.tuple hq
    have hlen := r'.length
    exact len_tuple pl (by simp only [List.size_toArray] <;> omega) ⟨.int ys.length, H, I.tok _, ⟨s.toks + 1, by rw [List.size_toArray, hlen]⟩, q⟩
theorem call_len_str : CallR X (.builtin "len") (fun xs H Q => ∃ z, xs = [.str z] ∧ z.length ≤ sizeLine ∧ Q (.int z.length) H) := by
  intro pins s σ H xs us Q I r h
  obtain ⟨z, rfl, hz, q⟩ := h
  obtain ⟨u, rfl, t, rfl⟩ := vals1 r
  have hn := line63
  exact len_str (by omega) ⟨.int z.length, H, I.tok _, ⟨_, rfl⟩, q⟩
theorem call_list_of : CallR X (.type "list") (fun xs H Q => ∃ p ys, xs = [.ref p] ∧ (SqL X.K H p ys ∨ SqT X.K H p ys) ∧ ∀ l, H l = none → Q (.ref l) (upd H l (.lst ys))) := by
  intro pins s σ H xs us Q I r h
  obtain ⟨p, ys, rfl, hq, q⟩ := h
  obtain ⟨u, rfl, rx⟩ := vals1 r
  cases rx
  have fin : ∀ (its : List Value), Vals ys its → ys.length ≤ sizeLine → ∀ (h' : Heap) (c' : Nat), (∀ b o', s.heap.get? b = some o' → h'.get? b = some o') →
      h'.get? s.heap.objs.size = some { cls := .type "list", dict := none, data := .seq its.toArray c', slots := #[] } → EP X pins σ Q (.ref s.heap.objs.size) { s with heap := h' } := fun its r' hz h' c' kp e =>
    ⟨.ref s.heap.objs.size, _, I.laid (t' := s.toks) kp (Nat.le_refl _) (show ObjOk X.prog X.w _ h' _ (.lst ys) from ⟨hz, its, c', r', e⟩), rfl, q _ (I.hok.fresh (Nat.le_refl _))⟩
  rcases hq with hq | hq
  · obtain ⟨its, r', pl, hz⟩ := I.list hq
    have hlen := r'.length
    obtain ⟨o, ho, hc, n, hd⟩ := pl.isList
    exact call_list_seq p (.inl rfl) ho hc hd (fun h' c' kp e => fin its r' hz h' c' kp e) (by simp only [List.size_toArray] <;> omega)
  · obtain ⟨its, r', pl, hz⟩ := I.tuple hq
    have hlen := r'.length
    obtain ⟨o, ho, hc, n, hd⟩ := pl
    exact call_list_seq p (.inr rfl) ho hc hd (fun h' c' kp e => fin its r' hz h' c' kp e) (by simp only [List.size_toArray] <;> omega)
theorem call_tuple_of : CallR X (.type "tuple") (fun xs H Q => ∃ p ys, xs = [.ref p] ∧ ((SqL X.K H p ys ∧ ∀ l, H l = none → Q (.ref l) (upd H l (.tup ys))) ∨ (SqT X.K H p ys ∧ Q (.ref p) H))) := by
  intro pins s σ H xs us Q I r h
  obtain ⟨p, ys, rfl, h⟩ := h
  obtain ⟨u, rfl, rx⟩ := vals1 r
  cases rx
  rcases h with ⟨hq, q⟩ | ⟨hq, q⟩
  · obtain ⟨its, r', pl, hz⟩ := I.list hq
    have hlen := r'.length
    refine call_tuple_list pl.isList (fun h' kp => ?_) (by simp only [List.size_toArray] <;> omega)
    have I1 : Inv X pins σ H { s with heap := h' } := I.kept (t' := s.toks) kp
    have I2 : Inv X pins σ (upd H h'.objs.size (.tup ys)) { s with heap := h'.push { cls := .type "tuple", data := .seq its.toArray } } :=
      I1.laid (t' := s.toks) (fun b o e => Heap.get?_push_of_some _ e) (Nat.le_refl _) (show ObjOk X.prog X.w _ _ _ (.tup ys) from ⟨hz, its, r', IsTup.new _ _⟩)
    exact ⟨.ref h'.objs.size, _, I2, rfl, q _ (I1.hok.fresh (Nat.le_refl _))⟩
  · obtain ⟨its, r', pl, hz⟩ := I.tuple hq
    exact call_tuple_same pl ⟨.ref p, H, I, rfl, q⟩
noncomputable def tyV (K : PySem.W.Frag) (T : String) (x : V) (H : Hp) : Prop := match x with
  | .str _ => T = "str"
  | .int _ => T = "int"
  | .ref p => (T = "list" ∧ ∃ xs, SqL K H p xs) ∨ (T = "tuple" ∧ ∃ o, K.lookup p = some o ∧ o.cls = .type "tuple" ∧ o.dict = none) ∨
      (T = "dict" ∧ ((∃ kvs, H p = some (.dK kvs)) ∨ ∃ kvs, H p = some (.dT kvs))) ∨ (T = "set" ∧ ∃ S n, H p = some (.set S n))
  | _ => False
theorem tyV_is {pins : List (Addr × Obj)} {σ : St} {H : Hp} {s : Shared} {T : String} {x : V} {v : Value} (I : Inv X pins σ H s) (r : RelV x v) (ty : tyV X.K T x H) :
    s.TypeIs v T ∧ ∀ a, v = .ref a → ∃ ob, s.heap.get? a = some ob ∧ ob.dict = none := by
  cases x with
  | str z =>
    obtain ⟨t, rfl⟩ := r
    cases (show T = "str" from ty)
    exact ⟨typeIs_str s z t, fun _ e => nomatch e⟩
  | int i =>
    obtain ⟨t, rfl⟩ := r
    cases (show T = "int" from ty)
    exact ⟨typeIs_int s i t, fun _ e => nomatch e⟩
  | ref p =>
    cases r
    rcases ty with ⟨rfl, xs, hq⟩ | ⟨rfl, o, hk, hc, hd⟩ | ⟨rfl, hk⟩ | ⟨rfl, S, n, hk⟩
    · obtain ⟨its, _, pl, _⟩ := I.list hq
      refine ⟨pl.isList.typeIs, fun a e => ?_⟩
      cases e
      obtain ⟨o, n, e, c, hd, _⟩ := pl
      exact ⟨o, e, hd⟩
    · refine ⟨⟨o, I.kIn p o hk, hc⟩, fun a e => ?_⟩
      cases e
      exact ⟨o, I.kIn _ o hk, hd⟩
    · have z : ∃ o, s.heap.get? p = some o ∧ o.ExactDict := by
        rcases hk with ⟨kvs, hk⟩ | ⟨kvs, hk⟩
        · obtain ⟨_, _, _, _, o, _, _, e, ex, _⟩ := I.hok p _ hk
          exact ⟨o, e, ex⟩
        · obtain ⟨_, _, _, _, o, _, _, e, ex, _⟩ := I.hok p _ hk
          exact ⟨o, e, ex⟩
      obtain ⟨o, e, ex⟩ := z
      refine ⟨⟨o, e, ex.1⟩, fun a e2 => ?_⟩
      cases e2
      exact ⟨o, e, ex.2.1⟩
    · obtain ⟨o, _, _, _, e, ex, _⟩ := I.hok p _ hk
      refine ⟨⟨o, e, ex.1⟩, fun a e2 => ?_⟩
      cases e2
      exact ⟨o, e, ex.2.1⟩
  | _ => exact False.elim ty
noncomputable def tBM0 (K : PySem.W.Frag) (T : String) (r : V → List V → Hp → VK → Prop) (to : TE) : TE := fun σ H Q => to σ H fun x H1 => tyV K T x H1 ∧ r x [] H1 Q
noncomputable def tBM (K : PySem.W.Frag) (T : String) (r : V → List V → Hp → VK → Prop) (to : TE) (t : TA) : TE := fun σ H Q => to σ H fun x H1 => tyV K T x H1 ∧ t σ H1 fun xs H2 => r x xs H2 Q
variable {o e : Expr} {es : List Expr} {to : TE} {t : TA} {name : Str} {apos cpos : Pos} {T id : String} {r : V → List V → Hp → VK → Prop}
theorem pe_bm0 (pa : PlainAttrs T) (slot : Slot T name id) (hty : typeOf (.builtin id) = pure (.type "method_descriptor")) (hm : MtR X id r) (ho : PE X o to)
    (hbase : attributeBase o name X.env (eval o X.env) = eval o X.env := by rfl) (hline : (apos.endLine == cpos.line) = true := by rfl) : PE X (.Call (.Attribute o name apos) [] [] cpos) (tBM0 X.K T r to) := by
  intro pins s σ H Q I h
  refine wpAny_Call_method0_late hbase hline (thn (ho pins s σ H _ I h) fun v s1 ⟨x, H1, I1, r1, ty, q1⟩ => ?_)
  obtain ⟨h1, h2⟩ := tyV_is I1 r1 ty
  exact ⟨T, id, pa, slot, hty, h1, h2, Calls.callWith_builtin rfl (PySem.evalArgs_none (hm pins s1 σ H1 x [] v [] Q I1 r1 .nil q1))⟩
theorem pe_bm (pa : PlainAttrs T) (slot : Slot T name id) (hty : typeOf (.builtin id) = pure (.type "method_descriptor")) (hm : MtR X id r) (ho : PE X o to) (ha : PA X (e :: es) t)
    (hbase : attributeBase o name X.env (eval o X.env) = eval o X.env := by rfl)
    (hfew : ((backTo cpos (starEach (e :: es) X.env)).all (fun x => !x.1) && (backToKw cpos (keywordEach [] X.env)).all (fun x => x.1.isSome)
      && decide ((e :: es).length + ([] : List Keyword).length + (if ([] : List Keyword).isEmpty then 0 else 1) < 30)) = true := by rfl)
    (hline : (apos.endLine == cpos.line) = true := by rfl) (hs : starEach (e :: es) X.env = (false, eval e X.env) :: starEach es X.env := by rfl) (hplain : (backTo cpos (starEach es X.env)).any (·.1) = false := by rfl) :
    PE X (.Call (.Attribute o name apos) (e :: es) [] cpos) (tBM X.K T r to t) := by
  intro pins s σ H Q I h
  refine wpAny_Call_method_late hbase hfew hline rfl (thn (ho pins s σ H _ I h) fun v s1 ⟨x, H1, I1, r1, ty, q1⟩ => ?_)
  obtain ⟨h1, h2⟩ := tyV_is I1 r1 ty
  refine ⟨T, id, pa, slot, hty, h1, h2, ?_⟩
  have hA := ha cpos pins s1 σ H1 _ I1 q1
  rw [hs] at hA ⊢
  refine Calls.callWith_builtin (by show (false || (backTo cpos (starEach es X.env)).any (·.1)) = false; rw [hplain] <;> rfl) (Calls.evalArgs_plain ?_)
  exact thn hA fun us s2 ⟨vs, H2, I2, r2, q2⟩ => hm pins s2 σ H2 x vs v us Q I2 r1 r2 q2
end
end L2
namespace L2
open PySem PySem.Spec PyProof.Rows
noncomputable def MtM (X : Cx) (id : String) (r : V → List V → Hp → VK → Prop) : Prop :=
  ∀ (pins : List (Addr × Obj)) (s : Shared) (σ : St) (H : Hp) (x : V) (xs : List V) (v : Value) (us : List Value) (Q : VK), Inv X pins σ H s → RelV x v → Vals xs us → r x xs H Q →
    wpAny (model X.prog X.w) X.A (call (.builtin id) (v :: us)) (EP X pins σ Q) X.xe s
theorem Vals.one : ∀ {x : V} {us : List Value}, Vals [x] us → ∃ u, us = [u] ∧ RelV x u
  | _, _, .cons r .nil => ⟨_, rfl, r⟩
theorem Vals.zero : ∀ {us : List Value}, Vals [] us → us = []
  | _, .nil => rfl
theorem Vals.dropLast {xs : List V} {us : List Value} (h : Vals xs us) : Vals xs.dropLast us.dropLast := by
  induction h with
  | nil => exact .nil
  | cons r t ih =>
    cases t with
    | nil => exact .nil
    | cons q t' => exact .cons r ih
theorem erase_last {α : Type} (l : List α) : l.eraseIdx (l.length - 1) = l.dropLast := by
  induction l with
  | nil => rfl
  | cons a r ih =>
    cases r with
    | nil => rfl
    | cons b r =>
      have e : (a :: b :: r).length - 1 = ((b :: r).length - 1) + 1 := by
        have h1 : (a :: b :: r).length = r.length + 2 := rfl
        have h2 : (b :: r).length = r.length + 1 := rfl
        omega
      rw [e, List.eraseIdx_cons_succ, ih]
      all_goals rfl
section
variable {X : Cx} {pins : List (Addr × Obj)} {σ : St} {H : Hp} {s : Shared} {l b : Addr} {xs ys zs : List V}
theorem Inv.lset {its its' : List Value} {n : Nat} {f : Array Value → Array Value} {t' : Nat} (I : Inv X pins σ H s) (hH : H l = some (.lst xs))
    (e : s.heap.get? l = some { cls := .type "list", data := .seq its.toArray n }) (hf : f its.toArray = its'.toArray) (hv : Vals ys its') (hz : ys.length ≤ sizeLine) :
    Inv X pins σ (upd H l (.lst ys)) { s with heap := s.heap.update l (Obj.mapSeq f), toks := t' } := by
  have q := PySem.IsL.update e f
  rw [hf] at q
  refine I.write (x := l) (e := l) (by rw [hH]; exact trivial) (.inl rfl) (fun b' u hb hu => (Heap.get?_update_other s.heap (Obj.mapSeq f) (Ne.symm hb)).trans hu) ⟨_, q⟩ ?_
  exact ⟨hz, its', _, hv, q⟩
theorem Inv.lnew {its : List Value} {t' : Nat} (I : Inv X pins σ H s) (hv : Vals ys its) (hz : ys.length ≤ sizeLine) :
    Inv X pins σ (upd H s.heap.objs.size (.lst ys)) { s with heap := s.heap.push { cls := .type "list", data := .seq its.toArray }, toks := t' } :=
  I.laid (fun _ _ q => Heap.get?_push_of_some _ q) (Nat.le_refl _) ⟨hz, its, 0, hv, Heap.get?_push_size _ rfl⟩
theorem Inv.fresh (I : Inv X pins σ H s) : H s.heap.objs.size = none := I.hok.fresh (Nat.le_refl _)
theorem Inv.lstM (I : Inv X pins σ H s) (hH : H l = some (.lst xs)) : xs.length ≤ sizeLine ∧ ∃ (its : List Value) (n : Nat), Vals xs its ∧ xs.length = its.length ∧ s.heap.get? l = some { cls := .type "list", data := .seq its.toArray n } := by
  obtain ⟨z, its, n, r, e⟩ := I.hok l _ hH
  exact ⟨z, its, n, r, r.length, e⟩
end
section
variable {X : Cx}
noncomputable def rAppend : V → List V → Hp → VK → Prop := fun x vs H Q => ∃ l xs y, x = .ref l ∧ vs = [y] ∧ H l = some (.lst xs) ∧ xs.length < sizeLine ∧ Q .non (upd H l (.lst (xs ++ [y])))
theorem mt_append : MtM X "list.append" rAppend := by
  intro pins s σ H x vs v us Q I rx rv h
  obtain ⟨l, xs, y, rfl, rfl, hH, hz, q⟩ := h
  cases rx
  obtain ⟨u, rfl, ru⟩ := rv.one
  obtain ⟨z, its, n, r, hl, e⟩ := I.lstM hH
  refine call_meets F.slot_list_append ⟨_, e, rfl⟩ F.entry_list_append (F.args_list_append_2 _ _) (PySem.list_append l its.toArray n u (by rw [List.size_toArray]; omega)) ⟨e, ?_⟩
  refine ⟨.non, _, I.lset (its' := its ++ [u]) hH e (by simp) (r.append (.cons ru .nil)) ?_, rfl, q⟩
  rw [List.length_append, List.length_singleton]
  omega
noncomputable def rPop : V → List V → Hp → VK → Prop := fun x vs H Q => ∃ l xs y, x = .ref l ∧ vs = [] ∧ H l = some (.lst xs) ∧ xs[xs.length - 1]? = some y ∧ Q y (upd H l (.lst xs.dropLast))
theorem mt_pop : MtM X "list.pop" rPop := by
  intro pins s σ H x vs v us Q I rx rv h
  obtain ⟨l, xs, y, rfl, rfl, hH, hy, q⟩ := h
  cases rx
  have hus := rv.zero
  subst hus
  obtain ⟨z, its, n, r, hl, e⟩ := I.lstM hH
  obtain ⟨u, hu, ru⟩ := r.get hy
  have hy' : its.toArray[its.toArray.size - 1]? = some u := by
    show its.toArray[its.length - 1]? = some u
    rw [← Array.getElem?_toList, ← hl]
    exact hu
  refine call_meets F.slot_list_pop ⟨_, e, rfl⟩ F.entry_list_pop (F.args_list_pop_1 _) (MeetsSeq.list_pop_last l its.toArray n u hy' (by rw [List.size_toArray]; omega)) ⟨e, ?_⟩
  refine ⟨y, _, I.lset (its' := its.dropLast) hH e ?_ r.dropLast ?_, ru, q⟩
  · show its.toArray.eraseIdxIfInBounds (its.toArray.size - 1) = its.dropLast.toArray
    rw [List.size_toArray, List.eraseIdxIfInBounds_toArray, erase_last]
  · rw [List.length_dropLast]
    omega
noncomputable def rCat : R2 := fun x y H Q => ∃ l b xs zs, x = .ref l ∧ y = .ref b ∧ H l = some (.lst xs) ∧ H b = some (.lst zs) ∧ xs.length + zs.length ≤ sizeLine ∧ ∀ p, H p = none → Q (.ref p) (upd H p (.lst (xs ++ zs)))
theorem op_cat : OpR X (binaryOp .Add) rCat := by
  intro pins s σ H x y v u Q I rx ry h
  obtain ⟨l, b, xs, zs, rfl, rfl, hH, hB, hz, q⟩ := h
  cases rx
  cases ry
  obtain ⟨z, its, n, r, hl, e⟩ := I.lstM hH
  obtain ⟨z2, its2, n2, r2, hl2, e2⟩ := I.lstM hB
  refine PySem.P.add_list e e2 ?_ (by rw [List.size_toArray, List.size_toArray]; omega)
  have ea : its.toArray ++ its2.toArray = (its ++ its2).toArray := by simp
  rw [ea]
  exact ⟨.ref _, _, I.lnew (t' := s.toks) (r.append r2) (by rw [List.length_append]; omega), rfl, q _ I.fresh⟩
end
section
variable {prog : Program} {w : World} {A : Around} {E : Value → Shared → Prop} {s : Shared}
set_option maxRecDepth 100000 in
end
section
variable {X : Cx}
end
end L2
namespace L2
open PySem PySem.Spec PyProof.Rows
section
variable {κ : Type} [DecidableEq κ]
noncomputable def valV (kvs : List (κ × V)) (k : κ) : Option V := (kvs.find? fun kv => decide (kv.1 = k)).map (·.2)
noncomputable def putK (kvs : List (κ × V)) (k : κ) (v : V) : List (κ × V) :=
  if (kvs.any fun kv => decide (kv.1 = k)) = true then kvs.map (fun kv => if kv.1 = k then (kv.1, v) else kv) else kvs ++ [(k, v)]
noncomputable def dropK (kvs : List (κ × V)) (k : κ) : List (κ × V) := kvs.filter fun kv => decide (kv.1 ≠ k)
theorem valV_pos {p : κ × V} {r : List (κ × V)} {k : κ} (e : p.1 = k) : valV (p :: r) k = some p.2 := by simp [valV, List.find?_cons, e]
theorem valV_neg {p : κ × V} {r : List (κ × V)} {k : κ} (e : ¬ p.1 = k) : valV (p :: r) k = valV r k := by simp [valV, List.find?_cons, e]
theorem length_putK (kvs : List (κ × V)) (k : κ) (v : V) : (putK kvs k v).length ≤ kvs.length + 1 := by
  unfold putK
  split
  · rw [List.length_map]; omega
  · rw [List.length_append, List.length_cons, List.length_nil]; omega
theorem KV.val {kvs : List (κ × V)} {vs : List (κ × Value)} (r : KV kvs vs) (k : κ) : RelO (valV kvs k) (valueAt vs k) := by
  unfold KV at r
  induction r with
  | nil => exact True.intro
  | @cons p q ps qs h t ih =>
    obtain ⟨h1, h2⟩ := h
    by_cases e : p.1 = k
    · have e' : q.1 = k := h1.symm.trans e
      have b : valueAt (q :: qs) k = some q.2 := by simp [valueAt, List.find?_cons, e']
      rw [valV_pos e, b]; exact h2
    · have e' : ¬ q.1 = k := fun z => e (h1.trans z)
      have b : valueAt (q :: qs) k = valueAt qs k := by simp [valueAt, List.find?_cons, e']
      rw [valV_neg e, b]; exact ih
theorem KV.any {kvs : List (κ × V)} {vs : List (κ × Value)} (r : KV kvs vs) (k : κ) : (kvs.any fun kv => decide (kv.1 = k)) = vs.any fun kv => decide (kv.1 = k) := by
  unfold KV at r
  induction r with
  | nil => rfl
  | cons h t ih => rw [List.any_cons, List.any_cons, ih, h.1]
theorem KV.repl {kvs : List (κ × V)} {vs : List (κ × Value)} (r : KV kvs vs) (k : κ) {y : V} {u : Value} (ry : RelV y u) :
    KV (kvs.map fun kv => if kv.1 = k then (kv.1, y) else kv) (vs.map fun kv => if kv.1 = k then (kv.1, u) else kv) := by
  unfold KV at r ⊢
  induction r with
  | nil => exact .nil
  | @cons p q ps qs h t ih =>
    rw [List.map_cons, List.map_cons]
    refine .cons ?_ ih
    obtain ⟨h1, h2⟩ := h
    by_cases e : p.1 = k
    · rw [if_pos e, if_pos (h1.symm.trans e)]; exact ⟨h1, ry⟩
    · rw [if_neg e, if_neg (fun z => e (h1.trans z))]; exact ⟨h1, h2⟩
theorem KV.put {kvs : List (κ × V)} {vs : List (κ × Value)} (r : KV kvs vs) (k : κ) {y : V} {u : Value} (ry : RelV y u) : KV (putK kvs k y) (stored vs k u) := by
  unfold putK stored
  rw [r.any k]
  by_cases e : (vs.any fun kv => decide (kv.1 = k)) = true
  · rw [if_pos e, if_pos e]; exact r.repl k ry
  · rw [if_neg e, if_neg e]; exact Paired.snoc r ⟨rfl, ry⟩
end
theorem kV_is {P : Program} {w : World} {k : Key} {u : Value} (r : RelV (kV k) u) : (mixKind P w).is k u = true := by
  cases k with
  | inl i => obtain ⟨t, e⟩ := (show ∃ t, u = Value.int i t from r); subst e; exact mixKind_int P w i t
  | inr x => obtain ⟨t, e⟩ := (show ∃ t, u = Value.str x t from r); subst e; exact mixKind_str P w x t
theorem nV_is {P : Program} {w : World} {k : NKey} {u : Value} (r : RelV (nV k) u) : (optKind P w).is k u = true := by
  cases k with
  | none => cases (show u = Value.none from r); rfl
  | some k => exact kV_is (P := P) (w := w) (k := k) r
theorem items_are {P : Program} {w : World} : ∀ {ks : List NKey} {us : List Value}, Vals (ks.map nV) us → ItemsAre (optKind P w) ks us
  | [], _, r => by rw [List.map_nil] at r; cases r; exact .nil
  | k :: ks, _, r => by
    rw [List.map_cons] at r
    cases r with
    | cons h t => exact .cons (nV_is h) (items_are t)
noncomputable abbrev KT (H : Hp) : List (List NKey × V) → List (List NKey × Addr × Value) → Prop := Paired fun p q => p.1 = q.1 ∧ H q.2.1 = some (.tup (p.1.map nV)) ∧ RelV p.2 q.2.2
theorem KT.val {H : Hp} {kvs : List (List NKey × V)} {xs : List (List NKey × Addr × Value)} (r : KT H kvs xs) (k : List NKey) : RelO (valV kvs k) ((atKey xs k).map (·.2)) := by
  induction r with
  | nil => exact True.intro
  | @cons p q ps qs h t ih =>
    obtain ⟨h1, _, h2⟩ := h
    by_cases e : p.1 = k
    · have e' : q.1 = k := h1.symm.trans e
      have b : atKey (q :: qs) k = some q.2 := by simp [atKey, List.find?_cons, e']
      rw [valV_pos e, b]; exact h2
    · have e' : ¬ q.1 = k := fun z => e (h1.trans z)
      have b : atKey (q :: qs) k = atKey qs k := by simp [atKey, List.find?_cons, e']
      rw [valV_neg e, b]; exact ih
section
variable {P : Program} {w : World} {H : Hp} {h : Heap} {a : Addr}
theorem rd_of {u : HO} (ok : HOk P w H h) (e : Rd H a u) : ObjOk P w H h a u := e.ok ok
theorem dk_rd {kvs : List (Key × V)} (ok : HOk P w H h) (e : Rd H a (.dK kvs)) : kvs.length ≤ sizeLine ∧ (a == sysModules) = false ∧ ∃ vs, KV kvs vs ∧ h.DictOf (mixKind P w) a vs :=
  show ObjOk P w H h a (.dK kvs) from rd_of ok e
theorem dk_of {kvs : List (Key × V)} (ok : HOk P w H h) (e : H a = some (.dK kvs)) : kvs.length ≤ sizeLine ∧ (a == sysModules) = false ∧ ∃ vs, KV kvs vs ∧ h.DictOf (mixKind P w) a vs := dk_rd ok (.inl e)
theorem key_of {ks : List NKey} (ok : HOk P w H h) (e : H a = some (.tup (ks.map nV))) : (tupleKind (optKind P w)).is h ks a := by
  obtain ⟨_, its, r, o, h1, h2, n, h3⟩ := (show ObjOk P w H h a (.tup (ks.map nV)) from ok a _ e)
  exact ⟨o, its.toArray, n, h1, h2, h3, by simpa using items_are r⟩
theorem dt_rd {kvs : List (List NKey × V)} (ok : HOk P w H h) (e : Rd H a (.dT kvs)) : kvs.length ≤ sizeLine ∧ (a == sysModules) = false ∧
    ∃ xs, KT H kvs xs ∧ h.DictOfH (tupleKind (optKind P w)) a xs := by
  obtain ⟨z, y, xs, r, o, es, ep, h1, h2, h3, h4, h5⟩ := (show ObjOk P w H h a (.dT kvs) from rd_of ok e)
  refine ⟨z, y, xs, r, o, es, ep, h1, h2, h3, h4, fun x hx => ?_, h5⟩
  have all : ∀ {l : List (List NKey × V)} {m : List (List NKey × Addr × Value)}, KT H l m → ∀ x ∈ m, (tupleKind (optKind P w)).is h x.1 x.2.1 := by
    intro l m q
    induction q with
    | nil => intro x hx; exact nomatch hx
    | @cons p q ps qs hq t ih =>
      intro x hx
      rcases List.mem_cons.mp hx with e | hx
      · subst e
        exact key_of ok (by rw [← hq.1]; exact hq.2.1)
      · exact ih x hx
  exact all r x hx
end
noncomputable def DGet (H : Hp) (a : Addr) (y : V) (r : Option V) : Prop :=
  (∃ kvs k, Rd H a (.dK kvs) ∧ y = kV k ∧ r = valV kvs k) ∨ ∃ kvs k b, Rd H a (.dT kvs) ∧ y = .ref b ∧ H b = some (.tup (k.map nV)) ∧ r = valV kvs k
noncomputable def DPut (H : Hp) (a : Addr) (y v : V) (H' : Hp) : Prop :=
  (∃ kvs k, H a = some (.dK kvs) ∧ y = kV k ∧ kvs.length < sizeLine ∧ H' = upd H a (.dK (putK kvs k v))) ∨
  ∃ kvs k b, H a = some (.dT kvs) ∧ y = .ref b ∧ H b = some (.tup (k.map nV)) ∧ kvs.length < sizeLine ∧ H' = upd H a (.dT (putK kvs k v))
theorem DGet.k {H : Hp} {a : Addr} {kvs : List (Key × V)} {k : Key} (e : H a = some (.dK kvs)) : DGet H a (kV k) (valV kvs k) := .inl ⟨kvs, k, .inl e, rfl, rfl⟩
section
variable {X : Cx} {pins : List (Addr × Obj)} {σ : St} {H : Hp} {s : Shared} {a : Addr} {y v : V} {u r : Value} {o : Option V} {A : Around} {E : Value → Shared → Prop}
theorem Inv.big (I : Inv X pins σ H s) : sysModules < s.heap.objs.size := by
  have h : mainGlobals < s.heap.objs.size := (I.mod.glob.keeps I.bk).lt
  exact Nat.lt_trans (by decide) h
theorem d_getItem {Q : Value → Shared → Prop} (hu : A.units + 1 < cLine) (I : Inv X pins σ H s) (g : DGet H a y (some v)) (ry : RelV y u) (h : ∀ w' s', Inv X pins σ H s' → RelV v w' → Q w' s') :
    wpAny (model X.prog X.w) A (getItem (.ref a) u) Q E s := by
  rcases g with ⟨kvs, k, e, ey, l⟩ | ⟨kvs, k, b, e, ey, eb, l⟩
  · subst ey
    obtain ⟨z, hd, vs, rel, dd⟩ := dk_rd I.hok e
    obtain ⟨w', hw, rw'⟩ := RelO.some_of (v := v) (o := valueAt vs k) (by rw [l]; exact rel.val k)
    exact wpAny_getItem_of (kV_is ry) dd.mapOf hw (h w' _ (I.tok _) rw')
  · subst ey
    cases (show u = Value.ref b from ry)
    obtain ⟨z, hd, xs, rel, dd⟩ := dt_rd I.hok e
    obtain ⟨w', hw, rw'⟩ := RelO.some_of (v := v) (o := (atKey xs k).map (·.2)) (by rw [l]; exact rel.val k)
    obtain ⟨p, hp, hp2⟩ := Option.map_eq_some_iff.mp hw
    refine wpAny_getItem_heap (tupleKind_room_in1 hu) (key_of I.hok eb) dd hp ?_
    rw [hp2]
    exact h w' _ (I.tok _) rw'
theorem d_write {h' : Heap} {t' : Nat} {ob : HO} (I : Inv X pins σ H s) (mu : Mut (H a)) (hs : Heap.SameBut a s.heap h') (he : ∃ q, h'.get? a = some q) (new : ObjOk X.prog X.w (upd H a ob) h' a ob) :
    Inv X pins σ (upd H a ob) { s with heap := h', toks := t' } :=
  I.write (x := a) (e := a) mu (.inl rfl) (fun b q hb z => (hs.2 b hb).trans z) he new
theorem dk_new {P : Program} {w : World} {H' : Hp} {h' : Heap} {kvs : List (Key × V)} {vs : List (Key × Value)} (z : kvs.length ≤ sizeLine) (hd : (a == sysModules) = false) (rel : KV kvs vs) (dd : h'.DictOf (mixKind P w) a vs) :
    ObjOk P w H' h' a (.dK kvs) := ⟨z, hd, vs, rel, dd⟩
end
section
variable {X : Cx} {pins : List (Addr × Obj)} {σ : St} {H : Hp} {s : Shared} {a : Addr} {kvs : List (Key × V)} {k : Key} {u : Value} {A : Around} {E : Value → Shared → Prop}
end
noncomputable def NoSl (i : Expr) : Prop := ∀ ov iv, subscripted i false ov iv = operate [ov, iv] (getItem ov iv)
theorem subD_of {prog : Program} {w : World} {A : Around} {E : Value → Shared → Prop} {s : Shared} {env : Env} {value slice : Expr} {pos : Pos} {T id : String} {Q : Value → Shared → Prop}
    (hl : typeLookup (.type T) "__getitem__" = pure (some (.builtin id))) (hs : NoSl slice)
    (h : wpAny (model prog w) A (eval value env) (fun o s₁ => wpAny (model prog w) A (eval slice env) (fun i s₂ => s₂.TypeIs o T ∧ wpAny (model prog w) A (getItem o i) Q E s₂) E s₁) E s) :
    wpAny (model prog w) A (eval (.Subscript value slice pos) env) Q E s := by
  refine Subscript_ (wpAny_mono h (fun o s₁ h₁ => wpAny_mono h₁ (fun i s₂ h₂ => ?_) fun _ _ x => x) fun _ _ x => x)
  obtain ⟨hT, h₂⟩ := h₂
  unfold subscriptTail
  refine wpAny_bind ?_
  rw [getitemInPython_of_ne hT.not_modules]
  refine wpAny_bind (wpAny_specialOf hT hl ?_)
  have fin : wpAny (model prog w) A (subscripted slice false o i) (fun r s₃ => wpAny (model prog w) A (letTemporaryGo value o r >>= fun _ => pure r) Q E s₃) E s₂ := by
    rw [hs o i]
    exact wpAny_operating (wpAny_mono h₂ (fun r s₃ h₃ => wpAny_bind (wpAny_letTemporaryGo (wpAny_pure h₃))) fun _ _ x => x)
  first
    | exact wpAny_pure (wpAny_bind fin)
    | exact wpAny_bind (wpAny_pure (wpAny_bind fin))
    | exact wpAny_bind fin
theorem dict_typeIs {X : Cx} {pins : List (Addr × Obj)} {σ : St} {H : Hp} {s : Shared} {a : Addr} {y : V} {o : Option V} (I : Inv X pins σ H s) (g : DGet H a y o) : s.TypeIs (.ref a) "dict" := by
  rcases g with ⟨kvs, k, e, _, _⟩ | ⟨kvs, k, b, e, _, _, _⟩
  · obtain ⟨_, _, vs, _, dd⟩ := dk_rd I.hok e
    exact dd.typeIs
  · obtain ⟨_, _, xs, _, dd⟩ := dt_rd I.hok e
    exact dd.typeIs
noncomputable def tDGet (td ty : TE) : TE := fun σ H Q => td σ H fun x H1 => ty σ H1 fun y H2 => ∃ a v, x = .ref a ∧ DGet H2 a y (some v) ∧ Q v H2
noncomputable def tDIn (ty td : TE) : TE := fun σ H Q => ty σ H fun y H1 => td σ H1 fun x H2 => ∃ a o, x = .ref a ∧ DGet H2 a y o ∧ Q (.bl o.isSome) H2
noncomputable def tDNotIn (ty td : TE) : TE := fun σ H Q => ty σ H fun y H1 => td σ H1 fun x H2 => ∃ a o, x = .ref a ∧ DGet H2 a y o ∧ Q (.bl (!o.isSome)) H2
noncomputable def sDPut (td ty tv : TE) : TS := fun D σ H => tv σ H fun v H1 => td σ H1 fun x H2 => ty σ H2 fun y H3 => ∃ a H4, x = .ref a ∧ DPut H3 a y v H4 ∧ D.nx σ H4
section
variable {X : Cx} {o i e value : Expr} {pos pos' tpos : Pos} {td ty tv : TE}
theorem pe_dget (hu : X.A.units + 1 < cLine) (ho : PE X o td) (hi : PE X i ty) (hs : NoSl i) : PE X (.Subscript o i pos) (tDGet td ty) := by
  intro pins s σ H Q I h
  refine subD_of PySem.F.slot_dict_getitem.lookup hs (thn (ho pins s σ H _ I h) fun u s1 ⟨x, H1, I1, rx, q1⟩ => thn (hi pins s1 σ H1 _ I1 q1) fun iv s2 ⟨y, H2, I2, ry, a, v, ex, g, q2⟩ => ?_)
  subst ex
  obtain rfl : u = Value.ref a := rx
  exact ⟨dict_typeIs I2 g, d_getItem hu I2 g ry fun w' s3 I3 rw' => ⟨v, H2, I3, rw', q2⟩⟩
end
theorem dk_empty {P : Program} {w : World} {H : Hp} (h : Heap) (hb : sysModules < h.objs.size) : ObjOk P w H (h.push { cls := .type "dict", data := .dict #[] }) h.objs.size (.dK []) :=
  ⟨Nat.zero_le _, beq_eq_false_iff_ne.mpr (Ne.symm (Nat.ne_of_lt hb)), [], .nil, Heap.DictOf.new h⟩
noncomputable def tDNewK : TE := fun _ H Q => ∀ p, H p = none → Q (.ref p) (upd H p (.dK []))
section
variable {X : Cx} {pos : Pos}
end
noncomputable def tPairs : List (TE × TE) → St → Hp → (List (V × V) → Hp → Prop) → Prop
  | [], _, H, Q => Q [] H
  | (tk, tv) :: r, σ, H, Q => tk σ H fun x H1 => tv σ H1 fun y H2 => tPairs r σ H2 fun ps H3 => Q ((x, y) :: ps) H3
noncomputable abbrev VV : List (V × V) → List (Value × Value) → Prop := Paired fun p q => RelV p.1 q.1 ∧ RelV p.2 q.2
noncomputable def PPs (X : Cx) (pos : Pos) (keys : List (Option Expr)) (values : List Expr) (trs : List (TE × TE)) : Prop :=
  ∀ (pins : List (Addr × Obj)) (s : Shared) (σ : St) (H : Hp) (Q : List (V × V) → Hp → Prop), Inv X pins σ H s → tPairs trs σ H Q →
    wpAny (model X.prog X.w) X.A (evalPairs (pairTrees keys values X.env pos)) (fun vs s' => ∃ ps H', Inv X pins σ H' s' ∧ VV ps vs ∧ Q ps H') X.xe s
theorem pps_nil {X : Cx} {pos : Pos} : PPs X pos [] [] [] := fun pins s σ H Q I h => pairTrees_nil_walk ⟨[], H, I, .nil, h⟩
theorem pps_cons {X : Cx} {pos : Pos} {k v : Expr} {ks : List (Option Expr)} {vs : List Expr} {tk tv : TE} {trs : List (TE × TE)} (hk : PE X k tk) (hv : PE X v tv) (hr : PPs X pos ks vs trs) :
    PPs X pos (some k :: ks) (v :: vs) ((tk, tv) :: trs) := fun pins s σ H Q I h =>
  pairTrees_cons_walk (thn (hk pins s σ H _ I h) fun u s1 ⟨x, H1, I1, rx, q1⟩ => thn (hv pins s1 σ H1 _ I1 q1) fun w2 s2 ⟨y, H2, I2, ry, q2⟩ =>
    thn (hr pins s2 σ H2 _ I2 q2) fun ws s3 ⟨ps, H3, I3, rel, q3⟩ => ⟨(x, y) :: ps, H3, I3, .cons ⟨rx, ry⟩ rel, q3⟩)
noncomputable def mergeK (kvs more : List (Key × V)) : List (Key × V) := more.foldl (fun acc kv => putK acc kv.1 kv.2) kvs
theorem KV.merge : ∀ {more : List (Key × V)} {rs : List (Key × Value)} {kvs : List (Key × V)} {vs : List (Key × Value)}, KV more rs → KV kvs vs → KV (mergeK kvs more) (merged vs rs) := by
  intro more rs kvs vs r
  unfold KV at r
  induction r generalizing kvs vs with
  | nil => intro q; exact q
  | @cons p q ps qs h t ih =>
    intro r0
    have e : KV (putK kvs p.1 p.2) (stored vs q.1 q.2) := by
      have := r0.put p.1 h.2
      rw [← h.1]; exact this
    exact ih e
theorem length_mergeK : ∀ (more kvs : List (Key × V)), (mergeK kvs more).length ≤ kvs.length + more.length
  | [], kvs => by show kvs.length ≤ kvs.length + 0; omega
  | p :: r, kvs => by
    have h1 := length_mergeK r (putK kvs p.1 p.2)
    have h2 := length_putK kvs p.1 p.2
    show (mergeK (putK kvs p.1 p.2) r).length ≤ _
    rw [List.length_cons]; omega
theorem carries_of {P : Program} {w : World} : ∀ {kvs : List (Key × V)} {ws : List (Value × Value)}, VV (kvs.map fun kv => (kV kv.1, kv.2)) ws → ∃ rs, Carries (mixKind P w) ws rs ∧ KV kvs rs
  | [], _, r => by rw [List.map_nil] at r; cases r; exact ⟨[], True.intro, .nil⟩
  | p :: kvs, _, r => by
    rw [List.map_cons] at r
    cases r with
    | @cons a b as bs h t =>
      obtain ⟨rs, c, q⟩ := carries_of (P := P) (w := w) t
      obtain ⟨b1, b2⟩ := b
      exact ⟨(p.1, b2) :: rs, ⟨kV_is h.1, rfl, c⟩, .cons ⟨rfl, h.2⟩ q⟩
noncomputable def tDisp (trs : List (TE × TE)) : TE := fun σ H Q => ∀ p, H p = none → tPairs trs σ (upd H p (.dK [])) fun ps H2 => H2 p = some (.dK []) ∧ ∃ kvs : List (Key × V), ps = kvs.map (fun kv => (kV kv.1, kv.2)) ∧ kvs.length ≤ 15 ∧ Q (.ref p) (upd H2 p (.dK (mergeK [] kvs)))
theorem pe_disp {X : Cx} {pos : Pos} {keys : List (Option Expr)} {values : List Expr} {trs : List (TE × TE)} (h : PPs X pos keys values trs) (hall : keys.all (·.isSome) = true) (hl : keys.length = values.length) (h0 : keys ≠ [])
    (h15 : keys.length ≤ 15) : PE X (.Dict keys values pos) (tDisp trs) := by
  intro pins s σ H Q I q
  have hn := I.hok.fresh (Nat.le_refl s.heap.objs.size)
  have I1 := I.laid (a := s.heap.objs.size) (o := .dK []) (h' := s.heap.push { cls := .type "dict", data := .dict #[] }) (t' := s.toks) (fun _ _ q => Heap.get?_push_of_some _ q) (Nat.le_refl _) (dk_empty s.heap I.big)
  refine wpAny_Dict_walk (knd := mixKind X.prog X.w) hall hl h0 h15 (thn (h pins _ σ _ _ I1 (q _ hn)) fun ws s2 ⟨ps, H2, I2, rel, e, kvs, ep, lk, q2⟩ => ?_)
  subst ep
  obtain ⟨rs, c, rk⟩ := carries_of (P := X.prog) (w := X.w) rel
  obtain ⟨z, hd, vs0, r0, dd⟩ := dk_of I2.hok e
  cases r0
  refine ⟨rs, c, dd, fun h' dd' hs => ⟨.ref s.heap.objs.size, _, ?_, rfl, q2⟩⟩
  have hz : (mergeK [] kvs).length ≤ sizeLine := by
    have h1 := length_mergeK kvs []
    rw [List.length_nil] at h1
    rw [sizeLine_eq]; omega
  have he : ∃ q, h'.get? s.heap.objs.size = some q := let ⟨q, _, _, hq, _⟩ := dd'; ⟨q, hq⟩
  exact d_write I2 (by rw [e]; exact True.intro) hs he (dk_new hz hd (rk.merge .nil) dd')
section
variable {X : Cx} {pins : List (Addr × Obj)} {σ : St} {H : Hp} {s : Shared} {a : Addr} {y d : V} {u r : Value} {o : Option V} {A : Around} {E : Value → Shared → Prop}
end
section
variable {X : Cx} {o e f : Expr} {apos cpos : Pos} {td ty tx : TE}
end
section
variable {X : Cx} {pins : List (Addr × Obj)} {σ : St} {H : Hp} {s : Shared} {a : Addr} {kvs : List (Key × V)} {A : Around} {E : Value → Shared → Prop}
end
section
variable {X : Cx} {pins : List (Addr × Obj)} {σ : St} {H : Hp} {s : Shared} {a : Addr} {y : V} {u : Value} {A : Around} {E : Value → Shared → Prop}
end
end L2
namespace Att
open PySem PySem.W PySem.Calls PyProof.Rows
theorem ints_of_wellAll {P : Params} {h : Heap} : ∀ (ns : List Int) (vs : List Value), WellAll P h vs (ns.map WData.int) → IntsAre vs ns := by
  intro ns
  induction ns with
  | nil =>
    intro vs w
    rw [List.map_nil] at w
    cases w
    exact .nil
  | cons n ns ih =>
    intro vs w
    rw [List.map_cons] at w
    cases w with
    | cons a b =>
      cases a
      exact .cons _ _ (ih _ b)
theorem script_of {l : OpenLaw} {n : Nat} (hn : l.most = some n) {P : Params} {h : Heap} {args : List WData} {vals : List Value}
    (hpre : l.row.toRowW.claim.pre args = true) (hwl : WellAll P h vals args) :
    ∃ a vs ns, vals = [Value.ref a] ∧ args = [WData.list (ns.map WData.int)] ∧ h.get? a = some { cls := .type "list", data := .seq vs.toArray } ∧ IntsAre vs ns ∧ ns.length ≤ n := by
  have hsh : WShape.hasAll [] args [.list .int] = true := (pre_splitW hpre).1
  have hc : l.pre.holds [] { args := args } = true := (pre_splitW hpre).2
  obtain ⟨d, r, rfl, h1, h2⟩ := hasAllW_cons hsh
  obtain rfl := hasAllW_nil h2
  obtain ⟨xs, rfl, h3⟩ := hasW_list h1
  obtain ⟨ns, rfl⟩ := items_int h3
  have hlen : ns.length ≤ n := by
    unfold OpenLaw.pre at hc
    have h4 : (WTm.not (.lt (.lit (.int (n : Int))) (.len (.arg 0)))).holds [] { args := [.list (ns.map .int)] } = true := by
      have h4 := (holds_andW hc).1
      rw [hn] at h4
      exact h4
    have h5 := condW_of h4 (w_not (w_lt w_lit (w_len_list (w_arg rfl))))
    rw [List.length_map] at h5
    refine Nat.le_of_not_lt fun q => ?_
    have q' : (n : Int) < ((ns.length : Nat) : Int) := by omega
    first
      | (rw [decide_eq_true q'] at h5; exact absurd h5 (by decide))
      | (simp at h5; omega)
  cases hwl with
  | cons w1 w2 =>
    cases w2
    cases w1 with
    | list ho hall => exact ⟨_, _, ns, rfl, rfl, ho, ints_of_wellAll ns _ hall, hlen⟩
theorem post_true (l : OpenLaw) (args : List WData) : l.row.toRowW.claim.post args (.bool true) args = true :=
  postW_of (r := l.row.toRowW) (X := (true == true))
    (show WShape.has [] (.bool true) .bool = true by first | rfl | decide | simp [WShape.has, WShape.arms, WShape.armsAll])
    (show (WTm.eq .res (.lit (.bool true))).value [] { args := args, res := some (.bool true), after := args } = some (.bool (true == true)) from w_eq_bool (w_res rfl) w_lit) rfl
theorem attach_call {l : OpenLaw} {n : Nat} {q : Program} {loose : List Str} {XP : (Str → Option Value) → Heap → Prop} {YP : World → Heap → Prop} {d : DefRec}
    (hn : l.most = some n) (hdf : d.params.defaults = [])
    (call : ∀ (w : World) (s₀ s₁ : Shared) (mg mb : Str → Option Value) (fa : Addr) (o : Obj) (pm cd doc : Value) (a : Addr) (vs : List Value) (ns : List Int),
      Ground q loose [] XP w s₀ mg mb s₁.heap → YP w s₁.heap →
      s₁.heap.get? fa = some o → o.data = .func (docDef d.name d.params d.body d.scope pm cd doc) → s₁.heap.CodeRec cd d.name → mg d.name = some (.ref fa) →
      s₁.heap.get? a = some { cls := .type "list", data := .seq vs.toArray } → IntsAre vs ns → ns.length ≤ n → s₁.gens = #[] →
      codeAny (model l.prog w) callerA (.call (.ref fa) ⟨[.ref a], []⟩) (fun r s' => r = .ok (.ret (.bool true)) ∧ OldK s₁.heap s'.heap ∧ s'.os = s₁.os ∧ AllBare s'.gens) s₁) :
    WalkO q loose XP YP l.row.toRowW d [] (fun f vs => PySem.call f vs) := by
  intro w s₀ s₁ mg mb G Y fa o pm cd doc dV kV ho hd hcd hD hmg hg args vals as hpre hlay hrd hwl hlo
  obtain rfl : dV = .none := Dflts.none hD hdf
  obtain rfl : kV = .none := Dflts.noKw hD
  obtain ⟨a, vs, ns, rfl, rfl, hobj, hints, hlen⟩ := script_of hn hpre hwl
  refine enter_call (codeAny_mono (call w s₀ s₁ mg mb fa o pm cd doc a vs ns G Y ho (fd_plain hd) hcd hmg hobj hints hlen hg) fun r s' hq => ?_)
  obtain ⟨rfl, h2, h3, h4⟩ := hq
  exact ⟨.inl ⟨.bool true, .bool true, [], rfl, fun _ => rfl, .bool true, post_true l _, fun _ => ⟨List.Pairwise.nil, fun _ hm => (nomatch hm)⟩⟩, h2, h3, h4⟩
section
variable {prog : Program} {w : World} {A : Around} {E : Value → Shared → Prop} {s : Shared} {K : Frag}
end
end Att
namespace L2
open PySem PySem.Spec PyProof.Rows
theorem vals_ints : ∀ {vs : List Value} {ns : List Int}, IntsAre vs ns → Vals (ns.map V.int) vs
  | _, _, .nil => .nil
  | _, _, .cons n t h => .cons ⟨t, rfl⟩ (vals_ints h)
noncomputable def Only (H : Hp) : Prop := ∀ b, H b = none ∨ ∃ o xs, H b = some (.frz o (.lst xs))
theorem law_call {P : Program} {w : World} {K : PySem.W.Frag} {mg mb : Str → Option Value} {CX : CXT} {k : Nat} {fa a : Addr} {fd : FuncData} {x : Str} {sp : Sp} {s₁ : Shared} {vs : List Value} {ns : List Int}
    (KX : K.In s₁.heap) (hns : s₁.heap.Ns mainGlobals mg) (hb : s₁.heap.Ns builtinsNs mb) (hbb : ∀ x : Str, x ≠ "__name__" → mb x = bootBuiltins x) (hlim : s₁.heap.NoLimit) (hg : s₁.gens = #[])
    (ha : s₁.heap.get? a = some { cls := .type "list", data := .seq vs.toArray }) (hi : IntsAre vs ns) (hl : ns.length ≤ sizeLine) (hr : Room k callerA)
    (F : ∀ base : Heap, K.In base → base.Ns mainGlobals mg → FnOk P w K mg base CX k fa fd [x] sp) (hbind : ∀ (s : Shared) (u : Value), BindsTo s fd ⟨[u], []⟩ [(x, u)])
    (hsp : ∀ H : Hp, Only H → SqL K H a (ns.map V.int) → sp [.ref a] H (fun v _ => v = .bl true) fun _ _ _ => False)
    (hCX : ∀ H e s', CX [] H s₁ (fun _ _ _ => False) e s' → False) :
    codeAny (model P w) callerA (.call (.ref fa) ⟨[.ref a], []⟩) (fun r s' => r = .ok (.ret (.bool true)) ∧ OldK s₁.heap s'.heap ∧ s'.os = s₁.os ∧ AllBare s'.gens) s₁ := by
  have rv := vals_ints hi
  have lenV := hi.length
  -- from an abstract heap in which nothing but the script may be tracked
  have core : ∀ H : Hp, Only H → SqL K H a (ns.map V.int) → HOk P w H s₁.heap → (∀ b, H b ≠ none → b = a) → (H a ≠ none → K.lookup a = none) →
      codeAny (model P w) callerA (.call (.ref fa) ⟨[.ref a], []⟩) (fun r s' => r = .ok (.ret (.bool true)) ∧ OldK s₁.heap s'.heap ∧ s'.os = s₁.os ∧ AllBare s'.gens) s₁ := by
    intro H hO hS hok hA hK
    have base_of : ∀ {b : Addr} {o : Obj}, s₁.heap.get? b = some o → H b = none → (hidT s₁.heap H).get? b = some o := fun e n => hidT_get e n
    have noA : ∀ {b : Addr} {o : Obj} {es : Array DictEntry} {ep : Nat}, s₁.heap.get? b = some o → o.data = .dict es ep → H b = none := fun {b o es ep} e d => by
      cases q : H b with
      | none => rfl
      | some u =>
        have e' : b = a := hA b (by rw [q]; simp)
        subst e'
        rw [ha] at e; cases e
        have d' : Data.seq vs.toArray _ = Data.dict es ep := d
        cases d'
    have nsK : ∀ {b : Addr} {m : Str → Option Value}, s₁.heap.Ns b m → (hidT s₁.heap H).Ns b m := fun {b m} ⟨o, es, ep, e, d, r⟩ => ⟨o, es, ep, base_of e (noA e d), d, r⟩
    have hKb : K.In (hidT s₁.heap H) := fun b o e => base_of (KX b o e) (by
      cases q : H b with
      | none => rfl
      | some u =>
        have e' : b = a := hA b (by rw [q]; simp)
        subst e'
        rw [hK (by rw [q]; simp)] at e; cases e)
    have hM : Mod K mg (hidT s₁.heap H) := ⟨hKb, nsK hns, ⟨mb, nsK hb, hbb⟩, let ⟨mc, h1, h2⟩ := hlim; ⟨mc, nsK h1, h2⟩⟩
    have e0 : Env0 P w K mg (hidT s₁.heap H) callerA [] s₁ H := ⟨rfl, hM, fun b o e => of_hidT e, Nat.le_of_eq (hidT_size _ _), trivial, fun b hb => absurd (show b ∈ ([] : List Addr) from hb) (by simp), hok, .of_eq hg⟩
    refine codeAny_mono ((F _ hKb (nsK hns)).run callerA [] s₁ H ⟨[.ref a], []⟩ [.ref a] [.ref a] _ _ hr e0 (hbind s₁ (.ref a)) (.cons rfl .nil) (hsp H hO hS)) fun r s' h => ?_
    cases r with
    | error e => exact (hCX H e s' h).elim
    | ok fl =>
      cases fl with
      | next => exact False.elim h
      | brk => exact False.elim h
      | cont => exact False.elim h
      | ret u =>
        obtain ⟨v, H', os, bare, un, hok', r', q⟩ := h
        have q' : v = .bl true := q
        subst q'
        obtain rfl : u = Value.bool true := r'
        refine ⟨rfl, OldK.of_keep fun b o e => ?_, os, bare⟩
        cases q : H b with
        | none => exact un.keep b o e q (by intro z; exact absurd (show b ∈ ([] : List Addr) from z) (by simp)) (by simp)
        | some u =>
          rcases hO b with z | ⟨ob, xs, z⟩
          · rw [q] at z; cases z
          · have z2 := un.frzs b ob _ z
            obtain ⟨e1, _⟩ := hok b _ z
            obtain ⟨e2, _⟩ := hok' b _ z2
            rw [e] at e1; cases e1
            exact e2
  cases hk : K.lookup a with
  | some o =>
    -- the script is one of the module's own objects
    have e := KX a o hk
    rw [ha] at e
    cases e
    refine core (fun _ => none) (fun _ => .inl rfl) (.inr ⟨_, vs.toArray, _, hk, rfl, rfl, rfl, by rw [List.size_toArray, lenV]; exact hl, by simpa using rv⟩) (fun b u z => by have z' : (none : Option HO) = some u := z; cases z') (fun b z => absurd rfl z) fun z => absurd rfl z
  | none =>
    refine core (fun b => if b = a then some (.frz { cls := .type "list", data := .seq vs.toArray } (.lst (ns.map V.int))) else none) (fun b => ?_) (.inl (.inr ⟨{ cls := .type "list", data := .seq vs.toArray }, if_pos rfl⟩)) (fun b u z => ?_) (fun b z => ?_) fun _ => hk
    · by_cases hb : b = a
      · exact .inr ⟨_, _, if_pos hb⟩
      · exact .inl (if_neg hb)
    · by_cases hb : b = a
      · have z' := (if_pos hb).symm.trans z
        cases z'
        subst hb
        exact ⟨ha, by rw [List.length_map]; exact hl, vs, _, rv, ha⟩
      · have z' := (if_neg hb).symm.trans z
        cases z'
    · by_cases hb : b = a
      · exact hb
      · exact absurd (if_neg hb) z
end L2
namespace L2
open PySem PySem.Spec PyProof.Rows
noncomputable abbrev KOf {K : PySem.W.Frag} {h : Heap} (_ : K.In h) : PySem.W.Frag := K
theorem walk_of {l : PySem.W.OpenLaw} {n k : Nat} {q : Program} {loose : List Str} {XP : (Str → Option Value) → Heap → Prop} {YP : World → Heap → Prop} {d : DefRec} {K : Params → PySem.W.Frag} {CX : World → CXT} {sp : World → Sp} {x : Str}
    (hn : l.most = some n) (hn2 : n ≤ sizeLine) (hdf : d.params.defaults = []) (hr : Room k callerA)
    (hY : ∀ (w : World) (h : Heap), YP w h → (K w.params).In h)
    (F : ∀ (w : World) (mg : Str → Option Value) (fa : Addr) (h : Heap), (K w.params).In h → h.Ns mainGlobals mg → mg d.name = some (.ref fa) →
      ∃ fd : FuncData, (∀ (s : Shared) (u : Value), BindsTo s fd ⟨[u], []⟩ [(x, u)]) ∧
        ∀ base : Heap, (K w.params).In base → base.Ns mainGlobals mg → FnOk l.prog w (K w.params) mg base (CX w) k fa fd [x] (sp w))
    (hsp : ∀ (w : World) (H : Hp) (a : Addr) (ns : List Int), ns.length ≤ n → Only H → SqL (K w.params) H a (ns.map V.int) → sp w [.ref a] H (fun v _ => v = .bl true) fun _ _ _ => False)
    (hCX : ∀ (w : World) (H : Hp) (s : Shared) (e : Value) (s' : Shared), CX w [] H s (fun _ _ _ => False) e s' → False) :
    PySem.W.WalkO q loose XP YP l.row.toRowW d [] (fun f vs => PySem.call f vs) := by
  refine Att.attach_call hn hdf fun w s₀ s₁ mg mb fa o pm cd doc a vs ns G Y ho hd hcd hmg hobj hints hlen hg => ?_
  have KX := hY w _ Y
  obtain ⟨fd, hb, hF⟩ := F w mg fa _ KX G.T.g hmg
  exact law_call KX G.T.g G.T.b G.T.builtins G.T.nolimit hg hobj hints (Nat.le_trans hlen hn2) hr hF hb (fun H hO hS => hsp w H a ns hlen hO hS) fun H e s' => hCX w H s₁ e s'
end L2
namespace L2
open PySem PySem.Spec PyProof.Rows
noncomputable def defArgs (s : Stmt) : Arguments := match s with
  | .FunctionDef _ a _ _ _ _ _ _ _ _ => a
  | _ => { posonlyargs := [], args := [], vararg := none, kwonlyargs := [], kw_defaults := [], kwarg := none, defaults := [] }
noncomputable def defBody (s : Stmt) : List Stmt := match s with
  | .FunctionDef _ _ b _ _ _ _ _ _ _ => b
  | _ => []
noncomputable def defScope (s : Stmt) : Scope := match s with
  | .FunctionDef _ _ _ _ _ _ sc _ _ _ => sc
  | _ => { kind := .function, names := [], isGenerator := false, isCoroutine := false }
noncomputable abbrev CX0 : CXT := fun _ _ _ _ _ _ => False
noncomputable abbrev E0 : XK := fun _ _ _ => False
theorem pass0 {X : Cx} : Passes CX0 X E0 := fun _ _ _ _ _ _ _ h => h.elim
structure Fun (K : PySem.W.Frag) (x qual : Str) (st : Stmt) (f : Addr) (fd : FuncData) : Prop where
  ex : ∃ (oc : Value) (od : Option Addr) (kV doc pm : Value) (an : Option Addr) (cdv ct : Value) (osl : Array (Option Value)),
    fd = PySem.W.fnOf x qual (defArgs st) (defBody st) (defScope st) .none kV doc pm an cdv ct ∧ K.lookup f = some ⟨oc, od, .func fd, osl⟩ ∧ PySem.W.codeIn K cdv qual = true
  kp : PySem.W.keepIn K (.ref f) = true
section
variable {P : Program} {w : World} {K : PySem.W.Frag} {mg : Str → Option Value} {base : Heap}
theorem Fun.ok {x qual : Str} {st : Stmt} {f : Addr} {fd : FuncData} {N ps : List Str} {k : Nat} {sp : Sp} (F : Fun K x qual st f fd) (S : FnScope N ps (defScope st)) (len : ∀ vs H Q E, sp vs H Q E → vs.length = ps.length)
    (hbody : ∀ (cdv : Value) (A : Around) (outer : List Env) (s : Shared) (H : Hp) (vs : List V) (Q : VK) (E : XK), Room k (A.deeper (envOfC qual (defScope st) s.heap.objs.size f cdv)) → sp vs H Q E →
      ∃ t, PSs (cxOf CX0 P w K mg base N qual (defScope st) f cdv A outer s H E).nox (defBody st) t ∧ t { nx := fun _ H' => Q .non H', rt := Q } (start N vs) H) : FnOk P w K mg base CX0 (k + 1) f fd ps sp := by
  obtain ⟨oc, od, kV, doc, pm, an, cdv, ct, osl, rfl, lk, hcd⟩ := F.ex
  refine fn_of lk hcd S len fun A outer s H vs Q E hr hsp => ?_
  obtain ⟨t, h, q⟩ := hbody cdv A outer s H vs Q E hr hsp
  exact ⟨t, h.nox, q⟩
theorem Fun.binds {x qual : Str} {st : Stmt} {f : Addr} {fd : FuncData} {ps : List Str} (F : Fun K x qual st f fd)
    (h : ∀ (kV doc pm : Value) (an : Option Addr) (cdv ct : Value) (us : List Value), us.length = ps.length → bindArgs (PySem.W.fnOf x qual (defArgs st) (defBody st) (defScope st) .none kV doc pm an cdv ct) ⟨us, []⟩ = pure (ps.zip us)) : Binds K fd ps [] := by
  obtain ⟨oc, od, kV, doc, pm, an, cdv, ct, osl, rfl, lk, hcd⟩ := F.ex
  exact .all (h kV doc pm an cdv ct)
theorem fun_mk {x qual : Str} {st : Stmt} {f : Addr} {oc : Value} {od an : Option Addr} {osl : Array (Option Value)} {kV doc pm cdv ct : Value} (l : K.lookup f = some ⟨oc, od, .func (PySem.W.fnOf x qual (defArgs st) (defBody st) (defScope st) .none kV doc pm an cdv ct), osl⟩)
    (c : PySem.W.codeIn K cdv qual = true) (k : PySem.W.keepIn K (.ref f) = true) : Fun K x qual st f (PySem.W.fnOf x qual (defArgs st) (defBody st) (defScope st) .none kV doc pm an cdv ct) := ⟨⟨oc, od, kV, doc, pm, an, cdv, ct, osl, rfl, l, c⟩, k⟩
end
theorem hu_of {A : Around} {k : Nat} (hr : Room k A) : A.units + 1 < cLine := Nat.lt_of_le_of_lt (Nat.add_le_add_left (by decide : 1 ≤ 64) _) hr.units
section
variable {X : Cx}
end
noncomputable def Same (H H' : Hp) : Prop := ∀ b o, H b = some o → H' b = some o
theorem Same.refl (H : Hp) : Same H H := fun _ _ h => h
theorem Same.trans {H H1 H2 : Hp} (a : Same H H1) (b : Same H1 H2) : Same H H2 := fun c o h => b c o (a c o h)
theorem Same.seq {K : PySem.W.Frag} {H H' : Hp} {a : Addr} {xs : List V} (e : Same H H') (h : SqL K H a xs) : SqL K H' a xs := by
  rcases h with (h | ⟨o, h⟩) | h
  · exact .inl (.inl (e _ _ h))
  · exact .inl (.inr ⟨o, e _ _ h⟩)
  · exact .inr h
end L2
namespace L2
open PySem PySem.Spec PyProof.Rows
section
variable {X : Cx}
end
section
variable {κ : Type} [DecidableEq κ]
end
end L2
set_option maxHeartbeats 4000000
namespace L2
open PySem PySem.Spec PyProof.Rows
noncomputable abbrev runIfs (ifs : List Expr) (env : Env) : Sem Bool :=
  forIn ifs true fun c r => if r = true then do let ok ← isTrue c env (eval c env); pure (ForInStep.yield ok) else pure (ForInStep.yield r)
theorem comp_loop {prog : Program} {w : World} {A : Around} {R : Result → Shared → Prop} {s : Shared} {elt tg iter : Expr} {ifs : List Expr} {scope : Scope} {pos : Pos} {it acc : Value} {env : Env} (I : Nat → Shared → Prop)
    (turn : ∀ n s, I n s → wpAny (model prog w) A (pyNext it) (fun r s1 => match r with
      | none => R (.ok .next) s1
      | some v => wpAny (model prog w) A (letOwnedTupleGo tg it v) (fun _ s2 => wpAny (model prog w) A (assign tg env v) (fun _ s3 => wpAny (model prog w) A (runIfs ifs env) (fun ok s4 =>
          if ok = true then wpAny (model prog w) A (eval elt env) (fun x s5 => wpAny (model prog w) A (call (.builtin "list.append") [acc, x]) (fun _ s6 => ∃ m, m < n ∧ I m s6) (fun _ _ => False) s5) (fun _ _ => False) s4
          else ∃ m, m < n ∧ I m s4) (fun _ _ => False) s3) (fun _ _ => False) s2) (fun _ _ => False) s1) (fun _ _ => False) s)
    (n : Nat) (h : I n s) : codeAny (model prog w) A (.compLoop (.ListComp elt [⟨tg, iter, ifs, 0⟩] scope pos) 0 it acc env) R s := by
  refine codeAny_loop rfl I (fun n s hI => ?_) n h
  show wpAny _ A ((compTurn (.ListComp elt [⟨tg, iter, ifs, 0⟩] scope pos) 0 it acc env).onRaise (fun x => do noteFrame x env; theTreesLotGoes x)) _ _ s
  refine wpAny_noted (wpAny_noRaise ?_)
  rw [compTurn_list]
  refine wpAny_bind (wpAny_standAt (wpAny_bind (thn (turn n s hI) fun r s1 h1 => ?_)))
  cases r with
  | none => exact wpAny_pure h1
  | some v =>
    refine wpAny_bind (thn h1 fun _ s2 h2 => wpAny_bind (thn h2 fun _ s3 h3 => wpAny_bind (thn h3 fun ok s4 h4 => ?_)))
    cases ok with
    | false => exact wpAny_pure ⟨rfl, h4⟩
    | true => exact wpAny_bind (wpAny_bind (thn h4 fun x s5 h5 => wpAny_bind (thn h5 fun _ s6 h6 => wpAny_pure (wpAny_pure ⟨rfl, h6⟩))))
theorem closure_go (env : Env) : ∀ (names : List (Str × NameKind)) (cs : List (Str × Addr)), (∀ n, (n, NameKind.free) ∈ names → ∃ c, env.cells.lookup n = some c) → (∀ n c, cs.lookup n = some c → env.cells.lookup n = some c) →
    ∃ cl, (forIn names cs fun (p : Str × NameKind) (r : List (Str × Addr)) => (if p.2 == NameKind.free then do let c ← cellOf env p.1; pure (ForInStep.yield ((p.1, c) :: r)) else pure (ForInStep.yield r) : Sem (ForInStep (List (Str × Addr))))) = pure cl ∧
      (∀ n c, cl.lookup n = some c → env.cells.lookup n = some c) ∧ (∀ n, ((n, NameKind.free) ∈ names ∨ ∃ c, cs.lookup n = some c) → ∃ c, cl.lookup n = some c)
  | [], cs, _, hcs => ⟨cs, rfl, hcs, fun n h => h.elim (fun z => nomatch z) id⟩
  | (m, k) :: r, cs, hn, hcs => by
    cases hk : k == NameKind.free with
    | false =>
      obtain ⟨cl, e, h1, h2⟩ := closure_go env r cs (fun n z => hn n (List.mem_cons_of_mem _ z)) hcs
      refine ⟨cl, ?_, h1, fun n z => h2 n ?_⟩
      · rw [List.forIn_cons]; simp only [hk]; exact e
      · rcases z with z | z
        · rcases List.mem_cons.mp z with q | q
          · cases q; simp at hk
          · exact .inl q
        · exact .inr z
    | true =>
      have ek : k = NameKind.free := by simpa using hk
      subst ek
      obtain ⟨c, hc⟩ := hn m List.mem_cons_self
      obtain ⟨cl, e, h1, h2⟩ := closure_go env r ((m, c) :: cs) (fun n z => hn n (List.mem_cons_of_mem _ z)) (fun n c' z => by
        by_cases q : n = m
        · subst q; simp [List.lookup_cons] at z; subst z; exact hc
        · rw [List.lookup_cons, beq_eq_false_iff_ne.mpr q] at z; exact hcs n c' z)
      refine ⟨cl, ?_, h1, fun n z => h2 n ?_⟩
      · rw [List.forIn_cons]; simp only [cellOf, hc]; exact e
      · rcases z with z | ⟨c', z⟩
        · rcases List.mem_cons.mp z with q | q
          · cases q; exact .inr ⟨c, by simp [List.lookup_cons]⟩
          · exact .inl q
        · by_cases q : n = m
          · subst q; exact .inr ⟨c, by simp [List.lookup_cons]⟩
          · exact .inr ⟨c', by rw [List.lookup_cons, beq_eq_false_iff_ne.mpr q]; exact z⟩
theorem closure_of {scope : Scope} {env : Env} (hn : ∀ n, (n, NameKind.free) ∈ scope.names → ∃ c, env.cells.lookup n = some c) :
    ∃ cl, closureFor scope env = pure cl ∧ (∀ n c, cl.lookup n = some c → env.cells.lookup n = some c) ∧ (∀ n, (n, NameKind.free) ∈ scope.names → ∃ c, cl.lookup n = some c) := by
  obtain ⟨cl, e, h1, h2⟩ := closure_go env scope.names [] hn (fun _ _ z => nomatch z)
  refine ⟨cl, ?_, h1, fun n z => h2 n (.inl z)⟩
  unfold closureFor
  simp only [bind_pure]
  exact e
end L2
set_option maxHeartbeats 4000000
namespace L2
open PySem PySem.Spec PyProof.Rows
noncomputable def relNames (names onames : List (Str × NameKind)) : List (Str × NameKind) :=
  names.map fun (n, k) => if (k == .free && onames.lookup n == some .cell) then (n, .cell) else (n, k)
noncomputable def compOk (sc osc : Scope) (N rest : List Str) : Bool :=
  (sc.kind == .function && osc.kind == .function && sc.names.all fun y => y.2 != .cell && (y.2 != .local || sc.names.lookup y.1 == some .local) && (y.2 != .free || osc.names.lookup y.1 == some .cell || osc.names.lookup y.1 == some .free))
  && N.length == rest.length && (N.zip rest).all fun p => match (relNames sc.names osc.names).lookup p.2 with
    | some .local => false
    | some .cell => p.1 == p.2 && (p.2, NameKind.free) ∈ sc.names && (osc.names.lookup p.2 == some .cell || osc.names.lookup p.2 == some .free)
    | some .free => p.1 == p.2 && (p.2, NameKind.free) ∈ sc.names && (osc.names.lookup p.2 == some .cell || osc.names.lookup p.2 == some .free)
    | _ => true
structure CompSc (sc osc : Scope) (N rest : List Str) : Prop where
  kind : sc.kind = .function
  okind : osc.kind = .function
  cell : ∀ y ∈ sc.names, y.2 ≠ .cell
  loc : ∀ y ∈ sc.names, y.2 = .local → sc.names.lookup y.1 = some .local
  free : ∀ n, (n, NameKind.free) ∈ sc.names → osc.names.lookup n = some .cell ∨ osc.names.lookup n = some .free
  len : N.length = rest.length
  look : ∀ (i : Nat) x, rest[i]? = some x → ((relNames sc.names osc.names).lookup x = some .local ∨ (relNames sc.names osc.names).lookup x = some .cell ∨ (relNames sc.names osc.names).lookup x = some .free) →
    N[i]? = some x ∧ (x, NameKind.free) ∈ sc.names ∧ (osc.names.lookup x = some .cell ∨ osc.names.lookup x = some .free) ∧ ((relNames sc.names osc.names).lookup x = some .cell ∨ (relNames sc.names osc.names).lookup x = some .free)
theorem compOk_is {sc osc : Scope} {N rest : List Str} (h : compOk sc osc N rest = true) : CompSc sc osc N rest := by
  unfold compOk at h
  simp only [Bool.and_eq_true, beq_iff_eq, List.all_eq_true] at h
  obtain ⟨⟨⟨⟨hk, hok⟩, hy⟩, hl⟩, hz⟩ := h
  refine ⟨hk, hok, fun y z e => ?_, fun y z e => ?_, fun n z => ?_, hl, fun i x e v => ?_⟩
  · have := (hy y z).1.1; rw [e] at this; simp at this
  · have := (hy y z).1.2; rw [e] at this; simpa using this
  · have := (hy _ z).2; simpa using this
  · have hi : i < rest.length := (List.getElem?_eq_some_iff.mp e).1
    have hi' : i < N.length := by omega
    have hN : N[i]? = some N[i] := List.getElem?_eq_getElem hi'
    have hm : (N[i], x) ∈ N.zip rest := by
      refine List.mem_of_getElem? (i := i) ?_
      rw [List.getElem?_zip_eq_some]; exact ⟨hN, e⟩
    have q := hz _ hm
    dsimp only at q
    rcases v with v | v | v
    · rw [v] at q; simp at q
    · rw [v] at q; simp only [Bool.and_eq_true, beq_iff_eq, Bool.or_eq_true, decide_eq_true_eq] at q
      obtain ⟨⟨q1, q2⟩, q3⟩ := q
      exact ⟨by rw [hN, q1], q2, q3, .inl v⟩
    · rw [v] at q; simp only [Bool.and_eq_true, beq_iff_eq, Bool.or_eq_true, decide_eq_true_eq] at q
      obtain ⟨⟨q1, q2⟩, q3⟩ := q
      exact ⟨by rw [hN, q1], q2, q3, .inr v⟩
theorem relabel_names {sc : Scope} {env : Env} (hk : env.scope.kind = .function) : (relabel sc env).names = relNames sc.names env.scope.names := by
  unfold relabel relNames Env.kindOf
  simp [hk]
theorem rel_free {names onames : List (Str × NameKind)} (hc : ∀ y ∈ names, y.2 ≠ .cell) {x : Str} (h : (relNames names onames).lookup x = some .cell ∨ (relNames names onames).lookup x = some .free) : (x, NameKind.free) ∈ names := by
  have hm : (x, NameKind.cell) ∈ relNames names onames ∨ (x, NameKind.free) ∈ relNames names onames := h.imp PySem.mem_of_lookup PySem.mem_of_lookup
  rcases hm with hm | hm
  · obtain ⟨⟨n, k⟩, hn, e⟩ := List.mem_map.mp hm
    dsimp only at e
    split at e
    · rename_i hh; cases e; simp at hh; obtain ⟨rfl, _⟩ := hh; exact hn
    · cases e; exact absurd rfl (hc _ hn)
  · obtain ⟨⟨n, k⟩, hn, e⟩ := List.mem_map.mp hm
    dsimp only at e
    split at e
    · cases e
    · cases e; exact hn
noncomputable def compCx (X : Cx) (scope : Scope) (N' : List Str) (cl : List (Str × Addr)) (s2 : Shared) (H2 : Hp) (C : Addr) (fp : List Addr) : Cx :=
  { X with N := N', s₀ := s2, H₀ := H2, env := compEnvC scope cl C X.env, outer := X.stack, stack := X.stack, ex := fp, fn := fun _ => false, pn := [], xe := fun _ _ => False }
section
variable {X : Cx} {pins : List (Addr × Obj)} {σ : St} {H2 : Hp} {s2 : Shared} {scope : Scope} {own rest : List Str} {cl : List (Str × Addr)} {fp : List Addr} {C : Addr}
theorem compCx_ok (I : Inv X pins σ H2 s2) (S : CompSc scope X.env.scope X.N rest) (h1 : ∀ n c, cl.lookup n = some c → X.env.cells.lookup n = some c) (h2 : ∀ n, (n, NameKind.free) ∈ scope.names → ∃ c, cl.lookup n = some c)
    (hC : s2.heap.objs.size ≤ C) (hf : ∀ b ∈ fp, FpOk X pins H2 b) (ho : ∀ b ∈ fp, ∃ o, s2.heap.get? b = some o) : (compCx X scope (own ++ rest) cl s2 H2 C fp).Ok where
  mod := I.ok.mod
  kind := S.kind
  glob := I.ok.glob
  blt := I.ok.blt
  above := hC
  inj := fun x y c e1 e2 => I.ok.inj x y c (h1 x c e1) (h1 y c e2)
  has := fun x hx => h2 x (rel_free S.cell (by
    have e : (compCx X scope (own ++ rest) cl s2 H2 C fp).env.kindOf x = (relNames scope.names X.env.scope.names).lookup x := congrArg (List.lookup x) (relabel_names (sc := scope) I.ok.kind)
    rw [e] at hx; exact hx))
  cab := fun _ _ z => nomatch z
  hd := I.ok.hd
  frames := I.ok.frames
  stk := .inl rfl
  exf := fun b hb => by
    obtain ⟨o, e⟩ := ho b hb
    exact ⟨Nat.ne_of_lt (Nat.lt_of_lt_of_le (Heap.lt_size e) hC), fun x c e => (hf b hb).2.2.2.2.1 x c (h1 x c e)⟩
  bs := I.bs
  bsz := Nat.le_trans I.ok.bsz I.sz
  noex := fun b o e hb => by
    rcases (hf b hb).2.2.2.1 with z | z
    · exact I.ok.noex b o e z
    · exact absurd (Nat.lt_of_lt_of_le (Heap.lt_size e) (Nat.le_trans I.ok.bsz z)) (Nat.lt_irrefl _)
  exfs := fun b hb z => by
    rcases List.mem_cons.mp (I.stkSub b z) with q | q
    · exact (hf b hb).2.1 q
    · exact (hf b hb).2.2.1 q
  funs := I.stack
  frf := I.stkFree
theorem comp_start {h1 : Heap} {t1 : Nat} (I : Inv X pins σ H2 s2) (S : CompSc scope X.env.scope X.N rest) (hc1 : ∀ n c, cl.lookup n = some c → X.env.cells.lookup n = some c) (hc2 : ∀ n, (n, NameKind.free) ∈ scope.names → ∃ c, cl.lookup n = some c)
    (hC : s2.heap.objs.size ≤ C) (hf : ∀ b ∈ fp, FpOk X pins H2 b) (ho : ∀ b ∈ fp, ∃ o, s2.heap.get? b = some o)
    (old : ∀ b o, s2.heap.get? b = some o → h1.get? b = some o) (ns : h1.Ns C fun _ => none) :
    Inv (compCx X scope (own ++ rest) cl s2 H2 C fp) [] (List.replicate own.length none ++ σ) H2 { s2 with heap := h1, toks := t1 } := by
  obtain ⟨m, hn, hl⟩ := id I.loc
  have hv : ∀ x, Vis (compCx X scope (own ++ rest) cl s2 H2 C fp).env.scope x → ((relNames scope.names X.env.scope.names).lookup x = some .local ∨ (relNames scope.names X.env.scope.names).lookup x = some .cell ∨ (relNames scope.names X.env.scope.names).lookup x = some .free) := fun x z => by
    have e : (compCx X scope (own ++ rest) cl s2 H2 C fp).env.scope.names = relNames scope.names X.env.scope.names := relabel_names (sc := scope) I.ok.kind
    unfold Vis at z; rw [e] at z; exact z
  refine ⟨compCx_ok I S hc1 hc2 hC hf ho, rfl, I.bare, Un.kept old, ⟨_, ns, fun i x v e1 e2 e3 => ?_⟩, fun x c e => ?_, I.hok.fresh hC, fun x c e => I.freeC x c (hc1 x c e), fun p hp => absurd (show p ∈ ([] : List (Addr × Obj)) from hp) (by simp), I.hok.kept old, ?_⟩
  · have e1' : (own ++ rest)[i]? = some x := e1
    by_cases hi : i < own.length
    · rw [List.getElem?_append_left (by simpa using hi), List.getElem?_replicate] at e2
      split at e2 <;> cases e2
    · have hi' : own.length ≤ i := Nat.le_of_not_lt hi
      rw [List.getElem?_append_right (by simpa using hi'), List.length_replicate] at e2
      rw [List.getElem?_append_right hi'] at e1'
      obtain ⟨q1, q2, q3, q4⟩ := S.look _ x e1' (hv x e3)
      obtain ⟨u, r, l⟩ := hl (i - own.length) x v q1 e2 (q3.elim (fun z => .inr (.inl z)) fun z => .inr (.inr z))
      refine ⟨u, r, .inr ⟨?_, ?_⟩⟩
      · have e : (compCx X scope (own ++ rest) cl s2 H2 C fp).env.kindOf x = (relNames scope.names X.env.scope.names).lookup x := congrArg (List.lookup x) (relabel_names (sc := scope) I.ok.kind)
        rw [e]; exact q4
      · rcases l with ⟨k, _⟩ | ⟨_, c, e, z⟩
        · have k' : X.env.scope.names.lookup x = some .local := k
          rcases q3 with q3 | q3 <;> (rw [q3] at k'; cases k')
        · obtain ⟨c', e'⟩ := hc2 x q2
          have e2 := hc1 x c' e'
          rw [e] at e2; cases e2
          obtain ⟨o, q, d⟩ := z
          exact ⟨c, e', o, old c o q, d⟩
  · obtain ⟨v, o, q, d⟩ := I.cell x c (hc1 x c e)
    exact ⟨v, o, old c o q, d⟩
  · show _ = (own ++ rest).length
    have := I.len; have := S.len
    simp only [List.length_append, List.length_replicate]; omega
theorem comp_end {H' : Hp} {s' : Shared} {σ' : St} {D : Addr} {ys : List V} {its : List Value} {n : Nat} {pins' : List (Addr × Obj)} (I : Inv X pins σ H2 s2) (J : Inv (compCx X scope (own ++ rest) cl s2 H2 C fp) pins' σ' H' s') (hf : ∀ b ∈ fp, FpOk X pins H2 b)
    (hD : s2.heap.objs.size ≤ D) (hDn : H' D = none) (hDo : s'.heap.get? D = some { cls := .type "list", data := .seq its.toArray n }) (r : Vals ys its) (hz : ys.length ≤ sizeLine) :
    Inv X pins σ (upd H' D (.lst ys)) s' := by
  have u : Un (frs X.stack) fp H2 H' s2.heap s'.heap := J.base
  have nD : ∀ b o, s2.heap.get? b = some o → b ≠ D := fun b o e => Nat.ne_of_lt (Nat.lt_of_lt_of_le (Heap.lt_size e) hD)
  refine I.call' (ch := fp) J.os ⟨u.keep, u.slot, fun b o e n hx => ?_, u.there, fun b xs e => ?_, fun b o v e => ?_, fun b ps e => ?_⟩ (fun b o e => ?_) J.bare fun b hb => ?_
  · rw [upd_ne (nD b o e)]; exact u.free b o e n hx
  · rw [upd_ne (ne_of_none (u.tups b xs e) hDn)]; exact u.tups b xs e
  · rw [upd_ne (ne_of_none (u.frzs b o v e) hDn)]; exact u.frzs b o v e
  · obtain ⟨more, q⟩ := u.tbls b ps e
    exact ⟨more, by rw [upd_ne (ne_of_none q hDn)]; exact q⟩
  · by_cases hb : b = D
    · subst hb; rw [upd_same] at e; cases e; exact ⟨hz, its, n, r, hDo⟩
    · rw [upd_ne hb] at e
      exact (J.hok b o e).stay (fun c v _ q => q) (fun c q => by rw [upd_ne (ne_of_none q hDn)]; exact q) fun c xs q => by rw [upd_ne (ne_of_none q hDn)]; exact q
  · obtain ⟨_, f1, _, f3, f4, f5⟩ := hf b hb
    exact ⟨f3, f1, f4, f5⟩
end
end L2
set_option maxHeartbeats 4000000
namespace L2
open PySem PySem.Spec PyProof.Rows
noncomputable def PTs (X : Cx) (ifs : List Expr) (t : TT) : Prop :=
  ∀ (pins : List (Addr × Obj)) (s : Shared) (σ : St) (H : Hp) (Q : Bool → Hp → Prop), Inv X pins σ H s → t σ H Q → wpAny (model X.prog X.w) X.A (runIfs ifs X.env) (TP X pins σ Q) X.xe s
noncomputable def tYes : TT := fun _ H Q => Q true H
theorem pts_nil {X : Cx} : PTs X [] tYes := fun _ _ _ H _ I h => wpAny_tests_nil ⟨H, I, h⟩
noncomputable def CompW (J : It) (g : TG) (tt : TT) (te : TE) (fin : List V → Hp → Prop) (σ0 : St) (H1 : Hp) : Prop :=
  ∃ W : Nat → Nat → List V → St → Hp → Prop, (∃ m, W 0 m [] σ0 H1) ∧ ∀ i m ys σ H, W i m ys σ H →
    (J.stop i H ∧ fin ys H) ∨ (J.go i H ∧ ys.length < sizeLine ∧ ∃ N : List V → St → Hp → Prop, (∀ ys' σ' H', N ys' σ' H' → ∃ m', m' < m ∧ W (i + 1) m' ys' σ' H') ∧
      ∀ x H', J.yld i H x H' → g x σ H' fun σ2 H2 => tt σ2 H2 fun b H3 => if b = true then te σ2 H3 fun y H4 => N (ys ++ [y]) σ2 H4 else N ys σ2 H3)
section
variable {X : Cx} {pins : List (Addr × Obj)} {σ : St} {H2 : Hp} {s2 : Shared} {scope : Scope} {own rest : List Str} {cl : List (Str × Addr)} {fp : List Addr} {E : Value → Shared → Prop}
theorem comp_run {elt tg iter : Expr} {ifs : List Expr} {pos : Pos} {J : It} {it : Addr} {tn : Nat → Heap → Prop} {g : TG} {tt : TT} {te : TE} {fin : List V → Hp → Prop} {RR : Value → Addr → Result → Shared → Prop} {D : Nat} (hD : s2.heap.objs.size = D) (hcalm : X.calm = true)
    (I : Inv X pins σ H2 s2) (S : CompSc scope X.env.scope X.N rest) (hc1 : ∀ n c, cl.lookup n = some c → X.env.cells.lookup n = some c) (hc2 : ∀ n, (n, NameKind.free) ∈ scope.names → ∃ c, cl.lookup n = some c)
    (T : Turn X.prog X.w X.K tg J fp it tn) (st : tn 0 s2.heap) (hf : ∀ b ∈ fp, FpOk X pins H2 b)
    (hg : PG (compCx X scope (own ++ rest) cl s2 H2 (D + 1 : Nat) fp) tg g) (ht : PTs (compCx X scope (own ++ rest) cl s2 H2 (D + 1 : Nat) fp) ifs tt)
    (he : PE (compCx X scope (own ++ rest) cl s2 H2 (D + 1 : Nat) fp) elt te)
    (hw : CompW J g tt te fin (List.replicate own.length none ++ σ) H2)
    (hR : ∀ (s' : Shared) (H' : Hp) (ys : List V), Inv X pins σ (upd H' D (.lst ys)) s' → (∃ m, s'.heap.Ns (D + 1 : Nat) m) → H' D = none → H' (D + 1 : Nat) = none → fin ys H' → RR (.ref D) (D + 1 : Nat) (.ok .next) s') :
    wpAny (model X.prog X.w) X.A (newList []) (fun acc s3 => wpAny (model X.prog X.w) X.A (newFunctionEnv scope X.env.globals cl [] X.env.qual none .none (some X.env)) (fun cenv s4 =>
      codeAny (model X.prog X.w) X.A (.compStart (.ListComp elt [⟨tg, iter, ifs, 0⟩] scope pos) 0 (.ref it) acc { cenv with scope := relabel scope X.env }) (RR acc cenv.locals) s4) E s3) E s2 := by
  refine wpAny_newObj_type (wpAny_newFunctionEnv S.cell (by intro y hy; simp at hy) (fun h1 hns hsb => ?_) S.kind)
  dsimp only at hns hsb ⊢
  generalize hHp : s2.heap.push { cls := .type "list", dict := none, data := .seq ([] : List Value).toArray } = Hp2 at hns hsb ⊢
  have hC : Hp2.objs.size = s2.heap.objs.size + 1 := by rw [← hHp, Heap.size_push]
  rw [hD] at hC
  rw [hC] at hns hsb ⊢
  rw [hD]
  have nDC : D ≠ D + 1 := Nat.ne_of_lt (Nat.lt_succ_self _)
  have below : ∀ b o, s2.heap.get? b = some o → b < D := fun b o e => by rw [← hD]; exact Heap.lt_size e
  have old : ∀ b o, s2.heap.get? b = some o → h1.get? b = some o := fun b o e => by
    exact hsb.extBut b o (Nat.ne_of_lt (Nat.lt_succ_of_lt (below b o e))) (Heap.get?_push_of_some _ (hHp ▸ Heap.get?_push_of_some _ e))
  have hDo : h1.get? D = some { cls := .type "list", data := .seq ([] : List Value).toArray 0 } :=
    hsb.extBut _ _ nDC (Heap.get?_push_of_some _ (by rw [← hHp, ← hD]; exact Heap.get?_push_size _ rfl))
  have hfo : ∀ b ∈ fp, ∃ o, s2.heap.get? b = some o := fun b hb => let ⟨o, e, _⟩ := T.obj 0 _ st b hb; ⟨o, e⟩
  have st1 : tn 0 h1 := T.keep _ _ _ st fun b hb o e => old b o e
  have J0 : Inv (compCx X scope (own ++ rest) cl s2 H2 (D + 1 : Nat) fp) [] (List.replicate own.length none ++ σ) H2 { s2 with heap := h1, toks := s2.toks } :=
    comp_start I S hc1 hc2 (by omega) hf hfo old hns
  have nfs : D ∉ (compCx X scope (own ++ rest) cl s2 H2 (D + 1 : Nat) fp).fs := fun z => by
    have z' : D ∈ frs X.stack := z
    rcases List.mem_cons.mp (I.stkSub D z') with q | q
    · exact Nat.lt_irrefl D (by have h := I.lt; rw [← q, hD] at h; exact h)
    · exact I.nofs (Nat.le_of_eq hD) q
  have ncl : ∀ x c, (compCx X scope (own ++ rest) cl s2 H2 (D + 1 : Nat) fp).env.cells.lookup x = some c → c ≠ D := fun x c e z => by
    obtain ⟨v, o, q, d⟩ := I.cell x c (hc1 x c e)
    exact Nat.ne_of_lt (below c o q) z
  have loop : ∀ s3 : Shared, s3 = { s2 with heap := h1, toks := s2.toks } →
      codeAny (model X.prog X.w) X.A (.compLoop (.ListComp elt [⟨tg, iter, ifs, 0⟩] scope pos) 0 (.ref it) (.ref D) (compEnvC scope cl (D + 1) X.env)) (RR (.ref D) (D + 1)) s3 := by
    rintro s3 rfl
    obtain ⟨W, ⟨m0, w0⟩, turn⟩ := hw
    refine comp_loop (fun m s' => ∃ (i : Nat) (ys : List V) (its : List Value) (n : Nat) (σ' : St) (H' : Hp), Inv (compCx X scope (own ++ rest) cl s2 H2 (D + 1 : Nat) fp) [] σ' H' s' ∧ tn i s'.heap ∧ (∀ b ∈ fp, H' b = none) ∧
      s'.heap.get? D = some { cls := .type "list", data := .seq its.toArray n } ∧ H' D = none ∧ Vals ys its ∧ ys.length ≤ sizeLine ∧ W i m ys σ' H') ?_ m0
      ⟨0, [], [], 0, _, H2, J0, st1, fun b hb => (hf b hb).1, hDo, by rw [← hD]; exact I.fresh, .nil, by simp, w0⟩
    rintro m s3 ⟨i, ys, its, n, σ3, H3, J3, st3, fr3, ho3, hn3, r3, z3, w3⟩
    have pin : ∀ {σ' : St} {H' : Hp} {s' : Shared}, Inv (compCx X scope (own ++ rest) cl s2 H2 (D + 1 : Nat) fp) [] σ' H' s' → s'.heap.get? D = some { cls := .type "list", data := .seq its.toArray n } → H' D = none →
        Inv (compCx X scope (own ++ rest) cl s2 H2 (D + 1 : Nat) fp) [(D, { cls := .type "list", data := .seq its.toArray n })] σ' H' s' := fun {σ' H' s'} K1 K2 K3 =>
      K1.pins_of fun p hp => by
        have e : p = (D, { cls := .type "list", data := .seq its.toArray n }) := by simpa using hp
        subst e
        exact ⟨K2, K3, nDC, nfs, fun v z => nomatch z⟩
    have fpk : ∀ {H' : Hp}, (∀ b ∈ fp, H' b = none) → ∀ b ∈ fp, FpOk (compCx X scope (own ++ rest) cl s2 H2 (D + 1 : Nat) fp) [(D, { cls := .type "list", data := .seq its.toArray n })] H' b := fun {H'} fr b hb => by
      obtain ⟨o, e⟩ := hfo b hb
      have lt := below b o e
      refine ⟨fr b hb, Nat.ne_of_lt (Nat.lt_succ_of_lt lt), ?_, .inl hb, fun x c q => (hf b hb).2.2.2.2.1 x c (hc1 x c q), fun p hp => ?_⟩
      · intro z
        have z' : b ∈ frs X.stack := z
        rcases List.mem_cons.mp (I.stkSub b z') with q | q
        · exact (hf b hb).2.1 q
        · exact (hf b hb).2.2.1 q
      · have e : p = (D, { cls := .type "list", data := .seq its.toArray n }) := by
          have hp' : p ∈ [(D, ({ cls := .type "list", data := .seq its.toArray n } : Obj))] := hp
          simpa using hp'
        subst e
        exact Nat.ne_of_gt lt
    have J3p := pin J3 ho3 hn3
    rcases turn i m ys σ3 H3 w3 with ⟨stop, q⟩ | ⟨go, hlt, N, hN, step⟩
    · refine thn (T.done (compCx X scope (own ++ rest) cl s2 H2 (D + 1 : Nat) fp) rfl rfl rfl hcalm i _ s3 σ3 H3 _ J3p (fpk fr3) st3 stop) fun r s4 ⟨hr, J4⟩ => ?_
      subst hr
      have ho4 := J4.pin _ (List.mem_append_right _ List.mem_cons_self)
      refine hR s4 H3 ys (comp_end I J4 hf (by omega) hn3 ho4.1 r3 z3) ?_ hn3 J4.free q
      obtain ⟨mm, hmm, _⟩ := J4.loc
      exact ⟨mm, hmm⟩
    · refine thn (T.item (compCx X scope (own ++ rest) cl s2 H2 (D + 1 : Nat) fp) rfl rfl rfl hcalm i _ s3 σ3 H3 _ J3p (fpk fr3) st3 go) fun r s4 ⟨u, hr, h4⟩ => ?_
      subst hr
      refine thn h4 fun _ s5 ⟨x, H5, J5, r5, y5, st5, fr5⟩ => ?_
      have J5' := J5.pinned (fpk fr5) (T.obj _ _ st5)
      refine thn (hg _ s5 σ3 H5 x u _ J5' r5 (step x H5 y5)) fun _ s6 ⟨σ6, H6, J6, q6⟩ => ?_
      refine thn (ht _ s6 σ6 H6 _ J6 q6) fun b s7 ⟨H7, J7, q7⟩ => ?_
      have stay : ∀ {σ' : St} {H' : Hp} {s' : Shared}, Inv (compCx X scope (own ++ rest) cl s2 H2 (D + 1 : Nat) fp) ([(D, { cls := .type "list", data := .seq its.toArray n })] ++ pinsAt fp s5.heap) σ' H' s' →
          Inv (compCx X scope (own ++ rest) cl s2 H2 (D + 1 : Nat) fp) [] σ' H' s' ∧ tn (i + 1) s'.heap ∧ (∀ b ∈ fp, H' b = none) ∧ s'.heap.get? D = some { cls := .type "list", data := .seq its.toArray n } ∧ H' D = none := fun {σ' H' s'} K1 => by
        refine ⟨K1.pins_of fun p hp => absurd hp (by simp), T.keep _ _ _ st5 fun b hb o e => (K1.pin (b, o) (List.mem_append_right _ (List.mem_append_right _ (mem_pinsAt hb e)))).1, fun b hb => ?_, ?_, ?_⟩
        · obtain ⟨o, e, d⟩ := T.obj _ _ st5 b hb
          exact (K1.pin (b, o) (List.mem_append_right _ (List.mem_append_right _ (mem_pinsAt hb e)))).2.1
        · exact (K1.pin (D, _) (List.mem_append_right _ (List.mem_append_left _ List.mem_cons_self))).1
        · exact (K1.pin (D, _) (List.mem_append_right _ (List.mem_append_left _ List.mem_cons_self))).2.1
      cases b with
      | false =>
        rw [if_neg Bool.false_ne_true] at q7 ⊢
        obtain ⟨k1, k2, k3, k4, k5⟩ := stay J7
        obtain ⟨m', hm, w'⟩ := hN _ _ _ q7
        exact ⟨m', hm, i + 1, ys, its, n, σ6, H7, k1, k2, k3, k4, k5, r3, z3, w'⟩
      | true =>
        rw [if_pos rfl] at q7 ⊢
        refine thn (he _ s7 σ6 H7 _ J7 q7) fun xv s8 ⟨y, H8, J8, r8, q8⟩ => ?_
        obtain ⟨k1, k2, k3, k4, k5⟩ := stay J8
        refine call_meets F.slot_list_append ⟨_, k4, rfl⟩ F.entry_list_append (F.args_list_append_2 _ _) (PySem.list_append D its.toArray n xv (by rw [List.size_toArray, ← r3.length]; omega)) ⟨k4, ?_⟩
        obtain ⟨m', hm, w'⟩ := hN _ _ _ q8
        have ho9 := PySem.IsL.update k4 (fun a => a.push xv)
        have ek : ∀ b o, b ≠ D → s8.heap.get? b = some o → (s8.heap.update D (Obj.mapSeq (fun a => a.push xv))).get? b = some o := fun b o hb e => (Heap.get?_update_other s8.heap (Obj.mapSeq _) (Ne.symm hb)).trans e
        refine ⟨m', hm, i + 1, ys ++ [y], its ++ [xv], (if ((its.toArray.push xv).size == its.toArray.size) = true then n else n + 1), σ6, H8, k1.turned (it := D) (t' := s8.toks) ek k5 nDC (.inr (show s2.heap.objs.size ≤ D by omega)) ncl (fun p hp => absurd (show p ∈ ([] : List (Addr × Obj)) from hp) (by simp)), ?_, k3, ?_, k5, r3.append (.cons r8 .nil), ?_, w'⟩
        · refine T.keep _ _ _ k2 fun b hb o e => ek b o ?_ e
          obtain ⟨o', e'⟩ := hfo b hb
          exact Nat.ne_of_lt (below b o' e')
        · have e2 : its.toArray.push xv = (its ++ [xv]).toArray := by simp
          rw [← e2]; exact ho9
        · simp only [List.length_append, List.length_cons, List.length_nil]; omega
  exact codeAny_compStart_list (loop _ rfl) (T.self X.A 0 _ _ _ st1 (loop _ rfl))
end
end L2
set_option maxHeartbeats 4000000
namespace L2
open PySem PySem.Spec PyProof.Rows
noncomputable def tComp (k : Nat) (wi : TI) (g : TG) (tt : TT) (te : TE) : TE := fun σ H Q => wi σ H fun J H1 => CompW J g tt te (fun ys H' => ∀ D, H' D = none → Q (.ref D) (upd H' D (.lst ys))) (List.replicate k none ++ σ) H1
section
variable {X : Cx} {elt tg iter : Expr} {ifs : List Expr} {scope : Scope} {pos : Pos} {wi : TI} {g : TG} {tt : TT} {te : TE}
theorem Inv.closed {pins : List (Addr × Obj)} {σ : St} {H : Hp} {s : Shared} {N rest : List Str} (I : Inv X pins σ H s) (S : CompSc scope X.env.scope N rest) :
    ∃ cl, closureFor scope X.env = pure cl ∧ (∀ n c, cl.lookup n = some c → X.env.cells.lookup n = some c) ∧ (∀ n, (n, NameKind.free) ∈ scope.names → ∃ c, cl.lookup n = some c) :=
  closure_of fun n z => I.ok.has n (S.free n z)
theorem Inv.letgo {pins pins' : List (Addr × Obj)} {σ σ' : St} {H H' : Hp} {s s' : Shared} {b : Addr} {h' : Heap} (I : Inv X pins σ H s) (J : Inv X pins σ' H' s') (hb : s.heap.objs.size ≤ b) (hn : H' b = none) (sb : Heap.SameBut b s'.heap h') : Inv X pins σ' H' { s' with heap := h' } := by
  obtain ⟨f0, f1, f2, f3, f4, f5⟩ := I.fpOk hb hn
  exact J.turned (t' := s'.toks) (fun c o hc e => (sb.2 c hc).trans e) f0 f1 f3 f4 f5
theorem pe_comp (own rest : List Str) (hcalm : X.calm = true) (S : CompSc scope X.env.scope X.N rest) (hi : PI X tg iter wi)
    (hg : ∀ cl s2 H2 C fp, PG (compCx X scope (own ++ rest) cl s2 H2 C fp) tg g) (ht : ∀ cl s2 H2 C fp, PTs (compCx X scope (own ++ rest) cl s2 H2 C fp) ifs tt) (he : ∀ cl s2 H2 C fp, PE (compCx X scope (own ++ rest) cl s2 H2 C fp) elt te)
    (hs : ∀ x, foldedSetIterable iter X.env x = pure x := by intro _; rfl) : PE X (.ListComp elt [⟨tg, iter, ifs, 0⟩] scope pos) (tComp own.length wi g tt te) := by
  intro pins s σ H Q I h
  obtain ⟨cl, hcl, hc1, hc2⟩ := I.closed S
  rw [eval_ListComp]
  refine wpAny_comprehension_free (use := none) rfl hs hcl S.kind S.loc (thn (hi pins s σ H _ I h) fun v s1 h1 => thn h1 fun itv s2 h2 => ?_)
  obtain ⟨it, fp, tn, J, H2, e, I2, T, st, hf, hw⟩ := h2
  subst e
  refine comp_run (RR := fun acc C => compPost (model X.prog X.w) X.A X.xe none (EP X pins σ Q) acc C) (D := s2.heap.objs.size) rfl hcalm I2 S hc1 hc2 T st hf (hg _ _ _ _ _) (ht _ _ _ _ _) (he _ _ _ _ _) hw ?_
  intro s' H' ys J' ⟨m, hm⟩ hD hC q
  refine ⟨m, hm, fun h' sb => ⟨.ref s2.heap.objs.size, _, I2.letgo (pins' := pins) (b := (s2.heap.objs.size + 1 : Nat)) J' (Nat.le_succ _) ?_ sb, rfl, q _ hD⟩⟩
  rw [upd_ne (Nat.ne_of_gt (Nat.lt_succ_self _))]; exact hC
theorem ps_comp {i : Nat} {y : Str} {py spos : Pos} (own rest : List Str) (hcalm : X.calm = true) (S : CompSc scope X.env.scope X.N rest) (hN : X.N.Nodup) (hy : X.N[i]? = some y) (hl : X.env.scope.names.lookup y = some .local) (hi : PI X tg iter wi)
    (hg : ∀ cl s2 H2 C fp, PG (compCx X scope (own ++ rest) cl s2 H2 C fp) tg g) (ht : ∀ cl s2 H2 C fp, PTs (compCx X scope (own ++ rest) cl s2 H2 C fp) ifs tt) (he : ∀ cl s2 H2 C fp, PE (compCx X scope (own ++ rest) cl s2 H2 C fp) elt te)
    (hsw : swapsWith (.ListComp elt [⟨tg, iter, ifs, 0⟩] scope pos) (some (.Name y py)) spos.line X.env = pure true := by rfl)
    (hs : ∀ x, foldedSetIterable iter X.env x = pure x := by intro _; rfl) : PS X (.Assign [.Name y py] (.ListComp elt [⟨tg, iter, ifs, 0⟩] scope pos) spos) (tAsg (tComp own.length wi g tt te) (gName i)) := by
  intro pins s σ H D I h
  obtain ⟨cl, hcl, hc1, hc2⟩ := I.closed S
  rw [exec_Assign_Name_used _ _ _ _ hsw]
  refine wpAny_bind (wpAny_standAt (wpAny_bind ?_))
  show wpAny _ X.A (do let _ ← comprehension (.ListComp elt [⟨tg, iter, ifs, 0⟩] scope pos) scope X.env _ (newList []) false (eval iter X.env) (some (assign (.Name y py) X.env))) _ _ s
  refine wpAny_bind (wpAny_mono (wpAny_comprehension_free (use := some (assign (.Name y py) X.env)) (Q := fun _ s' => SP X pins D .next s') rfl hs hcl S.kind S.loc (thn (hi pins s σ H _ I h) fun v s1 h1 => thn h1 fun itv s2 h2 => ?_)) (fun _ s' hq => wpAny_pure (wpAny_pure hq)) fun _ _ e => e)
  obtain ⟨it, fp, tn, J, H2, e, I2, T, st, hf, hw⟩ := h2
  subst e
  refine comp_run (RR := fun acc C => compPost (model X.prog X.w) X.A X.xe (some (assign (.Name y py) X.env)) (fun _ s' => SP X pins D .next s') acc C) (D := s2.heap.objs.size) rfl hcalm I2 S hc1 hc2 T st hf (hg _ _ _ _ _) (ht _ _ _ _ _) (he _ _ _ _ _) hw ?_
  intro s' H' ys J' ⟨m, hm⟩ hD hC q
  show wpAny _ X.A (assign (.Name y py) X.env (.ref s2.heap.objs.size)) _ _ s'
  refine wpAny_assign_Name (store_ok2 (v := .ref s2.heap.objs.size) J' hN hy (.inl hl) rfl (fun s3 J3 ⟨a, sb, ha⟩ => ?_) (.inr hl))
  have hne : s2.heap.objs.size + 1 ≠ a := by
    rcases ha with ha | ha
    · rw [ha]; exact Nat.ne_of_gt (Nat.lt_succ_of_lt I2.lt)
    · obtain ⟨v, o, e, d⟩ := I2.cell y a ha
      exact Nat.ne_of_gt (Nat.lt_succ_of_lt (Heap.lt_size e))
  refine ⟨m, hm.sameBut sb hne, fun h' sb' => ⟨_, _, I2.letgo (pins' := pins) (b := (s2.heap.objs.size + 1 : Nat)) J3 (Nat.le_succ _) ?_ sb', q _ hD⟩⟩
  rw [upd_ne (Nat.ne_of_gt (Nat.lt_succ_self _))]; exact hC
end
structure Walk (J : It) (xs : List V) (ok : Hp → Prop) : Prop where
  go : ∀ i H, ok H → i < xs.length → J.go i H
  yld : ∀ i H x H', ok H → i < xs.length → J.yld i H x H' → H' = H ∧ xs[i]? = some x
  stop : ∀ H, ok H → J.stop xs.length H
theorem walk_list {K : PySem.W.Frag} {a : Addr} {xs : List V} : Walk (Itl K a) xs (fun H => SqL K H a xs) where
  go := fun i H q hi => ⟨xs, xs[i], q, by simp [hi]⟩
  yld := fun i H x H' q _ y => ⟨y.1, y.2 xs q⟩
  stop := fun H q => ⟨xs, q, Nat.le_refl _⟩
theorem walk_tup {K : PySem.W.Frag} {a : Addr} {xs : List V} : Walk (Itt K a) xs (fun H => SqT K H a xs) where
  go := fun i H q hi => ⟨xs, xs[i], q, by simp [hi]⟩
  yld := fun i H x H' q _ y => ⟨y.1, y.2 xs q⟩
  stop := fun H q => ⟨xs, q, Nat.le_refl _⟩
noncomputable def rangeV (lo : Int) (n : Nat) : List V := (List.range n).map fun (i : Nat) => V.int (lo + i)
theorem rangeV_len (lo : Int) (n : Nat) : (rangeV lo n).length = n := by simp [rangeV]
theorem rangeV_get {lo : Int} {n i : Nat} (h : i < n) : (rangeV lo n)[i]? = some (.int (lo + i)) := by simp [rangeV, h]
theorem walk_range {lo : Int} {n : Nat} : Walk (Itr lo n) (rangeV lo n) (fun _ => True) where
  go := fun i H _ hi => by rw [rangeV_len] at hi; exact hi
  yld := fun i H x H' _ hi y => ⟨y.1, by rw [rangeV_len] at hi; rw [rangeV_get hi, y.2]⟩
  stop := fun H _ => Nat.le_of_eq (rangeV_len lo n).symm
theorem for_walk {J : It} {xs : List V} {ok : Hp → Prop} (w : Walk J xs ok) {g : TG} {tb : TS} {D : Ends} {σ : St} {H : Hp} (Pv : Nat → St → Hp → Prop) (h0 : Pv 0 σ H) (hl : ∀ i σ H, i ≤ xs.length → Pv i σ H → ok H)
    (hs : ∀ i x σ H, xs[i]? = some x → Pv i σ H → g x σ H fun σ2 H2 => tb { D with nx := Pv (i + 1), ct := Pv (i + 1), bk := D.nx } σ2 H2) (hd : ∀ σ H, Pv xs.length σ H → D.nx σ H) :
    ∃ W : Nat → Nat → St → Hp → Prop, (∃ m, W 0 m σ H) ∧ ∀ i m σ H, W i m σ H →
      (J.stop i H ∧ D.nx σ H) ∨ (J.go i H ∧ ∃ N : St → Hp → Prop, (∀ σ' H', N σ' H' → ∃ m', m' < m ∧ W (i + 1) m' σ' H') ∧ ∀ x H', J.yld i H x H' → g x σ H' fun σ2 H2 => tb { D with nx := N, ct := N, bk := D.nx } σ2 H2) := by
  refine ⟨fun i m σ H => m = xs.length - i ∧ i ≤ xs.length ∧ Pv i σ H, ⟨xs.length, by simp, Nat.zero_le _, h0⟩, ?_⟩
  rintro i m σ H ⟨rfl, hi, p⟩
  have q := hl i σ H hi p
  by_cases hlt : i < xs.length
  · refine .inr ⟨w.go i H q hlt, Pv (i + 1), fun σ' H' p' => ⟨xs.length - (i + 1), by omega, rfl, hlt, p'⟩, fun x H' y => ?_⟩
    obtain ⟨e, y'⟩ := w.yld i H x H' q hlt y
    subst e
    exact hs i x σ _ y' p
  · have e : i = xs.length := by omega
    subst e
    exact .inl ⟨w.stop H q, hd σ H p⟩
theorem comp_walk {J : It} {xs : List V} {ok : Hp → Prop} (w : Walk J xs ok) {tt : TT} {te : TE} {fin : List V → Hp → Prop} {σ : St} {H : Hp} (hz : xs.length ≤ sizeLine) (Pv : Nat → List V → Hp → Prop) (h0 : Pv 0 [] H) (hl : ∀ i ys H, i ≤ xs.length → Pv i ys H → ok H)
    (hlen : ∀ i ys H, Pv i ys H → ys.length ≤ i)
    (hs : ∀ i x ys H, xs[i]? = some x → Pv i ys H → tt (some x :: σ) H fun b H3 => if b = true then te (some x :: σ) H3 fun y H4 => (∃ o, some x :: σ = o :: σ) ∧ Pv (i + 1) (ys ++ [y]) H4 else (∃ o, some x :: σ = o :: σ) ∧ Pv (i + 1) ys H3) (hd : ∀ ys H, Pv xs.length ys H → fin ys H) :
    CompW J (gName 0) tt te fin (List.replicate 1 none ++ σ) H := by
  refine ⟨fun i m ys σ' H => m = xs.length - i ∧ i ≤ xs.length ∧ (∃ o, σ' = o :: σ) ∧ Pv i ys H, ⟨xs.length, by simp, Nat.zero_le _, ⟨none, rfl⟩, h0⟩, ?_⟩
  rintro i m ys σ' H ⟨rfl, hi, ⟨o, rfl⟩, p⟩
  have hy := hlen i ys H p
  have q := hl i ys H hi p
  by_cases hlt : i < xs.length
  · refine .inr ⟨w.go i H q hlt, by omega, fun ys' σ' H' => (∃ o, σ' = o :: σ) ∧ Pv (i + 1) ys' H', fun ys' σ' H' p' => ⟨xs.length - (i + 1), by omega, rfl, hlt, p'⟩, fun x H' y => ?_⟩
    obtain ⟨e, y'⟩ := w.yld i H x H' q hlt y
    subst e
    exact hs i x ys _ y' p
  · have e : i = xs.length := by omega
    subst e
    exact .inl ⟨w.stop H q, hd ys H p⟩
end L2
set_option maxHeartbeats 4000000
namespace L2
open PySem PySem.Spec PyProof.Rows
noncomputable def sgn (c : Nat) : V := .str ⟨#[c]⟩
noncomputable def Its (z : Str) : It := ⟨fun i _ => i < z.cps.size, fun i H x H' => H' = H ∧ ∃ c, z.cps[i]? = some c ∧ x = sgn c, fun i _ => i = z.cps.size⟩
theorem turn_signs {P : Program} {w : World} {K : PySem.W.Frag} {tg : Expr} {it : Addr} {T : String} {z : Str} {t : Tok} (hT : ["enumerate", "zip", "dict_itemiterator", "dict_reverseitemiterator", "odict_iterator", "itertools.zip_longest", "itertools.pairwise"].contains T = false)
    (W : ∀ A : Around, A.handled = none → Walks P w A it [it] [it] z.cps.size (SignAt z) (fun i h => h.IsStrIter it T z t i)) (S : ∀ (A : Around) (i : Nat) (s : Shared) (Q : Value → Shared → Prop) (E : Value → Shared → Prop), s.heap.IsStrIter it T z t i → Q (.ref it) s → wpAny (model P w) A (pyIter (.ref it)) Q E s) :
    Turn P w K tg (Its z) [it] it (fun i h => h.IsStrIter it T z t i) where
  mem := by simp
  obj := fun i h st b hb => by
    have e : b = it := by simpa using hb
    subst e
    obtain ⟨o, e, c, d⟩ := st
    exact ⟨o, e, fun v z => by rw [d] at z; cases z⟩
  keep := fun i h h' st k => by obtain ⟨o, e, r⟩ := st; exact ⟨o, k it (by simp) o e, r⟩
  item := by
    intro X hP hw hK hc i pins s σ H E I hf st hg
    subst hP hw hK
    obtain ⟨f0, f1, f2, f3, f4, f5⟩ := hf it (by simp)
    refine (W X.A (I.ok.hd hc)).item i s _ E hg st fun v h' tk hP st' k => ?_
    obtain ⟨c, u, hcu, rfl⟩ := hP
    have I1 : Inv X pins σ H { s with heap := h', toks := tk } := I.turned (t' := tk) (fun b o hb e => k b o (by simpa using hb) e) f0 f1 f3 f4 f5
    obtain ⟨o, e, c', d⟩ := id st'
    exact ⟨_, rfl, go_of (s := { s with heap := h', toks := tk }) e c' d hT ⟨sgn c, H, I1, ⟨u, rfl⟩, ⟨rfl, c, hcu, rfl⟩, st', fun b hb => (hf b hb).1⟩⟩
  done := by
    intro X hP hw hK hc i pins s σ H E I hf st hg
    subst hP hw hK
    obtain ⟨f0, f1, f2, f3, f4, f5⟩ := hf it (by simp)
    have hg' : i = z.cps.size := hg
    subst hg'
    exact (W X.A (I.ok.hd hc)).done s _ E st fun h' tk k => ⟨rfl, I.turned (t' := tk) (fun b o hb e => k b o (by simpa using hb) e) f0 f1 f3 f4 f5⟩
  self := fun A i s Q E st h => S A i s Q E st h
section
variable {X : Cx} {tg : Expr}
noncomputable def iStr (tl : TE) : TI := fun σ H R => tl σ H fun x H1 => ∃ z, x = .str z ∧ R (Its z) H1
theorem pi_str {l : Expr} {tl : TE} (hl : PE X l tl) : PI X tg l (iStr tl) := by
  intro pins s σ H R I h
  refine thn (hl pins s σ H _ I h) fun v s1 ⟨x, H1, I1, r1, q1⟩ => ?_
  obtain ⟨z, e, q⟩ := q1
  subst e
  obtain ⟨t, rfl⟩ := r1
  have fp : ∀ (o : Obj), ∀ b ∈ [s1.heap.objs.size], FpOk X pins H1 b := fun o b hb => by
    have e : b = s1.heap.objs.size := by simpa using hb
    subst e
    exact I1.fpOk (Nat.le_refl _) (I1.hok.fresh (Nat.le_refl _))
  cases ha : z.cps.all (· < 128)
  · refine wpAny_pyIter_wide ha ?_
    exact ⟨s1.heap.objs.size, [s1.heap.objs.size], _, _, H1, rfl, I1.kept (t' := s1.toks) fun b o e => Heap.get?_push_of_some _ e,
      turn_signs (by decide) (fun A hA => Walks.strWide hA _ z t) (fun _ _ _ _ _ st h => wpAny_pyIter_striter_wide st h), ⟨_, Heap.get?_push_size _ rfl, rfl, rfl⟩, fp default, q⟩
  · refine wpAny_pyIter_ascii ha ?_
    exact ⟨s1.heap.objs.size, [s1.heap.objs.size], _, _, H1, rfl, I1.kept (t' := s1.toks) fun b o e => Heap.get?_push_of_some _ e,
      turn_signs (by decide) (fun A hA => Walks.strAscii hA _ z t) (fun _ _ _ _ _ st h => wpAny_pyIter_striter_ascii st h), ⟨_, Heap.get?_push_size _ rfl, rfl, rfl⟩, fp default, q⟩
end
noncomputable def signsV (z : Str) : List V := z.cps.toList.map sgn
theorem signsV_len (z : Str) : (signsV z).length = z.length := by simp [signsV, Str.length]
mutual
noncomputable def Rep (K : PySem.W.Frag) (H : Hp) : PyData → V → Prop
  | .none, v => v = .non
  | .bool b, v => v = .bl b
  | .int i, v => v = .int i
  | .str x, v => v = .str x
  | .list ds, v => ∃ a xs, v = .ref a ∧ SqL K H a xs ∧ Reps K H ds xs
  | .tuple ds, v => ∃ a xs, v = .ref a ∧ SqT K H a xs ∧ Reps K H ds xs
  | .dict _, _ => False
noncomputable def Reps (K : PySem.W.Frag) (H : Hp) : List PyData → List V → Prop
  | [], vs => vs = []
  | d :: ds, vs => ∃ v r, vs = v :: r ∧ Rep K H d v ∧ Reps K H ds r
end
section
variable {X : Cx} {pins : List (Addr × Obj)} {σ : St} {H : Hp} {s : Shared}
mutual
theorem Rep.reads (I : Inv X pins σ H s) : ∀ (d : PyData) (v : V) (u : Value), Rep X.K H d v → RelV v u → ∃ as, Reads s.heap u d as
  | .none, v, u, h, r => by
    have e : v = .non := by simpa [Rep] using h
    subst e; cases r; exact ⟨_, .none⟩
  | .bool b, v, u, h, r => by
    have e : v = .bl b := by simpa [Rep] using h
    subst e; cases r; exact ⟨_, .bool b⟩
  | .int i, v, u, h, r => by
    have e : v = .int i := by simpa [Rep] using h
    subst e; obtain ⟨t, rfl⟩ := r; exact ⟨_, .int i t⟩
  | .str x, v, u, h, r => by
    have e : v = .str x := by simpa [Rep] using h
    subst e; obtain ⟨t, rfl⟩ := r; exact ⟨_, .str x t⟩
  | .list ds, v, u, h, r => by
    obtain ⟨a, xs, rfl, hs, hr⟩ : ∃ a xs, v = .ref a ∧ SqL X.K H a xs ∧ Reps X.K H ds xs := by simpa only [Rep] using h
    cases r
    obtain ⟨its, rv, p, hz⟩ := I.list hs
    obtain ⟨o, ho, hc, n, hd⟩ := p.isList
    obtain ⟨as, q⟩ := Reps.reads I ds xs its hr rv
    exact ⟨_, .list ho hc hd (by simpa using q)⟩
  | .tuple ds, v, u, h, r => by
    obtain ⟨a, xs, rfl, hs, hr⟩ : ∃ a xs, v = .ref a ∧ SqT X.K H a xs ∧ Reps X.K H ds xs := by simpa only [Rep] using h
    cases r
    obtain ⟨its, rv, p, hz⟩ := I.tuple hs
    obtain ⟨o, ho, hc, n, hd⟩ := p
    obtain ⟨as, q⟩ := Reps.reads I ds xs its hr rv
    exact ⟨_, .tuple ho hc hd (by simpa using q)⟩
  | .dict _, v, u, h, r => by simp [Rep] at h
theorem Reps.reads (I : Inv X pins σ H s) : ∀ (ds : List PyData) (vs : List V) (us : List Value), Reps X.K H ds vs → Vals vs us → ∃ as, ReadsAll s.heap us ds as
  | [], vs, us, h, r => by
    have e : vs = [] := by simpa [Reps] using h
    subst e; cases r; exact ⟨_, .nil⟩
  | d :: ds, vs, us, h, r => by
    obtain ⟨v, q, rfl, h1, h2⟩ : ∃ v r, vs = v :: r ∧ Rep X.K H d v ∧ Reps X.K H ds r := by simpa only [Reps] using h
    cases r with
    | cons r1 r2 =>
      obtain ⟨as, q1⟩ := Rep.reads I d v _ h1 r1
      obtain ⟨bs, q2⟩ := Reps.reads I ds q _ h2 r2
      exact ⟨_, .cons q1 q2⟩
end
end
section
variable {X : Cx}
noncomputable def rEqD (K : PySem.W.Frag) (neg : Bool) : R2 := fun x y H Q => ∃ d e, Rep K H d x ∧ Rep K H e y ∧ SeqAt.shaped d = true ∧ SeqAt.shaped e = true ∧ Q (.bl (if neg then !PyData.eqv d e else PyData.eqv d e)) H
theorem op_neD (hu : X.A.units + 64 < cLine) : OpR X (compareOp .NotEq) (rEqD X.K true) := by
  intro pins s σ H x y v u Q I rx ry h
  obtain ⟨d, e, h1, h2, h3, h4, q⟩ := h
  obtain ⟨as, q1⟩ := Rep.reads I d x v h1 rx
  obtain ⟨bs, q2⟩ := Rep.reads I e y u h2 ry
  exact ne_dataH q1 q2 h3 h4 hu (fin_bl I q rfl)
noncomputable def rIsi (K : PySem.W.Frag) : List V → Hp → VK → Prop := fun xs H Q => ∃ x T t b, xs = [x, .ty T] ∧ TyOf K H x t ∧ PySem.W.kitOne K t (.type T) = some b ∧ Q (.bl b) H
theorem call_isi : CallR X (.builtin "isinstance") (rIsi X.K) := by
  intro pins s σ H xs us Q I r h
  obtain ⟨x, T, t, b, rfl, ty, e, q⟩ := h
  obtain ⟨u, c, rfl, ru, rc⟩ := vals2 r
  cases rc
  exact isinst_ok I ru ty e fun tk => ⟨.bl b, H, I.tok _, rfl, q⟩
theorem bools_of : ∀ {bs : List Bool} {us : List Value}, Vals (bs.map V.bl) us → LSm.BoolsAre us bs
  | [], _, .nil => .nil
  | _ :: _, _, .cons r t => by cases r; exact .cons _ (bools_of t)
noncomputable def rAll (K : PySem.W.Frag) (g : List Bool → Bool) : List V → Hp → VK → Prop := fun xs H Q => ∃ a bs, xs = [.ref a] ∧ SqL K H a (bs.map V.bl) ∧ Q (.bl (g bs)) H
theorem call_all (hc : X.calm = true) : CallR X (.builtin "all") (rAll X.K fun bs => bs.all id) := by
  intro pins s σ H xs us Q I r h
  obtain ⟨a, bs, rfl, hs, q⟩ := h
  obtain ⟨u, rfl, ru⟩ := vals1 r
  cases ru
  obtain ⟨its, rv, p, hz⟩ := I.list hs
  have hl := p.isList
  have hb := bools_of rv
  have hlt : a < s.heap.objs.size := by obtain ⟨_, e, _⟩ := hl; exact Heap.lt_size e
  refine call_all_walk (wpAny_pyIter_list hl ?_)
  refine ⟨s.heap.objs.size, [s.heap.objs.size, a], [s.heap.objs.size], its.toArray.size, _, _, fun i => (bs[i]?).getD true, rfl, Walks.list (A := X.A.in1) (I.ok.hd hc) _ a (Nat.ne_of_lt hlt) its.toArray,
    ⟨⟨_, Heap.get?_push_size _ rfl, rfl, rfl⟩, hl.push _⟩, fun i v s' Q' E' hP hQ => ?_, fun h' tk hk => ?_⟩
  · obtain ⟨b, e, rfl⟩ := hb.get i v (by simpa using hP)
    simp only [e, Option.getD_some] at hQ
    exact wpAny_truthy_bool hQ
  · have e : ((List.range its.toArray.size).all fun i => (bs[i]?).getD true) = bs.all id := by
      rw [List.size_toArray, hb.length]; exact LSm.range_all bs
    rw [e]
    exact ⟨.bl (bs.all id), H, I.kept (LSm.kept_iter hk), rfl, q⟩
theorem strs_of : ∀ {ys : List Str} {us : List Value}, Vals (ys.map V.str) us → StrsAre us ys
  | [], _, .nil => .nil
  | _ :: _, _, .cons r t => by obtain ⟨k, rfl⟩ := r; exact .cons _ _ (strs_of t)
noncomputable def rJoin (K : PySem.W.Frag) : V → List V → Hp → VK → Prop := fun x vs H Q => ∃ z a ys, x = .str z ∧ vs = [.ref a] ∧ SqL K H a (ys.map V.str) ∧ (ys.map (·.length)).sum + ys.length * z.length ≤ 16777216 ∧ Q (.str (Txt.join z ys)) H
theorem mt_join : MtR X "str.join" (rJoin X.K) := by
  intro pins s σ H x vs v us Q I rx rv h
  obtain ⟨z, a, ys, rfl, rfl, hs, hz, q⟩ := h
  obtain ⟨t, rfl⟩ := rx
  obtain ⟨u, rfl, ru⟩ := rv.one
  cases ru
  obtain ⟨its, r2, p, _⟩ := I.list hs
  exact join_list p.isList (by simpa using strs_of r2) hz fun t' k => ⟨.str _, H, I.tok _, ⟨_, rfl⟩, q⟩
end
end L2
set_option maxHeartbeats 4000000
namespace L2
open PySem PySem.Spec PyProof.Rows
section
variable {X : Cx}
structure DefOk (K : PySem.W.Frag) (mg : Str → Option Value) (x : Str) (st : Stmt) (ps : List Str) (f : Addr) (fd : FuncData) : Prop where
  F : Fun K x x st f fd
  b : Binds K fd ps []
  m : mg x = some (.ref f)
theorem pvl (i : Nat) {x : Str} {pos : Pos} (hN : X.N[i]? = some x := by rfl) (hv : X.env.scope.names.lookup x = some .local := by rfl) (hd : (x == ("__debug__" : Str)) = false := by decide) (hcd : (x == ("__classdict__" : Str)) = false := by decide) : PE X (.Name x pos) (tVar i) := pe_var hN (.inl hv) hd hcd
theorem pvc (i : Nat) {x : Str} {pos : Pos} (hN : X.N[i]? = some x := by rfl) (hv : X.env.scope.names.lookup x = some .cell := by rfl) (hd : (x == ("__debug__" : Str)) = false := by decide) (hcd : (x == ("__classdict__" : Str)) = false := by decide) : PE X (.Name x pos) (tVar i) := pe_var hN (.inr (.inl hv)) hd hcd
theorem pgl (i : Nat) {x : Str} {pos : Pos} (hN : X.N.Nodup) (hi : X.N[i]? = some x := by rfl) (hv : X.env.scope.names.lookup x = some .local := by rfl) : PG X (.Name x pos) (gName i) := pg_name hN hi (.inl hv) (.inr hv)
theorem psl (i : Nat) {x : Str} {pos pos' : Pos} {e : Expr} {te : TE} (hN : X.N.Nodup) (he : PE X e te) (hi : X.N[i]? = some x := by rfl) (hv : X.env.scope.names.lookup x = some .local := by rfl) (hs : swapsWith e (some (.Name x pos')) pos.line X.env = pure false := by rfl) :
    PS X (.Assign [.Name x pos'] e pos) (tAsg te (gName i)) := ps_set hN hi (.inl hv) he hs (.inr hv)
theorem psc (i : Nat) {x : Str} {pos pos' : Pos} {e : Expr} {te : TE} (hN : X.N.Nodup) (he : PE X e te) (hi : X.N[i]? = some x := by rfl) (hv : X.env.scope.names.lookup x = some .cell := by rfl) (hs : swapsWith e (some (.Name x pos')) pos.line X.env = pure false := by rfl) (hf : X.fn x = true := by rfl) :
    PS X (.Assign [.Name x pos'] e pos) (tAsg te (gName i)) := ps_set hN hi (.inr hv) he hs (.inl hf)
theorem pgi {x : Str} {i : Int} {pos : Pos} (hm : ∃ tk, X.mg x = some (.int i tk)) (hg : Gl X x := by rfl) (hd : (x == ("__debug__" : Str)) = false := by decide) : PE X (.Name x pos) (tC (.int i)) := let ⟨t, e⟩ := hm; pe_glob hg e ⟨t, rfl⟩ hd
theorem pgs {x : Str} {z : Str} {pos : Pos} (hm : ∃ tk, X.mg x = some (.str z tk)) (hg : Gl X x := by rfl) (hd : (x == ("__debug__" : Str)) = false := by decide) : PE X (.Name x pos) (tC (.str z)) := let ⟨t, e⟩ := hm; pe_glob hg e ⟨t, rfl⟩ hd
theorem pty {x : Str} {T : String} {pos : Pos} (hm : X.mg x = none) (hv : bootBuiltins x = some (.type T)) (hg : Gl X x := by rfl) (hn : x ≠ "__name__" := by decide) (hd : (x == ("__debug__" : Str)) = false := by decide) : PE X (.Name x pos) (tC (.ty T)) := pe_bltn hg hm hv rfl hn hd
end
theorem Same.new {H H' : Hp} (e : Same H H') {p : Addr} (h : H' p = none) (o : HO) : Same H (upd H' p o) := fun b q z => by
  rw [upd_ne (ne_of_none (e b q z) h)]; exact e b q z
theorem Same.upd_new {H : Hp} {p : Addr} (h : H p = none) (o : HO) : Same H (upd H p o) := (Same.refl H).new h o
theorem Same.set {H H' : Hp} (e : Same H H') {p : Addr} (h : H p = none) (o : HO) : Same H (upd H' p o) := fun b q z => by
  rw [upd_ne (ne_of_none z h)]; exact e b q z
theorem Same.seqT {K : PySem.W.Frag} {H H' : Hp} {a : Addr} {xs : List V} (e : Same H H') (h : SqT K H a xs) : SqT K H' a xs := by
  rcases h with (h | ⟨o, h⟩) | h
  · exact .inl (.inl (e _ _ h))
  · exact .inl (.inr ⟨o, e _ _ h⟩)
  · exact .inr h
end L2
set_option maxHeartbeats 4000000
namespace L2
open PySem PySem.Spec PyProof.Rows
theorem bt_len : bootBuiltins "len" = some (.builtin "len") := by decide +kernel
theorem bt_all : bootBuiltins "all" = some (.builtin "all") := by decide +kernel
theorem bt_abs : bootBuiltins "abs" = some (.builtin "abs") := by decide +kernel
theorem bt_isinstance : bootBuiltins "isinstance" = some (.builtin "isinstance") := by decide +kernel
theorem bt_int : bootBuiltins "int" = some (.type "int") := by decide +kernel
theorem bt_str : bootBuiltins "str" = some (.type "str") := by decide +kernel
theorem bt_list : bootBuiltins "list" = some (.type "list") := by decide +kernel
theorem bt_tuple : bootBuiltins "tuple" = some (.type "tuple") := by decide +kernel
theorem small_line {n : Nat} (h : n ≤ 1000000) : n ≤ sizeLine := by rw [sizeLine_eq]; omega
theorem walk_str {z : Str} : Walk (Its z) (signsV z) (fun _ => True) where
  go := fun i H _ hi => by rw [signsV_len] at hi; exact hi
  yld := fun i H x H' _ hi y => by
    obtain ⟨e, c, hc, hx⟩ := y
    refine ⟨e, ?_⟩
    rw [hx, signsV, List.getElem?_map]
    have : z.cps.toList[i]? = some c := by simpa using hc
    rw [this]; rfl
  stop := fun H _ => signsV_len z
theorem take_snoc {α : Type} {xs : List α} {i : Nat} {x : α} (h : xs[i]? = some x) : xs.take (i + 1) = xs.take i ++ [x] := by rw [List.take_add_one, h]; rfl
theorem comp_of {α : Type} {J : It} {as : List α} {g : α → V} {ok : Hp → Prop} (w : Walk J (as.map g) ok) {tt : TT} {te : TE} {fin : List V → Hp → Prop} {σ : St} {H : Hp} (hz : as.length ≤ sizeLine) (h0 : ∀ H', Same H H' → ok H') (p : α → Bool) (f : α → V)
    (ht : ∀ a H1 Q, a ∈ as → Same H H1 → (∀ H2, Same H1 H2 → Q (p a) H2) → tt (some (g a) :: σ) H1 Q)
    (he : ∀ a H1 Q, a ∈ as → p a = true → Same H H1 → (∀ H2, Same H1 H2 → Q (f a) H2) → te (some (g a) :: σ) H1 Q)
    (hd : ∀ H', Same H H' → fin ((as.filter p).map f) H') : CompW J (gName 0) tt te fin (none :: σ) H := by
  refine comp_walk w (by rw [List.length_map]; exact hz) (fun i ys H' => Same H H' ∧ ys = ((as.take i).filter p).map f) ⟨Same.refl H, rfl⟩ (fun i ys H' _ q => h0 H' q.1) (fun i ys H' q => ?_) (fun i x ys H' hx q => ?_) (fun ys H' q => ?_)
  · rw [q.2, List.length_map]
    exact Nat.le_trans (List.length_filter_le _ _) (by rw [List.length_take]; omega)
  · obtain ⟨s1, e⟩ := q
    rw [List.getElem?_map] at hx
    cases ha : as[i]? with
    | none => rw [ha] at hx; cases hx
    | some a =>
      rw [ha] at hx
      have hx' : g a = x := Option.some.inj hx
      subst hx'
      have hm : a ∈ as := List.mem_of_getElem? ha
      refine ht a H' _ hm s1 fun H2 s2 => ?_
      cases hp : p a with
      | false =>
        rw [if_neg Bool.false_ne_true]
        exact ⟨⟨_, rfl⟩, s1.trans s2, by rw [e, take_snoc ha, List.filter_append, List.map_append]; simp [hp]⟩
      | true =>
        rw [if_pos rfl]
        exact he a H2 _ hm hp (s1.trans s2) fun H3 s3 => ⟨⟨_, rfl⟩, (s1.trans s2).trans s3, by rw [e, take_snoc ha, List.filter_append, List.map_append]; simp [hp]⟩
  · obtain ⟨s1, e⟩ := q
    rw [e, List.length_map, List.take_length]
    exact hd H' s1
theorem filter_yes {α : Type} (as : List α) : as.filter (fun _ => true) = as := List.filter_eq_self.mpr fun _ _ => rfl
theorem in_sgn (g : Str) (c : Nat) : (!(Builtin.Str.occurrences g ⟨#[c]⟩ 0 g.length 1).isEmpty) = decide (c ∈ g.cps.toList) := PySem.StrLaws.found_one g c
noncomputable def plainTs : List String := ["NoneType", "bool", "int", "str", "list", "tuple", "dict"]
structure Pl (K : PySem.W.Frag) (H : Hp) (x : V) (T : String) : Prop where
  ty : TyOf K H x (.type T)
  mem : T ∈ plainTs
  sz : ∀ z, x = .str z → z.length ≤ sizeLine
noncomputable def isiN (T S : String) : Bool := T == S || (T == "bool" && S == "int")
theorem isi_plain {K : PySem.W.Frag} {T S : String} (hT : T ∈ plainTs) (hS : S ∈ plainTs) : PySem.W.kitOne K (.type T) (.type S) = some (isiN T S) := by
  simp only [plainTs, List.mem_cons, List.not_mem_nil, or_false] at hT hS
  rcases hT with rfl | rfl | rfl | rfl | rfl | rfl | rfl <;> rcases hS with rfl | rfl | rfl | rfl | rfl | rfl | rfl <;> rfl
theorem Pl.of_str {K : PySem.W.Frag} {H : Hp} {z : Str} (h : z.length ≤ sizeLine) : Pl K H (.str z) "str" := ⟨.str z, by decide, fun _ e => by cases e; exact h⟩
theorem Pl.of_int {K : PySem.W.Frag} {H : Hp} {i : Int} : Pl K H (.int i) "int" := ⟨.int i, by decide, fun _ e => by cases e⟩
theorem Pl.name {K : PySem.W.Frag} {H : Hp} {x : V} {T : String} (h : Pl K H x T) :
    (T = "NoneType" ∧ x = .non) ∨ (∃ b, T = "bool" ∧ x = .bl b) ∨ (∃ i, T = "int" ∧ x = .int i) ∨ (∃ z, T = "str" ∧ x = .str z ∧ z.length ≤ sizeLine) ∨ (∃ a, (T = "list" ∨ T = "tuple" ∨ T = "dict") ∧ x = .ref a) := by
  obtain ⟨ty, hm, hz⟩ := h
  generalize hv : Value.type T = t at ty
  cases ty with
  | non => cases hv; exact .inl ⟨rfl, rfl⟩
  | bl b => cases hv; exact .inr (.inl ⟨b, rfl, rfl⟩)
  | int i => cases hv; exact .inr (.inr (.inl ⟨i, rfl, rfl⟩))
  | str z => cases hv; exact .inr (.inr (.inr (.inl ⟨z, rfl, rfl, hz z rfl⟩)))
  | flt x => cases hv; simp [plainTs] at hm
  | lst e => cases hv; exact .inr (.inr (.inr (.inr ⟨_, .inl rfl, rfl⟩)))
  | frz e => cases hv; exact .inr (.inr (.inr (.inr ⟨_, .inl rfl, rfl⟩)))
  | tup e => cases hv; exact .inr (.inr (.inr (.inr ⟨_, .inr (.inl rfl), rfl⟩)))
  | dK e => cases hv; exact .inr (.inr (.inr (.inr ⟨_, .inr (.inr rfl), rfl⟩)))
  | dT e => cases hv; exact .inr (.inr (.inr (.inr ⟨_, .inr (.inr rfl), rfl⟩)))
  | ins e c h1 h2 h3 h4 => cases hv
noncomputable def rIsP (K : PySem.W.Frag) : List V → Hp → VK → Prop := fun xs H Q => ∃ x S T, xs = [x, .ty S] ∧ Pl K H x T ∧ S ∈ plainTs ∧ Q (.bl (isiN T S)) H
theorem call_isP {X : Cx} : CallR X (.builtin "isinstance") (rIsP X.K) := by
  intro pins s σ H xs us Q I r h
  obtain ⟨x, S, T, rfl, p, hS, q⟩ := h
  exact call_isi pins s σ H _ us Q I r ⟨x, S, .type T, _, rfl, p.ty, isi_plain p.mem hS, q⟩
end L2
set_option maxHeartbeats 4000000
namespace L2
open PySem PySem.Spec PyProof.Rows
section
variable {X : Cx}
noncomputable def rEqN (K : PySem.W.Frag) : R2 := fun x y H Q => ∃ a b xs, x = .ref a ∧ y = .ref b ∧ SqL K H a xs ∧ SqL K H b [] ∧ Q (.bl xs.isEmpty) H
theorem op_eq_nil (hu : X.A.units + 64 < cLine) : OpR X (compareOp .Eq) (rEqN X.K) := by
  intro pins s σ H x y v u Q I rx ry h
  obtain ⟨a, b, xs, rfl, rfl, h1, h2, q⟩ := h
  cases rx; cases ry
  obtain ⟨its, r1, p1, _⟩ := I.list h1
  obtain ⟨it2, r2, p2, _⟩ := I.list h2
  have e2 : it2 = [] := by cases r2; rfl
  subst e2
  have hl := r1.length
  cases xs with
  | nil =>
    have e1 : its = [] := by cases r1; rfl
    subst e1
    exact SeqAt.eq_listAt (e := fun _ => true) p1.isList p2.isList rfl (by omega) (fun j h1 _ => absurd h1 (by simp)) (fin_bl I q (by simp))
  | cons z zs =>
    refine SeqAt.eq_list_lengthsAt p1.isList p2.isList ?_ (by omega) (fin_bl I q rfl)
    rw [List.size_toArray, List.size_toArray, ← hl]; simp
end
theorem ixL_of {K : PySem.W.Frag} {H : Hp} {p : Addr} {xs : List V} {i : Int} {Q : VK} (h : SqL K H p xs) (h0 : 0 ≤ i) (h1 : i < xs.length) (q : ∀ v, xs[i.toNat]? = some v → Q v H) : rIxL K (.ref p) (.int i) H Q := by
  have hj : i.toNat < xs.length := by omega
  refine ⟨p, xs, i, xs[i.toNat], rfl, rfl, h, ?_, q _ (List.getElem?_eq_getElem hj)⟩
  have e := atI_nat (List.getElem?_eq_getElem hj)
  rwa [Int.toNat_of_nonneg h0] at e
theorem ixT_of {K : PySem.W.Frag} {H : Hp} {p : Addr} {xs : List V} {i : Int} {Q : VK} (h : SqT K H p xs) (h0 : 0 ≤ i) (h1 : i < xs.length) (q : ∀ v, xs[i.toNat]? = some v → Q v H) : rIxT K (.ref p) (.int i) H Q := by
  have hj : i.toNat < xs.length := by omega
  refine ⟨p, xs, i, xs[i.toNat], rfl, rfl, h, ?_, q _ (List.getElem?_eq_getElem hj)⟩
  have e := atI_nat (List.getElem?_eq_getElem hj)
  rwa [Int.toNat_of_nonneg h0] at e
theorem ixS_of {H : Hp} {z : Str} {i : Int} {Q : VK} (hz : z.length ≤ sizeLine) (h0 : 0 ≤ i) (h1 : i < z.length) (q : ∀ c, z.cps.toList[i.toNat]? = some c → Q (sgn c) H) : rIxS (.str z) (.int i) H Q := by
  have hl : z.cps.toList.length = z.length := by simp [Str.length]
  have hj : i.toNat < z.cps.toList.length := by omega
  refine ⟨z, i, z.cps.toList[i.toNat], rfl, rfl, hz, ?_, q _ (List.getElem?_eq_getElem hj)⟩
  have e := atI_nat (List.getElem?_eq_getElem hj)
  rwa [Int.toNat_of_nonneg h0] at e
theorem glue_go (parts : List Str) (acc : Array Nat) : (parts.foldl (fun acc p => acc ++ (#[] : Array Nat) ++ p.cps) acc).toList = acc.toList ++ (parts.map fun p => p.cps.toList).flatten := by
  induction parts generalizing acc with
  | nil => simp
  | cons a r ih => rw [List.foldl_cons, ih]; simp
theorem join_cps (parts : List Str) : (Txt.join (Str.ofString "") parts).cps.toList = (parts.map fun p => p.cps.toList).flatten := by
  show (Builtin.Str.glued (Str.ofString "") parts).cps.toList = _
  have e : (Str.ofString "").cps = #[] := by decide
  unfold Builtin.Str.glued
  rw [e]
  cases parts with
  | nil => rfl
  | cons a r =>
    show (r.foldl _ a.cps).toList = _
    rw [glue_go]; simp
theorem flat_signs : ∀ cs : List Nat, ((cs.map fun c => (⟨#[c]⟩ : Str)).map fun p => p.cps.toList).flatten = cs
  | [] => rfl
  | a :: r => by
    have ih := flat_signs r
    simp only [List.map_cons, List.flatten_cons, ih]
    rfl
theorem str_of_cps {z : Str} {cs : List Nat} (h : z.cps.toList = cs) : z = ⟨cs.toArray⟩ := by
  subst h
  cases z with
  | mk a => rfl
theorem join_signs (cs : List Nat) : Txt.join (Str.ofString "") (cs.map fun c => ⟨#[c]⟩) = ⟨cs.toArray⟩ :=
  str_of_cps ((join_cps (cs.map fun c => (⟨#[c]⟩ : Str))).trans (flat_signs cs))
theorem strs_of_signs (cs : List Nat) : cs.map sgn = (cs.map fun c => (⟨#[c]⟩ : Str)).map V.str := by rw [List.map_map]; rfl
theorem sum_ones (cs : List Nat) : ((cs.map fun c => (⟨#[c]⟩ : Str)).map (·.length)).sum = cs.length := by
  induction cs with
  | nil => rfl
  | cons a r ih => simp only [List.map_cons, List.sum_cons, ih, List.length_cons]; show 1 + _ = _; omega
theorem joinS_of {K : PySem.W.Frag} {H : Hp} {p : Addr} {cs : List Nat} {Q : VK} (h : SqL K H p (cs.map sgn)) (hl : cs.length ≤ 1000000) (q : Q (.str ⟨cs.toArray⟩) H) : rJoin K (.str (Str.ofString "")) [.ref p] H Q := by
  refine ⟨Str.ofString "", p, cs.map fun c => ⟨#[c]⟩, rfl, rfl, by rw [← strs_of_signs]; exact h, ?_, ?_⟩
  · rw [sum_ones, List.length_map]
    have e : (Str.ofString "").length = 0 := by decide
    rw [e]; omega
  · rw [join_signs]; exact q
end L2
set_option maxHeartbeats 4000000
namespace L2
open PySem PySem.Spec PyProof.Rows
section
variable {X : Cx} {K : PySem.W.Frag} (e : X.K = K)
include e
theorem k_isP : CallR X (.builtin "isinstance") (rIsP K) := by subst e; exact call_isP
theorem k_all (hc : X.calm = true) : CallR X (.builtin "all") (rAll K fun bs => bs.all id) := by subst e; exact call_all hc
noncomputable def rLenS (K : PySem.W.Frag) : List V → Hp → VK → Prop := fun xs H Q => ∃ p ys, xs = [.ref p] ∧ (SqL K H p ys ∨ SqT K H p ys) ∧ Q (.int ys.length) H
theorem k_len : CallR X (.builtin "len") (rLenS K) := by subst e; exact call_len_seq
noncomputable def rLenV (K : PySem.W.Frag) : List V → Hp → VK → Prop := fun xs H Q => ∃ x n, xs = [x] ∧ LenV K x H n ∧ Q (.int n) H
noncomputable def rListOf (K : PySem.W.Frag) : List V → Hp → VK → Prop := fun xs H Q => ∃ p ys, xs = [.ref p] ∧ (SqL K H p ys ∨ SqT K H p ys) ∧ ∀ l, H l = none → Q (.ref l) (upd H l (.lst ys))
theorem k_list : CallR X (.type "list") (rListOf K) := by subst e; exact call_list_of
noncomputable def rTupleOf (K : PySem.W.Frag) : List V → Hp → VK → Prop := fun xs H Q => ∃ p ys, xs = [.ref p] ∧ ((SqL K H p ys ∧ ∀ l, H l = none → Q (.ref l) (upd H l (.tup ys))) ∨ (SqT K H p ys ∧ Q (.ref p) H))
theorem k_tuple : CallR X (.type "tuple") (rTupleOf K) := by subst e; exact call_tuple_of
theorem k_ixL : IxR X (rIxL K) := by subst e; exact ix_list
theorem k_ixT : IxR X (rIxT K) := by subst e; exact ix_tup
theorem k_slL : SlR X (rSlL K) := by subst e; exact sl_list
theorem k_neD (hu : X.A.units + 64 < cLine) : OpR X (compareOp .NotEq) (rEqD K true) := by subst e; exact op_neD hu
theorem k_eqN (hu : X.A.units + 64 < cLine) : OpR X (compareOp .Eq) (rEqN K) := by subst e; exact op_eq_nil hu
theorem k_in : OpR X (compareOp .In) (rIn K false) := by subst e; exact op_in_seq
theorem k_join : MtR X "str.join" (rJoin K) := by subst e; exact mt_join
theorem k_piL {tg l : Expr} {tl : TE} (hl : PE X l tl) : PI X tg l (iList K tl) := by subst e; exact pi_list hl
theorem k_piT {tg l : Expr} {tl : TE} (hl : PE X l tl) : PI X tg l (iTup K tl) := by subst e; exact pi_tup hl
theorem k_pgT {es : List Expr} {k : Nat} {t : TGs} {n : Nat} {pos : Pos} (hc : X.calm = true) (h : PGs X es t) (hn : (assignEach es X.env).length = n := by rfl) (hst : (assignEach es X.env).findIdx? (·.1) = none := by rfl) : PG X (.Tuple es k pos) (gTup K n t) := by subst e; exact pg_tup hc h hn hst
theorem k_bm0 {o : Expr} {to : TE} {name : Str} {apos cpos : Pos} {T id : String} {r : V → List V → Hp → VK → Prop} (pa : PlainAttrs T) (slot : Slot T name id) (hty : typeOf (.builtin id) = pure (.type "method_descriptor")) (hm : MtR X id r) (ho : PE X o to)
    (hbase : attributeBase o name X.env (eval o X.env) = eval o X.env := by rfl) (hline : (apos.endLine == cpos.line) = true := by rfl) : PE X (.Call (.Attribute o name apos) [] [] cpos) (tBM0 K T r to) := by subst e; exact pe_bm0 pa slot hty hm ho hbase hline
theorem k_bm {o a : Expr} {es : List Expr} {to : TE} {t : TA} {name : Str} {apos cpos : Pos} {T id : String} {r : V → List V → Hp → VK → Prop} (pa : PlainAttrs T) (slot : Slot T name id) (hty : typeOf (.builtin id) = pure (.type "method_descriptor")) (hm : MtR X id r) (ho : PE X o to) (ha : PA X (a :: es) t)
    (hbase : attributeBase o name X.env (eval o X.env) = eval o X.env := by rfl)
    (hfew : ((backTo cpos (starEach (a :: es) X.env)).all (fun x => !x.1) && (backToKw cpos (keywordEach [] X.env)).all (fun x => x.1.isSome)
      && decide ((a :: es).length + ([] : List Keyword).length + (if ([] : List Keyword).isEmpty then 0 else 1) < 30)) = true := by rfl)
    (hline : (apos.endLine == cpos.line) = true := by rfl) (hs : starEach (a :: es) X.env = (false, eval a X.env) :: starEach es X.env := by rfl) (hplain : (backTo cpos (starEach es X.env)).any (·.1) = false := by rfl) :
    PE X (.Call (.Attribute o name apos) (a :: es) [] cpos) (tBM K T r to t) := by subst e; exact pe_bm pa slot hty hm ho ha hbase hfew hline hs hplain
end
end L2
namespace L2
open PySem PySem.Spec PyProof.Rows
noncomputable def notStar : Expr → Bool
  | .Starred _ _ => false
  | _ => true
theorem star_cons {e : Expr} {es : List Expr} {env : Env} (h : notStar e = true) : starEach (e :: es) env = (false, eval e env) :: starEach es env := by
  cases e <;> first | rfl | cases h
theorem star_none {env : Env} : ∀ {es : List Expr}, es.all notStar = true → (starEach es env).any (·.1) = false
  | [], _ => rfl
  | e :: es, h => by
    rw [List.all_cons, Bool.and_eq_true] at h
    rw [star_cons h.1, List.any_cons, star_none h.2]; rfl
theorem back_none {env : Env} {pos : Pos} {es : List Expr} (h : es.all notStar = true) : (backTo pos (starEach es env)).any (·.1) = false := by
  have := star_none (env := env) h
  unfold backTo
  rw [List.any_map]
  exact this
section
variable {X : Cx} {e : Expr} {es : List Expr} {te : TE} {t : TA}
theorem pal (hn : notStar e = true) (ha : PE X e te) (hr : PA X es t) : PA X (e :: es) (tCons te t) := pa_cons ha hr (star_cons hn)
theorem pe_defL {x : Str} {st : Stmt} {ps : List Str} {f : Addr} {fd : FuncData} {k : Nat} {sp : Sp} {p pos : Pos} (D : DefOk X.K X.mg x st ps f fd) (G : FnOk X.prog X.w X.K X.mg X.base CX0 k f fd ps sp) (hr : Room k X.A)
    (hg : Gl X x) (hdb : (x == ("__debug__" : Str)) = false) (hn : (e :: es).all notStar = true) (ha : PA X (e :: es) t) :
    PE X (.Call (.Name x p) (e :: es) [] pos) (tCall sp [] E0 t) :=
  have h : notStar e = true ∧ es.all notStar = true := by rw [List.all_cons, Bool.and_eq_true] at hn; exact hn
  pe_call G hr hg D.m D.F.kp D.b .nil pass0 ha hdb (star_cons h.1) (back_none h.2)
theorem pe_cB {x : Str} {p pos : Pos} {id : String} {r : List V → Hp → VK → Prop} (hc : CallR X (.builtin id) r) (hm : X.mg x = none) (hv : bootBuiltins x = some (.builtin id)) (hg : Gl X x) (hn : x ≠ "__name__") (hdb : (x == ("__debug__" : Str)) = false)
    (hs : (e :: es).all notStar = true) (ha : PA X (e :: es) t) : PE X (.Call (.Name x p) (e :: es) [] pos) (tCB r t) :=
  have h : notStar e = true ∧ es.all notStar = true := by rw [List.all_cons, Bool.and_eq_true] at hs; exact hs
  pe_callB hc hg hm hv ha hn hdb (star_cons h.1) (back_none h.2)
theorem pe_cTy {x : Str} {p pos : Pos} {T : String} {r : List V → Hp → VK → Prop} (hc : CallR X (.type T) r) (hm : X.mg x = none) (hv : bootBuiltins x = some (.type T)) (hg : Gl X x) (hn : x ≠ "__name__") (hdb : (x == ("__debug__" : Str)) = false)
    (hs : (e :: es).all notStar = true) (ha : PA X (e :: es) t) : PE X (.Call (.Name x p) (e :: es) [] pos) (tCB r t) :=
  have h : notStar e = true ∧ es.all notStar = true := by rw [List.all_cons, Bool.and_eq_true] at hs; exact hs
  pe_callTy hc hg hm hv ha hn hdb (star_cons h.1) (back_none h.2)
theorem back_all {env : Env} {pos : Pos} {es : List Expr} (h : es.all notStar = true) : (backTo pos (starEach es env)).all (fun x => !x.1) = true := by
  have := back_none (env := env) (pos := pos) h
  rw [List.any_eq_false] at this
  rw [List.all_eq_true]
  intro x hx
  have := this x hx
  simpa using this
theorem k_bmL {K : PySem.W.Frag} {o a : Expr} {to : TE} {name : Str} {apos cpos : Pos} {T id : String} {r : V → List V → Hp → VK → Prop} (ek : X.K = K) (pa : PlainAttrs T) (slot : Slot T name id) (hty : typeOf (.builtin id) = pure (.type "method_descriptor")) (hm : MtR X id r)
    (hbase : attributeBase o name X.env (eval o X.env) = eval o X.env) (hs : (a :: es).all notStar = true) (hsz : decide ((a :: es).length + 0 + 0 < 30) = true) (hline : (apos.endLine == cpos.line) = true) (ho : PE X o to) (ha : PA X (a :: es) t) :
    PE X (.Call (.Attribute o name apos) (a :: es) [] cpos) (tBM K T r to t) :=
  have h : notStar a = true ∧ es.all notStar = true := by rw [List.all_cons, Bool.and_eq_true] at hs; exact hs
  k_bm ek pa slot hty hm ho ha hbase (by rw [back_all hs]; exact hsz) hline (star_cons h.1) (back_none h.2)
end
end L2
namespace L2
open PySem PySem.Spec PyProof.Rows
noncomputable def ForW (J : It) (g : TG) (tb : TS) (D : Ends) (σ : St) (H1 : Hp) : Prop := ∃ W : Nat → Nat → St → Hp → Prop, (∃ m, W 0 m σ H1) ∧ ∀ i m σ H, W i m σ H →
  (J.stop i H ∧ D.nx σ H) ∨ (J.go i H ∧ ∃ N : St → Hp → Prop, (∀ σ' H', N σ' H' → ∃ m', m' < m ∧ W (i + 1) m' σ' H') ∧ ∀ x H', J.yld i H x H' → g x σ H' fun σ2 H2 => tb { D with nx := N, ct := N, bk := D.nx } σ2 H2)
theorem for_in {wi : TI} {g : TG} {tb : TS} {D : Ends} {σ : St} {H : Hp} (h : wi σ H fun J H1 => ForW J g tb D σ H1) : tFor wi g tb D σ H := h
theorem ForW.of {g : TG} {tb : TS} {D : Ends} {σ : St} {H : Hp} {J : It} {xs : List V} {ok : Hp → Prop} (w : Walk J xs ok) (Pv : Nat → St → Hp → Prop) (h0 : Pv 0 σ H) (hl : ∀ i σ H, i ≤ xs.length → Pv i σ H → ok H)
    (hs : ∀ i x σ H, xs[i]? = some x → Pv i σ H → g x σ H fun σ2 H2 => tb { D with nx := Pv (i + 1), ct := Pv (i + 1), bk := D.nx } σ2 H2) (hd : ∀ σ H, Pv xs.length σ H → D.nx σ H) : ForW J g tb D σ H := for_walk w Pv h0 hl hs hd
end L2
set_option maxHeartbeats 4000000
namespace L2
open PySem PySem.Spec PyProof.Rows
noncomputable def cutL {α : Type} (xs : List α) (lo hi : Option Int) : List α := (xs.drop (HT.sIx xs.length 0 lo)).take (HT.sIx xs.length xs.length hi - HT.sIx xs.length 0 lo)
theorem pick_cut {α : Type} (xs : List α) (a : Nat) : ∀ k : Nat, ((List.range k).map (a + ·)).filterMap (fun i => xs[i]?) = (xs.drop a).take k
  | 0 => by simp
  | k + 1 => by
    rw [List.range_succ, List.map_append, List.filterMap_append, pick_cut xs a k, List.take_add_one, List.getElem?_drop]
    cases h : xs[a + k]? <;> simp [h]
theorem clip_is (v : Option Int) (n d : Nat) (hd : d ≤ n) : (match v with | none => (d : Int) | some i => max 0 (min (if i < 0 then i + (n : Int) else i) (n : Int))) = ((HT.sIx n d v : Nat) : Int) := by
  cases v with
  | none => rfl
  | some i =>
    unfold HT.sIx
    dsimp only
    by_cases h : i < 0
    · simp only [h, if_true] <;> omega
    · simp only [h, if_false] <;> omega
theorem indices_is (lo hi : Option Int) (n : Nat) : Builtin.Str.strSliceIndices lo hi 1 n = (List.range (HT.sIx n n hi - HT.sIx n 0 lo)).map (HT.sIx n 0 lo + ·) := by
  have e1 := clip_is lo n 0 (Nat.zero_le _)
  have e2 := clip_is hi n n (Nat.le_refl _)
  rw [← sliceRange_one, ← e1, ← e2]
  unfold Builtin.Str.strSliceIndices
  simp only [show (1 : Int) > 0 by decide, if_true]
  cases lo <;> cases hi <;> rfl
theorem slice_cps (x : Str) (lo hi : Option Int) : (Txt.slice x lo hi).cps.toList = cutL x.cps.toList lo hi := by
  have hl : x.cps.toList.length = x.length := by simp [Str.length]
  unfold Txt.slice cutL
  rw [indices_is, hl]
  split
  · rename_i h
    have h : (HT.sIx x.length x.length hi - HT.sIx x.length 0 lo) = x.length := by simpa using h
    have h2 := HT.sIx_le x.length x.length (Nat.le_refl _) hi
    by_cases h0 : x.length = 0
    · have : x.cps.toList = [] := List.eq_nil_of_length_eq_zero (by omega)
      rw [this]; simp
    · have h3 : HT.sIx x.length 0 lo = 0 := by omega
      rw [h3, h3] at *
      rw [List.drop_zero, show HT.sIx x.length x.length hi - 0 = x.cps.toList.length by omega, List.take_length]
  · show ((List.map _ _).filterMap fun (i : Nat) => x.cps[i]?) = _
    have e : (fun (i : Nat) => x.cps[i]?) = fun (i : Nat) => x.cps.toList[i]? := by funext i; simp
    rw [e, pick_cut]
theorem cutL_len {α : Type} (xs : List α) (lo hi : Option Int) : (cutL xs lo hi).length ≤ xs.length := by
  unfold cutL
  rw [List.length_take, List.length_drop]
  omega
section
variable {X : Cx}
noncomputable def rSlS : V → Option Int → Option Int → Hp → VK → Prop := fun x lo hi H Q => ∃ z, x = .str z ∧ z.length ≤ sizeLine ∧ Q (.str ⟨(cutL z.cps.toList lo hi).toArray⟩) H
theorem sl_str : SlR X rSlS := by
  intro pins s σ H x v vl vu lo hi sl Q I rx hs pl pu h
  obtain ⟨z, rfl, hz, q⟩ := h
  obtain ⟨t, rfl⟩ := rx
  have e : Txt.slice z lo hi = ⟨(cutL z.cps.toList lo hi).toArray⟩ := str_of_cps (slice_cps z lo hi)
  have fin : ∀ t' k, EP X pins σ Q (.str (Txt.slice z lo hi) t') { s with toks := k } := fun t' k => by
    rw [e]; exact ⟨.str _, H, I.tok _, ⟨_, rfl⟩, q⟩
  have hle := Nat.le_trans (Txt.slice_le z lo hi) hz
  refine ⟨"str", _, F.slot_str_getitem.lookup, typeIs_str _ _ _, ?_⟩
  obtain ⟨o, ho, hc, hd⟩ := hs
  cases pl with
  | none =>
    cases pu with
    | none => exact wpAny_getItem_str_slice (l := none) (u := none) (st := none) ⟨o, ho, hc, hd⟩ rfl (post_val_or_str ⟨hle, fin⟩)
    | int j uj => exact wpAny_getItem_str_slice (l := none) (u := some (j, uj)) (st := none) ⟨o, ho, hc, hd⟩ rfl (post_val_or_str ⟨hle, fin⟩)
  | int i ui =>
    cases pu with
    | none => exact wpAny_getItem_str_slice (l := some (i, ui)) (u := none) (st := none) ⟨o, ho, hc, hd⟩ rfl (post_val_or_str ⟨hle, fin⟩)
    | int j uj => exact wpAny_getItem_str_slice (l := some (i, ui)) (u := some (j, uj)) (st := none) ⟨o, ho, hc, hd⟩ rfl (post_val_or_str ⟨hle, fin⟩)
noncomputable def rFind : V → List V → Hp → VK → Prop := fun x vs H Q => ∃ z y, x = .str z ∧ vs = [.str y] ∧ Q (.int (Txt.find z y)) H
noncomputable def rStarts : V → List V → Hp → VK → Prop := fun x vs H Q => ∃ z y, x = .str z ∧ vs = [.str y] ∧ Q (.bl (Txt.startswith z y)) H
theorem mt_startswith : MtR X "str.startswith" rStarts := by
  intro pins s σ H x vs v us Q I rx rv h
  obtain ⟨z, y, rfl, rfl, q⟩ := h
  obtain ⟨t, rfl⟩ := rx
  obtain ⟨u, rfl, t', rfl⟩ := rv.one
  exact SC.startswith ⟨.bl _, H, I, rfl, q⟩
end
end L2
namespace L2
open PySem
theorem range_item {lo : Int} {n i : Nat} {x : V} (h : (rangeV lo n)[i]? = some x) : i < n ∧ x = .int (lo + i) := by
  have hi : i < n := by have := (List.getElem?_eq_some_iff.mp h).1; rwa [rangeV_len] at this
  rw [rangeV_get hi] at h
  cases h
  exact ⟨hi, rfl⟩
end L2
set_option maxHeartbeats 4000000
namespace L2
open PySem PySem.Spec PyProof.Rows PySem.NumText
noncomputable def dgs (m : Nat) : List Nat := (Nat.toDigits 10 m).map Char.toNat
theorem digit_is : ∀ d : Nat, d < 10 → (Nat.digitChar d).toNat = 48 + d := by decide
theorem dgs_lt {m : Nat} (h : m < 10) : dgs m = [48 + m] := by
  unfold dgs; rw [Nat.toDigits_of_lt_base h, List.map_cons, digit_is m h]; rfl
theorem dgs_ge {m : Nat} (h : 10 ≤ m) : dgs m = dgs (m / 10) ++ [48 + m % 10] := by
  have hm : m % 10 < 10 := Nat.mod_lt _ (by decide)
  have t : Nat.toDigits 10 (m / 10) ++ Nat.toDigits 10 (m % 10) = Nat.toDigits 10 (10 * (m / 10) + m % 10) := Nat.toDigits_append_toDigits (by decide) (by omega) hm
  rw [Nat.div_add_mod] at t
  unfold dgs
  rw [← t, List.map_append, Nat.toDigits_of_lt_base hm, List.map_cons, digit_is _ hm]; rfl
noncomputable def numS (n : Int) : List Nat := if n < 0 then 45 :: dgs n.natAbs else dgs n.natAbs
theorem numS_is (n : Int) : (Str.ofString (toString n)).cps.toList = numS n := by
  rw [signs_ofString, Int.toString_eq_repr, Int.repr_eq_if]
  unfold numS dgs
  by_cases h : n < 0
  · rw [if_neg (by omega), if_pos h, String.toList_append, List.map_append, Nat.toList_repr]
    have e : (-n).toNat = n.natAbs := by omega
    rw [e]; rfl
  · rw [if_pos (by omega), if_neg h, Nat.toList_repr]
    have e : n.toNat = n.natAbs := by omega
    rw [e]
theorem dgs_digits (m : Nat) : AllDigits (dgs m) := by
  induction m using Nat.strongRecOn with
  | ind m ih =>
    by_cases h : m < 10
    · rw [dgs_lt h]; intro c hc; rw [List.mem_singleton.mp hc]; omega
    · rw [dgs_ge (by omega)]
      intro c hc
      rcases List.mem_append.mp hc with z | z
      · exact ih (m / 10) (by omega) c z
      · rw [List.mem_singleton.mp z]; omega
theorem dgs_val (m : Nat) : digitsVal (dgs m) = m := PySem.W.KIN.val_back m
theorem dgs_head {m : Nat} (h : m ≠ 0) : ∃ c r, dgs m = c :: r ∧ 49 ≤ c := by
  induction m using Nat.strongRecOn with
  | ind m ih =>
    by_cases h' : m < 10
    · exact ⟨_, _, dgs_lt h', by omega⟩
    · obtain ⟨c, r, e, hc⟩ := ih (m / 10) (by omega) (by omega)
      exact ⟨c, r ++ [48 + m % 10], by rw [dgs_ge (by omega), e]; rfl, hc⟩
theorem dgs_zero : dgs 0 = [48] := dgs_lt (by decide)
theorem dgs_ne (m : Nat) : dgs m ≠ [] := by
  by_cases h : m = 0
  · subst h; rw [dgs_zero]; simp
  · obtain ⟨c, r, e, _⟩ := dgs_head h; rw [e]; simp
theorem dgs_len : ∀ (k : Nat) {m : Nat}, m < 10 ^ (k + 1) → (dgs m).length ≤ k + 1
  | 0, m, h => by rw [dgs_lt (by simpa using h)]; simp
  | k + 1, m, h => by
    by_cases h' : m < 10
    · rw [dgs_lt h']; simp
    · rw [dgs_ge (by omega), List.length_append]
      have : m / 10 < 10 ^ (k + 1) := by rw [Nat.pow_succ] at h; omega
      have := dgs_len k this
      simp only [List.length_cons, List.length_nil]; omega
noncomputable def isDig (c : Nat) : Bool := decide (48 ≤ c ∧ c ≤ 57)
theorem all_dig {cs : List Nat} : cs.all isDig = true ↔ AllDigits cs := by
  rw [List.all_eq_true]
  exact ⟨fun h c hc => of_decide_eq_true (h c hc), fun h c hc => decide_eq_true (h c hc)⟩
noncomputable def figs (t : List Nat) : List Nat := if t.head? = some 45 then t.tail else t
noncomputable def numOk (t : List Nat) : Bool := decide (1 ≤ (figs t).length) && (decide ((figs t).length ≤ 60) && ((figs t).all isDig && (!decide ((figs t).head? = some 48) || decide (t = [48]))))
noncomputable def numV' (t : List Nat) : Int := if t.head? = some 45 then -((digitsVal (figs t) : Nat) : Int) else ((digitsVal (figs t) : Nat) : Int)
theorem figs_num (n : Int) : figs (numS n) = dgs n.natAbs ∧ ((numS n).head? = some 45 ↔ n < 0) := by
  unfold numS figs
  by_cases h : n < 0
  · rw [if_pos h]; exact ⟨rfl, by simp [h]⟩
  · rw [if_neg h]
    have e : (dgs n.natAbs).head? ≠ some 45 := by
      cases e : dgs n.natAbs with
      | nil => simp
      | cons c r =>
        have := dgs_digits n.natAbs c (by rw [e]; exact List.mem_cons_self)
        simp only [List.head?_cons, ne_eq, Option.some.injEq]; omega
    rw [if_neg e]; exact ⟨rfl, by simp [h, e]⟩
theorem num_back {n : Int} (h : n.natAbs < 10 ^ 60) : numOk (numS n) = true ∧ numV' (numS n) = n := by
  obtain ⟨e1, e2⟩ := figs_num n
  have hl := dgs_len 59 h
  have h1 : 1 ≤ (dgs n.natAbs).length := List.length_pos_iff.mpr (dgs_ne _)
  constructor
  · unfold numOk
    rw [e1, decide_eq_true h1, decide_eq_true hl, all_dig.mpr (dgs_digits _), Bool.true_and, Bool.true_and, Bool.true_and]
    by_cases h0 : n = 0
    · subst h0
      have : numS 0 = [48] := by unfold numS; rw [if_neg (by decide)]; exact dgs_zero
      rw [this]; simp
    · obtain ⟨c, r, e, hc⟩ := dgs_head (m := n.natAbs) (by omega)
      rw [e]; simp only [List.head?_cons, Option.some.injEq]
      rw [decide_eq_false (by omega)]; rfl
  · unfold numV'
    rw [e1, dgs_val]
    by_cases h0 : n < 0
    · rw [if_pos (e2.mpr h0)]; omega
    · rw [if_neg (fun z => h0 (e2.mp z))]; omega
theorem intText_is {z : Str} (h : numOk z.cps.toList = true) : intText? z = some (numV' z.cps.toList) ∧ z.length ≤ 61 := by
  unfold numOk at h
  simp only [Bool.and_eq_true, decide_eq_true_eq] at h
  obtain ⟨h1, h2, h3, _⟩ := h
  have hl : z.cps.toList.length = z.length := by simp [Str.length]
  unfold numV'
  by_cases h0 : z.cps.toList.head? = some 45
  · have ef : figs z.cps.toList = z.cps.toList.tail := by unfold figs; rw [if_pos h0]
    rw [ef] at h1 h2 h3
    cases e : z.cps.toList with
    | nil => rw [e] at h0; cases h0
    | cons c r =>
      rw [e] at h0 h1 h2 h3 hl
      have hc : c = 45 := by simpa using h0
      subst hc
      simp only [List.tail_cons, List.length_cons] at h1 h2 h3 hl
      rw [if_pos (by rfl), show figs (45 :: r) = r by unfold figs; rfl]
      exact ⟨intText_neg e (all_dig.mp h3) (List.length_pos_iff.mp h1) (by omega), by omega⟩
  · have ef : figs z.cps.toList = z.cps.toList := by unfold figs; rw [if_neg h0]
    rw [ef] at h1 h2 h3
    rw [if_neg h0, ef]
    exact ⟨intText_digits (all_dig.mp h3) (List.length_pos_iff.mp h1) (by omega), by omega⟩
theorem cut_from {α : Type} (xs : List α) (k : Nat) : cutL xs (some (k : Int)) none = xs.drop k := by
  unfold cutL
  rw [HT.sIx_nat, HT.sIx_none]
  by_cases h : k ≤ xs.length
  · rw [Nat.min_eq_left h, List.take_of_length_le (by rw [List.length_drop]; omega)]
  · rw [Nat.min_eq_right (by omega), List.drop_length, List.drop_of_length_le (by omega)]; simp
theorem cut_to {α : Type} (xs : List α) (k : Nat) : cutL xs none (some (k : Int)) = xs.take k := by
  unfold cutL
  rw [HT.sIx_nat, HT.sIx_none, List.drop_zero, Nat.sub_zero]
  by_cases h : k ≤ xs.length
  · rw [Nat.min_eq_left h]
  · rw [Nat.min_eq_right (by omega), List.take_length, List.take_of_length_le (by omega)]
theorem str_eq_iff {z w : Str} : z = w ↔ z.cps.toList = w.cps.toList := ⟨fun e => by rw [e], fun e => by
  cases z with
  | mk a => cases w with
    | mk b => exact congrArg Str.mk (Array.toList_inj.mp e)⟩
theorem starts_minus (z : Str) : Txt.startswith z (Str.ofString "-") = decide (z.cps.toList.head? = some 45) := by
  have hl : z.cps.toList.length = z.length := by simp [Str.length]
  have e1 : (Str.ofString "-").length = 1 := by decide
  have e2 : (Str.ofString "-").cps.toList = [45] := by decide
  unfold Txt.startswith
  rw [PySem.StrLaws.subAt_eq, e1, e2, List.drop_zero]
  cases h : z.cps.toList with
  | nil => rw [h] at hl; simp at hl; simp [← hl]
  | cons c r =>
    rw [h] at hl; simp only [List.length_cons] at hl
    rw [show decide (0 + 1 ≤ z.length) = true from decide_eq_true (by omega)]
    rw [Bool.true_and, List.take_succ_cons, List.take_zero, List.head?_cons]
    by_cases hc : c = 45
    · subst hc; simp
    · simp [hc]
section
variable {X : Cx}
noncomputable def rIntT : List V → Hp → VK → Prop := fun xs H Q => ∃ z n, xs = [.str z] ∧ intText? z = some n ∧ z.length ≤ 640 ∧ Q (.int n) H
theorem call_int_text : CallR X (.type "int") rIntT := by
  intro pins s σ H xs us Q I r h
  obtain ⟨z, n, rfl, hn, hl, q⟩ := h
  obtain ⟨u, rfl, t, rfl⟩ := vals1 r
  exact PySem.W.KIN.call_text hn hl ⟨.int n, H, I.tok _, ⟨_, rfl⟩, q⟩
noncomputable def rStrA : List V → Hp → VK → Prop := fun xs H Q => (∃ i, xs = [.int i] ∧ i.natAbs < 10 ^ 100 ∧ Q (.str ⟨(numS i).toArray⟩) H) ∨ ∃ z, xs = [.str z] ∧ Q (.str z) H
theorem log_100 {n : Nat} (h : n < 10 ^ 100) : n.log2 < 1920 := by
  by_cases h0 : n = 0
  · subst h0; decide
  · have h1 := Nat.log2_self_le h0
    refine Nat.lt_of_not_le fun h2 => ?_
    have h3 : 2 ^ 1920 ≤ 2 ^ n.log2 := Nat.pow_le_pow_right (by decide) h2
    have h4 : (10 : Nat) ^ 100 ≤ 2 ^ 1920 := by decide +kernel
    exact absurd (Nat.lt_of_lt_of_le h (Nat.le_trans h4 (Nat.le_trans h3 h1))) (Nat.lt_irrefl _)
theorem call_strA : CallR X (.type "str") rStrA := by
  intro pins s σ H xs us Q I r h
  rcases h with ⟨i, rfl, hi, q⟩ | ⟨z, rfl, q⟩
  · obtain ⟨u, rfl, t, rfl⟩ := vals1 r
    have e : Str.ofString (toString i) = ⟨(numS i).toArray⟩ := str_of_cps (numS_is i)
    exact PySem.P.str_of_int (log_100 hi) ⟨.str _, H, I.tok _, ⟨_, rfl⟩, by rw [e]; exact q⟩
  · obtain ⟨u, rfl, t, rfl⟩ := vals1 r
    exact PySem.P.str_of_str ⟨.str z, H, I, ⟨_, rfl⟩, q⟩
end
end L2
namespace L2
open PySem PySem.Spec PyProof.Rows
section
variable {X : Cx}
noncomputable def rRepS : R2 := fun x y H Q => ∃ z n, x = .str z ∧ y = .int n ∧ MulOk z n ∧ Q (.str (Txt.mul z n)) H
theorem op_rep_str : OpR X (binaryOp .Mult) rRepS := by
  intro pins s σ H x y v u Q I rx ry h
  obtain ⟨z, n, rfl, rfl, hm, q⟩ := h
  obtain ⟨t, rfl⟩ := rx
  obtain ⟨t', rfl⟩ := ry
  exact SB.mul hm fun t' k => ⟨.str _, H, I.tok _, ⟨_, rfl⟩, q⟩
end
end L2
namespace L2
open PySem
noncomputable def WGo (Pv : Nat → St → Hp → Prop) (m : Nat) (tb : TS) (D : Ends) (σ : St) (H1 : Hp) : Prop := ∃ N : St → Hp → Prop, (∀ σ' H', N σ' H' → ∃ m', m' < m ∧ Pv m' σ' H') ∧ tb { D with nx := N, ct := N, bk := D.nx } σ H1
theorem WGo.of {Pv : Nat → St → Hp → Prop} {m : Nat} {tb : TS} {D : Ends} {σ : St} {H1 : Hp} (h : tb { D with nx := fun σ' H' => ∃ m', m' < m ∧ Pv m' σ' H', ct := fun σ' H' => ∃ m', m' < m ∧ Pv m' σ' H', bk := D.nx } σ H1) : WGo Pv m tb D σ H1 := ⟨_, fun _ _ q => q, h⟩
theorem while_in {c : TT} {tb : TS} {D : Ends} {σ : St} {H : Hp} (Pv : Nat → St → Hp → Prop) (h0 : ∃ m, Pv m σ H) (hs : ∀ m σ H, Pv m σ H → c σ H fun b H1 => if b = true then WGo Pv m tb D σ H1 else D.nx σ H1) : tWhile c tb D σ H := ⟨Pv, h0, hs⟩
end L2
set_option maxHeartbeats 1000000
namespace L2
open PySem PySem.Spec PyProof.Rows
noncomputable def Trc (H : Hp) (h G : Heap) (e : Addr) (C : Value) (ed : Option Addr) (fl : Value) : Prop :=
  G.get? e = none ∧ H e = none ∧ ∃ oe vs, h.get? e = some oe ∧ oe.cls = C ∧ oe.dict = ed ∧ oe.data = .fields vs ∧ 1 < vs.size ∧
    ((vs[1]? = some .none ∧ fl = .none) ∨ ∃ T oT ts, vs[1]? = some (.ref T) ∧ G.get? T = none ∧ T ≠ e ∧ H T = none ∧ h.get? T = some oT ∧ oT.data = .fields ts ∧ ts[3]? = some fl)
section
variable {M : Model} {A : Around} {E : Value → Shared → Prop} {s : Shared} {Q : Unit → Shared → Prop} {base : Heap} {env : Env} {outer : List Env} {L e : Addr} {C : Value} {ed : Option Addr} {G : Heap} {H : Hp}
end
end L2
set_option maxHeartbeats 1000000
namespace L2
open PySem PySem.Spec PyProof.Rows
noncomputable def CXE (P : Program) (w : World) : CXT := fun outer H s E e s' => ∃ a C ed H', e = .ref a ∧ s'.os = s.os ∧ AllBare s'.gens ∧ Un (frs outer) [] H H' s.heap s'.heap ∧ HOk P w H' s'.heap ∧ Trc H' s'.heap s.heap a C ed .none ∧ E C ed H'
section
variable {X : Cx} {k : Nat} {f C : Addr} {fd : FuncData} {ps : List Str} {sp : Sp} {x m : Str} {p pos apos : Pos} {e o : Expr} {es : List Expr} {ta : TE} {t : TA} {S : St → Prop} {E : XK}
noncomputable def tCallX (S : St → Prop) (sp : Sp) (E : XK) (t : TA) : TE := fun σ H Q => t σ H fun vs H1 => S σ ∧ sp vs H1 Q E
end
end L2
set_option maxHeartbeats 1000000
namespace L2
open PySem PySem.Spec PyProof.Rows
noncomputable abbrev vbm : List Value := [.type "ValueError", .type "Exception", .type "BaseException", .type "object"]
noncomputable def exB (K : PySem.W.Frag) (C : Addr) (ini : Option Value) : Bool := match K.lookup C with
  | some ⟨.type "type", _, .cls cd, sl⟩ => (match cd.mro, sl.toList with
    | .ref C' :: bm, [_, _, _, _, some (.builtin n), _] => C' == C && (n == "ValueError.__new__" && (PySem.W.tailIn K vbm bm && (!cd.hasDel && (PySem.W.nsOkIn K cd.ns && PySem.W.nsIn K cd.ns "__init__" == some ini))))
    | _, _ => false)
  | _ => false
section
variable {X : Cx} {e : Expr} {es : List Expr} {t : TA} {S : St → Prop} {E : XK}
noncomputable def tRaise (S : St → Prop) (E : XK) (C : Addr) (t : TA) : TS := fun _ σ H => t σ H fun vs H1 => S σ ∧ vs.length ≤ sizeLine ∧ E (.ref C) none H1
end
end L2
set_option maxHeartbeats 1000000
namespace L2
open PySem PySem.Spec PyProof.Rows
section
variable {X : Cx} {pins : List (Addr × Obj)} {σ : St} {H : Hp} {s : Shared} {G : Heap}
end
end L2
set_option maxHeartbeats 1000000
namespace L2
open PySem PySem.Spec PyProof.Rows
noncomputable def ExO (a : Addr) (C : Value) (ed : Option Addr) : HO := .ext fun h => ∃ oe vs, h.get? a = some oe ∧ oe.cls = C ∧ oe.dict = ed ∧ oe.data = .fields vs
section
variable {X : Cx} {pins : List (Addr × Obj)} {σ : St} {H : Hp} {s : Shared} {G : Heap} {W : Value → Shared → Prop}
end
noncomputable def subB (K : PySem.W.Frag) (C B : Addr) : Bool := match K.lookup C with
  | some ⟨_, _, .cls cd, _⟩ => cd.mro.contains (.ref B)
  | _ => false
end L2
set_option maxHeartbeats 1000000
namespace L2
open PySem PySem.Spec PyProof.Rows
noncomputable def offE (i : Nat) (D : Ends) : Ends := { nx := fun σ H => D.nx (σ.set i none) H, rt := D.rt, bk := fun σ H => D.bk (σ.set i none) H, ct := fun σ H => D.ct (σ.set i none) H }
noncomputable def tAs (K : PySem.W.Frag) (B : Addr) (i : Nat) (ts : TS) (thr : Value → Option Addr → TS) : Value → Option Addr → TS := fun C ed D σ H => ∃ Cc ini b, C = .ref Cc ∧ exB K Cc ini = true ∧ subB K Cc B = b ∧
  if b = true then (∀ a, H a = none → ts (offE i D) (σ.set i (some (.ref a))) (upd H a (ExO a C ed))) else thr C ed D σ H
section
variable {X : Cx}
noncomputable def tTry (tb : St → XK → TS) (th : Value → Option Addr → TS) : TS := fun D σ H => tb σ (fun C ed H' => th C ed D σ H') D σ H
end
end L2
set_option maxHeartbeats 1000000
namespace L2
open PySem PySem.Spec PyProof.Rows
section
variable {prog : Program} {w : World} {A : Around} {E : Value → Shared → Prop} {s : Shared} {K : PySem.W.Frag} {a C : Addr} {ox : Obj} {od : Option Obj} {name : Str}
structure XCls (K : PySem.W.Frag) (C : Addr) : Prop where
  ga : PySem.W.findIn K (.ref C) "__getattribute__" = some (some (.builtin "BaseException.__getattribute__"))
  gh : PySem.W.findIn K (.ref C) "__getattr__" = some none
  base : PySem.W.mroIn K C (.type "BaseException") = some true
  obj : PySem.W.mroIn K C (.type "object") = some true
  hd : PySem.W.hasDictIn K C = true
  cl : PySem.W.findIn K (.ref C) "__class__" = some (some (.builtin "object.__class__"))
  cg : PySem.W.specialIn K (.builtin "object.__class__") "__get__" = some (some (.builtin "getset_descriptor.__get__"))
  ct : PySem.W.takesIn K (.builtin "object.__class__") = some true
end
end L2
set_option maxHeartbeats 1000000
namespace L2
open PySem PySem.Spec PyProof.Rows
section
variable {K : PySem.W.Frag} {a C : Addr}
end
noncomputable def XdOk (H : Hp) (ed : Option Addr) : Prop := ed = none ∨ ∃ dx fs, ed = some dx ∧ H dx = some (.xd fs)
section
variable {P : Program} {w : World} {H : Hp} {h : Heap} {a C : Addr} {ed : Option Addr}
end
section
variable {X : Cx}
noncomputable def rIsX (K : PySem.W.Frag) : List V → Hp → VK → Prop := fun xs H Q => ∃ a C ed b, H a = some (ExO a (.ref C) ed) ∧ XdOk H ed ∧ XCls K C ∧ ((∃ B, xs = [.ref a, .ref B] ∧ PySem.W.kitOne K (.ref C) (.ref B) = some b) ∨ ∃ S, xs = [.ref a, .ty S] ∧ PySem.W.kitOne K (.ref C) (.type S) = some b) ∧ Q (.bl b) H
noncomputable def tXF (K : PySem.W.Frag) (te : TE) (f : Str) : TE := fun σ H Q => te σ H fun x H1 => ∃ a C dx fs v, x = .ref a ∧ H1 a = some (ExO a (.ref C) (some dx)) ∧ H1 dx = some (.xd fs) ∧ XCls K C ∧ NoAttr K C f ∧ fs.lookup f = some v ∧ Q v H1
end
end L2
set_option maxHeartbeats 1000000
namespace L2
open PySem PySem.Spec PyProof.Rows
section
variable {prog : Program} {w : World} {A : Around} {E : Value → Shared → Prop} {h : Heap} {g : Array GenState} {d : Drawn} {t : Nat} {os : OsState} {K : PySem.W.Frag}
variable {nm q : Str} {C N a : Addr} {bs bm : List Value} {sn : List Str} {sub : List Value} {ab : Bool} {col : Option Bool} {dd : Option Addr} {k0 k1 k2 k3 k5 : Option Value} {newId : String} {name : Str} {v : Value} {o : Obj} {vs : Array Value}
end
end L2
set_option maxHeartbeats 1000000
namespace L2
open PySem PySem.Spec PyProof.Rows
noncomputable def ExN (a : Addr) (C : Value) (ed : Option Addr) : HO := .ext fun h => ∃ oe vs, h.get? a = some oe ∧ oe.cls = C ∧ oe.dict = ed ∧ oe.data = .fields vs ∧ 1 < vs.size ∧ vs[1]? = some .none
noncomputable def dropH (H : Hp) (a : Addr) : Hp := fun b => if b = a then none else H b
section
variable {X : Cx} {pins : List (Addr × Obj)} {σ : St} {H : Hp} {s : Shared} {a : Addr}
noncomputable def sXset (K : PySem.W.Frag) (ta tv : TE) (f : Str) : TS := fun D σ H => tv σ H fun y H1 => ta σ H1 fun x H2 => ∃ a C ini, x = .ref a ∧ H2 a = some (ExN a (.ref C) none) ∧ exB K C ini = true ∧ PySem.W.hasDictIn K C = true ∧
  PySem.W.findIn K (.ref C) "__setattr__" = some (some (.builtin "object.__setattr__")) ∧ NoAttr K C f ∧ ∀ dx, H2 dx = none → dx ≠ a → D.nx σ (upd (upd H2 dx (.xd [(f, y)])) a (ExN a (.ref C) (some dx)))
end
end L2
set_option maxHeartbeats 1000000
namespace L2
open PySem PySem.Spec PyProof.Rows
section
variable {prog : Program} {w : World} {A : Around} {E : Value → Shared → Prop} {h : Heap} {g : Array GenState} {d : Drawn} {t : Nat} {os : OsState}
variable {nm qn : Str} {C N : Addr} {bs bm : List Value} {hd : Bool} {sn : List Str} {sub : List Value} {ab : Bool} {col : Option Bool} {dd : Option Addr} {k0 k1 k2 k3 k5 : Option Value}
end
section
variable {X : Cx} {e : Expr} {es : List Expr} {t : TA} {S : St → Prop} {E : XK} {k : Nat} {f C : Addr} {fd : FuncData} {ps : List Str} {sp : Sp}
noncomputable def tRaiseI (S : St → Prop) (E : XK) (C : Addr) (sp : Sp) (t : TA) : TS := fun _ σ H => t σ H fun vs H1 => S σ ∧ vs.length ≤ sizeLine ∧ ∀ a, H1 a = none → sp (.ref a :: vs) (upd H1 a (ExN a (.ref C) none)) (fun v H2 => v = .non ∧ ∃ ed, H2 a = some (ExN a (.ref C) ed) ∧ E (.ref C) ed (dropH H2 a)) E0
end
end L2
set_option maxHeartbeats 1000000
namespace L2
open PySem PySem.Spec PyProof.Rows
section
variable {X : Cx} {k : Nat} {f C : Addr} {fd : FuncData} {ps : List Str} {sp : Sp} {x m : Str} {p pos apos : Pos} {e o : Expr} {es : List Expr} {ta : TE} {t : TA} {S : St → Prop} {E : XK}
noncomputable def tMethX (S : St → Prop) (C : Addr) (m : Str) (sp : Sp) (E : XK) (ta : TE) (t : TA) : TE := fun σ H Q => ta σ H fun x H1 => ∃ a dx fs, x = .ref a ∧ H1 a = some (.ins C dx fs) ∧ fs.lookup m = none ∧ t σ H1 fun vs H2 => S σ ∧ sp (x :: vs) H2 Q E
noncomputable def tMakeX (S : St → Prop) (C : Addr) (sp : Sp) (E : XK) (t : TA) : TE := fun σ H Q => t σ H fun vs H1 => S σ ∧ ∀ x dx, H1 x = none → H1 dx = none → dx ≠ x → sp (.ref x :: vs) (upd (upd H1 dx (.own x)) x (.ins C dx [])) (fun v H2 => v = .non ∧ Q (.ref x) H2) E
end
end L2
set_option maxHeartbeats 1000000
namespace L2
open PySem PySem.Spec PyProof.Rows
noncomputable def inCls (s : Stmt) (j : Nat) : Stmt := match s with
  | .ClassDef _ _ _ b _ _ _ _ _ _ _ => b.getD j (.Pass ⟨0, 0, 0, 0⟩)
  | _ => .Pass ⟨0, 0, 0, 0⟩
structure MthOk (K : PySem.W.Frag) (x qual : Str) (st : Stmt) (ps : List Str) (f : Addr) (fd : FuncData) : Prop where
  F : Fun K x qual st f fd
  b : Binds K fd ps []
  fn : PySem.W.isFn K (.ref f) = true
structure OwnOk (K : PySem.W.Frag) (mg : Str → Option Value) (x : Str) (c fi : Addr) : Prop where
  m : mg x = some (.ref c)
  cls : Cls K c
  mkr : Mk K c fi
theorem own_mk {K : PySem.W.Frag} {h : Heap} {mg : Str → Option Value} {x : Str} {c fi : Addr} (X : K.In h) (G : h.Ns mainGlobals mg) (a : PySem.W.nsIn K mainGlobals x = some (some (.ref c))) (pg : PySem.W.plainGet K c Str.empty = true) (hd : PySem.W.hasDictIn K c = true) (po : PySem.W.plainOver K c = true)
    (sa : PySem.W.findIn K (.ref c) "__setattr__" = some (some (.builtin "object.__setattr__"))) (ma : PySem.W.makesIn K c = true) (i : PySem.W.findIn K (.ref c) "__init__" = some (some (.ref fi))) (fn : PySem.W.isFn K (.ref fi) = true) (kp : PySem.W.keepIn K (.ref c) = true) : OwnOk K mg x c fi :=
  ⟨PySem.W.mg_of X G a, ⟨pg, hd, po, sa⟩, ⟨ma, i, fn, kp⟩⟩
section
variable {X : Cx}
end
end L2
set_option maxHeartbeats 1000000
namespace L2
open PySem PySem.Spec PyProof.Rows
noncomputable def Ite (K : PySem.W.Frag) (a : Addr) : It where
  go := fun i H => ∃ xs x, SqL K H a xs ∧ xs[i]? = some x
  yld := fun i H y H' => ∃ p x, H p = none ∧ y = .ref p ∧ (∀ ys, SqL K H a ys → ys[i]? = some x) ∧ H' = upd H p (.tup [.int i, x])
  stop := fun i H => ∃ xs, SqL K H a xs ∧ xs.length ≤ i
theorem turn_enum {P : Program} {w : World} {K : PySem.W.Frag} {elts : List Expr} {x1 : Nat} {tpos : Pos} (a e it : Addr) (hne : e ≠ it) : Turn P w K (.Tuple elts x1 tpos) (Ite K a) [e, it] e (fun i h => ∃ old, IsEnum h e it i old ∧ h.IsListIter it a i) where
  mem := by simp
  obj := fun i h st b hb => by
    obtain ⟨old, h1, o, h2, c, d⟩ := st
    rcases List.mem_cons.mp hb with rfl | hb
    · exact ⟨_, h1, fun v z => nomatch z⟩
    · cases List.mem_singleton.mp hb
      exact ⟨o, h2, fun v z => by rw [d] at z; cases z⟩
  keep := fun i h h' st k => by
    obtain ⟨old, h1, h2⟩ := st
    exact ⟨old, k e (by simp) _ h1, h2.at fun o z => k it (by simp) o z⟩
  item := by
    intro X hP hw hK hc i pins s σ H E I hf st hg
    subst hP hw hK
    obtain ⟨xs, x, hq, hx⟩ := hg
    obtain ⟨its, rv, p, hz⟩ := I.list hq
    obtain ⟨u, hu, ru⟩ := rv.get hx
    obtain ⟨old, h1, h2⟩ := st
    obtain ⟨f0, f1, f2, f3, f4, f5⟩ := hf e (by simp)
    obtain ⟨g0, g1, g2, g3, g4, g5⟩ := hf it (by simp)
    have fr : H s.heap.objs.size = none := I.hok.fresh (Nat.le_refl _)
    have pe : s.heap.objs.size ≠ e := Nat.ne_of_gt (Heap.lt_size h1)
    refine wpAny_pyNext_enum_item h1 h2 p.isList (x := u) (by simpa using hu) hne fun h' out st' tup sz k => ⟨.ref s.heap.objs.size, rfl, ?_⟩
    refine wpAny_letOwnedTupleGo_enum (s := { s with heap := h', toks := s.toks + 1 }) out fun h'' he' sb => ?_
    have kk : ∀ b o, b ∉ [e, it] → s.heap.get? b = some o → h''.get? b = some o := fun b o hb z =>
      (sb.2 b (fun q => hb (by simp [q]))).trans (k b o (fun q => hb (by simp [q])) (fun q => hb (by simp [q])) z)
    have kt : h''.get? s.heap.objs.size = some { cls := .type "tuple", data := .seq #[.int i s.toks, u] } := (sb.2 _ pe).trans tup
    have nt : ∀ b v, H b = some v → b ∉ [e, it] := fun b v z hb => by
      rcases List.mem_cons.mp hb with rfl | hb
      · rw [f0] at z; cases z
      · cases List.mem_singleton.mp hb
        rw [g0] at z; cases z
    have np : ∀ b v, H b = some v → b ≠ s.heap.objs.size := fun b v z q => by subst q; rw [fr] at z; cases z
    have up : ∀ b v, H b = some v → upd H s.heap.objs.size (.tup [.int i, x]) b = some v := fun b v z => by rw [upd_ne (np b v z)]; exact z
    refine ⟨.ref s.heap.objs.size, upd H s.heap.objs.size (.tup [.int i, x]), ?_, rfl, ⟨_, x, fr, rfl, fun ys hy => by rw [I.list_inj hy hq]; exact hx, rfl⟩, ⟨u, he', st'.at fun o z => (sb.2 it (Ne.symm hne)).trans z⟩, fun b hb => ?_⟩
    · show Inv X pins σ _ { s with heap := h'', gens := s.gens, drawn := s.drawn, toks := s.toks + 1 }
      refine Inv.step (s := s) (h' := h'') (t' := s.toks + 1) (g' := s.gens) (d' := s.drawn) (ch := [e, it]) I (fun b hb => ?_) (fun b o _ _ hb z _ => kk b o hb z) (fun b o _ _ hb z _ => ⟨o.slots, kk b o hb z⟩) (fun b o _ z n => by rw [upd_ne (Nat.ne_of_lt (Heap.lt_size z))]; exact n) (fun b o hb z => ⟨o, kk b o hb z⟩)
        (fun b ys z => up b _ z) (fun b o v z => up b _ z) (fun b ps z => ⟨#[], by rw [Array.append_empty]; exact up b _ z⟩) (fun m hm => ?_) (fun b v z => ?_) I.bare
      · rcases List.mem_cons.mp hb with rfl | hb
        · exact ⟨f3, f1, f4, f5⟩
        · cases List.mem_singleton.mp hb
          exact ⟨g3, g1, g4, g5⟩
      · obtain ⟨o, es, ep, ho, r⟩ := hm
        refine ⟨o, es, ep, kk _ o (fun hb => ?_) ho, r⟩
        rcases List.mem_cons.mp hb with q | hb
        · exact f1 q.symm
        · exact g1 (List.mem_singleton.mp hb).symm
      · by_cases q : b = s.heap.objs.size
        · subst q
          rw [upd_same] at z
          cases z
          exact ⟨small_line (Nat.le_of_ble_eq_true rfl), [.int i s.toks, u], .cons ⟨_, rfl⟩ (.cons ru .nil), _, kt, rfl, _, rfl⟩
        · rw [upd_ne q] at z
          refine (I.hok b v z).stay (fun c o hc y => kk c o ?_ y) (fun c y => up c _ y) fun c ys y => up c _ y
          rcases hc with rfl | hc
          · exact nt _ _ z
          · exact nt _ _ hc
    · rcases List.mem_cons.mp hb with rfl | hb
      · rw [upd_ne (Ne.symm pe)]; exact f0
      · cases List.mem_singleton.mp hb
        obtain ⟨o, h2', _⟩ := h2
        rw [upd_ne (Nat.ne_of_lt (Heap.lt_size h2'))]; exact g0
  done := by
    intro X hP hw hK hc i pins s σ H E I hf st hg
    subst hP hw hK
    obtain ⟨xs, hq, hx⟩ := hg
    obtain ⟨its, rv, p, hz⟩ := I.list hq
    obtain ⟨old, h1, h2⟩ := st
    obtain ⟨g0, g1, g2, g3, g4, g5⟩ := hf it (by simp)
    have hl := rv.length
    exact wpAny_pyNext_enum_end (I.ok.hd hc) h1 h2 p.isList (by simp; omega) fun h' eb => ⟨rfl, I.turned (t' := s.toks) (fun b o hb z => eb b o hb z) g0 g1 g3 g4 g5⟩
  self := fun _ _ _ _ _ st h => by
    obtain ⟨old, h1, h2⟩ := st
    exact wpAny_pyIter_enum h1 h
section
variable {X : Cx}
noncomputable def iEnum (K : PySem.W.Frag) (ta : TA) : TI := fun σ H R => ta σ H fun vs H1 => ∃ a, vs = [.ref a] ∧ (∃ xs, SqL K H1 a xs) ∧ R (Ite K a) H1
theorem pi_enum {a : Expr} {ta : TA} {p pos tpos : Pos} {elts : List Expr} {x1 : Nat} (hg : Gl X "enumerate") (hm : X.mg "enumerate" = none) (ha : PA X [a] ta) (hn : notStar a = true) : PI X (.Tuple elts x1 tpos) (.Call (.Name "enumerate" p) [a] [] pos) (iEnum X.K ta) := by
  intro pins s σ H R I h
  refine Call_ (ld_blt I hg hm boot_enumerate (PyProof.Rows.callWith_type1 (thn (ha pos pins s σ H _ I h) fun us s1 ⟨vs, H1, I1, r1, q1⟩ => ?_) (star_cons hn) rfl))
  obtain ⟨l, e, ⟨xs, hq⟩, q⟩ := q1
  subst e
  cases r1 with
  | cons r rr =>
    cases rr
    cases (show _ = Value.ref l from r)
    obtain ⟨its, rv, pl, hz⟩ := I1.list hq
    refine call_enumerate_list pl.isList fun h' he st sz k => ?_
    refine wpAny_pyIter_enum (s := { s1 with heap := h' }) he ?_
    refine ⟨s1.heap.objs.size + 1, [s1.heap.objs.size + 1, s1.heap.objs.size], _, _, H1, rfl, I1.kept (t' := s1.toks) k, turn_enum l _ _ (Nat.succ_ne_self _), ⟨_, he, st⟩, fun b hb => ?_, q⟩
    rcases List.mem_cons.mp hb with rfl | hb
    · exact I1.fpOk (Nat.le_succ _) (I1.hok.fresh (Nat.le_succ _))
    · cases List.mem_singleton.mp hb
      exact I1.fpOk (Nat.le_refl _) (I1.hok.fresh (Nat.le_refl _))
end
theorem ForW.enum {K : PySem.W.Frag} {a : Addr} {xs : List V} {g : TG} {tb : TS} {D : Ends} {σ : St} {H : Hp} (Pv : Nat → St → Hp → Prop) (h0 : Pv 0 σ H) (hl : ∀ i σ H, Pv i σ H → SqL K H a xs)
    (hs : ∀ (i : Nat) x σ H p, xs[i]? = some x → Pv i σ H → H p = none → g (.ref p) σ (upd H p (.tup [.int i, x])) fun σ2 H2 => tb { D with nx := Pv (i + 1), ct := Pv (i + 1), bk := D.nx } σ2 H2)
    (hd : ∀ σ H, Pv xs.length σ H → D.nx σ H) : ForW (Ite K a) g tb D σ H := by
  refine ⟨fun i m σ H => Pv i σ H ∧ i ≤ xs.length ∧ m = xs.length - i, ⟨_, h0, Nat.zero_le _, rfl⟩, fun i m σ H ⟨h1, h2, h3⟩ => ?_⟩
  have sq := hl i σ H h1
  by_cases e : i = xs.length
  · subst e
    exact .inl ⟨⟨xs, sq, Nat.le_refl _⟩, hd σ H h1⟩
  · have lt : i < xs.length := Nat.lt_of_le_of_ne h2 e
    refine .inr ⟨⟨xs, xs[i], sq, List.getElem?_eq_getElem lt⟩, Pv (i + 1), fun σ' H' z => ⟨xs.length - (i + 1), by omega, z, lt, rfl⟩, fun x H' hy => ?_⟩
    obtain ⟨p, x', hp, rfl, hx, rfl⟩ := hy
    exact hs i x' σ H p (hx xs sq) h1 hp
end L2
set_option maxHeartbeats 4000000
namespace L2
open PySem PySem.Spec PyProof.Rows
section
variable {prog : Program} {w : World} {A : Around} {E : Value → Shared → Prop} {s : Shared} {T : String} {r d : Addr} {n : Nat} {P : Nat → Value → Prop} {OK : Heap → Prop}
end
end L2
namespace L2
open PySem PySem.Spec PyProof.Rows
section
variable {X : Cx}
noncomputable def rSortD : List V → Hp → VK → Prop := fun xs H Q => ∃ d kvs, ∃ ks : List Int, xs = [.ref d] ∧ H d = some (.dK kvs) ∧ kvs.map (·.1) = ks.map Sum.inl ∧ kvs.length < 64 ∧
  ∀ p, ∀ ms : List Int, H p = none → ms.Perm ks → ms.Pairwise (· ≤ ·) → Q (.ref p) (upd H p (.lst (ms.map V.int)))
end
end L2
set_option maxHeartbeats 4000000
namespace L2
open PySem PySem.Spec PyProof.Rows
open AutoSeq1 (wpAny_loadPart')
section
variable {prog : Program} {w : World} {A : Around} {E : Value → Shared → Prop} {s : Shared}
end
end L2
namespace L2
open PySem PySem.Spec PyProof.Rows
section
variable {X : Cx}
noncomputable def rDPop : V → List V → Hp → VK → Prop := fun x vs H Q => ∃ d kvs k v, x = .ref d ∧ vs = [kV k] ∧ H d = some (.dK kvs) ∧ valV kvs k = some v ∧ Q v (upd H d (.dK (dropK kvs k)))
end
end L2
set_option maxHeartbeats 4000000
namespace L2
open PySem PySem.Spec PyProof.Rows
section
variable {X : Cx}
end
end L2
namespace L2
open PySem PySem.Spec PyProof.Rows
section
variable {X : Cx} {k : Nat} {f C : Addr} {fd : FuncData} {ps : List Str} {sp : Sp} {x m : Str} {p pos apos : Pos} {e o : Expr} {es : List Expr} {ta : TE} {t : TA}
end
end L2
set_option maxHeartbeats 4000000
namespace L2
open PySem PySem.Spec PyProof.Rows
section
variable {X : Cx}
noncomputable def rIndexS (K : PySem.W.Frag) : V → List V → Hp → VK → Prop := fun x vs H Q => ∃ l, ∃ ns : List Str, ∃ z, ∃ j : Nat, x = .ref l ∧ vs = [.str z] ∧ SqL K H l (ns.map V.str) ∧ ns[j]? = some z ∧ (∀ m, m < j → ns[m]? ≠ some z) ∧ Q (.int j) H
end
end L2
set_option maxHeartbeats 4000000
namespace L2
open PySem PySem.Spec PyProof.Rows
section
variable {M : Model} {A : Around} {E : Value → Shared → Prop} {s : Shared} {Q : Unit → Shared → Prop} {base : Heap} {env : Env} {outer : List Env} {L e : Addr} {C : Value} {ed : Option Addr} {G : Heap} {H : Hp}
end
section
variable {X : Cx} {k : Nat} {f C : Addr} {fd : FuncData} {ps : List Str} {sp : Sp} {x m : Str} {p pos apos : Pos} {e o : Expr} {es : List Expr} {ta : TE} {t : TA} {E : XK}
end
section
variable {X : Cx} {pins : List (Addr × Obj)} {σ : St} {H : Hp} {s : Shared} {W : Value → Shared → Prop}
end
section
variable {X : Cx} {pins : List (Addr × Obj)} {σ : St} {H2 : Hp} {s2 : Shared} {scope : Scope} {own rest : List Str} {cl : List (Str × Addr)} {fp : List Addr} {E : Value → Shared → Prop}
end
section
variable {X : Cx} {pins : List (Addr × Obj)} {σ : St} {H2 : Hp} {s2 : Shared} {scope : Scope} {N' : List Str} {cl : List (Str × Addr)} {fp : List Addr} {C : Addr} {EX : XK} {use : Option (Value → Sem Unit)} {QQ : Value → Shared → Prop} {acc : Value}
end
section
variable {X : Cx} {elt tg iter : Expr} {ifs : List Expr} {scope : Scope} {pos : Pos} {wi : TI} {g : TG} {tt : TT} {te : TE} {EX : XK}
end
end L2
set_option maxHeartbeats 4000000
namespace L2
open PySem PySem.Spec PyProof.Rows
section
variable {prog : Program} {w : World} {A : Around} {R : Result → Shared → Prop} {I : Addr} {fp wr : List Addr} {G : Array GenState → Array GenState → Prop} {n : Nat} {P : Nat → Value → Prop} {St : Nat → Shared → Prop}
variable {α : Type} [DecidableEq α] [BEq α] [LawfulBEq α] {knd : PySem.KeyKind prog w α}
end
section
variable {prog : Program} {w : World} {A : Around} {E : Value → Shared → Prop} {s : Shared}
set_option maxHeartbeats 3200000 in
variable {α : Type} [DecidableEq α] [BEq α] [LawfulBEq α] {knd : PySem.KeyKind prog w α}
end
end L2
set_option maxHeartbeats 4000000
namespace L2
open PySem PySem.Spec PyProof.Rows
section
variable {X : Cx}
end
end L2
set_option maxHeartbeats 4000000
namespace L2
open PySem PySem.Spec PyProof.Rows
section
variable {X : Cx}
end
end L2
set_option maxHeartbeats 4000000
namespace L2
open PySem PySem.Spec PyProof.Rows
section
variable {X : Cx}
noncomputable def tStop : TS := fun _ _ _ => False
end
end L2
set_option maxHeartbeats 4000000
namespace L2
open PySem PySem.Spec PyProof.Rows
section
variable {X : Cx}
end
section
variable {X : Cx}
end
end L2
set_option maxHeartbeats 4000000
namespace L2
open PySem PySem.Spec PyProof.Rows
section
variable {prog : Program} {w : World} {A : Around} {E : Value → Shared → Prop} {s : Shared}
end
section
variable {prog : Program} {w : World} {A : Around} {R : Result → Shared → Prop} {I : Addr} {fp wr : List Addr} {G : Array GenState → Array GenState → Prop} {n : Nat} {P : Nat → Value → Prop} {St : Nat → Shared → Prop}
variable {α : Type} [DecidableEq α] {knd : PySem.KeyKind prog w α}
end
section
variable {prog : Program} {w : World} {A : Around} {E : Value → Shared → Prop} {s : Shared} {α : Type} [DecidableEq α] {knd : PySem.KeyKind prog w α}
end
section
variable {X : Cx}
end
end L2
set_option maxHeartbeats 4000000
namespace HT
open PySem PySem.Spec PyProof.Rows L2
end HT
namespace L2
open PySem PySem.Spec PyProof.Rows HT
section
variable {prog : Program} {w : World} {A : Around} {E : Value → Shared → Prop} {s : Shared}
end
section
variable {X : Cx}
end
end L2
set_option maxHeartbeats 4000000
namespace L2
open PySem PySem.Spec PyProof.Rows
section
variable {prog : Program} {w : World} {A : Around} {R : Result → Shared → Prop} {I : Addr} {fp wr : List Addr} {n : Nat} {P : Nat → Value → Prop} {St : Nat → Heap → Prop}
end
section
variable {prog : Program} {w : World} {A : Around} {E : Value → Shared → Prop} {s : Shared}
end
section
variable {prog : Program} {w : World} {A : Around} {R : Result → Shared → Prop} {I : Addr} {fp wr : List Addr} {n : Nat} {P : Nat → Value → Prop} {St : Nat → Heap → Prop}
end
section
variable {prog : Program} {w : World} {A : Around} {E : Value → Shared → Prop} {s : Shared}
end
end L2
set_option maxHeartbeats 4000000
namespace L2
open PySem PySem.Spec PyProof.Rows
section
variable {X : Cx}
end
end L2
set_option maxHeartbeats 4000000
namespace L2
open PySem PySem.Spec PyProof.Rows
section
variable {X : Cx}
end
end L2
set_option maxHeartbeats 4000000
namespace L2
open PySem PySem.Spec PyProof.Rows
section
variable {X : Cx}
end
end L2
set_option maxHeartbeats 4000000
namespace L2
open PySem PySem.Spec PyProof.Rows
section
variable {α β : Type} {R S : α → β → Prop} {xs : List α} {ys : List β}
end
end L2
set_option maxHeartbeats 4000000
namespace L2
open PySem PySem.Spec PyProof.Rows
section
variable {X : Cx}
end
structure ExcM (mg : Str → Option Value) (n : Str) (a : Addr) : Prop where
  m : mg n = some (.ref a)
end L2
set_option maxHeartbeats 4000000
namespace L2
open PySem PySem.Spec PyProof.Rows
noncomputable def ConD (w : World) (K : PySem.W.Frag) (d : Addr) (kvs : List (Str × Str)) : Prop := (d == sysModules) = false ∧ (kvs.map (·.1)).Nodup ∧ ∃ (es : Array DictEntry) (n : Nat), K.lookup d = some ⟨.type "dict", none, .dict es n, #[]⟩ ∧ PySem.W.KeysLit w.params es.toList ∧
  Paired (fun (e : DictEntry) (kv : Str × Str) => (∃ t, e.key = .str kv.1 t) ∧ ∃ t, e.val = .str kv.2 t) es.toList kvs
noncomputable def ValD (us : List (Str × Value)) (kvs : List (Str × Str)) : Prop := Paired (fun (u : Str × Value) (kv : Str × Str) => u.1 = kv.1 ∧ ∃ t, u.2 = .str kv.2 t) us kvs
theorem con_us {P : Program} {w : World} : ∀ {l : List DictEntry} {kvs : List (Str × Str)}, Paired (fun (e : DictEntry) (kv : Str × Str) => (∃ t, e.key = .str kv.1 t) ∧ ∃ t, e.val = .str kv.2 t) l kvs → ∃ us, Pairs (strKind P w) l us ∧ ValD us kvs ∧ us.map (·.1) = kvs.map (·.1)
  | _, _, .nil => ⟨[], .nil, .nil, rfl⟩
  | e :: l, kv :: kvs, .cons r t => by
    obtain ⟨us, h1, h2, h3⟩ := con_us (P := P) (w := w) t
    obtain ⟨⟨t1, e1⟩, t2, e2⟩ := r
    exact ⟨(kv.1, e.val) :: us, .cons (by rw [e1]; exact strKind_is P w kv.1 t1) rfl h1, .cons ⟨rfl, t2, e2⟩ h2, by rw [List.map_cons, List.map_cons, h3]⟩
theorem ConD.at {P : Program} {w : World} {K : PySem.W.Frag} {d : Addr} {kvs : List (Str × Str)} (c : ConD w K d kvs) : ∃ us ep, ValD us kvs ∧ ∀ h : Heap, K.In h → h.DictAt (strKind P w) d us ep := by
  obtain ⟨_, nd, es, n, hl, hk, pr⟩ := c
  obtain ⟨us, h1, h2, h3⟩ := con_us (P := P) (w := w) pr
  refine ⟨us, n, h2, fun h X => ⟨_, es, X _ _ hl, ⟨rfl, rfl, rfl⟩, rfl, fun e he => ?_, h1, by rw [h3]; exact nd⟩⟩
  obtain ⟨x, t, e1, e2⟩ := hk.all e (Array.mem_toList_iff.mpr he)
  exact ⟨x, by rw [e1]; exact strKind_is P w x t, e2⟩
theorem ValD.get {us : List (Str × Value)} {kvs : List (Str × Str)} (h : ValD us kvs) {i : Nat} {kv : Str × Str} (e : kvs[i]? = some kv) : ∃ t, us[i]? = some (kv.1, .str kv.2 t) := by
  induction h generalizing i with
  | nil => simp at e
  | cons r t ih =>
    cases i with
    | zero =>
      obtain rfl := Option.some.inj (show some _ = some kv from e)
      obtain ⟨e1, t1, e2⟩ := r
      exact ⟨t1, congrArg some (Prod.ext e1 e2)⟩
    | succ i => exact ih (i := i) (by simpa using e)
theorem ValD.length {us : List (Str × Value)} {kvs : List (Str × Str)} (h : ValD us kvs) : us.length = kvs.length := by
  induction h with
  | nil => rfl
  | cons _ _ ih => rw [List.length_cons, List.length_cons, ih]
noncomputable def Itd (kvs : List (Str × Str)) : It where
  go := fun i _ => i < kvs.length
  yld := fun i H y H' => ∃ p kv, H p = none ∧ y = .ref p ∧ kvs[i]? = some kv ∧ H' = upd H p (.tup [.str kv.1, .str kv.2])
  stop := fun i _ => kvs.length ≤ i
theorem is_str {P : Program} {w : World} {k : Str} {v : Value} (h : (strKind P w).is k v = true) : ∃ t, v = .str k t := by
  cases v with
  | str x t =>
    have : Value.isStrOf k (.str x t) = true := h
    unfold Value.isStrOf at this
    exact ⟨t, by rw [show x = k by simpa using this]⟩
  | _ => exact absurd h (by simp [PySem.strKind, Value.isStrOf])
theorem turn_items {P : Program} {w : World} {K : PySem.W.Frag} {elts : List Expr} {x1 : Nat} {tpos : Pos} {d : Addr} {kvs : List (Str × Str)} {us : List (Str × Value)} {ep : Nat} (it : Addr) (hv : ValD us kvs) (hd : ∀ h : Heap, K.In h → h.DictAt (strKind P w) d us ep) : Turn P w K (.Tuple elts x1 tpos) (Itd kvs) [it] it (fun i h => ∃ ok ov, IsItemIter h it d i us.length ep ok ov) where
  mem := by simp
  obj := fun i h st b hb => by
    obtain ⟨ok, ov, h1⟩ := st
    cases List.mem_singleton.mp hb
    exact ⟨_, h1, fun v z => nomatch z⟩
  keep := fun i h h' st k => by
    obtain ⟨ok, ov, h1⟩ := st
    exact ⟨ok, ov, k it (by simp) _ h1⟩
  item := by
    intro X hP hw hK hc i pins s σ H E I hf st hg
    subst hP hw hK
    have hi : i < kvs.length := hg
    obtain ⟨t, ht⟩ := hv.get (List.getElem?_eq_getElem hi)
    obtain ⟨ok, ov, h1⟩ := st
    obtain ⟨g0, g1, g2, g3, g4, g5⟩ := hf it (by simp)
    have fr : H s.heap.objs.size = none := I.hok.fresh (Nat.le_refl _)
    have pe : s.heap.objs.size ≠ it := Nat.ne_of_gt (Heap.lt_size h1)
    refine wpAny_pyNext_items_item h1 (hd _ I.kIn) ht fun key h' hkey out tup sz k => ⟨.ref s.heap.objs.size, rfl, ?_⟩
    obtain ⟨tk, rfl⟩ := is_str hkey
    refine wpAny_letOwnedTupleGo_items (s := { s with heap := h' }) out fun h'' he' sb => ?_
    have kk : ∀ b o, b ∉ [it] → s.heap.get? b = some o → h''.get? b = some o := fun b o hb z =>
      (sb.2 b (fun q => hb (by simp [q]))).trans (k b o (fun q => hb (by simp [q])) z)
    have kt : h''.get? s.heap.objs.size = some { cls := .type "tuple", data := .seq #[.str kvs[i].1 tk, .str kvs[i].2 t] } := (sb.2 _ pe).trans tup
    have nt : ∀ b v, H b = some v → b ∉ [it] := fun b v z hb => by
      cases List.mem_singleton.mp hb
      rw [g0] at z; cases z
    have np : ∀ b v, H b = some v → b ≠ s.heap.objs.size := fun b v z q => by subst q; rw [fr] at z; cases z
    have up : ∀ b v, H b = some v → upd H s.heap.objs.size (.tup [.str kvs[i].1, .str kvs[i].2]) b = some v := fun b v z => by rw [upd_ne (np b v z)]; exact z
    refine ⟨.ref s.heap.objs.size, upd H s.heap.objs.size (.tup [.str kvs[i].1, .str kvs[i].2]), ?_, rfl, ⟨_, kvs[i], fr, rfl, List.getElem?_eq_getElem hi, rfl⟩, ⟨_, _, he'⟩, fun b hb => ?_⟩
    · show Inv X pins σ _ { s with heap := h'', gens := s.gens, drawn := s.drawn, toks := s.toks }
      refine Inv.step (s := s) (h' := h'') (t' := s.toks) (g' := s.gens) (d' := s.drawn) (ch := [it]) I (fun b hb => ?_) (fun b o _ _ hb z _ => kk b o hb z) (fun b o _ _ hb z _ => ⟨o.slots, kk b o hb z⟩) (fun b o _ z n => by rw [upd_ne (Nat.ne_of_lt (Heap.lt_size z))]; exact n) (fun b o hb z => ⟨o, kk b o hb z⟩)
        (fun b ys z => up b _ z) (fun b o v z => up b _ z) (fun b ps z => ⟨#[], by rw [Array.append_empty]; exact up b _ z⟩) (fun m hm => ?_) (fun b v z => ?_) I.bare
      · cases List.mem_singleton.mp hb
        exact ⟨g3, g1, g4, g5⟩
      · obtain ⟨o, es, ep', ho, r⟩ := hm
        refine ⟨o, es, ep', kk _ o (fun hb => ?_) ho, r⟩
        exact g1 (List.mem_singleton.mp hb).symm
      · by_cases q : b = s.heap.objs.size
        · subst q
          rw [upd_same] at z
          cases z
          exact ⟨small_line (Nat.le_of_ble_eq_true rfl), [.str kvs[i].1 tk, .str kvs[i].2 t], .cons ⟨_, rfl⟩ (.cons ⟨_, rfl⟩ .nil), _, kt, rfl, _, rfl⟩
        · rw [upd_ne q] at z
          refine (I.hok b v z).stay (fun c o hc y => kk c o ?_ y) (fun c y => up c _ y) fun c ys y => up c _ y
          rcases hc with rfl | hc
          · exact nt _ _ z
          · exact nt _ _ hc
    · cases List.mem_singleton.mp hb
      rw [upd_ne (Ne.symm pe)]; exact g0
  done := by
    intro X hP hw hK hc i pins s σ H E I hf st hg
    subst hP hw hK
    have hi : kvs.length ≤ i := hg
    obtain ⟨ok, ov, h1⟩ := st
    obtain ⟨g0, g1, g2, g3, g4, g5⟩ := hf it (by simp)
    exact wpAny_pyNext_items_end (I.ok.hd hc) h1 (hd _ I.kIn) (List.getElem?_eq_none (by rw [hv.length]; exact hi)) fun h' eb => ⟨rfl, I.turned (t' := s.toks) (fun b o hb z => eb b o hb z) g0 g1 g3 g4 g5⟩
  self := fun _ _ _ _ _ st h => by
    obtain ⟨ok, ov, h1⟩ := st
    exact PySem.W.kcp_self h1 h
section
variable {X : Cx}
noncomputable def iItems (kvs : List (Str × Str)) : TI := fun _ H R => R (Itd kvs) H
theorem pi_items {x : Str} {d : Addr} {kvs : List (Str × Str)} {np apos pos tpos : Pos} {elts : List Expr} {x1 : Nat} (c : ConD X.w X.K d kvs) (hm : X.mg x = some (.ref d)) (hg : Gl X x) (hdb : (x == ("__debug__" : Str)) = false) (hb : attributeBase (.Name x np) "items" X.env (eval (.Name x np) X.env) = eval (.Name x np) X.env) (hl : (apos.endLine == pos.line) = true) :
    PI X (.Tuple elts x1 tpos) (.Call (.Attribute (.Name x np) "items" apos) [] [] pos) (iItems kvs) := by
  intro pins s σ H R I h
  obtain ⟨us, ep, hv, hd⟩ := c.at (P := X.prog)
  refine wpAny_Call_items (knd := strKind X.prog X.w) c.1 (hd _ I.kIn).dictOf hb hl (fun Q' q => ld_glob I hg hm q hdb) ?_
  have I1 := I.kept (h' := s.heap.push { cls := .type "dict_items", data := .fields #[.ref d] }) (t' := s.toks) fun _ _ q => Heap.get?_push_of_some _ q
  have I1 : Inv X pins σ H { s with heap := s.heap.push { cls := .type "dict_items", data := .fields #[.ref d] } } := I1
  refine wpAny_pyIter_items (s := { s with heap := s.heap.push { cls := .type "dict_items", data := .fields #[.ref d] } }) ⟨_, Heap.get?_push_size _ rfl, rfl, rfl⟩ (hd _ I1.kIn) ?_
  have I2 := I1.kept (h' := (s.heap.push { cls := .type "dict_items", data := .fields #[.ref d] }).push { cls := .type "dict_itemiterator", data := .fields #[.none, .bool false, .ref d, .int 0 0, .int us.length 0, .int ep 0, .none, .none] }) (t' := s.toks) fun _ _ q => Heap.get?_push_of_some _ q
  refine ⟨_, [_], _, _, H, rfl, I2, turn_items _ hv hd, ⟨_, _, Heap.get?_push_size _ rfl⟩, fun b hb => ?_, h⟩
  cases List.mem_singleton.mp hb
  exact I1.fpOk (Nat.le_refl _) (I1.hok.fresh (Nat.le_refl _))
end
theorem ForW.items {kvs : List (Str × Str)} {g : TG} {tb : TS} {D : Ends} {σ : St} {H : Hp} (Pv : Nat → St → Hp → Prop) (h0 : Pv 0 σ H)
    (hs : ∀ (i : Nat) kv σ H p, kvs[i]? = some kv → Pv i σ H → H p = none → g (.ref p) σ (upd H p (.tup [.str kv.1, .str kv.2])) fun σ2 H2 => tb { D with nx := Pv (i + 1), ct := Pv (i + 1), bk := D.nx } σ2 H2)
    (hd : ∀ σ H, Pv kvs.length σ H → D.nx σ H) : ForW (Itd kvs) g tb D σ H := by
  refine ⟨fun i m σ H => Pv i σ H ∧ i ≤ kvs.length ∧ m = kvs.length - i, ⟨_, h0, Nat.zero_le _, rfl⟩, fun i m σ H ⟨h1, h2, h3⟩ => ?_⟩
  by_cases e : i = kvs.length
  · subst e
    exact .inl ⟨Nat.le_refl _, hd σ H h1⟩
  · have lt : i < kvs.length := Nat.lt_of_le_of_ne h2 e
    refine .inr ⟨lt, Pv (i + 1), fun σ' H' z => ⟨kvs.length - (i + 1), by omega, z, lt, rfl⟩, fun x H' hy => ?_⟩
    obtain ⟨p, kv, hp, rfl, hx, rfl⟩ := hy
    exact hs i kv σ H p hx h1 hp
section
variable {X : Cx}
noncomputable def rStarts3 : V → List V → Hp → VK → Prop := fun x vs H Q => ∃ z y i, x = .str z ∧ vs = [.str y, .int i] ∧ Q (.bl (Txt.startswith3 z y i)) H
theorem mt_startswith3 : MtR X "str.startswith" rStarts3 := by
  intro pins s σ H x vs v us Q I rx rv h
  obtain ⟨z, y, i, rfl, rfl, q⟩ := h
  obtain ⟨t, rfl⟩ := rx
  obtain ⟨u, w', rfl, ⟨t1, rfl⟩, t2, rfl⟩ := vals2 rv
  exact SC.startswith3 ⟨.bl _, H, I, rfl, q⟩
end
end L2
set_option maxHeartbeats 4000000
namespace L2
open PySem PySem.Spec PyProof.Rows
noncomputable def cdAt (kvs : List (Str × Str)) (k : Str) : Option Str := (kvs.find? fun kv => decide (kv.1 = k)).map (·.2)
theorem ValD.val {us : List (Str × Value)} {kvs : List (Str × Str)} (h : ValD us kvs) (k : Str) : (cdAt kvs k = none ∧ valueAt us k = none) ∨ ∃ z t, cdAt kvs k = some z ∧ valueAt us k = some (.str z t) := by
  unfold cdAt valueAt
  induction h with
  | nil => exact .inl ⟨rfl, rfl⟩
  | @cons u kv us kvs r _ ih =>
    obtain ⟨e1, t1, e2⟩ := r
    rw [List.find?_cons, List.find?_cons]
    by_cases c : kv.1 = k
    · rw [decide_eq_true c, decide_eq_true (e1.trans c)]
      exact .inr ⟨kv.2, t1, rfl, congrArg some e2⟩
    · rw [decide_eq_false c, decide_eq_false (fun z => c (e1.symm.trans z))]
      exact ih
noncomputable def tCIn (kvs : List (Str × Str)) (ty : TE) : TE := fun σ H Q => ty σ H fun y H1 => ∃ k, y = .str k ∧ Q (.bl (cdAt kvs k).isSome) H1
noncomputable def tCGet (kvs : List (Str × Str)) (ty : TE) : TE := fun σ H Q => ty σ H fun y H1 => ∃ k z, y = .str k ∧ cdAt kvs k = some z ∧ Q (.str z) H1
section
variable {X : Cx} {i : Expr} {ty : TE} {x : Str} {d : Addr} {kvs : List (Str × Str)} {np pos : Pos}
theorem pc_cin (c : ConD X.w X.K d kvs) (hm : X.mg x = some (.ref d)) (hg : Gl X x) (hdb : (x == ("__debug__" : Str)) = false) (hi : PE X i ty) : PC X .In i (.Name x np) (tCIn kvs ty) := by
  intro pins s σ H Q I h
  obtain ⟨us, ep, hv, hd⟩ := c.at (P := X.prog)
  refine thn (hi pins s σ H _ I h) fun iv s1 ⟨y, H1, I1, ry, k, ey, q⟩ => ld_glob I1 hg hm ?_ hdb
  subst ey
  obtain ⟨t, rfl⟩ := ry
  refine wpAny_in_of (knd := strKind X.prog X.w) (strKind_is X.prog X.w k t) c.1 (hd _ I1.kIn).dictOf.mapOf ?_
  have e : (valueAt us k).isSome = (cdAt kvs k).isSome := by
    rcases hv.val k with ⟨e1, e2⟩ | ⟨z, t, e1, e2⟩ <;> rw [e1, e2] <;> rfl
  exact ⟨.bl (cdAt kvs k).isSome, H1, I1.tok _, by rw [← e]; rfl, q⟩
theorem pe_cget (c : ConD X.w X.K d kvs) (hm : X.mg x = some (.ref d)) (hg : Gl X x) (hdb : (x == ("__debug__" : Str)) = false) (hi : PE X i ty) (hs : NoSl i) : PE X (.Subscript (.Name x np) i pos) (tCGet kvs ty) := by
  intro pins s σ H Q I h
  obtain ⟨us, ep, hv, hd⟩ := c.at (P := X.prog)
  refine subD_of PySem.F.slot_dict_getitem.lookup hs (ld_glob I hg hm ?_ hdb)
  refine thn (hi pins s σ H _ I h) fun iv s1 ⟨y, H1, I1, ry, k, z, ey, ez, q⟩ => ?_
  subst ey
  obtain ⟨t, rfl⟩ := ry
  refine ⟨(hd _ I1.kIn).dictOf.typeIs, ?_⟩
  rcases hv.val k with ⟨e1, e2⟩ | ⟨z', t', e1, e2⟩
  · rw [e1] at ez; cases ez
  · obtain rfl : z' = z := Option.some.inj (e1.symm.trans ez)
    exact wpAny_getItem_of (knd := strKind X.prog X.w) (strKind_is X.prog X.w k t) (hd _ I1.kIn).dictOf.mapOf e2 ⟨.str z', H1, I1.tok _, ⟨_, rfl⟩, q⟩
end
noncomputable def tFmt (t : TE) : TE := fun σ H Q => t σ H fun x H1 => ∃ z, x = .str z ∧ z.length ≤ sizeLine ∧ Q (.str z) H1
noncomputable abbrev TJ := Str → TE
noncomputable def PJ (X : Cx) (es : List Expr) (t : TJ) : Prop := ∀ (pins : List (Addr × Obj)) (s : Shared) (σ : St) (H : Hp) (acc : Str) (Q : VK), Inv X pins σ H s → t acc σ H Q →
  Joins (model X.prog X.w) X.A X.xe (evalEach es X.env) acc (fun out s1 => out.length ≤ sizeLine ∧ EP X pins σ Q (.str out s1.toks) { s1 with toks := s1.toks + 1 }) s
noncomputable def jNil : TJ := fun acc _ H Q => acc.length ≤ sizeLine ∧ Q (.str acc) H
noncomputable def jCons (te : TE) (t : TJ) : TJ := fun acc σ H Q => te σ H fun x H1 => ∃ y, x = .str y ∧ (acc ++ y).length ≤ sizeLine ∧ t (acc ++ y) σ H1 Q
section
variable {X : Cx}
theorem pe_fmt {e : Expr} {pos : Pos} {t : TE} (h : PE X e t) : PE X (.FormattedValue e (-1) none pos) (tFmt t) := by
  intro pins s σ H Q I hq
  refine wpAny_FormattedValue_plain (thn (h pins s σ H _ I hq) fun v s1 ⟨x, H1, I1, rx, z, ex, hz, q⟩ => ?_)
  subst ex
  obtain ⟨tk, rfl⟩ := rx
  exact wpAny_formatField_str ⟨.str z, H1, I1, ⟨_, rfl⟩, q⟩ ⟨.str z, H1, I1.tok _, ⟨_, rfl⟩, q⟩ hz
theorem pj_nil : PJ X [] jNil := fun pins s σ H acc Q I h => ⟨h.1, .str acc, H, I.tok _, ⟨_, rfl⟩, h.2⟩
theorem pj_cons {e : Expr} {es : List Expr} {te : TE} {t : TJ} (he : PE X e te) (ht : PJ X es t) : PJ X (e :: es) (jCons te t) := fun pins s σ H acc Q I h =>
  thn (he pins s σ H _ I h) fun v s1 ⟨x, H1, I1, rx, y, ex, hy, q⟩ => by
    subst ex
    obtain ⟨tk, rfl⟩ := rx
    exact ⟨y, tk, rfl, hy, ht pins s1 σ H1 _ Q I1 q⟩
theorem pe_fstr {v1 v2 : Expr} {rest : List Expr} {pos : Pos} {t : TJ} (h : PJ X (v1 :: v2 :: rest) t) : PE X (.JoinedStr (v1 :: v2 :: rest) pos) (t Str.empty) := fun pins s σ H Q I hq =>
  wpAny_JoinedStr (h pins s σ H _ Q I hq)
end
end L2
namespace NS
open PySem L2
seal L2.PE L2.PT L2.PA L2.PS L2.PSs L2.PG L2.PI L2.PTs L2.PW L2.PO L2.PGs L2.PPs L2.OpR L2.CallR L2.IxR L2.SlR L2.UnR L2.PSet
noncomputable def top (i : Nat) : Stmt := PySem.Challenge.pw_crosshall_k09_sieve_texts.main.body.getD i (.Pass ⟨0, 0, 0, 0⟩)
noncomputable abbrev s_is_made_of : Stmt := top 10
noncomputable abbrev s_is_short_text : Stmt := top 11
noncomputable abbrev s_is_name : Stmt := top 12
noncomputable abbrev s_is_word : Stmt := top 13
noncomputable abbrev s_written : Stmt := top 14
noncomputable abbrev s_writes_number : Stmt := top 15
noncomputable abbrev s_read_value : Stmt := top 16
noncomputable abbrev s_field_at : Stmt := top 18
noncomputable abbrev s_is_of_kind : Stmt := top 20
noncomputable abbrev s_asked_plain : Stmt := top 21
noncomputable abbrev s_asked_sieve : Stmt := top 22
noncomputable abbrev s_shown_sieve : Stmt := top 29
noncomputable abbrev s_settled_value : Stmt := top 31
noncomputable abbrev s_settled : Stmt := top 32
noncomputable abbrev s_read_sieve : Stmt := top 33
noncomputable abbrev s_l_cell_at : Stmt := top 35
noncomputable abbrev s_l_mix : Stmt := top 36
noncomputable abbrev s_l_heads : Stmt := top 37
noncomputable abbrev s_l_world : Stmt := top 38
noncomputable abbrev s_l_sure_value : Stmt := top 39
noncomputable abbrev s_l_plain : Stmt := top 40
noncomputable abbrev s_l_closed : Stmt := top 41
noncomputable abbrev s_l_grown : Stmt := top 42
noncomputable abbrev s_l_written : Stmt := top 43
noncomputable abbrev s_l_text : Stmt := top 44
noncomputable abbrev s_law : Stmt := top 45
noncomputable abbrev s_Reading___init__ : Stmt := inCls (top 30) 0
noncomputable abbrev s_Reading_takes : Stmt := inCls (top 30) 1
noncomputable abbrev s_Reading_run_of : Stmt := inCls (top 30) 2
noncomputable abbrev s_Reading_one_sieve : Stmt := inCls (top 30) 3
noncomputable abbrev s_Reading_some_sieves : Stmt := inCls (top 30) 4
noncomputable abbrev s_Reading_plain_sieve : Stmt := inCls (top 30) 5
noncomputable abbrev s_Reading_value_text : Stmt := inCls (top 30) 6
noncomputable abbrev s_Reading_bound : Stmt := inCls (top 30) 7
theorem sc_is_made_of : FnScope ["text", "signs"] ["text", "signs"] (defScope s_is_made_of) := ⟨rfl, rfl, rfl, by decide +kernel, rfl, by decide +kernel, by decide +kernel⟩
theorem sc_is_short_text : FnScope ["thing", "signs"] ["thing", "signs"] (defScope s_is_short_text) := ⟨rfl, rfl, rfl, by decide +kernel, rfl, by decide +kernel, by decide +kernel⟩
theorem sc_is_name : FnScope ["thing"] ["thing"] (defScope s_is_name) := ⟨rfl, rfl, rfl, by decide +kernel, rfl, by decide +kernel, by decide +kernel⟩
theorem sc_is_word : FnScope ["thing"] ["thing"] (defScope s_is_word) := ⟨rfl, rfl, rfl, by decide +kernel, rfl, by decide +kernel, by decide +kernel⟩
theorem sc_written : FnScope ["value"] ["value"] (defScope s_written) := ⟨rfl, rfl, rfl, by decide +kernel, rfl, by decide +kernel, by decide +kernel⟩
theorem sc_writes_number : FnScope ["text", "figures"] ["text"] (defScope s_writes_number) := ⟨rfl, rfl, rfl, by decide +kernel, rfl, by decide +kernel, by decide +kernel⟩
theorem sc_read_value : FnScope ["kind", "text"] ["kind", "text"] (defScope s_read_value) := ⟨rfl, rfl, rfl, by decide +kernel, rfl, by decide +kernel, by decide +kernel⟩
theorem sc_field_at : FnScope ["fields", "name", "place", "field"] ["fields", "name"] (defScope s_field_at) := ⟨rfl, rfl, rfl, by decide +kernel, rfl, by decide +kernel, by decide +kernel⟩
theorem sc_is_of_kind : FnScope ["kind", "value"] ["kind", "value"] (defScope s_is_of_kind) := ⟨rfl, rfl, rfl, by decide +kernel, rfl, by decide +kernel, by decide +kernel⟩
theorem sc_asked_plain : FnScope ["fields", "sieve", "name", "kind"] ["fields", "sieve"] (defScope s_asked_plain) := ⟨rfl, rfl, rfl, by decide +kernel, rfl, by decide +kernel, by decide +kernel⟩
theorem sc_asked_sieve : FnScope ["fields", "sieve"] ["fields", "sieve"] (defScope s_asked_sieve) := ⟨rfl, rfl, rfl, by decide +kernel, rfl, by decide +kernel, by decide +kernel⟩
theorem sc_shown_sieve : FnScope ["sieve", "form", "joint", "inner"] ["sieve"] (defScope s_shown_sieve) := ⟨rfl, rfl, rfl, by decide +kernel, rfl, by decide +kernel, by decide +kernel⟩
theorem sc_settled_value : FnScope ["fields", "name", "text", "kind", "value"] ["fields", "name", "text"] (defScope s_settled_value) := ⟨rfl, rfl, rfl, by decide +kernel, rfl, by decide +kernel, by decide +kernel⟩
theorem sc_settled : FnScope ["fields", "sieve"] ["fields", "sieve"] (defScope s_settled) := ⟨rfl, rfl, rfl, by decide +kernel, rfl, by decide +kernel, by decide +kernel⟩
theorem sc_read_sieve : FnScope ["fields", "text", "reading", "sieve"] ["fields", "text"] (defScope s_read_sieve) := ⟨rfl, rfl, rfl, by decide +kernel, rfl, by decide +kernel, by decide +kernel⟩
theorem sc_l_cell_at : FnScope ["_law_script", "_law_k"] ["_law_script", "_law_k"] (defScope s_l_cell_at) := ⟨rfl, rfl, rfl, by decide +kernel, rfl, by decide +kernel, by decide +kernel⟩
theorem sc_l_mix : FnScope ["_law_seed", "_law_k", "_law_turn"] ["_law_seed", "_law_k"] (defScope s_l_mix) := ⟨rfl, rfl, rfl, by decide +kernel, rfl, by decide +kernel, by decide +kernel⟩
theorem sc_l_heads : FnScope ["_law_seed", "_law_signs", "_law_many", "_law_most", "_law_word", "_law_few", "_law_at", "_law_rest", "_law_heads_here", "_law_k", "_law_sign"] ["_law_seed", "_law_signs", "_law_many", "_law_most"] (defScope s_l_heads) := ⟨rfl, rfl, rfl, by decide +kernel, rfl, by decide +kernel, by decide +kernel⟩
theorem sc_l_world : FnScope ["_law_script", "_law_seed", "_law_many", "_law_names", "_law_fields", "_law_words", "_law_base"] ["_law_script"] (defScope s_l_world) := ⟨rfl, rfl, rfl, by decide +kernel, rfl, by decide +kernel, by decide +kernel⟩
theorem sc_l_sure_value : FnScope ["_law_seed", "_law_kind", "_law_world_here"] ["_law_seed", "_law_kind", "_law_world_here"] (defScope s_l_sure_value) := ⟨rfl, rfl, rfl, by decide +kernel, rfl, by decide +kernel, by decide +kernel⟩
theorem sc_l_plain : FnScope ["_law_seed", "_law_world_here", "_law_name", "_law_kind", "_law_way"] ["_law_seed", "_law_world_here"] (defScope s_l_plain) := ⟨rfl, rfl, rfl, by decide +kernel, rfl, by decide +kernel, by decide +kernel⟩
theorem sc_l_closed : FnScope ["_law_stack", "_law_opened", "_law_told"] ["_law_stack"] (defScope s_l_closed) := ⟨rfl, rfl, rfl, by decide +kernel, rfl, by decide +kernel, by decide +kernel⟩
theorem sc_l_grown : FnScope ["_law_cells", "_law_world_here", "_law_stack", "_law_many", "_law_k", "_law_seed"] ["_law_cells", "_law_world_here"] (defScope s_l_grown) := ⟨rfl, rfl, rfl, by decide +kernel, rfl, by decide +kernel, by decide +kernel⟩
theorem sc_l_written : FnScope ["_law_value", "_law_left", "_law_text_here"] ["_law_value"] (defScope s_l_written) := ⟨rfl, rfl, rfl, by decide +kernel, rfl, by decide +kernel, by decide +kernel⟩
theorem sc_l_text : FnScope ["_law_sieve", "_law_sign", "_law_text_here", "_law_k"] ["_law_sieve"] (defScope s_l_text) := ⟨rfl, rfl, rfl, by decide +kernel, rfl, by decide +kernel, by decide +kernel⟩
theorem sc_law : FnScope ["_law_script", "_law_world_here", "_law_fields", "_law_some", "_law_k", "_law_sieve", "_law_text_here", "_law_told"] ["_law_script"] (defScope s_law) := ⟨rfl, rfl, rfl, by decide +kernel, rfl, by decide +kernel, by decide +kernel⟩
theorem sc_Reading___init__ : FnScope ["self", "text"] ["self", "text"] (defScope s_Reading___init__) := ⟨rfl, rfl, rfl, by decide +kernel, rfl, by decide +kernel, by decide +kernel⟩
theorem sc_Reading_takes : FnScope ["self", "signs"] ["self", "signs"] (defScope s_Reading_takes) := ⟨rfl, rfl, rfl, by decide +kernel, rfl, by decide +kernel, by decide +kernel⟩
theorem sc_Reading_run_of : FnScope ["self", "signs", "begin"] ["self", "signs"] (defScope s_Reading_run_of) := ⟨rfl, rfl, rfl, by decide +kernel, rfl, by decide +kernel, by decide +kernel⟩
theorem sc_Reading_one_sieve : FnScope ["self", "level", "form", "joint"] ["self", "level"] (defScope s_Reading_one_sieve) := ⟨rfl, rfl, rfl, by decide +kernel, rfl, by decide +kernel, by decide +kernel⟩
theorem sc_Reading_some_sieves : FnScope ["self", "joint", "level", "sieves"] ["self", "joint", "level"] (defScope s_Reading_some_sieves) := ⟨rfl, rfl, rfl, by decide +kernel, rfl, by decide +kernel, by decide +kernel⟩
theorem sc_Reading_plain_sieve : FnScope ["self", "name", "form", "mark"] ["self"] (defScope s_Reading_plain_sieve) := ⟨rfl, rfl, rfl, by decide +kernel, rfl, by decide +kernel, by decide +kernel⟩
theorem sc_Reading_value_text : FnScope ["self", "text"] ["self"] (defScope s_Reading_value_text) := ⟨rfl, rfl, rfl, by decide +kernel, rfl, by decide +kernel, by decide +kernel⟩
theorem sc_Reading_bound : FnScope ["self", "number"] ["self"] (defScope s_Reading_bound) := ⟨rfl, rfl, rfl, by decide +kernel, rfl, by decide +kernel, by decide +kernel⟩
structure Txt (w : World) (K : PySem.W.Frag) (mg : Str → Option Value) (f : Nat → Addr) (fd : Nat → FuncData) : Prop where
  d_is_made_of : DefOk K mg "is_made_of" s_is_made_of ["text", "signs"] (f 10) (fd 10)
  d_is_short_text : DefOk K mg "is_short_text" s_is_short_text ["thing", "signs"] (f 11) (fd 11)
  d_is_name : DefOk K mg "is_name" s_is_name ["thing"] (f 12) (fd 12)
  d_is_word : DefOk K mg "is_word" s_is_word ["thing"] (f 13) (fd 13)
  d_written : DefOk K mg "written" s_written ["value"] (f 14) (fd 14)
  d_writes_number : DefOk K mg "writes_number" s_writes_number ["text"] (f 15) (fd 15)
  d_read_value : DefOk K mg "read_value" s_read_value ["kind", "text"] (f 16) (fd 16)
  d_field_at : DefOk K mg "field_at" s_field_at ["fields", "name"] (f 18) (fd 18)
  d_is_of_kind : DefOk K mg "is_of_kind" s_is_of_kind ["kind", "value"] (f 20) (fd 20)
  d_asked_plain : DefOk K mg "asked_plain" s_asked_plain ["fields", "sieve"] (f 21) (fd 21)
  d_asked_sieve : DefOk K mg "asked_sieve" s_asked_sieve ["fields", "sieve"] (f 22) (fd 22)
  d_shown_sieve : DefOk K mg "shown_sieve" s_shown_sieve ["sieve"] (f 29) (fd 29)
  d_settled_value : DefOk K mg "settled_value" s_settled_value ["fields", "name", "text"] (f 31) (fd 31)
  d_settled : DefOk K mg "settled" s_settled ["fields", "sieve"] (f 32) (fd 32)
  d_read_sieve : DefOk K mg "read_sieve" s_read_sieve ["fields", "text"] (f 33) (fd 33)
  d_l_cell_at : DefOk K mg "_law_cell_at" s_l_cell_at ["_law_script", "_law_k"] (f 35) (fd 35)
  d_l_mix : DefOk K mg "_law_mix" s_l_mix ["_law_seed", "_law_k"] (f 36) (fd 36)
  d_l_heads : DefOk K mg "_law_heads" s_l_heads ["_law_seed", "_law_signs", "_law_many", "_law_most"] (f 37) (fd 37)
  d_l_world : DefOk K mg "_law_world" s_l_world ["_law_script"] (f 38) (fd 38)
  d_l_sure_value : DefOk K mg "_law_sure_value" s_l_sure_value ["_law_seed", "_law_kind", "_law_world_here"] (f 39) (fd 39)
  d_l_plain : DefOk K mg "_law_plain" s_l_plain ["_law_seed", "_law_world_here"] (f 40) (fd 40)
  d_l_closed : DefOk K mg "_law_closed" s_l_closed ["_law_stack"] (f 41) (fd 41)
  d_l_grown : DefOk K mg "_law_grown" s_l_grown ["_law_cells", "_law_world_here"] (f 42) (fd 42)
  d_l_written : DefOk K mg "_law_written" s_l_written ["_law_value"] (f 43) (fd 43)
  d_l_text : DefOk K mg "_law_text" s_l_text ["_law_sieve"] (f 44) (fd 44)
  d_law : DefOk K mg "law" s_law ["_law_script"] (f 45) (fd 45)
  d_Reading___init__ : MthOk K "__init__" "Reading.__init__" s_Reading___init__ ["self", "text"] (f 31000) (fd 31000)
  d_Reading_takes : MthOk K "takes" "Reading.takes" s_Reading_takes ["self", "signs"] (f 31001) (fd 31001)
  d_Reading_run_of : MthOk K "run_of" "Reading.run_of" s_Reading_run_of ["self", "signs"] (f 31002) (fd 31002)
  d_Reading_one_sieve : MthOk K "one_sieve" "Reading.one_sieve" s_Reading_one_sieve ["self", "level"] (f 31003) (fd 31003)
  d_Reading_some_sieves : MthOk K "some_sieves" "Reading.some_sieves" s_Reading_some_sieves ["self", "joint", "level"] (f 31004) (fd 31004)
  d_Reading_plain_sieve : MthOk K "plain_sieve" "Reading.plain_sieve" s_Reading_plain_sieve ["self"] (f 31005) (fd 31005)
  d_Reading_value_text : MthOk K "value_text" "Reading.value_text" s_Reading_value_text ["self"] (f 31006) (fd 31006)
  d_Reading_bound : MthOk K "bound" "Reading.bound" s_Reading_bound ["self"] (f 31007) (fd 31007)
  x_CrossError : ExcM mg "CrossError" (f 1)
  x_NoSieve : ExcM mg "NoSieve" (f 2)
  x_NoField : ExcM mg "NoField" (f 3)
  x_NoKind : ExcM mg "NoKind" (f 4)
  o_Reading : OwnOk K mg "Reading" (f 30) (f 31000)
  m_Reading_takes : Meth K (f 30) "takes" (f 31001)
  m_Reading_run_of : Meth K (f 30) "run_of" (f 31002)
  m_Reading_one_sieve : Meth K (f 30) "one_sieve" (f 31003)
  m_Reading_some_sieves : Meth K (f 30) "some_sieves" (f 31004)
  m_Reading_plain_sieve : Meth K (f 30) "plain_sieve" (f 31005)
  m_Reading_value_text : Meth K (f 30) "value_text" (f 31006)
  m_Reading_bound : Meth K (f 30) "bound" (f 31007)
  na_Reading_at : PySem.W.findIn K (.ref (f 30)) "at" = some none
  na_Reading_begun : PySem.W.findIn K (.ref (f 30)) "begun" = some none
  na_Reading_text : PySem.W.findIn K (.ref (f 30)) "text" = some none
  n_abs : mg "abs" = none
  n_all : mg "all" = none
  n_enumerate : mg "enumerate" = none
  n_int : mg "int" = none
  n_isinstance : mg "isinstance" = none
  n_len : mg "len" = none
  n_list : mg "list" = none
  n_range : mg "range" = none
  n_str : mg "str" = none
  n_tuple : mg "tuple" = none
  g_LETTERS : ∃ tk, mg "LETTERS" = some (.str "abcdefghijklmnopqrstuvwxyz" tk)
  g_FIGURES : ∃ tk, mg "FIGURES" = some (.str "0123456789" tk)
  g_MOST_SIGNS : ∃ tk, mg "MOST_SIGNS" = some (.int (12) tk)
  g_MOST_FIGURES : ∃ tk, mg "MOST_FIGURES" = some (.int (60) tk)
  g_MOST_LEVELS : ∃ tk, mg "MOST_LEVELS" = some (.int (12) tk)
  g_MOST_SIEVES : ∃ tk, mg "MOST_SIEVES" = some (.int (60) tk)
  g_MOST_VALUE_SIGNS : ∃ tk, mg "MOST_VALUE_SIGNS" = some (.int (61) tk)
  g_JOINTS : mg "JOINTS" = some (.ref (f 27))
  c_JOINTS : ConD w K (f 27) [("all", "&"), ("some", "|")]
  g_MARKS : mg "MARKS" = some (.ref (f 28))
  c_MARKS : ConD w K (f 28) [("is", "="), ("under", "<"), ("over", ">")]
theorem len0 {α : Type} {C : List α → Prop} (h : C []) (us : List α) (e : us.length = 0) : C us := (List.length_eq_zero_iff.mp e) ▸ h
theorem lenS {α : Type} {n : Nat} {C : List α → Prop} (h : ∀ (a : α) (us : List α), us.length = n → C (a :: us)) (us : List α) (e : us.length = n + 1) : C us := by
  cases us with
  | nil => cases e
  | cons a r => exact h a r (Nat.succ.inj e)
theorem lenB1 {fd : FuncData} {ps : List Str} (h : ∀ a : Value, bindArgs fd ⟨[a], []⟩ = pure (ps.zip [a])) (us : List Value) (e : us.length = 1) : bindArgs fd ⟨us, []⟩ = pure (ps.zip us) := by
  revert us
  exact lenS fun a => len0 (h a)
theorem lenB2 {fd : FuncData} {ps : List Str} (h : ∀ a b : Value, bindArgs fd ⟨[a, b], []⟩ = pure (ps.zip [a, b])) (us : List Value) (e : us.length = 2) : bindArgs fd ⟨us, []⟩ = pure (ps.zip us) := by
  revert us
  exact lenS fun a => lenS fun b => len0 (h a b)
theorem lenB3 {fd : FuncData} {ps : List Str} (h : ∀ a b c : Value, bindArgs fd ⟨[a, b, c], []⟩ = pure (ps.zip [a, b, c])) (us : List Value) (e : us.length = 3) : bindArgs fd ⟨us, []⟩ = pure (ps.zip us) := by
  revert us
  exact lenS fun a => lenS fun b => lenS fun c => len0 (h a b c)
theorem lenB4 {fd : FuncData} {ps : List Str} (h : ∀ a b c d : Value, bindArgs fd ⟨[a, b, c, d], []⟩ = pure (ps.zip [a, b, c, d])) (us : List Value) (e : us.length = 4) : bindArgs fd ⟨us, []⟩ = pure (ps.zip us) := by
  revert us
  exact lenS fun a => lenS fun b => lenS fun c => lenS fun d => len0 (h a b c d)
theorem txt_mk {w : World} {K : PySem.W.Frag} {h : Heap} {mg : Str → Option Value} (X : K.In h) (G : h.Ns mainGlobals mg)
    {f10 : Addr} {od10 an10 : Option Addr} {sl10 : Array (Option Value)} {oc10 kV10 dc10 pm10 cd10 ct10 : Value}
    {f11 : Addr} {od11 an11 : Option Addr} {sl11 : Array (Option Value)} {oc11 kV11 dc11 pm11 cd11 ct11 : Value}
    {f12 : Addr} {od12 an12 : Option Addr} {sl12 : Array (Option Value)} {oc12 kV12 dc12 pm12 cd12 ct12 : Value}
    {f13 : Addr} {od13 an13 : Option Addr} {sl13 : Array (Option Value)} {oc13 kV13 dc13 pm13 cd13 ct13 : Value}
    {f14 : Addr} {od14 an14 : Option Addr} {sl14 : Array (Option Value)} {oc14 kV14 dc14 pm14 cd14 ct14 : Value}
    {f15 : Addr} {od15 an15 : Option Addr} {sl15 : Array (Option Value)} {oc15 kV15 dc15 pm15 cd15 ct15 : Value}
    {f16 : Addr} {od16 an16 : Option Addr} {sl16 : Array (Option Value)} {oc16 kV16 dc16 pm16 cd16 ct16 : Value}
    {f18 : Addr} {od18 an18 : Option Addr} {sl18 : Array (Option Value)} {oc18 kV18 dc18 pm18 cd18 ct18 : Value}
    {f20 : Addr} {od20 an20 : Option Addr} {sl20 : Array (Option Value)} {oc20 kV20 dc20 pm20 cd20 ct20 : Value}
    {f21 : Addr} {od21 an21 : Option Addr} {sl21 : Array (Option Value)} {oc21 kV21 dc21 pm21 cd21 ct21 : Value}
    {f22 : Addr} {od22 an22 : Option Addr} {sl22 : Array (Option Value)} {oc22 kV22 dc22 pm22 cd22 ct22 : Value}
    {f29 : Addr} {od29 an29 : Option Addr} {sl29 : Array (Option Value)} {oc29 kV29 dc29 pm29 cd29 ct29 : Value}
    {f31 : Addr} {od31 an31 : Option Addr} {sl31 : Array (Option Value)} {oc31 kV31 dc31 pm31 cd31 ct31 : Value}
    {f32 : Addr} {od32 an32 : Option Addr} {sl32 : Array (Option Value)} {oc32 kV32 dc32 pm32 cd32 ct32 : Value}
    {f33 : Addr} {od33 an33 : Option Addr} {sl33 : Array (Option Value)} {oc33 kV33 dc33 pm33 cd33 ct33 : Value}
    {f35 : Addr} {od35 an35 : Option Addr} {sl35 : Array (Option Value)} {oc35 kV35 dc35 pm35 cd35 ct35 : Value}
    {f36 : Addr} {od36 an36 : Option Addr} {sl36 : Array (Option Value)} {oc36 kV36 dc36 pm36 cd36 ct36 : Value}
    {f37 : Addr} {od37 an37 : Option Addr} {sl37 : Array (Option Value)} {oc37 kV37 dc37 pm37 cd37 ct37 : Value}
    {f38 : Addr} {od38 an38 : Option Addr} {sl38 : Array (Option Value)} {oc38 kV38 dc38 pm38 cd38 ct38 : Value}
    {f39 : Addr} {od39 an39 : Option Addr} {sl39 : Array (Option Value)} {oc39 kV39 dc39 pm39 cd39 ct39 : Value}
    {f40 : Addr} {od40 an40 : Option Addr} {sl40 : Array (Option Value)} {oc40 kV40 dc40 pm40 cd40 ct40 : Value}
    {f41 : Addr} {od41 an41 : Option Addr} {sl41 : Array (Option Value)} {oc41 kV41 dc41 pm41 cd41 ct41 : Value}
    {f42 : Addr} {od42 an42 : Option Addr} {sl42 : Array (Option Value)} {oc42 kV42 dc42 pm42 cd42 ct42 : Value}
    {f43 : Addr} {od43 an43 : Option Addr} {sl43 : Array (Option Value)} {oc43 kV43 dc43 pm43 cd43 ct43 : Value}
    {f44 : Addr} {od44 an44 : Option Addr} {sl44 : Array (Option Value)} {oc44 kV44 dc44 pm44 cd44 ct44 : Value}
    {f45 : Addr} {od45 an45 : Option Addr} {sl45 : Array (Option Value)} {oc45 kV45 dc45 pm45 cd45 ct45 : Value}
    {f31000 : Addr} {od31000 an31000 : Option Addr} {sl31000 : Array (Option Value)} {oc31000 kV31000 dc31000 pm31000 cd31000 ct31000 : Value}
    {f31001 : Addr} {od31001 an31001 : Option Addr} {sl31001 : Array (Option Value)} {oc31001 kV31001 dc31001 pm31001 cd31001 ct31001 : Value}
    {f31002 : Addr} {od31002 an31002 : Option Addr} {sl31002 : Array (Option Value)} {oc31002 kV31002 dc31002 pm31002 cd31002 ct31002 : Value}
    {f31003 : Addr} {od31003 an31003 : Option Addr} {sl31003 : Array (Option Value)} {oc31003 kV31003 dc31003 pm31003 cd31003 ct31003 : Value}
    {f31004 : Addr} {od31004 an31004 : Option Addr} {sl31004 : Array (Option Value)} {oc31004 kV31004 dc31004 pm31004 cd31004 ct31004 : Value}
    {f31005 : Addr} {od31005 an31005 : Option Addr} {sl31005 : Array (Option Value)} {oc31005 kV31005 dc31005 pm31005 cd31005 ct31005 : Value}
    {f31006 : Addr} {od31006 an31006 : Option Addr} {sl31006 : Array (Option Value)} {oc31006 kV31006 dc31006 pm31006 cd31006 ct31006 : Value}
    {f31007 : Addr} {od31007 an31007 : Option Addr} {sl31007 : Array (Option Value)} {oc31007 kV31007 dc31007 pm31007 cd31007 ct31007 : Value}
    {f1 : Addr}
    {f2 : Addr}
    {f3 : Addr}
    {f4 : Addr}
    {f30 : Addr}
    (a1 : PySem.W.nsIn K mainGlobals "CrossError" = some (some (.ref f1)))
    (a2 : PySem.W.nsIn K mainGlobals "NoSieve" = some (some (.ref f2)))
    (a3 : PySem.W.nsIn K mainGlobals "NoField" = some (some (.ref f3)))
    (a4 : PySem.W.nsIn K mainGlobals "NoKind" = some (some (.ref f4)))
    (a30 : PySem.W.nsIn K mainGlobals "Reading" = some (some (.ref f30)))
    (a10 : PySem.W.nsIn K mainGlobals "is_made_of" = some (some (.ref f10)))
    (l10 : K.lookup f10 = some ⟨oc10, od10, .func (PySem.W.fnOf "is_made_of" "is_made_of" (defArgs s_is_made_of) (defBody s_is_made_of) (defScope s_is_made_of) .none kV10 dc10 pm10 an10 cd10 ct10), sl10⟩) (c10 : PySem.W.codeIn K cd10 "is_made_of" = true) (k10 : PySem.W.keepIn K (.ref f10) = true)
    (a11 : PySem.W.nsIn K mainGlobals "is_short_text" = some (some (.ref f11)))
    (l11 : K.lookup f11 = some ⟨oc11, od11, .func (PySem.W.fnOf "is_short_text" "is_short_text" (defArgs s_is_short_text) (defBody s_is_short_text) (defScope s_is_short_text) .none kV11 dc11 pm11 an11 cd11 ct11), sl11⟩) (c11 : PySem.W.codeIn K cd11 "is_short_text" = true) (k11 : PySem.W.keepIn K (.ref f11) = true)
    (a12 : PySem.W.nsIn K mainGlobals "is_name" = some (some (.ref f12)))
    (l12 : K.lookup f12 = some ⟨oc12, od12, .func (PySem.W.fnOf "is_name" "is_name" (defArgs s_is_name) (defBody s_is_name) (defScope s_is_name) .none kV12 dc12 pm12 an12 cd12 ct12), sl12⟩) (c12 : PySem.W.codeIn K cd12 "is_name" = true) (k12 : PySem.W.keepIn K (.ref f12) = true)
    (a13 : PySem.W.nsIn K mainGlobals "is_word" = some (some (.ref f13)))
    (l13 : K.lookup f13 = some ⟨oc13, od13, .func (PySem.W.fnOf "is_word" "is_word" (defArgs s_is_word) (defBody s_is_word) (defScope s_is_word) .none kV13 dc13 pm13 an13 cd13 ct13), sl13⟩) (c13 : PySem.W.codeIn K cd13 "is_word" = true) (k13 : PySem.W.keepIn K (.ref f13) = true)
    (a14 : PySem.W.nsIn K mainGlobals "written" = some (some (.ref f14)))
    (l14 : K.lookup f14 = some ⟨oc14, od14, .func (PySem.W.fnOf "written" "written" (defArgs s_written) (defBody s_written) (defScope s_written) .none kV14 dc14 pm14 an14 cd14 ct14), sl14⟩) (c14 : PySem.W.codeIn K cd14 "written" = true) (k14 : PySem.W.keepIn K (.ref f14) = true)
    (a15 : PySem.W.nsIn K mainGlobals "writes_number" = some (some (.ref f15)))
    (l15 : K.lookup f15 = some ⟨oc15, od15, .func (PySem.W.fnOf "writes_number" "writes_number" (defArgs s_writes_number) (defBody s_writes_number) (defScope s_writes_number) .none kV15 dc15 pm15 an15 cd15 ct15), sl15⟩) (c15 : PySem.W.codeIn K cd15 "writes_number" = true) (k15 : PySem.W.keepIn K (.ref f15) = true)
    (a16 : PySem.W.nsIn K mainGlobals "read_value" = some (some (.ref f16)))
    (l16 : K.lookup f16 = some ⟨oc16, od16, .func (PySem.W.fnOf "read_value" "read_value" (defArgs s_read_value) (defBody s_read_value) (defScope s_read_value) .none kV16 dc16 pm16 an16 cd16 ct16), sl16⟩) (c16 : PySem.W.codeIn K cd16 "read_value" = true) (k16 : PySem.W.keepIn K (.ref f16) = true)
    (a18 : PySem.W.nsIn K mainGlobals "field_at" = some (some (.ref f18)))
    (l18 : K.lookup f18 = some ⟨oc18, od18, .func (PySem.W.fnOf "field_at" "field_at" (defArgs s_field_at) (defBody s_field_at) (defScope s_field_at) .none kV18 dc18 pm18 an18 cd18 ct18), sl18⟩) (c18 : PySem.W.codeIn K cd18 "field_at" = true) (k18 : PySem.W.keepIn K (.ref f18) = true)
    (a20 : PySem.W.nsIn K mainGlobals "is_of_kind" = some (some (.ref f20)))
    (l20 : K.lookup f20 = some ⟨oc20, od20, .func (PySem.W.fnOf "is_of_kind" "is_of_kind" (defArgs s_is_of_kind) (defBody s_is_of_kind) (defScope s_is_of_kind) .none kV20 dc20 pm20 an20 cd20 ct20), sl20⟩) (c20 : PySem.W.codeIn K cd20 "is_of_kind" = true) (k20 : PySem.W.keepIn K (.ref f20) = true)
    (a21 : PySem.W.nsIn K mainGlobals "asked_plain" = some (some (.ref f21)))
    (l21 : K.lookup f21 = some ⟨oc21, od21, .func (PySem.W.fnOf "asked_plain" "asked_plain" (defArgs s_asked_plain) (defBody s_asked_plain) (defScope s_asked_plain) .none kV21 dc21 pm21 an21 cd21 ct21), sl21⟩) (c21 : PySem.W.codeIn K cd21 "asked_plain" = true) (k21 : PySem.W.keepIn K (.ref f21) = true)
    (a22 : PySem.W.nsIn K mainGlobals "asked_sieve" = some (some (.ref f22)))
    (l22 : K.lookup f22 = some ⟨oc22, od22, .func (PySem.W.fnOf "asked_sieve" "asked_sieve" (defArgs s_asked_sieve) (defBody s_asked_sieve) (defScope s_asked_sieve) .none kV22 dc22 pm22 an22 cd22 ct22), sl22⟩) (c22 : PySem.W.codeIn K cd22 "asked_sieve" = true) (k22 : PySem.W.keepIn K (.ref f22) = true)
    (a29 : PySem.W.nsIn K mainGlobals "shown_sieve" = some (some (.ref f29)))
    (l29 : K.lookup f29 = some ⟨oc29, od29, .func (PySem.W.fnOf "shown_sieve" "shown_sieve" (defArgs s_shown_sieve) (defBody s_shown_sieve) (defScope s_shown_sieve) .none kV29 dc29 pm29 an29 cd29 ct29), sl29⟩) (c29 : PySem.W.codeIn K cd29 "shown_sieve" = true) (k29 : PySem.W.keepIn K (.ref f29) = true)
    (a31 : PySem.W.nsIn K mainGlobals "settled_value" = some (some (.ref f31)))
    (l31 : K.lookup f31 = some ⟨oc31, od31, .func (PySem.W.fnOf "settled_value" "settled_value" (defArgs s_settled_value) (defBody s_settled_value) (defScope s_settled_value) .none kV31 dc31 pm31 an31 cd31 ct31), sl31⟩) (c31 : PySem.W.codeIn K cd31 "settled_value" = true) (k31 : PySem.W.keepIn K (.ref f31) = true)
    (a32 : PySem.W.nsIn K mainGlobals "settled" = some (some (.ref f32)))
    (l32 : K.lookup f32 = some ⟨oc32, od32, .func (PySem.W.fnOf "settled" "settled" (defArgs s_settled) (defBody s_settled) (defScope s_settled) .none kV32 dc32 pm32 an32 cd32 ct32), sl32⟩) (c32 : PySem.W.codeIn K cd32 "settled" = true) (k32 : PySem.W.keepIn K (.ref f32) = true)
    (a33 : PySem.W.nsIn K mainGlobals "read_sieve" = some (some (.ref f33)))
    (l33 : K.lookup f33 = some ⟨oc33, od33, .func (PySem.W.fnOf "read_sieve" "read_sieve" (defArgs s_read_sieve) (defBody s_read_sieve) (defScope s_read_sieve) .none kV33 dc33 pm33 an33 cd33 ct33), sl33⟩) (c33 : PySem.W.codeIn K cd33 "read_sieve" = true) (k33 : PySem.W.keepIn K (.ref f33) = true)
    (a35 : PySem.W.nsIn K mainGlobals "_law_cell_at" = some (some (.ref f35)))
    (l35 : K.lookup f35 = some ⟨oc35, od35, .func (PySem.W.fnOf "_law_cell_at" "_law_cell_at" (defArgs s_l_cell_at) (defBody s_l_cell_at) (defScope s_l_cell_at) .none kV35 dc35 pm35 an35 cd35 ct35), sl35⟩) (c35 : PySem.W.codeIn K cd35 "_law_cell_at" = true) (k35 : PySem.W.keepIn K (.ref f35) = true)
    (a36 : PySem.W.nsIn K mainGlobals "_law_mix" = some (some (.ref f36)))
    (l36 : K.lookup f36 = some ⟨oc36, od36, .func (PySem.W.fnOf "_law_mix" "_law_mix" (defArgs s_l_mix) (defBody s_l_mix) (defScope s_l_mix) .none kV36 dc36 pm36 an36 cd36 ct36), sl36⟩) (c36 : PySem.W.codeIn K cd36 "_law_mix" = true) (k36 : PySem.W.keepIn K (.ref f36) = true)
    (a37 : PySem.W.nsIn K mainGlobals "_law_heads" = some (some (.ref f37)))
    (l37 : K.lookup f37 = some ⟨oc37, od37, .func (PySem.W.fnOf "_law_heads" "_law_heads" (defArgs s_l_heads) (defBody s_l_heads) (defScope s_l_heads) .none kV37 dc37 pm37 an37 cd37 ct37), sl37⟩) (c37 : PySem.W.codeIn K cd37 "_law_heads" = true) (k37 : PySem.W.keepIn K (.ref f37) = true)
    (a38 : PySem.W.nsIn K mainGlobals "_law_world" = some (some (.ref f38)))
    (l38 : K.lookup f38 = some ⟨oc38, od38, .func (PySem.W.fnOf "_law_world" "_law_world" (defArgs s_l_world) (defBody s_l_world) (defScope s_l_world) .none kV38 dc38 pm38 an38 cd38 ct38), sl38⟩) (c38 : PySem.W.codeIn K cd38 "_law_world" = true) (k38 : PySem.W.keepIn K (.ref f38) = true)
    (a39 : PySem.W.nsIn K mainGlobals "_law_sure_value" = some (some (.ref f39)))
    (l39 : K.lookup f39 = some ⟨oc39, od39, .func (PySem.W.fnOf "_law_sure_value" "_law_sure_value" (defArgs s_l_sure_value) (defBody s_l_sure_value) (defScope s_l_sure_value) .none kV39 dc39 pm39 an39 cd39 ct39), sl39⟩) (c39 : PySem.W.codeIn K cd39 "_law_sure_value" = true) (k39 : PySem.W.keepIn K (.ref f39) = true)
    (a40 : PySem.W.nsIn K mainGlobals "_law_plain" = some (some (.ref f40)))
    (l40 : K.lookup f40 = some ⟨oc40, od40, .func (PySem.W.fnOf "_law_plain" "_law_plain" (defArgs s_l_plain) (defBody s_l_plain) (defScope s_l_plain) .none kV40 dc40 pm40 an40 cd40 ct40), sl40⟩) (c40 : PySem.W.codeIn K cd40 "_law_plain" = true) (k40 : PySem.W.keepIn K (.ref f40) = true)
    (a41 : PySem.W.nsIn K mainGlobals "_law_closed" = some (some (.ref f41)))
    (l41 : K.lookup f41 = some ⟨oc41, od41, .func (PySem.W.fnOf "_law_closed" "_law_closed" (defArgs s_l_closed) (defBody s_l_closed) (defScope s_l_closed) .none kV41 dc41 pm41 an41 cd41 ct41), sl41⟩) (c41 : PySem.W.codeIn K cd41 "_law_closed" = true) (k41 : PySem.W.keepIn K (.ref f41) = true)
    (a42 : PySem.W.nsIn K mainGlobals "_law_grown" = some (some (.ref f42)))
    (l42 : K.lookup f42 = some ⟨oc42, od42, .func (PySem.W.fnOf "_law_grown" "_law_grown" (defArgs s_l_grown) (defBody s_l_grown) (defScope s_l_grown) .none kV42 dc42 pm42 an42 cd42 ct42), sl42⟩) (c42 : PySem.W.codeIn K cd42 "_law_grown" = true) (k42 : PySem.W.keepIn K (.ref f42) = true)
    (a43 : PySem.W.nsIn K mainGlobals "_law_written" = some (some (.ref f43)))
    (l43 : K.lookup f43 = some ⟨oc43, od43, .func (PySem.W.fnOf "_law_written" "_law_written" (defArgs s_l_written) (defBody s_l_written) (defScope s_l_written) .none kV43 dc43 pm43 an43 cd43 ct43), sl43⟩) (c43 : PySem.W.codeIn K cd43 "_law_written" = true) (k43 : PySem.W.keepIn K (.ref f43) = true)
    (a44 : PySem.W.nsIn K mainGlobals "_law_text" = some (some (.ref f44)))
    (l44 : K.lookup f44 = some ⟨oc44, od44, .func (PySem.W.fnOf "_law_text" "_law_text" (defArgs s_l_text) (defBody s_l_text) (defScope s_l_text) .none kV44 dc44 pm44 an44 cd44 ct44), sl44⟩) (c44 : PySem.W.codeIn K cd44 "_law_text" = true) (k44 : PySem.W.keepIn K (.ref f44) = true)
    (a45 : PySem.W.nsIn K mainGlobals "law" = some (some (.ref f45)))
    (l45 : K.lookup f45 = some ⟨oc45, od45, .func (PySem.W.fnOf "law" "law" (defArgs s_law) (defBody s_law) (defScope s_law) .none kV45 dc45 pm45 an45 cd45 ct45), sl45⟩) (c45 : PySem.W.codeIn K cd45 "law" = true) (k45 : PySem.W.keepIn K (.ref f45) = true)
    (a31000 : PySem.W.findIn K (.ref f30) "__init__" = some (some (.ref f31000)))
    (l31000 : K.lookup f31000 = some ⟨oc31000, od31000, .func (PySem.W.fnOf "__init__" "Reading.__init__" (defArgs s_Reading___init__) (defBody s_Reading___init__) (defScope s_Reading___init__) .none kV31000 dc31000 pm31000 an31000 cd31000 ct31000), sl31000⟩) (c31000 : PySem.W.codeIn K cd31000 "Reading.__init__" = true) (k31000 : PySem.W.keepIn K (.ref f31000) = true)
    (b31000 : PySem.W.isFn K (.ref f31000) = true)
    (a31001 : PySem.W.findIn K (.ref f30) "takes" = some (some (.ref f31001)))
    (l31001 : K.lookup f31001 = some ⟨oc31001, od31001, .func (PySem.W.fnOf "takes" "Reading.takes" (defArgs s_Reading_takes) (defBody s_Reading_takes) (defScope s_Reading_takes) .none kV31001 dc31001 pm31001 an31001 cd31001 ct31001), sl31001⟩) (c31001 : PySem.W.codeIn K cd31001 "Reading.takes" = true) (k31001 : PySem.W.keepIn K (.ref f31001) = true)
    (b31001 : PySem.W.isFn K (.ref f31001) = true)
    (a31002 : PySem.W.findIn K (.ref f30) "run_of" = some (some (.ref f31002)))
    (l31002 : K.lookup f31002 = some ⟨oc31002, od31002, .func (PySem.W.fnOf "run_of" "Reading.run_of" (defArgs s_Reading_run_of) (defBody s_Reading_run_of) (defScope s_Reading_run_of) .none kV31002 dc31002 pm31002 an31002 cd31002 ct31002), sl31002⟩) (c31002 : PySem.W.codeIn K cd31002 "Reading.run_of" = true) (k31002 : PySem.W.keepIn K (.ref f31002) = true)
    (b31002 : PySem.W.isFn K (.ref f31002) = true)
    (a31003 : PySem.W.findIn K (.ref f30) "one_sieve" = some (some (.ref f31003)))
    (l31003 : K.lookup f31003 = some ⟨oc31003, od31003, .func (PySem.W.fnOf "one_sieve" "Reading.one_sieve" (defArgs s_Reading_one_sieve) (defBody s_Reading_one_sieve) (defScope s_Reading_one_sieve) .none kV31003 dc31003 pm31003 an31003 cd31003 ct31003), sl31003⟩) (c31003 : PySem.W.codeIn K cd31003 "Reading.one_sieve" = true) (k31003 : PySem.W.keepIn K (.ref f31003) = true)
    (b31003 : PySem.W.isFn K (.ref f31003) = true)
    (a31004 : PySem.W.findIn K (.ref f30) "some_sieves" = some (some (.ref f31004)))
    (l31004 : K.lookup f31004 = some ⟨oc31004, od31004, .func (PySem.W.fnOf "some_sieves" "Reading.some_sieves" (defArgs s_Reading_some_sieves) (defBody s_Reading_some_sieves) (defScope s_Reading_some_sieves) .none kV31004 dc31004 pm31004 an31004 cd31004 ct31004), sl31004⟩) (c31004 : PySem.W.codeIn K cd31004 "Reading.some_sieves" = true) (k31004 : PySem.W.keepIn K (.ref f31004) = true)
    (b31004 : PySem.W.isFn K (.ref f31004) = true)
    (a31005 : PySem.W.findIn K (.ref f30) "plain_sieve" = some (some (.ref f31005)))
    (l31005 : K.lookup f31005 = some ⟨oc31005, od31005, .func (PySem.W.fnOf "plain_sieve" "Reading.plain_sieve" (defArgs s_Reading_plain_sieve) (defBody s_Reading_plain_sieve) (defScope s_Reading_plain_sieve) .none kV31005 dc31005 pm31005 an31005 cd31005 ct31005), sl31005⟩) (c31005 : PySem.W.codeIn K cd31005 "Reading.plain_sieve" = true) (k31005 : PySem.W.keepIn K (.ref f31005) = true)
    (b31005 : PySem.W.isFn K (.ref f31005) = true)
    (a31006 : PySem.W.findIn K (.ref f30) "value_text" = some (some (.ref f31006)))
    (l31006 : K.lookup f31006 = some ⟨oc31006, od31006, .func (PySem.W.fnOf "value_text" "Reading.value_text" (defArgs s_Reading_value_text) (defBody s_Reading_value_text) (defScope s_Reading_value_text) .none kV31006 dc31006 pm31006 an31006 cd31006 ct31006), sl31006⟩) (c31006 : PySem.W.codeIn K cd31006 "Reading.value_text" = true) (k31006 : PySem.W.keepIn K (.ref f31006) = true)
    (b31006 : PySem.W.isFn K (.ref f31006) = true)
    (a31007 : PySem.W.findIn K (.ref f30) "bound" = some (some (.ref f31007)))
    (l31007 : K.lookup f31007 = some ⟨oc31007, od31007, .func (PySem.W.fnOf "bound" "Reading.bound" (defArgs s_Reading_bound) (defBody s_Reading_bound) (defScope s_Reading_bound) .none kV31007 dc31007 pm31007 an31007 cd31007 ct31007), sl31007⟩) (c31007 : PySem.W.codeIn K cd31007 "Reading.bound" = true) (k31007 : PySem.W.keepIn K (.ref f31007) = true)
    (b31007 : PySem.W.isFn K (.ref f31007) = true)
    (o_Reading_pg : PySem.W.plainGet K f30 Str.empty = true)
    (o_Reading_hd : PySem.W.hasDictIn K f30 = true)
    (o_Reading_po : PySem.W.plainOver K f30 = true)
    (o_Reading_sa : PySem.W.findIn K (.ref f30) "__setattr__" = some (some (.builtin "object.__setattr__")))
    (o_Reading_ma : PySem.W.makesIn K f30 = true)
    (o_Reading_kp : PySem.W.keepIn K (.ref f30) = true)
    (v_na_Reading_at : PySem.W.findIn K (.ref f30) "at" = some none)
    (v_na_Reading_begun : PySem.W.findIn K (.ref f30) "begun" = some none)
    (v_na_Reading_text : PySem.W.findIn K (.ref f30) "text" = some none)
    (z_abs : PySem.W.nsIn K mainGlobals "abs" = some none)
    (z_all : PySem.W.nsIn K mainGlobals "all" = some none)
    (z_enumerate : PySem.W.nsIn K mainGlobals "enumerate" = some none)
    (z_int : PySem.W.nsIn K mainGlobals "int" = some none)
    (z_isinstance : PySem.W.nsIn K mainGlobals "isinstance" = some none)
    (z_len : PySem.W.nsIn K mainGlobals "len" = some none)
    (z_list : PySem.W.nsIn K mainGlobals "list" = some none)
    (z_range : PySem.W.nsIn K mainGlobals "range" = some none)
    (z_str : PySem.W.nsIn K mainGlobals "str" = some none)
    (z_tuple : PySem.W.nsIn K mainGlobals "tuple" = some none)
    {tk_LETTERS : Tok} (y_LETTERS : PySem.W.nsIn K mainGlobals "LETTERS" = some (some (.str "abcdefghijklmnopqrstuvwxyz" tk_LETTERS)))
    {tk_FIGURES : Tok} (y_FIGURES : PySem.W.nsIn K mainGlobals "FIGURES" = some (some (.str "0123456789" tk_FIGURES)))
    {tk_MOST_SIGNS : Tok} (y_MOST_SIGNS : PySem.W.nsIn K mainGlobals "MOST_SIGNS" = some (some (.int (12) tk_MOST_SIGNS)))
    {tk_MOST_FIGURES : Tok} (y_MOST_FIGURES : PySem.W.nsIn K mainGlobals "MOST_FIGURES" = some (some (.int (60) tk_MOST_FIGURES)))
    {tk_MOST_LEVELS : Tok} (y_MOST_LEVELS : PySem.W.nsIn K mainGlobals "MOST_LEVELS" = some (some (.int (12) tk_MOST_LEVELS)))
    {tk_MOST_SIEVES : Tok} (y_MOST_SIEVES : PySem.W.nsIn K mainGlobals "MOST_SIEVES" = some (some (.int (60) tk_MOST_SIEVES)))
    {tk_MOST_VALUE_SIGNS : Tok} (y_MOST_VALUE_SIGNS : PySem.W.nsIn K mainGlobals "MOST_VALUE_SIGNS" = some (some (.int (61) tk_MOST_VALUE_SIGNS)))
    {f27 : Addr} {es27 : Array DictEntry} {n27 : Nat} (y_JOINTS : PySem.W.nsIn K mainGlobals "JOINTS" = some (some (.ref f27))) (l27 : K.lookup f27 = some ⟨.type "dict", none, .dict es27 n27, #[]⟩) (m27 : (f27 == sysModules) = false) (k27 : PySem.W.KeysLit w.params es27.toList) (v27 : Paired (fun (e : DictEntry) (kv : Str × Str) => (∃ t, e.key = .str kv.1 t) ∧ ∃ t, e.val = .str kv.2 t) es27.toList [("all", "&"), ("some", "|")])
    {f28 : Addr} {es28 : Array DictEntry} {n28 : Nat} (y_MARKS : PySem.W.nsIn K mainGlobals "MARKS" = some (some (.ref f28))) (l28 : K.lookup f28 = some ⟨.type "dict", none, .dict es28 n28, #[]⟩) (m28 : (f28 == sysModules) = false) (k28 : PySem.W.KeysLit w.params es28.toList) (v28 : Paired (fun (e : DictEntry) (kv : Str × Str) => (∃ t, e.key = .str kv.1 t) ∧ ∃ t, e.val = .str kv.2 t) es28.toList [("is", "="), ("under", "<"), ("over", ">")])
    : ∃ f fd, Txt w K mg f fd ∧ f 45 = f45 ∧ ∃ kV dc pm an cd ct, fd 45 = PySem.W.fnOf "law" "law" (defArgs s_law) (defBody s_law) (defScope s_law) .none kV dc pm an cd ct := by
  refine ⟨fun i => match i with | 10 => f10 | 11 => f11 | 12 => f12 | 13 => f13 | 14 => f14 | 15 => f15 | 16 => f16 | 18 => f18 | 20 => f20 | 21 => f21 | 22 => f22 | 29 => f29 | 31 => f31 | 32 => f32 | 33 => f33 | 35 => f35 | 36 => f36 | 37 => f37 | 38 => f38 | 39 => f39 | 40 => f40 | 41 => f41 | 42 => f42 | 43 => f43 | 44 => f44 | 45 => f45 | 31000 => f31000 | 31001 => f31001 | 31002 => f31002 | 31003 => f31003 | 31004 => f31004 | 31005 => f31005 | 31006 => f31006 | 31007 => f31007 | 1 => f1 | 2 => f2 | 3 => f3 | 4 => f4 | 30 => f30 | 27 => f27 | 28 => f28 | _ => 0, fun i => match i with | 10 => PySem.W.fnOf "is_made_of" "is_made_of" (defArgs s_is_made_of) (defBody s_is_made_of) (defScope s_is_made_of) .none kV10 dc10 pm10 an10 cd10 ct10 | 11 => PySem.W.fnOf "is_short_text" "is_short_text" (defArgs s_is_short_text) (defBody s_is_short_text) (defScope s_is_short_text) .none kV11 dc11 pm11 an11 cd11 ct11 | 12 => PySem.W.fnOf "is_name" "is_name" (defArgs s_is_name) (defBody s_is_name) (defScope s_is_name) .none kV12 dc12 pm12 an12 cd12 ct12 | 13 => PySem.W.fnOf "is_word" "is_word" (defArgs s_is_word) (defBody s_is_word) (defScope s_is_word) .none kV13 dc13 pm13 an13 cd13 ct13 | 14 => PySem.W.fnOf "written" "written" (defArgs s_written) (defBody s_written) (defScope s_written) .none kV14 dc14 pm14 an14 cd14 ct14 | 15 => PySem.W.fnOf "writes_number" "writes_number" (defArgs s_writes_number) (defBody s_writes_number) (defScope s_writes_number) .none kV15 dc15 pm15 an15 cd15 ct15 | 16 => PySem.W.fnOf "read_value" "read_value" (defArgs s_read_value) (defBody s_read_value) (defScope s_read_value) .none kV16 dc16 pm16 an16 cd16 ct16 | 18 => PySem.W.fnOf "field_at" "field_at" (defArgs s_field_at) (defBody s_field_at) (defScope s_field_at) .none kV18 dc18 pm18 an18 cd18 ct18 | 20 => PySem.W.fnOf "is_of_kind" "is_of_kind" (defArgs s_is_of_kind) (defBody s_is_of_kind) (defScope s_is_of_kind) .none kV20 dc20 pm20 an20 cd20 ct20 | 21 => PySem.W.fnOf "asked_plain" "asked_plain" (defArgs s_asked_plain) (defBody s_asked_plain) (defScope s_asked_plain) .none kV21 dc21 pm21 an21 cd21 ct21 | 22 => PySem.W.fnOf "asked_sieve" "asked_sieve" (defArgs s_asked_sieve) (defBody s_asked_sieve) (defScope s_asked_sieve) .none kV22 dc22 pm22 an22 cd22 ct22 | 29 => PySem.W.fnOf "shown_sieve" "shown_sieve" (defArgs s_shown_sieve) (defBody s_shown_sieve) (defScope s_shown_sieve) .none kV29 dc29 pm29 an29 cd29 ct29 | 31 => PySem.W.fnOf "settled_value" "settled_value" (defArgs s_settled_value) (defBody s_settled_value) (defScope s_settled_value) .none kV31 dc31 pm31 an31 cd31 ct31 | 32 => PySem.W.fnOf "settled" "settled" (defArgs s_settled) (defBody s_settled) (defScope s_settled) .none kV32 dc32 pm32 an32 cd32 ct32 | 33 => PySem.W.fnOf "read_sieve" "read_sieve" (defArgs s_read_sieve) (defBody s_read_sieve) (defScope s_read_sieve) .none kV33 dc33 pm33 an33 cd33 ct33 | 35 => PySem.W.fnOf "_law_cell_at" "_law_cell_at" (defArgs s_l_cell_at) (defBody s_l_cell_at) (defScope s_l_cell_at) .none kV35 dc35 pm35 an35 cd35 ct35 | 36 => PySem.W.fnOf "_law_mix" "_law_mix" (defArgs s_l_mix) (defBody s_l_mix) (defScope s_l_mix) .none kV36 dc36 pm36 an36 cd36 ct36 | 37 => PySem.W.fnOf "_law_heads" "_law_heads" (defArgs s_l_heads) (defBody s_l_heads) (defScope s_l_heads) .none kV37 dc37 pm37 an37 cd37 ct37 | 38 => PySem.W.fnOf "_law_world" "_law_world" (defArgs s_l_world) (defBody s_l_world) (defScope s_l_world) .none kV38 dc38 pm38 an38 cd38 ct38 | 39 => PySem.W.fnOf "_law_sure_value" "_law_sure_value" (defArgs s_l_sure_value) (defBody s_l_sure_value) (defScope s_l_sure_value) .none kV39 dc39 pm39 an39 cd39 ct39 | 40 => PySem.W.fnOf "_law_plain" "_law_plain" (defArgs s_l_plain) (defBody s_l_plain) (defScope s_l_plain) .none kV40 dc40 pm40 an40 cd40 ct40 | 41 => PySem.W.fnOf "_law_closed" "_law_closed" (defArgs s_l_closed) (defBody s_l_closed) (defScope s_l_closed) .none kV41 dc41 pm41 an41 cd41 ct41 | 42 => PySem.W.fnOf "_law_grown" "_law_grown" (defArgs s_l_grown) (defBody s_l_grown) (defScope s_l_grown) .none kV42 dc42 pm42 an42 cd42 ct42 | 43 => PySem.W.fnOf "_law_written" "_law_written" (defArgs s_l_written) (defBody s_l_written) (defScope s_l_written) .none kV43 dc43 pm43 an43 cd43 ct43 | 44 => PySem.W.fnOf "_law_text" "_law_text" (defArgs s_l_text) (defBody s_l_text) (defScope s_l_text) .none kV44 dc44 pm44 an44 cd44 ct44 | 45 => PySem.W.fnOf "law" "law" (defArgs s_law) (defBody s_law) (defScope s_law) .none kV45 dc45 pm45 an45 cd45 ct45 | 31000 => PySem.W.fnOf "__init__" "Reading.__init__" (defArgs s_Reading___init__) (defBody s_Reading___init__) (defScope s_Reading___init__) .none kV31000 dc31000 pm31000 an31000 cd31000 ct31000 | 31001 => PySem.W.fnOf "takes" "Reading.takes" (defArgs s_Reading_takes) (defBody s_Reading_takes) (defScope s_Reading_takes) .none kV31001 dc31001 pm31001 an31001 cd31001 ct31001 | 31002 => PySem.W.fnOf "run_of" "Reading.run_of" (defArgs s_Reading_run_of) (defBody s_Reading_run_of) (defScope s_Reading_run_of) .none kV31002 dc31002 pm31002 an31002 cd31002 ct31002 | 31003 => PySem.W.fnOf "one_sieve" "Reading.one_sieve" (defArgs s_Reading_one_sieve) (defBody s_Reading_one_sieve) (defScope s_Reading_one_sieve) .none kV31003 dc31003 pm31003 an31003 cd31003 ct31003 | 31004 => PySem.W.fnOf "some_sieves" "Reading.some_sieves" (defArgs s_Reading_some_sieves) (defBody s_Reading_some_sieves) (defScope s_Reading_some_sieves) .none kV31004 dc31004 pm31004 an31004 cd31004 ct31004 | 31005 => PySem.W.fnOf "plain_sieve" "Reading.plain_sieve" (defArgs s_Reading_plain_sieve) (defBody s_Reading_plain_sieve) (defScope s_Reading_plain_sieve) .none kV31005 dc31005 pm31005 an31005 cd31005 ct31005 | 31006 => PySem.W.fnOf "value_text" "Reading.value_text" (defArgs s_Reading_value_text) (defBody s_Reading_value_text) (defScope s_Reading_value_text) .none kV31006 dc31006 pm31006 an31006 cd31006 ct31006 | 31007 => PySem.W.fnOf "bound" "Reading.bound" (defArgs s_Reading_bound) (defBody s_Reading_bound) (defScope s_Reading_bound) .none kV31007 dc31007 pm31007 an31007 cd31007 ct31007 | _ => PySem.W.fnOf "law" "law" (defArgs s_law) (defBody s_law) (defScope s_law) .none kV45 dc45 pm45 an45 cd45 ct45, ⟨?_, ?_, ?_, ?_, ?_, ?_, ?_, ?_, ?_, ?_, ?_, ?_, ?_, ?_, ?_, ?_, ?_, ?_, ?_, ?_, ?_, ?_, ?_, ?_, ?_, ?_, ?_, ?_, ?_, ?_, ?_, ?_, ?_, ?_, ?_, ?_, ?_, ?_, ?_, ?_, ?_, ?_, ?_, ?_, ?_, ?_, ?_, ?_, ?_, ?_, ?_, ?_, ?_, ?_, ?_, ?_, ?_, ?_, ?_, ?_, ?_, ?_, ?_, ?_, ?_, ?_, ?_, ?_, ?_, ?_⟩, rfl, _, _, _, _, _, _, rfl⟩
  · exact (by have F := fun_mk (st := s_is_made_of) l10 c10 k10; exact ⟨F, F.binds (ps := ["text", "signs"]) fun _ _ _ _ _ _ us hl => lenB2 (fun _ _ => rfl) us hl, PySem.W.mg_of X G a10⟩)
  · exact (by have F := fun_mk (st := s_is_short_text) l11 c11 k11; exact ⟨F, F.binds (ps := ["thing", "signs"]) fun _ _ _ _ _ _ us hl => lenB2 (fun _ _ => rfl) us hl, PySem.W.mg_of X G a11⟩)
  · exact (by have F := fun_mk (st := s_is_name) l12 c12 k12; exact ⟨F, F.binds (ps := ["thing"]) fun _ _ _ _ _ _ us hl => lenB1 (fun _ => rfl) us hl, PySem.W.mg_of X G a12⟩)
  · exact (by have F := fun_mk (st := s_is_word) l13 c13 k13; exact ⟨F, F.binds (ps := ["thing"]) fun _ _ _ _ _ _ us hl => lenB1 (fun _ => rfl) us hl, PySem.W.mg_of X G a13⟩)
  · exact (by have F := fun_mk (st := s_written) l14 c14 k14; exact ⟨F, F.binds (ps := ["value"]) fun _ _ _ _ _ _ us hl => lenB1 (fun _ => rfl) us hl, PySem.W.mg_of X G a14⟩)
  · exact (by have F := fun_mk (st := s_writes_number) l15 c15 k15; exact ⟨F, F.binds (ps := ["text"]) fun _ _ _ _ _ _ us hl => lenB1 (fun _ => rfl) us hl, PySem.W.mg_of X G a15⟩)
  · exact (by have F := fun_mk (st := s_read_value) l16 c16 k16; exact ⟨F, F.binds (ps := ["kind", "text"]) fun _ _ _ _ _ _ us hl => lenB2 (fun _ _ => rfl) us hl, PySem.W.mg_of X G a16⟩)
  · exact (by have F := fun_mk (st := s_field_at) l18 c18 k18; exact ⟨F, F.binds (ps := ["fields", "name"]) fun _ _ _ _ _ _ us hl => lenB2 (fun _ _ => rfl) us hl, PySem.W.mg_of X G a18⟩)
  · exact (by have F := fun_mk (st := s_is_of_kind) l20 c20 k20; exact ⟨F, F.binds (ps := ["kind", "value"]) fun _ _ _ _ _ _ us hl => lenB2 (fun _ _ => rfl) us hl, PySem.W.mg_of X G a20⟩)
  · exact (by have F := fun_mk (st := s_asked_plain) l21 c21 k21; exact ⟨F, F.binds (ps := ["fields", "sieve"]) fun _ _ _ _ _ _ us hl => lenB2 (fun _ _ => rfl) us hl, PySem.W.mg_of X G a21⟩)
  · exact (by have F := fun_mk (st := s_asked_sieve) l22 c22 k22; exact ⟨F, F.binds (ps := ["fields", "sieve"]) fun _ _ _ _ _ _ us hl => lenB2 (fun _ _ => rfl) us hl, PySem.W.mg_of X G a22⟩)
  · exact (by have F := fun_mk (st := s_shown_sieve) l29 c29 k29; exact ⟨F, F.binds (ps := ["sieve"]) fun _ _ _ _ _ _ us hl => lenB1 (fun _ => rfl) us hl, PySem.W.mg_of X G a29⟩)
  · exact (by have F := fun_mk (st := s_settled_value) l31 c31 k31; exact ⟨F, F.binds (ps := ["fields", "name", "text"]) fun _ _ _ _ _ _ us hl => lenB3 (fun _ _ _ => rfl) us hl, PySem.W.mg_of X G a31⟩)
  · exact (by have F := fun_mk (st := s_settled) l32 c32 k32; exact ⟨F, F.binds (ps := ["fields", "sieve"]) fun _ _ _ _ _ _ us hl => lenB2 (fun _ _ => rfl) us hl, PySem.W.mg_of X G a32⟩)
  · exact (by have F := fun_mk (st := s_read_sieve) l33 c33 k33; exact ⟨F, F.binds (ps := ["fields", "text"]) fun _ _ _ _ _ _ us hl => lenB2 (fun _ _ => rfl) us hl, PySem.W.mg_of X G a33⟩)
  · exact (by have F := fun_mk (st := s_l_cell_at) l35 c35 k35; exact ⟨F, F.binds (ps := ["_law_script", "_law_k"]) fun _ _ _ _ _ _ us hl => lenB2 (fun _ _ => rfl) us hl, PySem.W.mg_of X G a35⟩)
  · exact (by have F := fun_mk (st := s_l_mix) l36 c36 k36; exact ⟨F, F.binds (ps := ["_law_seed", "_law_k"]) fun _ _ _ _ _ _ us hl => lenB2 (fun _ _ => rfl) us hl, PySem.W.mg_of X G a36⟩)
  · exact (by have F := fun_mk (st := s_l_heads) l37 c37 k37; exact ⟨F, F.binds (ps := ["_law_seed", "_law_signs", "_law_many", "_law_most"]) fun _ _ _ _ _ _ us hl => lenB4 (fun _ _ _ _ => rfl) us hl, PySem.W.mg_of X G a37⟩)
  · exact (by have F := fun_mk (st := s_l_world) l38 c38 k38; exact ⟨F, F.binds (ps := ["_law_script"]) fun _ _ _ _ _ _ us hl => lenB1 (fun _ => rfl) us hl, PySem.W.mg_of X G a38⟩)
  · exact (by have F := fun_mk (st := s_l_sure_value) l39 c39 k39; exact ⟨F, F.binds (ps := ["_law_seed", "_law_kind", "_law_world_here"]) fun _ _ _ _ _ _ us hl => lenB3 (fun _ _ _ => rfl) us hl, PySem.W.mg_of X G a39⟩)
  · exact (by have F := fun_mk (st := s_l_plain) l40 c40 k40; exact ⟨F, F.binds (ps := ["_law_seed", "_law_world_here"]) fun _ _ _ _ _ _ us hl => lenB2 (fun _ _ => rfl) us hl, PySem.W.mg_of X G a40⟩)
  · exact (by have F := fun_mk (st := s_l_closed) l41 c41 k41; exact ⟨F, F.binds (ps := ["_law_stack"]) fun _ _ _ _ _ _ us hl => lenB1 (fun _ => rfl) us hl, PySem.W.mg_of X G a41⟩)
  · exact (by have F := fun_mk (st := s_l_grown) l42 c42 k42; exact ⟨F, F.binds (ps := ["_law_cells", "_law_world_here"]) fun _ _ _ _ _ _ us hl => lenB2 (fun _ _ => rfl) us hl, PySem.W.mg_of X G a42⟩)
  · exact (by have F := fun_mk (st := s_l_written) l43 c43 k43; exact ⟨F, F.binds (ps := ["_law_value"]) fun _ _ _ _ _ _ us hl => lenB1 (fun _ => rfl) us hl, PySem.W.mg_of X G a43⟩)
  · exact (by have F := fun_mk (st := s_l_text) l44 c44 k44; exact ⟨F, F.binds (ps := ["_law_sieve"]) fun _ _ _ _ _ _ us hl => lenB1 (fun _ => rfl) us hl, PySem.W.mg_of X G a44⟩)
  · exact (by have F := fun_mk (st := s_law) l45 c45 k45; exact ⟨F, F.binds (ps := ["_law_script"]) fun _ _ _ _ _ _ us hl => lenB1 (fun _ => rfl) us hl, PySem.W.mg_of X G a45⟩)
  · exact (by have F := fun_mk (st := s_Reading___init__) l31000 c31000 k31000; exact ⟨F, F.binds (ps := ["self", "text"]) fun _ _ _ _ _ _ us hl => lenB2 (fun _ _ => rfl) us hl, b31000⟩)
  · exact (by have F := fun_mk (st := s_Reading_takes) l31001 c31001 k31001; exact ⟨F, F.binds (ps := ["self", "signs"]) fun _ _ _ _ _ _ us hl => lenB2 (fun _ _ => rfl) us hl, b31001⟩)
  · exact (by have F := fun_mk (st := s_Reading_run_of) l31002 c31002 k31002; exact ⟨F, F.binds (ps := ["self", "signs"]) fun _ _ _ _ _ _ us hl => lenB2 (fun _ _ => rfl) us hl, b31002⟩)
  · exact (by have F := fun_mk (st := s_Reading_one_sieve) l31003 c31003 k31003; exact ⟨F, F.binds (ps := ["self", "level"]) fun _ _ _ _ _ _ us hl => lenB2 (fun _ _ => rfl) us hl, b31003⟩)
  · exact (by have F := fun_mk (st := s_Reading_some_sieves) l31004 c31004 k31004; exact ⟨F, F.binds (ps := ["self", "joint", "level"]) fun _ _ _ _ _ _ us hl => lenB3 (fun _ _ _ => rfl) us hl, b31004⟩)
  · exact (by have F := fun_mk (st := s_Reading_plain_sieve) l31005 c31005 k31005; exact ⟨F, F.binds (ps := ["self"]) fun _ _ _ _ _ _ us hl => lenB1 (fun _ => rfl) us hl, b31005⟩)
  · exact (by have F := fun_mk (st := s_Reading_value_text) l31006 c31006 k31006; exact ⟨F, F.binds (ps := ["self"]) fun _ _ _ _ _ _ us hl => lenB1 (fun _ => rfl) us hl, b31006⟩)
  · exact (by have F := fun_mk (st := s_Reading_bound) l31007 c31007 k31007; exact ⟨F, F.binds (ps := ["self"]) fun _ _ _ _ _ _ us hl => lenB1 (fun _ => rfl) us hl, b31007⟩)
  · exact ⟨PySem.W.mg_of X G a1⟩
  · exact ⟨PySem.W.mg_of X G a2⟩
  · exact ⟨PySem.W.mg_of X G a3⟩
  · exact ⟨PySem.W.mg_of X G a4⟩
  · exact (own_mk X G a30 o_Reading_pg o_Reading_hd o_Reading_po o_Reading_sa o_Reading_ma a31000 b31000 o_Reading_kp)
  · exact ⟨a31001, b31001, k31001⟩
  · exact ⟨a31002, b31002, k31002⟩
  · exact ⟨a31003, b31003, k31003⟩
  · exact ⟨a31004, b31004, k31004⟩
  · exact ⟨a31005, b31005, k31005⟩
  · exact ⟨a31006, b31006, k31006⟩
  · exact ⟨a31007, b31007, k31007⟩
  · exact v_na_Reading_at
  · exact v_na_Reading_begun
  · exact v_na_Reading_text
  · exact (PySem.W.mg_none_of X G z_abs)
  · exact (PySem.W.mg_none_of X G z_all)
  · exact (PySem.W.mg_none_of X G z_enumerate)
  · exact (PySem.W.mg_none_of X G z_int)
  · exact (PySem.W.mg_none_of X G z_isinstance)
  · exact (PySem.W.mg_none_of X G z_len)
  · exact (PySem.W.mg_none_of X G z_list)
  · exact (PySem.W.mg_none_of X G z_range)
  · exact (PySem.W.mg_none_of X G z_str)
  · exact (PySem.W.mg_none_of X G z_tuple)
  · exact ⟨_, PySem.W.mg_of X G y_LETTERS⟩
  · exact ⟨_, PySem.W.mg_of X G y_FIGURES⟩
  · exact ⟨_, PySem.W.mg_of X G y_MOST_SIGNS⟩
  · exact ⟨_, PySem.W.mg_of X G y_MOST_FIGURES⟩
  · exact ⟨_, PySem.W.mg_of X G y_MOST_LEVELS⟩
  · exact ⟨_, PySem.W.mg_of X G y_MOST_SIEVES⟩
  · exact ⟨_, PySem.W.mg_of X G y_MOST_VALUE_SIGNS⟩
  · exact (PySem.W.mg_of X G y_JOINTS)
  · exact ⟨m27, by decide, es27, n27, l27, k27, v27⟩
  · exact (PySem.W.mg_of X G y_MARKS)
  · exact ⟨m28, by decide, es28, n28, l28, k28, v28⟩
local macro_rules | `(tactic| walk_at "dl") => `(tactic| ((try dsimp only [cxOf, L2.Cx.inTry, L2.Cx.inHand]); simp only [iItems, rStarts3, rAdd, tNever, tCIn, tCGet, L2.start, tSeq, tNext, tIfS, tRet, tRetN, tAsg, tDrop, gName, tVar, tC, tOp, tUn, tCall, tCB, tCons, tNil, tTest, tB, tNot, tAnd, tOr, tAndV, tOrV, tNotV, tIf, tChain, tLst, tTup, tBM, tBM0, rI, rI0, rU, rEq, rNe, scal, tComp, iStr, iList, iTup, iRng1, iRng2, tYes, rIsP, rAll, rLenS, rLenV, rListOf, rTupleOf, tDisp, tPairs, tSl, tPart, tNoPart, rSlS, rSlL, rFind, rStarts, rIntT, rStrA, rRepS, tCallX, tRaise, tRaiseI, tTry, tAs, offE, tXF, sXset, tMethX, tMakeX, rIsX, tFld, sFld, tMeth, rSortD, rDPop, tDNewK, tDIn, tDNotIn, tDGet, sDPut, rIndexS, tStop, gSub, 
  List.map_cons, List.map_nil, List.cons_append, List.nil_append, List.length_cons, List.length_nil, List.getElem?_cons_zero, List.getElem?_cons_succ, Option.some.injEq, exists_eq_left', exists_eq_left, List.set_cons_zero, List.set_cons_succ, List.cons.injEq, and_true, true_and, V.int.injEq, V.str.injEq, V.bl.injEq, V.ref.injEq, V.ty.injEq, exists_and_left, exists_and_right, List.append_nil, reduceCtorEq, false_and, and_false, exists_false, or_false, false_or, decide_true, decide_false, Bool.not_true, Bool.not_false, if_true, if_false, Bool.false_eq_true, ite_true, ite_false, and_assoc, Nat.reduceAdd, Nat.reduceSub, List.replicate_succ, List.replicate_zero, Nat.zero_add, Nat.add_zero, Nat.sub_self, Int.reduceEq, Int.reduceLT, Int.reduceLE, ↓reduceIte, decide_eq_true_eq]))
section
variable {P : Program} {w : World} {K : PySem.W.Frag} {mg : Str → Option Value} {base : Heap} {f : Nat → Addr} {fd : Nat → FuncData}
noncomputable def madeOf (z g : Str) : Bool := z.cps.toList.all fun c => decide (c ∈ g.cps.toList)
noncomputable def sp_is_made_of (_ : PySem.W.Frag) : Sp := fun vs H Q _ => ∃ z g, vs = [.str z, .str g] ∧ z.length ≤ sizeLine ∧ ∀ H', Same H H' → Q (.bl (madeOf z g)) H'
theorem ok_is_made_of (T : Txt w K mg f fd) : FnOk P w K mg base CX0 1 (f 10) (fd 10) ["text", "signs"] (sp_is_made_of K) := by
  refine T.d_is_made_of.F.ok sc_is_made_of (fun vs H Q E h => ?_) (fun cdv A outer s H vs Q E hr h => ?_)
  · obtain ⟨z, g, rfl, _⟩ := h
    rfl
  · obtain ⟨z, g, rfl, hz, k⟩ := h
    refine ⟨_, (pss_one (ps_ret (pe_cB (k_all rfl rfl) T.n_all bt_all rfl (by decide) (by decide) rfl (pal rfl (pe_comp ["sign"] ["text", "signs"] rfl (show CompSc _ (defScope s_is_made_of) ["text", "signs"] ["text", "signs"] from compOk_is (by decide +kernel)) (pi_str (pvl 0)) (fun _ _ _ _ _ => (pgl 0 (show (["sign", "text", "signs"] : List Str).Nodup by decide +kernel))) (fun _ _ _ _ _ => pts_nil) (fun _ _ _ _ _ => (pe_cmpR op_in_str (pvl 0) (pvc 2) rfl))) pa_nil)))), ?_⟩
    ((try dsimp only [cxOf, L2.Cx.inTry, L2.Cx.inHand]); simp only [tDIn, tDNotIn, tDGet, sDPut, rIndexS, iItems, rStarts3, rAdd, tNever, tCIn, tCGet, L2.start, tSeq, tNext, tIfS, tRet, tRetN, tAsg, tDrop, gName, tVar, tC, tOp, tUn, tCall, tCB, tCons, tNil, tTest, tB, tNot, tAnd, tOr, tAndV, tOrV, tNotV, tIf, tChain, tLst, tTup, tBM, tBM0, rI, rI0, rU, rEq, rNe, scal, tComp, iStr, iList, iTup, iRng1, iRng2, tYes, rIsP, rAll, rLenS, rLenV, rListOf, rTupleOf, tDisp, tPairs, tSl, tPart, tNoPart, rSlS, rSlL, rFind, rStarts, rIntT, rStrA, rRepS, tCallX, tRaise, tRaiseI, tTry, tAs, offE, tXF, sXset, tMethX, tMakeX, rIsX, tFld, sFld, tMeth, rSortD, rDPop, tDNewK, 
  List.map_cons, List.map_nil, List.cons_append, List.nil_append, List.length_cons, List.length_nil, List.getElem?_cons_zero, List.getElem?_cons_succ, Option.some.injEq, exists_eq_left', exists_eq_left, List.set_cons_zero, List.set_cons_succ, List.cons.injEq, and_true, true_and, V.int.injEq, V.str.injEq, V.bl.injEq, V.ref.injEq, V.ty.injEq, exists_and_left, exists_and_right, List.append_nil, reduceCtorEq, false_and, and_false, exists_false, or_false, false_or, decide_true, decide_false, Bool.not_true, Bool.not_false, if_true, if_false, Bool.false_eq_true, ite_true, ite_false, and_assoc, Nat.reduceAdd, Nat.reduceSub, List.replicate_succ, List.replicate_zero, Nat.zero_add, Nat.add_zero, Nat.sub_self])
    refine comp_of (as := z.cps.toList) (g := sgn) walk_str (by rw [Array.length_toList]; exact hz) (fun _ _ => trivial) (fun _ => true) (fun c => .bl (decide (c ∈ g.cps.toList))) (fun c H1 Q _ _ q => q H1 (Same.refl _)) (fun c H1 Q _ _ _ q => ?_) (fun H' s1 D hD => ?_)
    · ((try dsimp only [cxOf, L2.Cx.inTry, L2.Cx.inHand]); simp only [tDIn, tDNotIn, tDGet, sDPut, rIndexS, iItems, rStarts3, rAdd, tNever, tCIn, tCGet, L2.start, tSeq, tNext, tIfS, tRet, tRetN, tAsg, tDrop, gName, tVar, tC, tOp, tUn, tCall, tCB, tCons, tNil, tTest, tB, tNot, tAnd, tOr, tAndV, tOrV, tNotV, tIf, tChain, tLst, tTup, tBM, tBM0, rI, rI0, rU, rEq, rNe, scal, tComp, iStr, iList, iTup, iRng1, iRng2, tYes, rIsP, rAll, rLenS, rLenV, rListOf, rTupleOf, tDisp, tPairs, tSl, tPart, tNoPart, rSlS, rSlL, rFind, rStarts, rIntT, rStrA, rRepS, tCallX, tRaise, tRaiseI, tTry, tAs, offE, tXF, sXset, tMethX, tMakeX, rIsX, tFld, sFld, tMeth, rSortD, rDPop, tDNewK, 
  List.map_cons, List.map_nil, List.cons_append, List.nil_append, List.length_cons, List.length_nil, List.getElem?_cons_zero, List.getElem?_cons_succ, Option.some.injEq, exists_eq_left', exists_eq_left, List.set_cons_zero, List.set_cons_succ, List.cons.injEq, and_true, true_and, V.int.injEq, V.str.injEq, V.bl.injEq, V.ref.injEq, V.ty.injEq, exists_and_left, exists_and_right, List.append_nil, reduceCtorEq, false_and, and_false, exists_false, or_false, false_or, decide_true, decide_false, Bool.not_true, Bool.not_false, if_true, if_false, Bool.false_eq_true, ite_true, ite_false, and_assoc, Nat.reduceAdd, Nat.reduceSub, List.replicate_succ, List.replicate_zero, Nat.zero_add, Nat.add_zero, Nat.sub_self])
      unfold sgn
      ((try dsimp only [cxOf, L2.Cx.inTry, L2.Cx.inHand]); simp only [tDIn, tDNotIn, tDGet, sDPut, rIndexS, iItems, rStarts3, rAdd, tNever, tCIn, tCGet, L2.start, tSeq, tNext, tIfS, tRet, tRetN, tAsg, tDrop, gName, tVar, tC, tOp, tUn, tCall, tCB, tCons, tNil, tTest, tB, tNot, tAnd, tOr, tAndV, tOrV, tNotV, tIf, tChain, tLst, tTup, tBM, tBM0, rI, rI0, rU, rEq, rNe, scal, tComp, iStr, iList, iTup, iRng1, iRng2, tYes, rIsP, rAll, rLenS, rLenV, rListOf, rTupleOf, tDisp, tPairs, tSl, tPart, tNoPart, rSlS, rSlL, rFind, rStarts, rIntT, rStrA, rRepS, tCallX, tRaise, tRaiseI, tTry, tAs, offE, tXF, sXset, tMethX, tMakeX, rIsX, tFld, sFld, tMeth, rSortD, rDPop, tDNewK, 
  List.map_cons, List.map_nil, List.cons_append, List.nil_append, List.length_cons, List.length_nil, List.getElem?_cons_zero, List.getElem?_cons_succ, Option.some.injEq, exists_eq_left', exists_eq_left, List.set_cons_zero, List.set_cons_succ, List.cons.injEq, and_true, true_and, V.int.injEq, V.str.injEq, V.bl.injEq, V.ref.injEq, V.ty.injEq, exists_and_left, exists_and_right, List.append_nil, reduceCtorEq, false_and, and_false, exists_false, or_false, false_or, decide_true, decide_false, Bool.not_true, Bool.not_false, if_true, if_false, Bool.false_eq_true, ite_true, ite_false, and_assoc, Nat.reduceAdd, Nat.reduceSub, List.replicate_succ, List.replicate_zero, Nat.zero_add, Nat.add_zero, Nat.sub_self])
      rw [in_sgn]
      exact q H1 (Same.refl _)
    · refine ⟨z.cps.toList.map fun c => decide (c ∈ g.cps.toList), .of (by rw [upd_same, filter_yes, List.map_map]; rfl), ?_⟩
      have e : (z.cps.toList.map fun c => decide (c ∈ g.cps.toList)).all id = madeOf z g := by unfold madeOf; rw [List.all_map]; rfl
      rw [e]
      exact k _ (s1.new hD _)
noncomputable def shortV (x : V) (g : Str) : Bool := match x with
  | .str z => decide (1 ≤ z.length) && (decide (z.length ≤ 12) && madeOf z g)
  | _ => false
noncomputable def sp_is_short_text (K : PySem.W.Frag) : Sp := fun vs H Q _ => ∃ x g T, vs = [x, .str g] ∧ Pl K H x T ∧ ∀ H', Same H H' → Q (.bl (shortV x g)) H'
theorem ok_is_short_text (T : Txt w K mg f fd) : FnOk P w K mg base CX0 2 (f 11) (fd 11) ["thing", "signs"] (sp_is_short_text K) := by
  refine T.d_is_short_text.F.ok sc_is_short_text (fun vs H Q E h => ?_) (fun cdv A outer s H vs Q E hr h => ?_)
  · obtain ⟨x, g, T, rfl, _⟩ := h
    rfl
  · obtain ⟨x, g, t, rfl, p, k⟩ := h
    refine ⟨_, (pss_cons (ps_if (pt_not (pt_val (pe_cB (k_isP rfl) T.n_isinstance bt_isinstance rfl (by decide) (by decide) rfl (pal rfl (pvl 0) (pal rfl (pty T.n_str bt_str) pa_nil)))))
     (pss_one (ps_ret pe_bl))
     pss_nil)
     (pss_one (ps_ret (pe_and (pe_chain op_le op_le pe_int (pe_cB call_len_str T.n_len bt_len rfl (by decide) (by decide) rfl (pal rfl (pvl 0) pa_nil)) (pgi T.g_MOST_SIGNS)) (pe_one (pe_defL T.d_is_made_of (ok_is_made_of T) (hr.mono (by decide)) rfl (by decide) rfl (pal rfl (pvl 0) (pal rfl (pvl 1) pa_nil)))))))), ?_⟩
    ((try dsimp only [cxOf, L2.Cx.inTry, L2.Cx.inHand]); simp only [tDIn, tDNotIn, tDGet, sDPut, rIndexS, iItems, rStarts3, rAdd, tNever, tCIn, tCGet, L2.start, tSeq, tNext, tIfS, tRet, tRetN, tAsg, tDrop, gName, tVar, tC, tOp, tUn, tCall, tCB, tCons, tNil, tTest, tB, tNot, tAnd, tOr, tAndV, tOrV, tNotV, tIf, tChain, tLst, tTup, tBM, tBM0, rI, rI0, rU, rEq, rNe, scal, tComp, iStr, iList, iTup, iRng1, iRng2, tYes, rIsP, rAll, rLenS, rLenV, rListOf, rTupleOf, tDisp, tPairs, tSl, tPart, tNoPart, rSlS, rSlL, rFind, rStarts, rIntT, rStrA, rRepS, tCallX, tRaise, tRaiseI, tTry, tAs, offE, tXF, sXset, tMethX, tMakeX, rIsX, tFld, sFld, tMeth, rSortD, rDPop, tDNewK, 
  List.map_cons, List.map_nil, List.cons_append, List.nil_append, List.length_cons, List.length_nil, List.getElem?_cons_zero, List.getElem?_cons_succ, Option.some.injEq, exists_eq_left', exists_eq_left, List.set_cons_zero, List.set_cons_succ, List.cons.injEq, and_true, true_and, V.int.injEq, V.str.injEq, V.bl.injEq, V.ref.injEq, V.ty.injEq, exists_and_left, exists_and_right, List.append_nil, reduceCtorEq, false_and, and_false, exists_false, or_false, false_or, decide_true, decide_false, Bool.not_true, Bool.not_false, if_true, if_false, Bool.false_eq_true, ite_true, ite_false, and_assoc, Nat.reduceAdd, Nat.reduceSub, List.replicate_succ, List.replicate_zero, Nat.zero_add, Nat.add_zero, Nat.sub_self])
    refine ⟨t, p, by decide, ?_⟩
    rcases p.name with ⟨rfl, rfl⟩ | ⟨b, rfl, rfl⟩ | ⟨i, rfl, rfl⟩ | ⟨z, rfl, rfl, hz⟩ | ⟨a, rfl | rfl | rfl, rfl⟩
    case inr.inr.inr.inl =>
      rw [show isiN "str" "str" = true from rfl]
      ((try dsimp only [cxOf, L2.Cx.inTry, L2.Cx.inHand]); simp only [tDIn, tDNotIn, tDGet, sDPut, rIndexS, iItems, rStarts3, rAdd, tNever, tCIn, tCGet, L2.start, tSeq, tNext, tIfS, tRet, tRetN, tAsg, tDrop, gName, tVar, tC, tOp, tUn, tCall, tCB, tCons, tNil, tTest, tB, tNot, tAnd, tOr, tAndV, tOrV, tNotV, tIf, tChain, tLst, tTup, tBM, tBM0, rI, rI0, rU, rEq, rNe, scal, tComp, iStr, iList, iTup, iRng1, iRng2, tYes, rIsP, rAll, rLenS, rLenV, rListOf, rTupleOf, tDisp, tPairs, tSl, tPart, tNoPart, rSlS, rSlL, rFind, rStarts, rIntT, rStrA, rRepS, tCallX, tRaise, tRaiseI, tTry, tAs, offE, tXF, sXset, tMethX, tMakeX, rIsX, tFld, sFld, tMeth, rSortD, rDPop, tDNewK, 
  List.map_cons, List.map_nil, List.cons_append, List.nil_append, List.length_cons, List.length_nil, List.getElem?_cons_zero, List.getElem?_cons_succ, Option.some.injEq, exists_eq_left', exists_eq_left, List.set_cons_zero, List.set_cons_succ, List.cons.injEq, and_true, true_and, V.int.injEq, V.str.injEq, V.bl.injEq, V.ref.injEq, V.ty.injEq, exists_and_left, exists_and_right, List.append_nil, reduceCtorEq, false_and, and_false, exists_false, or_false, false_or, decide_true, decide_false, Bool.not_true, Bool.not_false, if_true, if_false, Bool.false_eq_true, ite_true, ite_false, and_assoc, Nat.reduceAdd, Nat.reduceSub, List.replicate_succ, List.replicate_zero, Nat.zero_add, Nat.add_zero, Nat.sub_self])
      refine ⟨hz, ?_⟩
      by_cases h1 : (1 : Int) ≤ (z.length : Int)
      · by_cases h2 : (z.length : Int) ≤ 12
        · rw [if_pos (decide_eq_true h1), if_pos (decide_eq_true h2)]
          refine ⟨z, g, rfl, hz, fun H' s1 => ?_⟩
          have e : shortV (.str z) g = madeOf z g := by
            show (decide (1 ≤ z.length) && (decide (z.length ≤ 12) && madeOf z g)) = _
            rw [decide_eq_true (by omega), decide_eq_true (by omega)]; rfl
          rw [← e]; exact k H' s1
        · rw [if_pos (decide_eq_true h1), if_neg (by simpa using h2)]
          have e : shortV (.str z) g = false := by
            show (decide (1 ≤ z.length) && (decide (z.length ≤ 12) && madeOf z g)) = _
            rw [decide_eq_false (show ¬ z.length ≤ 12 by omega), Bool.false_and, Bool.and_false]
          rw [← e]; exact k H (Same.refl H)
      · rw [if_neg (by simpa using h1)]
        have e : shortV (.str z) g = false := by
          show (decide (1 ≤ z.length) && (decide (z.length ≤ 12) && madeOf z g)) = _
          rw [decide_eq_false (show ¬ 1 ≤ z.length by omega), Bool.false_and]
        rw [← e]; exact k H (Same.refl H)
    all_goals
      rw [if_pos (by decide)]
      exact k H (Same.refl H)
noncomputable abbrev letters : Str := "abcdefghijklmnopqrstuvwxyz"
noncomputable abbrev figures : Str := "0123456789"
noncomputable def sp_is_word (K : PySem.W.Frag) : Sp := fun vs H Q _ => ∃ x T, vs = [x] ∧ Pl K H x T ∧ ∀ H', Same H H' → Q (.bl (shortV x (letters ++ figures))) H'
theorem ok_is_word (T : Txt w K mg f fd) : FnOk P w K mg base CX0 3 (f 13) (fd 13) ["thing"] (sp_is_word K) := by
  refine T.d_is_word.F.ok sc_is_word (fun vs H Q E h => ?_) (fun cdv A outer s H vs Q E hr h => ?_)
  · obtain ⟨x, T, rfl, _⟩ := h
    rfl
  · obtain ⟨x, t, rfl, p, k⟩ := h
    refine ⟨_, (pss_one (ps_ret (pe_defL T.d_is_short_text (ok_is_short_text T) (hr.mono (by decide)) rfl (by decide) rfl (pal rfl (pvl 0) (pal rfl (pe_op op_add_str (pgs T.g_LETTERS) (pgs T.g_FIGURES)) pa_nil))))), ?_⟩
    ((try dsimp only [cxOf, L2.Cx.inTry, L2.Cx.inHand]); simp only [tDIn, tDNotIn, tDGet, sDPut, rIndexS, iItems, rStarts3, rAdd, tNever, tCIn, tCGet, L2.start, tSeq, tNext, tIfS, tRet, tRetN, tAsg, tDrop, gName, tVar, tC, tOp, tUn, tCall, tCB, tCons, tNil, tTest, tB, tNot, tAnd, tOr, tAndV, tOrV, tNotV, tIf, tChain, tLst, tTup, tBM, tBM0, rI, rI0, rU, rEq, rNe, scal, tComp, iStr, iList, iTup, iRng1, iRng2, tYes, rIsP, rAll, rLenS, rLenV, rListOf, rTupleOf, tDisp, tPairs, tSl, tPart, tNoPart, rSlS, rSlL, rFind, rStarts, rIntT, rStrA, rRepS, tCallX, tRaise, tRaiseI, tTry, tAs, offE, tXF, sXset, tMethX, tMakeX, rIsX, tFld, sFld, tMeth, rSortD, rDPop, tDNewK, 
  List.map_cons, List.map_nil, List.cons_append, List.nil_append, List.length_cons, List.length_nil, List.getElem?_cons_zero, List.getElem?_cons_succ, Option.some.injEq, exists_eq_left', exists_eq_left, List.set_cons_zero, List.set_cons_succ, List.cons.injEq, and_true, true_and, V.int.injEq, V.str.injEq, V.bl.injEq, V.ref.injEq, V.ty.injEq, exists_and_left, exists_and_right, List.append_nil, reduceCtorEq, false_and, and_false, exists_false, or_false, false_or, decide_true, decide_false, Bool.not_true, Bool.not_false, if_true, if_false, Bool.false_eq_true, ite_true, ite_false, and_assoc, Nat.reduceAdd, Nat.reduceSub, List.replicate_succ, List.replicate_zero, Nat.zero_add, Nat.add_zero, Nat.sub_self])
    exact ⟨small_line (by decide), x, _, t, rfl, p, k⟩
noncomputable def mixI (a b : Int) : Int := ((a % 2147483647 * 48271 + b * 7919 + 11) % 2147483647 * ((a % 2147483647 * 48271 + b * 7919 + 11) % 2147483647) % 2147483629 * 69621) % 2147483647
noncomputable def sp_l_mix (K : PySem.W.Frag) : Sp := fun vs H Q _ => ∃ a b, vs = [.int a, .int b] ∧ Q (.int (mixI a b)) H
theorem ok_l_mix (T : Txt w K mg f fd) : FnOk P w K mg base CX0 1 (f 36) (fd 36) ["_law_seed", "_law_k"] (sp_l_mix K) := by
  refine T.d_l_mix.F.ok sc_l_mix (fun vs H Q E h => ?_) (fun cdv A outer s H vs Q E hr h => ?_)
  · obtain ⟨x, T, rfl, _⟩ := h
    rfl
  · obtain ⟨a, b, rfl, k⟩ := h
    refine ⟨_, (pss_cons (psl 2 sc_l_mix.nd (pe_op op_mod (pe_op op_add (pe_op op_add (pe_op op_mul (pe_op op_mod (pvl 0) pe_int) pe_int) (pe_op op_mul (pvl 1) pe_int)) pe_int) pe_int))
     (pss_one (ps_ret (pe_op op_mod (pe_op op_mul (pe_op op_mod (pe_op op_mul (pvl 2) (pvl 2)) pe_int) pe_int) pe_int)))), ?_⟩
    ((try dsimp only [cxOf, L2.Cx.inTry, L2.Cx.inHand]); simp only [tDIn, tDNotIn, tDGet, sDPut, rIndexS, iItems, rStarts3, rAdd, tNever, tCIn, tCGet, L2.start, tSeq, tNext, tIfS, tRet, tRetN, tAsg, tDrop, gName, tVar, tC, tOp, tUn, tCall, tCB, tCons, tNil, tTest, tB, tNot, tAnd, tOr, tAndV, tOrV, tNotV, tIf, tChain, tLst, tTup, tBM, tBM0, rI, rI0, rU, rEq, rNe, scal, tComp, iStr, iList, iTup, iRng1, iRng2, tYes, rIsP, rAll, rLenS, rLenV, rListOf, rTupleOf, tDisp, tPairs, tSl, tPart, tNoPart, rSlS, rSlL, rFind, rStarts, rIntT, rStrA, rRepS, tCallX, tRaise, tRaiseI, tTry, tAs, offE, tXF, sXset, tMethX, tMakeX, rIsX, tFld, sFld, tMeth, rSortD, rDPop, tDNewK, 
  List.map_cons, List.map_nil, List.cons_append, List.nil_append, List.length_cons, List.length_nil, List.getElem?_cons_zero, List.getElem?_cons_succ, Option.some.injEq, exists_eq_left', exists_eq_left, List.set_cons_zero, List.set_cons_succ, List.cons.injEq, and_true, true_and, V.int.injEq, V.str.injEq, V.bl.injEq, V.ref.injEq, V.ty.injEq, exists_and_left, exists_and_right, List.append_nil, reduceCtorEq, false_and, and_false, exists_false, or_false, false_or, decide_true, decide_false, Bool.not_true, Bool.not_false, if_true, if_false, Bool.false_eq_true, ite_true, ite_false, and_assoc, Nat.reduceAdd, Nat.reduceSub, List.replicate_succ, List.replicate_zero, Nat.zero_add, Nat.add_zero, Nat.sub_self])
    repeat (refine And.intro (by first | decide | omega | exact Or.inl ⟨by omega, by omega⟩ | exact Or.inr ⟨by omega, by omega⟩ | exact ⟨by omega, by omega⟩ | exact ⟨by decide, by decide, by decide⟩) ?_)
    exact k
noncomputable def sp_l_cell_at (K : PySem.W.Frag) : Sp := fun vs H Q _ => ∃ (a : Addr) (ns : List Int) (i : Int), vs = [.ref a, .int i] ∧ SqL K H a (ns.map V.int) ∧ 0 ≤ i ∧ ∀ v, Q (.int v) H
theorem ok_l_cell_at (T : Txt w K mg f fd) : FnOk P w K mg base CX0 1 (f 35) (fd 35) ["_law_script", "_law_k"] (sp_l_cell_at K) := by
  refine T.d_l_cell_at.F.ok sc_l_cell_at (fun vs H Q E h => ?_) (fun cdv A outer s H vs Q E hr h => ?_)
  · obtain ⟨x, T, _, rfl, _⟩ := h
    rfl
  · obtain ⟨a, ns, i, rfl, hs, h0, k⟩ := h
    refine ⟨_, (pss_cons (ps_if (pt_cmpR op_lt (pvl 1) (pe_cB (k_len rfl) T.n_len bt_len rfl (by decide) (by decide) rfl (pal rfl (pvl 0) pa_nil)) (nomark _))
     (pss_one (ps_ret (pe_ix (k_ixL rfl) (pvl 0) (pvl 1) (fun _ _ => rfl))))
     pss_nil)
     (pss_one (ps_ret pe_int))), ?_⟩
    ((try dsimp only [cxOf, L2.Cx.inTry, L2.Cx.inHand]); simp only [tDIn, tDNotIn, tDGet, sDPut, rIndexS, iItems, rStarts3, rAdd, tNever, tCIn, tCGet, L2.start, tSeq, tNext, tIfS, tRet, tRetN, tAsg, tDrop, gName, tVar, tC, tOp, tUn, tCall, tCB, tCons, tNil, tTest, tB, tNot, tAnd, tOr, tAndV, tOrV, tNotV, tIf, tChain, tLst, tTup, tBM, tBM0, rI, rI0, rU, rEq, rNe, scal, tComp, iStr, iList, iTup, iRng1, iRng2, tYes, rIsP, rAll, rLenS, rLenV, rListOf, rTupleOf, tDisp, tPairs, tSl, tPart, tNoPart, rSlS, rSlL, rFind, rStarts, rIntT, rStrA, rRepS, tCallX, tRaise, tRaiseI, tTry, tAs, offE, tXF, sXset, tMethX, tMakeX, rIsX, tFld, sFld, tMeth, rSortD, rDPop, tDNewK, 
  List.map_cons, List.map_nil, List.cons_append, List.nil_append, List.length_cons, List.length_nil, List.getElem?_cons_zero, List.getElem?_cons_succ, Option.some.injEq, exists_eq_left', exists_eq_left, List.set_cons_zero, List.set_cons_succ, List.cons.injEq, and_true, true_and, V.int.injEq, V.str.injEq, V.bl.injEq, V.ref.injEq, V.ty.injEq, exists_and_left, exists_and_right, List.append_nil, reduceCtorEq, false_and, and_false, exists_false, or_false, false_or, decide_true, decide_false, Bool.not_true, Bool.not_false, if_true, if_false, Bool.false_eq_true, ite_true, ite_false, and_assoc, Nat.reduceAdd, Nat.reduceSub, List.replicate_succ, List.replicate_zero, Nat.zero_add, Nat.add_zero, Nat.sub_self])
    refine ⟨_, .inl hs, ?_⟩
    rw [List.length_map]
    by_cases h : i < (ns.length : Int)
    · rw [if_pos (decide_eq_true h)]
      obtain ⟨j, rfl⟩ : ∃ j : Nat, i = (j : Int) := ⟨i.toNat, by omega⟩
      have hj : j < ns.length := by omega
      refine ⟨a, _, _, .int ns[j], rfl, rfl, hs, atI_nat (by rw [List.getElem?_map, List.getElem?_eq_getElem hj]; rfl), k _⟩
    · rw [if_neg (by simpa using h)]
      exact k _
noncomputable def sp_is_name (K : PySem.W.Frag) : Sp := fun vs H Q _ => ∃ x T, vs = [x] ∧ Pl K H x T ∧ ∀ H', Same H H' → Q (.bl (shortV x letters)) H'
theorem ok_is_name (T : Txt w K mg f fd) : FnOk P w K mg base CX0 3 (f 12) (fd 12) ["thing"] (sp_is_name K) := by
  refine T.d_is_name.F.ok sc_is_name (fun vs H Q E h => ?_) (fun cdv A outer s H vs Q E hr h => ?_)
  · obtain ⟨x, T, rfl, _⟩ := h
    rfl
  · obtain ⟨x, t, rfl, p, k⟩ := h
    refine ⟨_, (pss_one (ps_ret (pe_defL T.d_is_short_text (ok_is_short_text T) (hr.mono (by decide)) rfl (by decide) rfl (pal rfl (pvl 0) (pal rfl (pgs T.g_LETTERS) pa_nil))))), ?_⟩
    ((try dsimp only [cxOf, L2.Cx.inTry, L2.Cx.inHand]); simp only [tDIn, tDNotIn, tDGet, sDPut, rIndexS, iItems, rStarts3, rAdd, tNever, tCIn, tCGet, L2.start, tSeq, tNext, tIfS, tRet, tRetN, tAsg, tDrop, gName, tVar, tC, tOp, tUn, tCall, tCB, tCons, tNil, tTest, tB, tNot, tAnd, tOr, tAndV, tOrV, tNotV, tIf, tChain, tLst, tTup, tBM, tBM0, rI, rI0, rU, rEq, rNe, scal, tComp, iStr, iList, iTup, iRng1, iRng2, tYes, rIsP, rAll, rLenS, rLenV, rListOf, rTupleOf, tDisp, tPairs, tSl, tPart, tNoPart, rSlS, rSlL, rFind, rStarts, rIntT, rStrA, rRepS, tCallX, tRaise, tRaiseI, tTry, tAs, offE, tXF, sXset, tMethX, tMakeX, rIsX, tFld, sFld, tMeth, rSortD, rDPop, tDNewK, 
  List.map_cons, List.map_nil, List.cons_append, List.nil_append, List.length_cons, List.length_nil, List.getElem?_cons_zero, List.getElem?_cons_succ, Option.some.injEq, exists_eq_left', exists_eq_left, List.set_cons_zero, List.set_cons_succ, List.cons.injEq, and_true, true_and, V.int.injEq, V.str.injEq, V.bl.injEq, V.ref.injEq, V.ty.injEq, exists_and_left, exists_and_right, List.append_nil, reduceCtorEq, false_and, and_false, exists_false, or_false, false_or, decide_true, decide_false, Bool.not_true, Bool.not_false, if_true, if_false, Bool.false_eq_true, ite_true, ite_false, and_assoc, Nat.reduceAdd, Nat.reduceSub, List.replicate_succ, List.replicate_zero, Nat.zero_add, Nat.add_zero, Nat.sub_self])
    exact ⟨x, _, t, rfl, p, k⟩
theorem fig_mem (c : Nat) : decide (c ∈ figures.cps.toList) = isDig c := by
  have e : figures.cps.toList = [48, 49, 50, 51, 52, 53, 54, 55, 56, 57] := by decide
  rw [e]
  unfold isDig
  rw [decide_eq_decide]
  simp only [List.mem_cons, List.not_mem_nil, or_false]
  omega
theorem made_fig (z : Str) : madeOf z figures = z.cps.toList.all isDig := by
  unfold madeOf
  congr 1
  funext c
  exact fig_mem c
noncomputable def sp_written (_ : PySem.W.Frag) : Sp := fun vs H Q _ => (vs = [.non] ∧ Q (.str "-") H) ∨ (∃ i, vs = [.int i] ∧ i.natAbs < 10 ^ 100 ∧ Q (.str ⟨(numS i).toArray⟩) H) ∨ ∃ z, vs = [.str z] ∧ Q (.str z) H
theorem ok_written (T : Txt w K mg f fd) : FnOk P w K mg base CX0 1 (f 14) (fd 14) ["value"] (sp_written K) := by
  refine T.d_written.F.ok sc_written (fun vs H Q E h => ?_) (fun cdv A outer s H vs Q E hr h => ?_)
  · rcases h with ⟨rfl, _⟩ | ⟨i, rfl, _⟩ | ⟨z, rfl, _⟩ <;> rfl
  · refine ⟨_, (pss_cons (ps_if (pt_cmpR op_isN (pvl 0) pe_non (nomark _))
     (pss_one (ps_ret pe_str))
     pss_nil)
     (pss_one (ps_ret (pe_cTy call_strA T.n_str bt_str rfl (by decide) (by decide) rfl (pal rfl (pvl 0) pa_nil))))), ?_⟩
    rcases h with ⟨rfl, k⟩ | ⟨i, rfl, hi, k⟩ | ⟨z, rfl, k⟩
    · ((try dsimp only [cxOf, L2.Cx.inTry, L2.Cx.inHand]); simp only [tDIn, tDNotIn, tDGet, sDPut, rIndexS, iItems, rStarts3, rAdd, tNever, tCIn, tCGet, L2.start, tSeq, tNext, tIfS, tRet, tRetN, tAsg, tDrop, gName, tVar, tC, tOp, tUn, tCall, tCB, tCons, tNil, tTest, tB, tNot, tAnd, tOr, tAndV, tOrV, tNotV, tIf, tChain, tLst, tTup, tBM, tBM0, rI, rI0, rU, rEq, rNe, scal, tComp, iStr, iList, iTup, iRng1, iRng2, tYes, rIsP, rAll, rLenS, rLenV, rListOf, rTupleOf, tDisp, tPairs, tSl, tPart, tNoPart, rSlS, rSlL, rFind, rStarts, rIntT, rStrA, rRepS, tCallX, tRaise, tRaiseI, tTry, tAs, offE, tXF, sXset, tMethX, tMakeX, rIsX, tFld, sFld, tMeth, rSortD, rDPop, tDNewK, 
  List.map_cons, List.map_nil, List.cons_append, List.nil_append, List.length_cons, List.length_nil, List.getElem?_cons_zero, List.getElem?_cons_succ, Option.some.injEq, exists_eq_left', exists_eq_left, List.set_cons_zero, List.set_cons_succ, List.cons.injEq, and_true, true_and, V.int.injEq, V.str.injEq, V.bl.injEq, V.ref.injEq, V.ty.injEq, exists_and_left, exists_and_right, List.append_nil, reduceCtorEq, false_and, and_false, exists_false, or_false, false_or, decide_true, decide_false, Bool.not_true, Bool.not_false, if_true, if_false, Bool.false_eq_true, ite_true, ite_false, and_assoc, Nat.reduceAdd, Nat.reduceSub, List.replicate_succ, List.replicate_zero, Nat.zero_add, Nat.add_zero, Nat.sub_self])
      exact k
    · ((try dsimp only [cxOf, L2.Cx.inTry, L2.Cx.inHand]); simp only [tDIn, tDNotIn, tDGet, sDPut, rIndexS, iItems, rStarts3, rAdd, tNever, tCIn, tCGet, L2.start, tSeq, tNext, tIfS, tRet, tRetN, tAsg, tDrop, gName, tVar, tC, tOp, tUn, tCall, tCB, tCons, tNil, tTest, tB, tNot, tAnd, tOr, tAndV, tOrV, tNotV, tIf, tChain, tLst, tTup, tBM, tBM0, rI, rI0, rU, rEq, rNe, scal, tComp, iStr, iList, iTup, iRng1, iRng2, tYes, rIsP, rAll, rLenS, rLenV, rListOf, rTupleOf, tDisp, tPairs, tSl, tPart, tNoPart, rSlS, rSlL, rFind, rStarts, rIntT, rStrA, rRepS, tCallX, tRaise, tRaiseI, tTry, tAs, offE, tXF, sXset, tMethX, tMakeX, rIsX, tFld, sFld, tMeth, rSortD, rDPop, tDNewK, 
  List.map_cons, List.map_nil, List.cons_append, List.nil_append, List.length_cons, List.length_nil, List.getElem?_cons_zero, List.getElem?_cons_succ, Option.some.injEq, exists_eq_left', exists_eq_left, List.set_cons_zero, List.set_cons_succ, List.cons.injEq, and_true, true_and, V.int.injEq, V.str.injEq, V.bl.injEq, V.ref.injEq, V.ty.injEq, exists_and_left, exists_and_right, List.append_nil, reduceCtorEq, false_and, and_false, exists_false, or_false, false_or, decide_true, decide_false, Bool.not_true, Bool.not_false, if_true, if_false, Bool.false_eq_true, ite_true, ite_false, and_assoc, Nat.reduceAdd, Nat.reduceSub, List.replicate_succ, List.replicate_zero, Nat.zero_add, Nat.add_zero, Nat.sub_self])
      exact ⟨hi, k⟩
    · ((try dsimp only [cxOf, L2.Cx.inTry, L2.Cx.inHand]); simp only [tDIn, tDNotIn, tDGet, sDPut, rIndexS, iItems, rStarts3, rAdd, tNever, tCIn, tCGet, L2.start, tSeq, tNext, tIfS, tRet, tRetN, tAsg, tDrop, gName, tVar, tC, tOp, tUn, tCall, tCB, tCons, tNil, tTest, tB, tNot, tAnd, tOr, tAndV, tOrV, tNotV, tIf, tChain, tLst, tTup, tBM, tBM0, rI, rI0, rU, rEq, rNe, scal, tComp, iStr, iList, iTup, iRng1, iRng2, tYes, rIsP, rAll, rLenS, rLenV, rListOf, rTupleOf, tDisp, tPairs, tSl, tPart, tNoPart, rSlS, rSlL, rFind, rStarts, rIntT, rStrA, rRepS, tCallX, tRaise, tRaiseI, tTry, tAs, offE, tXF, sXset, tMethX, tMakeX, rIsX, tFld, sFld, tMeth, rSortD, rDPop, tDNewK, 
  List.map_cons, List.map_nil, List.cons_append, List.nil_append, List.length_cons, List.length_nil, List.getElem?_cons_zero, List.getElem?_cons_succ, Option.some.injEq, exists_eq_left', exists_eq_left, List.set_cons_zero, List.set_cons_succ, List.cons.injEq, and_true, true_and, V.int.injEq, V.str.injEq, V.bl.injEq, V.ref.injEq, V.ty.injEq, exists_and_left, exists_and_right, List.append_nil, reduceCtorEq, false_and, and_false, exists_false, or_false, false_or, decide_true, decide_false, Bool.not_true, Bool.not_false, if_true, if_false, Bool.false_eq_true, ite_true, ite_false, and_assoc, Nat.reduceAdd, Nat.reduceSub, List.replicate_succ, List.replicate_zero, Nat.zero_add, Nat.add_zero, Nat.sub_self])
      exact k
noncomputable def sp_writes_number (_ : PySem.W.Frag) : Sp := fun vs H Q _ => ∃ z, vs = [.str z] ∧ z.length ≤ sizeLine ∧ ∀ H', Same H H' → Q (.bl (numOk z.cps.toList)) H'
theorem ok_writes_number (T : Txt w K mg f fd) : FnOk P w K mg base CX0 2 (f 15) (fd 15) ["text"] (sp_writes_number K) := by
  refine T.d_writes_number.F.ok sc_writes_number (fun vs H Q E h => ?_) (fun cdv A outer s H vs Q E hr h => ?_)
  · obtain ⟨z, rfl, _⟩ := h
    rfl
  · obtain ⟨z, rfl, hz, k⟩ := h
    refine ⟨_, (pss_cons (psl 1 sc_writes_number.nd (pe_ifExp (pt_val (k_bmL rfl PySem.F.plainAttrs_str PySem.F.slot_str_startswith PySem.F.type_str_startswith mt_startswith rfl rfl rfl rfl (pvl 0) (pal rfl pe_str pa_nil))) (pe_slice sl_str (pvl 0) (po_some pe_int) po_none) (pvl 0)))
     (pss_cons (ps_if (PW.pt (pw_or (pt_not (pt_chain op_le op_le pe_int (pe_cB call_len_str T.n_len bt_len rfl (by decide) (by decide) rfl (pal rfl (pvl 1) pa_nil)) (pgi T.g_MOST_FIGURES))) (pw_or1 (pt_not (pt_val (pe_defL T.d_is_made_of (ok_is_made_of T) (hr.mono (by decide)) rfl (by decide) rfl (pal rfl (pvl 1) (pal rfl (pgs T.g_FIGURES) pa_nil))))))))
     (pss_one (ps_ret pe_bl))
     pss_nil)
     (pss_one (ps_ret (pe_or (pe_cmpR op_ne (pe_ix ix_str (pvl 1) pe_int (fun _ _ => rfl)) pe_str (nomark _)) (pe_one (pe_cmpR op_eq (pvl 0) pe_str (nomark _)))))))), ?_⟩
    ((try dsimp only [cxOf, L2.Cx.inTry, L2.Cx.inHand]); simp only [tDIn, tDNotIn, tDGet, sDPut, rIndexS, iItems, rStarts3, rAdd, tNever, tCIn, tCGet, L2.start, tSeq, tNext, tIfS, tRet, tRetN, tAsg, tDrop, gName, tVar, tC, tOp, tUn, tCall, tCB, tCons, tNil, tTest, tB, tNot, tAnd, tOr, tAndV, tOrV, tNotV, tIf, tChain, tLst, tTup, tBM, tBM0, rI, rI0, rU, rEq, rNe, scal, tComp, iStr, iList, iTup, iRng1, iRng2, tYes, rIsP, rAll, rLenS, rLenV, rListOf, rTupleOf, tDisp, tPairs, tSl, tPart, tNoPart, rSlS, rSlL, rFind, rStarts, rIntT, rStrA, rRepS, tCallX, tRaise, tRaiseI, tTry, tAs, offE, tXF, sXset, tMethX, tMakeX, rIsX, tFld, sFld, tMeth, rSortD, rDPop, tDNewK, 
  List.map_cons, List.map_nil, List.cons_append, List.nil_append, List.length_cons, List.length_nil, List.getElem?_cons_zero, List.getElem?_cons_succ, Option.some.injEq, exists_eq_left', exists_eq_left, List.set_cons_zero, List.set_cons_succ, List.cons.injEq, and_true, true_and, V.int.injEq, V.str.injEq, V.bl.injEq, V.ref.injEq, V.ty.injEq, exists_and_left, exists_and_right, List.append_nil, reduceCtorEq, false_and, and_false, exists_false, or_false, false_or, decide_true, decide_false, Bool.not_true, Bool.not_false, if_true, if_false, Bool.false_eq_true, ite_true, ite_false, and_assoc, Nat.reduceAdd, Nat.reduceSub, List.replicate_succ, List.replicate_zero, Nat.zero_add, Nat.add_zero, Nat.sub_self])
    have core : ∀ fz : Str, fz.cps.toList = figs z.cps.toList → fz.length ≤ sizeLine → (fz.length ≤ sizeLine ∧ if decide (1 ≤ (fz.length : Int)) = true then
        if (!decide ((fz.length : Int) ≤ 60)) = true then Q (V.bl false) H
        else sp_is_made_of K [V.str fz, V.str (Str.ofString "0123456789")] H (fun x H1 => ∃ c, x = V.bl c ∧ if (!c) = true then Q (V.bl false) H1
          else rIxS (V.str fz) (V.int 0) H1 fun x H1 => scal x (V.str (Str.ofString "0")) = true ∧ if (!decide (x = V.str (Str.ofString "0"))) = true then Q (V.bl true) H1 else Q (V.bl (decide (z = Str.ofString "0"))) H1) E0
        else Q (V.bl false) H) := by
      intro fz ef hf
      have hl : fz.cps.toList.length = fz.length := by simp [Str.length]
      have eo : numOk z.cps.toList = (decide (1 ≤ fz.length) && (decide (fz.length ≤ 60) && (fz.cps.toList.all isDig && (!decide (fz.cps.toList.head? = some 48) || decide (z.cps.toList = [48]))))) := by
        unfold numOk; rw [← ef, hl]
      rw [eo] at k
      refine ⟨hf, ?_⟩
      by_cases h1 : 1 ≤ fz.length
      · rw [if_pos (decide_eq_true (by omega))]
        rw [decide_eq_true h1, Bool.true_and] at k
        by_cases h2 : fz.length ≤ 60
        · rw [if_neg (by simp; omega)]
          rw [decide_eq_true h2, Bool.true_and] at k
          refine ⟨fz, _, rfl, hf, fun H1 s1 => ⟨_, rfl, ?_⟩⟩
          rw [show madeOf fz (Str.ofString "0123456789") = fz.cps.toList.all isDig from made_fig fz]
          cases ha : fz.cps.toList.all isDig with
          | false =>
            rw [if_pos (by decide)]
            rw [ha, Bool.false_and] at k
            exact k H1 s1
          | true =>
            rw [if_neg (by decide)]
            rw [ha, Bool.true_and] at k
            refine ixS_of hf (by decide) (by omega) fun c hc => ?_
            have hc' : fz.cps.toList.head? = some c := by rw [List.head?_eq_getElem?]; exact hc
            rw [hc'] at k
            refine ⟨rfl, ?_⟩
            have e0 : decide (z = Str.ofString "0") = decide (z.cps.toList = [48]) := by rw [decide_eq_decide, str_eq_iff]; exact Iff.rfl
            by_cases hc0 : c = 48
            · subst hc0
              rw [if_neg (by unfold sgn; decide), e0]
              exact k H1 s1
            · rw [if_pos (by
                unfold sgn
                rw [Bool.not_eq_true', decide_eq_false_iff_not]
                intro z
                injection z with z
                have e1 : [c] = [48] := str_eq_iff.mp z
                exact hc0 (by simpa using e1))]
              rw [decide_eq_false (by simpa using hc0)] at k
              exact k H1 s1
        · rw [if_pos (by simp; omega)]
          rw [decide_eq_false h2, Bool.false_and] at k
          exact k H (Same.refl H)
      · rw [if_neg (by simp; omega)]
        rw [decide_eq_false h1, Bool.false_and] at k
        exact k H (Same.refl H)
    refine ⟨rfl, ?_⟩
    rw [starts_minus]
    by_cases h0 : z.cps.toList.head? = some 45
    · rw [if_pos (decide_eq_true h0)]
      have ec : cutL z.cps.toList (some 1) none = z.cps.toList.tail := by rw [show (1 : Int) = ((1 : Nat) : Int) from rfl, cut_from, List.drop_one]
      refine ⟨hz, ?_⟩
      refine core ⟨(cutL z.cps.toList (some 1) none).toArray⟩ ?_ ?_
      · show (cutL z.cps.toList (some 1) none).toArray.toList = _
        rw [ec]; unfold figs; rw [if_pos h0]
      · show (cutL z.cps.toList (some 1) none).toArray.size ≤ _
        rw [List.size_toArray]
        exact Nat.le_trans (cutL_len _ _ _) (by rw [Array.length_toList]; exact hz)
    · rw [if_neg (by simpa using h0)]
      exact core z (by unfold figs; rw [if_neg h0]) hz
noncomputable def readV (num : Bool) (z : Str) : V := if num then (if numOk z.cps.toList then .int (numV' z.cps.toList) else .non) else (if shortV (.str z) (letters ++ figures) then .str z else .non)
noncomputable def sp_read_value (K : PySem.W.Frag) : Sp := fun vs H Q _ => ∃ kd z, vs = [.str kd, .str z] ∧ z.length ≤ sizeLine ∧ ∀ H', Same H H' → Q (readV (decide (kd = "number")) z) H'
theorem ok_read_value (T : Txt w K mg f fd) : FnOk P w K mg base CX0 4 (f 16) (fd 16) ["kind", "text"] (sp_read_value K) := by
  refine T.d_read_value.F.ok sc_read_value (fun vs H Q E h => ?_) (fun cdv A outer s H vs Q E hr h => ?_)
  · obtain ⟨z, y, rfl, _⟩ := h
    rfl
  · obtain ⟨kd, z, rfl, hz, k⟩ := h
    refine ⟨_, (pss_cons (ps_if (pt_cmpR op_eq (pvl 0) pe_str (nomark _))
     (pss_one (ps_ret (pe_ifExp (pt_val (pe_defL T.d_writes_number (ok_writes_number T) (hr.mono (by decide)) rfl (by decide) rfl (pal rfl (pvl 1) pa_nil))) (pe_cTy call_int_text T.n_int bt_int rfl (by decide) (by decide) rfl (pal rfl (pvl 1) pa_nil)) pe_non)))
     pss_nil)
     (pss_one (ps_ret (pe_ifExp (pt_val (pe_defL T.d_is_word (ok_is_word T) (hr.mono (by decide)) rfl (by decide) rfl (pal rfl (pvl 1) pa_nil))) (pvl 1) pe_non)))), ?_⟩
    ((try dsimp only [cxOf, L2.Cx.inTry, L2.Cx.inHand]); simp only [tDIn, tDNotIn, tDGet, sDPut, rIndexS, iItems, rStarts3, rAdd, tNever, tCIn, tCGet, L2.start, tSeq, tNext, tIfS, tRet, tRetN, tAsg, tDrop, gName, tVar, tC, tOp, tUn, tCall, tCB, tCons, tNil, tTest, tB, tNot, tAnd, tOr, tAndV, tOrV, tNotV, tIf, tChain, tLst, tTup, tBM, tBM0, rI, rI0, rU, rEq, rNe, scal, tComp, iStr, iList, iTup, iRng1, iRng2, tYes, rIsP, rAll, rLenS, rLenV, rListOf, rTupleOf, tDisp, tPairs, tSl, tPart, tNoPart, rSlS, rSlL, rFind, rStarts, rIntT, rStrA, rRepS, tCallX, tRaise, tRaiseI, tTry, tAs, offE, tXF, sXset, tMethX, tMakeX, rIsX, tFld, sFld, tMeth, rSortD, rDPop, tDNewK, 
  List.map_cons, List.map_nil, List.cons_append, List.nil_append, List.length_cons, List.length_nil, List.getElem?_cons_zero, List.getElem?_cons_succ, Option.some.injEq, exists_eq_left', exists_eq_left, List.set_cons_zero, List.set_cons_succ, List.cons.injEq, and_true, true_and, V.int.injEq, V.str.injEq, V.bl.injEq, V.ref.injEq, V.ty.injEq, exists_and_left, exists_and_right, List.append_nil, reduceCtorEq, false_and, and_false, exists_false, or_false, false_or, decide_true, decide_false, Bool.not_true, Bool.not_false, if_true, if_false, Bool.false_eq_true, ite_true, ite_false, and_assoc, Nat.reduceAdd, Nat.reduceSub, List.replicate_succ, List.replicate_zero, Nat.zero_add, Nat.add_zero, Nat.sub_self])
    by_cases hk : kd = Str.ofString "number"
    · rw [if_pos (decide_eq_true hk)]
      rw [decide_eq_true hk] at k
      refine ⟨z, rfl, hz, fun H1 s1 => ⟨_, rfl, ?_⟩⟩
      cases ho : numOk z.cps.toList with
      | true =>
        rw [if_pos rfl]
        obtain ⟨e1, e2⟩ := intText_is ho
        refine ⟨_, e1, by omega, ?_⟩
        have := k H1 s1
        unfold readV at this
        rw [if_pos rfl, ho, if_pos rfl] at this
        exact this
      | false =>
        rw [if_neg Bool.false_ne_true]
        have := k H1 s1
        unfold readV at this
        rw [if_pos rfl, ho, if_neg Bool.false_ne_true] at this
        exact this
    · rw [if_neg (by simpa using hk)]
      rw [decide_eq_false hk] at k
      refine ⟨_, _, rfl, Pl.of_str hz, fun H1 s1 => ⟨_, rfl, ?_⟩⟩
      have := k H1 s1
      unfold readV at this
      rw [if_neg Bool.false_ne_true] at this
      cases ho : shortV (.str z) (letters ++ figures) with
      | true => rw [if_pos rfl]; rw [ho, if_pos rfl] at this; exact this
      | false => rw [if_neg Bool.false_ne_true]; rw [ho, if_neg Bool.false_ne_true] at this; exact this
theorem fig_at : ∀ d : Nat, d < 10 → (Str.ofString "0123456789").cps.toList[d]? = some (48 + d) := by decide +kernel
noncomputable def Wrd (z : Str) : Prop := 1 ≤ z.length ∧ z.length ≤ 12 ∧ ∀ c ∈ z.cps.toList, c ∈ (letters ++ figures).cps.toList
noncomputable def Tx (n : Nat) (z : Str) : Prop := z.length ≤ n ∧ ∀ c ∈ z.cps.toList, c < 1114112
theorem wd_lt : ∀ c ∈ (letters ++ figures).cps.toList, c < 1114112 := by decide +kernel
noncomputable abbrev signs36 : Str := "abcdefghijklmnopqrstuvwxyz0123456789"
theorem signs36_is : signs36 = letters ++ figures := by decide +kernel
theorem Wrd.tx {z : Str} (h : Wrd z) : Tx 100 z := ⟨by have := h.2.1; omega, fun c hc => wd_lt c (h.2.2 c hc)⟩
theorem Wrd.read {z : Str} (h : Wrd z) : readV false z = .str z := by
  have e : shortV (.str z) (letters ++ figures) = true := by
    show (decide (1 ≤ z.length) && (decide (z.length ≤ 12) && madeOf z (letters ++ figures))) = true
    rw [decide_eq_true h.1, decide_eq_true h.2.1]
    unfold madeOf
    rw [List.all_eq_true.mpr fun c hc => decide_eq_true (h.2.2 c hc)]
    rfl
  unfold readV
  rw [if_neg Bool.false_ne_true, if_pos e]
theorem num_tx {n : Int} (h : n.natAbs < 10 ^ 60) : Tx 100 ⟨(numS n).toArray⟩ := by
  have l := dgs_len 59 h
  have ad : ∀ c ∈ numS n, c < 1114112 := by
    intro c hc
    unfold numS at hc
    have hd : ∀ c ∈ dgs n.natAbs, c < 1114112 := fun c hc => by have := dgs_digits n.natAbs c hc; omega
    split at hc
    · rcases List.mem_cons.mp hc with rfl | hc
      · decide
      · exact hd c hc
    · exact hd c hc
  refine ⟨?_, ad⟩
  show (numS n).toArray.size ≤ 100
  rw [List.size_toArray]
  unfold numS
  split
  · rw [List.length_cons]; omega
  · omega
theorem num_read {n : Int} (h : n.natAbs < 10 ^ 60) : readV true ⟨(numS n).toArray⟩ = .int n := by
  obtain ⟨e1, e2⟩ := num_back h
  unfold readV
  rw [if_pos rfl]
  show (if numOk (numS n) = true then V.int (numV' (numS n)) else V.non) = _
  rw [if_pos e1, e2]
noncomputable def FldsK (H : Hp) (xs : List V) (ns kds : List Str) : Prop := ns.length = xs.length ∧ kds.length = xs.length ∧ ns.Nodup ∧ ∀ (i : Nat) x n kd, xs[i]? = some x → ns[i]? = some n → kds[i]? = some kd → ∃ p, x = .ref p ∧ H p = some (.tup [.str n, .str kd])
theorem FldsK.mono {H H' : Hp} {xs : List V} {ns kds : List Str} (s : Same H H') (h : FldsK H xs ns kds) : FldsK H' xs ns kds := ⟨h.1, h.2.1, h.2.2.1, fun i x n kd a b c => by
  obtain ⟨p, e, g⟩ := h.2.2.2 i x n kd a b c
  exact ⟨p, e, s _ _ g⟩⟩
theorem FldsK.at {H : Hp} {xs : List V} {ns kds : List Str} (h : FldsK H xs ns kds) {i : Nat} (hi : i < xs.length) : ∃ p n kd, xs[i]? = some (.ref p) ∧ ns[i]? = some n ∧ kds[i]? = some kd ∧ H p = some (.tup [.str n, .str kd]) := by
  have h1 : i < ns.length := by rw [h.1]; exact hi
  have h2 : i < kds.length := by rw [h.2.1]; exact hi
  obtain ⟨p, e, g⟩ := h.2.2.2 i _ _ _ (List.getElem?_eq_getElem hi) (List.getElem?_eq_getElem h1) (List.getElem?_eq_getElem h2)
  exact ⟨p, _, _, by rw [List.getElem?_eq_getElem hi, e], List.getElem?_eq_getElem h1, List.getElem?_eq_getElem h2, g⟩
noncomputable def sp_field_at (K : PySem.W.Frag) : Sp := fun vs H Q _ => ∃ l xs ns kds n, ∃ i : Nat, vs = [.ref l, .str n] ∧ H l = some (.lst xs) ∧ FldsK H xs ns kds ∧ ns[i]? = some n ∧ ∀ H', Same H H' → Q (.int i) H'
theorem ok_field_at (T : Txt w K mg f fd) : FnOk P w K mg base CX0 1 (f 18) (fd 18) ["fields", "name"] (sp_field_at K) := by
  refine T.d_field_at.F.ok sc_field_at (fun vs H Q E h => ?_) (fun cdv A outer s H vs Q E hr h => ?_)
  · obtain ⟨l, xs, ns, kds, n, i, rfl, _⟩ := h
    rfl
  · obtain ⟨l, xs, ns, kds, n, i, rfl, hl, hF, hi, k⟩ := h
    refine ⟨_, (pss_cons (ps_for PassesOwn.never rfl (pi_enum rfl T.n_enumerate (pal rfl (pvl 0) pa_nil) rfl) (k_pgT rfl rfl (pgs_cons (pgl 2 sc_field_at.nd) (pgs_cons (pgl 3 sc_field_at.nd) pgs_nil)))
     (pss_one (ps_if (pt_cmpR op_eq (pe_ix (k_ixT rfl) (pvl 3) pe_int (fun _ _ => rfl)) (pvl 1) (nomark _))
     (pss_one (ps_ret (pvl 2)))
     pss_nil)))
     (pss_one ps_never)), ?_⟩
    ((try dsimp only [cxOf, L2.Cx.inTry, L2.Cx.inHand]); simp only [tDIn, tDNotIn, tDGet, sDPut, rIndexS, iItems, rStarts3, rAdd, tNever, tCIn, tCGet, L2.start, tSeq, tNext, tIfS, tRet, tRetN, tAsg, tDrop, gName, tVar, tC, tOp, tUn, tCall, tCB, tCons, tNil, tTest, tB, tNot, tAnd, tOr, tAndV, tOrV, tNotV, tIf, tChain, tLst, tTup, tBM, tBM0, rI, rI0, rU, rEq, rNe, scal, tComp, iStr, iList, iTup, iRng1, iRng2, tYes, rIsP, rAll, rLenS, rLenV, rListOf, rTupleOf, tDisp, tPairs, tSl, tPart, tNoPart, rSlS, rSlL, rFind, rStarts, rIntT, rStrA, rRepS, tCallX, tRaise, tRaiseI, tTry, tAs, offE, tXF, sXset, tMethX, tMakeX, rIsX, tFld, sFld, tMeth, rSortD, rDPop, tDNewK, 
  List.map_cons, List.map_nil, List.cons_append, List.nil_append, List.length_cons, List.length_nil, List.getElem?_cons_zero, List.getElem?_cons_succ, Option.some.injEq, exists_eq_left', exists_eq_left, List.set_cons_zero, List.set_cons_succ, List.cons.injEq, and_true, true_and, V.int.injEq, V.str.injEq, V.bl.injEq, V.ref.injEq, V.ty.injEq, exists_and_left, exists_and_right, List.append_nil, reduceCtorEq, false_and, and_false, exists_false, or_false, false_or, decide_true, decide_false, Bool.not_true, Bool.not_false, if_true, if_false, Bool.false_eq_true, ite_true, ite_false, and_assoc, Nat.reduceAdd, Nat.reduceSub, List.replicate_succ, List.replicate_zero, Nat.zero_add, Nat.add_zero, Nat.sub_self])
    refine for_in ?_
    unfold iEnum
    ((try dsimp only [cxOf, L2.Cx.inTry, L2.Cx.inHand]); simp only [tDIn, tDNotIn, tDGet, sDPut, rIndexS, iItems, rStarts3, rAdd, tNever, tCIn, tCGet, L2.start, tSeq, tNext, tIfS, tRet, tRetN, tAsg, tDrop, gName, tVar, tC, tOp, tUn, tCall, tCB, tCons, tNil, tTest, tB, tNot, tAnd, tOr, tAndV, tOrV, tNotV, tIf, tChain, tLst, tTup, tBM, tBM0, rI, rI0, rU, rEq, rNe, scal, tComp, iStr, iList, iTup, iRng1, iRng2, tYes, rIsP, rAll, rLenS, rLenV, rListOf, rTupleOf, tDisp, tPairs, tSl, tPart, tNoPart, rSlS, rSlL, rFind, rStarts, rIntT, rStrA, rRepS, tCallX, tRaise, tRaiseI, tTry, tAs, offE, tXF, sXset, tMethX, tMakeX, rIsX, tFld, sFld, tMeth, rSortD, rDPop, tDNewK, 
  List.map_cons, List.map_nil, List.cons_append, List.nil_append, List.length_cons, List.length_nil, List.getElem?_cons_zero, List.getElem?_cons_succ, Option.some.injEq, exists_eq_left', exists_eq_left, List.set_cons_zero, List.set_cons_succ, List.cons.injEq, and_true, true_and, V.int.injEq, V.str.injEq, V.bl.injEq, V.ref.injEq, V.ty.injEq, exists_and_left, exists_and_right, List.append_nil, reduceCtorEq, false_and, and_false, exists_false, or_false, false_or, decide_true, decide_false, Bool.not_true, Bool.not_false, if_true, if_false, Bool.false_eq_true, ite_true, ite_false, and_assoc, Nat.reduceAdd, Nat.reduceSub, List.replicate_succ, List.replicate_zero, Nat.zero_add, Nat.add_zero, Nat.sub_self])
    refine ⟨⟨xs, .of hl⟩, ForW.enum (xs := xs) (fun j σ H' => (∃ v2 v3, σ = [some (V.ref l), some (V.str n), v2, v3]) ∧ n ∉ ns.take j ∧ Same H H') ⟨⟨none, none, rfl⟩, by simp, Same.refl _⟩ (fun _ _ _ q => q.2.2.seq (.of hl)) ?_ ?_⟩
    · rintro j x σ H1 p hx ⟨⟨v2, v3, rfl⟩, hnot, s1⟩ hp
      have s2 := s1.new hp (HO.tup [V.int (j : Int), x])
      refine ⟨p, _, rfl, .of upd_same, rfl, ?_⟩
      generalize upd H1 p (HO.tup [V.int (j : Int), x]) = H2 at *
      obtain ⟨q, nj, kd, hxq, hj, _, hq⟩ := hF.at (List.getElem?_eq_some_iff.mp hx).1
      obtain rfl : x = .ref q := Option.some.inj (hx.symm.trans hxq)
      simp only [gCons, gNil, gName]
      ((try dsimp only [cxOf, L2.Cx.inTry, L2.Cx.inHand]); simp only [tDIn, tDNotIn, tDGet, sDPut, rIndexS, iItems, rStarts3, rAdd, tNever, tCIn, tCGet, L2.start, tSeq, tNext, tIfS, tRet, tRetN, tAsg, tDrop, gName, tVar, tC, tOp, tUn, tCall, tCB, tCons, tNil, tTest, tB, tNot, tAnd, tOr, tAndV, tOrV, tNotV, tIf, tChain, tLst, tTup, tBM, tBM0, rI, rI0, rU, rEq, rNe, scal, tComp, iStr, iList, iTup, iRng1, iRng2, tYes, rIsP, rAll, rLenS, rLenV, rListOf, rTupleOf, tDisp, tPairs, tSl, tPart, tNoPart, rSlS, rSlL, rFind, rStarts, rIntT, rStrA, rRepS, tCallX, tRaise, tRaiseI, tTry, tAs, offE, tXF, sXset, tMethX, tMakeX, rIsX, tFld, sFld, tMeth, rSortD, rDPop, tDNewK, 
  List.map_cons, List.map_nil, List.cons_append, List.nil_append, List.length_cons, List.length_nil, List.getElem?_cons_zero, List.getElem?_cons_succ, Option.some.injEq, exists_eq_left', exists_eq_left, List.set_cons_zero, List.set_cons_succ, List.cons.injEq, and_true, true_and, V.int.injEq, V.str.injEq, V.bl.injEq, V.ref.injEq, V.ty.injEq, exists_and_left, exists_and_right, List.append_nil, reduceCtorEq, false_and, and_false, exists_false, or_false, false_or, decide_true, decide_false, Bool.not_true, Bool.not_false, if_true, if_false, Bool.false_eq_true, ite_true, ite_false, and_assoc, Nat.reduceAdd, Nat.reduceSub, List.replicate_succ, List.replicate_zero, Nat.zero_add, Nat.add_zero, Nat.sub_self])
      refine ixT_of (.of (s2 _ _ hq)) (by decide) (by simp) fun v hv => ?_
      obtain rfl : V.str nj = v := by simpa using hv
      refine ⟨rfl, ?_⟩
      by_cases e : nj = n
      · subst e
        rw [if_pos (by simp)]
        obtain rfl := nodup_ix hF.2.2.1 hi hj
        exact k _ s2
      · rw [if_neg (by simpa using e)]
        refine ⟨⟨_, rfl⟩, ?_, s2⟩
        rw [take_snoc hj]
        intro z
        rcases List.mem_append.mp z with z | z
        · exact hnot z
        · exact e (List.mem_singleton.mp z).symm
    · rintro σ H1 ⟨⟨v2, v3, rfl⟩, hnot, s1⟩
      rw [← hF.1, List.take_length] at hnot
      exact absurd (List.mem_of_getElem? hi) hnot
noncomputable abbrev wordS : Str := "word"
noncomputable abbrev kdN : Str := "number"
noncomputable def NmOk (b : Nat) (n : Str) : Prop := n.length ≤ b ∧ ∀ c ∈ n.cps.toList, c < 1114112
noncomputable abbrev Valid (z : Str) : Prop := ∀ c ∈ z.cps.toList, c < 1114112
theorem strOk_of {z : Str} (h : Valid z) : PyData.strOk z = true := by
  simp only [PyData.strOk]
  rw [Array.all_eq_true_iff_forall_mem]
  intro c hc'
  exact decide_eq_true (h c (by simpa using hc'))
noncomputable abbrev al36 : Str := "abcdefghijklmnopqrstuvwxyz0123456789"
theorem ltr_at : ∀ d : Nat, d < 26 → letters.cps.toList[d]? = some (97 + d) := by decide +kernel
theorem ltr_len : letters.length = 26 := by decide
noncomputable def ch (sg : Str) (i : Int) : Nat := sg.cps.toList.getD (i % (sg.length : Int)).toNat 0
theorem ch_get {sg : Str} (h : 1 ≤ sg.length) (i : Int) : sg.cps.toList[(i % (sg.length : Int)).toNat]? = some (ch sg i) := by
  have h1 := Int.emod_lt_of_pos i (show (0 : Int) < sg.length by omega)
  have h0 := Int.emod_nonneg i (show (sg.length : Int) ≠ 0 by omega)
  have hl : (i % (sg.length : Int)).toNat < sg.cps.toList.length := by rw [show sg.cps.toList.length = sg.length by simp [Str.length]]; omega
  unfold ch
  rw [List.getD_eq_getElem?_getD, List.getElem?_eq_getElem hl]
  rfl
theorem ch_mem {sg : Str} (h : 1 ≤ sg.length) (i : Int) : ch sg i ∈ sg.cps.toList := List.mem_of_getElem? (ch_get h i)
theorem ch_ltr (i : Int) : ch letters i = 97 + (i % 26).toNat := by
  have e := ch_get (sg := letters) (by decide) i
  rw [ltr_len] at e
  have e2 := ltr_at (i % 26).toNat (by have := Int.emod_lt_of_pos i (show (0 : Int) < 26 by decide); have := Int.emod_nonneg i (show (26 : Int) ≠ 0 by decide); omega)
  exact Option.some.inj (e.symm.trans e2)
theorem nodup_map_range {α : Type} {f : Nat → α} {m : Nat} (h : ∀ i j, i < m → j < m → f i = f j → i = j) : ((List.range m).map f).Nodup := by
  unfold List.Nodup
  rw [List.pairwise_map]
  refine List.Pairwise.imp_of_mem (fun {a b} ha hb hn e => hn (h a b (List.mem_range.mp ha) (List.mem_range.mp hb) e)) List.nodup_range
theorem mulOk_one (c : Nat) {n : Int} (h0 : 0 ≤ n) (h : n ≤ 12) : MulOk ⟨#[c]⟩ n := by
  refine ⟨by rw [decide_eq_false (by omega), decide_eq_false (by omega)]; rfl, fun h1 _ => ?_, fun h1 _ => ?_⟩
  · show ¬ (1 : Int) > (2 ^ 63 - 1) / n
    rcases (by omega : n = 1 ∨ n = 2 ∨ n = 3 ∨ n = 4 ∨ n = 5 ∨ n = 6 ∨ n = 7 ∨ n = 8 ∨ n = 9 ∨ n = 10 ∨ n = 11 ∨ n = 12) with rfl | rfl | rfl | rfl | rfl | rfl | rfl | rfl | rfl | rfl | rfl | rfl <;> decide
  · show Builtin.Str.tooLong (1 * n.toNat) = false
    rcases (by omega : n = 1 ∨ n = 2 ∨ n = 3 ∨ n = 4 ∨ n = 5 ∨ n = 6 ∨ n = 7 ∨ n = 8 ∨ n = 9 ∨ n = 10 ∨ n = 11 ∨ n = 12) with rfl | rfl | rfl | rfl | rfl | rfl | rfl | rfl | rfl | rfl | rfl | rfl <;> decide +kernel
theorem len_cps (z : Str) : z.cps.toList.length = z.length := by simp [Str.length]
theorem app_len (x y : Str) : (x ++ y).length = x.length + y.length := by
  rw [← len_cps, ← len_cps, ← len_cps, PySem.W.KT.app_list, List.length_append]
theorem mul_len (c : Nat) (n : Int) : (Txt.mul ⟨#[c]⟩ n).length = n.toNat := by rw [← len_cps, PyProof.Rows.mul_one_list, List.length_replicate]
noncomputable def Heads (sg : Str) (zs : List Str) (m : Nat) : Prop := zs.length = m ∧ (sg = letters → zs.Nodup) ∧ ∀ z ∈ zs, 1 ≤ z.length ∧ z.length ≤ 12 ∧ ∀ c ∈ z.cps.toList, c ∈ sg.cps.toList
noncomputable def hdS (sg : Str) (sd : Int) (c : Nat) (at0 few : Int) (i : Nat) : Str := Txt.mul ⟨#[c]⟩ at0 ++ ⟨#[ch sg (sd / 1664 + 5 * (0 + (i : Int)))]⟩ ++ Txt.mul ⟨#[c]⟩ (1 + few - at0 - 1)
theorem hdS_cps (sg : Str) (sd : Int) (c : Nat) (at0 few : Int) (i : Nat) : (hdS sg sd c at0 few i).cps.toList = List.replicate at0.toNat c ++ [ch sg (sd / 1664 + 5 * (0 + (i : Int)))] ++ List.replicate (1 + few - at0 - 1).toNat c := by
  unfold hdS
  rw [PySem.W.KT.app_list, PySem.W.KT.app_list, PyProof.Rows.mul_one_list, PyProof.Rows.mul_one_list]
theorem hdS_heads {sg : Str} {sd : Int} {c : Nat} {at0 few : Int} {m : Nat} (hsg : 1 ≤ sg.length) (hc : c ∈ sg.cps.toList) (h0 : 0 ≤ at0) (h1 : at0 < 1 + few) (h2 : few < 12) (hm : m ≤ 9) : Heads sg ((List.range m).map (hdS sg sd c at0 few)) m := by
  refine ⟨by rw [List.length_map, List.length_range], fun hlt => nodup_map_range fun i j hi hj e => ?_, fun z hz => ?_⟩
  · have e1 := str_eq_iff.mp e
    rw [hdS_cps, hdS_cps, List.append_assoc, List.append_assoc] at e1
    have e2 := List.append_cancel_left e1
    have e3 : ch sg (sd / 1664 + 5 * (0 + (i : Int))) = ch sg (sd / 1664 + 5 * (0 + (j : Int))) := by
      injection e2
    subst hlt
    rw [ch_ltr, ch_ltr] at e3
    omega
  · obtain ⟨i, _, rfl⟩ := List.mem_map.mp hz
    have hl : (hdS sg sd c at0 few i).length = (1 + few).toNat := by
      rw [← len_cps, hdS_cps, List.length_append, List.length_append, List.length_replicate, List.length_replicate, List.length_singleton]
      omega
    refine ⟨by omega, by omega, fun d hd => ?_⟩
    rw [hdS_cps] at hd
    rcases List.mem_append.mp hd with hd | hd
    · rcases List.mem_append.mp hd with hd | hd
      · rw [List.eq_of_mem_replicate hd]; exact hc
      · rw [List.mem_singleton.mp hd]; exact ch_mem hsg _
    · rw [List.eq_of_mem_replicate hd]; exact hc
noncomputable def sp_l_heads (K : PySem.W.Frag) : Sp := fun vs H Q _ => ∃ sd : Int, ∃ m : Nat, ∃ sg : Str, vs = [.int sd, .str sg, .int m, .int 12] ∧ m ≤ 9 ∧ 1 ≤ sg.length ∧ sg.length ≤ 1000 ∧ ∀ H' p zs, Same H H' → H' p = some (.lst (zs.map V.str)) → Heads sg zs m → Q (.ref p) H'
theorem ok_l_heads (T : Txt w K mg f fd) : FnOk P w K mg base CX0 1 (f 37) (fd 37) ["_law_seed", "_law_signs", "_law_many", "_law_most"] (sp_l_heads K) := by
  refine T.d_l_heads.F.ok sc_l_heads (fun vs H Q E h => ?_) (fun cdv A outer s H vs Q E hr h => ?_)
  · obtain ⟨sd, m, sg, rfl, _⟩ := h
    rfl
  · obtain ⟨sd, m, sg, rfl, h9, hg1, hg2, k⟩ := h
    have hgl : sg.length ≤ sizeLine := small_line (by omega)
    have hg0 : (0 : Int) < sg.length := by omega
    refine ⟨_, (pss_cons (ps_if (PW.pt (pw_and (pt_cmpR op_eq (pe_op op_mod (pe_op op_fdiv (pvc 0) pe_int) pe_int) pe_int (nomark _)) (pw_and1 (pt_cmpR op_le (pvl 2) (pvl 3) (nomark _)))))
     (pss_cons (psc 4 sc_l_heads.nd (k_bmL rfl PySem.F.plainAttrs_str PySem.F.slot_str_join PySem.F.type_str_join (k_join rfl) rfl rfl rfl rfl pe_str (pal rfl (pe_comp ["_law_k"] ["_law_seed", "_law_signs", "_law_many", "_law_most", "_law_word", "_law_few", "_law_at", "_law_rest", "_law_heads_here", "#9", "_law_sign"] rfl (show CompSc _ (defScope s_l_heads) ["_law_seed", "_law_signs", "_law_many", "_law_most", "_law_word", "_law_few", "_law_at", "_law_rest", "_law_heads_here", "_law_k", "_law_sign"] ["_law_seed", "_law_signs", "_law_many", "_law_most", "_law_word", "_law_few", "_law_at", "_law_rest", "_law_heads_here", "#9", "_law_sign"] from compOk_is (by decide +kernel)) (pi_range1 rfl T.n_range (pal rfl (pvl 3) pa_nil)) (fun _ _ _ _ _ => (pgl 0 (show (["_law_k", "_law_seed", "_law_signs", "_law_many", "_law_most", "_law_word", "_law_few", "_law_at", "_law_rest", "_law_heads_here", "#9", "_law_sign"] : List Str).Nodup by decide +kernel))) (fun _ _ _ _ _ => pts_nil) (fun _ _ _ _ _ => (pe_ix ix_str (pvc 2) (pe_op op_mod (pe_op op_add (pe_op op_fdiv (pvc 1) pe_int) (pe_op op_mul (pe_op op_mul pe_int (pvl 0)) (pvl 0))) (pe_cB call_len_str T.n_len bt_len rfl (by decide) (by decide) rfl (pal rfl (pvc 2) pa_nil))) (fun _ _ => rfl)))) pa_nil)))
     (pss_one (ps_ret (pe_comp ["_law_k"] ["_law_seed", "_law_signs", "_law_many", "_law_most", "_law_word", "_law_few", "_law_at", "_law_rest", "_law_heads_here", "#9", "_law_sign"] rfl (show CompSc _ (defScope s_l_heads) ["_law_seed", "_law_signs", "_law_many", "_law_most", "_law_word", "_law_few", "_law_at", "_law_rest", "_law_heads_here", "_law_k", "_law_sign"] ["_law_seed", "_law_signs", "_law_many", "_law_most", "_law_word", "_law_few", "_law_at", "_law_rest", "_law_heads_here", "#9", "_law_sign"] from compOk_is (by decide +kernel)) (pi_range1 rfl T.n_range (pal rfl (pvl 2) pa_nil)) (fun _ _ _ _ _ => (pgl 0 (show (["_law_k", "_law_seed", "_law_signs", "_law_many", "_law_most", "_law_word", "_law_few", "_law_at", "_law_rest", "_law_heads_here", "#9", "_law_sign"] : List Str).Nodup by decide +kernel))) (fun _ _ _ _ _ => pts_nil) (fun _ _ _ _ _ => (pe_slice sl_str (pvc 5) po_none (po_some (pe_op op_add (pvl 0) pe_int))))))))
     pss_nil)
     (pss_cons (psl 5 sc_l_heads.nd (pe_op op_add pe_int (pe_op op_mod (pvc 0) (pvl 3))))
     (pss_cons (psl 6 sc_l_heads.nd (pe_op op_mod (pe_op op_fdiv (pvc 0) pe_int) (pvl 5)))
     (pss_cons (psl 7 sc_l_heads.nd (pe_ix ix_str (pvc 1) (pe_op op_mod (pe_op op_fdiv (pvc 0) pe_int) (pe_cB call_len_str T.n_len bt_len rfl (by decide) (by decide) rfl (pal rfl (pvc 1) pa_nil))) (fun _ _ => rfl)))
     (pss_cons (psl 8 sc_l_heads.nd (pe_lst pa_nil))
     (pss_cons (ps_for PassesOwn.never rfl (pi_range1 rfl T.n_range (pal rfl (pvl 2) pa_nil)) (pgl 9 sc_l_heads.nd)
     (pss_cons (psl 10 sc_l_heads.nd (pe_ix ix_str (pvc 1) (pe_op op_mod (pe_op op_add (pe_op op_fdiv (pvc 0) pe_int) (pe_op op_mul pe_int (pvl 9))) (pe_cB call_len_str T.n_len bt_len rfl (by decide) (by decide) rfl (pal rfl (pvc 1) pa_nil))) (fun _ _ => rfl)))
     (pss_one (ps_expr (k_bmL rfl PySem.F.plainAttrs_list PySem.F.slot_list_append PySem.F.type_list_append mt_append rfl rfl rfl rfl (pvl 8) (pal rfl (pe_op op_add_str (pe_op op_add_str (pe_op op_rep_str (pvl 7) (pvl 6)) (pvl 10)) (pe_op op_rep_str (pvl 7) (pe_op op_sub (pe_op op_sub (pvl 5) (pvl 6)) pe_int))) pa_nil))))))
     (pss_one (ps_ret (pvl 8))))))))), ?_⟩
    ((try dsimp only [cxOf, L2.Cx.inTry, L2.Cx.inHand]); simp only [tDIn, tDNotIn, tDGet, sDPut, rIndexS, iItems, rStarts3, rAdd, tNever, tCIn, tCGet, L2.start, tSeq, tNext, tIfS, tRet, tRetN, tAsg, tDrop, gName, tVar, tC, tOp, tUn, tCall, tCB, tCons, tNil, tTest, tB, tNot, tAnd, tOr, tAndV, tOrV, tNotV, tIf, tChain, tLst, tTup, tBM, tBM0, rI, rI0, rU, rEq, rNe, scal, tComp, iStr, iList, iTup, iRng1, iRng2, tYes, rIsP, rAll, rLenS, rLenV, rListOf, rTupleOf, tDisp, tPairs, tSl, tPart, tNoPart, rSlS, rSlL, rFind, rStarts, rIntT, rStrA, rRepS, tCallX, tRaise, tRaiseI, tTry, tAs, offE, tXF, sXset, tMethX, tMakeX, rIsX, tFld, sFld, tMeth, rSortD, rDPop, tDNewK, 
  List.map_cons, List.map_nil, List.cons_append, List.nil_append, List.length_cons, List.length_nil, List.getElem?_cons_zero, List.getElem?_cons_succ, Option.some.injEq, exists_eq_left', exists_eq_left, List.set_cons_zero, List.set_cons_succ, List.cons.injEq, and_true, true_and, V.int.injEq, V.str.injEq, V.bl.injEq, V.ref.injEq, V.ty.injEq, exists_and_left, exists_and_right, List.append_nil, reduceCtorEq, false_and, and_false, exists_false, or_false, false_or, decide_true, decide_false, Bool.not_true, Bool.not_false, if_true, if_false, Bool.false_eq_true, ite_true, ite_false, and_assoc, Nat.reduceAdd, Nat.reduceSub, List.replicate_succ, List.replicate_zero, Nat.zero_add, Nat.add_zero, Nat.sub_self])
    refine ⟨⟨by decide, by decide⟩, by decide, ?_⟩
    by_cases h4 : sd / 43264 % 4 = 3
    · rw [if_pos (decide_eq_true h4), if_pos (decide_eq_true (by omega))]
      refine ⟨rfl, by decide, by decide, comp_of (as := List.range 12) (g := fun i => V.int (0 + (i : Int))) walk_range (small_line (by decide)) (fun _ _ => trivial) (fun _ => true) (fun i => sgn (ch sg (sd / 1664 + 5 * (0 + (i : Int)) * (0 + (i : Int))))) (fun _ H1 Q _ _ q => q H1 (Same.refl _)) (fun i H1 Q hi _ _ q => ?_) (fun H1 s1 D hD => ?_)⟩
      · have hi := List.mem_range.mp hi
        ((try dsimp only [cxOf, L2.Cx.inTry, L2.Cx.inHand]); simp only [tDIn, tDNotIn, tDGet, sDPut, rIndexS, iItems, rStarts3, rAdd, tNever, tCIn, tCGet, L2.start, tSeq, tNext, tIfS, tRet, tRetN, tAsg, tDrop, gName, tVar, tC, tOp, tUn, tCall, tCB, tCons, tNil, tTest, tB, tNot, tAnd, tOr, tAndV, tOrV, tNotV, tIf, tChain, tLst, tTup, tBM, tBM0, rI, rI0, rU, rEq, rNe, scal, tComp, iStr, iList, iTup, iRng1, iRng2, tYes, rIsP, rAll, rLenS, rLenV, rListOf, rTupleOf, tDisp, tPairs, tSl, tPart, tNoPart, rSlS, rSlL, rFind, rStarts, rIntT, rStrA, rRepS, tCallX, tRaise, tRaiseI, tTry, tAs, offE, tXF, sXset, tMethX, tMakeX, rIsX, tFld, sFld, tMeth, rSortD, rDPop, tDNewK, 
  List.map_cons, List.map_nil, List.cons_append, List.nil_append, List.length_cons, List.length_nil, List.getElem?_cons_zero, List.getElem?_cons_succ, Option.some.injEq, exists_eq_left', exists_eq_left, List.set_cons_zero, List.set_cons_succ, List.cons.injEq, and_true, true_and, V.int.injEq, V.str.injEq, V.bl.injEq, V.ref.injEq, V.ty.injEq, exists_and_left, exists_and_right, List.append_nil, reduceCtorEq, false_and, and_false, exists_false, or_false, false_or, decide_true, decide_false, Bool.not_true, Bool.not_false, if_true, if_false, Bool.false_eq_true, ite_true, ite_false, and_assoc, Nat.reduceAdd, Nat.reduceSub, List.replicate_succ, List.replicate_zero, Nat.zero_add, Nat.add_zero, Nat.sub_self])
        refine ⟨⟨by decide, by decide⟩, .inl ⟨by decide, by decide⟩, .inr ⟨by omega, by omega⟩, hgl, hg0, ?_⟩
        refine ixS_of hgl (Int.emod_nonneg _ (by omega)) (Int.emod_lt_of_pos _ hg0) fun c hc => ?_
        have e := ch_get hg1 (sd / 1664 + 5 * (0 + (i : Int)) * (0 + (i : Int)))
        obtain rfl : c = ch sg (sd / 1664 + 5 * (0 + (i : Int)) * (0 + (i : Int))) := Option.some.inj (hc.symm.trans e)
        exact q H1 (Same.refl _)
      · rw [filter_yes]
        have ecs : (List.range 12).map (fun (i : Nat) => sgn (ch sg (sd / 1664 + 5 * (0 + (i : Int)) * (0 + (i : Int))))) = ((List.range 12).map fun (i : Nat) => ch sg (sd / 1664 + 5 * (0 + (i : Int)) * (0 + (i : Int)))).map sgn := by rw [List.map_map]; rfl
        rw [ecs]
        have hlc : ((List.range 12).map fun (i : Nat) => ch sg (sd / 1664 + 5 * (0 + (i : Int)) * (0 + (i : Int)))).length = 12 := by rw [List.length_map, List.length_range]
        have hmc : ∀ c ∈ (List.range 12).map fun (i : Nat) => ch sg (sd / 1664 + 5 * (0 + (i : Int)) * (0 + (i : Int))), c ∈ sg.cps.toList := fun c hc => by
          obtain ⟨i, _, rfl⟩ := List.mem_map.mp hc
          exact ch_mem hg1 _
        generalize ((List.range 12).map fun (i : Nat) => ch sg (sd / 1664 + 5 * (0 + (i : Int)) * (0 + (i : Int)))) = cs at *
        have s2 := s1.new hD (HO.lst (cs.map sgn))
        refine joinS_of (.of upd_same) (by omega) ⟨by omega, by omega, ?_⟩
        generalize upd H1 D (HO.lst (cs.map sgn)) = H2 at *
        rw [Int.toNat_natCast]
        refine comp_of (as := List.range m) (g := fun i => V.int (0 + (i : Int))) walk_range (by rw [List.length_range]; exact small_line (by omega)) (fun _ _ => trivial) (fun _ => true) (fun i => .str ⟨(cs.take (i + 1)).toArray⟩) (fun _ H1 Q _ _ q => q H1 (Same.refl _)) (fun i H3 Q hi _ _ q => ?_) (fun H3 s3 D3 hD3 => ?_)
        · ((try dsimp only [cxOf, L2.Cx.inTry, L2.Cx.inHand]); simp only [tDIn, tDNotIn, tDGet, sDPut, rIndexS, iItems, rStarts3, rAdd, tNever, tCIn, tCGet, L2.start, tSeq, tNext, tIfS, tRet, tRetN, tAsg, tDrop, gName, tVar, tC, tOp, tUn, tCall, tCB, tCons, tNil, tTest, tB, tNot, tAnd, tOr, tAndV, tOrV, tNotV, tIf, tChain, tLst, tTup, tBM, tBM0, rI, rI0, rU, rEq, rNe, scal, tComp, iStr, iList, iTup, iRng1, iRng2, tYes, rIsP, rAll, rLenS, rLenV, rListOf, rTupleOf, tDisp, tPairs, tSl, tPart, tNoPart, rSlS, rSlL, rFind, rStarts, rIntT, rStrA, rRepS, tCallX, tRaise, tRaiseI, tTry, tAs, offE, tXF, sXset, tMethX, tMakeX, rIsX, tFld, sFld, tMeth, rSortD, rDPop, tDNewK, 
  List.map_cons, List.map_nil, List.cons_append, List.nil_append, List.length_cons, List.length_nil, List.getElem?_cons_zero, List.getElem?_cons_succ, Option.some.injEq, exists_eq_left', exists_eq_left, List.set_cons_zero, List.set_cons_succ, List.cons.injEq, and_true, true_and, V.int.injEq, V.str.injEq, V.bl.injEq, V.ref.injEq, V.ty.injEq, exists_and_left, exists_and_right, List.append_nil, reduceCtorEq, false_and, and_false, exists_false, or_false, false_or, decide_true, decide_false, Bool.not_true, Bool.not_false, if_true, if_false, Bool.false_eq_true, ite_true, ite_false, and_assoc, Nat.reduceAdd, Nat.reduceSub, List.replicate_succ, List.replicate_zero, Nat.zero_add, Nat.add_zero, Nat.sub_self])
          refine ⟨small_line (by show cs.toArray.size ≤ _; rw [List.size_toArray]; omega), ?_⟩
          have e : cutL cs none (some (0 + (i : Int) + 1)) = cs.take (i + 1) := by
            rw [show (0 + (i : Int) + 1) = ((i + 1 : Nat) : Int) by omega, cut_to]
          have e2 : cutL (⟨cs.toArray⟩ : Str).cps.toList none (some (0 + (i : Int) + 1)) = cs.take (i + 1) := e
          first
            | (rw [e2]; exact q H3 (Same.refl _))
            | (rw [e]; exact q H3 (Same.refl _))
        · rw [filter_yes]
          have lt : ∀ i, i < m → (cs.take (i + 1)).length = i + 1 := fun i hi => by rw [List.length_take, hlc]; omega
          refine k _ D3 ((List.range m).map fun i => ⟨(cs.take (i + 1)).toArray⟩) ((s2.trans s3).new hD3 _) (by rw [upd_same, List.map_map]; rfl) ⟨by rw [List.length_map, List.length_range], fun _ => nodup_map_range fun i j hi hj e => ?_, fun z hz => ?_⟩
          · have e2 := congrArg List.length (str_eq_iff.mp e)
            have e3 : (cs.take (i + 1)).length = (cs.take (j + 1)).length := e2
            rw [lt i hi, lt j hj] at e3
            omega
          · obtain ⟨i, hi, rfl⟩ := List.mem_map.mp hz
            have hi := List.mem_range.mp hi
            have hl : (⟨(cs.take (i + 1)).toArray⟩ : Str).length = i + 1 := by
              show (cs.take (i + 1)).toArray.size = _
              rw [List.size_toArray, lt i hi]
            exact ⟨by omega, by omega, fun c hc => hmc c (List.mem_of_mem_take hc)⟩
    · rw [if_neg (by simpa using h4)]
      refine ⟨by decide, ⟨by decide, by decide⟩, by omega, ⟨by decide, by decide⟩, hgl, hg0, ?_⟩
      refine ixS_of hgl (Int.emod_nonneg _ (by omega)) (Int.emod_lt_of_pos _ hg0) fun c hc => ⟨small_line (by decide), fun p hp => ?_⟩
      have hcl : c ∈ sg.cps.toList := List.mem_of_getElem? hc
      have b1 : 0 ≤ sd % 12 := Int.emod_nonneg _ (by decide)
      have b2 : sd % 12 < 12 := Int.emod_lt_of_pos _ (by decide)
      have b3 : 0 ≤ sd / 12 % (1 + sd % 12) := Int.emod_nonneg _ (by omega)
      have b4 : sd / 12 % (1 + sd % 12) < 1 + sd % 12 := Int.emod_lt_of_pos _ (by omega)
      generalize sd / 12 % (1 + sd % 12) = at0 at *
      generalize sd % 12 = few at *
      have s1 := Same.upd_new hp (HO.lst [])
      have g1 : upd H p (HO.lst []) p = some (.lst []) := upd_same
      generalize upd H p (HO.lst []) = H1 at *
      refine for_in ?_
      ((try dsimp only [cxOf, L2.Cx.inTry, L2.Cx.inHand]); simp only [tDIn, tDNotIn, tDGet, sDPut, rIndexS, iItems, rStarts3, rAdd, tNever, tCIn, tCGet, L2.start, tSeq, tNext, tIfS, tRet, tRetN, tAsg, tDrop, gName, tVar, tC, tOp, tUn, tCall, tCB, tCons, tNil, tTest, tB, tNot, tAnd, tOr, tAndV, tOrV, tNotV, tIf, tChain, tLst, tTup, tBM, tBM0, rI, rI0, rU, rEq, rNe, scal, tComp, iStr, iList, iTup, iRng1, iRng2, tYes, rIsP, rAll, rLenS, rLenV, rListOf, rTupleOf, tDisp, tPairs, tSl, tPart, tNoPart, rSlS, rSlL, rFind, rStarts, rIntT, rStrA, rRepS, tCallX, tRaise, tRaiseI, tTry, tAs, offE, tXF, sXset, tMethX, tMakeX, rIsX, tFld, sFld, tMeth, rSortD, rDPop, tDNewK, 
  List.map_cons, List.map_nil, List.cons_append, List.nil_append, List.length_cons, List.length_nil, List.getElem?_cons_zero, List.getElem?_cons_succ, Option.some.injEq, exists_eq_left', exists_eq_left, List.set_cons_zero, List.set_cons_succ, List.cons.injEq, and_true, true_and, V.int.injEq, V.str.injEq, V.bl.injEq, V.ref.injEq, V.ty.injEq, exists_and_left, exists_and_right, List.append_nil, reduceCtorEq, false_and, and_false, exists_false, or_false, false_or, decide_true, decide_false, Bool.not_true, Bool.not_false, if_true, if_false, Bool.false_eq_true, ite_true, ite_false, and_assoc, Nat.reduceAdd, Nat.reduceSub, List.replicate_succ, List.replicate_zero, Nat.zero_add, Nat.add_zero, Nat.sub_self])
      refine ⟨by omega, by omega, ?_⟩
      rw [Int.toNat_natCast]
      refine ForW.of walk_range (fun j σ H' => (∃ v9 v10, σ = [some (V.int sd), some (V.str sg), some (V.int (m : Int)), some (V.int 12), none, some (V.int (1 + few)), some (V.int at0), some (V.str ⟨#[c]⟩), some (V.ref p), v9, v10]) ∧ H' p = some (.lst (((List.range j).map (hdS sg sd c at0 few)).map V.str)) ∧ Same H H') ⟨⟨none, none, rfl⟩, g1, s1⟩ (fun _ _ _ _ _ => trivial) ?_ ?_
      · rintro j x σ H2 hx ⟨⟨v9, v10, rfl⟩, g2, s2⟩
        obtain ⟨hj, rfl⟩ := range_item hx
        ((try dsimp only [cxOf, L2.Cx.inTry, L2.Cx.inHand]); simp only [tDIn, tDNotIn, tDGet, sDPut, rIndexS, iItems, rStarts3, rAdd, tNever, tCIn, tCGet, L2.start, tSeq, tNext, tIfS, tRet, tRetN, tAsg, tDrop, gName, tVar, tC, tOp, tUn, tCall, tCB, tCons, tNil, tTest, tB, tNot, tAnd, tOr, tAndV, tOrV, tNotV, tIf, tChain, tLst, tTup, tBM, tBM0, rI, rI0, rU, rEq, rNe, scal, tComp, iStr, iList, iTup, iRng1, iRng2, tYes, rIsP, rAll, rLenS, rLenV, rListOf, rTupleOf, tDisp, tPairs, tSl, tPart, tNoPart, rSlS, rSlL, rFind, rStarts, rIntT, rStrA, rRepS, tCallX, tRaise, tRaiseI, tTry, tAs, offE, tXF, sXset, tMethX, tMakeX, rIsX, tFld, sFld, tMeth, rSortD, rDPop, tDNewK, 
  List.map_cons, List.map_nil, List.cons_append, List.nil_append, List.length_cons, List.length_nil, List.getElem?_cons_zero, List.getElem?_cons_succ, Option.some.injEq, exists_eq_left', exists_eq_left, List.set_cons_zero, List.set_cons_succ, List.cons.injEq, and_true, true_and, V.int.injEq, V.str.injEq, V.bl.injEq, V.ref.injEq, V.ty.injEq, exists_and_left, exists_and_right, List.append_nil, reduceCtorEq, false_and, and_false, exists_false, or_false, false_or, decide_true, decide_false, Bool.not_true, Bool.not_false, if_true, if_false, Bool.false_eq_true, ite_true, ite_false, and_assoc, Nat.reduceAdd, Nat.reduceSub, List.replicate_succ, List.replicate_zero, Nat.zero_add, Nat.add_zero, Nat.sub_self])
        refine ⟨⟨by decide, by decide⟩, .inl ⟨by decide, by decide⟩, hgl, hg0, ?_⟩
        refine ixS_of hgl (Int.emod_nonneg _ (by omega)) (Int.emod_lt_of_pos _ hg0) fun d hd => ?_
        obtain rfl : d = ch sg (sd / 1664 + 5 * (0 + (j : Int))) := Option.some.inj (hd.symm.trans (ch_get hg1 _))
        unfold sgn
        ((try dsimp only [cxOf, L2.Cx.inTry, L2.Cx.inHand]); simp only [tDIn, tDNotIn, tDGet, sDPut, rIndexS, iItems, rStarts3, rAdd, tNever, tCIn, tCGet, L2.start, tSeq, tNext, tIfS, tRet, tRetN, tAsg, tDrop, gName, tVar, tC, tOp, tUn, tCall, tCB, tCons, tNil, tTest, tB, tNot, tAnd, tOr, tAndV, tOrV, tNotV, tIf, tChain, tLst, tTup, tBM, tBM0, rI, rI0, rU, rEq, rNe, scal, tComp, iStr, iList, iTup, iRng1, iRng2, tYes, rIsP, rAll, rLenS, rLenV, rListOf, rTupleOf, tDisp, tPairs, tSl, tPart, tNoPart, rSlS, rSlL, rFind, rStarts, rIntT, rStrA, rRepS, tCallX, tRaise, tRaiseI, tTry, tAs, offE, tXF, sXset, tMethX, tMakeX, rIsX, tFld, sFld, tMeth, rSortD, rDPop, tDNewK, 
  List.map_cons, List.map_nil, List.cons_append, List.nil_append, List.length_cons, List.length_nil, List.getElem?_cons_zero, List.getElem?_cons_succ, Option.some.injEq, exists_eq_left', exists_eq_left, List.set_cons_zero, List.set_cons_succ, List.cons.injEq, and_true, true_and, V.int.injEq, V.str.injEq, V.bl.injEq, V.ref.injEq, V.ty.injEq, exists_and_left, exists_and_right, List.append_nil, reduceCtorEq, false_and, and_false, exists_false, or_false, false_or, decide_true, decide_false, Bool.not_true, Bool.not_false, if_true, if_false, Bool.false_eq_true, ite_true, ite_false, and_assoc, Nat.reduceAdd, Nat.reduceSub, List.replicate_succ, List.replicate_zero, Nat.zero_add, Nat.add_zero, Nat.sub_self])
        refine ⟨.inl ⟨rfl, _, .of g2⟩, mulOk_one c b3 (by omega), small_line ?_, mulOk_one c (by omega) (by omega), small_line ?_, p, _, _, rfl, rfl, g2, ?_, ⟨_, rfl⟩, ?_, s2.set hp _⟩
        · rw [mul_len]
          show at0.toNat + 1 ≤ _
          omega
        · rw [app_len, mul_len, mul_len]
          show at0.toNat + 1 + _ ≤ _
          omega
        · rw [List.length_map, List.length_map, List.length_range, sizeLine_eq]
          omega
        · rw [upd_same, List.range_succ, List.map_append, List.map_append]
          rfl
      · rintro σ H2 ⟨⟨v9, v10, rfl⟩, g2, s2⟩
        rw [rangeV_len] at g2
        ((try dsimp only [cxOf, L2.Cx.inTry, L2.Cx.inHand]); simp only [tDIn, tDNotIn, tDGet, sDPut, rIndexS, iItems, rStarts3, rAdd, tNever, tCIn, tCGet, L2.start, tSeq, tNext, tIfS, tRet, tRetN, tAsg, tDrop, gName, tVar, tC, tOp, tUn, tCall, tCB, tCons, tNil, tTest, tB, tNot, tAnd, tOr, tAndV, tOrV, tNotV, tIf, tChain, tLst, tTup, tBM, tBM0, rI, rI0, rU, rEq, rNe, scal, tComp, iStr, iList, iTup, iRng1, iRng2, tYes, rIsP, rAll, rLenS, rLenV, rListOf, rTupleOf, tDisp, tPairs, tSl, tPart, tNoPart, rSlS, rSlL, rFind, rStarts, rIntT, rStrA, rRepS, tCallX, tRaise, tRaiseI, tTry, tAs, offE, tXF, sXset, tMethX, tMakeX, rIsX, tFld, sFld, tMeth, rSortD, rDPop, tDNewK, 
  List.map_cons, List.map_nil, List.cons_append, List.nil_append, List.length_cons, List.length_nil, List.getElem?_cons_zero, List.getElem?_cons_succ, Option.some.injEq, exists_eq_left', exists_eq_left, List.set_cons_zero, List.set_cons_succ, List.cons.injEq, and_true, true_and, V.int.injEq, V.str.injEq, V.bl.injEq, V.ref.injEq, V.ty.injEq, exists_and_left, exists_and_right, List.append_nil, reduceCtorEq, false_and, and_false, exists_false, or_false, false_or, decide_true, decide_false, Bool.not_true, Bool.not_false, if_true, if_false, Bool.false_eq_true, ite_true, ite_false, and_assoc, Nat.reduceAdd, Nat.reduceSub, List.replicate_succ, List.replicate_zero, Nat.zero_add, Nat.add_zero, Nat.sub_self])
        exact k _ p _ s2 g2 (hdS_heads hg1 hcl b3 b4 b2 h9)
noncomputable def Nam (n : Str) : Prop := 1 ≤ n.length ∧ n.length ≤ 12 ∧ ∀ c ∈ n.cps.toList, c ∈ letters.cps.toList
theorem Nam.wrd {n : Str} (h : Nam n) : Wrd n := ⟨h.1, h.2.1, fun c hc => by rw [PySem.W.KT.app_list]; exact List.mem_append_left _ (h.2.2 c hc)⟩
theorem wrd_al {n : Str} (h : 1 ≤ n.length ∧ n.length ≤ 12 ∧ ∀ c ∈ n.cps.toList, c ∈ al36.cps.toList) : Wrd n := ⟨h.1, h.2.1, fun c hc => by rw [← signs36_is]; exact h.2.2 c hc⟩
theorem al_lt : ∀ c ∈ al36.cps.toList, c < 1114112 := by decide +kernel
theorem ltr_lt : ∀ c ∈ letters.cps.toList, c < 1114112 := by decide +kernel
noncomputable def Wd (H : Hp) (d : Addr) (ns kds : List Str) : Prop := ∃ (kvs : List (Key × V)) (l w : Addr) (b : Int) (xs : List V) (ws : List Str), H d = some (.dK kvs) ∧ valV kvs (.inr "fields") = some (.ref l) ∧ valV kvs (.inr "words") = some (.ref w) ∧ valV kvs (.inr "base") = some (.int b) ∧
  H l = some (.lst xs) ∧ FldsK H xs ns kds ∧ (∀ kd ∈ kds, kd = wordS ∨ kd = kdN) ∧ 1 ≤ xs.length ∧ xs.length ≤ 8 ∧ H w = some (.lst (ws.map V.str)) ∧ 1 ≤ ws.length ∧ ws.length ≤ 60 ∧ (∀ n ∈ ns, Nam n) ∧ (∀ z ∈ ws, Wrd z) ∧ -(9 * 10 ^ 59) ≤ b ∧ b ≤ 9 * 10 ^ 59
theorem Wd.mono {H H' : Hp} {d : Addr} {ns kds : List Str} (s : Same H H') (h : Wd H d ns kds) : Wd H' d ns kds := by
  obtain ⟨kvs, l, w, b, xs, ws, h1, h2, h3, h4, h5, h6, h7, h8, h9, h10, h11⟩ := h
  exact ⟨kvs, l, w, b, xs, ws, s _ _ h1, h2, h3, h4, s _ _ h5, h6.mono s, h7, h8, h9, s _ _ h10, h11⟩
theorem wget {H : Hp} {d : Addr} {kvs : List (Key × V)} {z : Str} {v : V} (h : H d = some (.dK kvs)) (e : valV kvs (.inr z) = some v) : DGet H d (.str z) (some v) := by
  have := DGet.k (k := .inr z) h
  rwa [e] at this
noncomputable def sp_l_world (K : PySem.W.Frag) : Sp := fun vs H Q _ => ∃ (a : Addr) (ns0 : List Int), vs = [.ref a] ∧ SqL K H a (ns0.map V.int) ∧ ∀ H' d ns kds, Same H H' → Wd H' d ns kds → Q (.ref d) H'
theorem ok_l_world (T : Txt w K mg f fd) : FnOk P w K mg base CX0 2 (f 38) (fd 38) ["_law_script"] (sp_l_world K) := by
  refine T.d_l_world.F.ok sc_l_world (fun vs H Q E h => ?_) (fun cdv A outer s H vs Q E hr h => ?_)
  · obtain ⟨a, ns0, rfl, _⟩ := h
    rfl
  · obtain ⟨a, ns0, rfl, hs, k⟩ := h
    refine ⟨_, (pss_cons (psc 1 sc_l_world.nd (pe_defL T.d_l_mix (ok_l_mix T) (hr.mono (by decide)) rfl (by decide) rfl (pal rfl (pe_defL T.d_l_cell_at (ok_l_cell_at T) (hr.mono (by decide)) rfl (by decide) rfl (pal rfl (pvl 0) (pal rfl pe_int pa_nil))) (pal rfl pe_int pa_nil))))
     (pss_cons (psl 2 sc_l_world.nd (pe_op op_add pe_int (pe_op op_mod (pvc 1) pe_int)))
     (pss_cons (psc 3 sc_l_world.nd (pe_defL T.d_l_heads (ok_l_heads T) (hr.mono (by decide)) rfl (by decide) rfl (pal rfl (pe_defL T.d_l_mix (ok_l_mix T) (hr.mono (by decide)) rfl (by decide) rfl (pal rfl (pvc 1) (pal rfl pe_int pa_nil))) (pal rfl pe_str (pal rfl (pvl 2) (pal rfl pe_int pa_nil))))))
     (pss_cons (ps_comp ["_law_k"] ["_law_script", "_law_seed", "_law_many", "_law_names", "_law_fields", "_law_words", "_law_base"] rfl (show CompSc _ (defScope s_l_world) ["_law_script", "_law_seed", "_law_many", "_law_names", "_law_fields", "_law_words", "_law_base"] ["_law_script", "_law_seed", "_law_many", "_law_names", "_law_fields", "_law_words", "_law_base"] from compOk_is (by decide +kernel)) sc_l_world.nd (i := 4) rfl rfl (pi_range1 rfl T.n_range (pal rfl (pvl 2) pa_nil)) (fun _ _ _ _ _ => (pgl 0 (show (["_law_k", "_law_script", "_law_seed", "_law_many", "_law_names", "_law_fields", "_law_words", "_law_base"] : List Str).Nodup by decide +kernel))) (fun _ _ _ _ _ => pts_nil) (fun _ _ _ _ _ => (pe_tup (pal rfl (pe_ix (k_ixL rfl) (pvc 4) (pvl 0) (fun _ _ => rfl)) (pal rfl (pe_ix (k_ixL rfl) (pe_lst (pal rfl pe_str (pal rfl pe_str pa_nil))) (pe_op op_mod (pe_defL T.d_l_mix (ok_l_mix T) (hr.mono (by decide)) rfl (by decide) rfl (pal rfl (pvc 2) (pal rfl (pe_op op_add (pvl 0) pe_int) pa_nil))) pe_int) (fun _ _ => rfl)) pa_nil)))))
     (pss_cons (psl 5 sc_l_world.nd (pe_defL T.d_l_heads (ok_l_heads T) (hr.mono (by decide)) rfl (by decide) rfl (pal rfl (pe_defL T.d_l_mix (ok_l_mix T) (hr.mono (by decide)) rfl (by decide) rfl (pal rfl (pvc 1) (pal rfl pe_int pa_nil))) (pal rfl pe_str (pal rfl pe_int (pal rfl pe_int pa_nil))))))
     (pss_cons (ps_if (pt_cmpR op_eq (pe_op op_mod (pe_op op_fdiv (pvc 1) pe_int) pe_int) pe_int (nomark _))
     (pss_one (psl 5 sc_l_world.nd (pe_op op_cat (pe_slice (k_slL rfl) (pvc 3) po_none (po_some pe_int)) (pe_slice (k_slL rfl) (pvl 5) po_none (po_some pe_int)))))
     pss_nil)
     (pss_cons (psl 6 sc_l_world.nd (pe_ix (k_ixL rfl) (pe_lst (pal rfl pe_int (pal rfl (pe_op op_mul pe_int (pe_op op_pow pe_int pe_int)) (pal rfl (pe_op op_sub pe_int (pe_op op_mul pe_int (pe_op op_pow pe_int pe_int))) (pal rfl pe_int pa_nil))))) (pe_op op_mod (pe_op op_fdiv (pvc 1) pe_int) pe_int) (fun _ _ => rfl)))
     (pss_one (ps_ret (pe_disp (pps_cons pe_str (pvl 4) (pps_cons pe_str (pvl 5) (pps_cons pe_str (pvl 6) pps_nil))) rfl rfl (List.cons_ne_nil _ _) (by show 3 ≤ 15; decide))))))))))), ?_⟩
    ((try dsimp only [cxOf, L2.Cx.inTry, L2.Cx.inHand]); simp only [iItems, rStarts3, rAdd, tNever, tCIn, tCGet, L2.start, tSeq, tNext, tIfS, tRet, tRetN, tAsg, tDrop, gName, tVar, tC, tOp, tUn, tCall, tCB, tCons, tNil, tTest, tB, tNot, tAnd, tOr, tAndV, tOrV, tNotV, tIf, tChain, tLst, tTup, tBM, tBM0, rI, rI0, rU, rEq, rNe, scal, tComp, iStr, iList, iTup, iRng1, iRng2, tYes, rIsP, rAll, rLenS, rLenV, rListOf, rTupleOf, tDisp, tPairs, tSl, tPart, tNoPart, rSlS, rSlL, rFind, rStarts, rIntT, rStrA, rRepS, tCallX, tRaise, tRaiseI, tTry, tAs, offE, tXF, sXset, tMethX, tMakeX, rIsX, tFld, sFld, tMeth, rSortD, rDPop, tDNewK, tDIn, tDNotIn, tDGet, sDPut, rIndexS, tStop, gSub, 
  List.map_cons, List.map_nil, List.cons_append, List.nil_append, List.length_cons, List.length_nil, List.getElem?_cons_zero, List.getElem?_cons_succ, Option.some.injEq, exists_eq_left', exists_eq_left, List.set_cons_zero, List.set_cons_succ, List.cons.injEq, and_true, true_and, V.int.injEq, V.str.injEq, V.bl.injEq, V.ref.injEq, V.ty.injEq, exists_and_left, exists_and_right, List.append_nil, reduceCtorEq, false_and, and_false, exists_false, or_false, false_or, decide_true, decide_false, Bool.not_true, Bool.not_false, if_true, if_false, Bool.false_eq_true, ite_true, ite_false, and_assoc, Nat.reduceAdd, Nat.reduceSub, List.replicate_succ, List.replicate_zero, Nat.zero_add, Nat.add_zero, Nat.sub_self])
    refine ⟨a, ns0, _, rfl, hs, by decide, fun v0 => ⟨_, _, rfl, ?_⟩⟩
    generalize mixI v0 1 = sd at *
    refine ⟨_, rfl, by decide, _, _, rfl, ?_⟩
    obtain ⟨m, hm⟩ : ∃ m : Nat, 1 + sd % 8 = (m : Int) := ⟨(1 + sd % 8).toNat, by omega⟩
    rw [hm]
    have hm1 : 1 ≤ m ∧ m ≤ 8 := by omega
    refine ⟨_, m, letters, rfl, by omega, by decide, by decide, fun H1 pn zs s1 hpn hz => ?_⟩
    refine ⟨by omega, by omega, ?_⟩
    rw [Int.toNat_natCast]
    refine comp_walk walk_range (by rw [rangeV_len]; exact small_line (by omega)) (fun j ys H' => Same H1 H' ∧ ys.length = j ∧ ∃ kds : List Str, kds.length = j ∧ (∀ kd ∈ kds, kd = wordS ∨ kd = kdN) ∧ ∀ (i : Nat) x n kd, ys[i]? = some x → zs[i]? = some n → kds[i]? = some kd → ∃ p, x = .ref p ∧ H' p = some (.tup [.str n, .str kd])) ⟨Same.refl _, rfl, [], rfl, (fun _ h => nomatch h), fun _ _ _ _ h => by simp at h⟩ (fun _ _ _ _ _ => trivial) (fun j ys H' q => Nat.le_of_eq q.2.1) (fun j x ys H2 hx q => ?_) (fun ys H2 q D hD => ?_)
    · obtain ⟨hj, rfl⟩ := range_item hx
      obtain ⟨t1, t2, kds, t3, t4, t5⟩ := q
      obtain ⟨n, hn⟩ : ∃ n, zs[j]? = some n := ⟨_, List.getElem?_eq_getElem (by rw [hz.1]; exact hj)⟩
      ((try dsimp only [cxOf, L2.Cx.inTry, L2.Cx.inHand]); simp only [iItems, rStarts3, rAdd, tNever, tCIn, tCGet, L2.start, tSeq, tNext, tIfS, tRet, tRetN, tAsg, tDrop, gName, tVar, tC, tOp, tUn, tCall, tCB, tCons, tNil, tTest, tB, tNot, tAnd, tOr, tAndV, tOrV, tNotV, tIf, tChain, tLst, tTup, tBM, tBM0, rI, rI0, rU, rEq, rNe, scal, tComp, iStr, iList, iTup, iRng1, iRng2, tYes, rIsP, rAll, rLenS, rLenV, rListOf, rTupleOf, tDisp, tPairs, tSl, tPart, tNoPart, rSlS, rSlL, rFind, rStarts, rIntT, rStrA, rRepS, tCallX, tRaise, tRaiseI, tTry, tAs, offE, tXF, sXset, tMethX, tMakeX, rIsX, tFld, sFld, tMeth, rSortD, rDPop, tDNewK, tDIn, tDNotIn, tDGet, sDPut, rIndexS, tStop, gSub, 
  List.map_cons, List.map_nil, List.cons_append, List.nil_append, List.length_cons, List.length_nil, List.getElem?_cons_zero, List.getElem?_cons_succ, Option.some.injEq, exists_eq_left', exists_eq_left, List.set_cons_zero, List.set_cons_succ, List.cons.injEq, and_true, true_and, V.int.injEq, V.str.injEq, V.bl.injEq, V.ref.injEq, V.ty.injEq, exists_and_left, exists_and_right, List.append_nil, reduceCtorEq, false_and, and_false, exists_false, or_false, false_or, decide_true, decide_false, Bool.not_true, Bool.not_false, if_true, if_false, Bool.false_eq_true, ite_true, ite_false, and_assoc, Nat.reduceAdd, Nat.reduceSub, List.replicate_succ, List.replicate_zero, Nat.zero_add, Nat.add_zero, Nat.sub_self])
      rw [Int.zero_add]
      refine ⟨pn, _, _, _, rfl, rfl, .of (t1 _ _ hpn), atI_nat (by rw [List.getElem?_map, hn]; rfl), small_line (by decide), fun p hp => ?_⟩
      have u := Same.upd_new hp (HO.lst [V.str (Str.ofString "word"), V.str (Str.ofString "number")])
      have gp : upd H2 p (HO.lst [V.str (Str.ofString "word"), V.str (Str.ofString "number")]) p = some (.lst [V.str (Str.ofString "word"), V.str (Str.ofString "number")]) := upd_same
      generalize upd H2 p (HO.lst [V.str (Str.ofString "word"), V.str (Str.ofString "number")]) = H3 at *
      refine ⟨by decide, ixL_of (.of gp) (Int.emod_nonneg _ (by decide)) (Int.emod_lt_of_pos _ (by decide)) fun kv hkv => ⟨small_line (by decide), fun r hr => ?_⟩⟩
      obtain ⟨kd, rfl, hk2⟩ : ∃ kd : Str, kv = .str kd ∧ (kd = wordS ∨ kd = kdN) := by
        have h2 : mixI sd ((j : Int) + 30) % 2 = 0 ∨ mixI sd ((j : Int) + 30) % 2 = 1 := by omega
        rcases h2 with h | h
        · rw [h] at hkv
          obtain rfl : V.str (Str.ofString "word") = kv := by simpa using hkv
          exact ⟨_, rfl, .inl rfl⟩
        · rw [h] at hkv
          obtain rfl : V.str (Str.ofString "number") = kv := by simpa using hkv
          exact ⟨_, rfl, .inr rfl⟩
      have u3 := Same.upd_new hr (HO.tup [V.str n, V.str kd])
      refine ⟨⟨_, rfl⟩, (t1.trans u).trans u3, by simp [t2], kds ++ [kd], by simp [t3], fun kd' hk' => ?_, fun i x n' kd' hx' hn' hk' => ?_⟩
      · rcases List.mem_append.mp hk' with h | h
        · exact t4 kd' h
        · rw [List.mem_singleton.mp h]
          exact hk2
      · by_cases hi : i < ys.length
        · rw [List.getElem?_append_left hi] at hx'
          rw [List.getElem?_append_left (by omega)] at hk'
          obtain ⟨p', e1, e2⟩ := t5 i x n' kd' hx' hn' hk'
          exact ⟨p', e1, (u.trans u3) _ _ e2⟩
        · have hil := (List.getElem?_eq_some_iff.mp hx').1
          rw [List.length_append, List.length_singleton] at hil
          obtain rfl : i = ys.length := by omega
          rw [List.getElem?_append_right (Nat.le_refl _), Nat.sub_self] at hx'
          obtain rfl : V.ref r = x := by simpa using hx'
          rw [t2, hn] at hn'
          cases hn'
          rw [List.getElem?_append_right (by omega), t2, t3, Nat.sub_self] at hk'
          obtain rfl : kd = kd' := by simpa using hk'
          exact ⟨r, rfl, upd_same⟩
    · obtain ⟨t1, t2, kds, t3, hkk, t5⟩ := q
      rw [rangeV_len] at t2 t3
      have u3 := Same.upd_new hD (HO.lst ys)
      have gD : upd H2 D (HO.lst ys) D = some (.lst ys) := upd_same
      have hF : FldsK (upd H2 D (HO.lst ys)) ys zs kds := FldsK.mono u3 ⟨hz.1.trans t2.symm, t3.trans t2.symm, hz.2.1 rfl, t5⟩
      have s3 := (s1.trans t1).trans u3
      have hpn3 := (t1.trans u3) _ _ hpn
      generalize upd H2 D (HO.lst ys) = H3 at *
      refine ⟨_, _, rfl, _, 4, al36, rfl, by omega, by decide, by decide, fun H4 pw wz s4 hpw hwz => ⟨sd, rfl, ⟨by decide, by decide⟩, by decide, ?_⟩⟩
      have hnms : ∀ n ∈ zs, Nam n := fun n hn => hz.2.2 n hn
      by_cases c : sd / 8 % 3 = 1
      · rw [if_pos (decide_eq_true c)]
        refine ⟨pn, rfl, _, .of (s4 _ _ hpn3), fun pa hpa => ?_⟩
        have v1 := Same.upd_new hpa (HO.lst (cutV (zs.map V.str) none (some 3)))
        have gpa : upd H4 pa (HO.lst (cutV (zs.map V.str) none (some 3))) pa = some (.lst (cutV (zs.map V.str) none (some 3))) := upd_same
        generalize upd H4 pa (HO.lst (cutV (zs.map V.str) none (some 3))) = H4a at *
        refine ⟨pw, rfl, _, .of (v1 _ _ hpw), fun pc hpc => ?_⟩
        have v2 := Same.upd_new hpc (HO.lst (cutV (wz.map V.str) none (some 1)))
        have gpc : upd H4a pc (HO.lst (cutV (wz.map V.str) none (some 1))) pc = some (.lst (cutV (wz.map V.str) none (some 1))) := upd_same
        generalize upd H4a pc (HO.lst (cutV (wz.map V.str) none (some 1))) = H4b at *
        have ew : cutV (zs.map V.str) none (some 3) ++ cutV (wz.map V.str) none (some 1) = (zs.take 3 ++ wz.take 1).map V.str := by
          rw [show cutV (zs.map V.str) none (some 3) = (zs.map V.str).take 3 from cut_to _ 3, show cutV (wz.map V.str) none (some 1) = (wz.map V.str).take 1 from cut_to _ 1, List.map_append, List.map_take, List.map_take]
        have hwl := hwz.1
        have hzl := hz.1
        have elen : (zs.take 3 ++ wz.take 1).length = min 3 m + 1 := by
          rw [List.length_append, List.length_take, List.length_take, hwl, hzl]
          omega
        have esum : (cutV (zs.map V.str) none (some 3)).length + (cutV (wz.map V.str) none (some 1)).length = (zs.take 3 ++ wz.take 1).length := by
          rw [← List.length_append, ew, List.length_map]
        refine ⟨pa, pc, _, _, rfl, rfl, v2 _ _ gpa, gpc, by rw [esum, elen]; exact small_line (by omega), fun pe hpe => ?_⟩
        rw [ew]
        have v3 := Same.upd_new hpe (HO.lst ((zs.take 3 ++ wz.take 1).map V.str))
        have gpe : upd H4b pe (HO.lst ((zs.take 3 ++ wz.take 1).map V.str)) pe = some (.lst ((zs.take 3 ++ wz.take 1).map V.str)) := upd_same
        generalize upd H4b pe (HO.lst ((zs.take 3 ++ wz.take 1).map V.str)) = H5 at *
        have hwl12 : ∀ z ∈ zs.take 3 ++ wz.take 1, Wrd z := fun z hzm => by
          rcases List.mem_append.mp hzm with h | h
          · exact Nam.wrd (hz.2.2 z (List.mem_of_mem_take h))
          · exact wrd_al (hwz.2.2 z (List.mem_of_mem_take h))
        have sD5 := ((s4.trans v1).trans v2).trans v3
        have s5 := s3.trans sD5
        refine ⟨⟨by decide, by decide, by decide⟩, .inl ⟨by decide +kernel, by decide +kernel⟩, ⟨by decide, by decide, by decide⟩, .inl ⟨by decide +kernel, by decide +kernel⟩, small_line (by decide), fun pb hpb => ⟨sd, rfl, ⟨by decide, by decide⟩, by decide, ?_⟩⟩
        have u6 := Same.upd_new hpb (HO.lst [V.int 0, V.int (9 * 10 ^ Int.toNat 59), V.int (0 - 9 * 10 ^ Int.toNat 59), V.int 98])
        have g6 : upd H5 pb (HO.lst [V.int 0, V.int (9 * 10 ^ Int.toNat 59), V.int (0 - 9 * 10 ^ Int.toNat 59), V.int 98]) pb = some (.lst [V.int 0, V.int (9 * 10 ^ Int.toNat 59), V.int (0 - 9 * 10 ^ Int.toNat 59), V.int 98]) := upd_same
        generalize upd H5 pb (HO.lst [V.int 0, V.int (9 * 10 ^ Int.toNat 59), V.int (0 - 9 * 10 ^ Int.toNat 59), V.int 98]) = H6 at *
        refine ixL_of (.of g6) (Int.emod_nonneg _ (by decide)) (Int.emod_lt_of_pos _ (by decide)) fun bv hbv pd hpd => ⟨upd_same, [(.inr "fields", .ref D), (.inr "words", .ref pe), (.inr "base", bv)], rfl, (by show 3 ≤ 15; decide), ?_⟩
        obtain ⟨b, rfl, hbb⟩ : ∃ b, bv = .int b ∧ -(9 * 10 ^ 59) ≤ b ∧ b ≤ 9 * 10 ^ 59 := by
          rcases (by omega : sd / 24 % 4 = 0 ∨ sd / 24 % 4 = 1 ∨ sd / 24 % 4 = 2 ∨ sd / 24 % 4 = 3) with h | h | h | h <;> rw [h] at hbv <;> exact ⟨_, (Option.some.inj hbv).symm, by decide +kernel, by decide +kernel⟩
        rw [upd_upd]
        have u7 := Same.upd_new hpd (HO.dK (mergeK [] [(.inr "fields", .ref D), (.inr "words", .ref pe), (.inr "base", .int b)]))
        exact k _ pd zs kds ((s5.trans u6).trans u7) ⟨_, D, pe, b, ys, (zs.take 3 ++ wz.take 1), upd_same, rfl, rfl, rfl, (sD5.trans (u6.trans u7)) _ _ gD, FldsK.mono (sD5.trans (u6.trans u7)) hF, hkk, by omega, by omega, (u6.trans u7) _ _ gpe, by omega, by omega, hnms, hwl12, hbb⟩
      · rw [if_neg (by simpa using c)]
        have hwl := hwz.1
        have s5 := s3.trans s4
        have hwl12 : ∀ z ∈ wz, Wrd z := fun z hzm => wrd_al (hwz.2.2 z hzm)
        refine ⟨⟨by decide, by decide, by decide⟩, .inl ⟨by decide +kernel, by decide +kernel⟩, ⟨by decide, by decide, by decide⟩, .inl ⟨by decide +kernel, by decide +kernel⟩, small_line (by decide), fun pb hpb => ⟨sd, rfl, ⟨by decide, by decide⟩, by decide, ?_⟩⟩
        have u6 := Same.upd_new hpb (HO.lst [V.int 0, V.int (9 * 10 ^ Int.toNat 59), V.int (0 - 9 * 10 ^ Int.toNat 59), V.int 98])
        have g6 : upd H4 pb (HO.lst [V.int 0, V.int (9 * 10 ^ Int.toNat 59), V.int (0 - 9 * 10 ^ Int.toNat 59), V.int 98]) pb = some (.lst [V.int 0, V.int (9 * 10 ^ Int.toNat 59), V.int (0 - 9 * 10 ^ Int.toNat 59), V.int 98]) := upd_same
        generalize upd H4 pb (HO.lst [V.int 0, V.int (9 * 10 ^ Int.toNat 59), V.int (0 - 9 * 10 ^ Int.toNat 59), V.int 98]) = H6 at *
        refine ixL_of (.of g6) (Int.emod_nonneg _ (by decide)) (Int.emod_lt_of_pos _ (by decide)) fun bv hbv pd hpd => ⟨upd_same, [(.inr "fields", .ref D), (.inr "words", .ref pw), (.inr "base", bv)], rfl, (by show 3 ≤ 15; decide), ?_⟩
        obtain ⟨b, rfl, hbb⟩ : ∃ b, bv = .int b ∧ -(9 * 10 ^ 59) ≤ b ∧ b ≤ 9 * 10 ^ 59 := by
          rcases (by omega : sd / 24 % 4 = 0 ∨ sd / 24 % 4 = 1 ∨ sd / 24 % 4 = 2 ∨ sd / 24 % 4 = 3) with h | h | h | h <;> rw [h] at hbv <;> exact ⟨_, (Option.some.inj hbv).symm, by decide +kernel, by decide +kernel⟩
        rw [upd_upd]
        have u7 := Same.upd_new hpd (HO.dK (mergeK [] [(.inr "fields", .ref D), (.inr "words", .ref pw), (.inr "base", .int b)]))
        exact k _ pd zs kds ((s5.trans u6).trans u7) ⟨_, D, pw, b, ys, wz, upd_same, rfl, rfl, rfl, (s4.trans (u6.trans u7)) _ _ gD, FldsK.mono (s4.trans (u6.trans u7)) hF, hkk, by omega, by omega, (u6.trans u7) _ _ hpw, by omega, by omega, hnms, hwl12, hbb⟩
inductive Sv
  | lacks (n : Str)
  | is (n : Str) (x : V)
  | bnd (o : Bool) (n : Str) (i : Int)
  | neg (s : Sv)
  | many (o : Bool) (ss : List Sv)
noncomputable def wr : V → Str
  | .int i => ⟨(numS i).toArray⟩
  | .str z => z
  | _ => Str.empty
noncomputable def bw (o : Bool) : Str := if o then "over" else "under"
noncomputable def mw (o : Bool) : Str := if o then "some" else "all"
noncomputable def bm (o : Bool) : Nat := if o then 62 else 60
noncomputable def jt (o : Bool) : Nat := if o then 124 else 38
mutual
noncomputable def txt : Sv → List Nat
  | .lacks n => n.cps.toList ++ [63]
  | .is n x => n.cps.toList ++ 61 :: (wr x).cps.toList
  | .bnd o n i => n.cps.toList ++ bm o :: numS i
  | .neg s => 33 :: txt s
  | .many o [] => [40, jt o, 41]
  | .many o (s :: ss) => 40 :: jt o :: (txt s ++ (more (jt o) ss ++ [41]))
noncomputable def more (j : Nat) : List Sv → List Nat
  | [] => []
  | s :: ss => j :: (txt s ++ more j ss)
end
mutual
noncomputable def Sx (H : Hp) : Sv → V → Prop
  | .lacks n, v => ∃ p, v = .ref p ∧ H p = some (.tup [.str "lacks", .str n])
  | .is n x, v => ∃ p, v = .ref p ∧ H p = some (.tup [.str "is", .str n, x])
  | .bnd o n i, v => ∃ p, v = .ref p ∧ H p = some (.tup [.str (bw o), .str n, .int i])
  | .neg s, v => ∃ p x, v = .ref p ∧ H p = some (.tup [.str "not", x]) ∧ Sx H s x
  | .many o ss, v => ∃ p q xs, v = .ref p ∧ H p = some (.tup [.str (mw o), .ref q]) ∧ H q = some (.tup xs) ∧ Sxs H ss xs
noncomputable def Sxs (H : Hp) : List Sv → List V → Prop
  | [], xs => xs = []
  | s :: ss, xs => ∃ x r, xs = x :: r ∧ Sx H s x ∧ Sxs H ss r
end
mutual
noncomputable def lev : Sv → Nat
  | .neg s => lev s + 1
  | .many _ ss => levs ss + 1
  | .lacks _ => 1
  | .is _ _ => 1
  | .bnd _ _ _ => 1
noncomputable def levs : List Sv → Nat
  | [] => 0
  | s :: ss => max (lev s) (levs ss)
end
mutual
noncomputable def cnt : Sv → Nat
  | .neg s => cnt s + 1
  | .many _ ss => cnts ss + 1
  | .lacks _ => 1
  | .is _ _ => 1
  | .bnd _ _ _ => 1
noncomputable def cnts : List Sv → Nat
  | [] => 0
  | s :: ss => cnt s + cnts ss
end
noncomputable def KdV (kd : Str) (x : V) : Prop := (kd = wordS ∧ ∃ z, x = .str z ∧ Wrd z) ∨ (kd = kdN ∧ ∃ i, x = .int i ∧ i.natAbs < 10 ^ 60)
mutual
noncomputable def Good (ns kds : List Str) : Sv → Prop
  | .lacks n => Nam n ∧ n ∈ ns
  | .is n x => Nam n ∧ ∃ (j : Nat) (kd : Str), ns[j]? = some n ∧ kds[j]? = some kd ∧ KdV kd x
  | .bnd _ n i => Nam n ∧ (∃ j : Nat, ns[j]? = some n ∧ kds[j]? = some kdN) ∧ i.natAbs < 10 ^ 60
  | .neg s => Good ns kds s
  | .many _ ss => Goods ns kds ss
noncomputable def Goods (ns kds : List Str) : List Sv → Prop
  | [] => True
  | s :: ss => Good ns kds s ∧ Goods ns kds ss
end
mutual
noncomputable def raw : Sv → Sv
  | .neg s => .neg (raw s)
  | .many o ss => .many o (raws ss)
  | .lacks n => .lacks n
  | .is n x => .is n (.str (wr x))
  | .bnd o n i => .bnd o n i
noncomputable def raws : List Sv → List Sv
  | [] => []
  | s :: ss => raw s :: raws ss
end
noncomputable def vD : V → PyData
  | .int i => .int i
  | .str z => .str z
  | _ => .none
mutual
noncomputable def dat : Sv → PyData
  | .lacks n => .tuple [.str "lacks", .str n]
  | .is n x => .tuple [.str "is", .str n, vD x]
  | .bnd o n i => .tuple [.str (bw o), .str n, .int i]
  | .neg s => .tuple [.str "not", dat s]
  | .many o ss => .tuple [.str (mw o), .tuple (dats ss)]
noncomputable def dats : List Sv → List PyData
  | [] => []
  | s :: ss => dat s :: dats ss
end
noncomputable def TSame (H H' : Hp) : Prop := ∀ b ys, H b = some (.tup ys) → H' b = some (.tup ys)
theorem _root_.L2.Same.t {H H' : Hp} (s : Same H H') : TSame H H' := fun b ys h => s b _ h
theorem TSame.trans {H H1 H2 : Hp} (s : TSame H H1) (t : TSame H1 H2) : TSame H H2 := fun b ys h => t b ys (s b ys h)
theorem TSame.upd_no {H : Hp} {p : Addr} {u o : HO} (h : H p = some u) (hu : ∀ ys, HO.tup ys ≠ u) : TSame H (upd H p o) := fun b zs hb => by
  have n : b ≠ p := fun z => by subst z; rw [h] at hb; exact hu _ (Option.some.inj hb).symm
  rw [upd_ne n]
  exact hb
mutual
theorem Sx.mono {H H' : Hp} (t : TSame H H') : ∀ {s : Sv} {v : V}, Sx H s v → Sx H' s v
  | .lacks n, v, h => by simp only [Sx] at h ⊢; obtain ⟨p, e, g⟩ := h; exact ⟨p, e, t _ _ g⟩
  | .is n x, v, h => by simp only [Sx] at h ⊢; obtain ⟨p, e, g⟩ := h; exact ⟨p, e, t _ _ g⟩
  | .bnd o n i, v, h => by simp only [Sx] at h ⊢; obtain ⟨p, e, g⟩ := h; exact ⟨p, e, t _ _ g⟩
  | .neg s, v, h => by simp only [Sx] at h ⊢; obtain ⟨p, x, e, g, k⟩ := h; exact ⟨p, x, e, t _ _ g, Sx.mono t k⟩
  | .many o ss, v, h => by simp only [Sx] at h ⊢; obtain ⟨p, q, xs, e, g, g2, k⟩ := h; exact ⟨p, q, xs, e, t _ _ g, t _ _ g2, Sxs.mono t k⟩
theorem Sxs.mono {H H' : Hp} (t : TSame H H') : ∀ {ss : List Sv} {xs : List V}, Sxs H ss xs → Sxs H' ss xs
  | [], xs, h => by simp only [Sxs] at h ⊢; exact h
  | s :: ss, xs, h => by simp only [Sxs] at h ⊢; obtain ⟨x, r, e, g, k⟩ := h; exact ⟨x, r, e, Sx.mono t g, Sxs.mono t k⟩
end
theorem Sxs.len {H : Hp} : ∀ {ss : List Sv} {xs : List V}, Sxs H ss xs → xs.length = ss.length
  | [], xs, h => by simp only [Sxs] at h; rw [h]; rfl
  | s :: ss, xs, h => by simp only [Sxs] at h; obtain ⟨x, r, rfl, _, k⟩ := h; rw [List.length_cons, List.length_cons, k.len]
theorem Sxs.at {H : Hp} : ∀ {ss : List Sv} {xs : List V} {i : Nat} {x : V}, Sxs H ss xs → xs[i]? = some x → ∃ s, ss[i]? = some s ∧ Sx H s x
  | [], xs, i, x, h, e => by simp only [Sxs] at h; subst h; simp at e
  | s :: ss, xs, i, x, h, e => by
    simp only [Sxs] at h
    obtain ⟨y, r, rfl, g, k⟩ := h
    cases i with
    | zero => obtain rfl : y = x := by simpa using e
              exact ⟨s, rfl, g⟩
    | succ i => exact Sxs.at (i := i) k (by simpa using e)
theorem Sxs.snoc {H : Hp} : ∀ {ss : List Sv} {xs : List V} {s : Sv} {x : V}, Sxs H ss xs → Sx H s x → Sxs H (ss ++ [s]) (xs ++ [x])
  | [], xs, s, x, h, g => by simp only [Sxs] at h; subst h; simp only [List.nil_append, Sxs]; exact ⟨x, [], rfl, g, rfl⟩
  | s' :: ss, xs, s, x, h, g => by
    simp only [Sxs, List.cons_append] at h ⊢
    obtain ⟨y, r, rfl, g', k⟩ := h
    exact ⟨y, r ++ [x], rfl, g', Sxs.snoc k g⟩
theorem Goods.at {ns kds : List Str} : ∀ {ss : List Sv} {i : Nat} {s : Sv}, Goods ns kds ss → ss[i]? = some s → Good ns kds s
  | [], i, s, _, e => by simp at e
  | s' :: ss, i, s, h, e => by
    simp only [Goods] at h
    cases i with
    | zero => obtain rfl : s' = s := by simpa using e
              exact h.1
    | succ i => exact Goods.at (i := i) h.2 (by simpa using e)
theorem Goods.snoc {ns kds : List Str} : ∀ {ss : List Sv} {s : Sv}, Goods ns kds ss → Good ns kds s → Goods ns kds (ss ++ [s])
  | [], s, _, g => by simp only [List.nil_append, Goods]; exact ⟨g, trivial⟩
  | s' :: ss, s, h, g => by simp only [List.cons_append, Goods] at h ⊢; exact ⟨h.1, h.2.snoc g⟩
theorem levs_at : ∀ {ss : List Sv} {i : Nat} {s : Sv}, ss[i]? = some s → lev s ≤ levs ss
  | [], i, s, e => by simp at e
  | s' :: ss, i, s, e => by
    simp only [levs]
    cases i with
    | zero => obtain rfl : s' = s := by simpa using e
              omega
    | succ i => have := levs_at (i := i) (ss := ss) (by simpa using e); omega
theorem levs_le : ∀ {ss : List Sv} {b : Nat}, (∀ s ∈ ss, lev s ≤ b) → levs ss ≤ b
  | [], b, _ => by simp only [levs]; omega
  | s :: ss, b, h => by
    simp only [levs]
    have h1 := h s List.mem_cons_self
    have h2 := levs_le (ss := ss) fun s hs => h s (List.mem_cons_of_mem _ hs)
    omega
theorem cnts_snoc : ∀ {ss : List Sv} {s : Sv}, cnts (ss ++ [s]) = cnts ss + cnt s
  | [], s => by simp only [List.nil_append, cnts]; omega
  | s' :: ss, s => by simp only [List.cons_append, cnts]; rw [cnts_snoc]; omega
theorem raws_len : ∀ ss : List Sv, (raws ss).length = ss.length
  | [] => rfl
  | s :: ss => by simp only [raws]; rw [List.length_cons, List.length_cons, raws_len]
theorem raws_snoc : ∀ {ss : List Sv} {s : Sv}, raws (ss ++ [s]) = raws ss ++ [raw s]
  | [], s => by simp only [List.nil_append, raws]
  | s' :: ss, s => by simp only [List.cons_append, raws]; rw [raws_snoc]
theorem raws_at : ∀ {ss : List Sv} {i : Nat} {r : Sv}, (raws ss)[i]? = some r → ∃ s, ss[i]? = some s ∧ r = raw s
  | [], i, s, e => by simp only [raws] at e; simp at e
  | s' :: ss, i, s, e => by
    simp only [raws] at e
    cases i with
    | zero => obtain rfl : raw s' = s := by simpa using e
              exact ⟨s', rfl, rfl⟩
    | succ i => exact raws_at (i := i) (ss := ss) (by simpa using e)
mutual
theorem cnt_pos : ∀ s : Sv, 1 ≤ cnt s
  | .neg s => by simp only [cnt]; omega
  | .many _ ss => by simp only [cnt]; omega
  | .lacks _ => by simp only [cnt]; omega
  | .is _ _ => by simp only [cnt]; omega
  | .bnd _ _ _ => by simp only [cnt]; omega
end
theorem lev_pos : ∀ s : Sv, 1 ≤ lev s
  | .neg s => by simp only [lev]; omega
  | .many _ ss => by simp only [lev]; omega
  | .lacks _ => by simp only [lev]; omega
  | .is _ _ => by simp only [lev]; omega
  | .bnd _ _ _ => by simp only [lev]; omega
theorem len_le_cnts : ∀ ss : List Sv, ss.length ≤ cnts ss
  | [] => by simp only [cnts]; exact Nat.le_refl _
  | s :: ss => by simp only [cnts]; have := cnt_pos s; have := len_le_cnts ss; rw [List.length_cons]; omega
noncomputable def sp_l_sure_value (K : PySem.W.Frag) : Sp := fun vs H Q _ => ∃ (sd : Int) (kd : Str) (d : Addr) (ns kds : List Str), vs = [.int sd, .str kd, .ref d] ∧ Wd H d ns kds ∧ (kd = wordS ∨ kd = kdN) ∧ ∀ v, KdV kd v → Q v H
theorem ok_l_sure_value (T : Txt w K mg f fd) : FnOk P w K mg base CX0 1 (f 39) (fd 39) ["_law_seed", "_law_kind", "_law_world_here"] (sp_l_sure_value K) := by
  refine T.d_l_sure_value.F.ok sc_l_sure_value (fun vs H Q E h => ?_) (fun cdv A outer s H vs Q E hr h => ?_)
  · obtain ⟨sd, kd, d, ns, kds, rfl, _⟩ := h
    rfl
  · obtain ⟨sd, kd, d, ns, kds, rfl, ⟨kvs, l, w', b, xs, ws, h1, h2, h3, h4, h5, h6, h7, h8, h9, h10, h11, h12, h13, h14, hb1, hb2⟩, hk, k⟩ := h
    refine ⟨_, (pss_cons (ps_if (pt_cmpR op_eq (pvl 1) pe_str (nomark _))
     (pss_one (ps_ret (pe_ix (k_ixL rfl) (pe_dget (hu_of hr) (pvl 2) pe_str (fun _ _ => rfl)) (pe_op op_mod (pvl 0) (pe_cB (k_len rfl) T.n_len bt_len rfl (by decide) (by decide) rfl (pal rfl (pe_dget (hu_of hr) (pvl 2) pe_str (fun _ _ => rfl)) pa_nil))) (fun _ _ => rfl))))
     pss_nil)
     (pss_one (ps_ret (pe_op op_sub (pe_op op_add (pe_dget (hu_of hr) (pvl 2) pe_str (fun _ _ => rfl)) (pe_op op_mod (pvl 0) pe_int)) pe_int)))), ?_⟩
    ((try dsimp only [cxOf, L2.Cx.inTry, L2.Cx.inHand]); simp only [iItems, rStarts3, rAdd, tNever, tCIn, tCGet, L2.start, tSeq, tNext, tIfS, tRet, tRetN, tAsg, tDrop, gName, tVar, tC, tOp, tUn, tCall, tCB, tCons, tNil, tTest, tB, tNot, tAnd, tOr, tAndV, tOrV, tNotV, tIf, tChain, tLst, tTup, tBM, tBM0, rI, rI0, rU, rEq, rNe, scal, tComp, iStr, iList, iTup, iRng1, iRng2, tYes, rIsP, rAll, rLenS, rLenV, rListOf, rTupleOf, tDisp, tPairs, tSl, tPart, tNoPart, rSlS, rSlL, rFind, rStarts, rIntT, rStrA, rRepS, tCallX, tRaise, tRaiseI, tTry, tAs, offE, tXF, sXset, tMethX, tMakeX, rIsX, tFld, sFld, tMeth, rSortD, rDPop, tDNewK, tDIn, tDNotIn, tDGet, sDPut, rIndexS, tStop, gSub, 
  List.map_cons, List.map_nil, List.cons_append, List.nil_append, List.length_cons, List.length_nil, List.getElem?_cons_zero, List.getElem?_cons_succ, Option.some.injEq, exists_eq_left', exists_eq_left, List.set_cons_zero, List.set_cons_succ, List.cons.injEq, and_true, true_and, V.int.injEq, V.str.injEq, V.bl.injEq, V.ref.injEq, V.ty.injEq, exists_and_left, exists_and_right, List.append_nil, reduceCtorEq, false_and, and_false, exists_false, or_false, false_or, decide_true, decide_false, Bool.not_true, Bool.not_false, if_true, if_false, Bool.false_eq_true, ite_true, ite_false, and_assoc, Nat.reduceAdd, Nat.reduceSub, List.replicate_succ, List.replicate_zero, Nat.zero_add, Nat.add_zero, Nat.sub_self])
    by_cases hw : kd = wordS
    · rw [if_pos (decide_eq_true hw)]
      refine ⟨_, wget h1 h3, _, wget h1 h3, w', rfl, _, .inl (.of h10), by rw [List.length_map]; omega, ixL_of (.of h10) (Int.emod_nonneg _ (by rw [List.length_map]; omega)) (Int.emod_lt_of_pos _ (by rw [List.length_map]; omega)) fun v hv => k v ?_⟩
      rw [List.getElem?_map] at hv
      obtain ⟨z, hz, rfl⟩ := Option.map_eq_some_iff.mp hv
      exact .inl ⟨hw, z, rfl, h14 z (List.mem_of_getElem? hz)⟩
    · rw [if_neg (by simpa using hw)]
      refine ⟨_, wget h1 h4, by decide, b, rfl, k _ (.inr ⟨hk.resolve_left hw, _, rfl, ?_⟩)⟩
      have e0 := Int.emod_nonneg sd (show (6 : Int) ≠ 0 by decide)
      have e1 := Int.emod_lt_of_pos sd (show (0 : Int) < 6 by decide)
      generalize sd % 6 = t at *
      omega
theorem num_len {n : Int} (h : n.natAbs < 10 ^ 60) : 1 ≤ (numS n).length ∧ (numS n).length ≤ 61 := by
  have l := dgs_len 59 h
  have p : 1 ≤ (dgs n.natAbs).length := List.length_pos_iff.mpr (dgs_ne _)
  unfold numS
  split
  · rw [List.length_cons]; omega
  · omega
noncomputable def isPl : Sv → Bool
  | .lacks _ => true
  | .is _ _ => true
  | .bnd _ _ _ => true
  | _ => false
theorem isPl.lc {s : Sv} (h : isPl s = true) : lev s = 1 ∧ cnt s = 1 := by
  cases s with
  | lacks _ => simp only [lev, cnt]; exact ⟨trivial, trivial⟩
  | is _ _ => simp only [lev, cnt]; exact ⟨trivial, trivial⟩
  | bnd _ _ _ => simp only [lev, cnt]; exact ⟨trivial, trivial⟩
  | neg _ => cases h
  | many _ _ => cases h
noncomputable def sp_l_plain (K : PySem.W.Frag) : Sp := fun vs H Q _ => ∃ (sd : Int) (d : Addr) (ns kds : List Str), vs = [.int sd, .ref d] ∧ Wd H d ns kds ∧ ∀ H' v s, Same H H' → Sx H' s v → Good ns kds s → isPl s = true → Q v H'
theorem ok_l_plain (T : Txt w K mg f fd) : FnOk P w K mg base CX0 2 (f 40) (fd 40) ["_law_seed", "_law_world_here"] (sp_l_plain K) := by
  refine T.d_l_plain.F.ok sc_l_plain (fun vs H Q E h => ?_) (fun cdv A outer s H vs Q E hr h => ?_)
  · obtain ⟨sd, d, ns, kds, rfl, _⟩ := h
    rfl
  · obtain ⟨sd, d, ns, kds, rfl, hW, k⟩ := h
    obtain ⟨kvs, l, w', b, xs, ws, h1, h2, h3, h4, h5, h6, h7, h8, h9, h10, h11, h12, h13, h14⟩ := id hW
    refine ⟨_, (pss_cons (ps_asg (pe_ix (k_ixL rfl) (pe_dget (hu_of hr) (pvl 1) pe_str (fun _ _ => rfl)) (pe_op op_mod (pvl 0) (pe_cB (k_len rfl) T.n_len bt_len rfl (by decide) (by decide) rfl (pal rfl (pe_dget (hu_of hr) (pvl 1) pe_str (fun _ _ => rfl)) pa_nil))) (fun _ _ => rfl)) (k_pgT rfl rfl (pgs_cons (pgl 2 sc_l_plain.nd) (pgs_cons (pgl 3 sc_l_plain.nd) pgs_nil))))
     (pss_cons (psl 4 sc_l_plain.nd (pe_op op_mod (pe_op op_fdiv (pvl 0) pe_int) pe_int))
     (pss_cons (ps_if (pt_cmpR op_eq (pvl 4) pe_int (nomark _))
     (pss_one (ps_ret (pe_tup (pal rfl pe_str (pal rfl (pvl 2) pa_nil)))))
     pss_nil)
     (pss_cons (ps_if (PW.pt (pw_or (pt_cmpR op_eq (pvl 4) pe_int (nomark _)) (pw_or1 (pt_cmpR op_eq (pvl 3) pe_str (nomark _)))))
     (pss_one (ps_ret (pe_tup (pal rfl pe_str (pal rfl (pvl 2) (pal rfl (pe_defL T.d_l_sure_value (ok_l_sure_value T) (hr.mono (by decide)) rfl (by decide) rfl (pal rfl (pe_op op_fdiv (pvl 0) pe_int) (pal rfl (pvl 3) (pal rfl (pvl 1) pa_nil)))) pa_nil))))))
     pss_nil)
     (pss_one (ps_ret (pe_tup (pal rfl (pe_ix (k_ixL rfl) (pe_lst (pal rfl pe_str (pal rfl pe_str pa_nil))) (pe_op op_sub (pvl 4) pe_int) (fun _ _ => rfl)) (pal rfl (pvl 2) (pal rfl (pe_defL T.d_l_sure_value (ok_l_sure_value T) (hr.mono (by decide)) rfl (by decide) rfl (pal rfl (pe_op op_fdiv (pvl 0) pe_int) (pal rfl (pvl 3) (pal rfl (pvl 1) pa_nil)))) pa_nil)))))))))), ?_⟩
    ((try dsimp only [cxOf, L2.Cx.inTry, L2.Cx.inHand]); simp only [iItems, rStarts3, rAdd, tNever, tCIn, tCGet, L2.start, tSeq, tNext, tIfS, tRet, tRetN, tAsg, tDrop, gName, tVar, tC, tOp, tUn, tCall, tCB, tCons, tNil, tTest, tB, tNot, tAnd, tOr, tAndV, tOrV, tNotV, tIf, tChain, tLst, tTup, tBM, tBM0, rI, rI0, rU, rEq, rNe, scal, tComp, iStr, iList, iTup, iRng1, iRng2, tYes, rIsP, rAll, rLenS, rLenV, rListOf, rTupleOf, tDisp, tPairs, tSl, tPart, tNoPart, rSlS, rSlL, rFind, rStarts, rIntT, rStrA, rRepS, tCallX, tRaise, tRaiseI, tTry, tAs, offE, tXF, sXset, tMethX, tMakeX, rIsX, tFld, sFld, tMeth, rSortD, rDPop, tDNewK, tDIn, tDNotIn, tDGet, sDPut, rIndexS, tStop, gSub, 
  List.map_cons, List.map_nil, List.cons_append, List.nil_append, List.length_cons, List.length_nil, List.getElem?_cons_zero, List.getElem?_cons_succ, Option.some.injEq, exists_eq_left', exists_eq_left, List.set_cons_zero, List.set_cons_succ, List.cons.injEq, and_true, true_and, V.int.injEq, V.str.injEq, V.bl.injEq, V.ref.injEq, V.ty.injEq, exists_and_left, exists_and_right, List.append_nil, reduceCtorEq, false_and, and_false, exists_false, or_false, false_or, decide_true, decide_false, Bool.not_true, Bool.not_false, if_true, if_false, Bool.false_eq_true, ite_true, ite_false, and_assoc, Nat.reduceAdd, Nat.reduceSub, List.replicate_succ, List.replicate_zero, Nat.zero_add, Nat.add_zero, Nat.sub_self])
    refine ⟨_, wget h1 h2, _, wget h1 h2, l, rfl, xs, .inl (.of h5), by omega, ixL_of (.of h5) (Int.emod_nonneg _ (by omega)) (Int.emod_lt_of_pos _ (by omega)) fun v hv => ?_⟩
    generalize (sd % (xs.length : Int)).toNat = j at *
    obtain ⟨p, n, kd, e1, e2, e3, e4⟩ := h6.at (List.getElem?_eq_some_iff.mp hv).1
    obtain rfl : v = .ref p := Option.some.inj (hv.symm.trans e1)
    refine ⟨p, _, rfl, .of e4, rfl, ?_⟩
    simp only [gCons, gNil, gName]
    ((try dsimp only [cxOf, L2.Cx.inTry, L2.Cx.inHand]); simp only [iItems, rStarts3, rAdd, tNever, tCIn, tCGet, L2.start, tSeq, tNext, tIfS, tRet, tRetN, tAsg, tDrop, gName, tVar, tC, tOp, tUn, tCall, tCB, tCons, tNil, tTest, tB, tNot, tAnd, tOr, tAndV, tOrV, tNotV, tIf, tChain, tLst, tTup, tBM, tBM0, rI, rI0, rU, rEq, rNe, scal, tComp, iStr, iList, iTup, iRng1, iRng2, tYes, rIsP, rAll, rLenS, rLenV, rListOf, rTupleOf, tDisp, tPairs, tSl, tPart, tNoPart, rSlS, rSlL, rFind, rStarts, rIntT, rStrA, rRepS, tCallX, tRaise, tRaiseI, tTry, tAs, offE, tXF, sXset, tMethX, tMakeX, rIsX, tFld, sFld, tMeth, rSortD, rDPop, tDNewK, tDIn, tDNotIn, tDGet, sDPut, rIndexS, tStop, gSub, 
  List.map_cons, List.map_nil, List.cons_append, List.nil_append, List.length_cons, List.length_nil, List.getElem?_cons_zero, List.getElem?_cons_succ, Option.some.injEq, exists_eq_left', exists_eq_left, List.set_cons_zero, List.set_cons_succ, List.cons.injEq, and_true, true_and, V.int.injEq, V.str.injEq, V.bl.injEq, V.ref.injEq, V.ty.injEq, exists_and_left, exists_and_right, List.append_nil, reduceCtorEq, false_and, and_false, exists_false, or_false, false_or, decide_true, decide_false, Bool.not_true, Bool.not_false, if_true, if_false, Bool.false_eq_true, ite_true, ite_false, and_assoc, Nat.reduceAdd, Nat.reduceSub, List.replicate_succ, List.replicate_zero, Nat.zero_add, Nat.add_zero, Nat.sub_self])
    refine ⟨⟨by decide, by decide⟩, by decide, ?_⟩
    have hk := h7 kd (List.mem_of_getElem? e3)
    have hnm := h13 n (List.mem_of_getElem? e2)
    have w1 : 0 ≤ sd / 8 % 4 := Int.emod_nonneg _ (by decide)
    have w2 : sd / 8 % 4 < 4 := Int.emod_lt_of_pos _ (by decide)
    generalize sd / 8 % 4 = wy at *
    by_cases c0 : wy = 0
    · rw [if_pos (decide_eq_true c0)]
      exact ⟨small_line (by decide), fun q hq => k _ _ (.lacks n) (Same.upd_new hq _) (by simp only [Sx]; exact ⟨q, rfl, upd_same⟩) (by simp only [Good]; exact ⟨hnm, List.mem_of_getElem? e2⟩) rfl⟩
    · rw [if_neg (by simpa using c0)]
      have hdv : CDiv sd 32 := ⟨by decide, by decide⟩
      have isq : CDiv sd 32 ∧ sp_l_sure_value K [V.int (sd / 32), V.str kd, V.ref d] H (fun x H1 => 3 ≤ sizeLine ∧ ∀ (p : Addr), H1 p = none → Q (V.ref p) (upd H1 p (HO.tup [V.str (Str.ofString "is"), V.str n, x]))) E0 :=
        ⟨hdv, _, kd, d, ns, kds, rfl, hW, hk, fun v hv => ⟨small_line (by decide), fun q hq => k _ _ (.is n v) (Same.upd_new hq _) (by simp only [Sx]; exact ⟨q, rfl, upd_same⟩) (by simp only [Good]; exact ⟨hnm, j, kd, e2, e3, hv⟩) rfl⟩⟩
      by_cases c1 : wy = 1
      · rw [if_pos (decide_eq_true c1)]
        exact isq
      · rw [if_neg (by simpa using c1)]
        by_cases c2 : kd = wordS
        · rw [if_pos (decide_eq_true c2)]
          exact isq
        · rw [if_neg (by simpa using c2)]
          have hkn := hk.resolve_left c2
          refine ⟨small_line (by decide), fun q hq => ?_⟩
          have u := Same.upd_new hq (HO.lst [V.str (Str.ofString "under"), V.str (Str.ofString "over")])
          have gq : upd H q (HO.lst [V.str (Str.ofString "under"), V.str (Str.ofString "over")]) q = some (.lst [V.str (Str.ofString "under"), V.str (Str.ofString "over")]) := upd_same
          generalize upd H q (HO.lst [V.str (Str.ofString "under"), V.str (Str.ofString "over")]) = H2 at *
          refine ixL_of (.of gq) (by omega) (by simp; omega) fun fm hfm => ⟨hdv, _, kd, d, ns, kds, rfl, hW.mono u, hk, fun v hv => ⟨small_line (by decide), fun r hr => ?_⟩⟩
          obtain ⟨i, rfl, hi⟩ : ∃ i, v = .int i ∧ i.natAbs < 10 ^ 60 := by
            rcases hv with ⟨z, _⟩ | ⟨_, z⟩
            · exact absurd z c2
            · exact z
          rw [hkn] at e3
          rcases (by omega : wy = 2 ∨ wy = 3) with rfl | rfl
          · obtain rfl : V.str (Str.ofString "under") = fm := by simpa using hfm
            exact k _ _ (.bnd false n i) (u.new hr _) (by simp only [Sx]; exact ⟨r, rfl, upd_same⟩) (by simp only [Good]; exact ⟨hnm, ⟨j, e2, e3⟩, hi⟩) rfl
          · obtain rfl : V.str (Str.ofString "over") = fm := by simpa using hfm
            exact k _ _ (.bnd true n i) (u.new hr _) (by simp only [Sx]; exact ⟨r, rfl, upd_same⟩) (by simp only [Good]; exact ⟨hnm, ⟨j, e2, e3⟩, hi⟩) rfl
noncomputable def sp_l_written (K : PySem.W.Frag) : Sp := fun vs H Q _ => ∃ (x : V) (kd : Str), vs = [x] ∧ KdV kd x ∧ ∀ H', Same H H' → Q (.str (wr x)) H'
theorem ok_l_written (T : Txt w K mg f fd) : FnOk P w K mg base CX0 1 (f 43) (fd 43) ["_law_value"] (sp_l_written K) := by
  refine T.d_l_written.F.ok sc_l_written (fun vs H Q E h => ?_) (fun cdv A outer s H vs Q E hr h => ?_)
  · obtain ⟨x, kd, rfl, _⟩ := h
    rfl
  · obtain ⟨x, kd, rfl, hx, k⟩ := h
    refine ⟨_, (pss_cons (ps_if (pt_val (pe_cB (k_isP rfl) T.n_isinstance bt_isinstance rfl (by decide) (by decide) rfl (pal rfl (pvl 0) (pal rfl (pty T.n_str bt_str) pa_nil))))
     (pss_one (ps_ret (pvl 0)))
     pss_nil)
     (pss_cons (psl 1 sc_l_written.nd (pe_cB call_abs T.n_abs bt_abs rfl (by decide) (by decide) rfl (pal rfl (pvl 0) pa_nil)))
     (pss_cons (psl 2 sc_l_written.nd (pe_ix (k_ixL rfl) (pe_lst (pal rfl pe_str (pal rfl pe_str pa_nil))) (pe_cTy call_int1 T.n_int bt_int rfl (by decide) (by decide) rfl (pal rfl (pe_cmpR op_eq (pvl 1) pe_int (nomark _)) pa_nil)) (fun _ _ => rfl)))
     (pss_cons (ps_while PassesOwn.never (pt_cmpR op_gt (pvl 1) pe_int (nomark _))
     (pss_cons (psl 2 sc_l_written.nd (pe_op op_add_str (pe_ix ix_str pe_str (pe_op op_mod (pvl 1) pe_int) (fun _ _ => rfl)) (pvl 2)))
     (pss_one (psl 1 sc_l_written.nd (pe_op op_fdiv (pvl 1) pe_int)))))
     (pss_one (ps_ret (pe_op op_add_str (pe_ix (k_ixL rfl) (pe_lst (pal rfl pe_str (pal rfl pe_str pa_nil))) (pe_cTy call_int1 T.n_int bt_int rfl (by decide) (by decide) rfl (pal rfl (pe_cmpR op_lt (pvl 0) pe_int (nomark _)) pa_nil)) (fun _ _ => rfl)) (pvl 2)))))))), ?_⟩
    ((try dsimp only [cxOf, L2.Cx.inTry, L2.Cx.inHand]); simp only [iItems, rStarts3, rAdd, tNever, tCIn, tCGet, L2.start, tSeq, tNext, tIfS, tRet, tRetN, tAsg, tDrop, gName, tVar, tC, tOp, tUn, tCall, tCB, tCons, tNil, tTest, tB, tNot, tAnd, tOr, tAndV, tOrV, tNotV, tIf, tChain, tLst, tTup, tBM, tBM0, rI, rI0, rU, rEq, rNe, scal, tComp, iStr, iList, iTup, iRng1, iRng2, tYes, rIsP, rAll, rLenS, rLenV, rListOf, rTupleOf, tDisp, tPairs, tSl, tPart, tNoPart, rSlS, rSlL, rFind, rStarts, rIntT, rStrA, rRepS, tCallX, tRaise, tRaiseI, tTry, tAs, offE, tXF, sXset, tMethX, tMakeX, rIsX, tFld, sFld, tMeth, rSortD, rDPop, tDNewK, tDIn, tDNotIn, tDGet, sDPut, rIndexS, tStop, gSub, 
  List.map_cons, List.map_nil, List.cons_append, List.nil_append, List.length_cons, List.length_nil, List.getElem?_cons_zero, List.getElem?_cons_succ, Option.some.injEq, exists_eq_left', exists_eq_left, List.set_cons_zero, List.set_cons_succ, List.cons.injEq, and_true, true_and, V.int.injEq, V.str.injEq, V.bl.injEq, V.ref.injEq, V.ty.injEq, exists_and_left, exists_and_right, List.append_nil, reduceCtorEq, false_and, and_false, exists_false, or_false, false_or, decide_true, decide_false, Bool.not_true, Bool.not_false, if_true, if_false, Bool.false_eq_true, ite_true, ite_false, and_assoc, Nat.reduceAdd, Nat.reduceSub, List.replicate_succ, List.replicate_zero, Nat.zero_add, Nat.add_zero, Nat.sub_self])
    rcases hx with ⟨_, z, rfl, hz⟩ | ⟨_, n, rfl, hn⟩
    · refine ⟨"str", .of_str (small_line (by have := hz.2.1; omega)), by decide, ?_⟩
      rw [if_pos (by decide)]
      exact k H (Same.refl _)
    · refine ⟨"int", .of_int, by decide, ?_⟩
      rw [if_neg (by decide)]
      refine ⟨n, rfl, small_line (by decide), fun p hp => ?_⟩
      have s0 := Same.upd_new hp (HO.lst [V.str (Str.ofString ""), V.str (Str.ofString "0")])
      have g0 : upd H p (HO.lst [V.str (Str.ofString ""), V.str (Str.ofString "0")]) p = some (.lst [V.str (Str.ofString ""), V.str (Str.ofString "0")]) := upd_same
      generalize upd H p (HO.lst [V.str (Str.ofString ""), V.str (Str.ofString "0")]) = H0 at *
      have hl60 := dgs_len 59 hn
      have ea : (if n < 0 then -n else n) = (n.natAbs : Int) := by split <;> omega
      rw [ea]
      refine ixL_of (.of g0) (by split <;> decide) (by split <;> decide) fun v hv => ?_
      obtain ⟨tx0, rfl, h0⟩ : ∃ tx0 : Str, v = .str tx0 ∧ ((n.natAbs = 0 ∧ tx0.cps.toList = dgs n.natAbs) ∨ (n.natAbs ≠ 0 ∧ dgs n.natAbs ++ tx0.cps.toList = dgs n.natAbs)) := by
        by_cases hn0 : n.natAbs = 0
        · rw [if_pos (decide_eq_true (by omega))] at hv
          exact ⟨_, (Option.some.inj hv).symm, .inl ⟨hn0, by rw [hn0, dgs_zero]; decide⟩⟩
        · rw [if_neg (by simpa using hn0)] at hv
          exact ⟨_, (Option.some.inj hv).symm, .inr ⟨hn0, by rw [show (Str.ofString "").cps.toList = [] by decide, List.append_nil]⟩⟩
      refine while_in (fun m σ H' => H' = H0 ∧ ∃ tx : Str, σ = [some (.int n), some (.int (m : Int)), some (.str tx)] ∧ ((m = 0 ∧ tx.cps.toList = dgs n.natAbs) ∨ (m ≠ 0 ∧ dgs m ++ tx.cps.toList = dgs n.natAbs))) ⟨n.natAbs, rfl, tx0, rfl, h0⟩ ?_
      rintro m σ H' ⟨rfl, tx, rfl, hd⟩
      have ltx : tx.cps.toList.length = tx.length := by simp [Str.length]
      ((try dsimp only [cxOf, L2.Cx.inTry, L2.Cx.inHand]); simp only [iItems, rStarts3, rAdd, tNever, tCIn, tCGet, L2.start, tSeq, tNext, tIfS, tRet, tRetN, tAsg, tDrop, gName, tVar, tC, tOp, tUn, tCall, tCB, tCons, tNil, tTest, tB, tNot, tAnd, tOr, tAndV, tOrV, tNotV, tIf, tChain, tLst, tTup, tBM, tBM0, rI, rI0, rU, rEq, rNe, scal, tComp, iStr, iList, iTup, iRng1, iRng2, tYes, rIsP, rAll, rLenS, rLenV, rListOf, rTupleOf, tDisp, tPairs, tSl, tPart, tNoPart, rSlS, rSlL, rFind, rStarts, rIntT, rStrA, rRepS, tCallX, tRaise, tRaiseI, tTry, tAs, offE, tXF, sXset, tMethX, tMakeX, rIsX, tFld, sFld, tMeth, rSortD, rDPop, tDNewK, tDIn, tDNotIn, tDGet, sDPut, rIndexS, tStop, gSub, 
  List.map_cons, List.map_nil, List.cons_append, List.nil_append, List.length_cons, List.length_nil, List.getElem?_cons_zero, List.getElem?_cons_succ, Option.some.injEq, exists_eq_left', exists_eq_left, List.set_cons_zero, List.set_cons_succ, List.cons.injEq, and_true, true_and, V.int.injEq, V.str.injEq, V.bl.injEq, V.ref.injEq, V.ty.injEq, exists_and_left, exists_and_right, List.append_nil, reduceCtorEq, false_and, and_false, exists_false, or_false, false_or, decide_true, decide_false, Bool.not_true, Bool.not_false, if_true, if_false, Bool.false_eq_true, ite_true, ite_false, and_assoc, Nat.reduceAdd, Nat.reduceSub, List.replicate_succ, List.replicate_zero, Nat.zero_add, Nat.add_zero, Nat.sub_self])
      rcases hd with ⟨rfl, hd⟩ | ⟨hm, hd⟩
      · rw [if_neg (by decide)]
        rw [hd] at ltx
        refine ⟨small_line (by decide), fun p2 hp2 => ixL_of (.of upd_same) (by split <;> decide) (by split <;> decide) fun v hv => ?_⟩
        have hv2 : v = .str (if n < 0 then Str.ofString "-" else Str.ofString "") := by
          by_cases h : n < 0
          · rw [if_pos (decide_eq_true h)] at hv; cases hv; rw [if_pos h]
          · rw [if_neg (by simpa using h)] at hv; cases hv; rw [if_neg h]
        refine ⟨_, hv2, small_line ?_, ?_⟩
        · have : (if n < 0 then Str.ofString "-" else Str.ofString "").length ≤ 1 := by split <;> decide
          omega
        · have e : (if n < 0 then Str.ofString "-" else Str.ofString "") ++ tx = wr (.int n) := str_of_cps (by
            rw [PySem.W.KT.app_list, hd]
            unfold numS
            split <;> rfl)
          rw [e]
          exact k _ (s0.new hp2 _)
      · rw [if_pos (decide_eq_true (by omega))]
        refine WGo.of ?_
        ((try dsimp only [cxOf, L2.Cx.inTry, L2.Cx.inHand]); simp only [iItems, rStarts3, rAdd, tNever, tCIn, tCGet, L2.start, tSeq, tNext, tIfS, tRet, tRetN, tAsg, tDrop, gName, tVar, tC, tOp, tUn, tCall, tCB, tCons, tNil, tTest, tB, tNot, tAnd, tOr, tAndV, tOrV, tNotV, tIf, tChain, tLst, tTup, tBM, tBM0, rI, rI0, rU, rEq, rNe, scal, tComp, iStr, iList, iTup, iRng1, iRng2, tYes, rIsP, rAll, rLenS, rLenV, rListOf, rTupleOf, tDisp, tPairs, tSl, tPart, tNoPart, rSlS, rSlL, rFind, rStarts, rIntT, rStrA, rRepS, tCallX, tRaise, tRaiseI, tTry, tAs, offE, tXF, sXset, tMethX, tMakeX, rIsX, tFld, sFld, tMeth, rSortD, rDPop, tDNewK, tDIn, tDNotIn, tDGet, sDPut, rIndexS, tStop, gSub, 
  List.map_cons, List.map_nil, List.cons_append, List.nil_append, List.length_cons, List.length_nil, List.getElem?_cons_zero, List.getElem?_cons_succ, Option.some.injEq, exists_eq_left', exists_eq_left, List.set_cons_zero, List.set_cons_succ, List.cons.injEq, and_true, true_and, V.int.injEq, V.str.injEq, V.bl.injEq, V.ref.injEq, V.ty.injEq, exists_and_left, exists_and_right, List.append_nil, reduceCtorEq, false_and, and_false, exists_false, or_false, false_or, decide_true, decide_false, Bool.not_true, Bool.not_false, if_true, if_false, Bool.false_eq_true, ite_true, ite_false, and_assoc, Nat.reduceAdd, Nat.reduceSub, List.replicate_succ, List.replicate_zero, Nat.zero_add, Nat.add_zero, Nat.sub_self])
        refine ⟨by decide, ixS_of (small_line (by decide)) (Int.emod_nonneg _ (by decide)) (Int.emod_lt_of_pos _ (by decide)) fun c hc => ?_⟩
        have hc2 : c = 48 + m % 10 := by
          have e : ((m : Int) % 10).toNat = m % 10 := by omega
          rw [e, fig_at _ (Nat.mod_lt _ (by decide))] at hc
          exact (Option.some.inj hc).symm
        subst hc2
        have lt : tx.length ≤ 60 := by
          have := congrArg List.length hd
          rw [List.length_append] at this
          omega
        unfold sgn
        ((try dsimp only [cxOf, L2.Cx.inTry, L2.Cx.inHand]); simp only [iItems, rStarts3, rAdd, tNever, tCIn, tCGet, L2.start, tSeq, tNext, tIfS, tRet, tRetN, tAsg, tDrop, gName, tVar, tC, tOp, tUn, tCall, tCB, tCons, tNil, tTest, tB, tNot, tAnd, tOr, tAndV, tOrV, tNotV, tIf, tChain, tLst, tTup, tBM, tBM0, rI, rI0, rU, rEq, rNe, scal, tComp, iStr, iList, iTup, iRng1, iRng2, tYes, rIsP, rAll, rLenS, rLenV, rListOf, rTupleOf, tDisp, tPairs, tSl, tPart, tNoPart, rSlS, rSlL, rFind, rStarts, rIntT, rStrA, rRepS, tCallX, tRaise, tRaiseI, tTry, tAs, offE, tXF, sXset, tMethX, tMakeX, rIsX, tFld, sFld, tMeth, rSortD, rDPop, tDNewK, tDIn, tDNotIn, tDGet, sDPut, rIndexS, tStop, gSub, 
  List.map_cons, List.map_nil, List.cons_append, List.nil_append, List.length_cons, List.length_nil, List.getElem?_cons_zero, List.getElem?_cons_succ, Option.some.injEq, exists_eq_left', exists_eq_left, List.set_cons_zero, List.set_cons_succ, List.cons.injEq, and_true, true_and, V.int.injEq, V.str.injEq, V.bl.injEq, V.ref.injEq, V.ty.injEq, exists_and_left, exists_and_right, List.append_nil, reduceCtorEq, false_and, and_false, exists_false, or_false, false_or, decide_true, decide_false, Bool.not_true, Bool.not_false, if_true, if_false, Bool.false_eq_true, ite_true, ite_false, and_assoc, Nat.reduceAdd, Nat.reduceSub, List.replicate_succ, List.replicate_zero, Nat.zero_add, Nat.add_zero, Nat.sub_self])
        refine ⟨small_line (by show 1 + tx.length ≤ _; omega), ⟨by decide, by decide⟩, m / 10, by omega, ?_⟩
        refine ⟨by omega, ?_⟩
        have ea : ((⟨#[48 + m % 10]⟩ : Str) ++ tx).cps.toList = [48 + m % 10] ++ tx.cps.toList := PySem.W.KT.app_list _ _
        by_cases h10 : m < 10
        · refine .inl ⟨by omega, ?_⟩
          rw [ea, ← hd, dgs_lt h10, Nat.mod_eq_of_lt h10]
        · refine .inr ⟨by omega, ?_⟩
          rw [ea, ← hd, dgs_ge (m := m) (by omega), List.append_assoc]
noncomputable def kt (j : Nat) : List Sv → List Nat
  | [] => []
  | s :: ss => txt s ++ more j ss
theorem txt_many (o : Bool) : ∀ ss : List Sv, txt (.many o ss) = 40 :: jt o :: (kt (jt o) ss ++ [41])
  | [] => by simp only [txt, kt]; rfl
  | s :: ss => by simp only [txt, kt]; rw [List.append_assoc]
theorem more_snoc (j : Nat) : ∀ (ss : List Sv) (s : Sv), more j (ss ++ [s]) = more j ss ++ j :: txt s
  | [], s => by simp only [List.nil_append, more]; rw [List.append_nil]
  | s' :: ss, s => by simp only [List.cons_append, more]; rw [more_snoc, List.append_assoc]
theorem kt_snoc (j : Nat) : ∀ (ss : List Sv) (s : Sv), kt j (ss ++ [s]) = if ss.length = 0 then txt s else kt j ss ++ j :: txt s
  | [], s => by simp only [List.nil_append, kt, more]; rw [List.append_nil]; rfl
  | s' :: ss, s => by simp only [List.cons_append, kt]; rw [more_snoc, if_neg (by simp), List.append_assoc]
noncomputable abbrev tS (s : Sv) : Str := ⟨(txt s).toArray⟩
theorem glue_more (j : Nat) : ∀ (ss : List Sv) (acc : Array Nat), ((ss.map tS).foldl (fun acc p => acc ++ #[j] ++ p.cps) acc).toList = acc.toList ++ more j ss
  | [], acc => by simp only [more]; simp
  | s :: ss, acc => by
    simp only [more]
    rw [List.map_cons, List.foldl_cons, glue_more j ss]
    simp
theorem join_kt {z : Str} {j : Nat} (hz : z.cps.toList = [j]) (ss : List Sv) : (Txt.join z (ss.map tS)).cps.toList = kt j ss := by
  show (Builtin.Str.glued z (ss.map tS)).cps.toList = _
  have e : z.cps = #[j] := by
    apply Array.toList_inj.mp
    rw [hz]
  unfold Builtin.Str.glued
  rw [e]
  cases ss with
  | nil => rfl
  | cons s ss =>
    show ((ss.map tS).foldl _ (tS s).cps).toList = _
    rw [glue_more]
    simp only [kt]
theorem wr_len {kd : Str} {x : V} (h : KdV kd x) : 1 ≤ (wr x).cps.toList.length ∧ (wr x).cps.toList.length ≤ 61 := by
  rcases h with ⟨_, z, rfl, hz⟩ | ⟨_, i, rfl, hi⟩
  · have := hz.1
    have := hz.2.1
    simp only [wr]
    rw [len_cps]
    omega
  · exact num_len hi
mutual
theorem txt_len {ns kds : List Str} : ∀ {s : Sv}, Good ns kds s → (txt s).length + 3 ≤ 80 * cnt s
  | .lacks n, h => by
    simp only [Good] at h
    simp only [txt, cnt]
    rw [List.length_append, len_cps]
    have := h.1.2.1
    simp only [List.length_cons, List.length_nil]
    omega
  | .is n x, h => by
    simp only [Good] at h
    obtain ⟨hn, j, kd, _, _, hx⟩ := h
    simp only [txt, cnt]
    rw [List.length_append, len_cps, List.length_cons]
    have := hn.2.1
    have := (wr_len hx).2
    omega
  | .bnd o n i, h => by
    simp only [Good] at h
    simp only [txt, cnt]
    rw [List.length_append, len_cps, List.length_cons]
    have := h.1.2.1
    have : (numS i).length ≤ 61 := (num_len h.2.2).2
    omega
  | .neg s, h => by
    simp only [Good] at h
    simp only [txt, cnt]
    have := txt_len h
    rw [List.length_cons]
    omega
  | .many o [], h => by
    simp only [txt, cnt, cnts]
    simp
  | .many o (s :: ss), h => by
    simp only [Good, Goods] at h
    simp only [txt, cnt, cnts]
    have := txt_len h.1
    have := more_len (jt o) h.2
    simp only [List.length_cons, List.length_append, List.length_nil]
    omega
theorem more_len {ns kds : List Str} (j : Nat) : ∀ {ss : List Sv}, Goods ns kds ss → (more j ss).length ≤ 80 * cnts ss
  | [], _ => by simp only [more]; simp
  | s :: ss, h => by
    simp only [Goods] at h
    simp only [more, cnts]
    have := txt_len h.1
    have := more_len j h.2
    simp only [List.length_cons, List.length_append]
    omega
end
noncomputable def sp_shown_sieve (K : PySem.W.Frag) : Nat → Sp
  | 0 => fun _ _ _ _ => False
  | d + 1 => fun vs H Q _ => ∃ v s ns kds, vs = [v] ∧ Sx H s v ∧ Good ns kds s ∧ lev s ≤ d + 1 ∧ cnt s ≤ 60 ∧ ∀ H', Same H H' → Q (.str (tS s)) H'
theorem tS_len {ns kds : List Str} {s : Sv} (h : Good ns kds s) (hc : cnt s ≤ 60) : (tS s).length ≤ 4800 := by
  have := txt_len h
  rw [← len_cps]
  show (txt s).toArray.toList.length ≤ _
  rw [List.toList_toArray]
  omega
theorem tS_cps (s : Sv) : (tS s).cps.toList = txt s := rfl
theorem cnts_at : ∀ {ss : List Sv} {i : Nat} {s : Sv}, ss[i]? = some s → cnt s ≤ cnts ss
  | [], i, s, e => by simp at e
  | s' :: ss, i, s, e => by
    simp only [cnts]
    cases i with
    | zero => obtain rfl : s' = s := by simpa using e
              omega
    | succ i => have := cnts_at (i := i) (ss := ss) (by simpa using e); omega
theorem sum_tS {ns kds : List Str} : ∀ {ss : List Sv}, Goods ns kds ss → ((ss.map tS).map (·.length)).sum ≤ 80 * cnts ss
  | [], _ => by simp
  | s :: ss, h => by
    simp only [Goods] at h
    simp only [List.map_cons, List.sum_cons, cnts]
    have h1 := txt_len h.1
    have h2 := sum_tS h.2
    have e : (tS s).length = (txt s).length := by rw [← len_cps]
    omega
theorem kt_len {ns kds : List Str} (j : Nat) : ∀ {ss : List Sv}, Goods ns kds ss → (kt j ss).length ≤ 80 * cnts ss
  | [], _ => by simp only [kt]; simp
  | s :: ss, h => by
    simp only [Goods] at h
    simp only [kt, cnts, List.length_append]
    have h1 := txt_len h.1
    have h2 := more_len j h.2
    omega
theorem mapS_snoc {ss : List Sv} {i : Nat} {s : Sv} (h : ss[i]? = some s) : ((ss.take (i + 1)).map tS).map V.str = ((ss.take i).map tS).map V.str ++ [.str (tS s)] := by
  rw [take_snoc h, List.map_append, List.map_append]
  rfl
theorem st_shown_sieve (T : Txt w K mg f fd) (dp : Nat) (ih : FnOk P w K mg base CX0 (2 + dp) (f 29) (fd 29) ["sieve"] (sp_shown_sieve K dp)) : FnOk P w K mg base CX0 (2 + dp + 1) (f 29) (fd 29) ["sieve"] (sp_shown_sieve K (dp + 1)) := by
  refine T.d_shown_sieve.F.ok sc_shown_sieve (fun vs H Q E h => ?_) (fun cdv A outer s H vs Q E hr h => ?_)
  · obtain ⟨v, s, ns, kds, rfl, _⟩ := h
    rfl
  · obtain ⟨v, s, ns, kds, rfl, hS, hG, hL, hC, k⟩ := h
    have hln := tS_len hG hC
    have k' : ∀ (z : Str) (H' : Hp), z.cps.toList = txt s → Same H H' → Q (.str z) H' := fun z H' e s1 => by
      rw [str_of_cps e]
      exact k H' s1
    refine ⟨_, (pss_cons (psl 1 sc_shown_sieve.nd (pe_ix (k_ixT rfl) (pvl 0) pe_int (fun _ _ => rfl)))
     (pss_cons (ps_if (pt_cmpR op_eq (pvl 1) pe_str (nomark _))
     (pss_one (ps_ret (pe_op op_add_str pe_str (pe_defL T.d_shown_sieve ih (hr.mono (by omega)) rfl (by decide) rfl (pal rfl (pe_ix (k_ixT rfl) (pvl 0) pe_int (fun _ _ => rfl)) pa_nil)))))
     pss_nil)
     (pss_cons (ps_if (pt_cmpR op_eq (pvl 1) pe_str (nomark _))
     (pss_one (ps_ret (pe_op op_add_str (pe_ix (k_ixT rfl) (pvl 0) pe_int (fun _ _ => rfl)) pe_str)))
     pss_nil)
     (pss_cons (ps_if (pt_cmp (pc_cin T.c_MARKS T.g_MARKS rfl (by decide) (pvl 1)))
     (pss_one (ps_ret (pe_op op_add_str (pe_op op_add_str (pe_ix (k_ixT rfl) (pvl 0) pe_int (fun _ _ => rfl)) (pe_cget T.c_MARKS T.g_MARKS rfl (by decide) (pvl 1) (fun _ _ => rfl))) (pe_defL T.d_written (ok_written T) (hr.mono (by omega)) rfl (by decide) rfl (pal rfl (pe_ix (k_ixT rfl) (pvl 0) pe_int (fun _ _ => rfl)) pa_nil)))))
     pss_nil)
     (pss_cons (psl 2 sc_shown_sieve.nd (pe_cget T.c_JOINTS T.g_JOINTS rfl (by decide) (pvl 1) (fun _ _ => rfl)))
     (pss_cons (psl 3 sc_shown_sieve.nd (k_bmL rfl PySem.F.plainAttrs_str PySem.F.slot_str_join PySem.F.type_str_join (k_join rfl) rfl rfl rfl rfl (pvl 2) (pal rfl (pe_comp ["one"] ["sieve", "form", "joint", "inner"] rfl (show CompSc _ (defScope s_shown_sieve) ["sieve", "form", "joint", "inner"] ["sieve", "form", "joint", "inner"] from compOk_is (by decide +kernel)) (k_piT rfl (pe_ix (k_ixT rfl) (pvl 0) pe_int (fun _ _ => rfl))) (fun _ _ _ _ _ => (pgl 0 (show (["one", "sieve", "form", "joint", "inner"] : List Str).Nodup by decide +kernel))) (fun _ _ _ _ _ => pts_nil) (fun _ _ _ _ _ => (pe_defL T.d_shown_sieve ih (hr.mono (by omega)) rfl (by decide) rfl (pal rfl (pvl 0) pa_nil)))) pa_nil)))
     (pss_one (ps_ret (pe_fstr (pj_cons pe_str (pj_cons (pe_fmt (pvl 2)) (pj_cons (pe_fmt (pvl 3)) (pj_cons pe_str pj_nil))))))))))))), ?_⟩
    ((try dsimp only [cxOf, L2.Cx.inTry, L2.Cx.inHand]); simp only [iItems, rStarts3, rAdd, tNever, tCIn, tCGet, L2.start, tSeq, tNext, tIfS, tRet, tRetN, tAsg, tDrop, gName, tVar, tC, tOp, tUn, tCall, tCB, tCons, tNil, tTest, tB, tNot, tAnd, tOr, tAndV, tOrV, tNotV, tIf, tChain, tLst, tTup, tBM, tBM0, rI, rI0, rU, rEq, rNe, scal, tComp, iStr, iList, iTup, iRng1, iRng2, tYes, rIsP, rAll, rLenS, rLenV, rListOf, rTupleOf, tDisp, tPairs, tSl, tPart, tNoPart, rSlS, rSlL, rFind, rStarts, rIntT, rStrA, rRepS, tCallX, tRaise, tRaiseI, tTry, tAs, offE, tXF, sXset, tMethX, tMakeX, rIsX, tFld, sFld, tMeth, rSortD, rDPop, tDNewK, tDIn, tDNotIn, tDGet, sDPut, rIndexS, tStop, gSub, 
  List.map_cons, List.map_nil, List.cons_append, List.nil_append, List.length_cons, List.length_nil, List.getElem?_cons_zero, List.getElem?_cons_succ, Option.some.injEq, exists_eq_left', exists_eq_left, List.set_cons_zero, List.set_cons_succ, List.cons.injEq, and_true, true_and, V.int.injEq, V.str.injEq, V.bl.injEq, V.ref.injEq, V.ty.injEq, exists_and_left, exists_and_right, List.append_nil, reduceCtorEq, false_and, and_false, exists_false, or_false, false_or, decide_true, decide_false, Bool.not_true, Bool.not_false, if_true, if_false, Bool.false_eq_true, ite_true, ite_false, and_assoc, Nat.reduceAdd, Nat.reduceSub, List.replicate_succ, List.replicate_zero, Nat.zero_add, Nat.add_zero, Nat.sub_self])
    cases s with
    | lacks n =>
      simp only [Sx] at hS
      simp only [Good] at hG
      obtain ⟨p, rfl, hp⟩ := hS
      refine ⟨p, _, _, _, rfl, rfl, .of hp, atI_nat (j := 0) rfl, ?_⟩
      ((try dsimp only [cxOf, L2.Cx.inTry, L2.Cx.inHand]); simp only [iItems, rStarts3, rAdd, tNever, tCIn, tCGet, L2.start, tSeq, tNext, tIfS, tRet, tRetN, tAsg, tDrop, gName, tVar, tC, tOp, tUn, tCall, tCB, tCons, tNil, tTest, tB, tNot, tAnd, tOr, tAndV, tOrV, tNotV, tIf, tChain, tLst, tTup, tBM, tBM0, rI, rI0, rU, rEq, rNe, scal, tComp, iStr, iList, iTup, iRng1, iRng2, tYes, rIsP, rAll, rLenS, rLenV, rListOf, rTupleOf, tDisp, tPairs, tSl, tPart, tNoPart, rSlS, rSlL, rFind, rStarts, rIntT, rStrA, rRepS, tCallX, tRaise, tRaiseI, tTry, tAs, offE, tXF, sXset, tMethX, tMakeX, rIsX, tFld, sFld, tMeth, rSortD, rDPop, tDNewK, tDIn, tDNotIn, tDGet, sDPut, rIndexS, tStop, gSub, 
  List.map_cons, List.map_nil, List.cons_append, List.nil_append, List.length_cons, List.length_nil, List.getElem?_cons_zero, List.getElem?_cons_succ, Option.some.injEq, exists_eq_left', exists_eq_left, List.set_cons_zero, List.set_cons_succ, List.cons.injEq, and_true, true_and, V.int.injEq, V.str.injEq, V.bl.injEq, V.ref.injEq, V.ty.injEq, exists_and_left, exists_and_right, List.append_nil, reduceCtorEq, false_and, and_false, exists_false, or_false, false_or, decide_true, decide_false, Bool.not_true, Bool.not_false, if_true, if_false, Bool.false_eq_true, ite_true, ite_false, and_assoc, Nat.reduceAdd, Nat.reduceSub, List.replicate_succ, List.replicate_zero, Nat.zero_add, Nat.add_zero, Nat.sub_self])
      rw [if_neg (by decide)]
      have h12 := hG.1.2.1
      refine ⟨p, _, _, _, rfl, rfl, .of hp, atI_nat (j := 1) rfl, n, rfl, small_line (by show n.length + 1 ≤ _; omega), k' _ _ ?_ (Same.refl _)⟩
      rw [PySem.W.KT.app_list]
      simp only [txt]
      rfl
    | is n x =>
      simp only [Sx] at hS
      simp only [Good] at hG
      obtain ⟨p, rfl, hp⟩ := hS
      obtain ⟨hn, jj, kd, _, _, hx⟩ := hG
      refine ⟨p, _, _, _, rfl, rfl, .of hp, atI_nat (j := 0) rfl, ?_⟩
      ((try dsimp only [cxOf, L2.Cx.inTry, L2.Cx.inHand]); simp only [iItems, rStarts3, rAdd, tNever, tCIn, tCGet, L2.start, tSeq, tNext, tIfS, tRet, tRetN, tAsg, tDrop, gName, tVar, tC, tOp, tUn, tCall, tCB, tCons, tNil, tTest, tB, tNot, tAnd, tOr, tAndV, tOrV, tNotV, tIf, tChain, tLst, tTup, tBM, tBM0, rI, rI0, rU, rEq, rNe, scal, tComp, iStr, iList, iTup, iRng1, iRng2, tYes, rIsP, rAll, rLenS, rLenV, rListOf, rTupleOf, tDisp, tPairs, tSl, tPart, tNoPart, rSlS, rSlL, rFind, rStarts, rIntT, rStrA, rRepS, tCallX, tRaise, tRaiseI, tTry, tAs, offE, tXF, sXset, tMethX, tMakeX, rIsX, tFld, sFld, tMeth, rSortD, rDPop, tDNewK, tDIn, tDNotIn, tDGet, sDPut, rIndexS, tStop, gSub, 
  List.map_cons, List.map_nil, List.cons_append, List.nil_append, List.length_cons, List.length_nil, List.getElem?_cons_zero, List.getElem?_cons_succ, Option.some.injEq, exists_eq_left', exists_eq_left, List.set_cons_zero, List.set_cons_succ, List.cons.injEq, and_true, true_and, V.int.injEq, V.str.injEq, V.bl.injEq, V.ref.injEq, V.ty.injEq, exists_and_left, exists_and_right, List.append_nil, reduceCtorEq, false_and, and_false, exists_false, or_false, false_or, decide_true, decide_false, Bool.not_true, Bool.not_false, if_true, if_false, Bool.false_eq_true, ite_true, ite_false, and_assoc, Nat.reduceAdd, Nat.reduceSub, List.replicate_succ, List.replicate_zero, Nat.zero_add, Nat.add_zero, Nat.sub_self])
      rw [if_neg (by decide), if_neg (by decide), if_pos (by decide)]
      have h12 := hn.2.1
      have hw := (wr_len hx).2
      rw [len_cps] at hw
      refine ⟨p, _, _, _, rfl, rfl, .of hp, atI_nat (j := 1) rfl, _, (by rfl : cdAt _ _ = some (Str.ofString "=")), n, rfl, small_line (by show n.length + 1 ≤ _; omega), p, _, _, _, rfl, rfl, .of hp, atI_nat (j := 2) rfl, ?_⟩
      have go : ∀ y, y = wr x → (n ++ Str.ofString "=").length + y.length ≤ sizeLine ∧ Q (V.str (n ++ Str.ofString "=" ++ y)) H := fun y e => by
        subst e
        refine ⟨small_line (by rw [app_len]; show n.length + 1 + _ ≤ _; omega), k' _ _ ?_ (Same.refl _)⟩
        rw [PySem.W.KT.app_list, PySem.W.KT.app_list]
        simp only [txt]
        rw [List.append_assoc]
        rfl
      rcases hx with ⟨_, z, rfl, hz⟩ | ⟨_, i, rfl, hi⟩
      · exact .inr (.inr ⟨z, rfl, z, rfl, go z rfl⟩)
      · exact .inr (.inl ⟨i, rfl, Nat.lt_trans hi (by decide), _, rfl, go _ rfl⟩)
    | bnd o n i =>
      simp only [Sx] at hS
      simp only [Good] at hG
      obtain ⟨p, rfl, hp⟩ := hS
      obtain ⟨hn, _, hi⟩ := hG
      have h12 := hn.2.1
      have hw := (num_len hi).2
      have hwl : (⟨(numS i).toArray⟩ : Str).length ≤ 61 := by
        show (numS i).toArray.size ≤ _
        rw [List.size_toArray]
        exact hw
      refine ⟨p, _, _, _, rfl, rfl, .of hp, atI_nat (j := 0) rfl, ?_⟩
      cases o with
      | false =>
        simp only [bw, Bool.false_eq_true, if_false] at hp ⊢
        ((try dsimp only [cxOf, L2.Cx.inTry, L2.Cx.inHand]); simp only [iItems, rStarts3, rAdd, tNever, tCIn, tCGet, L2.start, tSeq, tNext, tIfS, tRet, tRetN, tAsg, tDrop, gName, tVar, tC, tOp, tUn, tCall, tCB, tCons, tNil, tTest, tB, tNot, tAnd, tOr, tAndV, tOrV, tNotV, tIf, tChain, tLst, tTup, tBM, tBM0, rI, rI0, rU, rEq, rNe, scal, tComp, iStr, iList, iTup, iRng1, iRng2, tYes, rIsP, rAll, rLenS, rLenV, rListOf, rTupleOf, tDisp, tPairs, tSl, tPart, tNoPart, rSlS, rSlL, rFind, rStarts, rIntT, rStrA, rRepS, tCallX, tRaise, tRaiseI, tTry, tAs, offE, tXF, sXset, tMethX, tMakeX, rIsX, tFld, sFld, tMeth, rSortD, rDPop, tDNewK, tDIn, tDNotIn, tDGet, sDPut, rIndexS, tStop, gSub, 
  List.map_cons, List.map_nil, List.cons_append, List.nil_append, List.length_cons, List.length_nil, List.getElem?_cons_zero, List.getElem?_cons_succ, Option.some.injEq, exists_eq_left', exists_eq_left, List.set_cons_zero, List.set_cons_succ, List.cons.injEq, and_true, true_and, V.int.injEq, V.str.injEq, V.bl.injEq, V.ref.injEq, V.ty.injEq, exists_and_left, exists_and_right, List.append_nil, reduceCtorEq, false_and, and_false, exists_false, or_false, false_or, decide_true, decide_false, Bool.not_true, Bool.not_false, if_true, if_false, Bool.false_eq_true, ite_true, ite_false, and_assoc, Nat.reduceAdd, Nat.reduceSub, List.replicate_succ, List.replicate_zero, Nat.zero_add, Nat.add_zero, Nat.sub_self])
        rw [if_neg (by decide), if_neg (by decide), if_pos (by decide)]
        refine ⟨p, _, _, _, rfl, rfl, .of hp, atI_nat (j := 1) rfl, _, (by rfl : cdAt _ _ = some (Str.ofString "<")), n, rfl, small_line (by show n.length + 1 ≤ _; omega), p, _, _, _, rfl, rfl, .of hp, atI_nat (j := 2) rfl, .inr (.inl ⟨i, rfl, Nat.lt_trans hi (by decide), _, rfl, small_line (by rw [app_len]; show n.length + 1 + _ ≤ _; omega), k' _ _ ?_ (Same.refl _)⟩)⟩
        rw [PySem.W.KT.app_list, PySem.W.KT.app_list]
        simp only [txt, bm]
        rw [List.append_assoc]
        rfl
      | true =>
        simp only [bw, if_true] at hp ⊢
        ((try dsimp only [cxOf, L2.Cx.inTry, L2.Cx.inHand]); simp only [iItems, rStarts3, rAdd, tNever, tCIn, tCGet, L2.start, tSeq, tNext, tIfS, tRet, tRetN, tAsg, tDrop, gName, tVar, tC, tOp, tUn, tCall, tCB, tCons, tNil, tTest, tB, tNot, tAnd, tOr, tAndV, tOrV, tNotV, tIf, tChain, tLst, tTup, tBM, tBM0, rI, rI0, rU, rEq, rNe, scal, tComp, iStr, iList, iTup, iRng1, iRng2, tYes, rIsP, rAll, rLenS, rLenV, rListOf, rTupleOf, tDisp, tPairs, tSl, tPart, tNoPart, rSlS, rSlL, rFind, rStarts, rIntT, rStrA, rRepS, tCallX, tRaise, tRaiseI, tTry, tAs, offE, tXF, sXset, tMethX, tMakeX, rIsX, tFld, sFld, tMeth, rSortD, rDPop, tDNewK, tDIn, tDNotIn, tDGet, sDPut, rIndexS, tStop, gSub, 
  List.map_cons, List.map_nil, List.cons_append, List.nil_append, List.length_cons, List.length_nil, List.getElem?_cons_zero, List.getElem?_cons_succ, Option.some.injEq, exists_eq_left', exists_eq_left, List.set_cons_zero, List.set_cons_succ, List.cons.injEq, and_true, true_and, V.int.injEq, V.str.injEq, V.bl.injEq, V.ref.injEq, V.ty.injEq, exists_and_left, exists_and_right, List.append_nil, reduceCtorEq, false_and, and_false, exists_false, or_false, false_or, decide_true, decide_false, Bool.not_true, Bool.not_false, if_true, if_false, Bool.false_eq_true, ite_true, ite_false, and_assoc, Nat.reduceAdd, Nat.reduceSub, List.replicate_succ, List.replicate_zero, Nat.zero_add, Nat.add_zero, Nat.sub_self])
        rw [if_neg (by decide), if_neg (by decide), if_pos (by decide)]
        refine ⟨p, _, _, _, rfl, rfl, .of hp, atI_nat (j := 1) rfl, _, (by rfl : cdAt _ _ = some (Str.ofString ">")), n, rfl, small_line (by show n.length + 1 ≤ _; omega), p, _, _, _, rfl, rfl, .of hp, atI_nat (j := 2) rfl, .inr (.inl ⟨i, rfl, Nat.lt_trans hi (by decide), _, rfl, small_line (by rw [app_len]; show n.length + 1 + _ ≤ _; omega), k' _ _ ?_ (Same.refl _)⟩)⟩
        rw [PySem.W.KT.app_list, PySem.W.KT.app_list]
        simp only [txt, bm]
        rw [List.append_assoc]
        rfl
    | neg s =>
      simp only [Sx] at hS
      simp only [Good] at hG
      simp only [lev] at hL
      simp only [cnt] at hC
      obtain ⟨p, x, rfl, hp, hs⟩ := hS
      have lp := lev_pos s
      obtain ⟨e, rfl⟩ : ∃ e, dp = e + 1 := ⟨dp - 1, by omega⟩
      refine ⟨p, _, _, _, rfl, rfl, .of hp, atI_nat (j := 0) rfl, ?_⟩
      ((try dsimp only [cxOf, L2.Cx.inTry, L2.Cx.inHand]); simp only [iItems, rStarts3, rAdd, tNever, tCIn, tCGet, L2.start, tSeq, tNext, tIfS, tRet, tRetN, tAsg, tDrop, gName, tVar, tC, tOp, tUn, tCall, tCB, tCons, tNil, tTest, tB, tNot, tAnd, tOr, tAndV, tOrV, tNotV, tIf, tChain, tLst, tTup, tBM, tBM0, rI, rI0, rU, rEq, rNe, scal, tComp, iStr, iList, iTup, iRng1, iRng2, tYes, rIsP, rAll, rLenS, rLenV, rListOf, rTupleOf, tDisp, tPairs, tSl, tPart, tNoPart, rSlS, rSlL, rFind, rStarts, rIntT, rStrA, rRepS, tCallX, tRaise, tRaiseI, tTry, tAs, offE, tXF, sXset, tMethX, tMakeX, rIsX, tFld, sFld, tMeth, rSortD, rDPop, tDNewK, tDIn, tDNotIn, tDGet, sDPut, rIndexS, tStop, gSub, 
  List.map_cons, List.map_nil, List.cons_append, List.nil_append, List.length_cons, List.length_nil, List.getElem?_cons_zero, List.getElem?_cons_succ, Option.some.injEq, exists_eq_left', exists_eq_left, List.set_cons_zero, List.set_cons_succ, List.cons.injEq, and_true, true_and, V.int.injEq, V.str.injEq, V.bl.injEq, V.ref.injEq, V.ty.injEq, exists_and_left, exists_and_right, List.append_nil, reduceCtorEq, false_and, and_false, exists_false, or_false, false_or, decide_true, decide_false, Bool.not_true, Bool.not_false, if_true, if_false, Bool.false_eq_true, ite_true, ite_false, and_assoc, Nat.reduceAdd, Nat.reduceSub, List.replicate_succ, List.replicate_zero, Nat.zero_add, Nat.add_zero, Nat.sub_self])
      have hl2 := tS_len hG (by omega)
      refine ⟨p, _, _, _, rfl, rfl, .of hp, atI_nat (j := 1) rfl, x, s, ns, kds, rfl, hs, hG, by omega, by omega, fun H1 s1 => ⟨_, rfl, small_line (by show 1 + _ ≤ _; omega), k' _ _ ?_ s1⟩⟩
      rw [PySem.W.KT.app_list]
      simp only [txt]
      rfl
    | many o ss =>
      simp only [Sx] at hS
      simp only [Good] at hG
      simp only [lev] at hL
      simp only [cnt] at hC
      obtain ⟨p, q, xs, rfl, hp, hq, hs⟩ := hS
      have hxl := hs.len
      have hsl := len_le_cnts ss
      have hkl := fun j => kt_len j hG
      have hsm := sum_tS hG
      refine ⟨p, _, _, _, rfl, rfl, .of hp, atI_nat (j := 0) rfl, ?_⟩
      have key : ∀ jz : Str, jz.cps.toList = [jt o] → CompW (Itt K q) (gName 0) tYes (tCall (sp_shown_sieve K dp) [] E0 (tCons (tVar 0) tNil))
          (fun ys H' => ∀ (D : Addr), H' D = none → rJoin K (V.str jz) [V.ref D] (upd H' D (HO.lst ys)) fun x_2 H1 =>
            jCons (tC (V.str (Str.ofString "("))) (jCons (tFmt (tVar 2)) (jCons (tFmt (tVar 3)) (jCons (tC (V.str (Str.ofString ")"))) jNil))) Str.empty [some (V.ref p), some (V.str (mw o)), some (V.str jz), some x_2] H1 Q)
          [none, some (V.ref p), some (V.str (mw o)), some (V.str jz), none] H := by
        intro jz hj
        have hjl : jz.length = 1 := by rw [← len_cps, hj]; rfl
        refine comp_walk (walk_tup (xs := xs)) (small_line (by omega)) (fun i ys H' => Same H H' ∧ ys = ((ss.take i).map tS).map V.str) ⟨Same.refl _, rfl⟩ (fun _ _ H' _ q' => q'.1.seqT (.of hq)) (fun i ys H' q' => by rw [q'.2, List.length_map, List.length_map, List.length_take]; exact Nat.min_le_left _ _) (fun i x ys H3 hx q' => ?_) (fun ys H3 q' D hD => ?_)
        · obtain ⟨t1, rfl⟩ := q'
          obtain ⟨s', hs', hx'⟩ := hs.at hx
          have l1 := levs_at hs'
          have l2 := lev_pos s'
          have l3 := cnts_at hs'
          obtain ⟨e, rfl⟩ : ∃ e, dp = e + 1 := ⟨dp - 1, by omega⟩
          ((try dsimp only [cxOf, L2.Cx.inTry, L2.Cx.inHand]); simp only [iItems, rStarts3, rAdd, tNever, tCIn, tCGet, L2.start, tSeq, tNext, tIfS, tRet, tRetN, tAsg, tDrop, gName, tVar, tC, tOp, tUn, tCall, tCB, tCons, tNil, tTest, tB, tNot, tAnd, tOr, tAndV, tOrV, tNotV, tIf, tChain, tLst, tTup, tBM, tBM0, rI, rI0, rU, rEq, rNe, scal, tComp, iStr, iList, iTup, iRng1, iRng2, tYes, rIsP, rAll, rLenS, rLenV, rListOf, rTupleOf, tDisp, tPairs, tSl, tPart, tNoPart, rSlS, rSlL, rFind, rStarts, rIntT, rStrA, rRepS, tCallX, tRaise, tRaiseI, tTry, tAs, offE, tXF, sXset, tMethX, tMakeX, rIsX, tFld, sFld, tMeth, rSortD, rDPop, tDNewK, tDIn, tDNotIn, tDGet, sDPut, rIndexS, tStop, gSub, 
  List.map_cons, List.map_nil, List.cons_append, List.nil_append, List.length_cons, List.length_nil, List.getElem?_cons_zero, List.getElem?_cons_succ, Option.some.injEq, exists_eq_left', exists_eq_left, List.set_cons_zero, List.set_cons_succ, List.cons.injEq, and_true, true_and, V.int.injEq, V.str.injEq, V.bl.injEq, V.ref.injEq, V.ty.injEq, exists_and_left, exists_and_right, List.append_nil, reduceCtorEq, false_and, and_false, exists_false, or_false, false_or, decide_true, decide_false, Bool.not_true, Bool.not_false, if_true, if_false, Bool.false_eq_true, ite_true, ite_false, and_assoc, Nat.reduceAdd, Nat.reduceSub, List.replicate_succ, List.replicate_zero, Nat.zero_add, Nat.add_zero, Nat.sub_self])
          exact ⟨x, s', ns, kds, rfl, hx'.mono t1.t, Goods.at hG hs', by omega, by omega, fun H4 s4 => ⟨⟨_, rfl⟩, t1.trans s4, (mapS_snoc hs').symm⟩⟩
        · obtain ⟨t1, rfl⟩ := q'
          rw [hxl, List.take_length]
          have ejl : (Txt.join jz (ss.map tS)).length = (kt (jt o) ss).length := by rw [← len_cps, join_kt hj]
          have hkl2 := hkl (jt o)
          refine ⟨jz, D, ss.map tS, rfl, rfl, .of upd_same, by rw [hjl, List.length_map]; omega, ?_⟩
          have ee : Str.empty.length = 0 := rfl
          have e1 : (Str.ofString "(").length = 1 := by decide
          have e2 : (Str.ofString ")").length = 1 := by decide
          simp only [jCons, jNil, tFmt]
          ((try dsimp only [cxOf, L2.Cx.inTry, L2.Cx.inHand]); simp only [iItems, rStarts3, rAdd, tNever, tCIn, tCGet, L2.start, tSeq, tNext, tIfS, tRet, tRetN, tAsg, tDrop, gName, tVar, tC, tOp, tUn, tCall, tCB, tCons, tNil, tTest, tB, tNot, tAnd, tOr, tAndV, tOrV, tNotV, tIf, tChain, tLst, tTup, tBM, tBM0, rI, rI0, rU, rEq, rNe, scal, tComp, iStr, iList, iTup, iRng1, iRng2, tYes, rIsP, rAll, rLenS, rLenV, rListOf, rTupleOf, tDisp, tPairs, tSl, tPart, tNoPart, rSlS, rSlL, rFind, rStarts, rIntT, rStrA, rRepS, tCallX, tRaise, tRaiseI, tTry, tAs, offE, tXF, sXset, tMethX, tMakeX, rIsX, tFld, sFld, tMeth, rSortD, rDPop, tDNewK, tDIn, tDNotIn, tDGet, sDPut, rIndexS, tStop, gSub, 
  List.map_cons, List.map_nil, List.cons_append, List.nil_append, List.length_cons, List.length_nil, List.getElem?_cons_zero, List.getElem?_cons_succ, Option.some.injEq, exists_eq_left', exists_eq_left, List.set_cons_zero, List.set_cons_succ, List.cons.injEq, and_true, true_and, V.int.injEq, V.str.injEq, V.bl.injEq, V.ref.injEq, V.ty.injEq, exists_and_left, exists_and_right, List.append_nil, reduceCtorEq, false_and, and_false, exists_false, or_false, false_or, decide_true, decide_false, Bool.not_true, Bool.not_false, if_true, if_false, Bool.false_eq_true, ite_true, ite_false, and_assoc, Nat.reduceAdd, Nat.reduceSub, List.replicate_succ, List.replicate_zero, Nat.zero_add, Nat.add_zero, Nat.sub_self])
          simp only [app_len, ee, e1, e2, hjl, ejl]
          refine ⟨small_line (by omega), small_line (by omega), small_line (by omega), small_line (by omega), small_line (by omega), small_line (by omega), small_line (by omega), k' _ _ ?_ (t1.new hD _)⟩
          rw [PySem.W.KT.app_list, PySem.W.KT.app_list, PySem.W.KT.app_list, PySem.W.KT.app_list, hj, join_kt hj, txt_many]
          show [40] ++ [jt o] ++ kt (jt o) ss ++ [41] = _
          simp
      cases o with
      | false =>
        simp only [mw, Bool.false_eq_true, if_false] at hp key ⊢
        ((try dsimp only [cxOf, L2.Cx.inTry, L2.Cx.inHand]); simp only [iItems, rStarts3, rAdd, tNever, tCIn, tCGet, L2.start, tSeq, tNext, tIfS, tRet, tRetN, tAsg, tDrop, gName, tVar, tC, tOp, tUn, tCall, tCB, tCons, tNil, tTest, tB, tNot, tAnd, tOr, tAndV, tOrV, tNotV, tIf, tChain, tLst, tTup, tBM, tBM0, rI, rI0, rU, rEq, rNe, scal, tComp, iStr, iList, iTup, iRng1, iRng2, tYes, rIsP, rAll, rLenS, rLenV, rListOf, rTupleOf, tDisp, tPairs, tSl, tPart, tNoPart, rSlS, rSlL, rFind, rStarts, rIntT, rStrA, rRepS, tCallX, tRaise, tRaiseI, tTry, tAs, offE, tXF, sXset, tMethX, tMakeX, rIsX, tFld, sFld, tMeth, rSortD, rDPop, tDNewK, tDIn, tDNotIn, tDGet, sDPut, rIndexS, tStop, gSub, 
  List.map_cons, List.map_nil, List.cons_append, List.nil_append, List.length_cons, List.length_nil, List.getElem?_cons_zero, List.getElem?_cons_succ, Option.some.injEq, exists_eq_left', exists_eq_left, List.set_cons_zero, List.set_cons_succ, List.cons.injEq, and_true, true_and, V.int.injEq, V.str.injEq, V.bl.injEq, V.ref.injEq, V.ty.injEq, exists_and_left, exists_and_right, List.append_nil, reduceCtorEq, false_and, and_false, exists_false, or_false, false_or, decide_true, decide_false, Bool.not_true, Bool.not_false, if_true, if_false, Bool.false_eq_true, ite_true, ite_false, and_assoc, Nat.reduceAdd, Nat.reduceSub, List.replicate_succ, List.replicate_zero, Nat.zero_add, Nat.add_zero, Nat.sub_self])
        rw [if_neg (by decide), if_neg (by decide), if_neg (by decide)]
        exact ⟨_, (by rfl : cdAt _ _ = some (Str.ofString "&")), rfl, p, _, _, _, rfl, rfl, .of hp, atI_nat (j := 1) rfl, q, rfl, ⟨_, .of hq⟩, key (Str.ofString "&") (by decide)⟩
      | true =>
        simp only [mw, if_true] at hp key ⊢
        ((try dsimp only [cxOf, L2.Cx.inTry, L2.Cx.inHand]); simp only [iItems, rStarts3, rAdd, tNever, tCIn, tCGet, L2.start, tSeq, tNext, tIfS, tRet, tRetN, tAsg, tDrop, gName, tVar, tC, tOp, tUn, tCall, tCB, tCons, tNil, tTest, tB, tNot, tAnd, tOr, tAndV, tOrV, tNotV, tIf, tChain, tLst, tTup, tBM, tBM0, rI, rI0, rU, rEq, rNe, scal, tComp, iStr, iList, iTup, iRng1, iRng2, tYes, rIsP, rAll, rLenS, rLenV, rListOf, rTupleOf, tDisp, tPairs, tSl, tPart, tNoPart, rSlS, rSlL, rFind, rStarts, rIntT, rStrA, rRepS, tCallX, tRaise, tRaiseI, tTry, tAs, offE, tXF, sXset, tMethX, tMakeX, rIsX, tFld, sFld, tMeth, rSortD, rDPop, tDNewK, tDIn, tDNotIn, tDGet, sDPut, rIndexS, tStop, gSub, 
  List.map_cons, List.map_nil, List.cons_append, List.nil_append, List.length_cons, List.length_nil, List.getElem?_cons_zero, List.getElem?_cons_succ, Option.some.injEq, exists_eq_left', exists_eq_left, List.set_cons_zero, List.set_cons_succ, List.cons.injEq, and_true, true_and, V.int.injEq, V.str.injEq, V.bl.injEq, V.ref.injEq, V.ty.injEq, exists_and_left, exists_and_right, List.append_nil, reduceCtorEq, false_and, and_false, exists_false, or_false, false_or, decide_true, decide_false, Bool.not_true, Bool.not_false, if_true, if_false, Bool.false_eq_true, ite_true, ite_false, and_assoc, Nat.reduceAdd, Nat.reduceSub, List.replicate_succ, List.replicate_zero, Nat.zero_add, Nat.add_zero, Nat.sub_self])
        rw [if_neg (by decide), if_neg (by decide), if_neg (by decide)]
        exact ⟨_, (by rfl : cdAt _ _ = some (Str.ofString "|")), rfl, p, _, _, _, rfl, rfl, .of hp, atI_nat (j := 1) rfl, q, rfl, ⟨_, .of hq⟩, key (Str.ofString "|") (by decide)⟩
theorem ok_shown_sieve (T : Txt w K mg f fd) : ∀ dp : Nat, FnOk P w K mg base CX0 (2 + dp) (f 29) (fd 29) ["sieve"] (sp_shown_sieve K dp)
  | 0 => ⟨fun _ _ _ _ h => False.elim h, fun _ _ _ _ _ _ _ _ _ _ _ _ _ h => False.elim h⟩
  | dp + 1 => st_shown_sieve T dp (ok_shown_sieve T dp)
theorem goods_take {ns kds : List Str} : ∀ {ss : List Sv} {i : Nat}, Goods ns kds ss → Goods ns kds (ss.take i)
  | [], i, h => by rw [List.take_nil]; exact h
  | s :: ss, 0, h => by simp only [List.take_zero, Goods]
  | s :: ss, i + 1, h => by simp only [List.take_succ_cons, Goods] at h ⊢; exact ⟨h.1, goods_take h.2⟩
theorem cnts_take : ∀ (ss : List Sv) (i : Nat), cnts (ss.take i) ≤ cnts ss
  | [], i => by rw [List.take_nil]; exact Nat.le_refl _
  | s :: ss, 0 => by simp only [List.take_zero, cnts]; omega
  | s :: ss, i + 1 => by simp only [List.take_succ_cons, cnts]; have := cnts_take ss i; omega
noncomputable def sp_l_text (K : PySem.W.Frag) : Nat → Sp
  | 0 => fun _ _ _ _ => False
  | d + 1 => fun vs H Q _ => ∃ v s ns kds, vs = [v] ∧ Sx H s v ∧ Good ns kds s ∧ lev s ≤ d + 1 ∧ cnt s ≤ 60 ∧ ∀ H', Same H H' → Q (.str (tS s)) H'
theorem st_l_text (T : Txt w K mg f fd) (dp : Nat) (ih : FnOk P w K mg base CX0 (2 + dp) (f 44) (fd 44) ["_law_sieve"] (sp_l_text K dp)) : FnOk P w K mg base CX0 (2 + dp + 1) (f 44) (fd 44) ["_law_sieve"] (sp_l_text K (dp + 1)) := by
  refine T.d_l_text.F.ok sc_l_text (fun vs H Q E h => ?_) (fun cdv A outer s H vs Q E hr h => ?_)
  · obtain ⟨v, s, ns, kds, rfl, _⟩ := h
    rfl
  · obtain ⟨v, s, ns, kds, rfl, hS, hG, hL, hC, k⟩ := h
    have hln := tS_len hG hC
    have k' : ∀ (z : Str) (H' : Hp), z.cps.toList = txt s → Same H H' → Q (.str z) H' := fun z H' e s1 => by
      rw [str_of_cps e]
      exact k H' s1
    refine ⟨_, (pss_cons (ps_if (pt_cmpR op_eq (pe_ix (k_ixT rfl) (pvl 0) pe_int (fun _ _ => rfl)) pe_str (nomark _))
     (pss_one (ps_ret (pe_op op_add_str pe_str (pe_defL T.d_l_text ih (hr.mono (by omega)) rfl (by decide) rfl (pal rfl (pe_ix (k_ixT rfl) (pvl 0) pe_int (fun _ _ => rfl)) pa_nil)))))
     pss_nil)
     (pss_cons (ps_if (pt_cmpR op_eq (pe_ix (k_ixT rfl) (pvl 0) pe_int (fun _ _ => rfl)) pe_str (nomark _))
     (pss_one (ps_ret (pe_op op_add_str (pe_ix (k_ixT rfl) (pvl 0) pe_int (fun _ _ => rfl)) pe_str)))
     pss_nil)
     (pss_cons (ps_if (pt_cmpR (k_in rfl) (pe_ix (k_ixT rfl) (pvl 0) pe_int (fun _ _ => rfl)) (pe_lst (pal rfl pe_str (pal rfl pe_str (pal rfl pe_str pa_nil)))) rfl)
     (pss_one (ps_ret (pe_op op_add_str (pe_op op_add_str (pe_ix (k_ixT rfl) (pvl 0) pe_int (fun _ _ => rfl)) (pe_dget (hu_of hr) (pe_disp (pps_cons pe_str pe_str (pps_cons pe_str pe_str (pps_cons pe_str pe_str pps_nil))) rfl rfl (List.cons_ne_nil _ _) (by show 3 ≤ 15; decide)) (pe_ix (k_ixT rfl) (pvl 0) pe_int (fun _ _ => rfl)) (fun _ _ => rfl))) (pe_defL T.d_l_written (ok_l_written T) (hr.mono (by omega)) rfl (by decide) rfl (pal rfl (pe_ix (k_ixT rfl) (pvl 0) pe_int (fun _ _ => rfl)) pa_nil)))))
     pss_nil)
     (pss_cons (psl 1 sc_l_text.nd (pe_dget (hu_of hr) (pe_disp (pps_cons pe_str pe_str (pps_cons pe_str pe_str pps_nil)) rfl rfl (List.cons_ne_nil _ _) (by show 2 ≤ 15; decide)) (pe_ix (k_ixT rfl) (pvl 0) pe_int (fun _ _ => rfl)) (fun _ _ => rfl)))
     (pss_cons (psl 2 sc_l_text.nd (pe_op op_add_str pe_str (pvl 1)))
     (pss_cons (ps_for PassesOwn.never rfl (pi_range1 rfl T.n_range (pal rfl (pe_cB (k_len rfl) T.n_len bt_len rfl (by decide) (by decide) rfl (pal rfl (pe_ix (k_ixT rfl) (pvl 0) pe_int (fun _ _ => rfl)) pa_nil)) pa_nil)) (pgl 3 sc_l_text.nd)
     (pss_cons (ps_if (pt_cmpR op_gt (pvl 3) pe_int (nomark _))
     (pss_one (psl 2 sc_l_text.nd (pe_op op_add_str (pvl 2) (pvl 1))))
     pss_nil)
     (pss_one (psl 2 sc_l_text.nd (pe_op op_add_str (pvl 2) (pe_defL T.d_l_text ih (hr.mono (by omega)) rfl (by decide) rfl (pal rfl (pe_ix (k_ixT rfl) (pe_ix (k_ixT rfl) (pvl 0) pe_int (fun _ _ => rfl)) (pvl 3) (fun _ _ => rfl)) pa_nil)))))))
     (pss_one (ps_ret (pe_op op_add_str (pvl 2) pe_str))))))))), ?_⟩
    ((try dsimp only [cxOf, L2.Cx.inTry, L2.Cx.inHand]); simp only [iItems, rStarts3, rAdd, tNever, tCIn, tCGet, L2.start, tSeq, tNext, tIfS, tRet, tRetN, tAsg, tDrop, gName, tVar, tC, tOp, tUn, tCall, tCB, tCons, tNil, tTest, tB, tNot, tAnd, tOr, tAndV, tOrV, tNotV, tIf, tChain, tLst, tTup, tBM, tBM0, rI, rI0, rU, rEq, rNe, scal, tComp, iStr, iList, iTup, iRng1, iRng2, tYes, rIsP, rAll, rLenS, rLenV, rListOf, rTupleOf, tDisp, tPairs, tSl, tPart, tNoPart, rSlS, rSlL, rFind, rStarts, rIntT, rStrA, rRepS, tCallX, tRaise, tRaiseI, tTry, tAs, offE, tXF, sXset, tMethX, tMakeX, rIsX, tFld, sFld, tMeth, rSortD, rDPop, tDNewK, tDIn, tDNotIn, tDGet, sDPut, rIndexS, tStop, gSub, 
  List.map_cons, List.map_nil, List.cons_append, List.nil_append, List.length_cons, List.length_nil, List.getElem?_cons_zero, List.getElem?_cons_succ, Option.some.injEq, exists_eq_left', exists_eq_left, List.set_cons_zero, List.set_cons_succ, List.cons.injEq, and_true, true_and, V.int.injEq, V.str.injEq, V.bl.injEq, V.ref.injEq, V.ty.injEq, exists_and_left, exists_and_right, List.append_nil, reduceCtorEq, false_and, and_false, exists_false, or_false, false_or, decide_true, decide_false, Bool.not_true, Bool.not_false, if_true, if_false, Bool.false_eq_true, ite_true, ite_false, and_assoc, Nat.reduceAdd, Nat.reduceSub, List.replicate_succ, List.replicate_zero, Nat.zero_add, Nat.add_zero, Nat.sub_self])
    cases s with
    | lacks n =>
      simp only [Sx] at hS
      simp only [Good] at hG
      obtain ⟨p, rfl, hp⟩ := hS
      refine ⟨p, _, _, _, rfl, rfl, .of hp, atI_nat (j := 0) rfl, ?_⟩
      ((try dsimp only [cxOf, L2.Cx.inTry, L2.Cx.inHand]); simp only [iItems, rStarts3, rAdd, tNever, tCIn, tCGet, L2.start, tSeq, tNext, tIfS, tRet, tRetN, tAsg, tDrop, gName, tVar, tC, tOp, tUn, tCall, tCB, tCons, tNil, tTest, tB, tNot, tAnd, tOr, tAndV, tOrV, tNotV, tIf, tChain, tLst, tTup, tBM, tBM0, rI, rI0, rU, rEq, rNe, scal, tComp, iStr, iList, iTup, iRng1, iRng2, tYes, rIsP, rAll, rLenS, rLenV, rListOf, rTupleOf, tDisp, tPairs, tSl, tPart, tNoPart, rSlS, rSlL, rFind, rStarts, rIntT, rStrA, rRepS, tCallX, tRaise, tRaiseI, tTry, tAs, offE, tXF, sXset, tMethX, tMakeX, rIsX, tFld, sFld, tMeth, rSortD, rDPop, tDNewK, tDIn, tDNotIn, tDGet, sDPut, rIndexS, tStop, gSub, 
  List.map_cons, List.map_nil, List.cons_append, List.nil_append, List.length_cons, List.length_nil, List.getElem?_cons_zero, List.getElem?_cons_succ, Option.some.injEq, exists_eq_left', exists_eq_left, List.set_cons_zero, List.set_cons_succ, List.cons.injEq, and_true, true_and, V.int.injEq, V.str.injEq, V.bl.injEq, V.ref.injEq, V.ty.injEq, exists_and_left, exists_and_right, List.append_nil, reduceCtorEq, false_and, and_false, exists_false, or_false, false_or, decide_true, decide_false, Bool.not_true, Bool.not_false, if_true, if_false, Bool.false_eq_true, ite_true, ite_false, and_assoc, Nat.reduceAdd, Nat.reduceSub, List.replicate_succ, List.replicate_zero, Nat.zero_add, Nat.add_zero, Nat.sub_self])
      rw [if_neg (by decide)]
      refine ⟨p, _, _, _, rfl, rfl, .of hp, atI_nat (j := 0) rfl, ?_⟩
      ((try dsimp only [cxOf, L2.Cx.inTry, L2.Cx.inHand]); simp only [iItems, rStarts3, rAdd, tNever, tCIn, tCGet, L2.start, tSeq, tNext, tIfS, tRet, tRetN, tAsg, tDrop, gName, tVar, tC, tOp, tUn, tCall, tCB, tCons, tNil, tTest, tB, tNot, tAnd, tOr, tAndV, tOrV, tNotV, tIf, tChain, tLst, tTup, tBM, tBM0, rI, rI0, rU, rEq, rNe, scal, tComp, iStr, iList, iTup, iRng1, iRng2, tYes, rIsP, rAll, rLenS, rLenV, rListOf, rTupleOf, tDisp, tPairs, tSl, tPart, tNoPart, rSlS, rSlL, rFind, rStarts, rIntT, rStrA, rRepS, tCallX, tRaise, tRaiseI, tTry, tAs, offE, tXF, sXset, tMethX, tMakeX, rIsX, tFld, sFld, tMeth, rSortD, rDPop, tDNewK, tDIn, tDNotIn, tDGet, sDPut, rIndexS, tStop, gSub, 
  List.map_cons, List.map_nil, List.cons_append, List.nil_append, List.length_cons, List.length_nil, List.getElem?_cons_zero, List.getElem?_cons_succ, Option.some.injEq, exists_eq_left', exists_eq_left, List.set_cons_zero, List.set_cons_succ, List.cons.injEq, and_true, true_and, V.int.injEq, V.str.injEq, V.bl.injEq, V.ref.injEq, V.ty.injEq, exists_and_left, exists_and_right, List.append_nil, reduceCtorEq, false_and, and_false, exists_false, or_false, false_or, decide_true, decide_false, Bool.not_true, Bool.not_false, if_true, if_false, Bool.false_eq_true, ite_true, ite_false, and_assoc, Nat.reduceAdd, Nat.reduceSub, List.replicate_succ, List.replicate_zero, Nat.zero_add, Nat.add_zero, Nat.sub_self])
      have h12 := hG.1.2.1
      refine ⟨p, _, _, _, rfl, rfl, .of hp, atI_nat (j := 1) rfl, n, rfl, small_line (by show n.length + 1 ≤ _; omega), k' _ _ ?_ (Same.refl _)⟩
      rw [PySem.W.KT.app_list]
      simp only [txt]
      rfl
    | is n x =>
      simp only [Sx] at hS
      simp only [Good] at hG
      obtain ⟨p, rfl, hp⟩ := hS
      obtain ⟨hn, jj, kd, _, _, hx⟩ := hG
      refine ⟨p, _, _, _, rfl, rfl, .of hp, atI_nat (j := 0) rfl, ?_⟩
      ((try dsimp only [cxOf, L2.Cx.inTry, L2.Cx.inHand]); simp only [iItems, rStarts3, rAdd, tNever, tCIn, tCGet, L2.start, tSeq, tNext, tIfS, tRet, tRetN, tAsg, tDrop, gName, tVar, tC, tOp, tUn, tCall, tCB, tCons, tNil, tTest, tB, tNot, tAnd, tOr, tAndV, tOrV, tNotV, tIf, tChain, tLst, tTup, tBM, tBM0, rI, rI0, rU, rEq, rNe, scal, tComp, iStr, iList, iTup, iRng1, iRng2, tYes, rIsP, rAll, rLenS, rLenV, rListOf, rTupleOf, tDisp, tPairs, tSl, tPart, tNoPart, rSlS, rSlL, rFind, rStarts, rIntT, rStrA, rRepS, tCallX, tRaise, tRaiseI, tTry, tAs, offE, tXF, sXset, tMethX, tMakeX, rIsX, tFld, sFld, tMeth, rSortD, rDPop, tDNewK, tDIn, tDNotIn, tDGet, sDPut, rIndexS, tStop, gSub, 
  List.map_cons, List.map_nil, List.cons_append, List.nil_append, List.length_cons, List.length_nil, List.getElem?_cons_zero, List.getElem?_cons_succ, Option.some.injEq, exists_eq_left', exists_eq_left, List.set_cons_zero, List.set_cons_succ, List.cons.injEq, and_true, true_and, V.int.injEq, V.str.injEq, V.bl.injEq, V.ref.injEq, V.ty.injEq, exists_and_left, exists_and_right, List.append_nil, reduceCtorEq, false_and, and_false, exists_false, or_false, false_or, decide_true, decide_false, Bool.not_true, Bool.not_false, if_true, if_false, Bool.false_eq_true, ite_true, ite_false, and_assoc, Nat.reduceAdd, Nat.reduceSub, List.replicate_succ, List.replicate_zero, Nat.zero_add, Nat.add_zero, Nat.sub_self])
      rw [if_neg (by decide)]
      refine ⟨p, _, _, _, rfl, rfl, .of hp, atI_nat (j := 0) rfl, ?_⟩
      ((try dsimp only [cxOf, L2.Cx.inTry, L2.Cx.inHand]); simp only [iItems, rStarts3, rAdd, tNever, tCIn, tCGet, L2.start, tSeq, tNext, tIfS, tRet, tRetN, tAsg, tDrop, gName, tVar, tC, tOp, tUn, tCall, tCB, tCons, tNil, tTest, tB, tNot, tAnd, tOr, tAndV, tOrV, tNotV, tIf, tChain, tLst, tTup, tBM, tBM0, rI, rI0, rU, rEq, rNe, scal, tComp, iStr, iList, iTup, iRng1, iRng2, tYes, rIsP, rAll, rLenS, rLenV, rListOf, rTupleOf, tDisp, tPairs, tSl, tPart, tNoPart, rSlS, rSlL, rFind, rStarts, rIntT, rStrA, rRepS, tCallX, tRaise, tRaiseI, tTry, tAs, offE, tXF, sXset, tMethX, tMakeX, rIsX, tFld, sFld, tMeth, rSortD, rDPop, tDNewK, tDIn, tDNotIn, tDGet, sDPut, rIndexS, tStop, gSub, 
  List.map_cons, List.map_nil, List.cons_append, List.nil_append, List.length_cons, List.length_nil, List.getElem?_cons_zero, List.getElem?_cons_succ, Option.some.injEq, exists_eq_left', exists_eq_left, List.set_cons_zero, List.set_cons_succ, List.cons.injEq, and_true, true_and, V.int.injEq, V.str.injEq, V.bl.injEq, V.ref.injEq, V.ty.injEq, exists_and_left, exists_and_right, List.append_nil, reduceCtorEq, false_and, and_false, exists_false, or_false, false_or, decide_true, decide_false, Bool.not_true, Bool.not_false, if_true, if_false, Bool.false_eq_true, ite_true, ite_false, and_assoc, Nat.reduceAdd, Nat.reduceSub, List.replicate_succ, List.replicate_zero, Nat.zero_add, Nat.add_zero, Nat.sub_self])
      rw [if_neg (by decide)]
      have h12 := hn.2.1
      have hw := (wr_len hx).2
      rw [len_cps] at hw
      refine ⟨p, _, _, _, rfl, rfl, .of hp, atI_nat (j := 0) rfl, small_line (by decide), fun q hq => ?_⟩
      have u := Same.upd_new hq (HO.lst [V.str (Str.ofString "is"), V.str (Str.ofString "under"), V.str (Str.ofString "over")])
      have gq : upd H q (HO.lst [V.str (Str.ofString "is"), V.str (Str.ofString "under"), V.str (Str.ofString "over")]) q = some (HO.lst [V.str (Str.ofString "is"), V.str (Str.ofString "under"), V.str (Str.ofString "over")]) := upd_same
      generalize upd H q (HO.lst [V.str (Str.ofString "is"), V.str (Str.ofString "under"), V.str (Str.ofString "over")]) = H2 at *
      refine ⟨q, _, rfl, .inl (.of gq), by rfl, by decide, _, rfl, ?_⟩
      rw [if_neg Bool.false_ne_true, if_pos (by decide)]
      refine ⟨p, _, _, _, rfl, rfl, .of (u _ _ hp), atI_nat (j := 1) rfl, fun pd hpd => ⟨upd_same, [(.inr "is", .str "="), (.inr "under", .str "<"), (.inr "over", .str ">")], rfl, (by show 3 ≤ 15; decide), ?_⟩⟩
      rw [upd_upd]
      have u2 := Same.upd_new hpd (HO.dK (mergeK [] [(.inr "is", .str "="), (.inr "under", .str "<"), (.inr "over", .str ">")]))
      have gd : upd H2 pd (HO.dK (mergeK [] [(.inr "is", .str "="), (.inr "under", .str "<"), (.inr "over", .str ">")])) pd = some (HO.dK (mergeK [] [(.inr "is", .str "="), (.inr "under", .str "<"), (.inr "over", .str ">")])) := upd_same
      generalize upd H2 pd (HO.dK (mergeK [] [(.inr "is", .str "="), (.inr "under", .str "<"), (.inr "over", .str ">")])) = H3 at *
      refine ⟨p, _, _, _, rfl, rfl, .of ((u.trans u2) _ _ hp), atI_nat (j := 0) rfl, _, wget gd (by rfl : _ = some (V.str (Str.ofString "="))), n, rfl, _, rfl, small_line (by show n.length + 1 ≤ _; omega), p, _, _, _, rfl, rfl, .of ((u.trans u2) _ _ hp), atI_nat (j := 2) rfl, x, _, rfl, hx, fun H4 s4 => ⟨_, rfl, small_line (by rw [app_len]; show n.length + 1 + _ ≤ _; omega), k' _ _ ?_ ((u.trans u2).trans s4)⟩⟩
      rw [PySem.W.KT.app_list, PySem.W.KT.app_list]
      simp only [txt]
      rw [List.append_assoc]
      rfl
    | bnd o n i =>
      simp only [Sx] at hS
      simp only [Good] at hG
      obtain ⟨p, rfl, hp⟩ := hS
      obtain ⟨hn, _, hi⟩ := hG
      have h12 := hn.2.1
      have hw : (wr (.int i)).length ≤ 61 := by
        rw [← len_cps]
        exact (num_len hi).2
      refine ⟨p, _, _, _, rfl, rfl, .of hp, atI_nat (j := 0) rfl, ?_⟩
      cases o with
      | false =>
        simp only [bw, Bool.false_eq_true, if_false] at hp ⊢
        ((try dsimp only [cxOf, L2.Cx.inTry, L2.Cx.inHand]); simp only [iItems, rStarts3, rAdd, tNever, tCIn, tCGet, L2.start, tSeq, tNext, tIfS, tRet, tRetN, tAsg, tDrop, gName, tVar, tC, tOp, tUn, tCall, tCB, tCons, tNil, tTest, tB, tNot, tAnd, tOr, tAndV, tOrV, tNotV, tIf, tChain, tLst, tTup, tBM, tBM0, rI, rI0, rU, rEq, rNe, scal, tComp, iStr, iList, iTup, iRng1, iRng2, tYes, rIsP, rAll, rLenS, rLenV, rListOf, rTupleOf, tDisp, tPairs, tSl, tPart, tNoPart, rSlS, rSlL, rFind, rStarts, rIntT, rStrA, rRepS, tCallX, tRaise, tRaiseI, tTry, tAs, offE, tXF, sXset, tMethX, tMakeX, rIsX, tFld, sFld, tMeth, rSortD, rDPop, tDNewK, tDIn, tDNotIn, tDGet, sDPut, rIndexS, tStop, gSub, 
  List.map_cons, List.map_nil, List.cons_append, List.nil_append, List.length_cons, List.length_nil, List.getElem?_cons_zero, List.getElem?_cons_succ, Option.some.injEq, exists_eq_left', exists_eq_left, List.set_cons_zero, List.set_cons_succ, List.cons.injEq, and_true, true_and, V.int.injEq, V.str.injEq, V.bl.injEq, V.ref.injEq, V.ty.injEq, exists_and_left, exists_and_right, List.append_nil, reduceCtorEq, false_and, and_false, exists_false, or_false, false_or, decide_true, decide_false, Bool.not_true, Bool.not_false, if_true, if_false, Bool.false_eq_true, ite_true, ite_false, and_assoc, Nat.reduceAdd, Nat.reduceSub, List.replicate_succ, List.replicate_zero, Nat.zero_add, Nat.add_zero, Nat.sub_self])
        rw [if_neg (by decide)]
        refine ⟨p, _, _, _, rfl, rfl, .of hp, atI_nat (j := 0) rfl, ?_⟩
        ((try dsimp only [cxOf, L2.Cx.inTry, L2.Cx.inHand]); simp only [iItems, rStarts3, rAdd, tNever, tCIn, tCGet, L2.start, tSeq, tNext, tIfS, tRet, tRetN, tAsg, tDrop, gName, tVar, tC, tOp, tUn, tCall, tCB, tCons, tNil, tTest, tB, tNot, tAnd, tOr, tAndV, tOrV, tNotV, tIf, tChain, tLst, tTup, tBM, tBM0, rI, rI0, rU, rEq, rNe, scal, tComp, iStr, iList, iTup, iRng1, iRng2, tYes, rIsP, rAll, rLenS, rLenV, rListOf, rTupleOf, tDisp, tPairs, tSl, tPart, tNoPart, rSlS, rSlL, rFind, rStarts, rIntT, rStrA, rRepS, tCallX, tRaise, tRaiseI, tTry, tAs, offE, tXF, sXset, tMethX, tMakeX, rIsX, tFld, sFld, tMeth, rSortD, rDPop, tDNewK, tDIn, tDNotIn, tDGet, sDPut, rIndexS, tStop, gSub, 
  List.map_cons, List.map_nil, List.cons_append, List.nil_append, List.length_cons, List.length_nil, List.getElem?_cons_zero, List.getElem?_cons_succ, Option.some.injEq, exists_eq_left', exists_eq_left, List.set_cons_zero, List.set_cons_succ, List.cons.injEq, and_true, true_and, V.int.injEq, V.str.injEq, V.bl.injEq, V.ref.injEq, V.ty.injEq, exists_and_left, exists_and_right, List.append_nil, reduceCtorEq, false_and, and_false, exists_false, or_false, false_or, decide_true, decide_false, Bool.not_true, Bool.not_false, if_true, if_false, Bool.false_eq_true, ite_true, ite_false, and_assoc, Nat.reduceAdd, Nat.reduceSub, List.replicate_succ, List.replicate_zero, Nat.zero_add, Nat.add_zero, Nat.sub_self])
        rw [if_neg (by decide)]
        refine ⟨p, _, _, _, rfl, rfl, .of hp, atI_nat (j := 0) rfl, small_line (by decide), fun q hq => ?_⟩
        have u := Same.upd_new hq (HO.lst [V.str (Str.ofString "is"), V.str (Str.ofString "under"), V.str (Str.ofString "over")])
        have gq : upd H q (HO.lst [V.str (Str.ofString "is"), V.str (Str.ofString "under"), V.str (Str.ofString "over")]) q = some (HO.lst [V.str (Str.ofString "is"), V.str (Str.ofString "under"), V.str (Str.ofString "over")]) := upd_same
        generalize upd H q (HO.lst [V.str (Str.ofString "is"), V.str (Str.ofString "under"), V.str (Str.ofString "over")]) = H2 at *
        refine ⟨q, _, rfl, .inl (.of gq), by rfl, by decide, _, rfl, ?_⟩
        rw [if_neg Bool.false_ne_true, if_pos (by decide)]
        refine ⟨p, _, _, _, rfl, rfl, .of (u _ _ hp), atI_nat (j := 1) rfl, fun pd hpd => ⟨upd_same, [(.inr "is", .str "="), (.inr "under", .str "<"), (.inr "over", .str ">")], rfl, (by show 3 ≤ 15; decide), ?_⟩⟩
        rw [upd_upd]
        have u2 := Same.upd_new hpd (HO.dK (mergeK [] [(.inr "is", .str "="), (.inr "under", .str "<"), (.inr "over", .str ">")]))
        have gd : upd H2 pd (HO.dK (mergeK [] [(.inr "is", .str "="), (.inr "under", .str "<"), (.inr "over", .str ">")])) pd = some (HO.dK (mergeK [] [(.inr "is", .str "="), (.inr "under", .str "<"), (.inr "over", .str ">")])) := upd_same
        generalize upd H2 pd (HO.dK (mergeK [] [(.inr "is", .str "="), (.inr "under", .str "<"), (.inr "over", .str ">")])) = H3 at *
        refine ⟨p, _, _, _, rfl, rfl, .of ((u.trans u2) _ _ hp), atI_nat (j := 0) rfl, _, wget gd (by rfl : _ = some (V.str (Str.ofString "<"))), n, rfl, _, rfl, small_line (by show n.length + 1 ≤ _; omega), p, _, _, _, rfl, rfl, .of ((u.trans u2) _ _ hp), atI_nat (j := 2) rfl, .int i, _, rfl, .inr ⟨rfl, i, rfl, hi⟩, fun H4 s4 => ⟨_, rfl, small_line (by rw [app_len]; show n.length + 1 + _ ≤ _; omega), k' _ _ ?_ ((u.trans u2).trans s4)⟩⟩
        rw [PySem.W.KT.app_list, PySem.W.KT.app_list]
        simp only [txt, bm]
        rw [List.append_assoc]
        rfl
      | true =>
        simp only [bw, if_true] at hp ⊢
        ((try dsimp only [cxOf, L2.Cx.inTry, L2.Cx.inHand]); simp only [iItems, rStarts3, rAdd, tNever, tCIn, tCGet, L2.start, tSeq, tNext, tIfS, tRet, tRetN, tAsg, tDrop, gName, tVar, tC, tOp, tUn, tCall, tCB, tCons, tNil, tTest, tB, tNot, tAnd, tOr, tAndV, tOrV, tNotV, tIf, tChain, tLst, tTup, tBM, tBM0, rI, rI0, rU, rEq, rNe, scal, tComp, iStr, iList, iTup, iRng1, iRng2, tYes, rIsP, rAll, rLenS, rLenV, rListOf, rTupleOf, tDisp, tPairs, tSl, tPart, tNoPart, rSlS, rSlL, rFind, rStarts, rIntT, rStrA, rRepS, tCallX, tRaise, tRaiseI, tTry, tAs, offE, tXF, sXset, tMethX, tMakeX, rIsX, tFld, sFld, tMeth, rSortD, rDPop, tDNewK, tDIn, tDNotIn, tDGet, sDPut, rIndexS, tStop, gSub, 
  List.map_cons, List.map_nil, List.cons_append, List.nil_append, List.length_cons, List.length_nil, List.getElem?_cons_zero, List.getElem?_cons_succ, Option.some.injEq, exists_eq_left', exists_eq_left, List.set_cons_zero, List.set_cons_succ, List.cons.injEq, and_true, true_and, V.int.injEq, V.str.injEq, V.bl.injEq, V.ref.injEq, V.ty.injEq, exists_and_left, exists_and_right, List.append_nil, reduceCtorEq, false_and, and_false, exists_false, or_false, false_or, decide_true, decide_false, Bool.not_true, Bool.not_false, if_true, if_false, Bool.false_eq_true, ite_true, ite_false, and_assoc, Nat.reduceAdd, Nat.reduceSub, List.replicate_succ, List.replicate_zero, Nat.zero_add, Nat.add_zero, Nat.sub_self])
        rw [if_neg (by decide)]
        refine ⟨p, _, _, _, rfl, rfl, .of hp, atI_nat (j := 0) rfl, ?_⟩
        ((try dsimp only [cxOf, L2.Cx.inTry, L2.Cx.inHand]); simp only [iItems, rStarts3, rAdd, tNever, tCIn, tCGet, L2.start, tSeq, tNext, tIfS, tRet, tRetN, tAsg, tDrop, gName, tVar, tC, tOp, tUn, tCall, tCB, tCons, tNil, tTest, tB, tNot, tAnd, tOr, tAndV, tOrV, tNotV, tIf, tChain, tLst, tTup, tBM, tBM0, rI, rI0, rU, rEq, rNe, scal, tComp, iStr, iList, iTup, iRng1, iRng2, tYes, rIsP, rAll, rLenS, rLenV, rListOf, rTupleOf, tDisp, tPairs, tSl, tPart, tNoPart, rSlS, rSlL, rFind, rStarts, rIntT, rStrA, rRepS, tCallX, tRaise, tRaiseI, tTry, tAs, offE, tXF, sXset, tMethX, tMakeX, rIsX, tFld, sFld, tMeth, rSortD, rDPop, tDNewK, tDIn, tDNotIn, tDGet, sDPut, rIndexS, tStop, gSub, 
  List.map_cons, List.map_nil, List.cons_append, List.nil_append, List.length_cons, List.length_nil, List.getElem?_cons_zero, List.getElem?_cons_succ, Option.some.injEq, exists_eq_left', exists_eq_left, List.set_cons_zero, List.set_cons_succ, List.cons.injEq, and_true, true_and, V.int.injEq, V.str.injEq, V.bl.injEq, V.ref.injEq, V.ty.injEq, exists_and_left, exists_and_right, List.append_nil, reduceCtorEq, false_and, and_false, exists_false, or_false, false_or, decide_true, decide_false, Bool.not_true, Bool.not_false, if_true, if_false, Bool.false_eq_true, ite_true, ite_false, and_assoc, Nat.reduceAdd, Nat.reduceSub, List.replicate_succ, List.replicate_zero, Nat.zero_add, Nat.add_zero, Nat.sub_self])
        rw [if_neg (by decide)]
        refine ⟨p, _, _, _, rfl, rfl, .of hp, atI_nat (j := 0) rfl, small_line (by decide), fun q hq => ?_⟩
        have u := Same.upd_new hq (HO.lst [V.str (Str.ofString "is"), V.str (Str.ofString "under"), V.str (Str.ofString "over")])
        have gq : upd H q (HO.lst [V.str (Str.ofString "is"), V.str (Str.ofString "under"), V.str (Str.ofString "over")]) q = some (HO.lst [V.str (Str.ofString "is"), V.str (Str.ofString "under"), V.str (Str.ofString "over")]) := upd_same
        generalize upd H q (HO.lst [V.str (Str.ofString "is"), V.str (Str.ofString "under"), V.str (Str.ofString "over")]) = H2 at *
        refine ⟨q, _, rfl, .inl (.of gq), by rfl, by decide, _, rfl, ?_⟩
        rw [if_neg Bool.false_ne_true, if_pos (by decide)]
        refine ⟨p, _, _, _, rfl, rfl, .of (u _ _ hp), atI_nat (j := 1) rfl, fun pd hpd => ⟨upd_same, [(.inr "is", .str "="), (.inr "under", .str "<"), (.inr "over", .str ">")], rfl, (by show 3 ≤ 15; decide), ?_⟩⟩
        rw [upd_upd]
        have u2 := Same.upd_new hpd (HO.dK (mergeK [] [(.inr "is", .str "="), (.inr "under", .str "<"), (.inr "over", .str ">")]))
        have gd : upd H2 pd (HO.dK (mergeK [] [(.inr "is", .str "="), (.inr "under", .str "<"), (.inr "over", .str ">")])) pd = some (HO.dK (mergeK [] [(.inr "is", .str "="), (.inr "under", .str "<"), (.inr "over", .str ">")])) := upd_same
        generalize upd H2 pd (HO.dK (mergeK [] [(.inr "is", .str "="), (.inr "under", .str "<"), (.inr "over", .str ">")])) = H3 at *
        refine ⟨p, _, _, _, rfl, rfl, .of ((u.trans u2) _ _ hp), atI_nat (j := 0) rfl, _, wget gd (by rfl : _ = some (V.str (Str.ofString ">"))), n, rfl, _, rfl, small_line (by show n.length + 1 ≤ _; omega), p, _, _, _, rfl, rfl, .of ((u.trans u2) _ _ hp), atI_nat (j := 2) rfl, .int i, _, rfl, .inr ⟨rfl, i, rfl, hi⟩, fun H4 s4 => ⟨_, rfl, small_line (by rw [app_len]; show n.length + 1 + _ ≤ _; omega), k' _ _ ?_ ((u.trans u2).trans s4)⟩⟩
        rw [PySem.W.KT.app_list, PySem.W.KT.app_list]
        simp only [txt, bm]
        rw [List.append_assoc]
        rfl
    | neg s =>
      simp only [Sx] at hS
      simp only [Good] at hG
      simp only [lev] at hL
      simp only [cnt] at hC
      obtain ⟨p, x, rfl, hp, hs⟩ := hS
      have lp := lev_pos s
      obtain ⟨e, rfl⟩ : ∃ e, dp = e + 1 := ⟨dp - 1, by omega⟩
      refine ⟨p, _, _, _, rfl, rfl, .of hp, atI_nat (j := 0) rfl, ?_⟩
      ((try dsimp only [cxOf, L2.Cx.inTry, L2.Cx.inHand]); simp only [iItems, rStarts3, rAdd, tNever, tCIn, tCGet, L2.start, tSeq, tNext, tIfS, tRet, tRetN, tAsg, tDrop, gName, tVar, tC, tOp, tUn, tCall, tCB, tCons, tNil, tTest, tB, tNot, tAnd, tOr, tAndV, tOrV, tNotV, tIf, tChain, tLst, tTup, tBM, tBM0, rI, rI0, rU, rEq, rNe, scal, tComp, iStr, iList, iTup, iRng1, iRng2, tYes, rIsP, rAll, rLenS, rLenV, rListOf, rTupleOf, tDisp, tPairs, tSl, tPart, tNoPart, rSlS, rSlL, rFind, rStarts, rIntT, rStrA, rRepS, tCallX, tRaise, tRaiseI, tTry, tAs, offE, tXF, sXset, tMethX, tMakeX, rIsX, tFld, sFld, tMeth, rSortD, rDPop, tDNewK, tDIn, tDNotIn, tDGet, sDPut, rIndexS, tStop, gSub, 
  List.map_cons, List.map_nil, List.cons_append, List.nil_append, List.length_cons, List.length_nil, List.getElem?_cons_zero, List.getElem?_cons_succ, Option.some.injEq, exists_eq_left', exists_eq_left, List.set_cons_zero, List.set_cons_succ, List.cons.injEq, and_true, true_and, V.int.injEq, V.str.injEq, V.bl.injEq, V.ref.injEq, V.ty.injEq, exists_and_left, exists_and_right, List.append_nil, reduceCtorEq, false_and, and_false, exists_false, or_false, false_or, decide_true, decide_false, Bool.not_true, Bool.not_false, if_true, if_false, Bool.false_eq_true, ite_true, ite_false, and_assoc, Nat.reduceAdd, Nat.reduceSub, List.replicate_succ, List.replicate_zero, Nat.zero_add, Nat.add_zero, Nat.sub_self])
      have hl2 := tS_len hG (by omega)
      refine ⟨p, _, _, _, rfl, rfl, .of hp, atI_nat (j := 1) rfl, x, s, ns, kds, rfl, hs, hG, by omega, by omega, fun H1 s1 => ⟨_, rfl, small_line (by show 1 + _ ≤ _; omega), k' _ _ ?_ s1⟩⟩
      rw [PySem.W.KT.app_list]
      simp only [txt]
      rfl
    | many o ss =>
      simp only [Sx] at hS
      simp only [Good] at hG
      simp only [lev] at hL
      simp only [cnt] at hC
      obtain ⟨p, q, xs, rfl, hp, hq, hs⟩ := hS
      have hxl := hs.len
      have hsl := len_le_cnts ss
      have hkl := fun j => kt_len j hG
      have hsm := sum_tS hG
      refine ⟨p, _, _, _, rfl, rfl, .of hp, atI_nat (j := 0) rfl, ?_⟩
      have nn : mw o ≠ "not" ∧ mw o ≠ "lacks" := by cases o <;> exact ⟨by decide, by decide⟩
      ((try dsimp only [cxOf, L2.Cx.inTry, L2.Cx.inHand]); simp only [iItems, rStarts3, rAdd, tNever, tCIn, tCGet, L2.start, tSeq, tNext, tIfS, tRet, tRetN, tAsg, tDrop, gName, tVar, tC, tOp, tUn, tCall, tCB, tCons, tNil, tTest, tB, tNot, tAnd, tOr, tAndV, tOrV, tNotV, tIf, tChain, tLst, tTup, tBM, tBM0, rI, rI0, rU, rEq, rNe, scal, tComp, iStr, iList, iTup, iRng1, iRng2, tYes, rIsP, rAll, rLenS, rLenV, rListOf, rTupleOf, tDisp, tPairs, tSl, tPart, tNoPart, rSlS, rSlL, rFind, rStarts, rIntT, rStrA, rRepS, tCallX, tRaise, tRaiseI, tTry, tAs, offE, tXF, sXset, tMethX, tMakeX, rIsX, tFld, sFld, tMeth, rSortD, rDPop, tDNewK, tDIn, tDNotIn, tDGet, sDPut, rIndexS, tStop, gSub, 
  List.map_cons, List.map_nil, List.cons_append, List.nil_append, List.length_cons, List.length_nil, List.getElem?_cons_zero, List.getElem?_cons_succ, Option.some.injEq, exists_eq_left', exists_eq_left, List.set_cons_zero, List.set_cons_succ, List.cons.injEq, and_true, true_and, V.int.injEq, V.str.injEq, V.bl.injEq, V.ref.injEq, V.ty.injEq, exists_and_left, exists_and_right, List.append_nil, reduceCtorEq, false_and, and_false, exists_false, or_false, false_or, decide_true, decide_false, Bool.not_true, Bool.not_false, if_true, if_false, Bool.false_eq_true, ite_true, ite_false, and_assoc, Nat.reduceAdd, Nat.reduceSub, List.replicate_succ, List.replicate_zero, Nat.zero_add, Nat.add_zero, Nat.sub_self])
      rw [if_neg (by simpa using nn.1)]
      refine ⟨p, _, _, _, rfl, rfl, .of hp, atI_nat (j := 0) rfl, rfl, ?_⟩
      rw [if_neg (by simpa using nn.2)]
      refine ⟨p, _, _, _, rfl, rfl, .of hp, atI_nat (j := 0) rfl, small_line (by decide), fun q2 hq2 => ?_⟩
      have u := Same.upd_new hq2 (HO.lst [V.str (Str.ofString "is"), V.str (Str.ofString "under"), V.str (Str.ofString "over")])
      have gq : upd H q2 (HO.lst [V.str (Str.ofString "is"), V.str (Str.ofString "under"), V.str (Str.ofString "over")]) q2 = some (HO.lst [V.str (Str.ofString "is"), V.str (Str.ofString "under"), V.str (Str.ofString "over")]) := upd_same
      generalize upd H q2 (HO.lst [V.str (Str.ofString "is"), V.str (Str.ofString "under"), V.str (Str.ofString "over")]) = H2 at *
      refine ⟨q2, _, rfl, .inl (.of gq), by rfl, by decide, _, rfl, ?_⟩
      rw [if_neg Bool.false_ne_true, if_neg (by cases o <;> decide)]
      refine fun pd hpd => ⟨upd_same, [(.inr "all", .str "&"), (.inr "some", .str "|")], rfl, (by show 2 ≤ 15; decide), ?_⟩
      rw [upd_upd]
      have u2 := Same.upd_new hpd (HO.dK (mergeK [] [(.inr "all", .str "&"), (.inr "some", .str "|")]))
      have gd : upd H2 pd (HO.dK (mergeK [] [(.inr "all", .str "&"), (.inr "some", .str "|")])) pd = some (HO.dK (mergeK [] [(.inr "all", .str "&"), (.inr "some", .str "|")])) := upd_same
      generalize upd H2 pd (HO.dK (mergeK [] [(.inr "all", .str "&"), (.inr "some", .str "|")])) = H3 at *
      have s3 := u.trans u2
      obtain ⟨jz, hjz, hv⟩ : ∃ jz : Str, jz.cps.toList = [jt o] ∧ valV (mergeK [] [(.inr "all", .str "&"), (.inr "some", .str "|")]) (.inr (mw o)) = some (V.str jz) := by
        cases o
        · exact ⟨"&", by decide, rfl⟩
        · exact ⟨"|", by decide, rfl⟩
      have hjl : jz.length = 1 := by rw [← len_cps, hjz]; rfl
      have e1 : (Str.ofString "(").length = 1 := by decide
      have e2 : (Str.ofString ")").length = 1 := by decide
      refine ⟨p, _, _, _, rfl, rfl, .of (s3 _ _ hp), atI_nat (j := 0) rfl, _, wget gd hv, _, rfl, small_line (by omega), ?_⟩
      refine for_in ?_
      ((try dsimp only [cxOf, L2.Cx.inTry, L2.Cx.inHand]); simp only [iItems, rStarts3, rAdd, tNever, tCIn, tCGet, L2.start, tSeq, tNext, tIfS, tRet, tRetN, tAsg, tDrop, gName, tVar, tC, tOp, tUn, tCall, tCB, tCons, tNil, tTest, tB, tNot, tAnd, tOr, tAndV, tOrV, tNotV, tIf, tChain, tLst, tTup, tBM, tBM0, rI, rI0, rU, rEq, rNe, scal, tComp, iStr, iList, iTup, iRng1, iRng2, tYes, rIsP, rAll, rLenS, rLenV, rListOf, rTupleOf, tDisp, tPairs, tSl, tPart, tNoPart, rSlS, rSlL, rFind, rStarts, rIntT, rStrA, rRepS, tCallX, tRaise, tRaiseI, tTry, tAs, offE, tXF, sXset, tMethX, tMakeX, rIsX, tFld, sFld, tMeth, rSortD, rDPop, tDNewK, tDIn, tDNotIn, tDGet, sDPut, rIndexS, tStop, gSub, 
  List.map_cons, List.map_nil, List.cons_append, List.nil_append, List.length_cons, List.length_nil, List.getElem?_cons_zero, List.getElem?_cons_succ, Option.some.injEq, exists_eq_left', exists_eq_left, List.set_cons_zero, List.set_cons_succ, List.cons.injEq, and_true, true_and, V.int.injEq, V.str.injEq, V.bl.injEq, V.ref.injEq, V.ty.injEq, exists_and_left, exists_and_right, List.append_nil, reduceCtorEq, false_and, and_false, exists_false, or_false, false_or, decide_true, decide_false, Bool.not_true, Bool.not_false, if_true, if_false, Bool.false_eq_true, ite_true, ite_false, and_assoc, Nat.reduceAdd, Nat.reduceSub, List.replicate_succ, List.replicate_zero, Nat.zero_add, Nat.add_zero, Nat.sub_self])
      refine ⟨p, _, _, _, rfl, rfl, .of (s3 _ _ hp), atI_nat (j := 1) rfl, q, rfl, _, .inr (.of (s3 _ _ hq)), by omega, by omega, ?_⟩
      rw [Int.toNat_natCast, hxl]
      have hkl2 := hkl (jt o)
      have ktk : ∀ i, (kt (jt o) (ss.take i)).length ≤ 4800 := fun i => by
        have h1 := kt_len (jt o) (goods_take (i := i) hG)
        have h2 := cnts_take ss i
        omega
      refine ForW.of walk_range (fun i σ H' => ∃ (v3 : Option V) (z : Str), σ = [some (V.ref p), some (V.str jz), some (V.str z), v3] ∧ z.cps.toList = 40 :: jt o :: kt (jt o) (ss.take i) ∧ Same H H') ⟨none, _, rfl, ?_, s3⟩ (fun _ _ _ _ _ => trivial) ?_ ?_
      · rw [PySem.W.KT.app_list, hjz]
        simp only [List.take_zero, kt]
        rfl
      · rintro i x σ H4 hx ⟨v3, z, rfl, hz, s4⟩
        obtain ⟨hi, rfl⟩ := range_item hx
        rw [Int.zero_add]
        have hzl : z.length ≤ 4802 := by
          rw [← len_cps, hz]
          have := ktk i
          simp only [List.length_cons]
          omega
        obtain ⟨s', hs'⟩ : ∃ s', ss[i]? = some s' := ⟨_, List.getElem?_eq_getElem hi⟩
        have l1 := levs_at hs'
        have l2 := lev_pos s'
        have l3 := cnts_at hs'
        have g' := Goods.at hG hs'
        have ll := tS_len g' (by omega)
        obtain ⟨e, rfl⟩ : ∃ e, dp = e + 1 := ⟨dp - 1, by omega⟩
        obtain ⟨x', hx', hsx⟩ : ∃ x', xs[i]? = some x' ∧ Sx H s' x' := by
          have hi' : i < xs.length := by omega
          obtain ⟨s2, e2, e3⟩ := hs.at (List.getElem?_eq_getElem hi')
          obtain rfl : s2 = s' := Option.some.inj (e2.symm.trans hs')
          exact ⟨_, List.getElem?_eq_getElem hi', e3⟩
        have ek : kt (jt o) (ss.take (i + 1)) = if i = 0 then txt s' else kt (jt o) (ss.take i) ++ jt o :: txt s' := by
          rw [take_snoc hs', kt_snoc, List.length_take, Nat.min_eq_left (by omega)]
        ((try dsimp only [cxOf, L2.Cx.inTry, L2.Cx.inHand]); simp only [iItems, rStarts3, rAdd, tNever, tCIn, tCGet, L2.start, tSeq, tNext, tIfS, tRet, tRetN, tAsg, tDrop, gName, tVar, tC, tOp, tUn, tCall, tCB, tCons, tNil, tTest, tB, tNot, tAnd, tOr, tAndV, tOrV, tNotV, tIf, tChain, tLst, tTup, tBM, tBM0, rI, rI0, rU, rEq, rNe, scal, tComp, iStr, iList, iTup, iRng1, iRng2, tYes, rIsP, rAll, rLenS, rLenV, rListOf, rTupleOf, tDisp, tPairs, tSl, tPart, tNoPart, rSlS, rSlL, rFind, rStarts, rIntT, rStrA, rRepS, tCallX, tRaise, tRaiseI, tTry, tAs, offE, tXF, sXset, tMethX, tMakeX, rIsX, tFld, sFld, tMeth, rSortD, rDPop, tDNewK, tDIn, tDNotIn, tDGet, sDPut, rIndexS, tStop, gSub, 
  List.map_cons, List.map_nil, List.cons_append, List.nil_append, List.length_cons, List.length_nil, List.getElem?_cons_zero, List.getElem?_cons_succ, Option.some.injEq, exists_eq_left', exists_eq_left, List.set_cons_zero, List.set_cons_succ, List.cons.injEq, and_true, true_and, V.int.injEq, V.str.injEq, V.bl.injEq, V.ref.injEq, V.ty.injEq, exists_and_left, exists_and_right, List.append_nil, reduceCtorEq, false_and, and_false, exists_false, or_false, false_or, decide_true, decide_false, Bool.not_true, Bool.not_false, if_true, if_false, Bool.false_eq_true, ite_true, ite_false, and_assoc, Nat.reduceAdd, Nat.reduceSub, List.replicate_succ, List.replicate_zero, Nat.zero_add, Nat.add_zero, Nat.sub_self])
        by_cases hi0 : i = 0
        · rw [if_neg (by simp; omega)]
          refine ⟨p, _, _, _, rfl, rfl, .of (s4 _ _ hp), atI_nat (j := 1) rfl, q, _, _, _, rfl, rfl, .of (s4 _ _ hq), atI_nat hx', x', s', ns, kds, rfl, hsx.mono s4.t, g', by omega, by omega, fun H5 s5 => ⟨_, rfl, small_line (by omega), ?_, s4.trans s5⟩⟩
          rw [PySem.W.KT.app_list, hz, ek, if_pos hi0, hi0]
          simp only [List.take_zero, kt]
          rfl
        · rw [if_pos (decide_eq_true (by omega))]
          refine ⟨small_line (by omega), p, _, _, _, rfl, rfl, .of (s4 _ _ hp), atI_nat (j := 1) rfl, q, _, _, _, rfl, rfl, .of (s4 _ _ hq), atI_nat hx', x', s', ns, kds, rfl, hsx.mono s4.t, g', by omega, by omega, fun H5 s5 => ⟨_, rfl, small_line (by rw [app_len]; omega), ?_, s4.trans s5⟩⟩
          rw [PySem.W.KT.app_list, PySem.W.KT.app_list, hz, ek, if_neg hi0, hjz]
          simp
      · rintro σ H4 ⟨v3, z, rfl, hz, s4⟩
        rw [rangeV_len, List.take_length] at hz
        have hzl : z.length ≤ 4802 := by
          rw [← len_cps, hz]
          simp only [List.length_cons]
          omega
        ((try dsimp only [cxOf, L2.Cx.inTry, L2.Cx.inHand]); simp only [iItems, rStarts3, rAdd, tNever, tCIn, tCGet, L2.start, tSeq, tNext, tIfS, tRet, tRetN, tAsg, tDrop, gName, tVar, tC, tOp, tUn, tCall, tCB, tCons, tNil, tTest, tB, tNot, tAnd, tOr, tAndV, tOrV, tNotV, tIf, tChain, tLst, tTup, tBM, tBM0, rI, rI0, rU, rEq, rNe, scal, tComp, iStr, iList, iTup, iRng1, iRng2, tYes, rIsP, rAll, rLenS, rLenV, rListOf, rTupleOf, tDisp, tPairs, tSl, tPart, tNoPart, rSlS, rSlL, rFind, rStarts, rIntT, rStrA, rRepS, tCallX, tRaise, tRaiseI, tTry, tAs, offE, tXF, sXset, tMethX, tMakeX, rIsX, tFld, sFld, tMeth, rSortD, rDPop, tDNewK, tDIn, tDNotIn, tDGet, sDPut, rIndexS, tStop, gSub, 
  List.map_cons, List.map_nil, List.cons_append, List.nil_append, List.length_cons, List.length_nil, List.getElem?_cons_zero, List.getElem?_cons_succ, Option.some.injEq, exists_eq_left', exists_eq_left, List.set_cons_zero, List.set_cons_succ, List.cons.injEq, and_true, true_and, V.int.injEq, V.str.injEq, V.bl.injEq, V.ref.injEq, V.ty.injEq, exists_and_left, exists_and_right, List.append_nil, reduceCtorEq, false_and, and_false, exists_false, or_false, false_or, decide_true, decide_false, Bool.not_true, Bool.not_false, if_true, if_false, Bool.false_eq_true, ite_true, ite_false, and_assoc, Nat.reduceAdd, Nat.reduceSub, List.replicate_succ, List.replicate_zero, Nat.zero_add, Nat.add_zero, Nat.sub_self])
        refine ⟨small_line (by omega), k' _ _ ?_ s4⟩
        rw [PySem.W.KT.app_list, hz, txt_many]
        simp
        rfl
theorem ok_l_text (T : Txt w K mg f fd) : ∀ dp : Nat, FnOk P w K mg base CX0 (2 + dp) (f 44) (fd 44) ["_law_sieve"] (sp_l_text K dp)
  | 0 => ⟨fun _ _ _ _ h => False.elim h, fun _ _ _ _ _ _ _ _ _ _ _ _ _ h => False.elim h⟩
  | dp + 1 => st_l_text T dp (ok_l_text T dp)
noncomputable def rdFs (z : Str) (a b : Int) : List (Str × V) := [("text", .str z), ("at", .int a), ("begun", .int b)]
theorem put_at (z : Str) (a b c : Int) : putF "at" (.int c) (rdFs z a b) = rdFs z c b := by
  unfold rdFs
  rw [putF, if_neg (by decide), putF, if_pos rfl]
theorem put_begun (z : Str) (a b c : Int) : putF "begun" (.int c) (rdFs z a b) = rdFs z a c := by
  unfold rdFs
  rw [putF, if_neg (by decide), putF, if_neg (by decide), putF, if_pos rfl]
theorem put_init (z : Str) : putF "begun" (.int 0) (putF "at" (.int 0) (putF "text" (.str z) [])) = rdFs z 0 0 := by
  have e1 : putF "at" (.int 0) (putF "text" (.str z) []) = ([("text", .str z), ("at", .int 0)] : List (Str × V)) := by
    show (if (("text" : Str) = "at") then _ else _) = _
    rw [if_neg (by decide)]
    rfl
  rw [e1, putF, if_neg (by decide), putF, if_neg (by decide), putF]
  rfl
theorem st3 (x y : Str) (i : Nat) : Txt.startswith3 x y (i : Int) = (decide (i + y.length ≤ x.length) && ((x.cps.toList.drop i).take y.length == y.cps.toList)) := by
  unfold Txt.startswith3
  rw [PySem.StrLaws.subAt_eq, show fromIndex x.length (i : Int) = i by unfold fromIndex; rw [if_neg (by omega)]; omega]
noncomputable def sp_Reading___init__ (K : PySem.W.Frag) (f : Nat → Addr) : Sp := fun vs H Q _ => ∃ o dx z, vs = [.ref o, .str z] ∧ H o = some (.ins (f 30) dx []) ∧ Q .non (upd H o (.ins (f 30) dx (rdFs z 0 0)))
theorem ok_Reading___init__ (T : Txt w K mg f fd) : FnOk P w K mg base CX0 1 (f 31000) (fd 31000) ["self", "text"] (sp_Reading___init__ K f) := by
  refine T.d_Reading___init__.F.ok sc_Reading___init__ (fun vs H Q E h => ?_) (fun cdv A outer s H vs Q E hr h => ?_)
  · obtain ⟨o, dx, z, rfl, _⟩ := h
    rfl
  · obtain ⟨o, dx, z, rfl, ho, k⟩ := h
    refine ⟨_, (pss_cons (ps_fld (pvl 0) (pvl 1) rfl)
     (pss_cons (ps_fld (pvl 0) pe_int rfl)
     (pss_one (ps_fld (pvl 0) pe_int rfl)))), ?_⟩
    ((try dsimp only [cxOf, L2.Cx.inTry, L2.Cx.inHand]); simp only [iItems, rStarts3, rAdd, tNever, tCIn, tCGet, L2.start, tSeq, tNext, tIfS, tRet, tRetN, tAsg, tDrop, gName, tVar, tC, tOp, tUn, tCall, tCB, tCons, tNil, tTest, tB, tNot, tAnd, tOr, tAndV, tOrV, tNotV, tIf, tChain, tLst, tTup, tBM, tBM0, rI, rI0, rU, rEq, rNe, scal, tComp, iStr, iList, iTup, iRng1, iRng2, tYes, rIsP, rAll, rLenS, rLenV, rListOf, rTupleOf, tDisp, tPairs, tSl, tPart, tNoPart, rSlS, rSlL, rFind, rStarts, rIntT, rStrA, rRepS, tCallX, tRaise, tRaiseI, tTry, tAs, offE, tXF, sXset, tMethX, tMakeX, rIsX, tFld, sFld, tMeth, rSortD, rDPop, tDNewK, tDIn, tDNotIn, tDGet, sDPut, rIndexS, tStop, gSub, 
  List.map_cons, List.map_nil, List.cons_append, List.nil_append, List.length_cons, List.length_nil, List.getElem?_cons_zero, List.getElem?_cons_succ, Option.some.injEq, exists_eq_left', exists_eq_left, List.set_cons_zero, List.set_cons_succ, List.cons.injEq, and_true, true_and, V.int.injEq, V.str.injEq, V.bl.injEq, V.ref.injEq, V.ty.injEq, exists_and_left, exists_and_right, List.append_nil, reduceCtorEq, false_and, and_false, exists_false, or_false, false_or, decide_true, decide_false, Bool.not_true, Bool.not_false, if_true, if_false, Bool.false_eq_true, ite_true, ite_false, and_assoc, Nat.reduceAdd, Nat.reduceSub, List.replicate_succ, List.replicate_zero, Nat.zero_add, Nat.add_zero, Nat.sub_self])
    refine ⟨_, _, _, ho, T.o_Reading.cls, T.na_Reading_text, by decide, _, _, _, upd_same, T.o_Reading.cls, T.na_Reading_at, by simp [putF], _, _, _, upd_same, T.o_Reading.cls, T.na_Reading_begun, ?_, ?_⟩
    · simp [putF]
      split <;> simp
    · rw [upd_upd, upd_upd, put_init]
      exact k
theorem upd_self {H : Hp} {o : Addr} {v : HO} (h : H o = some v) : upd H o v = H := by
  funext b
  unfold upd
  split
  · next e => rw [e, h]
  · rfl
structure At (z : Str) (a : Nat) (cs : List Nat) : Prop where
  le : a ≤ z.length
  cs : z.cps.toList.drop a = cs
theorem At.len {z : Str} {a : Nat} {cs : List Nat} (h : At z a cs) : z.length = a + cs.length := by
  have e := congrArg List.length h.cs
  rw [List.length_drop, len_cps] at e
  have := h.le
  omega
theorem At.step {z : Str} {a : Nat} {r cs : List Nat} (h : At z a (r ++ cs)) : At z (a + r.length) cs := by
  have e := h.len
  rw [List.length_append] at e
  refine ⟨by omega, ?_⟩
  rw [← List.drop_drop, h.cs, List.drop_left]
theorem At.one {z : Str} {a c : Nat} {cs : List Nat} (h : At z a (c :: cs)) : At z (a + 1) cs := At.step (r := [c]) h
theorem At.get {z : Str} {a i : Nat} {cs : List Nat} (h : At z a cs) : z.cps.toList[a + i]? = cs[i]? := by
  rw [← h.cs, List.getElem?_drop]
theorem st_pre {z y : Str} {a : Nat} {cs : List Nat} (h : At z a cs) : Txt.startswith3 z y (a : Int) = y.cps.toList.isPrefixOf cs := by
  have hl := h.len
  have ly := len_cps y
  rw [st3, h.cs, Bool.eq_iff_iff]
  simp only [Bool.and_eq_true, decide_eq_true_eq, beq_iff_eq, List.isPrefixOf_iff_prefix, List.prefix_iff_eq_take]
  rw [ly]
  constructor
  · rintro ⟨_, h2⟩
    exact h2.symm
  · intro e
    have e2 := congrArg List.length e
    rw [List.length_take, ly] at e2
    exact ⟨by omega, e.symm⟩
noncomputable def sp_Reading_takes (K : PySem.W.Frag) (f : Nat → Addr) : Sp := fun vs H Q _ => ∃ (o dx : Addr) (z : Str) (a : Nat) (b : Int) (g : Str) (cs : List Nat), vs = [.ref o, .str g] ∧ H o = some (.ins (f 30) dx (rdFs z a b)) ∧ At z a cs ∧ g.length ≤ 100 ∧ (g.cps.toList.isPrefixOf cs = false → Q (.bl false) H) ∧ (g.cps.toList.isPrefixOf cs = true → Q (.bl true) (upd H o (.ins (f 30) dx (rdFs z (a + g.length : Nat) b))))
theorem ok_Reading_takes (T : Txt w K mg f fd) : FnOk P w K mg base CX0 1 (f 31001) (fd 31001) ["self", "signs"] (sp_Reading_takes K f) := by
  refine T.d_Reading_takes.F.ok sc_Reading_takes (fun vs H Q E h => ?_) (fun cdv A outer s H vs Q E hr h => ?_)
  · obtain ⟨o, dx, z, a, b, g, cs, rfl, _⟩ := h
    rfl
  · obtain ⟨o, dx, z, a, b, g, cs, rfl, ho, hA, hg, k0, k1⟩ := h
    refine ⟨_, (pss_cons (ps_if (pt_not (pt_val (k_bmL rfl PySem.F.plainAttrs_str PySem.F.slot_str_startswith PySem.F.type_str_startswith mt_startswith3 rfl rfl rfl rfl (pe_fld (pvl 0) rfl) (pal rfl (pvl 1) (pal rfl (pe_fld (pvl 0) rfl) pa_nil)))))
     (pss_one (ps_ret pe_bl))
     pss_nil)
     (pss_cons (ps_fldaug (pvl 0) (pe_cB call_len_str T.n_len bt_len rfl (by decide) (by decide) rfl (pal rfl (pvl 1) pa_nil)) in_add)
     (pss_one (ps_ret pe_bl)))), ?_⟩
    ((try dsimp only [cxOf, L2.Cx.inTry, L2.Cx.inHand]); simp only [iItems, rStarts3, rAdd, tNever, tCIn, tCGet, L2.start, tSeq, tNext, tIfS, tRet, tRetN, tAsg, tDrop, gName, tVar, tC, tOp, tUn, tCall, tCB, tCons, tNil, tTest, tB, tNot, tAnd, tOr, tAndV, tOrV, tNotV, tIf, tChain, tLst, tTup, tBM, tBM0, rI, rI0, rU, rEq, rNe, scal, tComp, iStr, iList, iTup, iRng1, iRng2, tYes, rIsP, rAll, rLenS, rLenV, rListOf, rTupleOf, tDisp, tPairs, tSl, tPart, tNoPart, rSlS, rSlL, rFind, rStarts, rIntT, rStrA, rRepS, tCallX, tRaise, tRaiseI, tTry, tAs, offE, tXF, sXset, tMethX, tMakeX, rIsX, tFld, sFld, tMeth, rSortD, rDPop, tDNewK, tDIn, tDNotIn, tDGet, sDPut, rIndexS, tStop, gSub, 
  List.map_cons, List.map_nil, List.cons_append, List.nil_append, List.length_cons, List.length_nil, List.getElem?_cons_zero, List.getElem?_cons_succ, Option.some.injEq, exists_eq_left', exists_eq_left, List.set_cons_zero, List.set_cons_succ, List.cons.injEq, and_true, true_and, V.int.injEq, V.str.injEq, V.bl.injEq, V.ref.injEq, V.ty.injEq, exists_and_left, exists_and_right, List.append_nil, reduceCtorEq, false_and, and_false, exists_false, or_false, false_or, decide_true, decide_false, Bool.not_true, Bool.not_false, if_true, if_false, Bool.false_eq_true, ite_true, ite_false, and_assoc, Nat.reduceAdd, Nat.reduceSub, List.replicate_succ, List.replicate_zero, Nat.zero_add, Nat.add_zero, Nat.sub_self])
    refine ⟨_, _, _, ho, T.o_Reading.cls, T.na_Reading_text, .str z, rfl, rfl, _, _, _, ho, T.o_Reading.cls, T.na_Reading_at, .int a, rfl, z, rfl, a, rfl, ?_⟩
    rw [st_pre hA]
    cases hs : g.cps.toList.isPrefixOf cs with
    | false =>
      rw [if_pos (by simp)]
      exact k0 hs
    | true =>
      rw [if_neg (by simp)]
      unfold sFldAug
      ((try dsimp only [cxOf, L2.Cx.inTry, L2.Cx.inHand]); simp only [iItems, rStarts3, rAdd, tNever, tCIn, tCGet, L2.start, tSeq, tNext, tIfS, tRet, tRetN, tAsg, tDrop, gName, tVar, tC, tOp, tUn, tCall, tCB, tCons, tNil, tTest, tB, tNot, tAnd, tOr, tAndV, tOrV, tNotV, tIf, tChain, tLst, tTup, tBM, tBM0, rI, rI0, rU, rEq, rNe, scal, tComp, iStr, iList, iTup, iRng1, iRng2, tYes, rIsP, rAll, rLenS, rLenV, rListOf, rTupleOf, tDisp, tPairs, tSl, tPart, tNoPart, rSlS, rSlL, rFind, rStarts, rIntT, rStrA, rRepS, tCallX, tRaise, tRaiseI, tTry, tAs, offE, tXF, sXset, tMethX, tMakeX, rIsX, tFld, sFld, tMeth, rSortD, rDPop, tDNewK, tDIn, tDNotIn, tDGet, sDPut, rIndexS, tStop, gSub, 
  List.map_cons, List.map_nil, List.cons_append, List.nil_append, List.length_cons, List.length_nil, List.getElem?_cons_zero, List.getElem?_cons_succ, Option.some.injEq, exists_eq_left', exists_eq_left, List.set_cons_zero, List.set_cons_succ, List.cons.injEq, and_true, true_and, V.int.injEq, V.str.injEq, V.bl.injEq, V.ref.injEq, V.ty.injEq, exists_and_left, exists_and_right, List.append_nil, reduceCtorEq, false_and, and_false, exists_false, or_false, false_or, decide_true, decide_false, Bool.not_true, Bool.not_false, if_true, if_false, Bool.false_eq_true, ite_true, ite_false, and_assoc, Nat.reduceAdd, Nat.reduceSub, List.replicate_succ, List.replicate_zero, Nat.zero_add, Nat.add_zero, Nat.sub_self])
      refine ⟨_, _, _, ho, T.o_Reading.cls, T.na_Reading_at, .int a, rfl, small_line (by omega), a, rfl, _, _, ho, by simp [rdFs], ?_⟩
      rw [put_at]
      exact k1 hs
noncomputable def sp_Reading_run_of (K : PySem.W.Frag) (f : Nat → Addr) : Sp := fun vs H Q _ => ∃ (o dx : Addr) (z : Str) (a : Nat) (b : Int) (g : Str) (r rest : List Nat), vs = [.ref o, .str g] ∧ H o = some (.ins (f 30) dx (rdFs z a b)) ∧ At z a (r ++ rest) ∧ z.length ≤ 10000 ∧ (∀ c ∈ r, c ∈ g.cps.toList) ∧ (∀ c, rest.head? = some c → c ∉ g.cps.toList) ∧ Q (.str ⟨r.toArray⟩) (upd H o (.ins (f 30) dx (rdFs z (a + r.length : Nat) b)))
theorem ok_Reading_run_of (T : Txt w K mg f fd) : FnOk P w K mg base CX0 1 (f 31002) (fd 31002) ["self", "signs"] (sp_Reading_run_of K f) := by
  refine T.d_Reading_run_of.F.ok sc_Reading_run_of (fun vs H Q E h => ?_) (fun cdv A outer s H vs Q E hr h => ?_)
  · obtain ⟨o, dx, z, a, b, g, r, rest, rfl, _⟩ := h
    rfl
  · obtain ⟨o, dx, z, a, b, g, r, rest, rfl, ho, hA, hz, hin, hno, k⟩ := h
    refine ⟨_, (pss_cons (psl 2 sc_Reading_run_of.nd (pe_fld (pvl 0) rfl))
     (pss_cons (ps_while PassesOwn.never (PW.pt (pw_and (pt_cmpR op_lt (pe_fld (pvl 0) rfl) (pe_cB call_len_str T.n_len bt_len rfl (by decide) (by decide) rfl (pal rfl (pe_fld (pvl 0) rfl) pa_nil)) (nomark _)) (pw_and1 (pt_cmpR op_in_str (pe_ix ix_str (pe_fld (pvl 0) rfl) (pe_fld (pvl 0) rfl) (fun _ _ => rfl)) (pvl 1) rfl))))
     (pss_one (ps_fldaug (pvl 0) pe_int in_add)))
     (pss_one (ps_ret (pe_slice sl_str (pe_fld (pvl 0) rfl) (po_some (pvl 2)) (po_some (pe_fld (pvl 0) rfl))))))), ?_⟩
    ((try dsimp only [cxOf, L2.Cx.inTry, L2.Cx.inHand]); simp only [iItems, rStarts3, rAdd, tNever, tCIn, tCGet, L2.start, tSeq, tNext, tIfS, tRet, tRetN, tAsg, tDrop, gName, tVar, tC, tOp, tUn, tCall, tCB, tCons, tNil, tTest, tB, tNot, tAnd, tOr, tAndV, tOrV, tNotV, tIf, tChain, tLst, tTup, tBM, tBM0, rI, rI0, rU, rEq, rNe, scal, tComp, iStr, iList, iTup, iRng1, iRng2, tYes, rIsP, rAll, rLenS, rLenV, rListOf, rTupleOf, tDisp, tPairs, tSl, tPart, tNoPart, rSlS, rSlL, rFind, rStarts, rIntT, rStrA, rRepS, tCallX, tRaise, tRaiseI, tTry, tAs, offE, tXF, sXset, tMethX, tMakeX, rIsX, tFld, sFld, tMeth, rSortD, rDPop, tDNewK, tDIn, tDNotIn, tDGet, sDPut, rIndexS, tStop, gSub, 
  List.map_cons, List.map_nil, List.cons_append, List.nil_append, List.length_cons, List.length_nil, List.getElem?_cons_zero, List.getElem?_cons_succ, Option.some.injEq, exists_eq_left', exists_eq_left, List.set_cons_zero, List.set_cons_succ, List.cons.injEq, and_true, true_and, V.int.injEq, V.str.injEq, V.bl.injEq, V.ref.injEq, V.ty.injEq, exists_and_left, exists_and_right, List.append_nil, reduceCtorEq, false_and, and_false, exists_false, or_false, false_or, decide_true, decide_false, Bool.not_true, Bool.not_false, if_true, if_false, Bool.false_eq_true, ite_true, ite_false, and_assoc, Nat.reduceAdd, Nat.reduceSub, List.replicate_succ, List.replicate_zero, Nat.zero_add, Nat.add_zero, Nat.sub_self])
    refine ⟨_, _, _, ho, T.o_Reading.cls, T.na_Reading_at, .int a, rfl, ?_⟩
    rw [← upd_self ho]
    have hzl := hA.len
    rw [List.length_append] at hzl
    refine while_in (fun m σ H' => ∃ i : Nat, i ≤ r.length ∧ m = r.length - i ∧ σ = [some (V.ref o), some (V.str g), some (V.int a)] ∧ H' = upd H o (.ins (f 30) dx (rdFs z (a + i : Nat) b))) ⟨_, 0, Nat.zero_le _, rfl, rfl, rfl⟩ ?_
    rintro m σ H' ⟨i, hi, rfl, rfl, rfl⟩
    have gi : upd H o (.ins (f 30) dx (rdFs z (a + i : Nat) b)) o = some (.ins (f 30) dx (rdFs z (a + i : Nat) b)) := upd_same
    ((try dsimp only [cxOf, L2.Cx.inTry, L2.Cx.inHand]); simp only [iItems, rStarts3, rAdd, tNever, tCIn, tCGet, L2.start, tSeq, tNext, tIfS, tRet, tRetN, tAsg, tDrop, gName, tVar, tC, tOp, tUn, tCall, tCB, tCons, tNil, tTest, tB, tNot, tAnd, tOr, tAndV, tOrV, tNotV, tIf, tChain, tLst, tTup, tBM, tBM0, rI, rI0, rU, rEq, rNe, scal, tComp, iStr, iList, iTup, iRng1, iRng2, tYes, rIsP, rAll, rLenS, rLenV, rListOf, rTupleOf, tDisp, tPairs, tSl, tPart, tNoPart, rSlS, rSlL, rFind, rStarts, rIntT, rStrA, rRepS, tCallX, tRaise, tRaiseI, tTry, tAs, offE, tXF, sXset, tMethX, tMakeX, rIsX, tFld, sFld, tMeth, rSortD, rDPop, tDNewK, tDIn, tDNotIn, tDGet, sDPut, rIndexS, tStop, gSub, 
  List.map_cons, List.map_nil, List.cons_append, List.nil_append, List.length_cons, List.length_nil, List.getElem?_cons_zero, List.getElem?_cons_succ, Option.some.injEq, exists_eq_left', exists_eq_left, List.set_cons_zero, List.set_cons_succ, List.cons.injEq, and_true, true_and, V.int.injEq, V.str.injEq, V.bl.injEq, V.ref.injEq, V.ty.injEq, exists_and_left, exists_and_right, List.append_nil, reduceCtorEq, false_and, and_false, exists_false, or_false, false_or, decide_true, decide_false, Bool.not_true, Bool.not_false, if_true, if_false, Bool.false_eq_true, ite_true, ite_false, and_assoc, Nat.reduceAdd, Nat.reduceSub, List.replicate_succ, List.replicate_zero, Nat.zero_add, Nat.add_zero, Nat.sub_self])
    refine ⟨_, _, _, gi, T.o_Reading.cls, T.na_Reading_at, .int (a + i : Nat), rfl, _, _, _, gi, T.o_Reading.cls, T.na_Reading_text, .str z, rfl, z, rfl, small_line (by omega), (a + i : Nat), rfl, ?_⟩
    by_cases hc : i < r.length
    · rw [if_pos (decide_eq_true (by omega))]
      refine ⟨_, _, _, gi, T.o_Reading.cls, T.na_Reading_text, .str z, rfl, _, _, _, gi, T.o_Reading.cls, T.na_Reading_at, .int (a + i : Nat), rfl, ?_⟩
      have hc1 : z.cps.toList[a + i]? = some r[i] := by rw [hA.get, List.getElem?_append_left hc, List.getElem?_eq_getElem hc]
      refine ⟨z, (a + i : Nat), r[i], rfl, rfl, small_line (by omega), atI_nat hc1, ⟨#[r[i]]⟩, rfl, ?_⟩
      rw [in_sgn, if_pos (decide_eq_true (hin _ (List.getElem_mem hc)))]
      refine WGo.of ?_
      unfold sFldAug
      ((try dsimp only [cxOf, L2.Cx.inTry, L2.Cx.inHand]); simp only [iItems, rStarts3, rAdd, tNever, tCIn, tCGet, L2.start, tSeq, tNext, tIfS, tRet, tRetN, tAsg, tDrop, gName, tVar, tC, tOp, tUn, tCall, tCB, tCons, tNil, tTest, tB, tNot, tAnd, tOr, tAndV, tOrV, tNotV, tIf, tChain, tLst, tTup, tBM, tBM0, rI, rI0, rU, rEq, rNe, scal, tComp, iStr, iList, iTup, iRng1, iRng2, tYes, rIsP, rAll, rLenS, rLenV, rListOf, rTupleOf, tDisp, tPairs, tSl, tPart, tNoPart, rSlS, rSlL, rFind, rStarts, rIntT, rStrA, rRepS, tCallX, tRaise, tRaiseI, tTry, tAs, offE, tXF, sXset, tMethX, tMakeX, rIsX, tFld, sFld, tMeth, rSortD, rDPop, tDNewK, tDIn, tDNotIn, tDGet, sDPut, rIndexS, tStop, gSub, 
  List.map_cons, List.map_nil, List.cons_append, List.nil_append, List.length_cons, List.length_nil, List.getElem?_cons_zero, List.getElem?_cons_succ, Option.some.injEq, exists_eq_left', exists_eq_left, List.set_cons_zero, List.set_cons_succ, List.cons.injEq, and_true, true_and, V.int.injEq, V.str.injEq, V.bl.injEq, V.ref.injEq, V.ty.injEq, exists_and_left, exists_and_right, List.append_nil, reduceCtorEq, false_and, and_false, exists_false, or_false, false_or, decide_true, decide_false, Bool.not_true, Bool.not_false, if_true, if_false, Bool.false_eq_true, ite_true, ite_false, and_assoc, Nat.reduceAdd, Nat.reduceSub, List.replicate_succ, List.replicate_zero, Nat.zero_add, Nat.add_zero, Nat.sub_self])
      refine ⟨_, _, _, gi, T.o_Reading.cls, T.na_Reading_at, .int (a + i : Nat), rfl, (a + i : Nat), rfl, _, _, gi, by simp [rdFs], ?_⟩
      rw [put_at, upd_upd]
      exact ⟨r.length - (i + 1), by omega, i + 1, by omega, rfl, rfl⟩
    · obtain rfl : i = r.length := by omega
      have e : (⟨(cutL z.cps.toList (some (a : Int)) (some ((a + r.length : Nat) : Int))).toArray⟩ : Str) = ⟨r.toArray⟩ := by
        have e1 : cutL z.cps.toList (some (a : Int)) (some ((a + r.length : Nat) : Int)) = r := by
          unfold cutL
          rw [HT.sIx_nat, HT.sIx_nat, len_cps, Nat.min_eq_left (by omega), Nat.min_eq_left (by omega), hA.cs, Nat.add_sub_cancel_left, List.take_left]
        rw [e1]
      by_cases hr : rest = []
      · rw [if_neg (by rw [hr] at hzl; simp at hzl ⊢; omega)]
        refine ⟨_, _, _, gi, T.o_Reading.cls, T.na_Reading_text, .str z, rfl, _, _, _, gi, T.o_Reading.cls, T.na_Reading_at, .int (a + r.length : Nat), rfl, (a + r.length : Nat), rfl, z, rfl, small_line (by omega), ?_⟩
        rw [e]
        exact k
      · obtain ⟨c, t, rfl⟩ := List.exists_cons_of_ne_nil hr
        rw [List.length_cons] at hzl
        rw [if_pos (decide_eq_true (by omega))]
        refine ⟨_, _, _, gi, T.o_Reading.cls, T.na_Reading_text, .str z, rfl, _, _, _, gi, T.o_Reading.cls, T.na_Reading_at, .int (a + r.length : Nat), rfl, ?_⟩
        have hc1 : z.cps.toList[a + r.length]? = some c := by rw [hA.get, List.getElem?_append_right (Nat.le_refl _), Nat.sub_self]; rfl
        refine ⟨z, (a + r.length : Nat), c, rfl, rfl, small_line (by omega), atI_nat hc1, ⟨#[c]⟩, rfl, ?_⟩
        rw [in_sgn, if_neg (by simpa using hno c rfl)]
        refine ⟨_, _, _, gi, T.o_Reading.cls, T.na_Reading_text, .str z, rfl, _, _, _, gi, T.o_Reading.cls, T.na_Reading_at, .int (a + r.length : Nat), rfl, (a + r.length : Nat), rfl, z, rfl, small_line (by omega), ?_⟩
        rw [e]
        exact k
noncomputable def Stop (rest : List Nat) : Prop := ∀ c, rest.head? = some c → c = 38 ∨ c = 124 ∨ c = 41
noncomputable abbrev dash : Str := "-"
theorem stop_no {rest : List Nat} (h : Stop rest) : ∀ c, rest.head? = some c → c ∉ (letters ++ figures ++ dash).cps.toList ∧ c ∉ (figures ++ dash).cps.toList := fun c hc => by
  rcases h c hc with rfl | rfl | rfl <;> exact ⟨by decide +kernel, by decide +kernel⟩
theorem num_in {i : Int} : ∀ c ∈ numS i, c ∈ (figures ++ dash).cps.toList := fun c hc => by
  rw [PySem.W.KT.app_list]
  have hd : ∀ c ∈ dgs i.natAbs, c ∈ figures.cps.toList := fun c hc => by
    have h := dgs_digits i.natAbs c hc
    have := fig_mem c
    rw [show isDig c = true by unfold isDig; simp; omega] at this
    exact of_decide_eq_true this
  unfold numS at hc
  split at hc
  · rcases List.mem_cons.mp hc with rfl | hc
    · exact List.mem_append_right _ (by decide)
    · exact List.mem_append_left _ (hd c hc)
  · exact List.mem_append_left _ (hd c hc)
theorem wr_in {kd : Str} {x : V} (h : KdV kd x) : ∀ c ∈ (wr x).cps.toList, c ∈ (letters ++ figures ++ dash).cps.toList := fun c hc => by
  rcases h with ⟨_, z, rfl, hz⟩ | ⟨_, i, rfl, hi⟩
  · rw [PySem.W.KT.app_list]
    exact List.mem_append_left _ (hz.2.2 c hc)
  · have := num_in c hc
    rw [PySem.W.KT.app_list] at this
    rw [PySem.W.KT.app_list, PySem.W.KT.app_list]
    rcases List.mem_append.mp this with h | h
    · exact List.mem_append_left _ (List.mem_append_right _ h)
    · exact List.mem_append_right _ h
noncomputable def Frm (o : Addr) (H H' : Hp) : Prop := ∀ q u, q ≠ o → H q = some u → H' q = some u
theorem Frm.refl (o : Addr) (H : Hp) : Frm o H H := fun _ _ _ h => h
theorem Frm.trans {o : Addr} {H H1 H2 : Hp} (s : Frm o H H1) (t : Frm o H1 H2) : Frm o H H2 := fun q u n h => t q u n (s q u n h)
theorem Frm.upd {o : Addr} {H : Hp} {u : HO} : Frm o H (upd H o u) := fun q v n h => by rw [upd_ne n]; exact h
theorem Frm.of {o : Addr} {H H' : Hp} (s : Same H H') : Frm o H H' := fun q u _ h => s q u h
theorem Frm.t {o : Addr} {H H' : Hp} {c dx : Addr} {fs : List (Str × V)} (s : Frm o H H') (h : H o = some (.ins c dx fs)) : TSame H H' := fun b ys hb => s b _ (fun z => by subst z; rw [h] at hb; cases hb) hb
noncomputable def sp_Reading_value_text (K : PySem.W.Frag) (f : Nat → Addr) : Sp := fun vs H Q _ => ∃ (o dx : Addr) (z : Str) (a : Nat) (b : Int) (x : V) (kd : Str) (rest : List Nat), vs = [.ref o] ∧ H o = some (.ins (f 30) dx (rdFs z a b)) ∧ At z a ((wr x).cps.toList ++ rest) ∧ z.length ≤ 10000 ∧ KdV kd x ∧ Stop rest ∧ Q (.str (wr x)) (upd H o (.ins (f 30) dx (rdFs z (a + (wr x).length : Nat) b)))
theorem ok_Reading_value_text (T : Txt w K mg f fd) : FnOk P w K mg base CX0 2 (f 31006) (fd 31006) ["self"] (sp_Reading_value_text K f) := by
  refine T.d_Reading_value_text.F.ok sc_Reading_value_text (fun vs H Q E h => ?_) (fun cdv A outer s H vs Q E hr h => ?_)
  · obtain ⟨o, dx, z, a, b, x, kd, rest, rfl, _⟩ := h
    rfl
  · obtain ⟨o, dx, z, a, b, x, kd, rest, rfl, ho, hA, hz, hx, hst, k⟩ := h
    refine ⟨_, (pss_cons (psl 1 sc_Reading_value_text.nd (pe_meth (pvl 0) T.o_Reading.cls T.m_Reading_run_of (ok_Reading_run_of T) (hr.mono (by decide)) T.d_Reading_run_of.b .nil pass0 (pal rfl (pe_op op_add_str (pe_op op_add_str (pgs T.g_LETTERS) (pgs T.g_FIGURES)) pe_str) pa_nil) rfl rfl rfl))
     (pss_cons (ps_if (pt_not (pt_chain op_le op_le pe_int (pe_cB call_len_str T.n_len bt_len rfl (by decide) (by decide) rfl (pal rfl (pvl 1) pa_nil)) (pgi T.g_MOST_VALUE_SIGNS)))
     (pss_one ps_never)
     pss_nil)
     (pss_one (ps_ret (pvl 1))))), ?_⟩
    ((try dsimp only [cxOf, L2.Cx.inTry, L2.Cx.inHand]); simp only [iItems, rStarts3, rAdd, tNever, tCIn, tCGet, L2.start, tSeq, tNext, tIfS, tRet, tRetN, tAsg, tDrop, gName, tVar, tC, tOp, tUn, tCall, tCB, tCons, tNil, tTest, tB, tNot, tAnd, tOr, tAndV, tOrV, tNotV, tIf, tChain, tLst, tTup, tBM, tBM0, rI, rI0, rU, rEq, rNe, scal, tComp, iStr, iList, iTup, iRng1, iRng2, tYes, rIsP, rAll, rLenS, rLenV, rListOf, rTupleOf, tDisp, tPairs, tSl, tPart, tNoPart, rSlS, rSlL, rFind, rStarts, rIntT, rStrA, rRepS, tCallX, tRaise, tRaiseI, tTry, tAs, offE, tXF, sXset, tMethX, tMakeX, rIsX, tFld, sFld, tMeth, rSortD, rDPop, tDNewK, tDIn, tDNotIn, tDGet, sDPut, rIndexS, tStop, gSub, 
  List.map_cons, List.map_nil, List.cons_append, List.nil_append, List.length_cons, List.length_nil, List.getElem?_cons_zero, List.getElem?_cons_succ, Option.some.injEq, exists_eq_left', exists_eq_left, List.set_cons_zero, List.set_cons_succ, List.cons.injEq, and_true, true_and, V.int.injEq, V.str.injEq, V.bl.injEq, V.ref.injEq, V.ty.injEq, exists_and_left, exists_and_right, List.append_nil, reduceCtorEq, false_and, and_false, exists_false, or_false, false_or, decide_true, decide_false, Bool.not_true, Bool.not_false, if_true, if_false, Bool.false_eq_true, ite_true, ite_false, and_assoc, Nat.reduceAdd, Nat.reduceSub, List.replicate_succ, List.replicate_zero, Nat.zero_add, Nat.add_zero, Nat.sub_self])
    have hw := wr_len hx
    refine ⟨_, _, ho, rfl, small_line (by decide), small_line (by decide), o, dx, z, a, b, _, (wr x).cps.toList, rest, rfl, ho, hA, hz, wr_in hx, fun c hc => (stop_no hst c hc).1, ?_⟩
    rw [len_cps] at hw ⊢
    have e : (⟨(wr x).cps.toList.toArray⟩ : Str) = wr x := rfl
    refine ⟨_, rfl, small_line (by show (wr x).length ≤ _; omega), ?_⟩
    rw [if_pos (decide_eq_true (by show (1 : Int) ≤ ((wr x).length : Int); omega)), if_neg (by rw [decide_eq_true (by show ((wr x).length : Int) ≤ 61; omega)]; decide)]
    exact k
noncomputable def sp_Reading_bound (K : PySem.W.Frag) (f : Nat → Addr) : Sp := fun vs H Q _ => ∃ (o dx : Addr) (z : Str) (a : Nat) (b : Int) (i : Int) (rest : List Nat), vs = [.ref o] ∧ H o = some (.ins (f 30) dx (rdFs z a b)) ∧ At z a (numS i ++ rest) ∧ z.length ≤ 10000 ∧ i.natAbs < 10 ^ 60 ∧ Stop rest ∧ ∀ H', Frm o H H' → H' o = some (.ins (f 30) dx (rdFs z (a + (numS i).length : Nat) b)) → Q (.int i) H'
theorem ok_Reading_bound (T : Txt w K mg f fd) : FnOk P w K mg base CX0 5 (f 31007) (fd 31007) ["self"] (sp_Reading_bound K f) := by
  refine T.d_Reading_bound.F.ok sc_Reading_bound (fun vs H Q E h => ?_) (fun cdv A outer s H vs Q E hr h => ?_)
  · obtain ⟨o, dx, z, a, b, i, rest, rfl, _⟩ := h
    rfl
  · obtain ⟨o, dx, z, a, b, i, rest, rfl, ho, hA, hz, hi, hst, k⟩ := h
    refine ⟨_, (pss_cons (psl 1 sc_Reading_bound.nd (pe_defL T.d_read_value (ok_read_value T) (hr.mono (by decide)) rfl (by decide) rfl (pal rfl pe_str (pal rfl (pe_meth (pvl 0) T.o_Reading.cls T.m_Reading_run_of (ok_Reading_run_of T) (hr.mono (by decide)) T.d_Reading_run_of.b .nil pass0 (pal rfl (pe_op op_add_str (pgs T.g_FIGURES) pe_str) pa_nil) rfl rfl rfl) pa_nil))))
     (pss_cons (ps_if (pt_cmpR op_isN (pvl 1) pe_non (nomark _))
     (pss_one ps_never)
     pss_nil)
     (pss_one (ps_ret (pvl 1))))), ?_⟩
    ((try dsimp only [cxOf, L2.Cx.inTry, L2.Cx.inHand]); simp only [iItems, rStarts3, rAdd, tNever, tCIn, tCGet, L2.start, tSeq, tNext, tIfS, tRet, tRetN, tAsg, tDrop, gName, tVar, tC, tOp, tUn, tCall, tCB, tCons, tNil, tTest, tB, tNot, tAnd, tOr, tAndV, tOrV, tNotV, tIf, tChain, tLst, tTup, tBM, tBM0, rI, rI0, rU, rEq, rNe, scal, tComp, iStr, iList, iTup, iRng1, iRng2, tYes, rIsP, rAll, rLenS, rLenV, rListOf, rTupleOf, tDisp, tPairs, tSl, tPart, tNoPart, rSlS, rSlL, rFind, rStarts, rIntT, rStrA, rRepS, tCallX, tRaise, tRaiseI, tTry, tAs, offE, tXF, sXset, tMethX, tMakeX, rIsX, tFld, sFld, tMeth, rSortD, rDPop, tDNewK, tDIn, tDNotIn, tDGet, sDPut, rIndexS, tStop, gSub, 
  List.map_cons, List.map_nil, List.cons_append, List.nil_append, List.length_cons, List.length_nil, List.getElem?_cons_zero, List.getElem?_cons_succ, Option.some.injEq, exists_eq_left', exists_eq_left, List.set_cons_zero, List.set_cons_succ, List.cons.injEq, and_true, true_and, V.int.injEq, V.str.injEq, V.bl.injEq, V.ref.injEq, V.ty.injEq, exists_and_left, exists_and_right, List.append_nil, reduceCtorEq, false_and, and_false, exists_false, or_false, false_or, decide_true, decide_false, Bool.not_true, Bool.not_false, if_true, if_false, Bool.false_eq_true, ite_true, ite_false, and_assoc, Nat.reduceAdd, Nat.reduceSub, List.replicate_succ, List.replicate_zero, Nat.zero_add, Nat.add_zero, Nat.sub_self])
    have hw := num_len hi
    refine ⟨_, _, ho, rfl, small_line (by decide), o, dx, z, a, b, _, numS i, rest, rfl, ho, hA, hz, num_in, fun c hc => (stop_no hst c hc).2, ?_⟩
    refine ⟨_, _, rfl, small_line (by show (numS i).toArray.size ≤ _; rw [List.size_toArray]; omega), fun H1 s1 => ?_⟩
    rw [show decide (Str.ofString "number" = Str.ofString "number") = true from rfl, num_read hi]
    dsimp only
    rw [if_neg (by simp)]
    exact k H1 (Frm.trans Frm.upd (Frm.of s1)) (s1 _ _ upd_same)
theorem Nam.short {n : Str} (h : Nam n) : shortV (.str n) letters = true := by
  have e : madeOf n letters = true := List.all_eq_true.mpr fun c hc => decide_eq_true (h.2.2 c hc)
  unfold shortV
  simp [h.1, h.2.1, e]
noncomputable def tail : Sv → List Nat
  | .lacks _ => [63]
  | .is _ x => 61 :: (wr x).cps.toList
  | .bnd o _ i => bm o :: numS i
  | _ => []
noncomputable def nm : Sv → Str
  | .lacks n => n
  | .is n _ => n
  | .bnd _ n _ => n
  | _ => Str.empty
theorem pl_txt {s : Sv} (h : isPl s = true) : txt s = (nm s).cps.toList ++ tail s := by
  cases s with
  | lacks _ => simp only [txt, nm, tail]
  | is _ _ => simp only [txt, nm, tail]
  | bnd _ _ _ => simp only [txt, nm, tail]
  | neg _ => cases h
  | many _ _ => cases h
theorem pl_nam {ns kds : List Str} {s : Sv} (h : isPl s = true) (g : Good ns kds s) : Nam (nm s) := by
  cases s with
  | lacks _ => simp only [Good] at g; exact g.1
  | is _ _ => simp only [Good] at g; exact g.1
  | bnd _ _ _ => simp only [Good] at g; exact g.1
  | neg _ => cases h
  | many _ _ => cases h
theorem pl_mark {s : Sv} (h : isPl s = true) (rest : List Nat) : ∀ c, (tail s ++ rest).head? = some c → c ∉ letters.cps.toList := fun c hc => by
  have : c = 63 ∨ c = 61 ∨ c = 60 ∨ c = 62 := by
    cases s with
    | lacks _ => simp only [tail] at hc; exact .inl (by simpa using hc.symm)
    | is _ _ => simp only [tail] at hc; exact .inr (.inl (by simpa using hc.symm))
    | bnd o _ _ =>
      simp only [tail, bm] at hc
      cases o
      · exact .inr (.inr (.inl (by simpa using hc.symm)))
      · exact .inr (.inr (.inr (by simpa using hc.symm)))
    | neg _ => cases h
    | many _ _ => cases h
  rcases this with rfl | rfl | rfl | rfl <;> decide
noncomputable def sp_Reading_plain_sieve (K : PySem.W.Frag) (f : Nat → Addr) : Sp := fun vs H Q _ => ∃ (o dx : Addr) (z : Str) (a : Nat) (b : Int) (s : Sv) (rest : List Nat) (ns kds : List Str), vs = [.ref o] ∧ H o = some (.ins (f 30) dx (rdFs z a b)) ∧ At z a (txt s ++ rest) ∧ z.length ≤ 10000 ∧ isPl s = true ∧ Good ns kds s ∧ Stop rest ∧ ∀ H' v, Frm o H H' → H' o = some (.ins (f 30) dx (rdFs z (a + (txt s).length : Nat) b)) → Sx H' (raw s) v → Q v H'
theorem ok_Reading_plain_sieve (T : Txt w K mg f fd) : FnOk P w K mg base CX0 6 (f 31005) (fd 31005) ["self"] (sp_Reading_plain_sieve K f) := by
  refine T.d_Reading_plain_sieve.F.ok sc_Reading_plain_sieve (fun vs H Q E h => ?_) (fun cdv A outer s H vs Q E hr h => ?_)
  · obtain ⟨o, dx, z, a, b, s, rest, ns, kds, rfl, _⟩ := h
    rfl
  · obtain ⟨o, dx, z, a, b, s, rest, ns, kds, rfl, ho, hA, hz, hpl, hG, hst, k⟩ := h
    have hnm := pl_nam hpl hG
    have hmk := pl_mark hpl rest
    have etx := pl_txt hpl
    rw [etx, List.append_assoc] at hA
    refine ⟨_, (pss_cons (psl 1 sc_Reading_plain_sieve.nd (pe_meth (pvl 0) T.o_Reading.cls T.m_Reading_run_of (ok_Reading_run_of T) (hr.mono (by decide)) T.d_Reading_run_of.b .nil pass0 (pal rfl (pgs T.g_LETTERS) pa_nil) rfl rfl rfl))
     (pss_cons (ps_if (pt_not (pt_val (pe_defL T.d_is_name (ok_is_name T) (hr.mono (by decide)) rfl (by decide) rfl (pal rfl (pvl 1) pa_nil))))
     (pss_one ps_never)
     pss_nil)
     (pss_cons (ps_if (pt_val (pe_meth (pvl 0) T.o_Reading.cls T.m_Reading_takes (ok_Reading_takes T) (hr.mono (by decide)) T.d_Reading_takes.b .nil pass0 (pal rfl pe_str pa_nil) rfl rfl rfl))
     (pss_one (ps_ret (pe_tup (pal rfl pe_str (pal rfl (pvl 1) pa_nil)))))
     pss_nil)
     (pss_cons (ps_for PassesOwn.never rfl (pi_items T.c_MARKS T.g_MARKS rfl (by decide) rfl rfl) (k_pgT rfl rfl (pgs_cons (pgl 2 sc_Reading_plain_sieve.nd) (pgs_cons (pgl 3 sc_Reading_plain_sieve.nd) pgs_nil)))
     (pss_one (ps_if (pt_val (pe_meth (pvl 0) T.o_Reading.cls T.m_Reading_takes (ok_Reading_takes T) (hr.mono (by decide)) T.d_Reading_takes.b .nil pass0 (pal rfl (pvl 3) pa_nil) rfl rfl rfl))
     (pss_one (ps_ret (pe_tup (pal rfl (pvl 2) (pal rfl (pvl 1) (pal rfl (pe_ifExp (pt_cmpR op_eq (pvl 2) pe_str (nomark _)) (pe_meth0 (pvl 0) T.o_Reading.cls T.m_Reading_value_text (ok_Reading_value_text T) (hr.mono (by decide)) T.d_Reading_value_text.b .nil pass0 rfl) (pe_meth0 (pvl 0) T.o_Reading.cls T.m_Reading_bound (ok_Reading_bound T) (hr.mono (by decide)) T.d_Reading_bound.b .nil pass0 rfl)) pa_nil))))))
     pss_nil)))
     (pss_one ps_never))))), ?_⟩
    generalize hB : tSeq (tFor _ _ _) _ = B
    ((try dsimp only [cxOf, L2.Cx.inTry, L2.Cx.inHand]); simp only [iItems, rStarts3, rAdd, tNever, tCIn, tCGet, L2.start, tSeq, tNext, tIfS, tRet, tRetN, tAsg, tDrop, gName, tVar, tC, tOp, tUn, tCall, tCB, tCons, tNil, tTest, tB, tNot, tAnd, tOr, tAndV, tOrV, tNotV, tIf, tChain, tLst, tTup, tBM, tBM0, rI, rI0, rU, rEq, rNe, scal, tComp, iStr, iList, iTup, iRng1, iRng2, tYes, rIsP, rAll, rLenS, rLenV, rListOf, rTupleOf, tDisp, tPairs, tSl, tPart, tNoPart, rSlS, rSlL, rFind, rStarts, rIntT, rStrA, rRepS, tCallX, tRaise, tRaiseI, tTry, tAs, offE, tXF, sXset, tMethX, tMakeX, rIsX, tFld, sFld, tMeth, rSortD, rDPop, tDNewK, tDIn, tDNotIn, tDGet, sDPut, rIndexS, tStop, gSub, 
  List.map_cons, List.map_nil, List.cons_append, List.nil_append, List.length_cons, List.length_nil, List.getElem?_cons_zero, List.getElem?_cons_succ, Option.some.injEq, exists_eq_left', exists_eq_left, List.set_cons_zero, List.set_cons_succ, List.cons.injEq, and_true, true_and, V.int.injEq, V.str.injEq, V.bl.injEq, V.ref.injEq, V.ty.injEq, exists_and_left, exists_and_right, List.append_nil, reduceCtorEq, false_and, and_false, exists_false, or_false, false_or, decide_true, decide_false, Bool.not_true, Bool.not_false, if_true, if_false, Bool.false_eq_true, ite_true, ite_false, and_assoc, Nat.reduceAdd, Nat.reduceSub, List.replicate_succ, List.replicate_zero, Nat.zero_add, Nat.add_zero, Nat.sub_self])
    refine ⟨_, _, ho, rfl, o, dx, z, a, b, _, (nm s).cps.toList, tail s ++ rest, rfl, ho, hA, hz, hnm.2.2, hmk, ?_⟩
    have hA1 := hA.step
    have h12 := hnm.2.1
    have e1 : (⟨(nm s).cps.toList.toArray⟩ : Str) = nm s := rfl
    rw [e1]
    rw [len_cps] at hA1 ⊢
    have F1 : Frm o H (upd H o (.ins (f 30) dx (rdFs z (a + (nm s).length : Nat) b))) := Frm.upd
    have g1 : upd H o (.ins (f 30) dx (rdFs z (a + (nm s).length : Nat) b)) o = some (.ins (f 30) dx (rdFs z (a + (nm s).length : Nat) b)) := upd_same
    generalize upd H o (.ins (f 30) dx (rdFs z (a + (nm s).length : Nat) b)) = H1 at *
    refine ⟨_, _, rfl, Pl.of_str (small_line (by omega)), fun H2 s2 => ⟨_, rfl, ?_⟩⟩
    rw [hnm.short, if_neg (by decide)]
    have F2 := F1.trans (Frm.of s2)
    have g2 := s2 _ _ g1
    clear F1 g1 s2
    refine ⟨_, _, g2, rfl, o, dx, z, a + (nm s).length, b, "?", _, rfl, g2, hA1, by decide, fun e => ⟨_, rfl, ?_⟩, fun e => ⟨_, rfl, ?_⟩⟩
    · rw [if_neg (by decide)]
      subst hB
      ((try dsimp only [cxOf, L2.Cx.inTry, L2.Cx.inHand]); simp only [iItems, rStarts3, rAdd, tNever, tCIn, tCGet, L2.start, tSeq, tNext, tIfS, tRet, tRetN, tAsg, tDrop, gName, tVar, tC, tOp, tUn, tCall, tCB, tCons, tNil, tTest, tB, tNot, tAnd, tOr, tAndV, tOrV, tNotV, tIf, tChain, tLst, tTup, tBM, tBM0, rI, rI0, rU, rEq, rNe, scal, tComp, iStr, iList, iTup, iRng1, iRng2, tYes, rIsP, rAll, rLenS, rLenV, rListOf, rTupleOf, tDisp, tPairs, tSl, tPart, tNoPart, rSlS, rSlL, rFind, rStarts, rIntT, rStrA, rRepS, tCallX, tRaise, tRaiseI, tTry, tAs, offE, tXF, sXset, tMethX, tMakeX, rIsX, tFld, sFld, tMeth, rSortD, rDPop, tDNewK, tDIn, tDNotIn, tDGet, sDPut, rIndexS, tStop, gSub, 
  List.map_cons, List.map_nil, List.cons_append, List.nil_append, List.length_cons, List.length_nil, List.getElem?_cons_zero, List.getElem?_cons_succ, Option.some.injEq, exists_eq_left', exists_eq_left, List.set_cons_zero, List.set_cons_succ, List.cons.injEq, and_true, true_and, V.int.injEq, V.str.injEq, V.bl.injEq, V.ref.injEq, V.ty.injEq, exists_and_left, exists_and_right, List.append_nil, reduceCtorEq, false_and, and_false, exists_false, or_false, false_or, decide_true, decide_false, Bool.not_true, Bool.not_false, if_true, if_false, Bool.false_eq_true, ite_true, ite_false, and_assoc, Nat.reduceAdd, Nat.reduceSub, List.replicate_succ, List.replicate_zero, Nat.zero_add, Nat.add_zero, Nat.sub_self])
      refine for_in ?_
      unfold iItems
      have tk : ∀ (m : Str) (mk : Nat) (cs : List Nat), m.cps.toList = [mk] → (m.cps.toList.isPrefixOf (mk :: cs) = true) := fun m mk cs e => by rw [e]; simp [List.isPrefixOf]
      have tn : ∀ (m : Str) (mk c : Nat) (cs : List Nat), m.cps.toList = [mk] → mk ≠ c → (m.cps.toList.isPrefixOf (c :: cs) = false) := fun m mk c cs e n => by rw [e]; simp [List.isPrefixOf, n]
      cases s with
      | neg _ => cases hpl
      | many _ _ => cases hpl
      | lacks n =>
        simp only [tail] at e
        exact absurd e (by rw [List.cons_append, tk _ 63 _ (by decide)]; simp)
      | is n x =>
        simp only [Good] at hG
        obtain ⟨_, jj, kd, _, _, hx⟩ := hG
        simp only [tail, List.cons_append] at hA1
        have hA2 := hA1.one
        refine ForW.items (fun i σ H' => i = 0 ∧ (∃ v2 v3, σ = [some (V.ref o), some (V.str n), v2, v3]) ∧ Same H2 H') ⟨rfl, ⟨none, none, rfl⟩, Same.refl _⟩ ?_ ?_
        · rintro i kv σ H3 p hkv ⟨rfl, ⟨v2, v3, rfl⟩, s3⟩ hp
          cases hkv
          have s4 := s3.new hp (HO.tup [V.str (Str.ofString "is"), V.str (Str.ofString "=")])
          refine ⟨p, _, rfl, .of upd_same, rfl, ?_⟩
          generalize upd H3 p (HO.tup [V.str (Str.ofString "is"), V.str (Str.ofString "=")]) = H4 at *
          have g4 := s4 _ _ g2
          simp only [gCons, gNil, gName]
          ((try dsimp only [cxOf, L2.Cx.inTry, L2.Cx.inHand]); simp only [iItems, rStarts3, rAdd, tNever, tCIn, tCGet, L2.start, tSeq, tNext, tIfS, tRet, tRetN, tAsg, tDrop, gName, tVar, tC, tOp, tUn, tCall, tCB, tCons, tNil, tTest, tB, tNot, tAnd, tOr, tAndV, tOrV, tNotV, tIf, tChain, tLst, tTup, tBM, tBM0, rI, rI0, rU, rEq, rNe, scal, tComp, iStr, iList, iTup, iRng1, iRng2, tYes, rIsP, rAll, rLenS, rLenV, rListOf, rTupleOf, tDisp, tPairs, tSl, tPart, tNoPart, rSlS, rSlL, rFind, rStarts, rIntT, rStrA, rRepS, tCallX, tRaise, tRaiseI, tTry, tAs, offE, tXF, sXset, tMethX, tMakeX, rIsX, tFld, sFld, tMeth, rSortD, rDPop, tDNewK, tDIn, tDNotIn, tDGet, sDPut, rIndexS, tStop, gSub, 
  List.map_cons, List.map_nil, List.cons_append, List.nil_append, List.length_cons, List.length_nil, List.getElem?_cons_zero, List.getElem?_cons_succ, Option.some.injEq, exists_eq_left', exists_eq_left, List.set_cons_zero, List.set_cons_succ, List.cons.injEq, and_true, true_and, V.int.injEq, V.str.injEq, V.bl.injEq, V.ref.injEq, V.ty.injEq, exists_and_left, exists_and_right, List.append_nil, reduceCtorEq, false_and, and_false, exists_false, or_false, false_or, decide_true, decide_false, Bool.not_true, Bool.not_false, if_true, if_false, Bool.false_eq_true, ite_true, ite_false, and_assoc, Nat.reduceAdd, Nat.reduceSub, List.replicate_succ, List.replicate_zero, Nat.zero_add, Nat.add_zero, Nat.sub_self])
          refine ⟨_, _, g4, rfl, o, dx, z, a + n.length, b, Str.ofString "=", _, rfl, g4, hA1, by decide, fun e => absurd e (by rw [tk _ 61 _ (by decide)]; simp), fun _ => ⟨_, rfl, ?_⟩⟩
          rw [if_pos rfl]
          have F5 := (F2.trans (Frm.of s4)).trans (Frm.upd (u := .ins (f 30) dx (rdFs z (a + n.length + (Str.ofString "=").length : Nat) b)))
          have g5 : upd H4 o (.ins (f 30) dx (rdFs z (a + n.length + (Str.ofString "=").length : Nat) b)) o = some (.ins (f 30) dx (rdFs z (a + n.length + 1 : Nat) b)) := upd_same
          generalize upd H4 o (.ins (f 30) dx (rdFs z (a + n.length + (Str.ofString "=").length : Nat) b)) = H5 at *
          refine ⟨_, _, g5, rfl, o, dx, z, a + n.length + 1, b, x, kd, rest, rfl, g5, hA2, hz, hx, hst, small_line (by decide), fun p2 hp2 => k _ _ ((F5.trans Frm.upd).trans (Frm.of (Same.upd_new hp2 _))) ?_ ?_⟩
          · have e9 : a + (txt (.is n x)).length = a + n.length + 1 + (wr x).length := by
              simp only [txt]
              rw [List.length_append, len_cps, List.length_cons, len_cps]
              omega
            rw [e9]
            exact Same.upd_new hp2 _ _ _ upd_same
          · simp only [raw, Sx]
            exact ⟨p2, rfl, upd_same⟩
        · rintro σ H3 ⟨h3, _⟩
          cases h3
      | bnd ov n i =>
        simp only [Good] at hG
        obtain ⟨_, _, hi⟩ := hG
        simp only [tail, List.cons_append] at hA1
        have hA2 := hA1.one
        refine ForW.items (fun j σ H' => j ≤ (if ov then 2 else 1) ∧ (∃ v2 v3, σ = [some (V.ref o), some (V.str n), v2, v3]) ∧ Same H2 H') ⟨Nat.zero_le _, ⟨none, none, rfl⟩, Same.refl _⟩ ?_ ?_
        · rintro j kv σ H3 p hkv ⟨hj, ⟨v2, v3, rfl⟩, s3⟩ hp
          have s4 := s3.new hp (HO.tup [V.str kv.1, V.str kv.2])
          refine ⟨p, _, rfl, .of upd_same, rfl, ?_⟩
          generalize upd H3 p (HO.tup [V.str kv.1, V.str kv.2]) = H4 at *
          have g4 := s4 _ _ g2
          have kvs : (kv.1 ≠ Str.ofString "is" ∧ kv.1 = bw ov ∧ kv.2.cps.toList = [bm ov]) ∨ (j + 1 ≤ (if ov then 2 else 1) ∧ ∃ mk, kv.2.cps.toList = [mk] ∧ mk ≠ bm ov) := by
            match j, hkv with
            | 0, h => cases h; exact .inr ⟨by cases ov <;> decide, 61, by decide, by cases ov <;> decide⟩
            | 1, h =>
              cases h
              cases ov
              · exact .inl ⟨by decide, rfl, by decide⟩
              · exact .inr ⟨by decide, 60, by decide, by decide⟩
            | 2, h =>
              cases h
              cases ov
              · exact absurd hj (by decide)
              · exact .inl ⟨by decide, rfl, by decide⟩
            | n + 3, h => simp at h
          obtain ⟨k1, k2⟩ := kv
          simp only [gCons, gNil, gName] at *
          have l2 : k2.length = 1 := by
            rcases kvs with ⟨_, _, e⟩ | ⟨_, mk, e, _⟩ <;> rw [← len_cps, e] <;> rfl
          ((try dsimp only [cxOf, L2.Cx.inTry, L2.Cx.inHand]); simp only [iItems, rStarts3, rAdd, tNever, tCIn, tCGet, L2.start, tSeq, tNext, tIfS, tRet, tRetN, tAsg, tDrop, gName, tVar, tC, tOp, tUn, tCall, tCB, tCons, tNil, tTest, tB, tNot, tAnd, tOr, tAndV, tOrV, tNotV, tIf, tChain, tLst, tTup, tBM, tBM0, rI, rI0, rU, rEq, rNe, scal, tComp, iStr, iList, iTup, iRng1, iRng2, tYes, rIsP, rAll, rLenS, rLenV, rListOf, rTupleOf, tDisp, tPairs, tSl, tPart, tNoPart, rSlS, rSlL, rFind, rStarts, rIntT, rStrA, rRepS, tCallX, tRaise, tRaiseI, tTry, tAs, offE, tXF, sXset, tMethX, tMakeX, rIsX, tFld, sFld, tMeth, rSortD, rDPop, tDNewK, tDIn, tDNotIn, tDGet, sDPut, rIndexS, tStop, gSub, 
  List.map_cons, List.map_nil, List.cons_append, List.nil_append, List.length_cons, List.length_nil, List.getElem?_cons_zero, List.getElem?_cons_succ, Option.some.injEq, exists_eq_left', exists_eq_left, List.set_cons_zero, List.set_cons_succ, List.cons.injEq, and_true, true_and, V.int.injEq, V.str.injEq, V.bl.injEq, V.ref.injEq, V.ty.injEq, exists_and_left, exists_and_right, List.append_nil, reduceCtorEq, false_and, and_false, exists_false, or_false, false_or, decide_true, decide_false, Bool.not_true, Bool.not_false, if_true, if_false, Bool.false_eq_true, ite_true, ite_false, and_assoc, Nat.reduceAdd, Nat.reduceSub, List.replicate_succ, List.replicate_zero, Nat.zero_add, Nat.add_zero, Nat.sub_self])
          rcases kvs with ⟨n1, rfl, e2⟩ | ⟨hj2, mk, e2, n2⟩
          · refine ⟨_, _, g4, rfl, o, dx, z, a + n.length, b, k2, _, rfl, g4, hA1, by omega, fun e => absurd e (by rw [tk _ _ _ e2]; simp), fun _ => ⟨_, rfl, ?_⟩⟩
            rw [if_pos rfl, if_neg (by simpa using n1), l2]
            have F5 := (F2.trans (Frm.of s4)).trans (Frm.upd (u := .ins (f 30) dx (rdFs z (a + n.length + 1 : Nat) b)))
            have g5 : upd H4 o (.ins (f 30) dx (rdFs z (a + n.length + 1 : Nat) b)) o = some (.ins (f 30) dx (rdFs z (a + n.length + 1 : Nat) b)) := upd_same
            generalize upd H4 o (.ins (f 30) dx (rdFs z (a + n.length + 1 : Nat) b)) = H5 at *
            refine ⟨_, _, g5, rfl, o, dx, z, a + n.length + 1, b, i, rest, rfl, g5, hA2, hz, hi, hst, fun H6 F6 g6 => ⟨small_line (by decide), fun p2 hp2 => k _ _ ((F5.trans F6).trans (Frm.of (Same.upd_new hp2 _))) ?_ ?_⟩⟩
            · have e9 : a + (txt (.bnd ov n i)).length = a + n.length + 1 + (numS i).length := by
                simp only [txt]
                rw [List.length_append, len_cps, List.length_cons]
                omega
              rw [e9]
              exact Same.upd_new hp2 _ _ _ g6
            · simp only [raw, Sx]
              exact ⟨p2, rfl, upd_same⟩
          · refine ⟨_, _, g4, rfl, o, dx, z, a + n.length, b, k2, _, rfl, g4, hA1, by omega, fun _ => ⟨_, rfl, ?_⟩, fun e => absurd e (by rw [tn _ _ _ _ e2 n2]; simp)⟩
            rw [if_neg (by decide)]
            exact ⟨hj2, ⟨_, rfl⟩, s4⟩
        · rintro σ H3 ⟨h3, _⟩
          exact absurd h3 (by cases ov <;> decide)
    · rw [if_pos rfl]
      cases s with
      | neg _ => cases hpl
      | many _ _ => cases hpl
      | is n x => exact absurd e (by simp only [tail]; rw [show (Str.ofString "?").cps.toList = [63] by decide]; simp [List.isPrefixOf])
      | bnd o n i => exact absurd e (by simp only [tail]; rw [show (Str.ofString "?").cps.toList = [63] by decide]; cases o <;> simp [List.isPrefixOf, bm])
      | lacks n =>
        refine ⟨small_line (by decide), fun p hp => k _ _ ((F2.trans Frm.upd).trans (Frm.of (Same.upd_new hp _))) ?_ ?_⟩
        · have e9 : a + (txt (.lacks n)).length = a + n.length + 1 := by
            simp only [txt]
            rw [List.length_append, len_cps]
            rfl
          rw [e9]
          exact Same.upd_new hp _ _ _ upd_same
        · simp only [raw, Sx]
          exact ⟨p, rfl, upd_same⟩
theorem ltr_no : ∀ c ∈ letters.cps.toList, c ≠ 33 ∧ c ≠ 40 ∧ c ≠ 41 := by decide +kernel
theorem pl_first {ns kds : List Str} {s : Sv} (h : isPl s = true) (g : Good ns kds s) : ∃ c t, txt s = c :: t ∧ c ≠ 33 ∧ c ≠ 40 ∧ c ≠ 41 := by
  have hn := pl_nam h g
  rw [pl_txt h]
  cases e : (nm s).cps.toList with
  | nil =>
    have := hn.1
    rw [← len_cps, e] at this
    simp at this
  | cons c t => exact ⟨c, t ++ tail s, rfl, ltr_no c (hn.2.2 c (by rw [e]; exact List.mem_cons_self))⟩
theorem txt_first {ns kds : List Str} {s : Sv} (g : Good ns kds s) : ∃ c t, txt s = c :: t ∧ c ≠ 41 := by
  cases s with
  | neg s => exact ⟨33, txt s, by simp only [txt], by decide⟩
  | many o ss => exact ⟨40, _, txt_many o ss, by decide⟩
  | lacks n => obtain ⟨c, t, e, _, _, n⟩ := pl_first (s := .lacks n) rfl g; exact ⟨c, t, e, n⟩
  | is n x => obtain ⟨c, t, e, _, _, n⟩ := pl_first (s := .is n x) rfl g; exact ⟨c, t, e, n⟩
  | bnd o n i => obtain ⟨c, t, e, _, _, n⟩ := pl_first (s := .bnd o n i) rfl g; exact ⟨c, t, e, n⟩
theorem pre_one {m : Str} {mk : Nat} (e : m.cps.toList = [mk]) (cs : List Nat) : m.cps.toList.isPrefixOf (mk :: cs) = true := by rw [e]; simp [List.isPrefixOf]
theorem pre_no {m : Str} {mk c : Nat} (e : m.cps.toList = [mk]) (n : mk ≠ c) (cs : List Nat) : m.cps.toList.isPrefixOf (c :: cs) = false := by rw [e]; simp [List.isPrefixOf, n]
theorem more_stop (ov : Bool) (ss : List Sv) (rest : List Nat) : Stop (more (jt ov) ss ++ 41 :: rest) := fun c hc => by
  cases ss with
  | nil => simp only [more] at hc; exact .inr (.inr (by simpa using hc.symm))
  | cons s ss =>
    simp only [more] at hc
    have : jt ov = c := by simpa using hc
    subst this
    cases ov
    · exact .inl rfl
    · exact .inr (.inl rfl)
noncomputable def sp_Reading_one_sieve (K : PySem.W.Frag) (f : Nat → Addr) : Nat → Sp
  | 0 => fun _ _ _ _ => False
  | d + 1 => fun vs H Q _ => ∃ (o dx : Addr) (z : Str) (a b lvl : Nat) (s : Sv) (rest : List Nat) (ns kds : List Str), vs = [.ref o, .int lvl] ∧ H o = some (.ins (f 30) dx (rdFs z a b)) ∧ At z a (txt s ++ rest) ∧ z.length ≤ 10000 ∧ Good ns kds s ∧ lev s ≤ d + 1 ∧ lvl + lev s ≤ 13 ∧ b + cnt s ≤ 60 ∧ Stop rest ∧ ∀ H' v, Frm o H H' → H' o = some (.ins (f 30) dx (rdFs z (a + (txt s).length : Nat) (b + cnt s : Nat))) → Sx H' (raw s) v → Q v H'
noncomputable def sp_Reading_some_sieves (K : PySem.W.Frag) (f : Nat → Addr) (d : Nat) : Sp := fun vs H Q _ => ∃ (o dx : Addr) (z : Str) (a b lvl : Nat) (ov : Bool) (jz : Str) (ss : List Sv) (rest : List Nat) (ns kds : List Str), vs = [.ref o, .str jz, .int lvl] ∧ jz.cps.toList = [jt ov] ∧ H o = some (.ins (f 30) dx (rdFs z a b)) ∧ At z a (kt (jt ov) ss ++ 41 :: rest) ∧ z.length ≤ 10000 ∧ Goods ns kds ss ∧ levs ss ≤ d ∧ lvl + levs ss ≤ 13 ∧ b + cnts ss ≤ 60 ∧
  ∀ H' q xs, Frm o H H' → H' o = some (.ins (f 30) dx (rdFs z (a + (kt (jt ov) ss).length + 1 : Nat) (b + cnts ss : Nat))) → H' q = some (.tup xs) → Sxs H' (raws ss) xs → Q (.ref q) H'
theorem st_Reading_some_sieves (T : Txt w K mg f fd) (dp : Nat) (ih : FnOk P w K mg base CX0 (7 + 2 * dp) (f 31003) (fd 31003) ["self", "level"] (sp_Reading_one_sieve K f dp)) : FnOk P w K mg base CX0 (7 + 2 * dp + 1) (f 31004) (fd 31004) ["self", "joint", "level"] (sp_Reading_some_sieves K f dp) := by
  refine T.d_Reading_some_sieves.F.ok sc_Reading_some_sieves (fun vs H Q E h => ?_) (fun cdv A outer s H vs Q E hr h => ?_)
  · obtain ⟨o, dx, z, a, b, lvl, ov, jz, ss, rest, ns, kds, rfl, _⟩ := h
    rfl
  · obtain ⟨o, dx, z, a, b, lvl, ov, jz, ss, rest, ns, kds, rfl, hj, ho, hA, hz, hG, hL, hV, hC, k⟩ := h
    have hjl : jz.length = 1 := by rw [← len_cps, hj]; rfl
    have hjn : jt ov ≠ 41 := by cases ov <;> decide
    refine ⟨_, (pss_cons (ps_if (pt_val (pe_meth (pvl 0) T.o_Reading.cls T.m_Reading_takes (ok_Reading_takes T) (hr.mono (by omega)) T.d_Reading_takes.b .nil pass0 (pal rfl pe_str pa_nil) rfl rfl rfl))
     (pss_one (ps_ret (pe_tup pa_nil)))
     pss_nil)
     (pss_cons (psl 3 sc_Reading_some_sieves.nd (pe_lst (pal rfl (pe_meth (pvl 0) T.o_Reading.cls T.m_Reading_one_sieve ih (hr.mono (by omega)) T.d_Reading_one_sieve.b .nil pass0 (pal rfl (pvl 2) pa_nil) rfl rfl rfl) pa_nil)))
     (pss_cons (ps_while PassesOwn.never (pt_val (pe_meth (pvl 0) T.o_Reading.cls T.m_Reading_takes (ok_Reading_takes T) (hr.mono (by omega)) T.d_Reading_takes.b .nil pass0 (pal rfl (pvl 1) pa_nil) rfl rfl rfl))
     (pss_one (ps_expr (k_bmL rfl PySem.F.plainAttrs_list PySem.F.slot_list_append PySem.F.type_list_append mt_append rfl rfl rfl rfl (pvl 3) (pal rfl (pe_meth (pvl 0) T.o_Reading.cls T.m_Reading_one_sieve ih (hr.mono (by omega)) T.d_Reading_one_sieve.b .nil pass0 (pal rfl (pvl 2) pa_nil) rfl rfl rfl) pa_nil)))))
     (pss_cons (ps_if (pt_not (pt_val (pe_meth (pvl 0) T.o_Reading.cls T.m_Reading_takes (ok_Reading_takes T) (hr.mono (by omega)) T.d_Reading_takes.b .nil pass0 (pal rfl pe_str pa_nil) rfl rfl rfl)))
     (pss_one ps_never)
     pss_nil)
     (pss_one (ps_ret (pe_cTy (k_tuple rfl) T.n_tuple bt_tuple rfl (by decide) (by decide) rfl (pal rfl (pvl 3) pa_nil)))))))), ?_⟩
    ((try dsimp only [cxOf, L2.Cx.inTry, L2.Cx.inHand]); simp only [iItems, rStarts3, rAdd, tNever, tCIn, tCGet, L2.start, tSeq, tNext, tIfS, tRet, tRetN, tAsg, tDrop, gName, tVar, tC, tOp, tUn, tCall, tCB, tCons, tNil, tTest, tB, tNot, tAnd, tOr, tAndV, tOrV, tNotV, tIf, tChain, tLst, tTup, tBM, tBM0, rI, rI0, rU, rEq, rNe, scal, tComp, iStr, iList, iTup, iRng1, iRng2, tYes, rIsP, rAll, rLenS, rLenV, rListOf, rTupleOf, tDisp, tPairs, tSl, tPart, tNoPart, rSlS, rSlL, rFind, rStarts, rIntT, rStrA, rRepS, tCallX, tRaise, tRaiseI, tTry, tAs, offE, tXF, sXset, tMethX, tMakeX, rIsX, tFld, sFld, tMeth, rSortD, rDPop, tDNewK, tDIn, tDNotIn, tDGet, sDPut, rIndexS, tStop, gSub, 
  List.map_cons, List.map_nil, List.cons_append, List.nil_append, List.length_cons, List.length_nil, List.getElem?_cons_zero, List.getElem?_cons_succ, Option.some.injEq, exists_eq_left', exists_eq_left, List.set_cons_zero, List.set_cons_succ, List.cons.injEq, and_true, true_and, V.int.injEq, V.str.injEq, V.bl.injEq, V.ref.injEq, V.ty.injEq, exists_and_left, exists_and_right, List.append_nil, reduceCtorEq, false_and, and_false, exists_false, or_false, false_or, decide_true, decide_false, Bool.not_true, Bool.not_false, if_true, if_false, Bool.false_eq_true, ite_true, ite_false, and_assoc, Nat.reduceAdd, Nat.reduceSub, List.replicate_succ, List.replicate_zero, Nat.zero_add, Nat.add_zero, Nat.sub_self])
    cases ss with
    | nil =>
      simp only [kt, List.nil_append] at hA k
      refine ⟨_, _, ho, rfl, o, dx, z, a, b, Str.ofString ")", _, rfl, ho, hA, by decide, fun e => absurd e (by rw [pre_one (mk := 41) (by decide)]; simp), fun _ => ⟨_, rfl, ?_⟩⟩
      rw [if_pos rfl]
      exact ⟨small_line (by decide), fun q hq => k _ q [] (Frm.upd.trans (Frm.of (Same.upd_new hq _))) (Same.upd_new hq _ _ _ upd_same) upd_same (by simp only [raws, Sxs])⟩
    | cons s ss =>
      simp only [kt, List.append_assoc] at hA k
      simp only [Goods] at hG
      simp only [levs] at hL hV
      simp only [cnts] at hC k
      obtain ⟨c0, t0, ec, nc⟩ := txt_first hG.1
      have lp := lev_pos s
      obtain ⟨e, rfl⟩ : ∃ e, dp = e + 1 := ⟨dp - 1, by omega⟩
      refine ⟨_, _, ho, rfl, o, dx, z, a, b, Str.ofString ")", _, rfl, ho, hA, by decide, fun _ => ⟨_, rfl, ?_⟩, fun e => absurd e (by rw [ec, List.cons_append, pre_no (mk := 41) (by decide) (Ne.symm nc)]; simp)⟩
      rw [if_neg (by decide)]
      refine ⟨_, _, ho, rfl, o, dx, z, a, b, lvl, s, _, ns, kds, rfl, ho, hA, hz, hG.1, by omega, by omega, by omega, more_stop ov ss rest, fun H1 v F1 g1 hv => ?_⟩
      refine ⟨small_line (by decide), fun p hp => ?_⟩
      have hpo : p ≠ o := fun z => by rw [z, g1] at hp; cases hp
      have s2 := Same.upd_new hp (HO.lst [v])
      have g2 : upd H1 p (HO.lst [v]) p = some (.lst [v]) := upd_same
      generalize upd H1 p (HO.lst [v]) = H2 at *
      have hA1 := hA.step
      have hH : H p = none := by
        cases hq : H p with
        | none => rfl
        | some u => rw [F1 p u hpo hq] at hp; cases hp
      refine while_in (fun m σ H' => ∃ (i a' : Nat) (xs : List V), i ≤ ss.length ∧ m = ss.length - i ∧ σ = [some (V.ref o), some (V.str jz), some (V.int lvl), some (V.ref p)] ∧ Frm o H H' ∧ H' o = some (.ins (f 30) dx (rdFs z (a' : Nat) (b + cnts ((s :: ss).take (i + 1)) : Nat))) ∧ At z a' (more (jt ov) (ss.drop i) ++ 41 :: rest) ∧ a' + (more (jt ov) (ss.drop i)).length = a + (txt s).length + (more (jt ov) ss).length ∧ H' p = some (.lst xs) ∧ Sxs H' (raws ((s :: ss).take (i + 1))) xs)
        ⟨_, 0, a + (txt s).length, [v], Nat.zero_le _, rfl, rfl, F1.trans (Frm.of s2), ?_, by rw [List.drop_zero]; exact hA1, by rw [List.drop_zero], g2, ?_⟩ ?_
      · have e1 : cnts ((s :: ss).take (0 + 1)) = cnt s := by rw [List.take_succ_cons, List.take_zero]; simp only [cnts]; omega
        rw [e1]
        exact s2 _ _ g1
      · rw [List.take_succ_cons, List.take_zero]
        simp only [raws, Sxs]
        exact ⟨v, [], rfl, hv.mono s2.t, rfl⟩
      · rintro m σ H' ⟨i, a', xs, hi, rfl, rfl, F, go, hA', ea, gp, hxs⟩
        ((try dsimp only [cxOf, L2.Cx.inTry, L2.Cx.inHand]); simp only [iItems, rStarts3, rAdd, tNever, tCIn, tCGet, L2.start, tSeq, tNext, tIfS, tRet, tRetN, tAsg, tDrop, gName, tVar, tC, tOp, tUn, tCall, tCB, tCons, tNil, tTest, tB, tNot, tAnd, tOr, tAndV, tOrV, tNotV, tIf, tChain, tLst, tTup, tBM, tBM0, rI, rI0, rU, rEq, rNe, scal, tComp, iStr, iList, iTup, iRng1, iRng2, tYes, rIsP, rAll, rLenS, rLenV, rListOf, rTupleOf, tDisp, tPairs, tSl, tPart, tNoPart, rSlS, rSlL, rFind, rStarts, rIntT, rStrA, rRepS, tCallX, tRaise, tRaiseI, tTry, tAs, offE, tXF, sXset, tMethX, tMakeX, rIsX, tFld, sFld, tMeth, rSortD, rDPop, tDNewK, tDIn, tDNotIn, tDGet, sDPut, rIndexS, tStop, gSub, 
  List.map_cons, List.map_nil, List.cons_append, List.nil_append, List.length_cons, List.length_nil, List.getElem?_cons_zero, List.getElem?_cons_succ, Option.some.injEq, exists_eq_left', exists_eq_left, List.set_cons_zero, List.set_cons_succ, List.cons.injEq, and_true, true_and, V.int.injEq, V.str.injEq, V.bl.injEq, V.ref.injEq, V.ty.injEq, exists_and_left, exists_and_right, List.append_nil, reduceCtorEq, false_and, and_false, exists_false, or_false, false_or, decide_true, decide_false, Bool.not_true, Bool.not_false, if_true, if_false, Bool.false_eq_true, ite_true, ite_false, and_assoc, Nat.reduceAdd, Nat.reduceSub, List.replicate_succ, List.replicate_zero, Nat.zero_add, Nat.add_zero, Nat.sub_self])
        by_cases hil : i < ss.length
        · obtain ⟨s', hs'⟩ : ∃ s', ss[i]? = some s' := ⟨_, List.getElem?_eq_getElem hil⟩
          have ed : ss.drop i = s' :: ss.drop (i + 1) := by
            rw [List.drop_eq_getElem_cons hil]
            congr 1
            exact Option.some.inj ((List.getElem?_eq_getElem hil).symm.trans hs')
          rw [ed] at hA' ea
          simp only [more, List.cons_append, List.append_assoc] at hA' ea
          have ek : (s :: ss).take (i + 1 + 1) = (s :: ss).take (i + 1) ++ [s'] := take_snoc (by simpa using hs')
          have c1 : cnts ((s :: ss).take (i + 1 + 1)) ≤ cnts (s :: ss) := cnts_take _ _
          rw [ek, cnts_snoc] at c1
          simp only [cnts] at c1
          have l1 := levs_at hs'
          refine ⟨_, _, go, rfl, o, dx, z, a', _, jz, _, rfl, go, hA', by omega, fun e => absurd e (by rw [pre_one hj]; simp), fun _ => ⟨_, rfl, ?_⟩⟩
          rw [if_pos rfl, hjl]
          have F3 := F.trans (Frm.upd (o := o) (u := .ins (f 30) dx (rdFs z (a' + 1 : Nat) (b + cnts ((s :: ss).take (i + 1)) : Nat))))
          have g3 : upd H' o (.ins (f 30) dx (rdFs z (a' + 1 : Nat) (b + cnts ((s :: ss).take (i + 1)) : Nat))) o = some (.ins (f 30) dx (rdFs z (a' + 1 : Nat) (b + cnts ((s :: ss).take (i + 1)) : Nat))) := upd_same
          have gp3 : upd H' o (.ins (f 30) dx (rdFs z (a' + 1 : Nat) (b + cnts ((s :: ss).take (i + 1)) : Nat))) p = some (.lst xs) := by rw [upd_ne hpo]; exact gp
          have hx3 := hxs.mono (Frm.t (Frm.upd (u := .ins (f 30) dx (rdFs z (a' + 1 : Nat) (b + cnts ((s :: ss).take (i + 1)) : Nat)))) go)
          generalize upd H' o (.ins (f 30) dx (rdFs z (a' + 1 : Nat) (b + cnts ((s :: ss).take (i + 1)) : Nat))) = H3 at *
          refine WGo.of ?_
          ((try dsimp only [cxOf, L2.Cx.inTry, L2.Cx.inHand]); simp only [iItems, rStarts3, rAdd, tNever, tCIn, tCGet, L2.start, tSeq, tNext, tIfS, tRet, tRetN, tAsg, tDrop, gName, tVar, tC, tOp, tUn, tCall, tCB, tCons, tNil, tTest, tB, tNot, tAnd, tOr, tAndV, tOrV, tNotV, tIf, tChain, tLst, tTup, tBM, tBM0, rI, rI0, rU, rEq, rNe, scal, tComp, iStr, iList, iTup, iRng1, iRng2, tYes, rIsP, rAll, rLenS, rLenV, rListOf, rTupleOf, tDisp, tPairs, tSl, tPart, tNoPart, rSlS, rSlL, rFind, rStarts, rIntT, rStrA, rRepS, tCallX, tRaise, tRaiseI, tTry, tAs, offE, tXF, sXset, tMethX, tMakeX, rIsX, tFld, sFld, tMeth, rSortD, rDPop, tDNewK, tDIn, tDNotIn, tDGet, sDPut, rIndexS, tStop, gSub, 
  List.map_cons, List.map_nil, List.cons_append, List.nil_append, List.length_cons, List.length_nil, List.getElem?_cons_zero, List.getElem?_cons_succ, Option.some.injEq, exists_eq_left', exists_eq_left, List.set_cons_zero, List.set_cons_succ, List.cons.injEq, and_true, true_and, V.int.injEq, V.str.injEq, V.bl.injEq, V.ref.injEq, V.ty.injEq, exists_and_left, exists_and_right, List.append_nil, reduceCtorEq, false_and, and_false, exists_false, or_false, false_or, decide_true, decide_false, Bool.not_true, Bool.not_false, if_true, if_false, Bool.false_eq_true, ite_true, ite_false, and_assoc, Nat.reduceAdd, Nat.reduceSub, List.replicate_succ, List.replicate_zero, Nat.zero_add, Nat.add_zero, Nat.sub_self])
          refine ⟨.inl ⟨rfl, _, .of gp3⟩, _, _, g3, rfl, o, dx, z, a' + 1, _, lvl, s', _, ns, kds, rfl, g3, hA'.one, hz, Goods.at hG.2 hs', by omega, by omega, by omega, more_stop ov _ rest, fun H4 v4 F4 g4 hv4 => ?_⟩
          have gp4 := F4 _ _ hpo gp3
          have hx4 := hx3.mono (Frm.t F4 g3)
          have hxl := hx4.len
          rw [raws_len, List.length_take, List.length_cons] at hxl
          have hsl := len_le_cnts ss
          have T5 : TSame H4 (upd H4 p (.lst (xs ++ [v4]))) := TSame.upd_no gp4 (fun _ z => nomatch z)
          refine ⟨p, _, _, rfl, rfl, gp4, small_line (by omega), ss.length - (i + 1), by omega, i + 1, by omega, rfl, fun q u n h => ?_, _, ?_, hA'.one.step, ?_, _, upd_same, ?_⟩
          · have : q ≠ p := fun z => by rw [z, hH] at h; cases h
            rw [upd_ne this]
            exact F4 q u n (F3 q u n h)
          · rw [upd_ne (Ne.symm hpo), g4, ek, cnts_snoc, Nat.add_assoc b]
          · rw [List.length_cons, List.length_append] at ea
            omega
          · rw [ek, raws_snoc]
            exact Sxs.snoc (hx4.mono T5) (hv4.mono T5)
        · obtain rfl : i = ss.length := by omega
          rw [List.drop_length] at hA' ea
          simp only [more, List.nil_append] at hA' ea
          refine ⟨_, _, go, rfl, o, dx, z, a', _, jz, _, rfl, go, hA', by omega, fun _ => ⟨_, rfl, ?_⟩, fun e => absurd e (by rw [pre_no hj hjn]; simp)⟩
          rw [if_neg (by decide)]
          refine ⟨_, _, go, rfl, o, dx, z, a', _, Str.ofString ")", _, rfl, go, hA', by decide, fun e => absurd e (by rw [pre_one (mk := 41) (by decide)]; simp), fun _ => ⟨_, rfl, ?_⟩⟩
          rw [if_neg (by decide)]
          have ek : (s :: ss).take (ss.length + 1) = s :: ss := by rw [List.take_of_length_le (by simp)]
          rw [ek] at hxs go ⊢
          have u1 : Frm o H' (upd H' o (.ins (f 30) dx (rdFs z (a' + (Str.ofString ")").length : Nat) (b + cnts (s :: ss) : Nat)))) := Frm.upd
          refine ⟨xs, .inl ⟨.of (by rw [upd_ne hpo]; exact gp), fun q hq => k _ q xs ((F.trans u1).trans (Frm.of (Same.upd_new hq _))) ?_ upd_same ?_⟩⟩
          · rw [Same.upd_new hq _ _ _ upd_same]
            have e9 : a + (txt s ++ more (jt ov) ss).length + 1 = a' + (Str.ofString ")").length := by
              rw [List.length_append]
              show _ = a' + 1
              simp at ea
              omega
            rw [e9]
            simp only [cnts]
          · exact (hxs.mono (u1.t go)).mono (Same.upd_new hq _).t
theorem pre_two {m : Str} {mk : Nat} (e : m.cps.toList = [mk]) (cs : List Nat) : (Str.ofString "(" ++ m).cps.toList.isPrefixOf (40 :: mk :: cs) = true := by
  rw [PySem.W.KT.app_list, e, show (Str.ofString "(").cps.toList = [40] by decide]
  simp [List.isPrefixOf]
theorem pre_two_no {m : Str} {mk c : Nat} (e : m.cps.toList = [mk]) (n : mk ≠ c) (cs : List Nat) : (Str.ofString "(" ++ m).cps.toList.isPrefixOf (40 :: c :: cs) = false := by
  rw [PySem.W.KT.app_list, e, show (Str.ofString "(").cps.toList = [40] by decide]
  simp [List.isPrefixOf, n]
theorem pre_two_no' {m : Str} {c : Nat} (n : 40 ≠ c) (cs : List Nat) : (Str.ofString "(" ++ m).cps.toList.isPrefixOf (c :: cs) = false := by
  rw [PySem.W.KT.app_list, show (Str.ofString "(").cps.toList = [40] by decide]
  simp [List.isPrefixOf, n]
theorem st_Reading_one_sieve (T : Txt w K mg f fd) (dp : Nat) (ih : FnOk P w K mg base CX0 (7 + 2 * dp) (f 31003) (fd 31003) ["self", "level"] (sp_Reading_one_sieve K f dp)) (ih2 : FnOk P w K mg base CX0 (7 + 2 * dp + 1) (f 31004) (fd 31004) ["self", "joint", "level"] (sp_Reading_some_sieves K f dp)) : FnOk P w K mg base CX0 (7 + 2 * dp + 1 + 1) (f 31003) (fd 31003) ["self", "level"] (sp_Reading_one_sieve K f (dp + 1)) := by
  refine T.d_Reading_one_sieve.F.ok sc_Reading_one_sieve (fun vs H Q E h => ?_) (fun cdv A outer s H vs Q E hr h => ?_)
  · obtain ⟨o, dx, z, a, b, lvl, s, rest, ns, kds, rfl, _⟩ := h
    rfl
  · obtain ⟨o, dx, z, a, b, lvl, s, rest, ns, kds, rfl, ho, hA, hz, hG, hL, hV, hC, hst, k⟩ := h
    have lp := lev_pos s
    have cp := cnt_pos s
    have elv : ((lvl : Int) + 1) = ((lvl + 1 : Nat) : Int) := by omega
    have ebv : ((b : Int) + 1) = ((b + 1 : Nat) : Int) := by omega
    refine ⟨_, (pss_cons (ps_fldaug (pvl 0) pe_int in_add)
     (pss_cons (ps_if (PW.pt (pw_or (pt_cmpR op_gt (pvl 1) (pgi T.g_MOST_LEVELS) (nomark _)) (pw_or1 (pt_cmpR op_gt (pe_fld (pvl 0) rfl) (pgi T.g_MOST_SIEVES) (nomark _)))))
     (pss_one ps_never)
     pss_nil)
     (pss_cons (ps_if (pt_val (pe_meth (pvl 0) T.o_Reading.cls T.m_Reading_takes (ok_Reading_takes T) (hr.mono (by omega)) T.d_Reading_takes.b .nil pass0 (pal rfl pe_str pa_nil) rfl rfl rfl))
     (pss_one (ps_ret (pe_tup (pal rfl pe_str (pal rfl (pe_meth (pvl 0) T.o_Reading.cls T.m_Reading_one_sieve ih (hr.mono (by omega)) T.d_Reading_one_sieve.b .nil pass0 (pal rfl (pe_op op_add (pvl 1) pe_int) pa_nil) rfl rfl rfl) pa_nil)))))
     pss_nil)
     (pss_cons (ps_for PassesOwn.never rfl (pi_items T.c_JOINTS T.g_JOINTS rfl (by decide) rfl rfl) (k_pgT rfl rfl (pgs_cons (pgl 2 sc_Reading_one_sieve.nd) (pgs_cons (pgl 3 sc_Reading_one_sieve.nd) pgs_nil)))
     (pss_one (ps_if (pt_val (pe_meth (pvl 0) T.o_Reading.cls T.m_Reading_takes (ok_Reading_takes T) (hr.mono (by omega)) T.d_Reading_takes.b .nil pass0 (pal rfl (pe_op op_add_str pe_str (pvl 3)) pa_nil) rfl rfl rfl))
     (pss_one (ps_ret (pe_tup (pal rfl (pvl 2) (pal rfl (pe_meth (pvl 0) T.o_Reading.cls T.m_Reading_some_sieves ih2 (hr.mono (by omega)) T.d_Reading_some_sieves.b .nil pass0 (pal rfl (pvl 3) (pal rfl (pe_op op_add (pvl 1) pe_int) pa_nil)) rfl rfl rfl) pa_nil)))))
     pss_nil)))
     (pss_one (ps_ret (pe_meth0 (pvl 0) T.o_Reading.cls T.m_Reading_plain_sieve (ok_Reading_plain_sieve T) (hr.mono (by omega)) T.d_Reading_plain_sieve.b .nil pass0 rfl))))))), ?_⟩
    generalize hB : tSeq (tIfS (tB _) _ _) _ = B
    unfold sFldAug
    ((try dsimp only [cxOf, L2.Cx.inTry, L2.Cx.inHand]); simp only [iItems, rStarts3, rAdd, tNever, tCIn, tCGet, L2.start, tSeq, tNext, tIfS, tRet, tRetN, tAsg, tDrop, gName, tVar, tC, tOp, tUn, tCall, tCB, tCons, tNil, tTest, tB, tNot, tAnd, tOr, tAndV, tOrV, tNotV, tIf, tChain, tLst, tTup, tBM, tBM0, rI, rI0, rU, rEq, rNe, scal, tComp, iStr, iList, iTup, iRng1, iRng2, tYes, rIsP, rAll, rLenS, rLenV, rListOf, rTupleOf, tDisp, tPairs, tSl, tPart, tNoPart, rSlS, rSlL, rFind, rStarts, rIntT, rStrA, rRepS, tCallX, tRaise, tRaiseI, tTry, tAs, offE, tXF, sXset, tMethX, tMakeX, rIsX, tFld, sFld, tMeth, rSortD, rDPop, tDNewK, tDIn, tDNotIn, tDGet, sDPut, rIndexS, tStop, gSub, 
  List.map_cons, List.map_nil, List.cons_append, List.nil_append, List.length_cons, List.length_nil, List.getElem?_cons_zero, List.getElem?_cons_succ, Option.some.injEq, exists_eq_left', exists_eq_left, List.set_cons_zero, List.set_cons_succ, List.cons.injEq, and_true, true_and, V.int.injEq, V.str.injEq, V.bl.injEq, V.ref.injEq, V.ty.injEq, exists_and_left, exists_and_right, List.append_nil, reduceCtorEq, false_and, and_false, exists_false, or_false, false_or, decide_true, decide_false, Bool.not_true, Bool.not_false, if_true, if_false, Bool.false_eq_true, ite_true, ite_false, and_assoc, Nat.reduceAdd, Nat.reduceSub, List.replicate_succ, List.replicate_zero, Nat.zero_add, Nat.add_zero, Nat.sub_self])
    refine ⟨_, _, _, ho, T.o_Reading.cls, T.na_Reading_begun, .int b, rfl, b, rfl, _, _, ho, by simp [rdFs], ?_⟩
    rw [put_begun, if_neg (by simp; omega), ebv]
    have g1 : upd H o (.ins (f 30) dx (rdFs z a (b + 1 : Nat))) o = some (.ins (f 30) dx (rdFs z a (b + 1 : Nat))) := upd_same
    have F1 : Frm o H (upd H o (.ins (f 30) dx (rdFs z a (b + 1 : Nat)))) := Frm.upd
    generalize upd H o (.ins (f 30) dx (rdFs z a (b + 1 : Nat))) = H1 at *
    refine ⟨_, _, _, g1, T.o_Reading.cls, T.na_Reading_begun, .int (b + 1 : Nat), rfl, (b + 1 : Nat), rfl, ?_⟩
    rw [if_neg (by simp; omega)]
    subst hB
    ((try dsimp only [cxOf, L2.Cx.inTry, L2.Cx.inHand]); simp only [iItems, rStarts3, rAdd, tNever, tCIn, tCGet, L2.start, tSeq, tNext, tIfS, tRet, tRetN, tAsg, tDrop, gName, tVar, tC, tOp, tUn, tCall, tCB, tCons, tNil, tTest, tB, tNot, tAnd, tOr, tAndV, tOrV, tNotV, tIf, tChain, tLst, tTup, tBM, tBM0, rI, rI0, rU, rEq, rNe, scal, tComp, iStr, iList, iTup, iRng1, iRng2, tYes, rIsP, rAll, rLenS, rLenV, rListOf, rTupleOf, tDisp, tPairs, tSl, tPart, tNoPart, rSlS, rSlL, rFind, rStarts, rIntT, rStrA, rRepS, tCallX, tRaise, tRaiseI, tTry, tAs, offE, tXF, sXset, tMethX, tMakeX, rIsX, tFld, sFld, tMeth, rSortD, rDPop, tDNewK, tDIn, tDNotIn, tDGet, sDPut, rIndexS, tStop, gSub, 
  List.map_cons, List.map_nil, List.cons_append, List.nil_append, List.length_cons, List.length_nil, List.getElem?_cons_zero, List.getElem?_cons_succ, Option.some.injEq, exists_eq_left', exists_eq_left, List.set_cons_zero, List.set_cons_succ, List.cons.injEq, and_true, true_and, V.int.injEq, V.str.injEq, V.bl.injEq, V.ref.injEq, V.ty.injEq, exists_and_left, exists_and_right, List.append_nil, reduceCtorEq, false_and, and_false, exists_false, or_false, false_or, decide_true, decide_false, Bool.not_true, Bool.not_false, if_true, if_false, Bool.false_eq_true, ite_true, ite_false, and_assoc, Nat.reduceAdd, Nat.reduceSub, List.replicate_succ, List.replicate_zero, Nat.zero_add, Nat.add_zero, Nat.sub_self])
    rw [elv]
    by_cases hpl : isPl s = true
    · obtain ⟨c0, t0, ec, n33, n40, _⟩ := pl_first hpl hG
      obtain ⟨el, ecn⟩ := isPl.lc hpl
      rw [ecn] at k
      refine ⟨_, _, g1, rfl, o, dx, z, a, _, Str.ofString "!", _, rfl, g1, hA, by decide, fun _ => ⟨_, rfl, ?_⟩, fun e => absurd e (by rw [ec, List.cons_append, pre_no (mk := 33) (by decide) (Ne.symm n33)]; simp)⟩
      rw [if_neg (by decide)]
      refine for_in ?_
      unfold iItems
      refine ForW.items (fun i σ H' => (∃ v2 v3, σ = [some (V.ref o), some (V.int lvl), v2, v3]) ∧ Same H1 H') ⟨⟨none, none, rfl⟩, Same.refl _⟩ ?_ ?_
      · rintro i kv σ H2 p hkv ⟨⟨v2, v3, rfl⟩, s2⟩ hp
        have s3 := s2.new hp (HO.tup [V.str kv.1, V.str kv.2])
        refine ⟨p, _, rfl, .of upd_same, rfl, ?_⟩
        generalize upd H2 p (HO.tup [V.str kv.1, V.str kv.2]) = H3 at *
        have g3 := s3 _ _ g1
        have len2 : kv.2.length = 1 := by
          match i, hkv with
          | 0, e => cases e; decide
          | 1, e => cases e; decide
          | _ + 2, e => simp at e
        obtain ⟨k1, k2⟩ := kv
        have len1 : (Str.ofString "(").length = 1 := by decide
        simp only [gCons, gNil, gName] at *
        ((try dsimp only [cxOf, L2.Cx.inTry, L2.Cx.inHand]); simp only [iItems, rStarts3, rAdd, tNever, tCIn, tCGet, L2.start, tSeq, tNext, tIfS, tRet, tRetN, tAsg, tDrop, gName, tVar, tC, tOp, tUn, tCall, tCB, tCons, tNil, tTest, tB, tNot, tAnd, tOr, tAndV, tOrV, tNotV, tIf, tChain, tLst, tTup, tBM, tBM0, rI, rI0, rU, rEq, rNe, scal, tComp, iStr, iList, iTup, iRng1, iRng2, tYes, rIsP, rAll, rLenS, rLenV, rListOf, rTupleOf, tDisp, tPairs, tSl, tPart, tNoPart, rSlS, rSlL, rFind, rStarts, rIntT, rStrA, rRepS, tCallX, tRaise, tRaiseI, tTry, tAs, offE, tXF, sXset, tMethX, tMakeX, rIsX, tFld, sFld, tMeth, rSortD, rDPop, tDNewK, tDIn, tDNotIn, tDGet, sDPut, rIndexS, tStop, gSub, 
  List.map_cons, List.map_nil, List.cons_append, List.nil_append, List.length_cons, List.length_nil, List.getElem?_cons_zero, List.getElem?_cons_succ, Option.some.injEq, exists_eq_left', exists_eq_left, List.set_cons_zero, List.set_cons_succ, List.cons.injEq, and_true, true_and, V.int.injEq, V.str.injEq, V.bl.injEq, V.ref.injEq, V.ty.injEq, exists_and_left, exists_and_right, List.append_nil, reduceCtorEq, false_and, and_false, exists_false, or_false, false_or, decide_true, decide_false, Bool.not_true, Bool.not_false, if_true, if_false, Bool.false_eq_true, ite_true, ite_false, and_assoc, Nat.reduceAdd, Nat.reduceSub, List.replicate_succ, List.replicate_zero, Nat.zero_add, Nat.add_zero, Nat.sub_self])
        refine ⟨_, _, g3, rfl, small_line (by omega), o, dx, z, a, _, _, _, rfl, g3, hA, by rw [app_len]; omega, fun _ => ⟨_, rfl, ?_⟩, fun e => absurd e (by rw [ec, List.cons_append, pre_two_no' (Ne.symm n40)]; simp)⟩
        rw [if_neg (by decide)]
        exact ⟨⟨_, rfl⟩, s3⟩
      · rintro σ H2 ⟨⟨v2, v3, rfl⟩, s2⟩
        ((try dsimp only [cxOf, L2.Cx.inTry, L2.Cx.inHand]); simp only [iItems, rStarts3, rAdd, tNever, tCIn, tCGet, L2.start, tSeq, tNext, tIfS, tRet, tRetN, tAsg, tDrop, gName, tVar, tC, tOp, tUn, tCall, tCB, tCons, tNil, tTest, tB, tNot, tAnd, tOr, tAndV, tOrV, tNotV, tIf, tChain, tLst, tTup, tBM, tBM0, rI, rI0, rU, rEq, rNe, scal, tComp, iStr, iList, iTup, iRng1, iRng2, tYes, rIsP, rAll, rLenS, rLenV, rListOf, rTupleOf, tDisp, tPairs, tSl, tPart, tNoPart, rSlS, rSlL, rFind, rStarts, rIntT, rStrA, rRepS, tCallX, tRaise, tRaiseI, tTry, tAs, offE, tXF, sXset, tMethX, tMakeX, rIsX, tFld, sFld, tMeth, rSortD, rDPop, tDNewK, tDIn, tDNotIn, tDGet, sDPut, rIndexS, tStop, gSub, 
  List.map_cons, List.map_nil, List.cons_append, List.nil_append, List.length_cons, List.length_nil, List.getElem?_cons_zero, List.getElem?_cons_succ, Option.some.injEq, exists_eq_left', exists_eq_left, List.set_cons_zero, List.set_cons_succ, List.cons.injEq, and_true, true_and, V.int.injEq, V.str.injEq, V.bl.injEq, V.ref.injEq, V.ty.injEq, exists_and_left, exists_and_right, List.append_nil, reduceCtorEq, false_and, and_false, exists_false, or_false, false_or, decide_true, decide_false, Bool.not_true, Bool.not_false, if_true, if_false, Bool.false_eq_true, ite_true, ite_false, and_assoc, Nat.reduceAdd, Nat.reduceSub, List.replicate_succ, List.replicate_zero, Nat.zero_add, Nat.add_zero, Nat.sub_self])
        exact ⟨_, _, s2 _ _ g1, rfl, o, dx, z, a, _, s, rest, ns, kds, rfl, s2 _ _ g1, hA, hz, hpl, hG, hst, fun H' v F' g' hv => k H' v ((F1.trans (Frm.of s2)).trans F') g' hv⟩
    · cases s with
      | lacks _ => exact absurd rfl hpl
      | is _ _ => exact absurd rfl hpl
      | bnd _ _ _ => exact absurd rfl hpl
      | neg s =>
        simp only [txt, List.cons_append] at hA
        simp only [Good] at hG
        simp only [lev] at hL hV
        simp only [cnt] at hC k
        have lp' := lev_pos s
        obtain ⟨e, rfl⟩ : ∃ e, dp = e + 1 := ⟨dp - 1, by omega⟩
        refine ⟨_, _, g1, rfl, o, dx, z, a, _, Str.ofString "!", _, rfl, g1, hA, by decide, fun e => absurd e (by rw [pre_one (mk := 33) (by decide)]; simp), fun _ => ⟨_, rfl, ?_⟩⟩
        rw [if_pos rfl]
        have F2 := F1.trans (Frm.upd (u := .ins (f 30) dx (rdFs z (a + (Str.ofString "!").length : Nat) (b + 1 : Nat))))
        have g2 : upd H1 o (.ins (f 30) dx (rdFs z (a + (Str.ofString "!").length : Nat) (b + 1 : Nat))) o = some (.ins (f 30) dx (rdFs z (a + 1 : Nat) (b + 1 : Nat))) := upd_same
        generalize upd H1 o (.ins (f 30) dx (rdFs z (a + (Str.ofString "!").length : Nat) (b + 1 : Nat))) = H2 at *
        refine ⟨_, _, g2, rfl, o, dx, z, a + 1, b + 1, lvl + 1, s, rest, ns, kds, rfl, g2, hA.one, hz, hG, by omega, by omega, by omega, hst, fun H3 v F3 g3 hv => ⟨small_line (by decide), fun p hp => k _ _ ((F2.trans F3).trans (Frm.of (Same.upd_new hp _))) ?_ ?_⟩⟩
        · rw [Same.upd_new hp _ _ _ g3]
          have e9 : a + (txt (.neg s)).length = a + 1 + (txt s).length := by simp only [txt]; rw [List.length_cons]; omega
          have e8 : b + (cnt s + 1) = b + 1 + cnt s := by omega
          rw [e9, e8]
        · simp only [raw, Sx]
          exact ⟨p, v, rfl, upd_same, hv.mono (Same.upd_new hp _).t⟩
      | many ov ss =>
        rw [txt_many] at hA k
        simp only [List.cons_append, List.append_assoc] at hA
        simp only [Good] at hG
        simp only [lev] at hL hV
        simp only [cnt] at hC k
        refine ⟨_, _, g1, rfl, o, dx, z, a, _, Str.ofString "!", _, rfl, g1, hA, by decide, fun _ => ⟨_, rfl, ?_⟩, fun e => absurd e (by rw [pre_no (mk := 33) (by decide) (by decide)]; simp)⟩
        rw [if_neg (by decide)]
        refine for_in ?_
        unfold iItems
        refine ForW.items (fun j σ H' => j ≤ (if ov then 1 else 0) ∧ (∃ v2 v3, σ = [some (V.ref o), some (V.int lvl), v2, v3]) ∧ Same H1 H') ⟨Nat.zero_le _, ⟨none, none, rfl⟩, Same.refl _⟩ ?_ ?_
        · rintro j kv σ H2 p hkv ⟨hj, ⟨v2, v3, rfl⟩, s2⟩ hp
          have s3 := s2.new hp (HO.tup [V.str kv.1, V.str kv.2])
          refine ⟨p, _, rfl, .of upd_same, rfl, ?_⟩
          generalize upd H2 p (HO.tup [V.str kv.1, V.str kv.2]) = H3 at *
          have g3 := s3 _ _ g1
          have kvs : (kv.1 = mw ov ∧ kv.2.cps.toList = [jt ov]) ∨ (j + 1 ≤ (if ov then 1 else 0) ∧ ∃ mk, kv.2.cps.toList = [mk] ∧ mk ≠ jt ov) := by
            match j, hkv with
            | 0, h =>
              cases h
              cases ov
              · exact .inl ⟨rfl, by decide⟩
              · exact .inr ⟨by decide, 38, by decide, by decide⟩
            | 1, h =>
              cases h
              cases ov
              · exact absurd hj (by decide)
              · exact .inl ⟨rfl, by decide⟩
            | n + 2, h => simp at h
          obtain ⟨k1, k2⟩ := kv
          have len1 : (Str.ofString "(").length = 1 := by decide
          simp only [gCons, gNil, gName] at *
          have l2 : k2.length = 1 := by
            rcases kvs with ⟨_, e⟩ | ⟨_, mk, e, _⟩ <;> rw [← len_cps, e] <;> rfl
          ((try dsimp only [cxOf, L2.Cx.inTry, L2.Cx.inHand]); simp only [iItems, rStarts3, rAdd, tNever, tCIn, tCGet, L2.start, tSeq, tNext, tIfS, tRet, tRetN, tAsg, tDrop, gName, tVar, tC, tOp, tUn, tCall, tCB, tCons, tNil, tTest, tB, tNot, tAnd, tOr, tAndV, tOrV, tNotV, tIf, tChain, tLst, tTup, tBM, tBM0, rI, rI0, rU, rEq, rNe, scal, tComp, iStr, iList, iTup, iRng1, iRng2, tYes, rIsP, rAll, rLenS, rLenV, rListOf, rTupleOf, tDisp, tPairs, tSl, tPart, tNoPart, rSlS, rSlL, rFind, rStarts, rIntT, rStrA, rRepS, tCallX, tRaise, tRaiseI, tTry, tAs, offE, tXF, sXset, tMethX, tMakeX, rIsX, tFld, sFld, tMeth, rSortD, rDPop, tDNewK, tDIn, tDNotIn, tDGet, sDPut, rIndexS, tStop, gSub, 
  List.map_cons, List.map_nil, List.cons_append, List.nil_append, List.length_cons, List.length_nil, List.getElem?_cons_zero, List.getElem?_cons_succ, Option.some.injEq, exists_eq_left', exists_eq_left, List.set_cons_zero, List.set_cons_succ, List.cons.injEq, and_true, true_and, V.int.injEq, V.str.injEq, V.bl.injEq, V.ref.injEq, V.ty.injEq, exists_and_left, exists_and_right, List.append_nil, reduceCtorEq, false_and, and_false, exists_false, or_false, false_or, decide_true, decide_false, Bool.not_true, Bool.not_false, if_true, if_false, Bool.false_eq_true, ite_true, ite_false, and_assoc, Nat.reduceAdd, Nat.reduceSub, List.replicate_succ, List.replicate_zero, Nat.zero_add, Nat.add_zero, Nat.sub_self])
          rw [elv]
          rcases kvs with ⟨rfl, e2⟩ | ⟨hj2, mk, e2, n2⟩
          · refine ⟨_, _, g3, rfl, small_line (by omega), o, dx, z, a, _, _, _, rfl, g3, hA, by rw [app_len]; omega, fun e => absurd e (by rw [pre_two e2]; simp), fun _ => ⟨_, rfl, ?_⟩⟩
            rw [if_pos rfl, app_len, len1, l2]
            have F5 := (F1.trans (Frm.of s3)).trans (Frm.upd (u := .ins (f 30) dx (rdFs z (a + (1 + 1) : Nat) (b + 1 : Nat))))
            have g5 : upd H3 o (.ins (f 30) dx (rdFs z (a + (1 + 1) : Nat) (b + 1 : Nat))) o = some (.ins (f 30) dx (rdFs z (a + (1 + 1) : Nat) (b + 1 : Nat))) := upd_same
            generalize upd H3 o (.ins (f 30) dx (rdFs z (a + (1 + 1) : Nat) (b + 1 : Nat))) = H5 at *
            refine ⟨_, _, g5, rfl, o, dx, z, a + (1 + 1), b + 1, lvl + 1, ov, k2, ss, rest, ns, kds, rfl, e2, g5, hA.one.one, hz, hG, by omega, by omega, by omega, fun H6 q xs F6 g6 hq hxs => ⟨small_line (by decide), fun p2 hp2 => k _ _ ((F5.trans F6).trans (Frm.of (Same.upd_new hp2 _))) ?_ ?_⟩⟩
            · rw [Same.upd_new hp2 _ _ _ g6]
              have e9 : a + (40 :: jt ov :: (kt (jt ov) ss ++ [41])).length = a + (1 + 1) + (kt (jt ov) ss).length + 1 := by
                simp only [List.length_cons, List.length_append, List.length_nil]
                omega
              have e8 : b + (cnts ss + 1) = b + 1 + cnts ss := by omega
              rw [e9, e8]
            · simp only [raw, Sx]
              exact ⟨p2, q, xs, rfl, upd_same, Same.upd_new hp2 _ _ _ hq, hxs.mono (Same.upd_new hp2 _).t⟩
          · refine ⟨_, _, g3, rfl, small_line (by omega), o, dx, z, a, _, _, _, rfl, g3, hA, by rw [app_len]; omega, fun _ => ⟨_, rfl, ?_⟩, fun e => absurd e (by rw [pre_two_no e2 n2]; simp)⟩
            rw [if_neg (by decide)]
            exact ⟨hj2, ⟨_, rfl⟩, s3⟩
        · rintro σ H3 ⟨h3, _⟩
          exact absurd h3 (by cases ov <;> decide)
theorem ok_Reading_one_sieve (T : Txt w K mg f fd) : ∀ dp : Nat, FnOk P w K mg base CX0 (7 + 2 * dp) (f 31003) (fd 31003) ["self", "level"] (sp_Reading_one_sieve K f dp)
  | 0 => ⟨fun _ _ _ _ h => False.elim h, fun _ _ _ _ _ _ _ _ _ _ _ _ _ h => False.elim h⟩
  | dp + 1 => st_Reading_one_sieve T dp (ok_Reading_one_sieve T dp) (st_Reading_some_sieves T dp (ok_Reading_one_sieve T dp))
noncomputable def sp_is_of_kind (K : PySem.W.Frag) : Sp := fun _ _ _ _ => False
theorem ok_is_of_kind (T : Txt w K mg f fd) : FnOk P w K mg base CX0 1 (f 20) (fd 20) ["kind", "value"] (sp_is_of_kind K) := by
  refine T.d_is_of_kind.F.ok sc_is_of_kind (fun vs H Q E h => ?_) (fun cdv A outer s H vs Q E hr h => ?_)
  · exact h.elim
  · exact h.elim
noncomputable def Asks (H : Hp) (l p : Addr) : Prop := ∃ (xs : List V) (ns kds : List Str) (fm n : Str) (rest : List V) (j : Nat) (kd : Str), H l = some (.lst xs) ∧ FldsK H xs ns kds ∧ H p = some (.tup (.str fm :: .str n :: rest)) ∧ ns[j]? = some n ∧ kds[j]? = some kd ∧ (fm = "lacks" ∨ ((fm = "under" ∨ fm = "over") ∧ kd = kdN))
theorem Asks.mono {H H' : Hp} {l p : Addr} (s : Same H H') (h : Asks H l p) : Asks H' l p := by
  obtain ⟨xs, ns, kds, fm, n, rest, j, kd, h1, h2, h3, h4⟩ := h
  exact ⟨xs, ns, kds, fm, n, rest, j, kd, s _ _ h1, h2.mono s, s _ _ h3, h4⟩
noncomputable def sp_asked_plain (K : PySem.W.Frag) : Sp := fun vs H Q _ => ∃ (l p : Addr), vs = [.ref l, .ref p] ∧ Asks H l p ∧ ∀ H', Same H H' → Q (.bl true) H'
theorem in2 {a b fm : Str} : inV (.str fm) [.str a, .str b] = (decide (a = fm) || decide (b = fm)) := by
  by_cases h1 : a = fm <;> by_cases h2 : b = fm <;> simp [inV, eqV, h1, h2]
theorem ok_asked_plain (T : Txt w K mg f fd) : FnOk P w K mg base CX0 2 (f 21) (fd 21) ["fields", "sieve"] (sp_asked_plain K) := by
  refine T.d_asked_plain.F.ok sc_asked_plain (fun vs H Q E h => ?_) (fun cdv A outer s H vs Q E hr h => ?_)
  · obtain ⟨l, p, rfl, _⟩ := h
    rfl
  · obtain ⟨l, p, rfl, ⟨xs, ns, kds, fm, n, rest, j, kd, hl, hF, hp, hj, hkd, hc⟩, k⟩ := h
    refine ⟨_, (pss_cons (psl 2 sc_asked_plain.nd (pe_ix (k_ixT rfl) (pvl 1) pe_int (fun _ _ => rfl)))
     (pss_cons (psl 3 sc_asked_plain.nd (pe_ix (k_ixT rfl) (pe_ix (k_ixL rfl) (pvl 0) (pe_defL T.d_field_at (ok_field_at T) (hr.mono (by decide)) rfl (by decide) rfl (pal rfl (pvl 0) (pal rfl (pvl 2) pa_nil))) (fun _ _ => rfl)) pe_int (fun _ _ => rfl)))
     (pss_cons (ps_if (PW.pt (pw_and (pt_cmpR (k_in rfl) (pe_ix (k_ixT rfl) (pvl 1) pe_int (fun _ _ => rfl)) (pe_tup (pal rfl pe_str (pal rfl pe_str pa_nil))) rfl) (pw_and1 (pt_cmpR op_ne (pvl 3) pe_str (nomark _)))))
     (pss_one ps_never)
     pss_nil)
     (pss_cons (ps_if (PW.pt (pw_and (pt_cmpR op_eq (pe_ix (k_ixT rfl) (pvl 1) pe_int (fun _ _ => rfl)) pe_str (nomark _)) (pw_and1 (pt_not (pt_val (pe_defL T.d_is_of_kind (ok_is_of_kind T) (hr.mono (by decide)) rfl (by decide) rfl (pal rfl (pvl 3) (pal rfl (pe_ix (k_ixT rfl) (pvl 1) pe_int (fun _ _ => rfl)) pa_nil))))))))
     (pss_one ps_never)
     pss_nil)
     (pss_one (ps_ret pe_bl)))))), ?_⟩
    ((try dsimp only [cxOf, L2.Cx.inTry, L2.Cx.inHand]); simp only [tDIn, tDNotIn, tDGet, sDPut, rIndexS, iItems, rStarts3, rAdd, tNever, tCIn, tCGet, L2.start, tSeq, tNext, tIfS, tRet, tRetN, tAsg, tDrop, gName, tVar, tC, tOp, tUn, tCall, tCB, tCons, tNil, tTest, tB, tNot, tAnd, tOr, tAndV, tOrV, tNotV, tIf, tChain, tLst, tTup, tBM, tBM0, rI, rI0, rU, rEq, rNe, scal, tComp, iStr, iList, iTup, iRng1, iRng2, tYes, rIsP, rAll, rLenS, rLenV, rListOf, rTupleOf, tDisp, tPairs, tSl, tPart, tNoPart, rSlS, rSlL, rFind, rStarts, rIntT, rStrA, rRepS, tCallX, tRaise, tRaiseI, tTry, tAs, offE, tXF, sXset, tMethX, tMakeX, rIsX, tFld, sFld, tMeth, rSortD, rDPop, tDNewK, 
  List.map_cons, List.map_nil, List.cons_append, List.nil_append, List.length_cons, List.length_nil, List.getElem?_cons_zero, List.getElem?_cons_succ, Option.some.injEq, exists_eq_left', exists_eq_left, List.set_cons_zero, List.set_cons_succ, List.cons.injEq, and_true, true_and, V.int.injEq, V.str.injEq, V.bl.injEq, V.ref.injEq, V.ty.injEq, exists_and_left, exists_and_right, List.append_nil, reduceCtorEq, false_and, and_false, exists_false, or_false, false_or, decide_true, decide_false, Bool.not_true, Bool.not_false, if_true, if_false, Bool.false_eq_true, ite_true, ite_false, and_assoc, Nat.reduceAdd, Nat.reduceSub, List.replicate_succ, List.replicate_zero, Nat.zero_add, Nat.add_zero, Nat.sub_self])
    refine ⟨p, _, _, _, rfl, rfl, .of hp, atI_nat (j := 1) rfl, ?_⟩
    refine ⟨l, xs, ns, kds, n, j, rfl, hl, hF, hj, fun H1 s1 => ?_⟩
    obtain ⟨p', n', kd', e1, e2, e3, e4⟩ := hF.at (show j < xs.length by rw [← hF.1]; exact (List.getElem?_eq_some_iff.mp hj).1)
    obtain rfl : kd = kd' := Option.some.inj (hkd.symm.trans e3)
    refine ⟨l, xs, _, _, rfl, rfl, .of (s1 _ _ hl), atI_nat e1, p', _, _, _, rfl, rfl, .of (s1 _ _ e4), atI_nat (j := 1) rfl, p, _, _, _, rfl, rfl, .of (s1 _ _ hp), atI_nat (j := 0) rfl, small_line (by decide), fun q hq => ?_⟩
    have u := Same.upd_new hq (HO.tup [V.str (Str.ofString "under"), V.str (Str.ofString "over")])
    have gq : upd H1 q (HO.tup [V.str (Str.ofString "under"), V.str (Str.ofString "over")]) q = some (.tup [V.str (Str.ofString "under"), V.str (Str.ofString "over")]) := upd_same
    generalize upd H1 q (HO.tup [V.str (Str.ofString "under"), V.str (Str.ofString "over")]) = H2 at *
    have s2 := s1.trans u
    refine ⟨q, _, rfl, .inr (.of gq), by rfl, by decide, _, rfl, ?_⟩
    rw [if_neg Bool.false_ne_true]
    have ix0 : ∀ R : VK, R (.str fm) H2 → rIxT K (.ref p) (.int 0) H2 R := fun R r => ⟨p, _, _, _, rfl, rfl, .of (s2 _ _ hp), atI_nat (j := 0) rfl, r⟩
    rcases hc with rfl | ⟨hf, rfl⟩
    · rw [if_neg (by decide)]
      refine ix0 _ ⟨rfl, ?_⟩
      rw [if_neg (by decide)]
      exact k H2 s2
    · have hin : inV (V.str fm) [V.str (Str.ofString "under"), V.str (Str.ofString "over")] = true := by rcases hf with rfl | rfl <;> decide
      have hni : fm ≠ "is" := by rcases hf with rfl | rfl <;> decide
      rw [if_pos hin]
      refine ⟨rfl, ?_⟩
      rw [if_neg (by decide)]
      refine ix0 _ ⟨rfl, ?_⟩
      rw [if_neg (by simpa using hni)]
      exact k H2 s2
noncomputable def sp_asked_sieve (K : PySem.W.Frag) : Nat → Sp
  | 0 => fun _ _ _ _ => False
  | _ + 1 => sp_asked_plain K
theorem st_asked_sieve (T : Txt w K mg f fd) (dp : Nat) (ih : FnOk P w K mg base CX0 (3 + dp) (f 22) (fd 22) ["fields", "sieve"] (sp_asked_sieve K dp)) : FnOk P w K mg base CX0 (3 + dp + 1) (f 22) (fd 22) ["fields", "sieve"] (sp_asked_sieve K (dp + 1)) := by
  refine T.d_asked_sieve.F.ok sc_asked_sieve (fun vs H Q E h => ?_) (fun cdv A outer s H vs Q E hr h => ?_)
  · obtain ⟨l, p, rfl, _⟩ := h
    rfl
  · obtain ⟨l, p, rfl, hA, k⟩ := h
    obtain ⟨xs, ns, kds, fm, n, rest, j, kd, hl, hF, hp, hj, hkd, hc⟩ := id hA
    have nn : fm ≠ "not" ∧ fm ≠ "all" ∧ fm ≠ "some" := by rcases hc with rfl | ⟨rfl | rfl, _⟩ <;> exact ⟨by decide, by decide, by decide⟩
    refine ⟨_, (pss_cons (ps_if (pt_cmpR op_eq (pe_ix (k_ixT rfl) (pvl 1) pe_int (fun _ _ => rfl)) pe_str (nomark _))
     (pss_one (ps_ret (pe_defL T.d_asked_sieve ih (hr.mono (by omega)) rfl (by decide) rfl (pal rfl (pvc 0) (pal rfl (pe_ix (k_ixT rfl) (pvl 1) pe_int (fun _ _ => rfl)) pa_nil)))))
     pss_nil)
     (pss_cons (ps_if (pt_cmpR (k_in rfl) (pe_ix (k_ixT rfl) (pvl 1) pe_int (fun _ _ => rfl)) (pe_tup (pal rfl pe_str (pal rfl pe_str pa_nil))) rfl)
     (pss_one (ps_ret (pe_cB (k_all rfl rfl) T.n_all bt_all rfl (by decide) (by decide) rfl (pal rfl (pe_comp ["inner"] ["fields", "sieve"] rfl (show CompSc _ (defScope s_asked_sieve) ["fields", "sieve"] ["fields", "sieve"] from compOk_is (by decide +kernel)) (k_piT rfl (pe_ix (k_ixT rfl) (pvl 1) pe_int (fun _ _ => rfl))) (fun _ _ _ _ _ => (pgl 0 (show (["inner", "fields", "sieve"] : List Str).Nodup by decide +kernel))) (fun _ _ _ _ _ => pts_nil) (fun _ _ _ _ _ => (pe_defL T.d_asked_sieve ih (hr.mono (by omega)) rfl (by decide) rfl (pal rfl (pvc 1) (pal rfl (pvl 0) pa_nil))))) pa_nil))))
     pss_nil)
     (pss_one (ps_ret (pe_defL T.d_asked_plain (ok_asked_plain T) (hr.mono (by omega)) rfl (by decide) rfl (pal rfl (pvc 0) (pal rfl (pvl 1) pa_nil))))))), ?_⟩
    ((try dsimp only [cxOf, L2.Cx.inTry, L2.Cx.inHand]); simp only [tDIn, tDNotIn, tDGet, sDPut, rIndexS, iItems, rStarts3, rAdd, tNever, tCIn, tCGet, L2.start, tSeq, tNext, tIfS, tRet, tRetN, tAsg, tDrop, gName, tVar, tC, tOp, tUn, tCall, tCB, tCons, tNil, tTest, tB, tNot, tAnd, tOr, tAndV, tOrV, tNotV, tIf, tChain, tLst, tTup, tBM, tBM0, rI, rI0, rU, rEq, rNe, scal, tComp, iStr, iList, iTup, iRng1, iRng2, tYes, rIsP, rAll, rLenS, rLenV, rListOf, rTupleOf, tDisp, tPairs, tSl, tPart, tNoPart, rSlS, rSlL, rFind, rStarts, rIntT, rStrA, rRepS, tCallX, tRaise, tRaiseI, tTry, tAs, offE, tXF, sXset, tMethX, tMakeX, rIsX, tFld, sFld, tMeth, rSortD, rDPop, tDNewK, 
  List.map_cons, List.map_nil, List.cons_append, List.nil_append, List.length_cons, List.length_nil, List.getElem?_cons_zero, List.getElem?_cons_succ, Option.some.injEq, exists_eq_left', exists_eq_left, List.set_cons_zero, List.set_cons_succ, List.cons.injEq, and_true, true_and, V.int.injEq, V.str.injEq, V.bl.injEq, V.ref.injEq, V.ty.injEq, exists_and_left, exists_and_right, List.append_nil, reduceCtorEq, false_and, and_false, exists_false, or_false, false_or, decide_true, decide_false, Bool.not_true, Bool.not_false, if_true, if_false, Bool.false_eq_true, ite_true, ite_false, and_assoc, Nat.reduceAdd, Nat.reduceSub, List.replicate_succ, List.replicate_zero, Nat.zero_add, Nat.add_zero, Nat.sub_self])
    refine ⟨p, _, _, _, rfl, rfl, .of hp, atI_nat (j := 0) rfl, rfl, ?_⟩
    rw [if_neg (by simpa using nn.1)]
    refine ⟨p, _, _, _, rfl, rfl, .of hp, atI_nat (j := 0) rfl, small_line (by decide), fun q hq => ?_⟩
    have u := Same.upd_new hq (HO.tup [V.str (Str.ofString "all"), V.str (Str.ofString "some")])
    have gq : upd H q (HO.tup [V.str (Str.ofString "all"), V.str (Str.ofString "some")]) q = some (.tup [V.str (Str.ofString "all"), V.str (Str.ofString "some")]) := upd_same
    generalize upd H q (HO.tup [V.str (Str.ofString "all"), V.str (Str.ofString "some")]) = H2 at *
    refine ⟨q, _, rfl, .inr (.of gq), by rfl, by decide, _, rfl, ?_⟩
    rw [if_neg Bool.false_ne_true, in2, decide_eq_false (Ne.symm nn.2.1), decide_eq_false (Ne.symm nn.2.2), if_neg (by decide)]
    exact ⟨l, p, rfl, hA.mono u, fun H' s' => k H' (u.trans s')⟩
theorem ok_asked_sieve (T : Txt w K mg f fd) : ∀ dp : Nat, FnOk P w K mg base CX0 (3 + dp) (f 22) (fd 22) ["fields", "sieve"] (sp_asked_sieve K dp)
  | 0 => ⟨fun _ _ _ _ h => False.elim h, fun _ _ _ _ _ _ _ _ _ _ _ _ _ h => False.elim h⟩
  | dp + 1 => st_asked_sieve T dp (ok_asked_sieve T dp)
noncomputable def sp_settled_value (K : PySem.W.Frag) : Sp := fun vs H Q _ => ∃ (l : Addr) (n : Str) (xs : List V) (ns kds : List Str) (j : Nat) (kd : Str) (x : V), vs = [.ref l, .str n, .str (wr x)] ∧ H l = some (.lst xs) ∧ FldsK H xs ns kds ∧ ns[j]? = some n ∧ kds[j]? = some kd ∧ KdV kd x ∧ ∀ H', Same H H' → Q x H'
theorem ok_settled_value (T : Txt w K mg f fd) : FnOk P w K mg base CX0 5 (f 31) (fd 31) ["fields", "name", "text"] (sp_settled_value K) := by
  refine T.d_settled_value.F.ok sc_settled_value (fun vs H Q E h => ?_) (fun cdv A outer s H vs Q E hr h => ?_)
  · obtain ⟨l, n, xs, ns, kds, j, kd, x, rfl, _⟩ := h
    rfl
  · obtain ⟨l, n, xs, ns, kds, j, kd, x, rfl, hl, hF, hj, hkd, hx, k⟩ := h
    refine ⟨_, (pss_cons (psl 3 sc_settled_value.nd (pe_ix (k_ixT rfl) (pe_ix (k_ixL rfl) (pvl 0) (pe_defL T.d_field_at (ok_field_at T) (hr.mono (by decide)) rfl (by decide) rfl (pal rfl (pvl 0) (pal rfl (pvl 1) pa_nil))) (fun _ _ => rfl)) pe_int (fun _ _ => rfl)))
     (pss_cons (psl 4 sc_settled_value.nd (pe_defL T.d_read_value (ok_read_value T) (hr.mono (by decide)) rfl (by decide) rfl (pal rfl (pvl 3) (pal rfl (pvl 2) pa_nil))))
     (pss_cons (ps_if (pt_cmpR op_isN (pvl 4) pe_non (nomark _))
     (pss_one ps_never)
     pss_nil)
     (pss_one (ps_ret (pvl 4)))))), ?_⟩
    ((try dsimp only [cxOf, L2.Cx.inTry, L2.Cx.inHand]); simp only [iItems, rStarts3, rAdd, tNever, tCIn, tCGet, L2.start, tSeq, tNext, tIfS, tRet, tRetN, tAsg, tDrop, gName, tVar, tC, tOp, tUn, tCall, tCB, tCons, tNil, tTest, tB, tNot, tAnd, tOr, tAndV, tOrV, tNotV, tIf, tChain, tLst, tTup, tBM, tBM0, rI, rI0, rU, rEq, rNe, scal, tComp, iStr, iList, iTup, iRng1, iRng2, tYes, rIsP, rAll, rLenS, rLenV, rListOf, rTupleOf, tDisp, tPairs, tSl, tPart, tNoPart, rSlS, rSlL, rFind, rStarts, rIntT, rStrA, rRepS, tCallX, tRaise, tRaiseI, tTry, tAs, offE, tXF, sXset, tMethX, tMakeX, rIsX, tFld, sFld, tMeth, rSortD, rDPop, tDNewK, tDIn, tDNotIn, tDGet, sDPut, rIndexS, tStop, gSub, 
  List.map_cons, List.map_nil, List.cons_append, List.nil_append, List.length_cons, List.length_nil, List.getElem?_cons_zero, List.getElem?_cons_succ, Option.some.injEq, exists_eq_left', exists_eq_left, List.set_cons_zero, List.set_cons_succ, List.cons.injEq, and_true, true_and, V.int.injEq, V.str.injEq, V.bl.injEq, V.ref.injEq, V.ty.injEq, exists_and_left, exists_and_right, List.append_nil, reduceCtorEq, false_and, and_false, exists_false, or_false, false_or, decide_true, decide_false, Bool.not_true, Bool.not_false, if_true, if_false, Bool.false_eq_true, ite_true, ite_false, and_assoc, Nat.reduceAdd, Nat.reduceSub, List.replicate_succ, List.replicate_zero, Nat.zero_add, Nat.add_zero, Nat.sub_self])
    refine ⟨l, xs, ns, kds, n, j, rfl, hl, hF, hj, fun H1 s1 => ?_⟩
    obtain ⟨p', n', kd', e1, e2, e3, e4⟩ := hF.at (show j < xs.length by rw [← hF.1]; exact (List.getElem?_eq_some_iff.mp hj).1)
    obtain rfl : kd = kd' := Option.some.inj (hkd.symm.trans e3)
    have hw := (wr_len hx).2
    rw [len_cps] at hw
    refine ⟨l, xs, _, _, rfl, rfl, .of (s1 _ _ hl), atI_nat e1, p', _, _, _, rfl, rfl, .of (s1 _ _ e4), atI_nat (j := 1) rfl, kd, wr x, rfl, small_line (by omega), fun H2 s2 => ?_⟩
    have er : readV (decide (kd = "number")) (wr x) = x ∧ x ≠ .non := by
      rcases hx with ⟨rfl, z, rfl, hz⟩ | ⟨rfl, i, rfl, hi⟩
      · rw [show decide (wordS = "number") = false by decide]
        exact ⟨Wrd.read hz, fun z => nomatch z⟩
      · rw [show decide (kdN = "number") = true by decide]
        exact ⟨num_read hi, fun z => nomatch z⟩
    rw [er.1]
    dsimp only
    rw [if_neg (by simpa using er.2)]
    exact k H2 (s1.trans s2)
noncomputable def sp_settled (K : PySem.W.Frag) : Nat → Sp
  | 0 => fun _ _ _ _ => False
  | d + 1 => fun vs H Q _ => ∃ (l : Addr) (v : V) (s : Sv) (xs : List V) (ns kds : List Str), vs = [.ref l, v] ∧ H l = some (.lst xs) ∧ FldsK H xs ns kds ∧ Good ns kds s ∧ Sx H (raw s) v ∧ lev s ≤ d + 1 ∧ cnt s ≤ 60 ∧ ∀ H' v', Same H H' → Sx H' s v' → Q v' H'
theorem st_settled (T : Txt w K mg f fd) (dp : Nat) (ih : FnOk P w K mg base CX0 (6 + dp) (f 32) (fd 32) ["fields", "sieve"] (sp_settled K dp)) : FnOk P w K mg base CX0 (6 + dp + 1) (f 32) (fd 32) ["fields", "sieve"] (sp_settled K (dp + 1)) := by
  refine T.d_settled.F.ok sc_settled (fun vs H Q E h => ?_) (fun cdv A outer s H vs Q E hr h => ?_)
  · obtain ⟨l, v, s, xs, ns, kds, rfl, _⟩ := h
    rfl
  · obtain ⟨l, v, s, xs, ns, kds, rfl, hl, hF, hG, hS, hL, hC, k⟩ := h
    refine ⟨_, (pss_cons (ps_if (pt_cmpR op_eq (pe_ix (k_ixT rfl) (pvl 1) pe_int (fun _ _ => rfl)) pe_str (nomark _))
     (pss_one (ps_ret (pe_tup (pal rfl pe_str (pal rfl (pe_defL T.d_settled ih (hr.mono (by omega)) rfl (by decide) rfl (pal rfl (pvc 0) (pal rfl (pe_ix (k_ixT rfl) (pvl 1) pe_int (fun _ _ => rfl)) pa_nil))) pa_nil)))))
     pss_nil)
     (pss_cons (ps_if (pt_cmp (pc_cin T.c_JOINTS T.g_JOINTS rfl (by decide) (pe_ix (k_ixT rfl) (pvl 1) pe_int (fun _ _ => rfl))))
     (pss_one (ps_ret (pe_tup (pal rfl (pe_ix (k_ixT rfl) (pvl 1) pe_int (fun _ _ => rfl)) (pal rfl (pe_cTy (k_tuple rfl) T.n_tuple bt_tuple rfl (by decide) (by decide) rfl (pal rfl (pe_comp ["inner"] ["fields", "sieve"] rfl (show CompSc _ (defScope s_settled) ["fields", "sieve"] ["fields", "sieve"] from compOk_is (by decide +kernel)) (k_piT rfl (pe_ix (k_ixT rfl) (pvl 1) pe_int (fun _ _ => rfl))) (fun _ _ _ _ _ => (pgl 0 (show (["inner", "fields", "sieve"] : List Str).Nodup by decide +kernel))) (fun _ _ _ _ _ => pts_nil) (fun _ _ _ _ _ => (pe_defL T.d_settled ih (hr.mono (by omega)) rfl (by decide) rfl (pal rfl (pvc 1) (pal rfl (pvl 0) pa_nil))))) pa_nil)) pa_nil)))))
     pss_nil)
     (pss_cons (ps_if (pt_cmpR op_eq (pe_ix (k_ixT rfl) (pvl 1) pe_int (fun _ _ => rfl)) pe_str (nomark _))
     (pss_one (ps_ret (pe_tup (pal rfl pe_str (pal rfl (pe_ix (k_ixT rfl) (pvl 1) pe_int (fun _ _ => rfl)) (pal rfl (pe_defL T.d_settled_value (ok_settled_value T) (hr.mono (by omega)) rfl (by decide) rfl (pal rfl (pvc 0) (pal rfl (pe_ix (k_ixT rfl) (pvl 1) pe_int (fun _ _ => rfl)) (pal rfl (pe_ix (k_ixT rfl) (pvl 1) pe_int (fun _ _ => rfl)) pa_nil)))) pa_nil))))))
     pss_nil)
     (pss_cons (ps_expr (pe_defL T.d_asked_sieve (ok_asked_sieve T 1) (hr.mono (by omega)) rfl (by decide) rfl (pal rfl (pvc 0) (pal rfl (pvl 1) pa_nil))))
     (pss_one (ps_ret (pvl 1))))))), ?_⟩
    ((try dsimp only [cxOf, L2.Cx.inTry, L2.Cx.inHand]); simp only [iItems, rStarts3, rAdd, tNever, tCIn, tCGet, L2.start, tSeq, tNext, tIfS, tRet, tRetN, tAsg, tDrop, gName, tVar, tC, tOp, tUn, tCall, tCB, tCons, tNil, tTest, tB, tNot, tAnd, tOr, tAndV, tOrV, tNotV, tIf, tChain, tLst, tTup, tBM, tBM0, rI, rI0, rU, rEq, rNe, scal, tComp, iStr, iList, iTup, iRng1, iRng2, tYes, rIsP, rAll, rLenS, rLenV, rListOf, rTupleOf, tDisp, tPairs, tSl, tPart, tNoPart, rSlS, rSlL, rFind, rStarts, rIntT, rStrA, rRepS, tCallX, tRaise, tRaiseI, tTry, tAs, offE, tXF, sXset, tMethX, tMakeX, rIsX, tFld, sFld, tMeth, rSortD, rDPop, tDNewK, tDIn, tDNotIn, tDGet, sDPut, rIndexS, tStop, gSub, 
  List.map_cons, List.map_nil, List.cons_append, List.nil_append, List.length_cons, List.length_nil, List.getElem?_cons_zero, List.getElem?_cons_succ, Option.some.injEq, exists_eq_left', exists_eq_left, List.set_cons_zero, List.set_cons_succ, List.cons.injEq, and_true, true_and, V.int.injEq, V.str.injEq, V.bl.injEq, V.ref.injEq, V.ty.injEq, exists_and_left, exists_and_right, List.append_nil, reduceCtorEq, false_and, and_false, exists_false, or_false, false_or, decide_true, decide_false, Bool.not_true, Bool.not_false, if_true, if_false, Bool.false_eq_true, ite_true, ite_false, and_assoc, Nat.reduceAdd, Nat.reduceSub, List.replicate_succ, List.replicate_zero, Nat.zero_add, Nat.add_zero, Nat.sub_self])
    cases s with
    | neg s =>
      simp only [raw, Sx] at hS
      simp only [Good] at hG
      simp only [lev] at hL
      simp only [cnt] at hC
      obtain ⟨p, x, rfl, hp, hs⟩ := hS
      have lp := lev_pos s
      obtain ⟨e, rfl⟩ : ∃ e, dp = e + 1 := ⟨dp - 1, by omega⟩
      refine ⟨p, _, _, _, rfl, rfl, .of hp, atI_nat (j := 0) rfl, ?_⟩
      ((try dsimp only [cxOf, L2.Cx.inTry, L2.Cx.inHand]); simp only [iItems, rStarts3, rAdd, tNever, tCIn, tCGet, L2.start, tSeq, tNext, tIfS, tRet, tRetN, tAsg, tDrop, gName, tVar, tC, tOp, tUn, tCall, tCB, tCons, tNil, tTest, tB, tNot, tAnd, tOr, tAndV, tOrV, tNotV, tIf, tChain, tLst, tTup, tBM, tBM0, rI, rI0, rU, rEq, rNe, scal, tComp, iStr, iList, iTup, iRng1, iRng2, tYes, rIsP, rAll, rLenS, rLenV, rListOf, rTupleOf, tDisp, tPairs, tSl, tPart, tNoPart, rSlS, rSlL, rFind, rStarts, rIntT, rStrA, rRepS, tCallX, tRaise, tRaiseI, tTry, tAs, offE, tXF, sXset, tMethX, tMakeX, rIsX, tFld, sFld, tMeth, rSortD, rDPop, tDNewK, tDIn, tDNotIn, tDGet, sDPut, rIndexS, tStop, gSub, 
  List.map_cons, List.map_nil, List.cons_append, List.nil_append, List.length_cons, List.length_nil, List.getElem?_cons_zero, List.getElem?_cons_succ, Option.some.injEq, exists_eq_left', exists_eq_left, List.set_cons_zero, List.set_cons_succ, List.cons.injEq, and_true, true_and, V.int.injEq, V.str.injEq, V.bl.injEq, V.ref.injEq, V.ty.injEq, exists_and_left, exists_and_right, List.append_nil, reduceCtorEq, false_and, and_false, exists_false, or_false, false_or, decide_true, decide_false, Bool.not_true, Bool.not_false, if_true, if_false, Bool.false_eq_true, ite_true, ite_false, and_assoc, Nat.reduceAdd, Nat.reduceSub, List.replicate_succ, List.replicate_zero, Nat.zero_add, Nat.add_zero, Nat.sub_self])
      refine ⟨p, _, _, _, rfl, rfl, .of hp, atI_nat (j := 1) rfl, l, x, s, xs, ns, kds, rfl, hl, hF, hG, hs, by omega, by omega, fun H1 v1 s1 hv1 => ⟨small_line (by decide), fun p2 hp2 => k _ _ (s1.new hp2 _) ?_⟩⟩
      simp only [Sx]
      exact ⟨p2, v1, rfl, upd_same, hv1.mono (Same.upd_new hp2 _).t⟩
    | many ov ss =>
      simp only [raw, Sx] at hS
      simp only [Good] at hG
      simp only [lev] at hL
      simp only [cnt] at hC
      obtain ⟨p, q, ys, rfl, hp, hq, hs⟩ := hS
      have hyl := hs.len
      rw [raws_len] at hyl
      have hsl := len_le_cnts ss
      have nn : mw ov ≠ "not" ∧ (cdAt [(Str.ofString "all", Str.ofString "&"), (Str.ofString "some", Str.ofString "|")] (mw ov)).isSome = true := by cases ov <;> exact ⟨by decide, by decide⟩
      refine ⟨p, _, _, _, rfl, rfl, .of hp, atI_nat (j := 0) rfl, rfl, ?_⟩
      rw [if_neg (by simpa using nn.1)]
      refine ⟨p, _, _, _, rfl, rfl, .of hp, atI_nat (j := 0) rfl, _, rfl, ?_⟩
      rw [if_pos nn.2]
      refine ⟨p, _, _, _, rfl, rfl, .of hp, atI_nat (j := 0) rfl, p, _, _, _, rfl, rfl, .of hp, atI_nat (j := 1) rfl, q, rfl, ⟨_, .of hq⟩, ?_⟩
      refine comp_walk (walk_tup (xs := ys)) (small_line (by omega)) (fun i us H' => Same H H' ∧ Sxs H' (ss.take i) us) ⟨Same.refl _, by simp only [List.take_zero, Sxs]⟩ (fun _ _ H' _ q' => q'.1.seqT (.of hq)) (fun i us H' q' => by rw [q'.2.len, List.length_take]; exact Nat.min_le_left _ _) (fun i x us H3 hx q' => ?_) (fun us H3 q' D hD => ?_)
      · obtain ⟨t1, hu⟩ := q'
        obtain ⟨r, hr, hrx⟩ := hs.at hx
        obtain ⟨s', hs', rfl⟩ := raws_at hr
        have l1 := levs_at hs'
        have l2 := lev_pos s'
        have l3 := cnts_at hs'
        obtain ⟨e, rfl⟩ : ∃ e, dp = e + 1 := ⟨dp - 1, by omega⟩
        ((try dsimp only [cxOf, L2.Cx.inTry, L2.Cx.inHand]); simp only [iItems, rStarts3, rAdd, tNever, tCIn, tCGet, L2.start, tSeq, tNext, tIfS, tRet, tRetN, tAsg, tDrop, gName, tVar, tC, tOp, tUn, tCall, tCB, tCons, tNil, tTest, tB, tNot, tAnd, tOr, tAndV, tOrV, tNotV, tIf, tChain, tLst, tTup, tBM, tBM0, rI, rI0, rU, rEq, rNe, scal, tComp, iStr, iList, iTup, iRng1, iRng2, tYes, rIsP, rAll, rLenS, rLenV, rListOf, rTupleOf, tDisp, tPairs, tSl, tPart, tNoPart, rSlS, rSlL, rFind, rStarts, rIntT, rStrA, rRepS, tCallX, tRaise, tRaiseI, tTry, tAs, offE, tXF, sXset, tMethX, tMakeX, rIsX, tFld, sFld, tMeth, rSortD, rDPop, tDNewK, tDIn, tDNotIn, tDGet, sDPut, rIndexS, tStop, gSub, 
  List.map_cons, List.map_nil, List.cons_append, List.nil_append, List.length_cons, List.length_nil, List.getElem?_cons_zero, List.getElem?_cons_succ, Option.some.injEq, exists_eq_left', exists_eq_left, List.set_cons_zero, List.set_cons_succ, List.cons.injEq, and_true, true_and, V.int.injEq, V.str.injEq, V.bl.injEq, V.ref.injEq, V.ty.injEq, exists_and_left, exists_and_right, List.append_nil, reduceCtorEq, false_and, and_false, exists_false, or_false, false_or, decide_true, decide_false, Bool.not_true, Bool.not_false, if_true, if_false, Bool.false_eq_true, ite_true, ite_false, and_assoc, Nat.reduceAdd, Nat.reduceSub, List.replicate_succ, List.replicate_zero, Nat.zero_add, Nat.add_zero, Nat.sub_self])
        exact ⟨l, x, s', xs, ns, kds, rfl, t1 _ _ hl, hF.mono t1, Goods.at hG hs', hrx.mono t1.t, by omega, by omega, fun H4 v4 s4 hv4 => ⟨⟨_, rfl⟩, t1.trans s4, by rw [take_snoc hs']; exact Sxs.snoc (hu.mono s4.t) hv4⟩⟩
      · obtain ⟨t1, hu⟩ := q'
        rw [hyl, List.take_length] at hu
        have t2 := t1.new hD (HO.lst us)
        have hu2 := hu.mono (Same.upd_new hD (HO.lst us)).t
        have gD : upd H3 D (HO.lst us) D = some (.lst us) := upd_same
        generalize upd H3 D (HO.lst us) = H4 at *
        refine ⟨us, .inl ⟨.of gD, fun q2 hq2 => ⟨small_line (by decide), fun p2 hp2 => k _ _ ((t2.new hq2 _).new hp2 _) ?_⟩⟩⟩
        simp only [Sx]
        exact ⟨p2, q2, us, rfl, upd_same, Same.upd_new hp2 _ _ _ upd_same, (hu2.mono (Same.upd_new hq2 _).t).mono (Same.upd_new hp2 _).t⟩
    | is n x =>
      simp only [raw, Sx] at hS
      simp only [Good] at hG
      obtain ⟨p, rfl, hp⟩ := hS
      obtain ⟨hn, jj, kd, hj, hkd, hx⟩ := hG
      refine ⟨p, _, _, _, rfl, rfl, .of hp, atI_nat (j := 0) rfl, rfl, ?_⟩
      rw [if_neg (by decide)]
      refine ⟨p, _, _, _, rfl, rfl, .of hp, atI_nat (j := 0) rfl, _, rfl, ?_⟩
      rw [if_neg (by decide)]
      refine ⟨p, _, _, _, rfl, rfl, .of hp, atI_nat (j := 0) rfl, rfl, ?_⟩
      rw [if_pos (by decide)]
      refine ⟨p, _, _, _, rfl, rfl, .of hp, atI_nat (j := 1) rfl, p, _, _, _, rfl, rfl, .of hp, atI_nat (j := 1) rfl, p, _, _, _, rfl, rfl, .of hp, atI_nat (j := 2) rfl, l, n, xs, ns, kds, jj, kd, x, rfl, hl, hF, hj, hkd, hx, fun H1 s1 => ⟨small_line (by decide), fun p2 hp2 => k _ _ (s1.new hp2 _) ?_⟩⟩
      simp only [Sx]
      exact ⟨p2, rfl, upd_same⟩
    | lacks n =>
      simp only [raw] at hS
      have hS0 := hS
      simp only [Sx] at hS
      simp only [Good] at hG
      obtain ⟨p, rfl, hp⟩ := hS
      obtain ⟨jj, hj⟩ := List.mem_iff_getElem?.mp hG.2
      have hjk : jj < kds.length := by rw [hF.2.1, ← hF.1]; exact (List.getElem?_eq_some_iff.mp hj).1
      refine ⟨p, _, _, _, rfl, rfl, .of hp, atI_nat (j := 0) rfl, rfl, ?_⟩
      rw [if_neg (by decide)]
      refine ⟨p, _, _, _, rfl, rfl, .of hp, atI_nat (j := 0) rfl, _, rfl, ?_⟩
      rw [if_neg (by decide)]
      refine ⟨p, _, _, _, rfl, rfl, .of hp, atI_nat (j := 0) rfl, rfl, ?_⟩
      rw [if_neg (by decide)]
      exact ⟨l, p, rfl, ⟨xs, ns, kds, _, n, _, jj, _, hl, hF, hp, hj, List.getElem?_eq_getElem hjk, .inl rfl⟩, fun H1 s1 => k _ _ s1 (hS0.mono s1.t)⟩
    | bnd ov n i =>
      simp only [raw] at hS
      have hS0 := hS
      simp only [Sx] at hS
      simp only [Good] at hG
      obtain ⟨p, rfl, hp⟩ := hS
      obtain ⟨_, ⟨jj, hj, hkd⟩, hi⟩ := hG
      have nn : bw ov ≠ "not" ∧ (cdAt [(Str.ofString "all", Str.ofString "&"), (Str.ofString "some", Str.ofString "|")] (bw ov)).isSome ≠ true ∧ bw ov ≠ "is" ∧ (bw ov = "under" ∨ bw ov = "over") := by
        cases ov
        · exact ⟨by decide, by decide, by decide, .inl rfl⟩
        · exact ⟨by decide, by decide, by decide, .inr rfl⟩
      refine ⟨p, _, _, _, rfl, rfl, .of hp, atI_nat (j := 0) rfl, rfl, ?_⟩
      rw [if_neg (by simpa using nn.1)]
      refine ⟨p, _, _, _, rfl, rfl, .of hp, atI_nat (j := 0) rfl, _, rfl, ?_⟩
      rw [if_neg nn.2.1]
      refine ⟨p, _, _, _, rfl, rfl, .of hp, atI_nat (j := 0) rfl, rfl, ?_⟩
      rw [if_neg (by simpa using nn.2.2.1)]
      exact ⟨l, p, rfl, ⟨xs, ns, kds, _, n, _, jj, _, hl, hF, hp, hj, hkd, .inr ⟨nn.2.2.2, rfl⟩⟩, fun H1 s1 => k _ _ s1 (hS0.mono s1.t)⟩
theorem ok_settled (T : Txt w K mg f fd) : ∀ dp : Nat, FnOk P w K mg base CX0 (6 + dp) (f 32) (fd 32) ["fields", "sieve"] (sp_settled K dp)
  | 0 => ⟨fun _ _ _ _ h => False.elim h, fun _ _ _ _ _ _ _ _ _ _ _ _ _ h => False.elim h⟩
  | dp + 1 => st_settled T dp (ok_settled T dp)
noncomputable def sp_read_sieve (K : PySem.W.Frag) : Sp := fun vs H Q _ => ∃ (l : Addr) (z : Str) (s : Sv) (xs : List V) (ns kds : List Str), vs = [.ref l, .str z] ∧ z.cps.toList = txt s ∧ H l = some (.lst xs) ∧ FldsK H xs ns kds ∧ Good ns kds s ∧ lev s ≤ 12 ∧ cnt s ≤ 60 ∧ ∀ H' v', Same H H' → Sx H' s v' → Q v' H'
theorem ok_read_sieve (T : Txt w K mg f fd) : FnOk P w K mg base CX0 32 (f 33) (fd 33) ["fields", "text"] (sp_read_sieve K) := by
  refine T.d_read_sieve.F.ok sc_read_sieve (fun vs H Q E h => ?_) (fun cdv A outer s H vs Q E hr h => ?_)
  · obtain ⟨l, z, s, xs, ns, kds, rfl, _⟩ := h
    rfl
  · obtain ⟨l, z, s, xs, ns, kds, rfl, hz, hl, hF, hG, hL, hC, k⟩ := h
    have hzl : z.length ≤ 4800 := by
      have := txt_len hG
      rw [← len_cps, hz]
      omega
    have hzt : z.length = (txt s).length := by rw [← len_cps, hz]
    refine ⟨_, (pss_cons (psl 2 sc_read_sieve.nd (pe_make T.o_Reading.mkr (ok_Reading___init__ T) (hr.mono (by decide)) rfl T.o_Reading.m T.d_Reading___init__.b .nil pass0 (pal rfl (pvl 1) pa_nil) (by decide) rfl rfl))
     (pss_cons (psl 3 sc_read_sieve.nd (pe_meth (pvl 2) T.o_Reading.cls T.m_Reading_one_sieve (ok_Reading_one_sieve T 12) (hr.mono (by decide)) T.d_Reading_one_sieve.b .nil pass0 (pal rfl pe_int pa_nil) rfl rfl rfl))
     (pss_cons (ps_if (pt_cmpR op_lt (pe_fld (pvl 2) rfl) (pe_cB call_len_str T.n_len bt_len rfl (by decide) (by decide) rfl (pal rfl (pvl 1) pa_nil)) (nomark _))
     (pss_one ps_never)
     pss_nil)
     (pss_one (ps_ret (pe_defL T.d_settled (ok_settled T 12) (hr.mono (by decide)) rfl (by decide) rfl (pal rfl (pvl 0) (pal rfl (pvl 3) pa_nil)))))))), ?_⟩
    ((try dsimp only [cxOf, L2.Cx.inTry, L2.Cx.inHand]); simp only [iItems, rStarts3, rAdd, tNever, tCIn, tCGet, L2.start, tSeq, tNext, tIfS, tRet, tRetN, tAsg, tDrop, gName, tVar, tC, tOp, tUn, tCall, tCB, tCons, tNil, tTest, tB, tNot, tAnd, tOr, tAndV, tOrV, tNotV, tIf, tChain, tLst, tTup, tBM, tBM0, rI, rI0, rU, rEq, rNe, scal, tComp, iStr, iList, iTup, iRng1, iRng2, tYes, rIsP, rAll, rLenS, rLenV, rListOf, rTupleOf, tDisp, tPairs, tSl, tPart, tNoPart, rSlS, rSlL, rFind, rStarts, rIntT, rStrA, rRepS, tCallX, tRaise, tRaiseI, tTry, tAs, offE, tXF, sXset, tMethX, tMakeX, rIsX, tFld, sFld, tMeth, rSortD, rDPop, tDNewK, tDIn, tDNotIn, tDGet, sDPut, rIndexS, tStop, gSub, 
  List.map_cons, List.map_nil, List.cons_append, List.nil_append, List.length_cons, List.length_nil, List.getElem?_cons_zero, List.getElem?_cons_succ, Option.some.injEq, exists_eq_left', exists_eq_left, List.set_cons_zero, List.set_cons_succ, List.cons.injEq, and_true, true_and, V.int.injEq, V.str.injEq, V.bl.injEq, V.ref.injEq, V.ty.injEq, exists_and_left, exists_and_right, List.append_nil, reduceCtorEq, false_and, and_false, exists_false, or_false, false_or, decide_true, decide_false, Bool.not_true, Bool.not_false, if_true, if_false, Bool.false_eq_true, ite_true, ite_false, and_assoc, Nat.reduceAdd, Nat.reduceSub, List.replicate_succ, List.replicate_zero, Nat.zero_add, Nat.add_zero, Nat.sub_self])
    unfold tMake
    ((try dsimp only [cxOf, L2.Cx.inTry, L2.Cx.inHand]); simp only [iItems, rStarts3, rAdd, tNever, tCIn, tCGet, L2.start, tSeq, tNext, tIfS, tRet, tRetN, tAsg, tDrop, gName, tVar, tC, tOp, tUn, tCall, tCB, tCons, tNil, tTest, tB, tNot, tAnd, tOr, tAndV, tOrV, tNotV, tIf, tChain, tLst, tTup, tBM, tBM0, rI, rI0, rU, rEq, rNe, scal, tComp, iStr, iList, iTup, iRng1, iRng2, tYes, rIsP, rAll, rLenS, rLenV, rListOf, rTupleOf, tDisp, tPairs, tSl, tPart, tNoPart, rSlS, rSlL, rFind, rStarts, rIntT, rStrA, rRepS, tCallX, tRaise, tRaiseI, tTry, tAs, offE, tXF, sXset, tMethX, tMakeX, rIsX, tFld, sFld, tMeth, rSortD, rDPop, tDNewK, tDIn, tDNotIn, tDGet, sDPut, rIndexS, tStop, gSub, 
  List.map_cons, List.map_nil, List.cons_append, List.nil_append, List.length_cons, List.length_nil, List.getElem?_cons_zero, List.getElem?_cons_succ, Option.some.injEq, exists_eq_left', exists_eq_left, List.set_cons_zero, List.set_cons_succ, List.cons.injEq, and_true, true_and, V.int.injEq, V.str.injEq, V.bl.injEq, V.ref.injEq, V.ty.injEq, exists_and_left, exists_and_right, List.append_nil, reduceCtorEq, false_and, and_false, exists_false, or_false, false_or, decide_true, decide_false, Bool.not_true, Bool.not_false, if_true, if_false, Bool.false_eq_true, ite_true, ite_false, and_assoc, Nat.reduceAdd, Nat.reduceSub, List.replicate_succ, List.replicate_zero, Nat.zero_add, Nat.add_zero, Nat.sub_self])
    intro o dx ho hdx hne
    refine ⟨o, dx, z, rfl, upd_same, rfl, ?_⟩
    rw [upd_upd]
    have hn1 : upd H dx (.own o) o = none := by rw [upd_ne (Ne.symm hne)]; exact ho
    have s1 : Same H (upd (upd H dx (.own o)) o (.ins (f 30) dx (rdFs z 0 0))) := (Same.upd_new hdx _).new hn1 _
    have g1 : upd (upd H dx (.own o)) o (.ins (f 30) dx (rdFs z 0 0)) o = some (.ins (f 30) dx (rdFs z (0 : Nat) (0 : Nat))) := upd_same
    generalize upd (upd H dx (.own o)) o (.ins (f 30) dx (rdFs z 0 0)) = H1 at *
    refine ⟨_, _, g1, rfl, o, dx, z, 0, 0, 1, s, [], ns, kds, rfl, g1, ⟨by omega, by rw [List.drop_zero, List.append_nil]; exact hz⟩, by omega, hG, by omega, by omega, by omega, (fun c hc => by cases hc), fun H2 v F2 g2 hv => ?_⟩
    have S2 : Same H H2 := fun q u e => F2 q u (fun z => by rw [z, ho] at e; cases e) (s1 _ _ e)
    refine ⟨_, _, _, g2, T.o_Reading.cls, T.na_Reading_at, .int (0 + (txt s).length : Nat), rfl, small_line (by omega), _, rfl, ?_⟩
    rw [if_neg (by simp; omega)]
    exact ⟨l, v, s, xs, ns, kds, rfl, S2 _ _ hl, hF.mono S2, hG, hv, by omega, hC, fun H3 v3 s3 hv3 => k H3 v3 (S2.trans s3) hv3⟩
structure Fr where
  fm : Option Bool
  l : Addr
  ss : List Sv
noncomputable def fw : Option Bool → Str
  | none => "not"
  | some o => mw o
noncomputable def FrAt (H : Hp) (x : V) (r : Fr) : Prop := ∃ p xs, x = .ref p ∧ H p = some (.tup [.str (fw r.fm), .ref r.l]) ∧ H r.l = some (.lst xs) ∧ Sxs H r.ss xs
noncomputable def Stk (H : Hp) (st : Addr) (rs : List Fr) : Prop := ∃ ps, H st = some (.lst ps) ∧ Paired (FrAt H) ps rs ∧ (st :: rs.map Fr.l).Nodup
theorem FrAt.keep {H H' : Hp} {x : V} {r : Fr} (t : TSame H H') (e : ∀ xs, H r.l = some (.lst xs) → H' r.l = some (.lst xs)) (h : FrAt H x r) : FrAt H' x r := by
  obtain ⟨p, xs, h1, h2, h3, h4⟩ := h
  exact ⟨p, xs, h1, t _ _ h2, e _ h3, h4.mono t⟩
theorem paired_snoc {α β : Type} {F : α → β → Prop} : ∀ {xs : List α} {ys : List β} {y : β}, Paired F xs (ys ++ [y]) → ∃ xs' x, xs = xs' ++ [x] ∧ Paired F xs' ys ∧ F x y
  | _, [], y, h => by
    cases h with
    | cons r t => cases t; exact ⟨[], _, rfl, .nil, r⟩
  | _, b :: ys, y, h => by
    cases h with
    | cons r t =>
      obtain ⟨xs', x, rfl, h1, h2⟩ := paired_snoc (ys := ys) t
      exact ⟨_ :: xs', x, rfl, .cons r h1, h2⟩
theorem paired_put {α β : Type} {F : α → β → Prop} : ∀ {xs : List α} {ys : List β} {x : α} {y : β}, Paired F xs ys → F x y → Paired F (xs ++ [x]) (ys ++ [y])
  | _, _, _, _, .nil, h => .cons h .nil
  | _, _, _, _, .cons r t, h => .cons r (paired_put t h)
theorem paired_map {α β : Type} {F G : α → β → Prop} : ∀ {xs : List α} {ys : List β}, Paired F xs ys → (∀ x y, y ∈ ys → F x y → G x y) → Paired G xs ys
  | _, _, .nil, _ => .nil
  | _, _, .cons r t, h => .cons (h _ _ List.mem_cons_self r) (paired_map t fun x y hy => h x y (List.mem_cons_of_mem _ hy))
theorem paired_len {α β : Type} {F : α → β → Prop} : ∀ {xs : List α} {ys : List β}, Paired F xs ys → xs.length = ys.length
  | _, _, .nil => rfl
  | _, _, .cons _ t => by rw [List.length_cons, List.length_cons, paired_len t]
noncomputable def cls (b : Fr) : Sv := match b.fm with
  | none => .neg (b.ss.headD (.many false []))
  | some o => .many o b.ss
noncomputable def Fr.add (a : Fr) (s : Sv) : Fr := ⟨a.fm, a.l, a.ss ++ [s]⟩
theorem stk_add {H2 : Hp} {st : Addr} {ini : List Fr} {a : Fr} {ps : List V} {xa : V} {xs : List V} {s : Sv} {v : V} (hst : H2 st = some (.lst (ps ++ [xa]))) (hP : Paired (FrAt H2) ps ini) (ha : FrAt H2 xa a) (nd : (st :: (ini ++ [a]).map Fr.l).Nodup) (hx : H2 a.l = some (.lst xs)) (hv : Sx H2 s v) :
    Stk (upd H2 a.l (.lst (xs ++ [v]))) st (ini ++ [a.add s]) := by
  have T : TSame H2 (upd H2 a.l (.lst (xs ++ [v]))) := TSame.upd_no hx (fun _ z => nomatch z)
  rw [List.map_append, List.map_cons, List.map_nil] at nd
  have n1 : st ≠ a.l := fun z => (List.nodup_cons.mp nd).1 (by rw [z]; simp)
  have n2 : ∀ r ∈ ini, r.l ≠ a.l := fun r hr z => by
    have := (List.nodup_append.mp (List.nodup_cons.mp nd).2).2.2
    exact this r.l (List.mem_map_of_mem hr) a.l (List.mem_singleton.mpr rfl) z
  refine ⟨ps ++ [xa], by rw [upd_ne n1]; exact hst, paired_put (paired_map hP fun x r hr h => h.keep T fun ys e => by rw [upd_ne (n2 r hr)]; exact e) ?_, ?_⟩
  · obtain ⟨p, ys, h1, h2, h3, h4⟩ := ha
    obtain rfl : ys = xs := by rw [h3] at hx; cases hx; rfl
    exact ⟨p, ys ++ [v], h1, T _ _ h2, upd_same, Sxs.snoc (h4.mono T) (hv.mono T)⟩
  · rw [List.map_append, List.map_cons, List.map_nil]
    exact nd
theorem Stk.top {H : Hp} {st : Addr} {ini : List Fr} {a : Fr} (h : Stk H st (ini ++ [a])) : ∃ ps xa, H st = some (.lst (ps ++ [xa])) ∧ Paired (FrAt H) ps ini ∧ FrAt H xa a ∧ (st :: (ini ++ [a]).map Fr.l).Nodup := by
  obtain ⟨ps, h1, h2, h3⟩ := h
  obtain ⟨ps', xa, rfl, h4, h5⟩ := paired_snoc h2
  exact ⟨ps', xa, h1, h4, h5, h3⟩
theorem nodup_init {st : Addr} {rs : List Fr} {b : Fr} (h : (st :: (rs ++ [b]).map Fr.l).Nodup) : (st :: rs.map Fr.l).Nodup := by
  rw [List.map_append, ← List.cons_append] at h
  exact (List.nodup_append.mp h).1
theorem stk_pop {H : Hp} {st : Addr} {ini : List Fr} {a b : Fr} (h : Stk H st (ini ++ [a] ++ [b])) : ∃ ps xa xb, H st = some (.lst (ps ++ [xa] ++ [xb])) ∧ FrAt H xb b ∧ b.l ≠ st ∧
    ∀ H2, Same (upd H st (.lst (ps ++ [xa]))) H2 → H2 st = some (.lst (ps ++ [xa])) ∧ Paired (FrAt H2) ps ini ∧ FrAt H2 xa a ∧ FrAt H2 xb b ∧ (st :: (ini ++ [a]).map Fr.l).Nodup := by
  obtain ⟨ps, xb, h1, h2, h3, nd⟩ := h.top
  obtain ⟨ps, xa, rfl, h4, h5⟩ := paired_snoc h2
  have nl : ∀ r ∈ ini ++ [a] ++ [b], r.l ≠ st := fun r hr z => (List.nodup_cons.mp nd).1 (by rw [← z]; exact List.mem_map_of_mem hr)
  refine ⟨ps, xa, xb, h1, h3, nl b (by simp), fun H2 s => ?_⟩
  have T : TSame H H2 := (TSame.upd_no h1 (fun _ z => nomatch z)).trans s.t
  have kp : ∀ r ∈ ini ++ [a] ++ [b], ∀ x, FrAt H x r → FrAt H2 x r := fun r hr x h => h.keep T fun ys e => s _ _ (by rw [upd_ne (nl r hr)]; exact e)
  exact ⟨s _ _ upd_same, paired_map h4 fun x r hr h => kp r (by simp [hr]) x h, kp a (by simp) _ h5, kp b (by simp) _ h3, nodup_init nd⟩
noncomputable def sp_l_closed (K : PySem.W.Frag) : Sp := fun vs H Q _ => ∃ (H0 : Hp) (st : Addr) (ini : List Fr) (a b : Fr), vs = [.ref st] ∧ Same H0 H ∧ H0 st = none ∧ H0 a.l = none ∧ Stk H st (ini ++ [a] ++ [b]) ∧ a.ss.length ≤ 100 ∧ b.ss.length ≤ 100 ∧ ∀ H', Same H0 H' → Stk H' st (ini ++ [a.add (cls b)]) → Q .non H'
theorem ok_l_closed (T : Txt w K mg f fd) : FnOk P w K mg base CX0 1 (f 41) (fd 41) ["_law_stack"] (sp_l_closed K) := by
  refine T.d_l_closed.F.ok sc_l_closed (fun vs H Q E h => ?_) (fun cdv A outer s H vs Q E hr h => ?_)
  · obtain ⟨H0, st, ini, a, b, rfl, _⟩ := h
    rfl
  · obtain ⟨H0, st, ini, a, b, rfl, s0, hst, hal, hS, la, lb, k⟩ := h
    obtain ⟨ps, xa, xb, h1, hb, nb, go⟩ := stk_pop hS
    obtain ⟨pb, xs, rfl, hb1, hb2, hb3⟩ := id hb
    have hbl := hb3.len
    refine ⟨_, (pss_cons (ps_asg (k_bm0 rfl PySem.F.plainAttrs_list PySem.F.slot_list_pop PySem.F.type_list_pop mt_pop (pvl 0)) (k_pgT rfl rfl (pgs_cons (pgl 1 sc_l_closed.nd) (pgs_cons (pgl 2 sc_l_closed.nd) pgs_nil))))
     (pss_one (ps_if (pt_cmpR op_eq (pvl 1) pe_str (nomark _))
     (pss_one (ps_expr (k_bmL rfl PySem.F.plainAttrs_list PySem.F.slot_list_append PySem.F.type_list_append mt_append rfl rfl rfl rfl (pe_ix (k_ixT rfl) (pe_ix (k_ixL rfl) (pvl 0) (pe_un un_neg pe_int) (fun _ _ => rfl)) pe_int (fun _ _ => rfl)) (pal rfl (pe_tup (pal rfl pe_str (pal rfl (pe_ix (k_ixL rfl) (pe_op op_cat (pvl 2) (pe_lst (pal rfl (pe_tup (pal rfl pe_str (pal rfl (pe_tup pa_nil) pa_nil))) pa_nil))) pe_int (fun _ _ => rfl)) pa_nil))) pa_nil))))
     (pss_one (ps_expr (k_bmL rfl PySem.F.plainAttrs_list PySem.F.slot_list_append PySem.F.type_list_append mt_append rfl rfl rfl rfl (pe_ix (k_ixT rfl) (pe_ix (k_ixL rfl) (pvl 0) (pe_un un_neg pe_int) (fun _ _ => rfl)) pe_int (fun _ _ => rfl)) (pal rfl (pe_tup (pal rfl (pvl 1) (pal rfl (pe_cTy (k_tuple rfl) T.n_tuple bt_tuple rfl (by decide) (by decide) rfl (pal rfl (pvl 2) pa_nil)) pa_nil))) pa_nil))))))), ?_⟩
    ((try dsimp only [cxOf, L2.Cx.inTry, L2.Cx.inHand]); simp only [iItems, rStarts3, rAdd, tNever, tCIn, tCGet, L2.start, tSeq, tNext, tIfS, tRet, tRetN, tAsg, tDrop, gName, tVar, tC, tOp, tUn, tCall, tCB, tCons, tNil, tTest, tB, tNot, tAnd, tOr, tAndV, tOrV, tNotV, tIf, tChain, tLst, tTup, tBM, tBM0, rI, rI0, rU, rEq, rNe, scal, tComp, iStr, iList, iTup, iRng1, iRng2, tYes, rIsP, rAll, rLenS, rLenV, rListOf, rTupleOf, tDisp, tPairs, tSl, tPart, tNoPart, rSlS, rSlL, rFind, rStarts, rIntT, rStrA, rRepS, tCallX, tRaise, tRaiseI, tTry, tAs, offE, tXF, sXset, tMethX, tMakeX, rIsX, tFld, sFld, tMeth, rSortD, rDPop, tDNewK, tDIn, tDNotIn, tDGet, sDPut, rIndexS, tStop, gSub, 
  List.map_cons, List.map_nil, List.cons_append, List.nil_append, List.length_cons, List.length_nil, List.getElem?_cons_zero, List.getElem?_cons_succ, Option.some.injEq, exists_eq_left', exists_eq_left, List.set_cons_zero, List.set_cons_succ, List.cons.injEq, and_true, true_and, V.int.injEq, V.str.injEq, V.bl.injEq, V.ref.injEq, V.ty.injEq, exists_and_left, exists_and_right, List.append_nil, reduceCtorEq, false_and, and_false, exists_false, or_false, false_or, decide_true, decide_false, Bool.not_true, Bool.not_false, if_true, if_false, Bool.false_eq_true, ite_true, ite_false, and_assoc, Nat.reduceAdd, Nat.reduceSub, List.replicate_succ, List.replicate_zero, Nat.zero_add, Nat.add_zero, Nat.sub_self])
    refine ⟨.inl ⟨rfl, _, .of h1⟩, st, _, _, rfl, rfl, h1, by rw [List.length_append, List.length_singleton, Nat.add_sub_cancel, List.getElem?_append_right (Nat.le_refl _), Nat.sub_self]; rfl, ?_⟩
    rw [List.dropLast_concat]
    have s1 : Same H0 (upd H st (.lst (ps ++ [xa]))) := s0.set hst _
    have e1 : Same (upd H st (.lst (ps ++ [xa]))) (upd H st (.lst (ps ++ [xa]))) := Same.refl _
    obtain ⟨g1, g2, g3, g4, g5⟩ := go _ e1
    clear e1 hb hb1 hb2 hb3
    generalize upd H st (.lst (ps ++ [xa])) = H1 at *
    obtain ⟨pb', xs', e, hb1, hb2, hb3⟩ := g4
    cases e
    refine ⟨pb, _, rfl, .of hb1, rfl, ?_⟩
    simp only [gCons, gNil, gName]
    have fin : ∀ H2 v, Same H1 H2 → Sx H2 (cls b) v → rAppend (V.ref a.l) [v] H2 fun _ H1 => Q V.non H1 := fun H2 v s2 hv => by
      obtain ⟨q1, q2, q3, _, q5⟩ := go H2 s2
      obtain ⟨pa, ys, e, i1, i2, i3⟩ := id q3
      have := i3.len
      exact ⟨a.l, _, v, rfl, rfl, i2, small_line (by omega), k _ ((s1.trans s2).set hal _) (stk_add q1 q2 q3 q5 i2 hv)⟩
    obtain ⟨pa, ys, e, ha1, ha2, ha3⟩ := id g3
    subst e
    have hbl := hb3.len
    ((try dsimp only [cxOf, L2.Cx.inTry, L2.Cx.inHand]); simp only [iItems, rStarts3, rAdd, tNever, tCIn, tCGet, L2.start, tSeq, tNext, tIfS, tRet, tRetN, tAsg, tDrop, gName, tVar, tC, tOp, tUn, tCall, tCB, tCons, tNil, tTest, tB, tNot, tAnd, tOr, tAndV, tOrV, tNotV, tIf, tChain, tLst, tTup, tBM, tBM0, rI, rI0, rU, rEq, rNe, scal, tComp, iStr, iList, iTup, iRng1, iRng2, tYes, rIsP, rAll, rLenS, rLenV, rListOf, rTupleOf, tDisp, tPairs, tSl, tPart, tNoPart, rSlS, rSlL, rFind, rStarts, rIntT, rStrA, rRepS, tCallX, tRaise, tRaiseI, tTry, tAs, offE, tXF, sXset, tMethX, tMakeX, rIsX, tFld, sFld, tMeth, rSortD, rDPop, tDNewK, tDIn, tDNotIn, tDGet, sDPut, rIndexS, tStop, gSub, 
  List.map_cons, List.map_nil, List.cons_append, List.nil_append, List.length_cons, List.length_nil, List.getElem?_cons_zero, List.getElem?_cons_succ, Option.some.injEq, exists_eq_left', exists_eq_left, List.set_cons_zero, List.set_cons_succ, List.cons.injEq, and_true, true_and, V.int.injEq, V.str.injEq, V.bl.injEq, V.ref.injEq, V.ty.injEq, exists_and_left, exists_and_right, List.append_nil, reduceCtorEq, false_and, and_false, exists_false, or_false, false_or, decide_true, decide_false, Bool.not_true, Bool.not_false, if_true, if_false, Bool.false_eq_true, ite_true, ite_false, and_assoc, Nat.reduceAdd, Nat.reduceSub, List.replicate_succ, List.replicate_zero, Nat.zero_add, Nat.add_zero, Nat.sub_self])
    cases hfm : b.fm with
    | none =>
      rw [if_pos (by rw [show fw none = Str.ofString "not" from rfl]; decide)]
      refine ⟨st, _, _, _, rfl, rfl, .of g1, atI_last _ _, pa, _, _, _, rfl, rfl, .of ha1, atI_nat (j := 1) rfl, .inl ⟨rfl, _, .of ha2⟩, small_line (by decide), fun q0 hq0 => ⟨small_line (by decide), fun q1 hq1 => ⟨small_line (by decide), fun q2 hq2 => ?_⟩⟩⟩
      have t1 := Same.upd_new hq0 (HO.tup [])
      have m0 : upd H1 q0 (HO.tup []) q0 = some (.tup []) := upd_same
      generalize upd H1 q0 (HO.tup []) = H2 at *
      have t2 := Same.upd_new hq1 (HO.tup [V.str (Str.ofString "all"), V.ref q0])
      have m1 : upd H2 q1 (HO.tup [V.str (Str.ofString "all"), V.ref q0]) q1 = some (.tup [V.str (Str.ofString "all"), V.ref q0]) := upd_same
      generalize upd H2 q1 (HO.tup [V.str (Str.ofString "all"), V.ref q0]) = H3 at *
      have t3 := Same.upd_new hq2 (HO.lst [V.ref q1])
      have m2 : upd H3 q2 (HO.lst [V.ref q1]) q2 = some (.lst [V.ref q1]) := upd_same
      generalize upd H3 q2 (HO.lst [V.ref q1]) = H4 at *
      have t4 := (t1.trans t2).trans t3
      refine ⟨b.l, q2, _, _, rfl, rfl, t4 _ _ hb2, m2, small_line (by simp; omega), fun q3 hq3 => ?_⟩
      have t5 := t4.new hq3 (HO.lst (xs' ++ [V.ref q1]))
      have m3 : upd H4 q3 (HO.lst (xs' ++ [V.ref q1])) q3 = some (.lst (xs' ++ [V.ref q1])) := upd_same
      have u5 := Same.upd_new hq3 (HO.lst (xs' ++ [V.ref q1]))
      generalize upd H4 q3 (HO.lst (xs' ++ [V.ref q1])) = H5 at *
      refine ixL_of (.of m3) (by decide) (by simp) fun v0 hv0 => ⟨small_line (by decide), fun q4 hq4 => fin _ _ (t5.new hq4 _) ?_⟩
      have hv : Sx H5 (b.ss.headD (.many false [])) v0 := by
        have hb5 := hb3.mono t5.t
        cases hbs : b.ss with
        | nil =>
          rw [hbs] at hb5
          simp only [Sxs] at hb5
          subst hb5
          obtain rfl : V.ref q1 = v0 := by simpa using hv0
          simp only [List.headD_nil, Sx, Sxs]
          exact ⟨q1, q0, [], rfl, u5 _ _ (t3 _ _ m1), u5 _ _ (t3 _ _ (t2 _ _ m0)), rfl⟩
        | cons s ss =>
          rw [hbs] at hb5
          simp only [Sxs] at hb5
          obtain ⟨x, r, rfl, h5, _⟩ := hb5
          obtain rfl : x = v0 := by simpa using hv0
          exact h5
      have e9 : cls b = .neg (b.ss.headD (.many false [])) := by unfold cls; rw [hfm]
      rw [e9]
      simp only [Sx]
      exact ⟨q4, v0, rfl, upd_same, hv.mono (Same.upd_new hq4 _).t⟩
    | some o =>
      rw [if_neg (by cases o <;> decide)]
      refine ⟨st, _, _, _, rfl, rfl, .of g1, atI_last _ _, pa, _, _, _, rfl, rfl, .of ha1, atI_nat (j := 1) rfl, .inl ⟨rfl, _, .of ha2⟩, xs', .inl ⟨.of hb2, fun q0 hq0 => ⟨small_line (by decide), fun q1 hq1 => fin _ _ ((Same.upd_new hq0 _).new hq1 _) ?_⟩⟩⟩
      have e9 : cls b = .many o b.ss := by unfold cls; rw [hfm]
      rw [e9]
      simp only [Sx]
      exact ⟨q1, q0, xs', rfl, upd_same, Same.upd_new hq1 _ _ _ upd_same, (hb3.mono (Same.upd_new hq0 _).t).mono (Same.upd_new hq1 _).t⟩
noncomputable def pot (r : Fr) : Nat := 1 + cnts r.ss + (if r.fm = none then 1 else 0)
noncomputable def pots : List Fr → Nat
  | [] => 0
  | r :: rs => pot r + pots rs
theorem pots_app : ∀ as bs : List Fr, pots (as ++ bs) = pots as + pots bs
  | [], bs => by simp only [List.nil_append, pots]; omega
  | a :: as, bs => by simp only [List.cons_append, pots]; rw [pots_app]; omega
structure Fine (ns kds : List Str) (rs : List Fr) : Prop where
  len : rs.length ≤ 11
  good : ∀ r ∈ rs, Goods ns kds r.ss
  lv : ∀ (i : Nat) r, rs[i]? = some r → ∀ s ∈ r.ss, lev s ≤ 11 - i
  root : ∀ r, rs[0]? = some r → r.fm ≠ none
theorem Fine.push {ns kds : List Str} {rs : List Fr} {fm : Option Bool} {l : Addr} (h : Fine ns kds rs) (h1 : 1 ≤ rs.length) (hl : rs.length < 11) : Fine ns kds (rs ++ [⟨fm, l, []⟩]) := by
  refine ⟨by rw [List.length_append, List.length_singleton]; omega, fun r hr => ?_, fun i r hr s hs => ?_, fun r hr => h.root r (by rw [List.getElem?_append_left (by omega)] at hr; exact hr)⟩
  · rcases List.mem_append.mp hr with hr | hr
    · exact h.good r hr
    · rw [List.mem_singleton.mp hr]; simp only [Goods]
  · by_cases hi : i < rs.length
    · rw [List.getElem?_append_left hi] at hr
      exact h.lv i r hr s hs
    · have hr2 := List.mem_of_getElem? hr
      rcases List.mem_append.mp hr2 with hr3 | hr3
      · rw [List.getElem?_append_right (by omega)] at hr
        have := (List.getElem?_eq_some_iff.mp hr).2
        simp at this
        rw [← this] at hs
        simp at hs
      · rw [List.mem_singleton.mp hr3] at hs
        simp at hs
theorem Fine.add {ns kds : List Str} {ini : List Fr} {a : Fr} {s : Sv} (h : Fine ns kds (ini ++ [a])) (g : Good ns kds s) (hl : lev s ≤ 11 - ini.length) : Fine ns kds (ini ++ [a.add s]) := by
  have len := h.len
  rw [List.length_append, List.length_singleton] at len
  refine ⟨by rw [List.length_append, List.length_singleton]; omega, fun r hr => ?_, fun i r hr t ht => ?_, fun r hr => ?_⟩
  · rcases List.mem_append.mp hr with hr | hr
    · exact h.good r (List.mem_append_left _ hr)
    · rw [List.mem_singleton.mp hr]
      exact Goods.snoc (h.good a (by simp)) g
  · by_cases hi : i < ini.length
    · rw [List.getElem?_append_left hi] at hr
      exact h.lv i r (by rw [List.getElem?_append_left hi]; exact hr) t ht
    · have hi2 := (List.getElem?_eq_some_iff.mp hr).1
      rw [List.length_append, List.length_singleton] at hi2
      obtain rfl : i = ini.length := by omega
      rw [List.getElem?_append_right (Nat.le_refl _), Nat.sub_self] at hr
      obtain rfl : a.add s = r := by simpa using hr
      rcases List.mem_append.mp ht with ht | ht
      · exact h.lv ini.length a (by rw [List.getElem?_append_right (Nat.le_refl _), Nat.sub_self]; rfl) t ht
      · rw [List.mem_singleton.mp ht]; exact hl
  · cases ini with
    | nil =>
      obtain rfl : a.add s = r := by simpa using hr
      exact h.root a rfl
    | cons b t => exact h.root r (by simpa using hr)
theorem Fine.init {ns kds : List Str} {rs : List Fr} {b : Fr} (h : Fine ns kds (rs ++ [b])) (h1 : 1 ≤ rs.length) : Fine ns kds rs := by
  have len := h.len
  rw [List.length_append, List.length_singleton] at len
  refine ⟨by omega, fun r hr => h.good r (List.mem_append_left _ hr), fun i r hr => h.lv i r ?_, fun r hr => h.root r ?_⟩
  · rw [List.getElem?_append_left (List.getElem?_eq_some_iff.mp hr).1]; exact hr
  · rw [List.getElem?_append_left (by omega)]; exact hr
theorem goods_head {ns kds : List Str} : ∀ {ss : List Sv}, Goods ns kds ss → Good ns kds (ss.headD (.many false []))
  | [], _ => by simp only [List.headD_nil, Good, Goods]
  | s :: ss, h => by simp only [Goods] at h; exact h.1
theorem cls_ok {ns kds : List Str} {rs : List Fr} {b : Fr} (h : Fine ns kds (rs ++ [b])) (h1 : 1 ≤ rs.length) : Good ns kds (cls b) ∧ lev (cls b) ≤ 11 - (rs.length - 1) ∧ cnt (cls b) ≤ pot b := by
  have len := h.len
  rw [List.length_append, List.length_singleton] at len
  have gb := h.good b (by simp)
  have lb := h.lv rs.length b (by rw [List.getElem?_append_right (Nat.le_refl _), Nat.sub_self]; rfl)
  unfold cls pot
  cases hfm : b.fm with
  | none =>
    simp only [Good, lev, cnt]
    refine ⟨goods_head gb, ?_, ?_⟩
    · cases hs : b.ss with
      | nil => simp only [List.headD_nil, lev, levs]; omega
      | cons s ss =>
        have := lb s (by rw [hs]; exact List.mem_cons_self)
        simp only [List.headD_cons]
        omega
    · cases hs : b.ss with
      | nil => simp only [List.headD_nil, cnt, cnts, if_true]; omega
      | cons s ss => simp only [List.headD_cons, cnts, if_true]; omega
  | some o =>
    simp only [Good, lev, cnt]
    have := levs_le lb
    exact ⟨gb, by omega, by simp; omega⟩
theorem Fine.shut {ns kds : List Str} {ini : List Fr} {a b : Fr} (h : Fine ns kds (ini ++ [a] ++ [b])) : Fine ns kds (ini ++ [a.add (cls b)]) ∧ pots (ini ++ [a.add (cls b)]) ≤ pots (ini ++ [a] ++ [b]) := by
  obtain ⟨g1, g2, g3⟩ := cls_ok h (by simp)
  rw [List.length_append, List.length_singleton] at g2
  refine ⟨(h.init (by simp)).add g1 (by omega), ?_⟩
  simp only [pots_app, pots, Fr.add, pot, cnts_snoc] at g3 ⊢
  omega
noncomputable def sp_l_grown (K : PySem.W.Frag) : Sp := fun vs H Q _ => ∃ (lc d : Addr) (cells : List Int) (ns kds : List Str), vs = [.ref lc, .ref d] ∧ H lc = some (.lst (cells.map V.int)) ∧ 1 ≤ cells.length ∧ cells.length ≤ 100 ∧ Wd H d ns kds ∧ ∀ H' v s, Same H H' → Sx H' s v → Good ns kds s → lev s ≤ 12 → cnt s ≤ 60 → Q v H'
theorem none_of {H H' : Hp} {p : Addr} (s : Same H H') (h : H' p = none) : H p = none := by
  cases e : H p with
  | none => rfl
  | some u => rw [s _ _ e] at h; cases h
structure GI (ns kds : List Str) (H : Hp) (st : Addr) (H' : Hp) (rs : List Fr) (m : Int) : Prop where
  same : Same H H'
  stk : Stk H' st rs
  new : ∀ r ∈ rs, H r.l = none
  fine : Fine ns kds rs
  ne : 1 ≤ rs.length
  po : (pots rs : Int) ≤ m
  m58 : m ≤ 58
theorem snoc_of {α : Type} {xs : List α} (h : 1 ≤ xs.length) : ∃ ini a, xs = ini ++ [a] := by
  have hne : xs ≠ [] := fun z => by subst z; simp at h
  exact ⟨xs.dropLast, xs.getLast hne, (List.dropLast_concat_getLast hne).symm⟩
theorem GI.mono {ns kds : List Str} {H H' H6 : Hp} {st : Addr} {rs : List Fr} {m : Int} (h : GI ns kds H st H' rs m) (s : Same H' H6) : GI ns kds H st H6 rs m := by
  obtain ⟨ps, h1, hP, nd⟩ := h.stk
  exact ⟨h.same.trans s, ⟨ps, s _ _ h1, paired_map hP fun x r _ h => h.keep s.t fun ys e => s _ _ e, nd⟩, h.new, h.fine, h.ne, h.po, h.m58⟩
theorem pots_mem : ∀ {rs : List Fr} {r : Fr}, r ∈ rs → r.ss.length ≤ pots rs
  | [], r, h => by simp at h
  | a :: rs, r, h => by
    simp only [pots, pot]
    rcases List.mem_cons.mp h with rfl | h
    · have := len_le_cnts r.ss; omega
    · have := pots_mem h; omega
theorem GI.close {K : PySem.W.Frag} {ns kds : List Str} {H H' : Hp} {st : Addr} {rs : List Fr} {m : Int} {R : VK} (hst : H st = none) (h : GI ns kds H st H' rs m) (hl : 1 < rs.length) (k : ∀ H2 rs', GI ns kds H st H2 rs' m → rs'.length < rs.length → R .non H2) : sp_l_closed K [.ref st] H' R E0 := by
  obtain ⟨r1, b, rfl⟩ := snoc_of h.ne
  rw [List.length_append, List.length_singleton] at hl
  obtain ⟨ini, a, rfl⟩ := snoc_of (show 1 ≤ r1.length by omega)
  have h1 := pots_mem (rs := ini ++ [a] ++ [b]) (r := a) (by simp)
  have h2 := pots_mem (rs := ini ++ [a] ++ [b]) (r := b) (by simp)
  have hpo := h.po
  have h58 := h.m58
  have hal := h.new a (by simp)
  refine ⟨H, st, ini, a, b, rfl, h.same, hst, hal, h.stk, by omega, by omega, fun H2 s2 hS => k H2 _ ⟨s2, hS, fun r hr => ?_, h.fine.shut.1, by simp, ?_, h58⟩ (by simp)⟩
  · rcases List.mem_append.mp hr with hr | hr
    · exact h.new r (by simp [hr])
    · rw [List.mem_singleton.mp hr]; exact hal
  · have := h.fine.shut.2
    omega
theorem ok_l_grown (T : Txt w K mg f fd) : FnOk P w K mg base CX0 3 (f 42) (fd 42) ["_law_cells", "_law_world_here"] (sp_l_grown K) := by
  refine T.d_l_grown.F.ok sc_l_grown (fun vs H Q E h => ?_) (fun cdv A outer s H vs Q E hr h => ?_)
  · obtain ⟨lc, d, cells, ns, kds, rfl, _⟩ := h
    rfl
  · obtain ⟨lc, d, cells, ns, kds, rfl, hlc, h1, h100, hW, k⟩ := h
    refine ⟨_, (pss_cons (psl 2 sc_l_grown.nd (pe_lst (pal rfl (pe_tup (pal rfl (pe_ix (k_ixL rfl) (pe_lst (pal rfl pe_str (pal rfl pe_str pa_nil))) (pe_op op_mod (pe_ix (k_ixL rfl) (pvl 0) pe_int (fun _ _ => rfl)) pe_int) (fun _ _ => rfl)) (pal rfl (pe_lst pa_nil) pa_nil))) pa_nil)))
     (pss_cons (psl 3 sc_l_grown.nd pe_int)
     (pss_cons (ps_for PassesOwn.never rfl (pi_range2 rfl T.n_range (pal rfl pe_int (pal rfl (pe_cB (k_len rfl) T.n_len bt_len rfl (by decide) (by decide) rfl (pal rfl (pvl 0) pa_nil)) pa_nil))) (pgl 4 sc_l_grown.nd)
     (pss_cons (psl 5 sc_l_grown.nd (pe_defL T.d_l_mix (ok_l_mix T) (hr.mono (by decide)) rfl (by decide) rfl (pal rfl (pe_ix (k_ixL rfl) (pvl 0) (pvl 4) (fun _ _ => rfl)) (pal rfl (pvl 4) pa_nil))))
     (pss_one (ps_if (PW.pt (pw_and (pt_cmpR op_eq (pe_op op_mod (pvl 5) pe_int) pe_int (nomark _)) (pw_and (pt_cmpR op_lt (pe_cB (k_len rfl) T.n_len bt_len rfl (by decide) (by decide) rfl (pal rfl (pvl 2) pa_nil)) pe_int (nomark _)) (pw_and1 (pt_cmpR op_lt (pvl 3) pe_int (nomark _))))))
     (pss_cons (ps_expr (k_bmL rfl PySem.F.plainAttrs_list PySem.F.slot_list_append PySem.F.type_list_append mt_append rfl rfl rfl rfl (pvl 2) (pal rfl (pe_tup (pal rfl (pe_ix (k_ixL rfl) (pe_lst (pal rfl pe_str (pal rfl pe_str (pal rfl pe_str pa_nil)))) (pe_op op_mod (pe_op op_fdiv (pvl 5) pe_int) pe_int) (fun _ _ => rfl)) (pal rfl (pe_lst pa_nil) pa_nil))) pa_nil)))
     (pss_one (psl 3 sc_l_grown.nd (pe_op op_add (pvl 3) pe_int))))
     (pss_one (ps_if (PW.pt (pw_and (pt_cmpR op_eq (pe_op op_mod (pvl 5) pe_int) pe_int (nomark _)) (pw_and1 (pt_cmpR op_gt (pe_cB (k_len rfl) T.n_len bt_len rfl (by decide) (by decide) rfl (pal rfl (pvl 2) pa_nil)) pe_int (nomark _)))))
     (pss_one (ps_expr (pe_defL T.d_l_closed (ok_l_closed T) (hr.mono (by decide)) rfl (by decide) rfl (pal rfl (pvl 2) pa_nil))))
     (pss_one (ps_if (PW.pt (pw_and (pt_cmpR op_lt (pvl 3) pe_int (nomark _)) (pw_and1 (PW.pt (pw_or (pt_cmpR op_ne (pe_ix (k_ixT rfl) (pe_ix (k_ixL rfl) (pvl 2) (pe_un un_neg pe_int) (fun _ _ => rfl)) pe_int (fun _ _ => rfl)) pe_str (nomark _)) (pw_or1 (pt_cmpR (k_eqN rfl hr.units) (pe_ix (k_ixT rfl) (pe_ix (k_ixL rfl) (pvl 2) (pe_un un_neg pe_int) (fun _ _ => rfl)) pe_int (fun _ _ => rfl)) (pe_lst pa_nil) (nomark _))))))))
     (pss_cons (ps_expr (k_bmL rfl PySem.F.plainAttrs_list PySem.F.slot_list_append PySem.F.type_list_append mt_append rfl rfl rfl rfl (pe_ix (k_ixT rfl) (pe_ix (k_ixL rfl) (pvl 2) (pe_un un_neg pe_int) (fun _ _ => rfl)) pe_int (fun _ _ => rfl)) (pal rfl (pe_defL T.d_l_plain (ok_l_plain T) (hr.mono (by decide)) rfl (by decide) rfl (pal rfl (pe_defL T.d_l_mix (ok_l_mix T) (hr.mono (by decide)) rfl (by decide) rfl (pal rfl (pvl 5) (pal rfl pe_int pa_nil))) (pal rfl (pvl 1) pa_nil))) pa_nil)))
     (pss_one (psl 3 sc_l_grown.nd (pe_op op_add (pvl 3) pe_int))))
     pss_nil))))))))
     (pss_cons (ps_while PassesOwn.never (pt_cmpR op_gt (pe_cB (k_len rfl) T.n_len bt_len rfl (by decide) (by decide) rfl (pal rfl (pvl 2) pa_nil)) pe_int (nomark _))
     (pss_one (ps_expr (pe_defL T.d_l_closed (ok_l_closed T) (hr.mono (by decide)) rfl (by decide) rfl (pal rfl (pvl 2) pa_nil)))))
     (pss_one (ps_ret (pe_tup (pal rfl (pe_ix (k_ixT rfl) (pe_ix (k_ixL rfl) (pvl 2) pe_int (fun _ _ => rfl)) pe_int (fun _ _ => rfl)) (pal rfl (pe_cTy (k_tuple rfl) T.n_tuple bt_tuple rfl (by decide) (by decide) rfl (pal rfl (pe_ix (k_ixT rfl) (pe_ix (k_ixL rfl) (pvl 2) pe_int (fun _ _ => rfl)) pe_int (fun _ _ => rfl)) pa_nil)) pa_nil))))))))), ?_⟩
    generalize hB : tSeq (tFor _ _ _) _ = B
    ((try dsimp only [cxOf, L2.Cx.inTry, L2.Cx.inHand]); simp only [iItems, rStarts3, rAdd, tNever, tCIn, tCGet, L2.start, tSeq, tNext, tIfS, tRet, tRetN, tAsg, tDrop, gName, tVar, tC, tOp, tUn, tCall, tCB, tCons, tNil, tTest, tB, tNot, tAnd, tOr, tAndV, tOrV, tNotV, tIf, tChain, tLst, tTup, tBM, tBM0, rI, rI0, rU, rEq, rNe, scal, tComp, iStr, iList, iTup, iRng1, iRng2, tYes, rIsP, rAll, rLenS, rLenV, rListOf, rTupleOf, tDisp, tPairs, tSl, tPart, tNoPart, rSlS, rSlL, rFind, rStarts, rIntT, rStrA, rRepS, tCallX, tRaise, tRaiseI, tTry, tAs, offE, tXF, sXset, tMethX, tMakeX, rIsX, tFld, sFld, tMeth, rSortD, rDPop, tDNewK, tDIn, tDNotIn, tDGet, sDPut, rIndexS, tStop, gSub, 
  List.map_cons, List.map_nil, List.cons_append, List.nil_append, List.length_cons, List.length_nil, List.getElem?_cons_zero, List.getElem?_cons_succ, Option.some.injEq, exists_eq_left', exists_eq_left, List.set_cons_zero, List.set_cons_succ, List.cons.injEq, and_true, true_and, V.int.injEq, V.str.injEq, V.bl.injEq, V.ref.injEq, V.ty.injEq, exists_and_left, exists_and_right, List.append_nil, reduceCtorEq, false_and, and_false, exists_false, or_false, false_or, decide_true, decide_false, Bool.not_true, Bool.not_false, if_true, if_false, Bool.false_eq_true, ite_true, ite_false, and_assoc, Nat.reduceAdd, Nat.reduceSub, List.replicate_succ, List.replicate_zero, Nat.zero_add, Nat.add_zero, Nat.sub_self])
    refine ⟨small_line (by decide), fun p hp => ?_⟩
    have u0 := Same.upd_new hp (HO.lst [V.str (Str.ofString "all"), V.str (Str.ofString "some")])
    have g0 : upd H p (HO.lst [V.str (Str.ofString "all"), V.str (Str.ofString "some")]) p = some (.lst [V.str (Str.ofString "all"), V.str (Str.ofString "some")]) := upd_same
    generalize upd H p (HO.lst [V.str (Str.ofString "all"), V.str (Str.ofString "some")]) = H1 at *
    refine ixL_of (.of (u0 _ _ hlc)) (by decide) (by rw [List.length_map]; omega) fun v hv => ?_
    rw [List.getElem?_map] at hv
    obtain ⟨c0, _, rfl⟩ := Option.map_eq_some_iff.mp hv
    ((try dsimp only [cxOf, L2.Cx.inTry, L2.Cx.inHand]); simp only [iItems, rStarts3, rAdd, tNever, tCIn, tCGet, L2.start, tSeq, tNext, tIfS, tRet, tRetN, tAsg, tDrop, gName, tVar, tC, tOp, tUn, tCall, tCB, tCons, tNil, tTest, tB, tNot, tAnd, tOr, tAndV, tOrV, tNotV, tIf, tChain, tLst, tTup, tBM, tBM0, rI, rI0, rU, rEq, rNe, scal, tComp, iStr, iList, iTup, iRng1, iRng2, tYes, rIsP, rAll, rLenS, rLenV, rListOf, rTupleOf, tDisp, tPairs, tSl, tPart, tNoPart, rSlS, rSlL, rFind, rStarts, rIntT, rStrA, rRepS, tCallX, tRaise, tRaiseI, tTry, tAs, offE, tXF, sXset, tMethX, tMakeX, rIsX, tFld, sFld, tMeth, rSortD, rDPop, tDNewK, tDIn, tDNotIn, tDGet, sDPut, rIndexS, tStop, gSub, 
  List.map_cons, List.map_nil, List.cons_append, List.nil_append, List.length_cons, List.length_nil, List.getElem?_cons_zero, List.getElem?_cons_succ, Option.some.injEq, exists_eq_left', exists_eq_left, List.set_cons_zero, List.set_cons_succ, List.cons.injEq, and_true, true_and, V.int.injEq, V.str.injEq, V.bl.injEq, V.ref.injEq, V.ty.injEq, exists_and_left, exists_and_right, List.append_nil, reduceCtorEq, false_and, and_false, exists_false, or_false, false_or, decide_true, decide_false, Bool.not_true, Bool.not_false, if_true, if_false, Bool.false_eq_true, ite_true, ite_false, and_assoc, Nat.reduceAdd, Nat.reduceSub, List.replicate_succ, List.replicate_zero, Nat.zero_add, Nat.add_zero, Nat.sub_self])
    refine ⟨by decide, ixL_of (.of g0) (Int.emod_nonneg _ (by decide)) (Int.emod_lt_of_pos _ (by decide)) fun x hx => ⟨small_line (by decide), fun l hl => ⟨small_line (by decide), fun pt hpt => ⟨small_line (by decide), fun st hst => ?_⟩⟩⟩⟩
    obtain ⟨o, rfl⟩ : ∃ o, x = .str (mw o) := by
      rcases (by omega : c0 % 2 = 0 ∨ c0 % 2 = 1) with h | h <;> rw [h] at hx
      · exact ⟨false, (Option.some.inj hx).symm⟩
      · exact ⟨true, (Option.some.inj hx).symm⟩
    have hl0 := none_of u0 hl
    have u1 := u0.new hl (HO.lst [])
    have m1 : upd H1 l (HO.lst []) l = some (.lst []) := upd_same
    generalize upd H1 l (HO.lst []) = H2 at *
    have u2 := u1.new hpt (HO.tup [V.str (mw o), V.ref l])
    have w2 := Same.upd_new hpt (HO.tup [V.str (mw o), V.ref l])
    have m2 : upd H2 pt (HO.tup [V.str (mw o), V.ref l]) pt = some (.tup [V.str (mw o), V.ref l]) := upd_same
    generalize upd H2 pt (HO.tup [V.str (mw o), V.ref l]) = H3 at *
    have hst0 := none_of u2 hst
    have u3 := u2.new hst (HO.lst [V.ref pt])
    have w3 := Same.upd_new hst (HO.lst [V.ref pt])
    have m3 : upd H3 st (HO.lst [V.ref pt]) st = some (.lst [V.ref pt]) := upd_same
    have nsl : st ≠ l := fun z => by rw [z, w2 _ _ m1] at hst; cases hst
    generalize upd H3 st (HO.lst [V.ref pt]) = H4 at *
    have I0 : GI ns kds H st H4 [⟨some o, l, []⟩] 1 := by
      refine ⟨u3, ⟨[V.ref pt], m3, .cons ⟨pt, [], rfl, w3 _ _ m2, w3 _ _ (w2 _ _ m1), by simp only [Sxs]⟩ .nil, by simp [nsl]⟩, fun r hr => ?_, ⟨by simp, fun r hr => ?_, fun i r hr s hs => ?_, fun r hr => ?_⟩, by simp, by simp [pots, pot, cnts], by decide⟩
      · rw [List.mem_singleton.mp hr]; exact hl0
      · rw [List.mem_singleton.mp hr]; simp only [Goods]
      · have := List.mem_of_getElem? hr
        rw [List.mem_singleton.mp this] at hs
        simp at hs
      · obtain rfl := Option.some.inj (show some _ = some r from hr)
        exact fun z => nomatch z
    clear u0 u1 u2 u3 w2 w3 m1 m2 m3 g0 hl hpt hst hp
    subst hB
    ((try dsimp only [cxOf, L2.Cx.inTry, L2.Cx.inHand]); simp only [iItems, rStarts3, rAdd, tNever, tCIn, tCGet, L2.start, tSeq, tNext, tIfS, tRet, tRetN, tAsg, tDrop, gName, tVar, tC, tOp, tUn, tCall, tCB, tCons, tNil, tTest, tB, tNot, tAnd, tOr, tAndV, tOrV, tNotV, tIf, tChain, tLst, tTup, tBM, tBM0, rI, rI0, rU, rEq, rNe, scal, tComp, iStr, iList, iTup, iRng1, iRng2, tYes, rIsP, rAll, rLenS, rLenV, rListOf, rTupleOf, tDisp, tPairs, tSl, tPart, tNoPart, rSlS, rSlL, rFind, rStarts, rIntT, rStrA, rRepS, tCallX, tRaise, tRaiseI, tTry, tAs, offE, tXF, sXset, tMethX, tMakeX, rIsX, tFld, sFld, tMeth, rSortD, rDPop, tDNewK, tDIn, tDNotIn, tDGet, sDPut, rIndexS, tStop, gSub, 
  List.map_cons, List.map_nil, List.cons_append, List.nil_append, List.length_cons, List.length_nil, List.getElem?_cons_zero, List.getElem?_cons_succ, Option.some.injEq, exists_eq_left', exists_eq_left, List.set_cons_zero, List.set_cons_succ, List.cons.injEq, and_true, true_and, V.int.injEq, V.str.injEq, V.bl.injEq, V.ref.injEq, V.ty.injEq, exists_and_left, exists_and_right, List.append_nil, reduceCtorEq, false_and, and_false, exists_false, or_false, false_or, decide_true, decide_false, Bool.not_true, Bool.not_false, if_true, if_false, Bool.false_eq_true, ite_true, ite_false, and_assoc, Nat.reduceAdd, Nat.reduceSub, List.replicate_succ, List.replicate_zero, Nat.zero_add, Nat.add_zero, Nat.sub_self])
    refine for_in ?_
    ((try dsimp only [cxOf, L2.Cx.inTry, L2.Cx.inHand]); simp only [iItems, rStarts3, rAdd, tNever, tCIn, tCGet, L2.start, tSeq, tNext, tIfS, tRet, tRetN, tAsg, tDrop, gName, tVar, tC, tOp, tUn, tCall, tCB, tCons, tNil, tTest, tB, tNot, tAnd, tOr, tAndV, tOrV, tNotV, tIf, tChain, tLst, tTup, tBM, tBM0, rI, rI0, rU, rEq, rNe, scal, tComp, iStr, iList, iTup, iRng1, iRng2, tYes, rIsP, rAll, rLenS, rLenV, rListOf, rTupleOf, tDisp, tPairs, tSl, tPart, tNoPart, rSlS, rSlL, rFind, rStarts, rIntT, rStrA, rRepS, tCallX, tRaise, tRaiseI, tTry, tAs, offE, tXF, sXset, tMethX, tMakeX, rIsX, tFld, sFld, tMeth, rSortD, rDPop, tDNewK, tDIn, tDNotIn, tDGet, sDPut, rIndexS, tStop, gSub, 
  List.map_cons, List.map_nil, List.cons_append, List.nil_append, List.length_cons, List.length_nil, List.getElem?_cons_zero, List.getElem?_cons_succ, Option.some.injEq, exists_eq_left', exists_eq_left, List.set_cons_zero, List.set_cons_succ, List.cons.injEq, and_true, true_and, V.int.injEq, V.str.injEq, V.bl.injEq, V.ref.injEq, V.ty.injEq, exists_and_left, exists_and_right, List.append_nil, reduceCtorEq, false_and, and_false, exists_false, or_false, false_or, decide_true, decide_false, Bool.not_true, Bool.not_false, if_true, if_false, Bool.false_eq_true, ite_true, ite_false, and_assoc, Nat.reduceAdd, Nat.reduceSub, List.replicate_succ, List.replicate_zero, Nat.zero_add, Nat.add_zero, Nat.sub_self])
    refine ⟨_, .inl (.of (I0.same _ _ hlc)), by decide, by decide, by omega, by rw [List.length_map]; omega, ?_⟩
    rw [List.length_map]
    refine ForW.of walk_range (fun j σ H' => ∃ (v4 v5 : Option V) (m : Int) (rs : List Fr), σ = [some (V.ref lc), some (V.ref d), some (V.ref st), some (V.int m), v4, v5] ∧ GI ns kds H st H' rs m) ⟨none, none, 1, _, rfl, I0⟩ (fun _ _ _ _ _ => trivial) ?_ ?_
    · rintro j x σ H5 hx ⟨v4, v5, m, rs, rfl, I⟩
      obtain ⟨hj, rfl⟩ := range_item hx
      ((try dsimp only [cxOf, L2.Cx.inTry, L2.Cx.inHand]); simp only [iItems, rStarts3, rAdd, tNever, tCIn, tCGet, L2.start, tSeq, tNext, tIfS, tRet, tRetN, tAsg, tDrop, gName, tVar, tC, tOp, tUn, tCall, tCB, tCons, tNil, tTest, tB, tNot, tAnd, tOr, tAndV, tOrV, tNotV, tIf, tChain, tLst, tTup, tBM, tBM0, rI, rI0, rU, rEq, rNe, scal, tComp, iStr, iList, iTup, iRng1, iRng2, tYes, rIsP, rAll, rLenS, rLenV, rListOf, rTupleOf, tDisp, tPairs, tSl, tPart, tNoPart, rSlS, rSlL, rFind, rStarts, rIntT, rStrA, rRepS, tCallX, tRaise, tRaiseI, tTry, tAs, offE, tXF, sXset, tMethX, tMakeX, rIsX, tFld, sFld, tMeth, rSortD, rDPop, tDNewK, tDIn, tDNotIn, tDGet, sDPut, rIndexS, tStop, gSub, 
  List.map_cons, List.map_nil, List.cons_append, List.nil_append, List.length_cons, List.length_nil, List.getElem?_cons_zero, List.getElem?_cons_succ, Option.some.injEq, exists_eq_left', exists_eq_left, List.set_cons_zero, List.set_cons_succ, List.cons.injEq, and_true, true_and, V.int.injEq, V.str.injEq, V.bl.injEq, V.ref.injEq, V.ty.injEq, exists_and_left, exists_and_right, List.append_nil, reduceCtorEq, false_and, and_false, exists_false, or_false, false_or, decide_true, decide_false, Bool.not_true, Bool.not_false, if_true, if_false, Bool.false_eq_true, ite_true, ite_false, and_assoc, Nat.reduceAdd, Nat.reduceSub, List.replicate_succ, List.replicate_zero, Nat.zero_add, Nat.add_zero, Nat.sub_self])
      refine ixL_of (.of (I.same _ _ hlc)) (by omega) (by rw [List.length_map]; omega) fun v hv => ?_
      rw [List.getElem?_map] at hv
      obtain ⟨cj, _, rfl⟩ := Option.map_eq_some_iff.mp hv
      refine ⟨_, _, rfl, ?_⟩
      generalize mixI cj _ = sd
      ((try dsimp only [cxOf, L2.Cx.inTry, L2.Cx.inHand]); simp only [iItems, rStarts3, rAdd, tNever, tCIn, tCGet, L2.start, tSeq, tNext, tIfS, tRet, tRetN, tAsg, tDrop, gName, tVar, tC, tOp, tUn, tCall, tCB, tCons, tNil, tTest, tB, tNot, tAnd, tOr, tAndV, tOrV, tNotV, tIf, tChain, tLst, tTup, tBM, tBM0, rI, rI0, rU, rEq, rNe, scal, tComp, iStr, iList, iTup, iRng1, iRng2, tYes, rIsP, rAll, rLenS, rLenV, rListOf, rTupleOf, tDisp, tPairs, tSl, tPart, tNoPart, rSlS, rSlL, rFind, rStarts, rIntT, rStrA, rRepS, tCallX, tRaise, tRaiseI, tTry, tAs, offE, tXF, sXset, tMethX, tMakeX, rIsX, tFld, sFld, tMeth, rSortD, rDPop, tDNewK, tDIn, tDNotIn, tDGet, sDPut, rIndexS, tStop, gSub, 
  List.map_cons, List.map_nil, List.cons_append, List.nil_append, List.length_cons, List.length_nil, List.getElem?_cons_zero, List.getElem?_cons_succ, Option.some.injEq, exists_eq_left', exists_eq_left, List.set_cons_zero, List.set_cons_succ, List.cons.injEq, and_true, true_and, V.int.injEq, V.str.injEq, V.bl.injEq, V.ref.injEq, V.ty.injEq, exists_and_left, exists_and_right, List.append_nil, reduceCtorEq, false_and, and_false, exists_false, or_false, false_or, decide_true, decide_false, Bool.not_true, Bool.not_false, if_true, if_false, Bool.false_eq_true, ite_true, ite_false, and_assoc, Nat.reduceAdd, Nat.reduceSub, List.replicate_succ, List.replicate_zero, Nat.zero_add, Nat.add_zero, Nat.sub_self])
      generalize hC3 : (if decide (m < 58) = true then _ else (∃ x, GI ns kds H st H5 x m)) = C3
      generalize hC2 : ((0 : Int) < 8 ∧ _) = C2
      have c3 : C3 := by
        rw [← hC3]
        by_cases hm : m < 58
        · rw [if_pos (decide_eq_true hm)]
          obtain ⟨ini, a, rfl⟩ := snoc_of I.ne
          obtain ⟨ps, xa, h1, hP, ha, nd⟩ := I.stk.top
          obtain ⟨pa, xs, rfl, ha1, ha2, ha3⟩ := id ha
          have hal := I.new a (by simp)
          have hpo := I.po
          have hxl := ha3.len
          have hal2 := len_le_cnts a.ss
          have add : ∀ H6, Same H5 H6 → tyV K "list" (V.ref a.l) H6 ∧ sp_l_mix K [V.int sd, V.int 1] H6 (fun x_1 H1 => sp_l_plain K [x_1, V.ref d] H1 (fun x_2 H1 => rAppend (V.ref a.l) [x_2] H1 fun _ H1 => ∃ x, GI ns kds H st H1 x (m + 1)) E0) E0 := by
            intro H6 s6
            refine ⟨.inl ⟨rfl, _, .of (s6 _ _ ha2)⟩, _, _, rfl, _, d, ns, kds, rfl, hW.mono (I.same.trans s6), fun H7 v s s7 hv hg hp => ?_⟩
            have S7 := s6.trans s7
            have hlc := isPl.lc hp
            have hfl := I.fine.len
            simp only [pots_app, pots, pot] at hpo
            rw [List.length_append, List.length_singleton] at hfl
            refine ⟨a.l, _, v, rfl, rfl, S7 _ _ ha2, small_line (by omega), ini ++ [a.add s], (I.same.trans S7).set hal _, stk_add (S7 _ _ h1) (paired_map hP fun x r _ h => h.keep S7.t fun ys e => S7 _ _ e) (ha.keep S7.t fun ys e => S7 _ _ e) nd (S7 _ _ ha2) hv, fun r hr => ?_, I.fine.add hg (by omega), by simp, ?_, by omega⟩
            · rcases List.mem_append.mp hr with hr | hr
              · exact I.new r (List.mem_append_left _ hr)
              · rw [List.mem_singleton.mp hr]; exact hal
            · simp only [pots_app, pots, pot, Fr.add, cnts_snoc]
              omega
          have ixa : ∀ (H6 : Hp) (i : Nat) (v : V) (R : VK), Same H5 H6 → [V.str (fw a.fm), V.ref a.l][i]? = some v → R v H6 → rIxL K (V.ref st) (V.int (-1)) H6 fun x H1 => rIxT K x (V.int i) H1 R := fun H6 i v R s6 e r => ⟨st, _, _, _, rfl, rfl, .of (s6 _ _ h1), atI_last _ _, pa, _, _, _, rfl, rfl, .of (s6 _ _ ha1), atI_nat e, r⟩
          refine ixa H5 0 _ _ (Same.refl _) rfl ⟨rfl, ?_⟩
          by_cases hn : fw a.fm = Str.ofString "not"
          · rw [if_neg (by simp [hn])]
            refine ixa H5 1 _ _ (Same.refl _) rfl ⟨small_line (by decide), fun p hp => ?_⟩
            have s6 := Same.upd_new hp (HO.lst [])
            refine ⟨a.l, p, xs, rfl, rfl, .of (s6 _ _ ha2), .of upd_same, _, rfl, ?_⟩
            generalize upd H5 p (HO.lst []) = H6 at *
            cases xs.isEmpty with
            | true =>
              rw [if_pos rfl]
              exact ixa H6 1 _ _ s6 rfl (add H6 s6)
            | false =>
              rw [if_neg (by decide)]
              exact ⟨_, I.mono s6⟩
          · rw [if_pos (by simp [hn])]
            exact ixa H5 1 _ _ (Same.refl _) rfl (add H5 (Same.refl _))
        · rw [if_neg (by simpa using hm)]
          exact ⟨_, I⟩
      have c2 : C2 := by
        rw [← hC2]
        refine ⟨by decide, ?_⟩
        by_cases h8 : sd % 8 = 1
        · rw [if_pos (decide_eq_true h8)]
          obtain ⟨ps, h1, hP, nd⟩ := id I.stk
          have hpl := paired_len hP
          refine ⟨ps, .inl (.of h1), ?_⟩
          rw [hpl]
          by_cases hl : 1 < rs.length
          · rw [if_pos (decide_eq_true (by omega))]
            exact GI.close hst0 I hl fun H' rs' I' _ => ⟨_, I'⟩
          · rw [if_neg (by simp; omega)]
            exact c3
        · rw [if_neg (by simpa using h8)]
          exact c3
      refine ⟨by decide, ?_⟩
      by_cases h4 : sd % 4 = 0
      · rw [if_pos (decide_eq_true h4)]
        obtain ⟨ps, h1, hP, nd⟩ := id I.stk
        have hpl := paired_len hP
        refine ⟨ps, .inl (.of h1), ?_⟩
        rw [hpl]
        by_cases hl : rs.length < 11
        · rw [if_pos (decide_eq_true (by omega))]
          by_cases hm : m < 57
          · rw [if_pos (decide_eq_true hm)]
            refine ⟨.inl ⟨rfl, _, .of h1⟩, small_line (by decide), fun p hp => ⟨⟨by decide, by decide⟩, by decide, ?_⟩⟩
            have s6 := Same.upd_new hp (HO.lst [V.str (Str.ofString "not"), V.str (Str.ofString "all"), V.str (Str.ofString "some")])
            have g6 : upd H5 p (HO.lst [V.str (Str.ofString "not"), V.str (Str.ofString "all"), V.str (Str.ofString "some")]) p = some (.lst [V.str (Str.ofString "not"), V.str (Str.ofString "all"), V.str (Str.ofString "some")]) := upd_same
            generalize upd H5 p (HO.lst [V.str (Str.ofString "not"), V.str (Str.ofString "all"), V.str (Str.ofString "some")]) = H6 at *
            refine ixL_of (.of g6) (Int.emod_nonneg _ (by decide)) (Int.emod_lt_of_pos _ (by decide)) fun x hx => ⟨small_line (by decide), fun l hl2 => ⟨small_line (by decide), fun pt hpt => ?_⟩⟩
            obtain ⟨fm, rfl⟩ : ∃ fm, x = .str (fw fm) := by
              rcases (by omega : sd / 4 % 3 = 0 ∨ sd / 4 % 3 = 1 ∨ sd / 4 % 3 = 2) with h | h | h <;> rw [h] at hx
              · exact ⟨none, (Option.some.inj hx).symm⟩
              · exact ⟨some false, (Option.some.inj hx).symm⟩
              · exact ⟨some true, (Option.some.inj hx).symm⟩
            have s7 := s6.new hl2 (HO.lst [])
            have m7 : upd H6 l (HO.lst []) l = some (.lst []) := upd_same
            have nl : l ≠ st := fun z => by rw [z, s6 _ _ h1] at hl2; cases hl2
            have nl2 : ∀ r ∈ rs, r.l ≠ l := fun r hr z => by
              obtain ⟨x, q, xs, _, _, h3, _⟩ := Paired.right hP r hr
              rw [← z, s6 _ _ h3] at hl2
              cases hl2
            have hl0 := none_of (I.same.trans s6) hl2
            generalize upd H6 l (HO.lst []) = H7 at *
            have s8 := s7.new hpt (HO.tup [V.str (fw fm), V.ref l])
            have w8 := Same.upd_new hpt (HO.tup [V.str (fw fm), V.ref l])
            have m8 : upd H7 pt (HO.tup [V.str (fw fm), V.ref l]) pt = some (.tup [V.str (fw fm), V.ref l]) := upd_same
            generalize upd H7 pt (HO.tup [V.str (fw fm), V.ref l]) = H8 at *
            have T9 : TSame H8 (upd H8 st (HO.lst (ps ++ [V.ref pt]))) := TSame.upd_no (s8 _ _ h1) (fun _ z => nomatch z)
            have hpo := I.po
            have hfl := I.fine.len
            have ndl : ∀ r ∈ rs, r.l ≠ st := fun r hr z => (List.nodup_cons.mp nd).1 (by rw [← z]; exact List.mem_map_of_mem hr)
            refine ⟨st, _, _, rfl, rfl, s8 _ _ h1, small_line (by omega), rs ++ [⟨fm, l, []⟩], (I.same.trans s8).set hst0 _, ⟨ps ++ [V.ref pt], upd_same, paired_put (paired_map hP fun x r hr h => (h.keep s8.t fun ys e => s8 _ _ e).keep T9 fun ys e => by rw [upd_ne (ndl r hr)]; exact e) ⟨pt, [], rfl, T9 _ _ m8, by rw [upd_ne nl]; exact w8 _ _ m7, by simp only [Sxs]⟩, ?_⟩, fun r hr => ?_, I.fine.push I.ne hl, by simp, ?_, by omega⟩
            · rw [List.map_append, ← List.cons_append]
              refine List.nodup_append.mpr ⟨nd, by simp, fun x hx y hy => ?_⟩
              rw [List.map_cons, List.map_nil] at hy
              rw [List.mem_singleton.mp hy]
              rcases List.mem_cons.mp hx with rfl | hx
              · exact Ne.symm nl
              · obtain ⟨r, hr, rfl⟩ := List.mem_map.mp hx
                exact nl2 r hr
            · rcases List.mem_append.mp hr with hr | hr
              · exact I.new r hr
              · rw [List.mem_singleton.mp hr]; exact hl0
            · simp only [pots_app, pots, pot, cnts]
              split <;> omega
          · rw [if_neg (by simpa using hm)]
            exact c2
        · rw [if_neg (by simp; omega)]
          exact c2
      · rw [if_neg (by simpa using h4)]
        exact c2
    · rintro σ H5 ⟨v4, v5, m, rs, rfl, I⟩
      ((try dsimp only [cxOf, L2.Cx.inTry, L2.Cx.inHand]); simp only [iItems, rStarts3, rAdd, tNever, tCIn, tCGet, L2.start, tSeq, tNext, tIfS, tRet, tRetN, tAsg, tDrop, gName, tVar, tC, tOp, tUn, tCall, tCB, tCons, tNil, tTest, tB, tNot, tAnd, tOr, tAndV, tOrV, tNotV, tIf, tChain, tLst, tTup, tBM, tBM0, rI, rI0, rU, rEq, rNe, scal, tComp, iStr, iList, iTup, iRng1, iRng2, tYes, rIsP, rAll, rLenS, rLenV, rListOf, rTupleOf, tDisp, tPairs, tSl, tPart, tNoPart, rSlS, rSlL, rFind, rStarts, rIntT, rStrA, rRepS, tCallX, tRaise, tRaiseI, tTry, tAs, offE, tXF, sXset, tMethX, tMakeX, rIsX, tFld, sFld, tMeth, rSortD, rDPop, tDNewK, tDIn, tDNotIn, tDGet, sDPut, rIndexS, tStop, gSub, 
  List.map_cons, List.map_nil, List.cons_append, List.nil_append, List.length_cons, List.length_nil, List.getElem?_cons_zero, List.getElem?_cons_succ, Option.some.injEq, exists_eq_left', exists_eq_left, List.set_cons_zero, List.set_cons_succ, List.cons.injEq, and_true, true_and, V.int.injEq, V.str.injEq, V.bl.injEq, V.ref.injEq, V.ty.injEq, exists_and_left, exists_and_right, List.append_nil, reduceCtorEq, false_and, and_false, exists_false, or_false, false_or, decide_true, decide_false, Bool.not_true, Bool.not_false, if_true, if_false, Bool.false_eq_true, ite_true, ite_false, and_assoc, Nat.reduceAdd, Nat.reduceSub, List.replicate_succ, List.replicate_zero, Nat.zero_add, Nat.add_zero, Nat.sub_self])
      refine while_in (fun mm σ H' => ∃ rs : List Fr, mm = rs.length ∧ σ = [some (V.ref lc), some (V.ref d), some (V.ref st), some (V.int m), v4, v5] ∧ GI ns kds H st H' rs m) ⟨_, rs, rfl, rfl, I⟩ ?_
      clear I rs
      rintro mm σ H6 ⟨rs, rfl, rfl, I⟩
      obtain ⟨ps, h1, hP, nd⟩ := id I.stk
      have hpl := paired_len hP
      ((try dsimp only [cxOf, L2.Cx.inTry, L2.Cx.inHand]); simp only [iItems, rStarts3, rAdd, tNever, tCIn, tCGet, L2.start, tSeq, tNext, tIfS, tRet, tRetN, tAsg, tDrop, gName, tVar, tC, tOp, tUn, tCall, tCB, tCons, tNil, tTest, tB, tNot, tAnd, tOr, tAndV, tOrV, tNotV, tIf, tChain, tLst, tTup, tBM, tBM0, rI, rI0, rU, rEq, rNe, scal, tComp, iStr, iList, iTup, iRng1, iRng2, tYes, rIsP, rAll, rLenS, rLenV, rListOf, rTupleOf, tDisp, tPairs, tSl, tPart, tNoPart, rSlS, rSlL, rFind, rStarts, rIntT, rStrA, rRepS, tCallX, tRaise, tRaiseI, tTry, tAs, offE, tXF, sXset, tMethX, tMakeX, rIsX, tFld, sFld, tMeth, rSortD, rDPop, tDNewK, tDIn, tDNotIn, tDGet, sDPut, rIndexS, tStop, gSub, 
  List.map_cons, List.map_nil, List.cons_append, List.nil_append, List.length_cons, List.length_nil, List.getElem?_cons_zero, List.getElem?_cons_succ, Option.some.injEq, exists_eq_left', exists_eq_left, List.set_cons_zero, List.set_cons_succ, List.cons.injEq, and_true, true_and, V.int.injEq, V.str.injEq, V.bl.injEq, V.ref.injEq, V.ty.injEq, exists_and_left, exists_and_right, List.append_nil, reduceCtorEq, false_and, and_false, exists_false, or_false, false_or, decide_true, decide_false, Bool.not_true, Bool.not_false, if_true, if_false, Bool.false_eq_true, ite_true, ite_false, and_assoc, Nat.reduceAdd, Nat.reduceSub, List.replicate_succ, List.replicate_zero, Nat.zero_add, Nat.add_zero, Nat.sub_self])
      refine ⟨ps, .inl (.of h1), ?_⟩
      rw [hpl]
      by_cases hl : 1 < rs.length
      · rw [if_pos (decide_eq_true (by omega))]
        refine WGo.of ?_
        ((try dsimp only [cxOf, L2.Cx.inTry, L2.Cx.inHand]); simp only [iItems, rStarts3, rAdd, tNever, tCIn, tCGet, L2.start, tSeq, tNext, tIfS, tRet, tRetN, tAsg, tDrop, gName, tVar, tC, tOp, tUn, tCall, tCB, tCons, tNil, tTest, tB, tNot, tAnd, tOr, tAndV, tOrV, tNotV, tIf, tChain, tLst, tTup, tBM, tBM0, rI, rI0, rU, rEq, rNe, scal, tComp, iStr, iList, iTup, iRng1, iRng2, tYes, rIsP, rAll, rLenS, rLenV, rListOf, rTupleOf, tDisp, tPairs, tSl, tPart, tNoPart, rSlS, rSlL, rFind, rStarts, rIntT, rStrA, rRepS, tCallX, tRaise, tRaiseI, tTry, tAs, offE, tXF, sXset, tMethX, tMakeX, rIsX, tFld, sFld, tMeth, rSortD, rDPop, tDNewK, tDIn, tDNotIn, tDGet, sDPut, rIndexS, tStop, gSub, 
  List.map_cons, List.map_nil, List.cons_append, List.nil_append, List.length_cons, List.length_nil, List.getElem?_cons_zero, List.getElem?_cons_succ, Option.some.injEq, exists_eq_left', exists_eq_left, List.set_cons_zero, List.set_cons_succ, List.cons.injEq, and_true, true_and, V.int.injEq, V.str.injEq, V.bl.injEq, V.ref.injEq, V.ty.injEq, exists_and_left, exists_and_right, List.append_nil, reduceCtorEq, false_and, and_false, exists_false, or_false, false_or, decide_true, decide_false, Bool.not_true, Bool.not_false, if_true, if_false, Bool.false_eq_true, ite_true, ite_false, and_assoc, Nat.reduceAdd, Nat.reduceSub, List.replicate_succ, List.replicate_zero, Nat.zero_add, Nat.add_zero, Nat.sub_self])
        exact GI.close hst0 I hl fun H' rs' I' hlen => ⟨rs'.length, hlen, rs', rfl, I'⟩
      · rw [if_neg (by simp; omega)]
        obtain ⟨r, rfl⟩ : ∃ r, rs = [r] := by
          have := I.ne
          match rs, hl, this with
          | [r], _, _ => exact ⟨r, rfl⟩
          | r :: r2 :: t, hl, _ => simp at hl
        cases hP with
        | cons hr t =>
          cases t
          obtain ⟨p, xs, rfl, i1, i2, i3⟩ := hr
          have hroot := I.fine.root r rfl
          obtain ⟨ov, hov⟩ : ∃ ov, r.fm = some ov := by
            cases h : r.fm with
            | none => exact absurd h hroot
            | some ov => exact ⟨ov, rfl⟩
          have hpo := I.po
          have hm58 := I.m58
          simp only [pots, pot] at hpo
          rw [hov] at i1
          refine ⟨st, _, _, _, rfl, rfl, .of h1, atI_nat (j := 0) rfl, p, _, _, _, rfl, rfl, .of i1, atI_nat (j := 0) rfl, st, _, _, _, rfl, rfl, .of h1, atI_nat (j := 0) rfl, p, _, _, _, rfl, rfl, .of i1, atI_nat (j := 1) rfl, r.l, rfl, xs, .inl ⟨.of i2, fun q hq => ⟨small_line (by decide), fun p2 hp2 => k _ _ (.many ov r.ss) ((I.same.new hq _).new hp2 _) ?_ ?_ ?_ ?_⟩⟩⟩
          · simp only [Sx]
            exact ⟨p2, q, xs, rfl, upd_same, Same.upd_new hp2 _ _ _ upd_same, (i3.mono (Same.upd_new hq _).t).mono (Same.upd_new hp2 _).t⟩
          · simp only [Good]
            exact I.fine.good r (by simp)
          · simp only [lev]
            have := levs_le (I.fine.lv 0 r rfl)
            omega
          · simp only [cnt]
            omega
theorem nam_valid {n : Str} (h : Nam n) : Valid n := fun c hc => ltr_lt c (h.2.2 c hc)
theorem vD_ok {K : PySem.W.Frag} {H : Hp} {kd : Str} {x : V} (h : KdV kd x) : Rep K H (vD x) x ∧ PyData.canLay0 (vD x) = true ∧ PyData.depth (vD x) = 0 ∧ PyData.eqv (vD x) (vD x) = true := by
  rcases h with ⟨_, z, rfl, hz⟩ | ⟨_, i, rfl, _⟩
  · exact ⟨by simp [vD, Rep], by simp [vD, PyData.canLay0, strOk_of (show Valid z from fun c hc => wd_lt c (hz.2.2 c hc))], by simp [vD, PyData.depth], by simp [vD, PyData.eqv]⟩
  · exact ⟨by simp [vD, Rep], by simp [vD, PyData.canLay0], by simp [vD, PyData.depth], by simp [vD, PyData.eqv]⟩
theorem bw_ok (o : Bool) : PyData.strOk (bw o) = true := by cases o <;> decide +kernel
theorem mw_ok (o : Bool) : PyData.strOk (mw o) = true := by cases o <;> decide +kernel
mutual
theorem dat_ok {K : PySem.W.Frag} {H : Hp} {ns kds : List Str} : ∀ {s : Sv} {v : V}, Sx H s v → Good ns kds s → Rep K H (dat s) v ∧ PyData.canLay0 (dat s) = true ∧ PyData.depth (dat s) ≤ 2 * lev s ∧ PyData.eqv (dat s) (dat s) = true
  | .lacks n, v, h, g => by
    simp only [Sx] at h
    simp only [Good] at g
    obtain ⟨p, rfl, hp⟩ := h
    have hn := strOk_of (nam_valid g.1)
    refine ⟨by simp only [dat, Rep]; exact ⟨p, _, rfl, .of hp, by simp [Reps, Rep]⟩, by simp [dat, PyData.canLay0, PyData.canLayAll0, hn, show PyData.strOk "lacks" = true by decide +kernel], by simp [dat, PyData.depth, PyData.depthAll, lev], by simp [dat, PyData.eqv, PyData.eqvAll]⟩
  | .is n x, v, h, g => by
    simp only [Sx] at h
    simp only [Good] at g
    obtain ⟨p, rfl, hp⟩ := h
    obtain ⟨gn, j, kd, _, _, hx⟩ := g
    have hn := strOk_of (nam_valid gn)
    obtain ⟨r1, r2, r3, r4⟩ := vD_ok (K := K) (H := H) hx
    refine ⟨by simp only [dat, Rep, Reps]; exact ⟨p, _, rfl, .of hp, _, _, rfl, rfl, _, _, rfl, rfl, _, _, rfl, r1, rfl⟩, by simp [dat, PyData.canLay0, PyData.canLayAll0, hn, r2, show PyData.strOk "is" = true by decide +kernel], by simp [dat, PyData.depth, PyData.depthAll, lev, r3], by simp [dat, PyData.eqv, PyData.eqvAll, r4]⟩
  | .bnd o n i, v, h, g => by
    simp only [Sx] at h
    simp only [Good] at g
    obtain ⟨p, rfl, hp⟩ := h
    have hn := strOk_of (nam_valid g.1)
    refine ⟨by simp only [dat, Rep]; exact ⟨p, _, rfl, .of hp, by simp [Reps, Rep]⟩, by simp [dat, PyData.canLay0, PyData.canLayAll0, hn, bw_ok], by simp [dat, PyData.depth, PyData.depthAll, lev], by simp [dat, PyData.eqv, PyData.eqvAll]⟩
  | .neg s, v, h, g => by
    simp only [Sx] at h
    simp only [Good] at g
    obtain ⟨p, x, rfl, hp, hs⟩ := h
    obtain ⟨r1, r2, r3, r4⟩ := dat_ok (K := K) hs g
    refine ⟨by simp only [dat, Rep, Reps]; exact ⟨p, _, rfl, .of hp, _, _, rfl, rfl, _, _, rfl, r1, rfl⟩, by simp [dat, PyData.canLay0, PyData.canLayAll0, r2, show PyData.strOk "not" = true by decide +kernel], ?_, by simp [dat, PyData.eqv, PyData.eqvAll, r4]⟩
    simp only [dat, PyData.depth, PyData.depthAll, lev]
    omega
  | .many o ss, v, h, g => by
    simp only [Sx] at h
    simp only [Good] at g
    obtain ⟨p, q, xs, rfl, hp, hq, hs⟩ := h
    obtain ⟨r1, r2, r3, r4⟩ := dats_ok (K := K) hs g
    refine ⟨?_, by simp [dat, PyData.canLay0, PyData.canLayAll0, r2, mw_ok], ?_, by simp [dat, PyData.eqv, PyData.eqvAll, r4]⟩
    · simp only [dat, Rep, Reps]
      exact ⟨p, _, rfl, .of hp, _, _, rfl, rfl, _, _, rfl, ⟨q, xs, rfl, .of hq, r1⟩, rfl⟩
    · simp only [dat, PyData.depth, PyData.depthAll, lev]
      omega
theorem dats_ok {K : PySem.W.Frag} {H : Hp} {ns kds : List Str} : ∀ {ss : List Sv} {xs : List V}, Sxs H ss xs → Goods ns kds ss → Reps K H (dats ss) xs ∧ PyData.canLayAll0 (dats ss) = true ∧ PyData.depthAll (dats ss) ≤ 2 * levs ss ∧ PyData.eqvAll (dats ss) (dats ss) = true
  | [], xs, h, _ => by
    simp only [Sxs] at h
    subst h
    exact ⟨by simp [dats, Reps], by simp [dats, PyData.canLayAll0], by simp [dats, PyData.depthAll], by simp [dats, PyData.eqvAll]⟩
  | s :: ss, xs, h, g => by
    simp only [Sxs] at h
    simp only [Goods] at g
    obtain ⟨x, r, rfl, h1, h2⟩ := h
    obtain ⟨a1, a2, a3, a4⟩ := dat_ok (K := K) h1 g.1
    obtain ⟨b1, b2, b3, b4⟩ := dats_ok (K := K) h2 g.2
    refine ⟨by simp only [dats, Reps]; exact ⟨x, r, rfl, a1, b1⟩, by simp [dats, PyData.canLayAll0, a2, b2], ?_, by simp [dats, PyData.eqvAll, a4, b4]⟩
    simp only [dats, PyData.depthAll, levs]
    omega
end
theorem neS_of {K : PySem.W.Frag} {H : Hp} {ns kds : List Str} {s : Sv} {v v' : V} {Q : VK} (h : Sx H s v) (h' : Sx H s v') (g : Good ns kds s) (hl : lev s ≤ 12) (q : Q (.bl false) H) : rEqD K true v v' H Q := by
  obtain ⟨r1, r2, r3, r4⟩ := dat_ok (K := K) h g
  obtain ⟨r1', _, _, _⟩ := dat_ok (K := K) h' g
  have sh : SeqAt.shaped (dat s) = true := by
    unfold SeqAt.shaped
    rw [r2, Bool.true_and]
    exact decide_eq_true (by omega)
  refine ⟨_, _, r1, r1', sh, sh, ?_⟩
  rw [r4]
  exact q
theorem flds_data {K : PySem.W.Frag} {H : Hp} : ∀ (xs : List V), (∀ x ∈ xs, ∃ p n kd, x = .ref p ∧ H p = some (.tup [.str n, .str kd]) ∧ Valid n ∧ Valid kd) → ∃ ds, Reps K H ds xs ∧ PyData.canLayAll0 ds = true ∧ PyData.depthAll ds ≤ 1 ∧ PyData.eqvAll ds ds = true
  | [], _ => ⟨[], by simp [Reps], by simp [PyData.canLayAll0], by simp [PyData.depthAll], by simp [PyData.eqvAll]⟩
  | x :: xs, h => by
    obtain ⟨ds, h1, h2, h3, h4⟩ := flds_data (K := K) (H := H) xs (fun u hu => h u (List.mem_cons_of_mem _ hu))
    obtain ⟨p, n, kd, rfl, hp, vn, vk⟩ := h x List.mem_cons_self
    refine ⟨.tuple [.str n, .str kd] :: ds, ?_, ?_, ?_, ?_⟩
    · simp only [Reps]
      exact ⟨_, _, rfl, by simp only [Rep]; exact ⟨p, _, rfl, .of hp, by simp [Reps, Rep]⟩, h1⟩
    · simp [PyData.canLayAll0, PyData.canLay0, h2, strOk_of vn, strOk_of vk]
    · simp only [PyData.depthAll, PyData.depth]
      exact Nat.max_le.mpr ⟨by decide, h3⟩
    · simp [PyData.eqvAll, PyData.eqv, h4]
theorem eqF_of {K : PySem.W.Frag} {H : Hp} {a b : Addr} {xs : List V} {neg : Bool} {Q : VK} (h1 : H a = some (.lst xs)) (h2 : H b = some (.lst xs)) (hx : ∀ x ∈ xs, ∃ p n kd, x = .ref p ∧ H p = some (.tup [.str n, .str kd]) ∧ Valid n ∧ Valid kd) (q : Q (.bl (!neg)) H) : rEqD K neg (.ref a) (.ref b) H Q := by
  obtain ⟨ds, r1, r2, r3, r4⟩ := flds_data (K := K) (H := H) xs hx
  have sh : SeqAt.shaped (.list ds) = true := by
    unfold SeqAt.shaped
    simp only [PyData.canLay0, PyData.depth, r2, Bool.true_and]
    exact decide_eq_true (by omega)
  refine ⟨.list ds, .list ds, ?_, ?_, sh, sh, ?_⟩
  · simp only [Rep]; exact ⟨a, xs, rfl, .of h1, r1⟩
  · simp only [Rep]; exact ⟨b, xs, rfl, .of h2, r1⟩
  · have e : PyData.eqv (.list ds) (.list ds) = true := by simp only [PyData.eqv]; exact r4
    rw [e]
    cases neg <;> exact q
noncomputable def SvOk (ns kds : List Str) (H : Hp) (x : V) : Prop := ∃ s, Sx H s x ∧ Good ns kds s ∧ lev s ≤ 12 ∧ cnt s ≤ 60
theorem SvOk.mono {ns kds : List Str} {H H' : Hp} {x : V} (t : TSame H H') (h : SvOk ns kds H x) : SvOk ns kds H' x := by
  obtain ⟨s, h1, h2⟩ := h
  exact ⟨s, h1.mono t, h2⟩
noncomputable def sp_law (K : PySem.W.Frag) : Sp := fun vs H Q _ => ∃ (a : Addr) (ns : List Int), vs = [.ref a] ∧ SqL K H a (ns.map V.int) ∧ ns.length ≤ 63 ∧ ∀ H', Q (.bl true) H'
theorem ok_law (T : Txt w K mg f fd) : FnOk P w K mg base CX0 33 (f 45) (fd 45) ["_law_script"] (sp_law K) := by
  refine T.d_law.F.ok sc_law (fun vs H Q E h => ?_) (fun cdv A outer s H vs Q E hr h => ?_)
  · obtain ⟨a, ns, rfl, _⟩ := h
    rfl
  · obtain ⟨a, ns0, rfl, ha, hl, k⟩ := h
    refine ⟨_, (pss_cons (psl 1 sc_law.nd (pe_defL T.d_l_world (ok_l_world T) (hr.mono (by decide)) rfl (by decide) rfl (pal rfl (pvl 0) pa_nil)))
     (pss_cons (psl 2 sc_law.nd (pe_cTy (k_list rfl) T.n_list bt_list rfl (by decide) (by decide) rfl (pal rfl (pe_dget (hu_of hr) (pvl 1) pe_str (fun _ _ => rfl)) pa_nil)))
     (pss_cons (psl 3 sc_law.nd (pe_lst (pal rfl (pe_defL T.d_l_grown (ok_l_grown T) (hr.mono (by decide)) rfl (by decide) rfl (pal rfl (pe_op op_cat (pe_lst (pal rfl (pe_defL T.d_l_cell_at (ok_l_cell_at T) (hr.mono (by decide)) rfl (by decide) rfl (pal rfl (pvl 0) (pal rfl pe_int pa_nil))) pa_nil)) (pe_slice (k_slL rfl) (pvl 0) (po_some pe_int) (po_some pe_int))) (pal rfl (pvl 1) pa_nil))) (pal rfl (pe_tup (pal rfl pe_str (pal rfl (pe_tup pa_nil) pa_nil))) (pal rfl (pe_tup (pal rfl pe_str (pal rfl (pe_tup pa_nil) pa_nil))) pa_nil)))))
     (pss_cons (ps_for PassesOwn.never rfl (pi_range1 rfl T.n_range (pal rfl pe_int pa_nil)) (pgl 4 sc_law.nd)
     (pss_one (ps_expr (k_bmL rfl PySem.F.plainAttrs_list PySem.F.slot_list_append PySem.F.type_list_append mt_append rfl rfl rfl rfl (pvl 3) (pal rfl (pe_defL T.d_l_plain (ok_l_plain T) (hr.mono (by decide)) rfl (by decide) rfl (pal rfl (pe_op op_add (pe_op op_mul (pe_op op_fdiv (pe_defL T.d_l_mix (ok_l_mix T) (hr.mono (by decide)) rfl (by decide) rfl (pal rfl (pe_defL T.d_l_cell_at (ok_l_cell_at T) (hr.mono (by decide)) rfl (by decide) rfl (pal rfl (pvl 0) (pal rfl pe_int pa_nil))) (pal rfl (pe_op op_add pe_int (pvl 4)) pa_nil))) pe_int) pe_int) (pe_op op_mul pe_int (pvl 4))) (pal rfl (pvl 1) pa_nil))) pa_nil)))))
     (pss_cons (ps_for PassesOwn.never rfl (k_piL rfl (pvl 3)) (pgl 5 sc_law.nd)
     (pss_cons (psl 6 sc_law.nd (pe_defL T.d_l_text (ok_l_text T 12) (hr.mono (by decide)) rfl (by decide) rfl (pal rfl (pvl 5) pa_nil)))
     (pss_cons (psl 7 sc_law.nd (pe_defL T.d_shown_sieve (ok_shown_sieve T 12) (hr.mono (by decide)) rfl (by decide) rfl (pal rfl (pvl 5) pa_nil)))
     (pss_cons (ps_if (PW.pt (pw_or (pt_not (pt_val (pe_cB (k_isP rfl) T.n_isinstance bt_isinstance rfl (by decide) (by decide) rfl (pal rfl (pvl 7) (pal rfl (pty T.n_str bt_str) pa_nil))))) (pw_or1 (pt_cmpR op_ne (pvl 7) (pvl 6) (nomark _)))))
     (pss_one (ps_ret pe_bl))
     pss_nil)
     (pss_one (ps_if (PW.pt (pw_or (pt_cmpR (k_neD rfl hr.units) (pe_defL T.d_read_sieve (ok_read_sieve T) (hr.mono (by decide)) rfl (by decide) rfl (pal rfl (pvl 2) (pal rfl (pvl 6) pa_nil))) (pvl 5) (nomark _)) (pw_or1 (pt_cmpR (k_neD rfl hr.units) (pvl 2) (pe_dget (hu_of hr) (pvl 1) pe_str (fun _ _ => rfl)) (nomark _)))))
     (pss_one (ps_ret pe_bl))
     pss_nil))))))
     (pss_one (ps_ret pe_bl))))))), ?_⟩
    generalize hB : tSeq (tFor _ _ _) _ = B
    ((try dsimp only [cxOf, L2.Cx.inTry, L2.Cx.inHand]); simp only [iItems, rStarts3, rAdd, tNever, tCIn, tCGet, L2.start, tSeq, tNext, tIfS, tRet, tRetN, tAsg, tDrop, gName, tVar, tC, tOp, tUn, tCall, tCB, tCons, tNil, tTest, tB, tNot, tAnd, tOr, tAndV, tOrV, tNotV, tIf, tChain, tLst, tTup, tBM, tBM0, rI, rI0, rU, rEq, rNe, scal, tComp, iStr, iList, iTup, iRng1, iRng2, tYes, rIsP, rAll, rLenS, rLenV, rListOf, rTupleOf, tDisp, tPairs, tSl, tPart, tNoPart, rSlS, rSlL, rFind, rStarts, rIntT, rStrA, rRepS, tCallX, tRaise, tRaiseI, tTry, tAs, offE, tXF, sXset, tMethX, tMakeX, rIsX, tFld, sFld, tMeth, rSortD, rDPop, tDNewK, tDIn, tDNotIn, tDGet, sDPut, rIndexS, tStop, gSub, 
  List.map_cons, List.map_nil, List.cons_append, List.nil_append, List.length_cons, List.length_nil, List.getElem?_cons_zero, List.getElem?_cons_succ, Option.some.injEq, exists_eq_left', exists_eq_left, List.set_cons_zero, List.set_cons_succ, List.cons.injEq, and_true, true_and, V.int.injEq, V.str.injEq, V.bl.injEq, V.ref.injEq, V.ty.injEq, exists_and_left, exists_and_right, List.append_nil, reduceCtorEq, false_and, and_false, exists_false, or_false, false_or, decide_true, decide_false, Bool.not_true, Bool.not_false, if_true, if_false, Bool.false_eq_true, ite_true, ite_false, and_assoc, Nat.reduceAdd, Nat.reduceSub, List.replicate_succ, List.replicate_zero, Nat.zero_add, Nat.add_zero, Nat.sub_self])
    refine ⟨a, ns0, rfl, ha, fun H1 d ns kds s1 hW => ?_⟩
    obtain ⟨kvs, l, w', b, xs, ws, h1, h2, h3, h4, h5, h6, h7, h8, h9, h10, h11, h12, h13, h14⟩ := id hW
    ((try dsimp only [cxOf, L2.Cx.inTry, L2.Cx.inHand]); simp only [iItems, rStarts3, rAdd, tNever, tCIn, tCGet, L2.start, tSeq, tNext, tIfS, tRet, tRetN, tAsg, tDrop, gName, tVar, tC, tOp, tUn, tCall, tCB, tCons, tNil, tTest, tB, tNot, tAnd, tOr, tAndV, tOrV, tNotV, tIf, tChain, tLst, tTup, tBM, tBM0, rI, rI0, rU, rEq, rNe, scal, tComp, iStr, iList, iTup, iRng1, iRng2, tYes, rIsP, rAll, rLenS, rLenV, rListOf, rTupleOf, tDisp, tPairs, tSl, tPart, tNoPart, rSlS, rSlL, rFind, rStarts, rIntT, rStrA, rRepS, tCallX, tRaise, tRaiseI, tTry, tAs, offE, tXF, sXset, tMethX, tMakeX, rIsX, tFld, sFld, tMeth, rSortD, rDPop, tDNewK, tDIn, tDNotIn, tDGet, sDPut, rIndexS, tStop, gSub, 
  List.map_cons, List.map_nil, List.cons_append, List.nil_append, List.length_cons, List.length_nil, List.getElem?_cons_zero, List.getElem?_cons_succ, Option.some.injEq, exists_eq_left', exists_eq_left, List.set_cons_zero, List.set_cons_succ, List.cons.injEq, and_true, true_and, V.int.injEq, V.str.injEq, V.bl.injEq, V.ref.injEq, V.ty.injEq, exists_and_left, exists_and_right, List.append_nil, reduceCtorEq, false_and, and_false, exists_false, or_false, false_or, decide_true, decide_false, Bool.not_true, Bool.not_false, if_true, if_false, Bool.false_eq_true, ite_true, ite_false, and_assoc, Nat.reduceAdd, Nat.reduceSub, List.replicate_succ, List.replicate_zero, Nat.zero_add, Nat.add_zero, Nat.sub_self])
    refine ⟨_, wget h1 h2, ?_⟩
    ((try dsimp only [cxOf, L2.Cx.inTry, L2.Cx.inHand]); simp only [iItems, rStarts3, rAdd, tNever, tCIn, tCGet, L2.start, tSeq, tNext, tIfS, tRet, tRetN, tAsg, tDrop, gName, tVar, tC, tOp, tUn, tCall, tCB, tCons, tNil, tTest, tB, tNot, tAnd, tOr, tAndV, tOrV, tNotV, tIf, tChain, tLst, tTup, tBM, tBM0, rI, rI0, rU, rEq, rNe, scal, tComp, iStr, iList, iTup, iRng1, iRng2, tYes, rIsP, rAll, rLenS, rLenV, rListOf, rTupleOf, tDisp, tPairs, tSl, tPart, tNoPart, rSlS, rSlL, rFind, rStarts, rIntT, rStrA, rRepS, tCallX, tRaise, tRaiseI, tTry, tAs, offE, tXF, sXset, tMethX, tMakeX, rIsX, tFld, sFld, tMeth, rSortD, rDPop, tDNewK, tDIn, tDNotIn, tDGet, sDPut, rIndexS, tStop, gSub, 
  List.map_cons, List.map_nil, List.cons_append, List.nil_append, List.length_cons, List.length_nil, List.getElem?_cons_zero, List.getElem?_cons_succ, Option.some.injEq, exists_eq_left', exists_eq_left, List.set_cons_zero, List.set_cons_succ, List.cons.injEq, and_true, true_and, V.int.injEq, V.str.injEq, V.bl.injEq, V.ref.injEq, V.ty.injEq, exists_and_left, exists_and_right, List.append_nil, reduceCtorEq, false_and, and_false, exists_false, or_false, false_or, decide_true, decide_false, Bool.not_true, Bool.not_false, if_true, if_false, Bool.false_eq_true, ite_true, ite_false, and_assoc, Nat.reduceAdd, Nat.reduceSub, List.replicate_succ, List.replicate_zero, Nat.zero_add, Nat.add_zero, Nat.sub_self])
    refine ⟨xs, .inl (.of h5), fun lf hlf => ?_⟩
    have s2 := Same.upd_new hlf (HO.lst xs)
    have gf : upd H1 lf (HO.lst xs) lf = some (.lst xs) := upd_same
    generalize upd H1 lf (HO.lst xs) = H2 at *
    refine ⟨a, ns0, _, rfl, (s1.trans s2).seq ha, by decide, fun c1 => ⟨small_line (by decide), fun q1 hq1 => ?_⟩⟩
    have s3 := s2.new hq1 (HO.lst [V.int c1])
    have w3 := Same.upd_new hq1 (HO.lst [V.int c1])
    have m1 : upd H2 q1 (HO.lst [V.int c1]) q1 = some (.lst [V.int c1]) := upd_same
    generalize upd H2 q1 (HO.lst [V.int c1]) = H3 at *
    refine ⟨_, (s1.trans s3).seq ha, fun q2 hq2 => ?_⟩
    obtain ⟨cs, ecs, lcs⟩ : ∃ cs : List Int, cutV (ns0.map V.int) (some 2) (some 58) = cs.map V.int ∧ cs.length ≤ 63 := by
      unfold cutV
      refine ⟨_, by rw [← List.map_drop, ← List.map_take], ?_⟩
      rw [List.length_take, List.length_drop]
      omega
    rw [ecs]
    have s4 := s3.new hq2 (HO.lst (cs.map V.int))
    have w4 := Same.upd_new hq2 (HO.lst (cs.map V.int))
    have m2 : upd H3 q2 (HO.lst (cs.map V.int)) q2 = some (.lst (cs.map V.int)) := upd_same
    generalize upd H3 q2 (HO.lst (cs.map V.int)) = H4 at *
    refine ⟨q1, q2, _, _, rfl, rfl, w4 _ _ m1, m2, small_line (by simp; omega), fun q3 hq3 => ?_⟩
    have e3 : [V.int c1] ++ cs.map V.int = (c1 :: cs).map V.int := rfl
    rw [e3]
    have s5 := s4.new hq3 (HO.lst ((c1 :: cs).map V.int))
    have m3 : upd H4 q3 (HO.lst ((c1 :: cs).map V.int)) q3 = some (.lst ((c1 :: cs).map V.int)) := upd_same
    have w5 := (w3.trans w4).trans (Same.upd_new hq3 (HO.lst ((c1 :: cs).map V.int)))
    generalize upd H4 q3 (HO.lst ((c1 :: cs).map V.int)) = H5 at *
    refine ⟨q3, d, c1 :: cs, ns, kds, rfl, m3, by simp, by rw [List.length_cons]; omega, hW.mono s5, fun H6 v sv s6 hv hg hlv hct => ?_⟩
    have S6 := s5.trans s6
    have gf6 := s6 _ _ (w5 _ _ gf)
    have O1 : SvOk ns kds H6 v := ⟨sv, hv, hg, hlv, hct⟩
    clear w3 w4 w5 m1 m2 m3 hq1 hq2 hq3 hv s2 s3 s4 s5 s6 gf
    have mk : ∀ (H7 : Hp) (o : Bool) (q p : Addr), H7 q = some (.tup []) → H7 p = some (.tup [V.str (mw o), V.ref q]) → SvOk ns kds H7 (.ref p) := fun H7 o q p h1 h2 => ⟨.many o [], by simp only [Sx, Sxs]; exact ⟨p, q, [], rfl, h2, h1, rfl⟩, by simp only [Good, Goods], by simp [lev, levs], by simp [cnt, cnts]⟩
    refine ⟨small_line (by decide), fun q1 hq1 => ⟨small_line (by decide), fun p1 hp1 => ⟨small_line (by decide), fun q2 hq2 => ⟨small_line (by decide), fun p2 hp2 => ⟨small_line (by decide), fun lo hlo => ?_⟩⟩⟩⟩⟩
    have t1 := Same.upd_new hq1 (HO.tup [])
    have m1 : upd H6 q1 (HO.tup []) q1 = some (.tup []) := upd_same
    generalize upd H6 q1 (HO.tup []) = G1 at *
    have t2 := Same.upd_new hp1 (HO.tup [V.str (Str.ofString "all"), V.ref q1])
    have m2 : upd G1 p1 (HO.tup [V.str (Str.ofString "all"), V.ref q1]) p1 = some (.tup [V.str (mw false), V.ref q1]) := upd_same
    generalize upd G1 p1 (HO.tup [V.str (Str.ofString "all"), V.ref q1]) = G2 at *
    have t3 := Same.upd_new hq2 (HO.tup [])
    have m3 : upd G2 q2 (HO.tup []) q2 = some (.tup []) := upd_same
    generalize upd G2 q2 (HO.tup []) = G3 at *
    have t4 := Same.upd_new hp2 (HO.tup [V.str (Str.ofString "some"), V.ref q2])
    have m4 : upd G3 p2 (HO.tup [V.str (Str.ofString "some"), V.ref q2]) p2 = some (.tup [V.str (mw true), V.ref q2]) := upd_same
    generalize upd G3 p2 (HO.tup [V.str (Str.ofString "some"), V.ref q2]) = G4 at *
    have T4 := ((t1.trans t2).trans t3).trans t4
    have O1' := O1.mono T4.t
    have O2 := mk G4 false q1 p1 (t4 _ _ (t3 _ _ (t2 _ _ m1))) (t4 _ _ (t3 _ _ m2))
    have O3 := mk G4 true q2 p2 (t4 _ _ m3) m4
    have SG := S6.trans T4
    have gfG := T4 _ _ gf6
    clear t1 t2 t3 t4 m1 m2 m3 m4 hq1 hp1 hq2 hp2 T4 O1 gf6 S6
    subst hB
    ((try dsimp only [cxOf, L2.Cx.inTry, L2.Cx.inHand]); simp only [iItems, rStarts3, rAdd, tNever, tCIn, tCGet, L2.start, tSeq, tNext, tIfS, tRet, tRetN, tAsg, tDrop, gName, tVar, tC, tOp, tUn, tCall, tCB, tCons, tNil, tTest, tB, tNot, tAnd, tOr, tAndV, tOrV, tNotV, tIf, tChain, tLst, tTup, tBM, tBM0, rI, rI0, rU, rEq, rNe, scal, tComp, iStr, iList, iTup, iRng1, iRng2, tYes, rIsP, rAll, rLenS, rLenV, rListOf, rTupleOf, tDisp, tPairs, tSl, tPart, tNoPart, rSlS, rSlL, rFind, rStarts, rIntT, rStrA, rRepS, tCallX, tRaise, tRaiseI, tTry, tAs, offE, tXF, sXset, tMethX, tMakeX, rIsX, tFld, sFld, tMeth, rSortD, rDPop, tDNewK, tDIn, tDNotIn, tDGet, sDPut, rIndexS, tStop, gSub, 
  List.map_cons, List.map_nil, List.cons_append, List.nil_append, List.length_cons, List.length_nil, List.getElem?_cons_zero, List.getElem?_cons_succ, Option.some.injEq, exists_eq_left', exists_eq_left, List.set_cons_zero, List.set_cons_succ, List.cons.injEq, and_true, true_and, V.int.injEq, V.str.injEq, V.bl.injEq, V.ref.injEq, V.ty.injEq, exists_and_left, exists_and_right, List.append_nil, reduceCtorEq, false_and, and_false, exists_false, or_false, false_or, decide_true, decide_false, Bool.not_true, Bool.not_false, if_true, if_false, Bool.false_eq_true, ite_true, ite_false, and_assoc, Nat.reduceAdd, Nat.reduceSub, List.replicate_succ, List.replicate_zero, Nat.zero_add, Nat.add_zero, Nat.sub_self])
    refine for_in ?_
    ((try dsimp only [cxOf, L2.Cx.inTry, L2.Cx.inHand]); simp only [iItems, rStarts3, rAdd, tNever, tCIn, tCGet, L2.start, tSeq, tNext, tIfS, tRet, tRetN, tAsg, tDrop, gName, tVar, tC, tOp, tUn, tCall, tCB, tCons, tNil, tTest, tB, tNot, tAnd, tOr, tAndV, tOrV, tNotV, tIf, tChain, tLst, tTup, tBM, tBM0, rI, rI0, rU, rEq, rNe, scal, tComp, iStr, iList, iTup, iRng1, iRng2, tYes, rIsP, rAll, rLenS, rLenV, rListOf, rTupleOf, tDisp, tPairs, tSl, tPart, tNoPart, rSlS, rSlL, rFind, rStarts, rIntT, rStrA, rRepS, tCallX, tRaise, tRaiseI, tTry, tAs, offE, tXF, sXset, tMethX, tMakeX, rIsX, tFld, sFld, tMeth, rSortD, rDPop, tDNewK, tDIn, tDNotIn, tDGet, sDPut, rIndexS, tStop, gSub, 
  List.map_cons, List.map_nil, List.cons_append, List.nil_append, List.length_cons, List.length_nil, List.getElem?_cons_zero, List.getElem?_cons_succ, Option.some.injEq, exists_eq_left', exists_eq_left, List.set_cons_zero, List.set_cons_succ, List.cons.injEq, and_true, true_and, V.int.injEq, V.str.injEq, V.bl.injEq, V.ref.injEq, V.ty.injEq, exists_and_left, exists_and_right, List.append_nil, reduceCtorEq, false_and, and_false, exists_false, or_false, false_or, decide_true, decide_false, Bool.not_true, Bool.not_false, if_true, if_false, Bool.false_eq_true, ite_true, ite_false, and_assoc, Nat.reduceAdd, Nat.reduceSub, List.replicate_succ, List.replicate_zero, Nat.zero_add, Nat.add_zero, Nat.sub_self])
    refine ⟨by decide, by decide, ForW.of walk_range (fun j σ H' => ∃ (v4 v5 v6 v7 : Option V) (ys : List V), σ = [some (V.ref a), some (V.ref d), some (V.ref lf), some (V.ref lo), v4, v5, v6, v7] ∧ Same G4 H' ∧ H' lo = some (.lst ys) ∧ ys.length ≤ 3 + j ∧ ∀ x ∈ ys, SvOk ns kds H' x) ⟨none, none, none, none, _, rfl, Same.upd_new hlo _, upd_same, by simp, fun x hx => ?_⟩ (fun _ _ _ _ _ => trivial) ?_ ?_⟩
    · refine SvOk.mono (Same.upd_new hlo _).t ?_
      rcases List.mem_cons.mp hx with rfl | hx
      · exact O1'
      rcases List.mem_cons.mp hx with rfl | hx
      · exact O2
      rcases List.mem_cons.mp hx with rfl | hx
      · exact O3
      · simp at hx
    · rintro j x σ H7 hx ⟨v4, v5, v6, v7, ys, rfl, s7, g7, l7, o7⟩
      obtain ⟨hj, rfl⟩ := range_item hx
      ((try dsimp only [cxOf, L2.Cx.inTry, L2.Cx.inHand]); simp only [iItems, rStarts3, rAdd, tNever, tCIn, tCGet, L2.start, tSeq, tNext, tIfS, tRet, tRetN, tAsg, tDrop, gName, tVar, tC, tOp, tUn, tCall, tCB, tCons, tNil, tTest, tB, tNot, tAnd, tOr, tAndV, tOrV, tNotV, tIf, tChain, tLst, tTup, tBM, tBM0, rI, rI0, rU, rEq, rNe, scal, tComp, iStr, iList, iTup, iRng1, iRng2, tYes, rIsP, rAll, rLenS, rLenV, rListOf, rTupleOf, tDisp, tPairs, tSl, tPart, tNoPart, rSlS, rSlL, rFind, rStarts, rIntT, rStrA, rRepS, tCallX, tRaise, tRaiseI, tTry, tAs, offE, tXF, sXset, tMethX, tMakeX, rIsX, tFld, sFld, tMeth, rSortD, rDPop, tDNewK, tDIn, tDNotIn, tDGet, sDPut, rIndexS, tStop, gSub, 
  List.map_cons, List.map_nil, List.cons_append, List.nil_append, List.length_cons, List.length_nil, List.getElem?_cons_zero, List.getElem?_cons_succ, Option.some.injEq, exists_eq_left', exists_eq_left, List.set_cons_zero, List.set_cons_succ, List.cons.injEq, and_true, true_and, V.int.injEq, V.str.injEq, V.bl.injEq, V.ref.injEq, V.ty.injEq, exists_and_left, exists_and_right, List.append_nil, reduceCtorEq, false_and, and_false, exists_false, or_false, false_or, decide_true, decide_false, Bool.not_true, Bool.not_false, if_true, if_false, Bool.false_eq_true, ite_true, ite_false, and_assoc, Nat.reduceAdd, Nat.reduceSub, List.replicate_succ, List.replicate_zero, Nat.zero_add, Nat.add_zero, Nat.sub_self])
      refine ⟨.inl ⟨rfl, _, .of g7⟩, a, ns0, _, rfl, ((s1.trans SG).trans s7).seq ha, by decide, fun c2 => ⟨_, _, rfl, _, rfl, ⟨by decide, by decide⟩, .inr ⟨by decide, by decide⟩, .inl ⟨by decide, by decide⟩, _, d, ns, kds, rfl, hW.mono (SG.trans s7), fun H8 v s s8 hv hg hp => ?_⟩⟩
      have hlc := isPl.lc hp
      have T9 : TSame H8 (upd H8 lo (.lst (ys ++ [v]))) := TSame.upd_no (s8 _ _ g7) (fun _ z => nomatch z)
      refine ⟨lo, _, v, rfl, rfl, s8 _ _ g7, small_line (by omega), (s7.trans s8).set hlo _, _, upd_same, by rw [List.length_append, List.length_singleton]; omega, fun x hx => ?_⟩
      rcases List.mem_append.mp hx with hx | hx
      · exact (o7 x hx).mono (s8.t.trans T9)
      · rw [List.mem_singleton.mp hx]
        exact SvOk.mono T9 ⟨s, hv, hg, by omega, by omega⟩
    · rintro σ H7 ⟨v4, v5, v6, v7, ys, rfl, s7, g7, l7, o7⟩
      rw [rangeV_len] at l7
      ((try dsimp only [cxOf, L2.Cx.inTry, L2.Cx.inHand]); simp only [iItems, rStarts3, rAdd, tNever, tCIn, tCGet, L2.start, tSeq, tNext, tIfS, tRet, tRetN, tAsg, tDrop, gName, tVar, tC, tOp, tUn, tCall, tCB, tCons, tNil, tTest, tB, tNot, tAnd, tOr, tAndV, tOrV, tNotV, tIf, tChain, tLst, tTup, tBM, tBM0, rI, rI0, rU, rEq, rNe, scal, tComp, iStr, iList, iTup, iRng1, iRng2, tYes, rIsP, rAll, rLenS, rLenV, rListOf, rTupleOf, tDisp, tPairs, tSl, tPart, tNoPart, rSlS, rSlL, rFind, rStarts, rIntT, rStrA, rRepS, tCallX, tRaise, tRaiseI, tTry, tAs, offE, tXF, sXset, tMethX, tMakeX, rIsX, tFld, sFld, tMeth, rSortD, rDPop, tDNewK, tDIn, tDNotIn, tDGet, sDPut, rIndexS, tStop, gSub, 
  List.map_cons, List.map_nil, List.cons_append, List.nil_append, List.length_cons, List.length_nil, List.getElem?_cons_zero, List.getElem?_cons_succ, Option.some.injEq, exists_eq_left', exists_eq_left, List.set_cons_zero, List.set_cons_succ, List.cons.injEq, and_true, true_and, V.int.injEq, V.str.injEq, V.bl.injEq, V.ref.injEq, V.ty.injEq, exists_and_left, exists_and_right, List.append_nil, reduceCtorEq, false_and, and_false, exists_false, or_false, false_or, decide_true, decide_false, Bool.not_true, Bool.not_false, if_true, if_false, Bool.false_eq_true, ite_true, ite_false, and_assoc, Nat.reduceAdd, Nat.reduceSub, List.replicate_succ, List.replicate_zero, Nat.zero_add, Nat.add_zero, Nat.sub_self])
      refine for_in ?_
      ((try dsimp only [cxOf, L2.Cx.inTry, L2.Cx.inHand]); simp only [iItems, rStarts3, rAdd, tNever, tCIn, tCGet, L2.start, tSeq, tNext, tIfS, tRet, tRetN, tAsg, tDrop, gName, tVar, tC, tOp, tUn, tCall, tCB, tCons, tNil, tTest, tB, tNot, tAnd, tOr, tAndV, tOrV, tNotV, tIf, tChain, tLst, tTup, tBM, tBM0, rI, rI0, rU, rEq, rNe, scal, tComp, iStr, iList, iTup, iRng1, iRng2, tYes, rIsP, rAll, rLenS, rLenV, rListOf, rTupleOf, tDisp, tPairs, tSl, tPart, tNoPart, rSlS, rSlL, rFind, rStarts, rIntT, rStrA, rRepS, tCallX, tRaise, tRaiseI, tTry, tAs, offE, tXF, sXset, tMethX, tMakeX, rIsX, tFld, sFld, tMeth, rSortD, rDPop, tDNewK, tDIn, tDNotIn, tDGet, sDPut, rIndexS, tStop, gSub, 
  List.map_cons, List.map_nil, List.cons_append, List.nil_append, List.length_cons, List.length_nil, List.getElem?_cons_zero, List.getElem?_cons_succ, Option.some.injEq, exists_eq_left', exists_eq_left, List.set_cons_zero, List.set_cons_succ, List.cons.injEq, and_true, true_and, V.int.injEq, V.str.injEq, V.bl.injEq, V.ref.injEq, V.ty.injEq, exists_and_left, exists_and_right, List.append_nil, reduceCtorEq, false_and, and_false, exists_false, or_false, false_or, decide_true, decide_false, Bool.not_true, Bool.not_false, if_true, if_false, Bool.false_eq_true, ite_true, ite_false, and_assoc, Nat.reduceAdd, Nat.reduceSub, List.replicate_succ, List.replicate_zero, Nat.zero_add, Nat.add_zero, Nat.sub_self])
      refine ⟨⟨_, .of g7⟩, ForW.of (walk_list (xs := ys)) (fun j σ H' => ∃ (v4 v5 v6 v7 : Option V), σ = [some (V.ref a), some (V.ref d), some (V.ref lf), some (V.ref lo), v4, v5, v6, v7] ∧ Same H7 H') ⟨_, _, _, _, rfl, Same.refl _⟩ (fun _ _ _ _ ⟨_, _, _, _, _, q⟩ => q.seq (.of g7)) ?_ ?_⟩
      · rintro j x σ H8 hx ⟨v4, v5, v6, v7, rfl, s8⟩
        obtain ⟨sv, hv, hg, hlv, hct⟩ := (o7 x (List.mem_of_getElem? hx)).mono s8.t
        ((try dsimp only [cxOf, L2.Cx.inTry, L2.Cx.inHand]); simp only [iItems, rStarts3, rAdd, tNever, tCIn, tCGet, L2.start, tSeq, tNext, tIfS, tRet, tRetN, tAsg, tDrop, gName, tVar, tC, tOp, tUn, tCall, tCB, tCons, tNil, tTest, tB, tNot, tAnd, tOr, tAndV, tOrV, tNotV, tIf, tChain, tLst, tTup, tBM, tBM0, rI, rI0, rU, rEq, rNe, scal, tComp, iStr, iList, iTup, iRng1, iRng2, tYes, rIsP, rAll, rLenS, rLenV, rListOf, rTupleOf, tDisp, tPairs, tSl, tPart, tNoPart, rSlS, rSlL, rFind, rStarts, rIntT, rStrA, rRepS, tCallX, tRaise, tRaiseI, tTry, tAs, offE, tXF, sXset, tMethX, tMakeX, rIsX, tFld, sFld, tMeth, rSortD, rDPop, tDNewK, tDIn, tDNotIn, tDGet, sDPut, rIndexS, tStop, gSub, 
  List.map_cons, List.map_nil, List.cons_append, List.nil_append, List.length_cons, List.length_nil, List.getElem?_cons_zero, List.getElem?_cons_succ, Option.some.injEq, exists_eq_left', exists_eq_left, List.set_cons_zero, List.set_cons_succ, List.cons.injEq, and_true, true_and, V.int.injEq, V.str.injEq, V.bl.injEq, V.ref.injEq, V.ty.injEq, exists_and_left, exists_and_right, List.append_nil, reduceCtorEq, false_and, and_false, exists_false, or_false, false_or, decide_true, decide_false, Bool.not_true, Bool.not_false, if_true, if_false, Bool.false_eq_true, ite_true, ite_false, and_assoc, Nat.reduceAdd, Nat.reduceSub, List.replicate_succ, List.replicate_zero, Nat.zero_add, Nat.add_zero, Nat.sub_self])
        have htl := tS_len hg hct
        have SH := (SG.trans s7).trans s8
        refine ⟨x, sv, ns, kds, rfl, hv, hg, by omega, hct, fun H9 s9 => ?_⟩
        refine ⟨x, sv, ns, kds, rfl, hv.mono s9.t, hg, by omega, hct, fun H10 s10 => ?_⟩
        refine ⟨"str", .of_str (small_line (by omega)), by decide, ?_⟩
        rw [if_neg (by decide)]
        refine ⟨rfl, ?_⟩
        rw [if_neg (by simp)]
        have SJ := (SH.trans s9).trans s10
        have s810 := s9.trans s10
        refine ⟨lf, tS sv, sv, xs, ns, kds, rfl, rfl, s810 _ _ (s8 _ _ (s7 _ _ gfG)), h6.mono SJ, hg, hlv, hct, fun H11 v' s11 hv' => ?_⟩
        refine neS_of hv' (hv.mono (s810.t.trans s11.t)) hg hlv ⟨_, rfl, ?_⟩
        rw [if_neg (by decide)]
        have SK := SJ.trans s11
        refine ⟨_, wget (SK _ _ h1) h2, eqF_of (s11 _ _ (s810 _ _ (s8 _ _ (s7 _ _ gfG)))) (SK _ _ h5) (fun y hy => ?_) ⟨_, rfl, ?_⟩⟩
        · obtain ⟨i, hi⟩ := List.mem_iff_getElem?.mp hy
          obtain ⟨p, n, kd, e1, e2, e3, e4⟩ := h6.at (List.getElem?_eq_some_iff.mp hi).1
          obtain rfl : y = .ref p := Option.some.inj (hi.symm.trans e1)
          refine ⟨p, n, kd, rfl, SK _ _ e4, nam_valid (h13 n (List.mem_of_getElem? e2)), ?_⟩
          rcases h7 kd (List.mem_of_getElem? e3) with rfl | rfl
          · intro c; revert c; decide +kernel
          · intro c; revert c; decide +kernel
        · rw [if_neg (by decide)]
          exact (s8.trans s810).trans s11
      · rintro σ H8 ⟨v4, v5, v6, v7, rfl, s8⟩
        ((try dsimp only [cxOf, L2.Cx.inTry, L2.Cx.inHand]); simp only [iItems, rStarts3, rAdd, tNever, tCIn, tCGet, L2.start, tSeq, tNext, tIfS, tRet, tRetN, tAsg, tDrop, gName, tVar, tC, tOp, tUn, tCall, tCB, tCons, tNil, tTest, tB, tNot, tAnd, tOr, tAndV, tOrV, tNotV, tIf, tChain, tLst, tTup, tBM, tBM0, rI, rI0, rU, rEq, rNe, scal, tComp, iStr, iList, iTup, iRng1, iRng2, tYes, rIsP, rAll, rLenS, rLenV, rListOf, rTupleOf, tDisp, tPairs, tSl, tPart, tNoPart, rSlS, rSlL, rFind, rStarts, rIntT, rStrA, rRepS, tCallX, tRaise, tRaiseI, tTry, tAs, offE, tXF, sXset, tMethX, tMakeX, rIsX, tFld, sFld, tMeth, rSortD, rDPop, tDNewK, tDIn, tDNotIn, tDGet, sDPut, rIndexS, tStop, gSub, 
  List.map_cons, List.map_nil, List.cons_append, List.nil_append, List.length_cons, List.length_nil, List.getElem?_cons_zero, List.getElem?_cons_succ, Option.some.injEq, exists_eq_left', exists_eq_left, List.set_cons_zero, List.set_cons_succ, List.cons.injEq, and_true, true_and, V.int.injEq, V.str.injEq, V.bl.injEq, V.ref.injEq, V.ty.injEq, exists_and_left, exists_and_right, List.append_nil, reduceCtorEq, false_and, and_false, exists_false, or_false, false_or, decide_true, decide_false, Bool.not_true, Bool.not_false, if_true, if_false, Bool.false_eq_true, ite_true, ite_false, and_assoc, Nat.reduceAdd, Nat.reduceSub, List.replicate_succ, List.replicate_zero, Nat.zero_add, Nat.add_zero, Nat.sub_self])
        exact k _
end
theorem walk {l : PySem.W.OpenLaw} {q : Program} {loose : List Str} {XP : (Str → Option Value) → Heap → Prop} {YP : World → Heap → Prop} {d : DefRec} {K : Params → PySem.W.Frag} (hn : l.most = some 63) (hdf : d.params.defaults = [])
    (hY : ∀ (w : World) (h : Heap), YP w h → (K w.params).In h)
    (F : ∀ (w : World) (mg : Str → Option Value) (fa : Addr) (h : Heap), (K w.params).In h → h.Ns mainGlobals mg → mg d.name = some (.ref fa) →
      ∃ fd : FuncData, (∀ (s : Shared) (u : Value), BindsTo s fd ⟨[u], []⟩ [("_law_script", u)]) ∧ ∀ base : Heap, (K w.params).In base → base.Ns mainGlobals mg → FnOk l.prog w (K w.params) mg base CX0 33 fa fd ["_law_script"] (sp_law (K w.params))) :
    PySem.W.WalkO q loose XP YP l.row.toRowW d [] (fun f vs => PySem.call f vs) :=
  L2.walk_of (n := 63) (k := 33) (x := "_law_script") (CX := fun _ => CX0) (sp := fun w => sp_law (K w.params)) hn (by decide) hdf ⟨rfl, by decide, by decide⟩ hY F (fun _ _ a ns hl _ hS => ⟨a, ns, rfl, hS, hl, fun _ => rfl⟩) fun _ _ _ _ _ z => z
theorem all_mk {l : PySem.W.OpenLaw} {w : World} {K : PySem.W.Frag} {h : Heap} {mg : Str → Option Value} {fa : Addr} (X : K.In h) (G : h.Ns mainGlobals mg) (hfa : mg "law" = some (.ref fa)) (T : ∃ f fd, Txt w K mg f fd ∧ f 45 = f 45 ∧ ∃ kV dc pm an cd ct, fd 45 = PySem.W.fnOf "law" "law" (defArgs s_law) (defBody s_law) (defScope s_law) .none kV dc pm an cd ct) :
    ∃ fd : FuncData, (∀ (s : Shared) (v : Value), BindsTo s fd ⟨[v], []⟩ [("_law_script", v)]) ∧ ∀ base : Heap, K.In base → base.Ns mainGlobals mg → FnOk l.prog w K mg base CX0 33 fa fd ["_law_script"] (sp_law K) := by
  obtain ⟨f, fd, T, _, kV, dc, pm, an, cd, ct, e⟩ := T
  have e2 := hfa.symm.trans T.d_law.m
  cases e2
  exact ⟨fd 45, fun s v => by rw [e]; exact .of_eq rfl, fun base _ _ => ok_law T⟩
end NS
namespace PySem.W.Fast
noncomputable def tw6601305650359146560 : Nat := 0
noncomputable def tw10518061065127071840 : Nat := 0
noncomputable def tw1059857975175313600 : Nat := 0
noncomputable def tw4188029897011882240 : Nat := 0
noncomputable def tw10812480925149236608 : Nat := 0
noncomputable def tw18208998602712660448 : Nat := 0
noncomputable def tw3059407078733328864 : Nat := 0
noncomputable def tw17105318222291064320 : Nat := 0
noncomputable def tw8171434567368332864 : Nat := 0
noncomputable def tw13007540748914063968 : Nat := 0
noncomputable def tw17847896405000897312 : Nat := 0
noncomputable def tw18135786064786263904 : Nat := 0
noncomputable def tw11905809270712660896 : Nat := 0
noncomputable def tw2283414277449281569 : Nat := 0
noncomputable def tw4294741777630422209 : Nat := 0
noncomputable def tw10283462708687646017 : Nat := 0
noncomputable def tw815713703265115457 : Nat := 0
noncomputable def tw14086385179872139681 : Nat := 0
noncomputable def tw7863777034812497345 : Nat := 0
noncomputable def tw13034781429203738081 : Nat := 0
noncomputable def tw625285185056950753 : Nat := 0
noncomputable def tw11482322244868231681 : Nat := 0
noncomputable def tw8404324203447067169 : Nat := 0
noncomputable def tw627209396625502849 : Nat := 0
noncomputable def tw11526572329188973473 : Nat := 0
noncomputable def tw12766457133352054818 : Nat := 0
noncomputable def tw5611638463939335234 : Nat := 0
noncomputable def tw6915940810045460642 : Nat := 0
noncomputable def tw6685457494347084994 : Nat := 0
noncomputable def tw693278662931682594 : Nat := 0
noncomputable def tw744473230737600802 : Nat := 0
noncomputable def tw17326847880910883234 : Nat := 0
noncomputable def tw13082599010856499714 : Nat := 0
noncomputable def tw18400405444639827586 : Nat := 0
noncomputable def tw3325406078547298082 : Nat := 0
noncomputable def tw833808665509007138 : Nat := 0
noncomputable def tw9475448140240521347 : Nat := 0
noncomputable def tw9908301992429488611 : Nat := 0
noncomputable def tw13197205692802819555 : Nat := 0
noncomputable def tw1599594484692427331 : Nat := 0
noncomputable def tw2448279122225090211 : Nat := 0
noncomputable def tw15970824512241705731 : Nat := 0
noncomputable def tw2810688350300722147 : Nat := 0
noncomputable def tw3477800420141739012 : Nat := 0
noncomputable def tw385779461747289124 : Nat := 0
noncomputable def tw14901198954603312324 : Nat := 0
noncomputable def tw15331895458318371044 : Nat := 0
noncomputable def tw4784100013269602692 : Nat := 0
noncomputable def tw18296193871840016868 : Nat := 0
noncomputable def tw737360296191311524 : Nat := 0
noncomputable def tw18005984710755505860 : Nat := 0
noncomputable def tw16802822145505076229 : Nat := 0
noncomputable def tw10394092318684572805 : Nat := 0
noncomputable def tw18378808326117769381 : Nat := 0
noncomputable def tw16913976451749504197 : Nat := 0
noncomputable def tw18397645321749795077 : Nat := 0
noncomputable def tw5769827306936065349 : Nat := 0
noncomputable def tw13795435349590820229 : Nat := 0
noncomputable def tw11282214087545575845 : Nat := 0
noncomputable def tw9746253421686036933 : Nat := 0
noncomputable def tw8632284020276689445 : Nat := 0
noncomputable def tw6783853724773417733 : Nat := 0
noncomputable def tw11855861118767776549 : Nat := 0
noncomputable def tw1821312661645775749 : Nat := 0
noncomputable def tw5435056938672144422 : Nat := 0
noncomputable def tw8051276672400201894 : Nat := 0
noncomputable def tw638888683005746854 : Nat := 0
noncomputable def tw3447810242128702342 : Nat := 0
noncomputable def tw1238056007649657863 : Nat := 0
noncomputable def tw4253079097649189703 : Nat := 0
noncomputable def tw10651487891628025735 : Nat := 0
noncomputable def tw6436001312066949128 : Nat := 0
noncomputable def tw12318637067865784328 : Nat := 0
noncomputable def tw4818013842873652392 : Nat := 0
noncomputable def tw1092416086419484840 : Nat := 0
noncomputable def tw9671129819828748488 : Nat := 0
noncomputable def tw792987088363398856 : Nat := 0
noncomputable def tw5977351644460466920 : Nat := 0
noncomputable def tw155500554324490056 : Nat := 0
noncomputable def tw3266231462053321576 : Nat := 0
noncomputable def tw1147662731355489160 : Nat := 0
noncomputable def tw12842243670358100137 : Nat := 0
noncomputable def tw18411455154718095625 : Nat := 0
noncomputable def tw3060114259955406569 : Nat := 0
noncomputable def tw1992133707480777609 : Nat := 0
noncomputable def tw8764621926767763530 : Nat := 0
noncomputable def tw12608981119801305322 : Nat := 0
noncomputable def tw16375174168285763882 : Nat := 0
noncomputable def tw1552815288898916714 : Nat := 0
noncomputable def tw3328432036168261994 : Nat := 0
noncomputable def tw4695340892141801930 : Nat := 0
noncomputable def tw15880653377536030154 : Nat := 0
noncomputable def tw9764172201583669802 : Nat := 0
noncomputable def tw14210803040858497610 : Nat := 0
noncomputable def tw15246811713476767338 : Nat := 0
noncomputable def tw13764268176430547754 : Nat := 0
noncomputable def tw15006108777401298730 : Nat := 0
noncomputable def tw8976252900311742314 : Nat := 0
noncomputable def tw18010301607796384779 : Nat := 0
noncomputable def tw8175064785175572619 : Nat := 0
noncomputable def tw14722918013760578891 : Nat := 0
noncomputable def tw10417764916129271179 : Nat := 0
noncomputable def tw7732844346687613387 : Nat := 0
noncomputable def tw2998467663460834123 : Nat := 0
noncomputable def tw12792322329705328523 : Nat := 0
noncomputable def tw10687308035628931244 : Nat := 0
noncomputable def tw13688135660454873292 : Nat := 0
noncomputable def tw9529107040562288076 : Nat := 0
noncomputable def tw10474343214104803148 : Nat := 0
noncomputable def tw15408730679334418316 : Nat := 0
noncomputable def tw17822531867040773036 : Nat := 0
noncomputable def tw12085643969490700333 : Nat := 0
noncomputable def tw12556710523549794701 : Nat := 0
noncomputable def tw5282134263022880301 : Nat := 0
noncomputable def tw8043634516408877837 : Nat := 0
noncomputable def tw14366580383104962445 : Nat := 0
noncomputable def tw10031722299717664749 : Nat := 0
noncomputable def tw10692010089504078030 : Nat := 0
noncomputable def tw8309505349520528654 : Nat := 0
noncomputable def tw12486689269719293198 : Nat := 0
noncomputable def tw18222487874374139438 : Nat := 0
noncomputable def tw16088997186357196366 : Nat := 0
noncomputable def tw3308479236618760910 : Nat := 0
noncomputable def tw16617280099952262862 : Nat := 0
noncomputable def tw17462471766006291182 : Nat := 0
noncomputable def tw3187446093412624174 : Nat := 0
noncomputable def tw649342192353244046 : Nat := 0
noncomputable def tw15398168367276614959 : Nat := 0
noncomputable def tw8916720732421729583 : Nat := 0
noncomputable def tw7446715021649973903 : Nat := 0
noncomputable def tw17272053522356245359 : Nat := 0
noncomputable def tw18237729000240786480 : Nat := 0
noncomputable def tw18218077208886976592 : Nat := 0
noncomputable def tw7957022199993437328 : Nat := 0
noncomputable def tw11703117731959693712 : Nat := 0
noncomputable def tw1641298867988578864 : Nat := 0
noncomputable def tw16252280917656008368 : Nat := 0
noncomputable def tw15117957378868010736 : Nat := 0
noncomputable def tw17746119303454414897 : Nat := 0
noncomputable def tw9002323824703784369 : Nat := 0
noncomputable def tw462119999013697201 : Nat := 0
noncomputable def tw1927848055687857841 : Nat := 0
noncomputable def tw8001156439584238257 : Nat := 0
noncomputable def tw611537857948383057 : Nat := 0
noncomputable def tw7173250623375449041 : Nat := 0
noncomputable def tw8154820188951779281 : Nat := 0
noncomputable def tw6645615351869168722 : Nat := 0
noncomputable def tw728766470519231666 : Nat := 0
noncomputable def tw16232612657459951890 : Nat := 0
noncomputable def tw217613720792224114 : Nat := 0
noncomputable def tw12732606201675128242 : Nat := 0
noncomputable def tw5551958338577715730 : Nat := 0
noncomputable def tw115265625673223922 : Nat := 0
noncomputable def tw12501710219603013426 : Nat := 0
noncomputable def tw2702518070166736882 : Nat := 0
noncomputable def tw5770487059730731091 : Nat := 0
noncomputable def tw6925445018179479699 : Nat := 0
noncomputable def tw8293197831121300691 : Nat := 0
noncomputable def tw12604552896267740371 : Nat := 0
noncomputable def tw10896120257335687379 : Nat := 0
noncomputable def tw14950522470114936083 : Nat := 0
noncomputable def tw3114959067720994099 : Nat := 0
noncomputable def tw2665212396770815411 : Nat := 0
noncomputable def tw16120887601450975667 : Nat := 0
noncomputable def tw10459718223711929907 : Nat := 0
noncomputable def tw9577534730229513939 : Nat := 0
noncomputable def tw7848382059492555507 : Nat := 0
noncomputable def tw1656998289210941235 : Nat := 0
noncomputable def tw17385936117841570707 : Nat := 0
noncomputable def tw12662826245192420243 : Nat := 0
noncomputable def tw6914780553457340468 : Nat := 0
noncomputable def tw13407302211094661556 : Nat := 0
noncomputable def tw8683264419199258196 : Nat := 0
noncomputable def tw5856371633279781556 : Nat := 0
noncomputable def tw694858164922910516 : Nat := 0
noncomputable def tw13775191913213327188 : Nat := 0
noncomputable def tw9582747716363306037 : Nat := 0
noncomputable def tw17974272320505155669 : Nat := 0
noncomputable def tw320708096983269781 : Nat := 0
noncomputable def tw18398677970164708885 : Nat := 0
noncomputable def tw13913142370555197109 : Nat := 0
noncomputable def tw2645543262550384405 : Nat := 0
noncomputable def tw4413523341049879317 : Nat := 0
noncomputable def tw5195487267088094037 : Nat := 0
noncomputable def tw5548157587881930838 : Nat := 0
noncomputable def tw7016237648040462454 : Nat := 0
noncomputable def tw10128108513972800886 : Nat := 0
noncomputable def tw16771194649336993302 : Nat := 0
noncomputable def tw8197966273101638422 : Nat := 0
noncomputable def tw7154197895308950871 : Nat := 0
noncomputable def tw13699573161703106103 : Nat := 0
noncomputable def tw16169454169498597335 : Nat := 0
noncomputable def tw17729455074698979287 : Nat := 0
noncomputable def tw9137672802431421624 : Nat := 0
noncomputable def tw15930821718259376504 : Nat := 0
noncomputable def tw10720387620168534424 : Nat := 0
noncomputable def tw7681164520729627192 : Nat := 0
noncomputable def tw4950762919421021976 : Nat := 0
noncomputable def tw6656949066190138200 : Nat := 0
noncomputable def tw18279181812980804633 : Nat := 0
noncomputable def tw5907798419376382201 : Nat := 0
noncomputable def tw4736935715819144505 : Nat := 0
noncomputable def tw8684296003805263193 : Nat := 0
noncomputable def tw11331147518910120313 : Nat := 0
noncomputable def tw5143836532613135897 : Nat := 0
noncomputable def tw5149191767556715065 : Nat := 0
noncomputable def tw11286779922825937561 : Nat := 0
noncomputable def tw12403505323912638554 : Nat := 0
noncomputable def tw7157880356799197306 : Nat := 0
noncomputable def tw2087145081281968282 : Nat := 0
noncomputable def tw7405967349192907002 : Nat := 0
noncomputable def tw4386719870353504538 : Nat := 0
noncomputable def tw15484306121555982874 : Nat := 0
noncomputable def tw1121142149169056378 : Nat := 0
noncomputable def tw8638090369374656218 : Nat := 0
noncomputable def tw13123990715925353274 : Nat := 0
noncomputable def tw11395388460525739131 : Nat := 0
noncomputable def tw11690194348639403291 : Nat := 0
noncomputable def tw290258742336519835 : Nat := 0
noncomputable def tw12942319900624485115 : Nat := 0
noncomputable def tw5731004259761749787 : Nat := 0
noncomputable def tw3725507492574846811 : Nat := 0
noncomputable def tw17596000557581867867 : Nat := 0
noncomputable def tw10133069473891903483 : Nat := 0
noncomputable def tw4744095150978303068 : Nat := 0
noncomputable def tw12550790997044731196 : Nat := 0
noncomputable def tw9544500098930538172 : Nat := 0
noncomputable def tw6356649572925257404 : Nat := 0
noncomputable def tw4605155261278738364 : Nat := 0
noncomputable def tw9534685521396838941 : Nat := 0
noncomputable def tw2094254402756554365 : Nat := 0
noncomputable def tw12658933610456195741 : Nat := 0
noncomputable def tw14309629320207598333 : Nat := 0
noncomputable def tw277834751098647357 : Nat := 0
noncomputable def tw12044411929741274013 : Nat := 0
noncomputable def tw16244960657978207262 : Nat := 0
noncomputable def tw1338315466243322142 : Nat := 0
noncomputable def tw12579462602423391614 : Nat := 0
noncomputable def tw10511069549101201950 : Nat := 0
noncomputable def tw8544387729321948766 : Nat := 0
noncomputable def tw4141765726278159006 : Nat := 0
noncomputable def tw12077298595529496254 : Nat := 0
noncomputable def tw6045283814563059422 : Nat := 0
noncomputable def tw3663520383349875550 : Nat := 0
noncomputable def tw16141039928341697534 : Nat := 0
noncomputable def tw7682517061489063967 : Nat := 0
noncomputable def tw11202670640426988607 : Nat := 0
noncomputable def tw5120433268204351743 : Nat := 0
noncomputable def tw16772137220088227167 : Nat := 0
noncomputable def tw7235145030546124319 : Nat := 0
noncomputable def tw1015396991859739199 : Nat := 0
noncomputable def tw12054446608965041727 : Nat := 0
noncomputable def tw10348286761042278111 : Nat := 0
noncomputable def tw14860841155309498079 : Nat := 0
noncomputable def tw5426313387613607839 : Nat := 0
end PySem.W.Fast
open PySem PySem.W PyProof.Rows
set_option maxRecDepth 100000 in
set_option maxHeartbeats 0 in
theorem PySem.Challenge.cw_crosshall_k09_sieve_texts_holds : PySem.Challenge.rw_crosshall_k09_sieve_texts.Holds := by
  w_on; o_law; k_head; (case hw => w_witness2)
  k_fill
  refine NS.walk (l := PySem.Challenge.rw_crosshall_k09_sieve_texts) rfl rfl (fun w h Y => by first | exact PySem.W.kIn_of Y | exact PySem.W.km_in_of Y) ?F
  case F =>
    intro w mg fa h KX G hmg
    refine NS.all_mk KX G hmg ?_
    suffices TT : ∃ f fd, NS.Txt w (L2.KOf KX) mg f fd ∧ f 45 = f 45 ∧ ∃ kV dc pm an cd ct, fd 45 = PySem.W.fnOf "law" "law" (L2.defArgs NS.s_law) (L2.defBody NS.s_law) (L2.defScope NS.s_law) .none kV dc pm an cd ct from TT
    dsimp only [L2.KOf]
    obtain ⟨f, fd, T, _, z⟩ : ∃ f fd, NS.Txt w _ mg f fd ∧ f 45 = _ ∧ ∃ kV dc pm an cd ct, fd 45 = PySem.W.fnOf "law" "law" (L2.defArgs NS.s_law) (L2.defBody NS.s_law) (L2.defScope NS.s_law) .none kV dc pm an cd ct := by
      refine' NS.txt_mk KX G ?a1 ?a2 ?a3 ?a4 ?a30 ?a10 ?l10 ?c10 ?k10 ?a11 ?l11 ?c11 ?k11 ?a12 ?l12 ?c12 ?k12 ?a13 ?l13 ?c13 ?k13 ?a14 ?l14 ?c14 ?k14 ?a15 ?l15 ?c15 ?k15 ?a16 ?l16 ?c16 ?k16 ?a18 ?l18 ?c18 ?k18 ?a20 ?l20 ?c20 ?k20 ?a21 ?l21 ?c21 ?k21 ?a22 ?l22 ?c22 ?k22 ?a29 ?l29 ?c29 ?k29 ?a31 ?l31 ?c31 ?k31 ?a32 ?l32 ?c32 ?k32 ?a33 ?l33 ?c33 ?k33 ?a35 ?l35 ?c35 ?k35 ?a36 ?l36 ?c36 ?k36 ?a37 ?l37 ?c37 ?k37 ?a38 ?l38 ?c38 ?k38 ?a39 ?l39 ?c39 ?k39 ?a40 ?l40 ?c40 ?k40 ?a41 ?l41 ?c41 ?k41 ?a42 ?l42 ?c42 ?k42 ?a43 ?l43 ?c43 ?k43 ?a44 ?l44 ?c44 ?k44 ?a45 ?l45 ?c45 ?k45 ?a31000 ?l31000 ?c31000 ?k31000 ?b31000 ?a31001 ?l31001 ?c31001 ?k31001 ?b31001 ?a31002 ?l31002 ?c31002 ?k31002 ?b31002 ?a31003 ?l31003 ?c31003 ?k31003 ?b31003 ?a31004 ?l31004 ?c31004 ?k31004 ?b31004 ?a31005 ?l31005 ?c31005 ?k31005 ?b31005 ?a31006 ?l31006 ?c31006 ?k31006 ?b31006 ?a31007 ?l31007 ?c31007 ?k31007 ?b31007 ?o_Reading_pg ?o_Reading_hd ?o_Reading_po ?o_Reading_sa ?o_Reading_ma ?o_Reading_kp ?v_na_Reading_at ?v_na_Reading_begun ?v_na_Reading_text ?z_abs ?z_all ?z_enumerate ?z_int ?z_isinstance ?z_len ?z_list ?z_range ?z_str ?z_tuple ?y_LETTERS ?y_FIGURES ?y_MOST_SIGNS ?y_MOST_FIGURES ?y_MOST_LEVELS ?y_MOST_SIEVES ?y_MOST_VALUE_SIGNS ?y_JOINTS ?l27 ?m27 ?k27 ?v27 ?y_MARKS ?l28 ?m28 ?k28 ?v28
      (case a1 => k_is)
      (case a2 => k_is)
      (case a3 => k_is)
      (case a4 => k_is)
      (case a30 => k_is)
      (case a10 => k_is)
      (case l10 => k_is)
      (case c10 => k_is)
      (case k10 => k_is)
      (case a11 => k_is)
      (case l11 => k_is)
      (case c11 => k_is)
      (case k11 => k_is)
      (case a12 => k_is)
      (case l12 => k_is)
      (case c12 => k_is)
      (case k12 => k_is)
      (case a13 => k_is)
      (case l13 => k_is)
      (case c13 => k_is)
      (case k13 => k_is)
      (case a14 => k_is)
      (case l14 => k_is)
      (case c14 => k_is)
      (case k14 => k_is)
      (case a15 => k_is)
      (case l15 => k_is)
      (case c15 => k_is)
      (case k15 => k_is)
      (case a16 => k_is)
      (case l16 => k_is)
      (case c16 => k_is)
      (case k16 => k_is)
      (case a18 => k_is)
      (case l18 => k_is)
      (case c18 => k_is)
      (case k18 => k_is)
      (case a20 => k_is)
      (case l20 => k_is)
      (case c20 => k_is)
      (case k20 => k_is)
      (case a21 => k_is)
      (case l21 => k_is)
      (case c21 => k_is)
      (case k21 => k_is)
      (case a22 => k_is)
      (case l22 => k_is)
      (case c22 => k_is)
      (case k22 => k_is)
      (case a29 => k_is)
      (case l29 => k_is)
      (case c29 => k_is)
      (case k29 => k_is)
      (case a31 => k_is)
      (case l31 => k_is)
      (case c31 => k_is)
      (case k31 => k_is)
      (case a32 => k_is)
      (case l32 => k_is)
      (case c32 => k_is)
      (case k32 => k_is)
      (case a33 => k_is)
      (case l33 => k_is)
      (case c33 => k_is)
      (case k33 => k_is)
      (case a35 => k_is)
      (case l35 => k_is)
      (case c35 => k_is)
      (case k35 => k_is)
      (case a36 => k_is)
      (case l36 => k_is)
      (case c36 => k_is)
      (case k36 => k_is)
      (case a37 => k_is)
      (case l37 => k_is)
      (case c37 => k_is)
      (case k37 => k_is)
      (case a38 => k_is)
      (case l38 => k_is)
      (case c38 => k_is)
      (case k38 => k_is)
      (case a39 => k_is)
      (case l39 => k_is)
      (case c39 => k_is)
      (case k39 => k_is)
      (case a40 => k_is)
      (case l40 => k_is)
      (case c40 => k_is)
      (case k40 => k_is)
      (case a41 => k_is)
      (case l41 => k_is)
      (case c41 => k_is)
      (case k41 => k_is)
      (case a42 => k_is)
      (case l42 => k_is)
      (case c42 => k_is)
      (case k42 => k_is)
      (case a43 => k_is)
      (case l43 => k_is)
      (case c43 => k_is)
      (case k43 => k_is)
      (case a44 => k_is)
      (case l44 => k_is)
      (case c44 => k_is)
      (case k44 => k_is)
      (case a45 => k_is)
      (case l45 => k_is)
      (case c45 => k_is)
      (case k45 => k_is)
      (case a31000 => k_is)
      (case l31000 => k_is)
      (case c31000 => k_is)
      (case k31000 => k_is)
      (case b31000 => k_is)
      (case a31001 => k_is)
      (case l31001 => k_is)
      (case c31001 => k_is)
      (case k31001 => k_is)
      (case b31001 => k_is)
      (case a31002 => k_is)
      (case l31002 => k_is)
      (case c31002 => k_is)
      (case k31002 => k_is)
      (case b31002 => k_is)
      (case a31003 => k_is)
      (case l31003 => k_is)
      (case c31003 => k_is)
      (case k31003 => k_is)
      (case b31003 => k_is)
      (case a31004 => k_is)
      (case l31004 => k_is)
      (case c31004 => k_is)
      (case k31004 => k_is)
      (case b31004 => k_is)
      (case a31005 => k_is)
      (case l31005 => k_is)
      (case c31005 => k_is)
      (case k31005 => k_is)
      (case b31005 => k_is)
      (case a31006 => k_is)
      (case l31006 => k_is)
      (case c31006 => k_is)
      (case k31006 => k_is)
      (case b31006 => k_is)
      (case a31007 => k_is)
      (case l31007 => k_is)
      (case c31007 => k_is)
      (case k31007 => k_is)
      (case b31007 => k_is)
      (case o_Reading_pg => k_is)
      (case o_Reading_hd => k_is)
      (case o_Reading_po => k_is)
      (case o_Reading_sa => k_is)
      (case o_Reading_ma => k_is)
      (case o_Reading_kp => k_is)
      (case v_na_Reading_at => k_is)
      (case v_na_Reading_begun => k_is)
      (case v_na_Reading_text => k_is)
      (case z_abs => k_is)
      (case z_all => k_is)
      (case z_enumerate => k_is)
      (case z_int => k_is)
      (case z_isinstance => k_is)
      (case z_len => k_is)
      (case z_list => k_is)
      (case z_range => k_is)
      (case z_str => k_is)
      (case z_tuple => k_is)
      (case y_LETTERS => k_is)
      (case y_FIGURES => k_is)
      (case y_MOST_SIGNS => k_is)
      (case y_MOST_FIGURES => k_is)
      (case y_MOST_LEVELS => k_is)
      (case y_MOST_SIEVES => k_is)
      (case y_MOST_VALUE_SIGNS => k_is)
      (case y_JOINTS => k_is)
      (case l27 => k_is)
      (case m27 => decide)
      (case k27 => k_keys)
      (case v27 => repeat (first | exact .nil | refine .cons ⟨⟨_, rfl⟩, ⟨_, rfl⟩⟩ ?_))
      (case y_MARKS => k_is)
      (case l28 => k_is)
      (case m28 => decide)
      (case k28 => k_keys)
      (case v28 => repeat (first | exact .nil | refine .cons ⟨⟨_, rfl⟩, ⟨_, rfl⟩⟩ ?_))
    exact ⟨f, fd, T, rfl, z⟩
