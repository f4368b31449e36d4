import PyProof.Rows.All
import Wide.All
import OpenK.AllK
import Wide.FinOn
import Lean
import PyProof.EqAt
import PyProof.EqKinds
import PyProof.TupleCall
import OpenK.KOwn
import PyProof.InstStoreFacts
import PyProof.EnumFor
import PyProof.EnumMake
import PyProof.EnumStmt
import KE.KDictList
import PyProof.ListRange
import PyProof.Rows.SetFrom
import PyProof.WalksMore
import PyProof.ZipIter
import PyProof.AttrMissSeq
import KE.KDictOf
import PyProof.MinMaxWalk
import PyProof.Rows.CallKwBuiltin
import KE.KMinKey
import KE.KRevSl
import PyProof.SumAny
import PyProof.P3In
import PyProof.SeqI3
import PyProof.MaxThree
import PyProof.SetKind
import PyProof.Rows.SortRunsK
import PyProof.Rows.SortShellK
import PyProof.DictRoadsH
import PyProof.MeetsDict
import PyProof.DictTruth
import KE.KSortTup
import KE.KSortKey
import PySem.Challenge.RW_crosshall_k36_whole_parts_add_up
set_option compiler.extract_closed false
set_option Elab.async false
set_option linter.all false
set_option maxHeartbeats 4000000
set_option maxRecDepth 100000
local macro_rules | `(tactic|omega)=>`(tactic|first | lia | omega (config:={}))
noncomputable section
def yf:=@PySem.wpAny_bind
def yg:=@PySem.wpAny_pure
def yh:=@if_neg
def yi:=@if_pos
def yj:=@Nat.le_refl
def yk:=@Bool.false_ne_true
def ym:=@decide_eq_true
def yo:=@decide_eq_false
def yq:=@Option.some.inj
def yr:=@Nat.ne_of_lt
def yt:=@Int.emod_lt_of_pos
def yu:=@Int.emod_nonneg
def yv:=@Nat.lt_of_lt_of_le
def yw:=@Nat.zero_le
def yx:=@Nat.le_trans
def yy:=@False.elim
def yz:=@Array.length_toList
def yA:=@List.getElem?_eq_getElem
def yB:=@List.getElem?_eq_some_iff
def yC:=@List.length_map
def yD:=@List.mem_singleton
def yE:=@List.size_toArray
def yF:=@List.getD_eq_getElem?_getD
def yG:=@List.mem_of_getElem?
def yH:=@List.length_append
def yI:=@List.length_take
def yJ:=@List.mem_cons_of_mem
def yK:=@List.mem_cons_self
def yL:=@List.mem_cons
def yM:=@List.map_cons
def yN:=@List.getElem?_map
def yO:=@List.take_length
def yP:=@List.map_append
def yQ:=@List.mem_append
def yR:=@List.mem_append_right
def yS:=@List.mem_append_left
def yT:=@List.mem_iff_getElem?
def yU:=@List.mem_map
def yV:=@List.getElem?_append_right
def yW:=@List.getElem?_append_left
def yX:=@List.length_range
def yY:=@List.append_assoc
def yZ:=@List.length_replicate
def y4:=@PySem.Heap.get?_push_of_some
def y6:=@PySem.Heap.get?_push_size
def y7:=@PySem.Heap.lt_size
def y8:=@PySem.Heap.get?_update_other
def y9:=@PySem.F.plainAttrs_list
def zd:=@PySem.W.mg_none_of
def ze:=@PySem.Around.under_plainId
open List (mem_filter mem_range filterMap_cons getElem_inj mem_filterMap any_eq_false length_cons append_nil nodup_cons of_mem_zip take_sublist filterMap_map length_drop length_set replicate_succ flatten_cons foldl_cons length_singleton nil_append any_cons length_nil map_nil forIn_cons lookup_cons all_eq_true not_mem_nil all_cons any_map map_map take_of_length_le take_add_one foldl_append mem_of_mem_erase length_erase_of_mem length_pos_of_mem take_append_of_le_length nodup_append any_eq_true mem_map_of_mem forIn_nil length_pos_iff getElem_mem set_cons_zero set_cons_succ foldl_nil pairwise_iff_getElem pairwise_append pairwise_cons drop_sublist pairwise_lt_range pairwise_map filterMap_cons_none filterMap_cons_some getElem_cons_succ eraseIdx_cons_succ eq_nil_of_length_eq_zero length_eraseIdx_of_lt range_succ ext_getElem? drop_drop take_append_drop mem_of_mem_take perm_append_comm drop_eq_nil_of_le mem_of_mem_drop drop_eq_getElem_cons extract_eq_drop_take take_take take_succ_eq_append_getElem drop_append_of_le_length drop_take zipIdx_cons getElem_set_self take_set_of_le drop_set_of_lt set_append_right eraseIdx_append_of_length_le drop_left take_left' drop_left' take_append drop_append countP_cons pairwise_singleton zip_cons_cons map_snd_zip cons_append nodup_nil length_zip reverse_perm forIn_toArray zip_map_right length_eq_zero_iff map_set cons_ne_nil take_succ drop_length map_const' map_congr_left take_left map_id map_take length_filter_le filter_append dropLast_concat_getLast map_eq_nil_iff zip_map_left map_fst_zip filter_cons filter_nil flatMap_append flatMap_cons flatMap_nil length_zipIdx zipIdx_append exists_mem_of_ne_nil mem_flatMap filter_sublist zipWith_append map_drop mem_or_eq_of_mem_set mem_set perm_middle perm_append_singleton)
open PySem.W (Frag nsIn findIn)
namespace L2
open PySem PySem.Spec PyProof.Rows
abbrev Key:=Sum Int Str
def J37:Key->Value->Bool
 | .inl k,v=>Value.isInt k v
 | .inr x,v=>Value.isStrOf x v
def Jeo (w:World):Key->Int
 | .inl k=>hashInt k
 | .inr x=>hashStr w x
theorem JM:∀ {k:Key} {v:Value},J37 k v=true->(∃ i t,k=Sum.inl i/\v=Value.int i t)\/(∃ x t,k=Sum.inr x/\v=Value.str x t)
 | .inl i,v,h=>by
   obtain ⟨t,e⟩:=Value.isInt_shape (k:=i) (v:=v) h;exact .inl ⟨i,t,rfl,e⟩
 | .inr x,v,h=>by
   obtain ⟨t,e⟩:=Value.isStrOf_shape (x:=x) (v:=v) h;exact .inr ⟨x,t,rfl,e⟩
theorem Jaf (i:Int)(t:Tok):J37 (.inl i) (.int i t)=true:=by simp [J37,Value.isInt]
theorem Jae (x:Str)(t:Tok):J37 (.inr x) (.str x t)=true:=by simp [J37,Value.isStrOf]
theorem JdT (a b:Int):decide ((Sum.inl a:Key)=Sum.inl b)=(a == b):=by
 by_cases e:a=b
 ·subst e;simp
 ·have h:¬ (Sum.inl a:Key)=Sum.inl b:=fun q=>e (Sum.inl.inj q)
  rw [yo h];exact (beq_eq_false_iff_ne.mpr e).symm
theorem JdQ (a b:Str):decide ((Sum.inr a:Key)=Sum.inr b)=decide (a=b):=by
 by_cases e:a=b
 ·subst e;simp
 ·have h:¬ (Sum.inr a:Key)=Sum.inr b:=fun q=>e (Sum.inr.inj q)
  rw [yo h,yo e]
theorem JdS (a:Int)(b:Str):decide ((Sum.inl a:Key)=Sum.inr b)=false:=yo (fun q=>nomatch q)
theorem JdR (a:Str)(b:Int):decide ((Sum.inr a:Key)=Sum.inl b)=false:=yo (fun q=>nomatch q)
def J0s (prog:Program)(w:World):PySem.KeyKind prog w Key where
 is:=J37
 hash:=Jeo w
 inj := fun v a b ha hb=>by
  rcases JM ha with ⟨i,t,rfl,rfl⟩ | ⟨x,t,rfl,rfl⟩
  ·rcases JM hb with ⟨j,u,rfl,e⟩ | ⟨y,u,rfl,e⟩
   ·injection e with e1 _;rw [e1]
   ·exact nomatch e
  ·rcases JM hb with ⟨j,u,rfl,e⟩ | ⟨y,u,rfl,e⟩
   ·exact nomatch e
   ·injection e with e1 _;rw [e1]
 byValue:=fun k v h=>by
  rcases JM h with ⟨i,t,rfl,rfl⟩ | ⟨x,t,rfl,rfl⟩<;>rfl
 pyHash:=fun hv h=>by
  rcases JM hv with ⟨i,t,rfl,rfl⟩ | ⟨x,t,rfl,rfl⟩
  ·exact wpAny_pyHash_int h
  ·exact wpAny_pyHash_str h
 eqBool:=fun hu hv h=>by
  rcases JM hu with ⟨i,t,rfl,rfl⟩ | ⟨x,t,rfl,rfl⟩
  ·rcases JM hv with ⟨j,u,rfl,rfl⟩ | ⟨y,u,rfl,rfl⟩
   ·rw [JdT] at h;exact wpAny_eqBool_int h
   ·rw [JdS] at h;exact SeqAt.EqAt.int_str i t y u _ _ _ _ h
  ·rcases JM hv with ⟨j,u,rfl,rfl⟩ | ⟨y,u,rfl,rfl⟩
   ·rw [JdR] at h;exact SeqAt.EqAt.str_int x t j u _ _ _ _ h
   ·rw [JdQ] at h;exact wpAny_eqBool_str h
 «strs»:=fun k x t v h=>by
  rcases JM h with ⟨i,u,rfl,e⟩ | ⟨y,u,rfl,e⟩
  ·exact nomatch e
  ·injection e with e1 _
   subst e1;cases v<;>rfl
theorem J7J (prog:Program)(w:World)(i:Int)(t:Tok):(J0s prog w).is (.inl i) (.int i t)=true:=Jaf i t
theorem J7I (prog:Program)(w:World)(x:Str)(t:Tok):(J0s prog w).is (.inr x) (.str x t)=true:=Jae x t
abbrev J0A:=Option Key
def nIs:J0A->Value->Bool
 | none,.none=>true
 | none,_=>false
 | some k,v=>J37 k v
def nH (w:World):J0A->Int
 | none=>reduceHash 0xFCA86420
 | some k=>Jeo w k
theorem J0u:∀ {k:J0A} {v:Value},nIs k v=true->(k=none/\v=Value.none)\/∃ q,k=some q/\J37 q v=true
 | none,v,h=>by cases v<;>first | exact .inl ⟨rfl,rfl⟩ | exact nomatch h
 | some k,v,h=>.inr ⟨k,rfl,h⟩
theorem J3H {q:Key}(h:J37 q Value.none=true):False:=by
 rcases JM h with ⟨_,_,_,e⟩ | ⟨_,_,_,e⟩<;>exact nomatch e
theorem J7A {prog:Program}{w:World}{A:Around}{E:Value->Shared->Prop}{s:Shared}{Q:Int->Shared->Prop}(h:Q (reduceHash 0xFCA86420) { s with toks:=s.toks+1 }):wpAny (model prog w) A (pyHash .none) Q E s :=
 PySem.W.pyHash_slot (T:="NoneType") rfl F.slot_NoneType_hash F.entry_NoneType_hash (F.args_NoneType_hash_1 _) (beq_builtin_none _) (.inl rfl) (yf (yg (yf (wpAny_mkInt (yg ⟨_,_,rfl,h⟩)))))
theorem J81 {prog:Program}{w:World}{A:Around}{E:Value->Shared->Prop}{s:Shared}{Q:Bool->Shared->Prop}(h:Q true s):wpAny (model prog w) A (eqBool .none .none) Q E s:=by
 unfold eqBool
 try with_reducible refine wpAny_holding ?_
 show wpAny _ _ (if (Value.none == Value.none)=true then _ else _) Q E s;rw [yi (by decide)];exact yf (wpAny_rule (yg h))
def J0c (prog:Program)(w:World):PySem.KeyKind prog w J0A where
 is:=nIs
 hash:=nH w
 inj := fun v a b ha hb=>by
  rcases J0u ha with ⟨rfl,rfl⟩ | ⟨q,rfl,hq⟩
  ·rcases J0u hb with ⟨rfl,_⟩ | ⟨q',rfl,hq'⟩
   ·rfl
   ·exact (J3H hq').elim
  ·rcases J0u hb with ⟨rfl,rfl⟩ | ⟨q',rfl,hq'⟩
   ·exact (J3H hq).elim
   ·rw [(J0s prog w).inj v q q' hq hq']
 byValue:=fun k v h=>by
  rcases J0u h with ⟨rfl,rfl⟩ | ⟨q,rfl,hq⟩
  ·rfl
  ·exact (J0s prog w).byValue q v hq
 pyHash:=fun hv h=>by
  rcases J0u hv with ⟨rfl,rfl⟩ | ⟨q,rfl,hq⟩
  ·exact J7A h
  ·exact (J0s prog w).pyHash hq h
 eqBool:=fun {A E s a b u v Q} hu hv h=>by
  rcases J0u hu with ⟨rfl,rfl⟩ | ⟨q,rfl,hq⟩
  ·rcases J0u hv with ⟨rfl,rfl⟩ | ⟨q',rfl,hq'⟩
   ·exact J81 (by simpa using h)
   ·have h':Q false s:=by simpa using h
    rcases JM hq' with ⟨i,t,rfl,rfl⟩ | ⟨x,t,rfl,rfl⟩
    ·exact SeqAt.EqAt.none_int i t _ _ _ _ h'
    ·exact SeqAt.EqAt.none_str x t _ _ _ _ h'
  ·rcases J0u hv with ⟨rfl,rfl⟩ | ⟨q',rfl,hq'⟩
   ·have h':Q false s:=by simpa using h
    rcases JM hq with ⟨i,t,rfl,rfl⟩ | ⟨x,t,rfl,rfl⟩
    ·exact SeqAt.EqAt.int_none i t _ _ _ _ h'
    ·exact SeqAt.EqAt.str_none x t _ _ _ _ h'
   ·refine (J0s prog w).eqBool hq hq' ?_
    have e:decide ((some q:J0A)=some q')=decide (q=q'):=by simp
    rw [<- e];exact h
 «strs»:=fun k x t v h=>by
  rcases J0u h with ⟨rfl,e⟩ | ⟨q,rfl,hq⟩
  ·exact nomatch e
  ·exact (J0s prog w).strs q x t v hq
inductive V where
 | non | bl (b:Bool) | int (i:Int) | str (x:Str) | byt (b:Array UInt8) | flt (b:UInt64) | ref (a:Addr) | ty (n:String)
 deriving DecidableEq
def RelV:V->Value->Prop
 | .non,u=>u=Value.none
 | .bl b,u=>u=Value.bool b
 | .int i,u=>∃ t,u=Value.int i t
 | .str x,u=>∃ t,u=Value.str x t
 | .byt b,u=>∃ t,u=Value.bytes b t
 | .flt b,u=>∃ t,u=Value.float b t
 | .ref a,u=>u=Value.ref a
 | .ty n,u=>u=Value.type n
abbrev Vals:List V->List Value->Prop:=Paired RelV
theorem Vals.length {xs:List V}{us:List Value}(r:Vals xs us):xs.length=us.length:=Paired.length r
theorem Vals.get:∀ {xs:List V} {us:List Value} {i:Nat} {x:V},Vals xs us->xs[i]?=some x->∃ u,us[i]?=some u/\RelV x u
 | _,_,_,_,.nil,e=>by simp at e
 | _,_,0,_,.cons r _,e=>by simp at e;subst e;exact ⟨_,rfl,r⟩
 | _,_,i+1,x,.cons _ t,e=>by
   obtain ⟨u,h1,h2⟩:=Vals.get (i:=i) (x:=x) t (by simpa using e);exact ⟨u,by simpa using h1,h2⟩
theorem Vals.set {x:V}{u:Value}(r:RelV x u):∀ {xs:List V} {us:List Value} (i:Nat),Vals xs us->Vals (xs.set i x) (us.set i u)
 | _,_,_,.nil=>.nil
 | _,_,0,.cons _ t=>.cons r t
 | _,_,i+1,.cons q t=>.cons q (Vals.set r i t)
theorem Vals.append:∀ {xs ys:List V} {us ws:List Value},Vals xs us->Vals ys ws->Vals (xs++ys) (us++ws)
 | _,_,_,_,.nil,s=>s
 | _,_,_,_,.cons r t,s=>.cons r (Vals.append t s)
theorem Vals.take:∀ {xs:List V} {us:List Value} (n:Nat),Vals xs us->Vals (xs.take n) (us.take n)
 | _,_,0,_=>.nil
 | _,_,_+1,.nil=>.nil
 | _,_,n+1,.cons r t=>.cons r (Vals.take n t)
theorem Vals.drop:∀ {xs:List V} {us:List Value} (n:Nat),Vals xs us->Vals (xs.drop n) (us.drop n)
 | _,_,0,r=>r
 | _,_,_+1,.nil=>.nil
 | _,_,n+1,.cons _ t=>Vals.drop n t
def RelO:Option V->Option Value->Prop
 | some v,some u=>RelV v u
 | none,none=>True
 | _,_=>False
def KV {κ:Type}:List (κ×V)->List (κ×Value)->Prop:=Paired fun (p:κ×V) (q:κ×Value)=>p.1=q.1/\RelV p.2 q.2
def kV:Key->V
 | .inl i=>.int i
 | .inr x=>.str x
def nV:J0A->V
 | none=>.non
 | some k=>kV k
inductive HO where
 | lst (xs:List V)
 | tup (xs:List V)
 | dK (kvs:List (Key×V)) | dT (kvs:List (List J0A×V))
 | set (S:Int->Bool) (n:Nat)
 | ins (C dx:Addr) (fs:List (Str×V))
 | own (x:Addr)
 | xd (fs:List (Str×V))
 | met (f x:Addr)
 | rng (lo hi:Int)
 | frz (o:Obj) (u:HO)
 | tbl (ps:Array Value)
 | ext (φ:Heap->Prop)
abbrev Hp:=Addr->Option HO
def upd (H:Hp)(a:Addr)(o:HO):Hp:=fun b=>if b=a then some o else H b
theorem J1 {H:Hp}{a:Addr}{o:HO}:upd H a o a=some o:=by unfold upd;rw [yi rfl]
theorem Jd {H:Hp}{a b:Addr}{o:HO}(h:b≠a):upd H a o b=H b:=by unfold upd;rw [yh h]
theorem J90 {H:Hp}{a:Addr}{o u:HO}:upd (upd H a o) a u=upd H a u:=by
 funext b;unfold upd;split<;>rfl
theorem J2F {H:Hp}{a b:Addr}{o u:HO}(h:H a=some o)(h':H b=some u)(d:o≠u):a≠b:=by
 intro e;subst e;rw [h] at h';exact d (yq h')
theorem Jh {H:Hp}{a b:Addr}{o:HO}(h:H a=some o)(h':H b=none):a≠b:=by
 intro e;subst e;rw [h] at h';cases h'
section
variable (P:Program)(w:World)
def ObjOk (H:Hp)(h:Heap)(a:Addr):HO->Prop
 | .lst xs=>xs.length<=sizeLine/\∃ (its:List Value) (n:Nat),Vals xs its/\h.get? a=some { cls:=.type "list",data:=.seq its.toArray n }
 | .tup xs=>xs.length<=sizeLine/\∃ its:List Value,Vals xs its/\IsTup h a its.toArray
 | .dK kvs=>kvs.length<=sizeLine/\(a == sysModules)=false/\∃ vs,KV kvs vs/\h.DictOf (J0s P w) a vs
 | .dT kvs=>kvs.length<=sizeLine/\(a == sysModules)=false/\∃ xs:List (List J0A×Addr×Value),
  Paired (fun (p:List J0A×V) (q:List J0A×Addr×Value)=>p.1=q.1/\H q.2.1=some (.tup (p.1.map nV))/\RelV p.2 q.2.2) kvs xs /\
  ∃ o es ep,h.get? a=some o/\o.ExactDict/\o.data=.dict es ep/\es.toList=xs.map (entryOfKey (tupleKind (J0c P w)))/\(xs.map (·.1)).Nodup
 | .set S n=>h.SetOf (intKind P w) a S n
 | .ins C dx fs=>H dx=some (.own a)/\fs.length<=1000/\dx≠a/\h.get? a=some (PySem.W.instObj C dx) /\
  ∃ mA,h.Ns1 dx mA/\(∀ f,RelO (fs.lookup f) (mA f))/\PySem.Within mA (fs.map (·.1))
 | .own _=>∃ o,h.get? a=some o
 | .xd fs=>∃ mA,h.Ns1 a mA/\∀ f,RelO (fs.lookup f) (mA f)
 | .rng lo hi=>∃ t u v,h.get? a=some { cls:=.type "range",data:=.fields #[.int lo t,.int hi u,.int 1 v] }
 | .frz o u=>h.get? a=some o/\ObjOk H h a u
 | .tbl ps=>h.get? a=some { cls:=.none,data:=.fields ps }
 | .met f x=>h.get? a=some (PySem.W.methodObj (.ref f) (.ref x))
 | .ext φ=>φ h/\(∃ o,h.get? a=some o)/\∀ h1 h2:Heap,φ h1->(∀ o,h1.get? a=some o->h2.get? a=some o)->φ h2
def HOk (H:Hp)(h:Heap):Prop:=∀ a o,H a=some o->ObjOk P w H h a o
end
section
variable {P:Program}{w:World}{H H':Hp}{h h':Heap}{a:Addr}{o:HO}
theorem ObjOk.lt (x:ObjOk P w H h a o):a<h.objs.size:=by
 cases o with
 | lst xs=>obtain ⟨_,_,_,_,e⟩:=x;exact y7 e
 | tup xs=>obtain ⟨_,_,_,p⟩:=x;exact p.lt
 | dK kvs=>obtain ⟨_,_,_,_,o,_,_,e,_⟩:=x;exact y7 e
 | dT kvs=>obtain ⟨_,_,_,_,o,_,_,e,_⟩:=x;exact y7 e
 | set S n=>obtain ⟨o,_,_,_,e,_⟩:=x;exact y7 e
 | ins C dx fs=>obtain ⟨_,_,_,e,_⟩:=x;exact y7 e
 | own y=>obtain ⟨_,e⟩:=x;exact y7 e
 | xd fs=>obtain ⟨_,⟨_,_,_,e,_⟩,_⟩:=x;exact y7 e
 | rng lo hi=>obtain ⟨_,_,_,e⟩:=x;exact y7 e
 | frz ob u=>obtain ⟨e,_⟩:=x;exact y7 e
 | tbl ps=>exact y7 (show h.get? a=some _ from x)
 | met f y=>exact y7 (show h.get? a=some _ from x)
 | ext φ=>obtain ⟨_,⟨_,e⟩,_⟩:=x;exact y7 e
theorem Paired.mapP {α β:Type}{F G:α->β->Prop}:∀ {l₁:List α} {l₂:List β},Paired F l₁ l₂->(∀ a b,F a b->G a b)->Paired G l₁ l₂
 | _,_,.nil,_=>.nil
 | _,_,.cons r t,f=>.cons (f _ _ r) (Paired.mapP t f)
theorem ObjOk.stay (x:ObjOk P w H h a o)(k:∀ b u,(b=a\/H b=some (.own a))->h.get? b=some u->h'.get? b=some u)
 (ho:∀ b,H b=some (.own a)->H' b=some (.own a)) (ht:∀ b xs,H b=some (.tup xs)->H' b=some (.tup xs)):ObjOk P w H' h' a o:=by
 induction o with
 | lst xs=>obtain ⟨z,its,n,r,e⟩:=x;exact ⟨z,its,n,r,k _ _ (.inl rfl) e⟩
 | tup xs=>obtain ⟨z,its,r,ob,e,c⟩:=x;exact ⟨z,its,r,ob,k _ _ (.inl rfl) e,c⟩
 | dK kvs=>obtain ⟨z,y,vs,r,ob,es,ep,e,c⟩:=x;exact ⟨z,y,vs,r,ob,es,ep,k _ _ (.inl rfl) e,c⟩
 | dT kvs =>
   obtain ⟨z,y,xs,r,ob,es,ep,e,c⟩:=x;exact ⟨z,y,xs,Paired.mapP r fun p q z=>⟨z.1,ht _ _ z.2.1,z.2.2⟩,ob,es,ep,k _ _ (.inl rfl) e,c⟩
 | set S n=>obtain ⟨ob,es,ep,t,e,c⟩:=x;exact ⟨ob,es,ep,t,k _ _ (.inl rfl) e,c⟩
 | ins C dx fs =>
   obtain ⟨d,z,ne,e,mA,⟨od,es,ep,e2,c⟩,r⟩:=x;exact ⟨ho _ d,z,ne,k _ _ (.inl rfl) e,mA,⟨od,es,ep,k _ _ (.inr d) e2,c⟩,r⟩
 | own y=>obtain ⟨ob,e⟩:=x;exact ⟨ob,k _ _ (.inl rfl) e⟩
 | xd fs=>obtain ⟨mA,⟨od,es,ep,e,c⟩,r⟩:=x;exact ⟨mA,⟨od,es,ep,k _ _ (.inl rfl) e,c⟩,r⟩
 | rng lo hi=>obtain ⟨t,u,v,e⟩:=x;exact ⟨t,u,v,k _ _ (.inl rfl) e⟩
 | frz ob u ih=>obtain ⟨e,q⟩:=x;exact ⟨k _ _ (.inl rfl) e,ih q⟩
 | tbl ps =>
   have e:h.get? a=some { cls:=.none,data:=.fields ps }:=x;show h'.get? a=some { cls:=.none,data:=.fields ps };exact k a _ (.inl rfl) e
 | met f y =>
   have e:h.get? a=some (PySem.W.methodObj (.ref f) (.ref y)):=x;show h'.get? a=some (PySem.W.methodObj (.ref f) (.ref y));exact k a _ (.inl rfl) e
 | ext φ=>obtain ⟨p,⟨o,e⟩,st⟩:=x;exact ⟨st _ _ p fun o q=>k _ _ (.inl rfl) q,⟨o,k _ _ (.inl rfl) e⟩,st⟩
theorem HOk.lt (x:HOk P w H h)(e:H a=some o):a<h.objs.size:=(x a o e).lt
theorem HOk.fresh (x:HOk P w H h)(e:h.objs.size<=a):H a=none:=by
 cases q:H a with
 | none=>rfl
 | some u=>exact absurd (yv (x.lt q) e) (Nat.lt_irrefl _)
theorem HOk.kept (x:HOk P w H h)(k:∀ b u,h.get? b=some u->h'.get? b=some u):HOk P w H h':=fun a o e =>
 (x a o e).stay (fun b u _ q=>k b u q) (fun _ q=>q) fun _ _ q=>q
theorem HOk.laid (x:HOk P w H h)(k:∀ b u,h.get? b=some u->h'.get? b=some u)(hp:h.objs.size<=a)(new:ObjOk P w (upd H a o) h' a o):HOk P w (upd H a o) h':=fun b u e=>by
 have hn:=x.fresh hp;by_cases hb:b=a
 ·subst hb;rw [J1] at e;cases e;exact new
 ·rw [Jd hb] at e
  exact (x b u e).stay (fun c v _ q=>k c v q) (fun c q=>by rw [Jd (Jh q hn)];exact q) fun c xs q=>by rw [Jd (Jh q hn)];exact q
end
def Rd (H:Hp)(a:Addr)(u:HO):Prop:=H a=some u\/∃ o,H a=some (.frz o u)
theorem Rd.ok {P:Program}{w:World}{H:Hp}{h:Heap}{a:Addr}{u:HO}(r:Rd H a u)(x:HOk P w H h):ObjOk P w H h a u:=by
 rcases r with r | ⟨o,r⟩
 ·exact x a u r
 ·obtain ⟨_,q⟩:=x a _ r
  exact q
def Mut:Option HO->Prop
 | some (.lst _)=>True
 | some (.dK _)=>True
 | some (.dT _)=>True
 | some (.set _ _)=>True
 | some (.ins _ _ _)=>True
 | some (.ext _)=>True
 | _=>False
section
variable {P:Program}{w:World}{H:Hp}{h h':Heap}{x e:Addr}{o':HO}
theorem HOk.write (ok:HOk P w H h)(mu:Mut (H x))(he:e=x\/H e=some (.own x))(k:∀ b u,b≠e->h.get? b=some u->h'.get? b=some u)(heo:∃ u,h'.get? e=some u)
 (new:ObjOk P w (upd H x o') h' x o'):HOk P w (upd H x o') h':=fun b u q=>by
 have nown:∀ c y,H c=some (.own y)->c≠x:=fun c y r z=>by subst z;rw [r] at mu;exact mu
 have ntup:∀ c xs,H c=some (.tup xs)->c≠x:=fun c xs r z=>by subst z;rw [r] at mu;exact mu
 by_cases hb:b=x
 ·subst hb;rw [J1] at q;cases q;exact new
 ·rw [Jd hb] at q
  by_cases hbe:b=e
  ·have q':H b=some (.own x):=by
    rcases he with z | z
    ·exact absurd (hbe.trans z) hb
    ·rw [hbe];exact z
   rw [q] at q';cases q';obtain ⟨v,hv⟩:=heo;exact ⟨v,by rw [hbe];exact hv⟩
  ·refine (ok b u q).stay (fun c v hc r=>k c v ?_ r) (fun c r=>by rw [Jd (nown c b r)];exact r) fun c xs r=>by rw [Jd (ntup c xs r)];exact r
   rcases hc with rfl | hc
   ·exact hbe
   ·rintro rfl
    rcases he with z | z
    ·exact nown c b hc z
    ·rw [hc] at z;cases z;exact hb rfl
end
structure Un (fs ex:List Addr)(H H':Hp)(h h':Heap):Prop where
 keep:∀ b o,h.get? b=some o->H b=none->b∉fs->b∉ex->h'.get? b=some o
 slot:∀ b o,h.get? b=some o->H b=none->b∈fs->b∉ex->∃ sl,h'.get? b=some { o with slots:=sl }
 free:∀ b o,h.get? b=some o->H b=none->b∉ex->H' b=none
 there:∀ b o,h.get? b=some o->b∉ex->∃ o',h'.get? b=some o'
 tups:∀ b xs,H b=some (.tup xs)->H' b=some (.tup xs)
 frzs:∀ b o u,H b=some (.frz o u)->H' b=some (.frz o u)
 tbls:∀ b ps,H b=some (.tbl ps)->∃ more,H' b=some (.tbl (ps++more))
section
variable {fs fs' ex ex':List Addr}{H H1 H2:Hp}{h h1 h2 h':Heap}{a x e:Addr}{o:HO}
theorem Un.any (u:Un fs ex H H1 h h1){b:Addr}{ob:Obj}(q:h.get? b=some ob)(n:H b=none)(hx:b∉ex):∃ sl,h1.get? b=some { ob with slots:=sl }:=by
 by_cases hb:b∈fs
 ·exact u.slot b ob q n hb hx
 ·exact ⟨ob.slots,u.keep b ob q n hb hx⟩
theorem Un.kept (k:∀ b u,h.get? b=some u->h'.get? b=some u):Un fs ex H H h h' :=
 ⟨fun b ob q _ _ _=>k b ob q,fun b ob q _ _ _=>⟨ob.slots,k b ob q⟩,fun _ _ _ n _=>n,fun b ob q _=>⟨ob,k b ob q⟩,fun _ _ q=>q,fun _ _ _ q=>q,fun _ ps q=>⟨#[],by rw [q];simp⟩⟩
theorem Un.refl:Un fs ex H H h h:=Un.kept fun _ _ q=>q
theorem Un.laid (k:∀ b u,h.get? b=some u->h'.get? b=some u)(hp:h.objs.size<=a)(hn:H a=none):Un fs ex H (upd H a o) h h' where
 keep:=fun b u q _ _ _=>k b u q
 slot:=fun b u q _ _ _=>⟨u.slots,k b u q⟩
 free:=fun b u q n _=>by rw [Jd (yr (yv (y7 q) hp))];exact n
 there:=fun b u q _=>⟨u,k b u q⟩
 tups:=fun b xs q=>by rw [Jd (Jh q hn)];exact q
 frzs:=fun b u xs q=>by rw [Jd (Jh q hn)];exact q
 tbls:=fun b ps q=>⟨#[],by rw [Jd (Jh q hn),q];simp⟩
theorem Un.write (mu:Mut (H x))(he:e=x\/H e=some (.own x))(k:∀ b u,b≠e->h.get? b=some u->h'.get? b=some u)(heo:∃ u,h'.get? e=some u):Un fs ex H (upd H x o) h h':=by
 have hx:∀ b,H b=none->b≠x:=fun b n z=>by subst z;rw [n] at mu;exact mu
 have hb:∀ b,H b=none->b≠e:=fun b n z=>by
  subst z;rcases he with r | r
  ·exact hx b n r
  ·rw [n] at r;cases r
 have hm:∀ b u,H b=some u->¬ Mut (some u)->b≠x:=fun b u q nm z=>by subst z;rw [q] at mu;exact nm mu
 refine ⟨fun b u q n _ _=>k b u (hb b n) q,fun b u q n _ _=>⟨u.slots,k b u (hb b n) q⟩,fun b u q n _=>by rw [Jd (hx b n)];exact n,fun b u q _=>?_,
  fun b xs q=>by rw [Jd (hm b _ q fun z=>z)];exact q,fun b u xs q=>by rw [Jd (hm b _ q fun z=>z)];exact q,fun b ps q=>⟨#[],by rw [Jd (hm b _ q fun z=>z),q];simp⟩⟩
 by_cases hbe:b=e
 ·subst hbe;exact heo
 ·exact ⟨u,k b u hbe q⟩
end
def trk (h:Heap)(H:Hp):List Addr:=(List.range h.objs.size).filter fun a=>(H a).isSome
def J7b (h:Heap)(H:Hp):Heap:=PySem.W.hideAll h (trk h H)
theorem Jam (h:Heap)(H:Hp):(J7b h H).objs.size=h.objs.size:=PySem.W.hideAll_size _ _
theorem JbE {h:Heap}{H:Hp}{b:Addr}{o:Obj}(e:h.get? b=some o)(n:H b=none):(J7b h H).get? b=some o :=
 PySem.W.hideAll_get _ e fun hm=>by
  have q:(H b).isSome=true:=(mem_filter.mp hm).2;rw [n] at q;simp at q
theorem JcH {h:Heap}{H:Hp}{b:Addr}{o:Obj}(e:(J7b h H).get? b=some o):h.get? b=some o/\H b=none:=by
 have e':h.get? b=some o:=PySem.W.of_hideAll (trk h H) e;refine ⟨e',?_⟩;cases q:H b with
 | none=>rfl
 | some x =>
   have hm:b∈trk h H:=mem_filter.mpr ⟨mem_range.mpr (y7 e'),by simp [q]⟩;have z:(J7b h H).get? b=none:=PySem.W.hideAll_none (trk h H) hm;rw [z] at e;cases e
structure Mod (K:Frag)(mg:Str->Option Value)(base:Heap):Prop where
 kin:K.In base
 glob:base.Ns mainGlobals mg
 blt:∃ mb,base.Ns builtinsNs mb/\∀ x:Str,x≠"__name__"->mb x=bootBuiltins x
 nolimit:base.NoLimit
structure Cx where
 prog:Program
 w:World
 K:Frag
 mg:Str->Option Value
 base:Heap
 A:Around
 N:List Str
 s₀:Shared
 H₀:Hp
 env:Env
 outer:List Env
 stack:List Env
 ex:List Addr
 fn:Str->Bool
 calm:Bool
 pn:List (Addr×Obj)
 xe:Value->Shared->Prop
def frs (l:List Env):List Addr:=l.filterMap (·.frame)
abbrev Cx.fs (X:Cx):List Addr:=frs X.outer
def Vis (sc:Scope)(x:Str):Prop:=sc.names.lookup x=some .local\/sc.names.lookup x=some .cell\/sc.names.lookup x=some .free
def Loc (sc:Scope)(x:Str):Prop:=sc.names.lookup x=some .local\/sc.names.lookup x=some .cell
def JeV (env:Env)(h:Heap)(m:Str->Option Value)(x:Str)(u:Value):Prop :=
 (env.kindOf x=some .local/\m x=some u)\/((env.kindOf x=some .cell\/env.kindOf x=some .free)/\∃ c,env.cells.lookup x=some c/\h.IsCell c (some u))
structure Cx.Ok (X:Cx):Prop where
 mod:Mod X.K X.mg X.base
 kind:X.env.scope.kind=.function
 glob:X.env.globals=mainGlobals
 blt:X.env.builtins=builtinsNs
 above:X.s₀.heap.objs.size<=X.env.locals
 inj:∀ x y c,X.env.cells.lookup x=some c->X.env.cells.lookup y=some c->x=y
 has:∀ x,(X.env.kindOf x=some .cell\/X.env.kindOf x=some .free)->∃ c,X.env.cells.lookup x=some c
 cab:∀ x c,X.fn x=true->X.env.cells.lookup x=some c->X.s₀.heap.objs.size<=c
 hd:X.calm=true->X.A.handled=none
 frames:X.A.frames=some X.stack
 stk:X.stack=X.outer\/(X.stack=X.env::X.outer/\X.env.frame=some X.env.locals)
 exf:∀ b∈X.ex,b≠X.env.locals/\∀ x c,X.env.cells.lookup x=some c->c≠b
 bs:∀ b o,X.base.get? b=some o->X.s₀.heap.get? b=some o/\X.H₀ b=none
 bsz:X.base.objs.size<=X.s₀.heap.objs.size
 noex:∀ b o,X.base.get? b=some o->b∉X.ex
 exfs:∀ b∈X.ex,b∉X.fs
 funs:X.s₀.heap.FunFrames X.base X.outer
 frf:∀ b∈X.fs,X.H₀ b=none
structure Inv (X:Cx)(pins:List (Addr×Obj))(σ:List (Option V))(H:Hp)(s:Shared):Prop where
 ok:X.Ok
 os:s.os=X.s₀.os
 bare:AllBare s.gens
 base:Un X.fs X.ex X.H₀ H X.s₀.heap s.heap
 loc:∃ m,s.heap.Ns X.env.locals m/\∀ (i:Nat) (x:Str) (v:V),X.N[i]?=some x->σ[i]?=some (some v)->Vis X.env.scope x->∃ u,RelV v u/\JeV X.env s.heap m x u
 cell:∀ x c,X.env.cells.lookup x=some c->∃ v,s.heap.IsCell c v
 free:H X.env.locals=none
 freeC:∀ x c,X.env.cells.lookup x=some c->H c=none
 pin:∀ p∈X.pn++pins,s.heap.get? p.1=some p.2/\H p.1=none/\p.1≠X.env.locals/\p.1∉X.fs/\∀ v,p.2.data≠.cell v
 hok:HOk X.prog X.w H s.heap
 len:σ.length=X.N.length
section
variable {X:Cx}{pins:List (Addr×Obj)}{σ:List (Option V)}{H H':Hp}{s:Shared}{h':Heap}
theorem Cx.Ok.nofr (ok:X.Ok){b:Addr}{o:Obj}(e:X.base.get? b=some o):b∉X.fs:=fun hb=>by
 have:=(ok.funs.mem hb).1;rw [e] at this;cases this
theorem Inv.bs (I:Inv X pins σ H s):∀ b o,X.base.get? b=some o->s.heap.get? b=some o/\H b=none:=fun b o e =>
 ⟨I.base.keep b o (I.ok.bs b o e).1 (I.ok.bs b o e).2 (I.ok.nofr e) (I.ok.noex b o e),I.base.free b o (I.ok.bs b o e).1 (I.ok.bs b o e).2 (I.ok.noex b o e)⟩
theorem Inv.bk (I:Inv X pins σ H s):∀ b o,X.base.get? b=some o->s.heap.get? b=some o:=fun b o e=>(I.bs b o e).1
theorem Inv.mod (I:Inv X pins σ H s):Mod X.K X.mg X.base:=I.ok.mod
theorem Inv.kIn (I:Inv X pins σ H s):X.K.In s.heap:=I.ok.mod.kin.keeps I.bk
theorem Inv.lt (I:Inv X pins σ H s):X.env.locals<s.heap.objs.size:=let ⟨_,hn,_⟩:=I.loc;hn.lt
theorem Inv.sz (I:Inv X pins σ H s):X.s₀.heap.objs.size<=s.heap.objs.size:=yx I.ok.above (Nat.le_of_lt I.lt)
theorem Inv.nofs (I:Inv X pins σ H s){a:Addr}(h:s.heap.objs.size<=a):a∉X.fs:=fun hb=>by
 obtain ⟨_,o,ho,_⟩:=I.ok.funs.mem hb;exact absurd (yv (y7 ho) (yx I.sz h)) (Nat.lt_irrefl _)
theorem Inv.cne (I:Inv X pins σ H s):∀ x c,X.env.cells.lookup x=some c->c≠X.env.locals:=fun x c e z=>by
 obtain ⟨v,o,ho,hd⟩:=I.cell x c e;obtain ⟨m,⟨o',es,ep,ho',hd',_⟩,_⟩:=I.loc;rw [z,ho'] at ho;cases ho;rw [hd'] at hd;cases hd
theorem Inv.funs (I:Inv X pins σ H s):s.heap.FunFrames X.base X.outer:=by
 have all:∀ (l:List Env),(∀ b∈frs l,b∈X.fs)->X.s₀.heap.FunFrames X.base l->s.heap.FunFrames X.base l:=by
  intro l
  induction l with
  | nil=>intro _ _;trivial
  | cons env r ih =>
    intro hs hl;obtain ⟨hk,⟨L,o,hf,hn,ho,hd⟩,hr⟩:=hl;have hL:L∈X.fs:=hs L (by unfold frs;rw [filterMap_cons,hf];exact yK);obtain ⟨sl,e⟩:=I.base.slot L o ho (I.ok.frf L hL) hL fun z=>I.ok.exfs L z hL;exact ⟨hk,⟨L,_,hf,hn,e,hd⟩,ih (fun b hb=>hs b (by unfold frs;rw [filterMap_cons,hf];exact yJ _ hb)) hr⟩
 exact all X.outer (fun _ hb=>hb) I.ok.funs
theorem Inv.stack (I:Inv X pins σ H s):s.heap.FunFrames X.base X.stack:=by
 rcases I.ok.stk with e | ⟨e,hf⟩
 ·rw [e];exact I.funs
 ·rw [e]
  obtain ⟨m,hn,_⟩:=I.loc;refine .cons (by rw [I.ok.kind];decide) hf hn ?_ I.funs;exact Heap.get?_none_of_le (yx I.ok.bsz I.ok.above)
theorem Inv.stkSub (I:Inv X pins σ H s):∀ b∈frs X.stack,b∈X.env.locals::X.fs:=fun b hb=>by
 rcases I.ok.stk with e | ⟨e,hf⟩
 ·rw [e] at hb;exact yJ _ hb
 ·rw [e] at hb
  unfold frs at hb;rw [filterMap_cons,hf] at hb;exact hb
theorem Inv.stkFree (I:Inv X pins σ H s):∀ b∈frs X.stack,H b=none:=fun b hb=>by
 rcases yL.mp (I.stkSub b hb) with e | hb
 ·rw [e];exact I.free
 ·obtain ⟨_,o,ho,_⟩:=I.ok.funs.mem hb
  exact I.base.free b o ho (I.ok.frf b hb) fun z=>I.ok.exfs b z hb
theorem Inv.step {g':Array GenState}{t':Nat}{d':Drawn}{ch:List Addr}(I:Inv X pins σ H s)
 (hch:∀ b∈ch,(b∈X.ex\/X.s₀.heap.objs.size<=b)/\b≠X.env.locals/\(∀ x c,X.env.cells.lookup x=some c->c≠b)/\∀ p∈X.pn++pins,p.1≠b)
 (keep:∀ b o,b≠X.env.locals->b∉X.fs->b∉ch->s.heap.get? b=some o->H b=none->h'.get? b=some o)
 (slot:∀ b o,b≠X.env.locals->b∈X.fs->b∉ch->s.heap.get? b=some o->H b=none->∃ sl,h'.get? b=some { o with slots:=sl }) (free:∀ b o,b∉ch->s.heap.get? b=some o->H b=none->H' b=none)
 (there:∀ b o,b∉ch->s.heap.get? b=some o->∃ o',h'.get? b=some o')
 (tups:∀ b xs,H b=some (.tup xs)->H' b=some (.tup xs)) (frzs:∀ b o u,H b=some (.frz o u)->H' b=some (.frz o u)) (tbls:∀ b ps,H b=some (.tbl ps)->∃ more,H' b=some (.tbl (ps++more)))
 (ns:∀ m,s.heap.Ns X.env.locals m->h'.Ns X.env.locals m) (hok:HOk X.prog X.w H' h') (hg:AllBare g') :
 Inv X pins σ H' { s with heap:=h',gens:=g',drawn:=d',toks:=t' }:=by
 have neL:∀ b o,X.s₀.heap.get? b=some o->b≠X.env.locals:=fun b o e=>yr (yv (y7 e) I.ok.above);have neC:∀ b o,X.s₀.heap.get? b=some o->b∉X.ex->b∉ch:=fun b o e hx hb=>by
  rcases (hch b hb).1 with z | z
  ·exact hx z
  ·exact absurd (yv (y7 e) z) (Nat.lt_irrefl _)
 have cellK:∀ x c,X.env.cells.lookup x=some c->∀ v,s.heap.IsCell c v->h'.IsCell c v:=fun x c e v ⟨o,ho,hd⟩=>by
  have nch:c∉ch:=fun z=>(hch c z).2.2.1 x c e rfl;by_cases hc:c∈X.fs
  ·obtain ⟨sl,q⟩:=slot c o (I.cne x c e) hc nch ho (I.freeC x c e)
   exact ⟨_,q,hd⟩
  ·exact ⟨o,keep c o (I.cne x c e) hc nch ho (I.freeC x c e),hd⟩
 refine ⟨I.ok,I.os,hg,⟨fun b o e n hb hx=>?_,fun b o e n hb hx=>?_,fun b o e n hx=>?_,fun b o e hx=>?_,fun b xs e=>tups b xs (I.base.tups b xs e),fun b o xs e=>frzs b o xs (I.base.frzs b o xs e),fun b ps e=>?_⟩,?_,fun x c e=>?_,?_,fun x c e=>?_,fun p hp=>?_,hok,I.len⟩
 ·exact keep b o (neL b o e) hb (neC b o e hx) (I.base.keep b o e n hb hx) (I.base.free b o e n hx)
 ·obtain ⟨sl,e1⟩:=I.base.slot b o e n hb hx
  obtain ⟨sl',e2⟩:=slot b _ (neL b o e) hb (neC b o e hx) e1 (I.base.free b o e n hx);exact ⟨sl',e2⟩
 ·obtain ⟨o',e1⟩:=I.base.there b o e hx
  exact free b o' (neC b o e hx) e1 (I.base.free b o e n hx)
 ·obtain ⟨o',e1⟩:=I.base.there b o e hx
  exact there b o' (neC b o e hx) e1
 ·obtain ⟨m1,e1⟩:=I.base.tbls b ps e
  obtain ⟨m2,e2⟩:=tbls b _ e1;exact ⟨m1++m2,by rw [e2,Array.append_assoc]⟩
 ·obtain ⟨m,hn,hl⟩:=I.loc
  refine ⟨m,ns m hn,fun i x v e1 e2 e3=>?_⟩;obtain ⟨u,r,l⟩:=hl i x v e1 e2 e3;refine ⟨u,r,?_⟩;rcases l with l | ⟨k,c,e,z⟩
  ·exact .inl l
  ·exact .inr ⟨k,c,e,cellK x c e _ z⟩
 ·obtain ⟨v,z⟩:=I.cell x c e
  exact ⟨v,cellK x c e v z⟩
 ·obtain ⟨m,⟨o,_,_,ho,_⟩,_⟩:=I.loc
  exact free _ o (fun z=>(hch _ z).2.1 rfl) ho I.free
 ·obtain ⟨v,o,ho,hd⟩:=I.cell x c e
  exact free c o (fun z=>(hch c z).2.2.1 x c e rfl) ho (I.freeC x c e)
 ·obtain ⟨e,n,ne,nf,d⟩:=I.pin p hp
  have nch:p.1∉ch:=fun z=>(hch p.1 z).2.2.2 p hp rfl;exact ⟨keep p.1 p.2 ne nf nch e n,free p.1 p.2 nch e n,ne,nf,d⟩
theorem Inv.un {t':Nat}(I:Inv X pins σ H s)(u:Un X.fs [] H H' s.heap h')(hok:HOk X.prog X.w H' h'):Inv X pins σ H' { s with heap:=h',toks:=t' }:=by
 obtain ⟨m,⟨o,es,ep,ho,r⟩,_⟩:=id I.loc;obtain ⟨sl,hL⟩:=u.any ho I.free (by simp);exact I.step (g':=s.gens) (d':=s.drawn) (ch:=[]) (fun _ z=>nomatch z) (fun b o _ hb _ e n=>u.keep b o e n hb (by simp)) (fun b o _ hb _ e n=>u.slot b o e n hb (by simp)) (fun b o _ e n=>u.free b o e n (by simp)) (fun b o _ e=>u.there b o e (by simp)) u.tups u.frzs u.tbls (fun m' hm=>by
  obtain ⟨o',es',ep',ho',r'⟩:=hm;rw [ho] at ho';cases ho';exact ⟨_,es',ep',hL,r'⟩) hok I.bare
theorem Inv.call {g':Array GenState}{t':Nat}{d':Drawn}{ch:List Addr}(I:Inv X pins σ H s)(u:Un (frs X.stack) ch H H' s.heap h')(hok:HOk X.prog X.w H' h')(hg:AllBare g')
 (hch:∀ b∈ch,(b∈X.ex\/X.s₀.heap.objs.size<=b)/\b≠X.env.locals/\(∀ x c,X.env.cells.lookup x=some c->c≠b)/\∀ p∈X.pn++pins,p.1≠b) :
 Inv X pins σ H' { s with heap:=h',gens:=g',drawn:=d',toks:=t' }:=by
 obtain ⟨m,⟨o,es,ep,ho,r⟩,_⟩:=id I.loc;obtain ⟨sl,hL⟩:=u.any ho I.free fun z=>(hch _ z).2.1 rfl;exact I.step (ch:=ch) hch (fun b o hL hb hc e n=>u.keep b o e n (fun z=>(yL.mp (I.stkSub b z)).elim hL hb) hc) (fun b o _ _ hc e n=>u.any e n hc) (fun b o hc e n=>u.free b o e n hc) (fun b o hc e=>u.there b o e hc) u.tups u.frzs u.tbls (fun m' hm=>by
  obtain ⟨o',es',ep',ho',r'⟩:=hm;rw [ho] at ho';cases ho';exact ⟨_,es',ep',hL,r'⟩) hok hg
theorem Inv.turned {t':Nat}{it:Addr}(I:Inv X pins σ H s)(k:∀ b o,b≠it->s.heap.get? b=some o->h'.get? b=some o)(hn:H it=none)(hL:it≠X.env.locals)
 (h1:it∈X.ex\/X.s₀.heap.objs.size<=it) (h2:∀ x c,X.env.cells.lookup x=some c->c≠it) (h3:∀ p∈X.pn++pins,p.1≠it):Inv X pins σ H { s with heap:=h',toks:=t' }:=by
 have nit:∀ b u,H b=some u->b≠it:=fun b u e z=>by rw [z,hn] at e;cases e
 refine I.step (g':=s.gens) (d':=s.drawn) (ch:=[it]) (fun b hb=>?_) (fun b o _ _ hc e _=>k b o (fun z=>hc (by simp [z])) e) (fun b o _ _ hc e _=>⟨o.slots,k b o (fun z=>hc (by simp [z])) e⟩) (fun _ _ _ _ n=>n)
  (fun b o hc e=>⟨o,k b o (fun z=>hc (by simp [z])) e⟩) (fun _ _ e=>e) (fun _ _ _ e=>e) (fun b ps e=>⟨#[],by rw [e];simp⟩) (fun m hm=>?_) (fun b u e=>?_) I.bare
 ·have e:b=it:=by simpa using hb
  subst e;exact ⟨h1,hL,h2,h3⟩
 ·obtain ⟨o,es,ep,ho,r⟩:=hm
  exact ⟨o,es,ep,k _ o (Ne.symm hL) ho,r⟩
 ·refine (I.hok b u e).stay (fun c v hc q=>k c v ?_ q) (fun _ q=>q) fun _ _ q=>q
  rcases hc with z | z
  ·rw [z];exact nit b u e
  ·exact nit c _ z
theorem Inv.tok (I:Inv X pins σ H s)(t:Nat):Inv X pins σ H { s with toks:=t }:=I.un (h':=s.heap) (t':=t) Un.refl I.hok
theorem Inv.kept {t':Nat}(I:Inv X pins σ H s)(k:∀ b u,s.heap.get? b=some u->h'.get? b=some u):Inv X pins σ H { s with heap:=h',toks:=t' }:=I.un (Un.kept k) (I.hok.kept k)
theorem Inv.laid {a:Addr}{o:HO}{t':Nat}(I:Inv X pins σ H s)(k:∀ b u,s.heap.get? b=some u->h'.get? b=some u)(hp:s.heap.objs.size<=a)(new:ObjOk X.prog X.w (upd H a o) h' a o) :
 Inv X pins σ (upd H a o) { s with heap:=h',toks:=t' }:=I.un (Un.laid k hp (I.hok.fresh hp)) (I.hok.laid k hp new)
theorem Inv.write {x e:Addr}{o:HO}{t':Nat}(I:Inv X pins σ H s)(mu:Mut (H x))(he:e=x\/H e=some (.own x))(k:∀ b u,b≠e->s.heap.get? b=some u->h'.get? b=some u)(heo:∃ u,h'.get? e=some u)
 (new:ObjOk X.prog X.w (upd H x o) h' x o):Inv X pins σ (upd H x o) { s with heap:=h',toks:=t' }:=I.un (Un.write mu he k heo) (I.hok.write mu he k heo new)
theorem Inv.pins_of {pins':List (Addr×Obj)}(I:Inv X pins σ H s)(h:∀ p∈pins',s.heap.get? p.1=some p.2/\H p.1=none/\p.1≠X.env.locals/\p.1∉X.fs/\∀ v,p.2.data≠.cell v):Inv X pins' σ H s :=
 ⟨I.ok,I.os,I.bare,I.base,I.loc,I.cell,I.free,I.freeC,fun p hp=>(yQ.mp hp).elim (fun z=>I.pin p (yS _ z)) (h p),I.hok,I.len⟩
theorem J7F {N:List Str}(hN:N.Nodup){i j:Nat}{x:Str}(a:N[i]?=some x)(b:N[j]?=some x):i=j:=by
 obtain ⟨h1,e1⟩:=yB.mp a;obtain ⟨h2,e2⟩:=yB.mp b;exact (getElem_inj hN).mp (e1.trans e2.symm)
theorem store_ok2 {M:Model}{A:Around}{E:Value->Shared->Prop}{i:Nat}{x:Str}{v:V}{u:Value}{Q:Unit->Shared->Prop}(I:Inv X pins σ H s)(hN:X.N.Nodup)(hi:X.N[i]?=some x)(hx:Loc X.env.scope x)(r:RelV v u)
 (h:∀ s',Inv X pins (σ.set i (some v)) H s'->(∃ a,Heap.SameBut a s.heap s'.heap/\(a=X.env.locals\/X.env.cells.lookup x=some a))->Q () s') (hf:X.fn x=true\/X.env.scope.names.lookup x=some .local:=by first | exact .inl rfl | exact .inr rfl | assumption):wpAny M A (storeName X.env x u) Q E s:=by
 obtain ⟨m,hn,hl⟩:=id I.loc;have hcls:(X.env.scope.kind == .class||(X.env.scope.kind == .module&&X.env.locals != X.env.globals))=false:=by rw [I.ok.kind];rfl
 have hiσ:i<σ.length:=by rw [I.len];exact (yB.mp hi).1
 have cne:=I.cne;have tracked:∀ {a:Addr} {h':Heap},(∃ o,s.heap.get? a=some o/\H a=none)->Heap.SameBut a s.heap h'->HOk X.prog X.w H h':=fun {a h'} ha hs b ob e=>by
  obtain ⟨_,_,hfree⟩:=ha;refine (I.hok b ob e).stay (fun c w' hc q=>(hs.2 c ?_).trans q) (fun _ q=>q) fun _ _ q=>q;rintro rfl;rcases hc with rfl | hc
  ·rw [hfree] at e;cases e
  ·rw [hfree] at hc;cases hc
 rcases hx with hk | hk
 ·refine wpAny_storeName_local hk hn (fun h' hn' hs=>?_) hcls
  obtain ⟨oL,_,_,hoL,_⟩:=id hn;refine h _ ⟨I.ok,I.os,I.bare,⟨fun b o e n hb hx=>?_,fun b o e n hb hx=>?_,I.base.free,fun b o e hx=>?_,I.base.tups,I.base.frzs,I.base.tbls⟩,⟨_,hn',fun j y v' e1 e2 e3=>?_⟩,fun y c e=>?_,I.free,I.freeC,fun p hp=>?_,tracked ⟨oL,hoL,I.free⟩ hs,by simpa using I.len⟩ ⟨_,hs,.inl rfl⟩
  ·exact (hs.2 b (yr (yv (y7 e) I.ok.above))).trans (I.base.keep b o e n hb hx)
  ·obtain ⟨sl,e1⟩:=I.base.slot b o e n hb hx
   exact ⟨sl,(hs.2 b (yr (yv (y7 e) I.ok.above))).trans e1⟩
  ·obtain ⟨o',e1⟩:=I.base.there b o e hx
   exact ⟨o',(hs.2 b (yr (yv (y7 e) I.ok.above))).trans e1⟩
  ·by_cases hj:j=i
   ·subst hj
    rw [hi] at e1;cases e1;rw [List.getElem?_set_self hiσ] at e2;cases e2;exact ⟨u,r,.inl ⟨hk,by simp⟩⟩
   ·rw [List.getElem?_set_ne (Ne.symm hj)] at e2
    obtain ⟨u',r',q⟩:=hl j y v' e1 e2 e3;refine ⟨u',r',?_⟩;rcases q with ⟨k,e⟩ | ⟨k,c,e,z⟩
    ·refine .inl ⟨k,?_⟩
     have:y≠x:=fun e=>hj (J7F hN e1 (e ▸ hi));simp [this,e]
    ·exact .inr ⟨k,c,e,z.sameBut hs (cne y c e)⟩
  ·obtain ⟨w',z⟩:=I.cell y c e
   exact ⟨w',z.sameBut hs (cne y c e)⟩
  ·obtain ⟨e,n,ne,nf,d⟩:=I.pin p hp
   exact ⟨(hs.2 p.1 ne).trans e,n,ne,nf,d⟩
 ·have hfn:X.fn x=true:=by
   rcases hf with z | z
   ·exact z
   ·rw [z] at hk;cases hk
  obtain ⟨c,hc⟩:=I.ok.has x (.inl hk);obtain ⟨w',z⟩:=I.cell x c hc;refine wpAny_storeName_cell I.ok.kind hk hc z (fun h' hc' hs=>?_);obtain ⟨oc,hoc,hocd⟩:=id z;refine h { s with heap:=h' } ⟨I.ok,I.os,I.bare,⟨fun b o e n hb hx=>?_,fun b o e n hb hx=>?_,I.base.free,fun b o e hx=>?_,I.base.tups,I.base.frzs,I.base.tbls⟩,⟨m,hn.sameBut hs (Ne.symm (cne x c hc)),fun j y v' e1 e2 e3=>?_⟩,fun y c' e=>?_,I.free,I.freeC,fun p hp=>?_,tracked ⟨oc,hoc,I.freeC x c hc⟩ hs,by simpa using I.len⟩ ⟨c,hs,.inr hc⟩
  ·exact (hs.2 b (yr (yv (y7 e) (I.ok.cab x c hfn hc)))).trans (I.base.keep b o e n hb hx)
  ·obtain ⟨sl,e1⟩:=I.base.slot b o e n hb hx
   exact ⟨sl,(hs.2 b (yr (yv (y7 e) (I.ok.cab x c hfn hc)))).trans e1⟩
  ·obtain ⟨o',e1⟩:=I.base.there b o e hx
   exact ⟨o',(hs.2 b (yr (yv (y7 e) (I.ok.cab x c hfn hc)))).trans e1⟩
  ·by_cases hj:j=i
   ·subst hj
    rw [hi] at e1;cases e1;rw [List.getElem?_set_self hiσ] at e2;cases e2;exact ⟨u,r,.inr ⟨.inl hk,c,hc,hc'⟩⟩
   ·rw [List.getElem?_set_ne (Ne.symm hj)] at e2
    obtain ⟨u',r',q⟩:=hl j y v' e1 e2 e3;refine ⟨u',r',?_⟩;rcases q with q | ⟨k,c',e,z'⟩
    ·exact .inl q
    ·refine .inr ⟨k,c',e,z'.sameBut hs ?_⟩
     rintro rfl;exact hj (J7F hN e1 (I.ok.inj _ _ _ e hc ▸ hi))
  ·by_cases hcc:c'=c
   ·subst hcc;exact ⟨_,hc'⟩
   ·obtain ⟨w2,z2⟩:=I.cell y c' e
    exact ⟨w2,z2.sameBut hs hcc⟩
  ·obtain ⟨e,n,ne,nf,d⟩:=I.pin p hp
   refine ⟨(hs.2 p.1 ?_).trans e,n,ne,nf,d⟩;intro q;rw [q,hoc] at e;have q':oc=p.2:=yq e;exact d w' (by rw [<- q'];exact hocd)
theorem J4Y {M:Model}{A:Around}{E:Value->Shared->Prop}{i:Nat}{x:Str}{v:V}{u:Value}{Q:Unit->Shared->Prop}(I:Inv X pins σ H s)(hN:X.N.Nodup)(hi:X.N[i]?=some x)(hx:Loc X.env.scope x)(r:RelV v u)
 (h:∀ s',Inv X pins (σ.set i (some v)) H s'->Q () s') (hf:X.fn x=true\/X.env.scope.names.lookup x=some .local:=by first | exact .inl rfl | exact .inr rfl | assumption):wpAny M A (storeName X.env x u) Q E s :=
 store_ok2 I hN hi hx r (fun s' I' _=>h s' I') hf
theorem Inv.call' {s':Shared}{ch:List Addr}(I:Inv X pins σ H s)(ho:s'.os=s.os)(u:Un (frs X.stack) ch H H' s.heap s'.heap)(hok:HOk X.prog X.w H' s'.heap)(hg:AllBare s'.gens)
 (hch:∀ b∈ch,(b∈X.ex\/X.s₀.heap.objs.size<=b)/\b≠X.env.locals/\(∀ x c,X.env.cells.lookup x=some c->c≠b)/\∀ p∈X.pn++pins,p.1≠b):Inv X pins σ H' s':=by
 obtain ⟨h',g',d',t',o'⟩:=s';have e:o'=s.os:=ho;subst e;exact I.call (g':=g') (t':=t') (d':=d') u hok hg hch
end
abbrev XK:=Value->Option Addr->Hp->Prop
abbrev St:=List (Option V)
abbrev VK:=V->Hp->Prop
abbrev TE:=St->Hp->VK->Prop
abbrev TT:=St->Hp->(Bool->Hp->Prop)->Prop
abbrev TA:=St->Hp->(List V->Hp->Prop)->Prop
structure Ends where
 nx:St->Hp->Prop
 rt:VK
 bk:St->Hp->Prop:=fun _ _=>False
 ct:St->Hp->Prop:=fun _ _=>False
abbrev TS:=Ends->St->Hp->Prop
def EP (X:Cx)(pins:List (Addr×Obj))(σ:St)(Q:VK)(u:Value)(s':Shared):Prop:=∃ v H',Inv X pins σ H' s'/\RelV v u/\Q v H'
def TP (X:Cx)(pins:List (Addr×Obj))(σ:St)(Q:Bool->Hp->Prop)(b:Bool)(s':Shared):Prop:=∃ H',Inv X pins σ H' s'/\Q b H'
def AP (X:Cx)(pins:List (Addr×Obj))(σ:St)(Q:List V->Hp->Prop)(us:List Value)(s':Shared):Prop:=∃ vs H',Inv X pins σ H' s'/\Vals vs us/\Q vs H'
def SP (X:Cx)(pins:List (Addr×Obj))(D:Ends)(f:Flow)(s':Shared):Prop :=
 match f with
 | .next=>∃ σ' H',Inv X pins σ' H' s'/\D.nx σ' H'
 | .brk=>∃ σ' H',Inv X pins σ' H' s'/\D.bk σ' H'
 | .cont=>∃ σ' H',Inv X pins σ' H' s'/\D.ct σ' H'
 | .ret u=>∃ v σ' H',Inv X pins σ' H' s'/\RelV v u/\D.rt v H'
def PE (X:Cx)(e:Expr)(t:TE):Prop :=
 ∀ (pins:List (Addr×Obj)) (s:Shared) (σ:St) (H:Hp) (Q:VK),Inv X pins σ H s->t σ H Q->wpAny (model X.prog X.w) X.A (eval e X.env) (EP X pins σ Q) X.xe s
def PT (X:Cx)(e:Expr)(t:TT):Prop :=
 ∀ (pins:List (Addr×Obj)) (s:Shared) (σ:St) (H:Hp) (Q:Bool->Hp->Prop),Inv X pins σ H s->t σ H Q->wpAny (model X.prog X.w) X.A (isTrue e X.env (eval e X.env)) (TP X pins σ Q) X.xe s
def PW (X:Cx)(e:Expr)(t:TT):Prop :=
 ∀ (whole:Sem Value) (pins:List (Addr×Obj)) (s:Shared) (σ:St) (H:Hp) (Q:Bool->Hp->Prop),Inv X pins σ H s->t σ H Q->wpAny (model X.prog X.w) X.A (isTrue e X.env whole) (TP X pins σ Q) X.xe s
theorem PW.pt {X:Cx}{e:Expr}{t:TT}(h:PW X e t):PT X e t:=h _
def PA (X:Cx)(es:List Expr)(t:TA):Prop :=
 ∀ (pos:Pos) (pins:List (Addr×Obj)) (s:Shared) (σ:St) (H:Hp) (Q:List V->Hp->Prop),Inv X pins σ H s->t σ H Q->wpAny (model X.prog X.w) X.A (spliced (backTo pos (starEach es X.env))) (AP X pins σ Q) X.xe s
def PS (X:Cx)(st:Stmt)(t:TS):Prop :=
 ∀ (pins:List (Addr×Obj)) (s:Shared) (σ:St) (H:Hp) (D:Ends),Inv X pins σ H s->t D σ H->wpAny (model X.prog X.w) X.A (exec st X.env) (SP X pins D) X.xe s
def PSs (X:Cx)(st:List Stmt)(t:TS):Prop :=
 ∀ (pins:List (Addr×Obj)) (s:Shared) (σ:St) (H:Hp) (D:Ends),Inv X pins σ H s->t D σ H->wpAny (model X.prog X.w) X.A (execs st X.env) (SP X pins D) X.xe s
theorem thn {α:Type}{t:Sem α}{Q Q':α->Shared->Prop}{M:Model}{A:Around}{E:Value->Shared->Prop}{s:Shared}(h:wpAny M A t Q E s)(hQ:∀ a s,Q a s->Q' a s):wpAny M A t Q' E s:=wpAny_mono h hQ fun _ _ x=>x
section
variable {X:Cx}
def J7m (i:Nat):TE:=fun σ H Q=>match σ[i]? with | some (some v)=>Q v H | _=>False
theorem Jck {i:Nat}{σ:St}{H:Hp}{Q:VK}(h:J7m i σ H Q):∃ v,σ[i]?=some (some v)/\Q v H:=by
 unfold J7m at h
 split at h
 ·rename_i v e;exact ⟨v,e,h⟩
 ·exact h.elim
def tC (v:V):TE:=fun _ H Q=>Q v H
theorem Jbj {i:Nat}{x:Str}{pos:Pos}(hN:X.N[i]?=some x)(hv:Vis X.env.scope x)(hd:(x == ("__debug__":Str))=false:=by decide)(hcd:(x == ("__classdict__":Str))=false:=by decide):PE X (.Name x pos) (J7m i):=by
 intro pins s σ H Q I h;obtain ⟨v,e,h⟩:=Jck h;obtain ⟨m,hn,hl⟩:=I.loc;obtain ⟨u,r,l⟩:=hl i x v hN e hv;have fin:EP X pins σ Q u s:=⟨v,H,I,r,h⟩;rcases l with ⟨hk,hm⟩ | ⟨hk,c,hc,hcell⟩
 ·exact wpAny_Name (wpAny_loadName_local I.ok.kind hk hn hm fin) hd
 ·rcases hk with hk | hk
  ·exact wpAny_Name (wpAny_loadName_cell I.ok.kind hk hc hcell fin) hd
  ·exact wpAny_Name (wpAny_loadName_free I.ok.kind hk hc hcell fin hcd) hd
theorem Je {i j pos}:PE X (.Constant (.int i) j pos) (tC (.int i)):=fun _ _ _ H _ I h=>wpAny_Constant_int ⟨.int i,H,I.tok _,⟨_,rfl⟩,h⟩
theorem J1T {b j pos}:PE X (.Constant (.bool b) j pos) (tC (.bl b)):=fun _ _ _ H _ I h=>Constant_bool ⟨.bl b,H,I,rfl,h⟩
theorem J5m {j pos}:PE X (.Constant .none j pos) (tC .non):=fun _ _ _ H _ I h=>Constant_none ⟨.non,H,I,rfl,h⟩
theorem J0p {x j pos}:PE X (.Constant (.str x) j pos) (tC (.str x)):=fun _ _ _ H _ I h=>Calls.Constant_str ⟨.str x,H,I.tok _,⟨_,rfl⟩,h⟩
def Gl (X:Cx)(x:Str):Prop:=X.env.kindOf x=some .globalImplicit
theorem J73 {E:Value->Shared->Prop}{pins:List (Addr×Obj)}{s:Shared}{σ:St}{H:Hp}{x:Str}{u:Value}{pos:Pos}{Q:Value->Shared->Prop}(I:Inv X pins σ H s)(hg:Gl X x)(hm:X.mg x=some u)(h:Q u s)
 (hd:(x == ("__debug__":Str))=false:=by decide):wpAny (model X.prog X.w) X.A (eval (.Name x pos) X.env) Q E s :=
 Calls.Name_function_global I.ok.kind hg (Calls.loadGlobal_global (by rw [I.ok.glob];exact I.mod.glob.keeps I.bk) hm h) hd
theorem J1L {E:Value->Shared->Prop}{pins:List (Addr×Obj)}{s:Shared}{σ:St}{H:Hp}{x:Str}{u:Value}{pos:Pos}{Q:Value->Shared->Prop}(I:Inv X pins σ H s)(hg:Gl X x)(hm:X.mg x=none)(hv:bootBuiltins x=some u)(h:Q u s)
 (hn:x≠"__name__":=by decide) (hd:(x == ("__debug__":Str))=false:=by decide):wpAny (model X.prog X.w) X.A (eval (.Name x pos) X.env) Q E s:=by
 obtain ⟨mb,h1,h2⟩:=I.mod.blt;exact Calls.Name_function_global I.ok.kind hg (Calls.loadGlobal_builtin (by rw [I.ok.glob];exact I.mod.glob.keeps I.bk) hm (by rw [I.ok.blt];exact h1.keeps I.bk) ((h2 x hn).trans hv) h) hd
theorem JcC {x:Str}{v:V}{u:Value}{pos:Pos}(hg:Gl X x)(hm:X.mg x=some u)(r:RelV v u)(hd:(x == ("__debug__":Str))=false:=by decide):PE X (.Name x pos) (tC v) :=
 fun _ _ _ H _ I h=>J73 I hg hm ⟨v,H,I,r,h⟩ hd
theorem JcF {x:Str}{v:V}{u:Value}{pos:Pos}(hg:Gl X x)(hm:X.mg x=none)(hv:bootBuiltins x=some u)(r:RelV v u)(hn:x≠"__name__":=by decide)(hd:(x == ("__debug__":Str))=false:=by decide):PE X (.Name x pos) (tC v) :=
 fun _ _ _ H _ I h=>J1L I hg hm hv ⟨v,H,I,r,h⟩ hn hd
variable {a b:Expr}{ta tb:TE}{pos:Pos}
def PC (X:Cx)(op:CmpOp)(a b:Expr)(t:TE):Prop :=
 ∀ (pins:List (Addr×Obj)) (s:Shared) (σ:St) (H:Hp) (Q:VK),Inv X pins σ H s->t σ H Q ->
   wpAny (model X.prog X.w) X.A (eval a X.env) (fun v s₁=>wpAny (model X.prog X.w) X.A (eval b X.env) (fun u s₂=>wpAny (model X.prog X.w) X.A (compareOp op v u) (EP X pins σ Q) X.xe s₂) X.xe s₁) X.xe s
def tB (t:TE):TT:=fun σ H Q=>t σ H fun x H1=>∃ c,x=.bl c/\Q c H1
theorem Jbd {op:CmpOp}{t:TE}(h:PC X op a b t)(h1:behindInMarks op b=false:=by first | exact nobehind _ (by decide) (by decide) | rfl):PT X (.Compare a [op] [b] pos) (tB t):=by
 intro pins s σ H Q I hw;refine wpAny_isTrue_Compare1 (thn (h pins s σ H _ I hw) fun v s1 h1=>thn h1 fun u s2 h2=>thn h2 fun c s3 ⟨x,H1,I1,r1,q1⟩=>?_) h1;obtain ⟨d,rfl,q⟩:=q1;cases r1;exact wpAny_truthy_bool ⟨H1,I1,q⟩
theorem J2B {e:Expr}{t:TE}(h:PE X e t)(he:∀ whole,isTrue e X.env whole=(do let v <- whole;standAt e.pos;holding [v] (truthy v)):=by intro _;rfl):PT X e (tB t):=by
 intro pins s σ H Q I hw;refine isTrue_plain (thn (h pins s σ H _ I hw) fun v s1 ⟨x,H1,I1,r1,q1⟩=>?_) (he _);obtain ⟨d,rfl,q⟩:=q1;cases r1;exact wpAny_truthy_bool ⟨H1,I1,q⟩
variable {tA tB':TT}{rest:List Expr}
def Jcl (t u:TT):TT:=fun σ H Q=>t σ H fun c H1=>if c=true then u σ H1 Q else Q false H1
def tOr (t u:TT):TT:=fun σ H Q=>t σ H fun c H1=>if c=true then Q true H1 else u σ H1 Q
def Jdn (t:TT):TT:=fun σ H Q=>t σ H fun c H1=>Q (!c) H1
theorem J3y (ha:PT X a tA):PW X (.BoolOp .And [a] pos) tA:=by
 intro wh pins s σ H Q I h;refine isTrue_and (thn (ha pins s σ H Q I h) fun c s1 e=>?_);cases c with
 | true=>exact isTrue_and_nil e
 | false=>exact e
theorem J5d (ha:PT X a tA):PW X (.BoolOp .Or [a] pos) tA:=by
 intro wh pins s σ H Q I h;refine isTrue_or (thn (ha pins s σ H Q I h) fun c s1 e=>?_);cases c with
 | false=>exact isTrue_or_nil e
 | true=>exact e
theorem J5e (ha:PT X a tA)(hb:PW X (.BoolOp .And (b::rest) pos) tB'):PW X (.BoolOp .And (a::b::rest) pos) (Jcl tA tB'):=by
 intro wh pins s σ H Q I h;refine isTrue_and (thn (ha pins s σ H _ I h) fun c s1 ⟨H1,I1,q1⟩=>?_);cases c with
 | true=>exact hb wh pins s1 σ H1 Q I1 q1
 | false=>exact ⟨H1,I1,q1⟩
theorem J7B (ha:PT X a tA)(hb:PW X (.BoolOp .Or (b::rest) pos) tB'):PW X (.BoolOp .Or (a::b::rest) pos) (tOr tA tB'):=by
 intro wh pins s σ H Q I h;refine isTrue_or (thn (ha pins s σ H _ I h) fun c s1 ⟨H1,I1,q1⟩=>?_);cases c with
 | true=>exact ⟨H1,I1,q1⟩
 | false=>exact hb wh pins s1 σ H1 Q I1 q1
theorem J2C (ha:PT X a tA):PT X (.UnaryOp .Not a pos) (Jdn tA):=by
 intro pins s σ H Q I h;exact isTrue_not (ha pins s σ H (fun c H1=>Q (!c) H1) I h)
def JaP (ta tb:TE):TE:=fun σ H Q=>ta σ H fun x H1=>∃ c,x=.bl c/\if c=true then tb σ H1 Q else Q (.bl false) H1
def Jdm (ta tb:TE):TE:=fun σ H Q=>ta σ H fun x H1=>∃ c,x=.bl c/\if c=true then Q (.bl true) H1 else tb σ H1 Q
theorem J8x {op}{t:TE}(h:PE X a t):PE X (.BoolOp op [a] pos) t:=fun pins s σ H Q I hw=>BoolOp_one (h pins s σ H Q I hw)
theorem Jbn (ha:PE X a ta)(hb:PE X (.BoolOp .And (b::rest) pos) tb):PE X (.BoolOp .And (a::b::rest) pos) (JaP ta tb):=by
 intro pins s σ H Q I h;refine BoolOp_and (thn (ha pins s σ H _ I h) fun v s1 ⟨x,H1,I1,r1,q1⟩=>?_);obtain ⟨c,rfl,q1⟩:=q1;cases r1;refine wpAny_truthy_bool ?_;cases c with
 | true=>exact hb pins s1 σ H1 Q I1 q1
 | false=>exact ⟨.bl false,H1,I1,rfl,q1⟩
theorem Jeh (ha:PE X a ta)(hb:PE X (.BoolOp .Or (b::rest) pos) tb):PE X (.BoolOp .Or (a::b::rest) pos) (Jdm ta tb):=by
 intro pins s σ H Q I h;refine BoolOp_or (thn (ha pins s σ H _ I h) fun v s1 ⟨x,H1,I1,r1,q1⟩=>?_);obtain ⟨c,rfl,q1⟩:=q1;cases r1;refine wpAny_truthy_bool ?_;cases c with
 | false=>exact hb pins s1 σ H1 Q I1 q1
 | true=>exact ⟨.bl true,H1,I1,rfl,q1⟩
def tIf (t:TT)(ta tb:TE):TE:=fun σ H Q=>t σ H fun c H1=>if c=true then ta σ H1 Q else tb σ H1 Q
theorem J5n {c:Expr}(hc:PT X c tA)(ha:PE X a ta)(hb:PE X b tb):PE X (.IfExp c a b pos) (tIf tA ta tb):=by
 intro pins s σ H Q I h;refine wpAny_IfExp (thn (hc pins s σ H _ I h) fun d s1 ⟨H1,I1,q1⟩=>?_);cases d with
 | true=>exact ha pins s1 σ H1 Q I1 q1
 | false=>exact hb pins s1 σ H1 Q I1 q1
end
def SqL (K:Frag)(H:Hp)(a:Addr)(xs:List V):Prop :=
 Rd H a (.lst xs) \/
  ∃ (o:Obj) (its:Array Value) (n:Nat),K.lookup a=some o/\o.cls=.type "list"/\o.dict=none/\o.data=.seq its n/\its.size<=sizeLine/\Vals xs its.toList
def SqT (K:Frag)(H:Hp)(a:Addr)(xs:List V):Prop :=
 Rd H a (.tup xs) \/
  ∃ (o:Obj) (its:Array Value) (n:Nat),K.lookup a=some o/\o.cls=.type "tuple"/\o.data=.seq its n/\its.size<=sizeLine/\Vals xs its.toList
def JeO:Value->Option V
 | .none=>some .non
 | .bool b=>some (.bl b)
 | .int i _=>some (.int i)
 | .str x _=>some (.str x)
 | .bytes b _=>some (.byt b)
 | .float b _=>some (.flt b)
 | .ref a=>some (.ref a)
 | .type n=>some (.ty n)
 | _=>none
theorem RelV.abs {x:V}{u:Value}(r:RelV x u):JeO u=some x:=by
 cases x with
 | non=>cases r;rfl
 | bl _=>cases r;rfl
 | int _=>obtain ⟨t,rfl⟩:=r;rfl
 | str _=>obtain ⟨t,rfl⟩:=r;rfl
 | byt _=>obtain ⟨t,rfl⟩:=r;rfl
 | flt _=>obtain ⟨t,rfl⟩:=r;rfl
 | ref _=>cases r;rfl
 | ty _=>cases r;rfl
theorem RelV.inj {x y:V}{u:Value}(r:RelV x u)(q:RelV y u):x=y:=yq (r.abs.symm.trans q.abs)
theorem Vals.inj:∀ {xs ys:List V} {us:List Value},Vals xs us->Vals ys us->xs=ys
 | _,_,_,.nil,.nil=>rfl
 | _,_,_,.cons r t,.cons r' t'=>by rw [r.inj r',Vals.inj t t']
section
variable {X:Cx}{pins:List (Addr×Obj)}{σ:St}{H:Hp}{s:Shared}{a:Addr}{xs ys:List V}
theorem SqL.of {K:Frag}(h:H a=some (.lst xs)):SqL K H a xs:=.inl (.inl h)
theorem SqT.of {K:Frag}(h:H a=some (.tup xs)):SqT K H a xs:=.inl (.inl h)
theorem Inv.list (I:Inv X pins σ H s)(h:SqL X.K H a xs):∃ its:List Value,Vals xs its/\PlainL s.heap a its.toArray/\xs.length<=sizeLine:=by
 rcases h with h | ⟨o,its,n,hk,hc,hd,hs,hz,r⟩
 ·obtain ⟨z,its,n,r,e⟩:=h.ok I.hok
  exact ⟨its,r,⟨_,n,e,rfl,rfl,rfl⟩,z⟩
 ·refine ⟨its.toList,r,⟨o,n,I.kIn a o hk,hc,hd,by simpa using hs⟩,?_⟩
  have e:=r.length;simp only [yz] at e;omega
theorem Inv.tuple (I:Inv X pins σ H s)(h:SqT X.K H a xs):∃ its:List Value,Vals xs its/\IsTup s.heap a its.toArray/\xs.length<=sizeLine:=by
 rcases h with h | ⟨o,its,n,hk,hc,hs,hz,r⟩
 ·obtain ⟨z,its,r,p⟩:=h.ok I.hok
  exact ⟨its,r,p,z⟩
 ·refine ⟨its.toList,r,⟨o,I.kIn a o hk,hc,n,by simpa using hs⟩,?_⟩
  have e:=r.length;simp only [yz] at e;omega
theorem Inv.list_inj (I:Inv X pins σ H s)(h:SqL X.K H a xs)(h':SqL X.K H a ys):xs=ys:=by
 obtain ⟨its,r,⟨o,n,e,_,_,d⟩,_⟩:=I.list h;obtain ⟨its',r',⟨o',n',e',_,_,d'⟩,_⟩:=I.list h';rw [e] at e';cases e';rw [d] at d';injection d' with d1 _
 have:its=its':=by simpa using congrArg Array.toList d1
 subst this;exact r.inj r'
end
abbrev Cx.wish (X:Cx)(E:Value->Shared->Prop):Cx:={ X with xe:=E }
abbrev Cx.nox (X:Cx):Cx:=X.wish fun _ _=>False
theorem Cx.Ok.wish {X:Cx}(ok:X.Ok)(E:Value->Shared->Prop):(X.wish E).Ok :=
 ⟨ok.mod,ok.kind,ok.glob,ok.blt,ok.above,ok.inj,ok.has,ok.cab,ok.hd,ok.frames,ok.stk,ok.exf,ok.bs,ok.bsz,ok.noex,ok.exfs,ok.funs,ok.frf⟩
theorem Cx.Ok.unwish {X:Cx}{E:Value->Shared->Prop}(ok:(X.wish E).Ok):X.Ok :=
 ⟨ok.mod,ok.kind,ok.glob,ok.blt,ok.above,ok.inj,ok.has,ok.cab,ok.hd,ok.frames,ok.stk,ok.exf,ok.bs,ok.bsz,ok.noex,ok.exfs,ok.funs,ok.frf⟩
section
variable {X:Cx}{pins:List (Addr×Obj)}{σ:St}{H:Hp}{s:Shared}{E:Value->Shared->Prop}
theorem Inv.wish (I:Inv X pins σ H s)(E:Value->Shared->Prop):Inv (X.wish E) pins σ H s:=⟨I.ok.wish E,I.os,I.bare,I.base,I.loc,I.cell,I.free,I.freeC,I.pin,I.hok,I.len⟩
theorem Inv.unwish (I:Inv (X.wish E) pins σ H s):Inv X pins σ H s:=⟨I.ok.unwish,I.os,I.bare,I.base,I.loc,I.cell,I.free,I.freeC,I.pin,I.hok,I.len⟩
theorem SP.unwish {D:Ends}{f:Flow}{s':Shared}(h:SP (X.wish E) pins D f s'):SP X pins D f s':=by
 cases f with
 | next=>obtain ⟨σ',H',I,q⟩:=h;exact ⟨σ',H',I.unwish,q⟩
 | brk=>obtain ⟨σ',H',I,q⟩:=h;exact ⟨σ',H',I.unwish,q⟩
 | cont=>obtain ⟨σ',H',I,q⟩:=h;exact ⟨σ',H',I.unwish,q⟩
 | ret u=>obtain ⟨v,σ',H',I,r,q⟩:=h;exact ⟨v,σ',H',I.unwish,r,q⟩
theorem PSs.nox {st:List Stmt}{t:TS}(h:PSs X.nox st t):PSs X st t:=fun pins s σ H D I hw =>
 wpAny_mono (h pins s σ H D (I.wish _) hw) (fun _ _ q=>q.unwish) fun _ _ z=>yy z
end
section
variable {X:Cx}{st:Stmt}{rest:List Stmt}{t u:TS}{e:Expr}{te:TE}{pos:Pos}
def JaH:TS:=fun D σ H=>D.nx σ H
def J0r (t u:TS):TS:=fun D σ H=>t { D with nx:=u D } σ H
theorem JC:PSs X [] JaH:=fun _ _ σ H _ I h=>wpAny_execs_nil ⟨σ,H,I,h⟩
theorem Jc (h1:PS X st t)(h2:PSs X rest u):PSs X (st::rest) (J0r t u):=by
 intro pins s σ H D I h;refine wpAny_execs_cons (thn (h1 pins s σ H { D with nx:=u D } I h) fun f s1 q=>?_);cases f with
 | next =>
   obtain ⟨σ',H',I',q⟩:=q;exact h2 pins s1 σ' H' D I' q
 | ret v=>exact q
 | brk=>exact q
 | cont=>exact q
theorem Jg (h1:PS X st t):PSs X [st] t:=by
 intro pins s σ H D I h;refine wpAny_execs_cons (thn (h1 pins s σ H D I h) fun f s1 q=>?_);cases f with
 | next=>exact wpAny_execs_nil q
 | ret v=>exact q
 | brk=>exact q
 | cont=>exact q
def JaM:TS:=fun D σ H=>D.bk σ H
theorem Jbf:PS X (.Break pos) JaM:=fun _ _ σ H _ I h=>wpAny_Break ⟨σ,H,I,h⟩
theorem Inv.quiet {pins:List (Addr×Obj)}{σ:St}{H:Hp}{s:Shared}(I:Inv X pins σ H s):interactive X.env=false:=by simp [interactive,I.ok.kind]
def J4h (te:TE):TS:=fun D σ H=>te σ H fun _ H1=>D.nx σ H1
theorem J05 (he:PE X e te)(hs:swapsWith e none pos.line X.env=pure false:=by rfl):PS X (.Expr e pos) (J4h te):=by
 intro pins s σ H D I h;exact wpAny_Expr_any (thn (he pins s σ H _ I h) fun v s1 ⟨x,H1,I1,r1,q1⟩=>⟨σ,H1,I1,q1⟩) I.quiet hs
def J3m (te:TE):TS:=fun D σ H=>te σ H D.rt
theorem Jx (he:PE X e te):PS X (.Return (some e) pos) (J3m te):=by
 intro pins s σ H D I h;exact wpAny_Return_some (thn (he pins s σ H _ I h) fun v s1 ⟨x,H1,I1,r1,q1⟩=>⟨x,σ,H1,I1,r1,q1⟩)
def J4s (c:TT)(t u:TS):TS:=fun D σ H=>c σ H fun b H1=>if b=true then t D σ H1 else u D σ H1
theorem J0n {c:Expr}{a b:List Stmt}{tc:TT}(hc:PT X c tc)(ha:PSs X a t)(hb:PSs X b u):PS X (.If c a b pos) (J4s tc t u):=by
 intro pins s σ H D I h;refine wpAny_If (thn (hc pins s σ H _ I h) fun d s1 ⟨H1,I1,q1⟩=>?_);cases d with
 | true=>exact ha pins s1 σ H1 D I1 q1
 | false=>exact hb pins s1 σ H1 D I1 q1
def Jdo:TS:=fun _ _ _=>False
theorem J1S:PS X st Jdo:=fun _ _ _ _ _ _ h=>h.elim
end
abbrev TG:=V->St->Hp->(St->Hp->Prop)->Prop
abbrev TGs:=List V->St->Hp->(St->Hp->Prop)->Prop
def PG (X:Cx)(target:Expr)(t:TG):Prop :=
 ∀ (pins:List (Addr×Obj)) (s:Shared) (σ:St) (H:Hp) (v:V) (u:Value) (Q:St->Hp->Prop),Inv X pins σ H s->RelV v u->t v σ H Q ->
   wpAny (model X.prog X.w) X.A (assign target X.env u) (fun _ s'=>∃ σ' H',Inv X pins σ' H' s'/\Q σ' H') X.xe s
def PGs (X:Cx)(ts:List Expr)(t:TGs):Prop :=
 ∀ (pins:List (Addr×Obj)) (s:Shared) (σ:St) (H:Hp) (vs:List V) (us:List Value) (Q:St->Hp->Prop),Inv X pins σ H s->Vals vs us->t vs σ H Q ->
   wpAny (model X.prog X.w) X.A (assignInOrder ((assignEach ts X.env).map (·.2)) us) (fun _ s'=>∃ σ' H',Inv X pins σ' H' s'/\Q σ' H') X.xe s
abbrev Jcf:=V->V->V->Hp->(Hp->Prop)->Prop
def Jd3 (X:Cx)(t:Jcf):Prop :=
 ∀ (pins:List (Addr×Obj)) (s:Shared) (σ:St) (H:Hp) (o i v:V) (ov iv u:Value) (Q:Hp->Prop),Inv X pins σ H s->RelV o ov->RelV i iv->RelV v u->t o i v H Q ->
   wpAny (model X.prog X.w) X.A (setItem ov iv u) (fun _ s'=>∃ H',Inv X pins σ H' s'/\Q H') X.xe s
abbrev TIp:=V->V->Hp->VK->Prop
def PIp (X:Cx)(op:Operator)(t:TIp):Prop :=
 ∀ (pins:List (Addr×Obj)) (s:Shared) (σ:St) (H:Hp) (x y:V) (v u:Value) (Q:VK),Inv X pins σ H s->RelV x v->RelV y u->t x y H Q ->
   wpAny (model X.prog X.w) X.A (inplaceOp op v u) (EP X pins σ Q) X.xe s
section
variable {X:Cx}{pos:Pos}
def J01 (i:Nat):TG:=fun v σ H Q=>Q (σ.set i (some v)) H
theorem J9h {i:Nat}{x:Str}(hN:X.N.Nodup)(hi:X.N[i]?=some x)(hx:Loc X.env.scope x)(hf:X.fn x=true\/X.env.scope.names.lookup x=some .local:=by first | exact .inl rfl | exact .inr rfl | assumption):PG X (.Name x pos) (J01 i):=by
 intro pins s σ H v u Q I r h;exact wpAny_assign_Name (J4Y I hN hi hx r (fun s' I'=>⟨_,H,I',h⟩) hf)
def J2g:TGs:=fun vs σ H Q=>vs=[]/\Q σ H
def J0O (t:TG)(u:TGs):TGs:=fun vs σ H Q=>∃ v r,vs=v::r/\t v σ H fun σ' H'=>u r σ' H' Q
theorem J0w:PGs X [] J2g:=by
 intro pins s σ H vs us Q I r h;obtain ⟨e,h⟩:=h;subst e;cases r;exact assignInOrder_nil ⟨σ,H,I,h⟩
theorem Jq {e:Expr}{es:List Expr}{t:TG}{u:TGs}(h1:PG X e t)(h2:PGs X es u)
 (hs:(assignEach (e::es) X.env).map (·.2)=assign e X.env::(assignEach es X.env).map (·.2):=by rfl):PGs X (e::es) (J0O t u):=by
 intro pins s σ H vs us Q I r h;obtain ⟨v,vr,e1,h⟩:=h;subst e1;cases r with
 | cons r rr =>
   rw [hs];refine assignInOrder_cons (thn (h1 pins s σ H _ _ _ I r h) fun _ s1 ⟨σ1,H1,I1,q1⟩=>?_);exact h2 pins s1 σ1 H1 _ _ Q I1 rr q1
def JcQ (K:Frag)(n:Nat)(t:TGs):TG:=fun v σ H Q=>∃ a xs,v=.ref a/\SqT K H a xs/\xs.length=n/\t xs σ H Q
theorem JdC {es:List Expr}{k:Nat}{t:TGs}{n:Nat}(hc:X.calm=true)(h:PGs X es t)
 (hn:(assignEach es X.env).length=n:=by rfl) (hst:(assignEach es X.env).findIdx? (·.1)=none:=by rfl):PG X (.Tuple es k pos) (JcQ X.K n t):=by
 intro pins s σ H v u Q I r hw;obtain ⟨a,xs,e1,hq,hl,hw⟩:=hw;subst e1;cases r;obtain ⟨its,rv,ht,hz⟩:=I.tuple hq;refine assign_Tuple_tuple (I.ok.hd hc) ht (by simp [hn,<- hl,rv.length]) hst fun h' hx=>?_;have I1:Inv X pins σ H { s with heap:=h' }:=I.kept (t':=s.toks) fun b o e=>hx b o (yr (y7 e)) e;exact h pins _ σ H xs _ Q I1 (by simpa using rv) hw
def JdY (to ti:TE)(t:Jcf):TG:=fun v σ H Q=>to σ H fun o H1=>ti σ H1 fun i H2=>t o i v H2 fun H3=>Q σ H3
theorem JdD {o i:Expr}{to ti:TE}{t:Jcf}(ho:PE X o to)(hi:PE X i ti)(hs:Jd3 X t)
 (ha:∀ v,assign (.Subscript o i pos) X.env v=(do
  let ov <- holding [v] (eval o X.env)
  let iv <- holding [v,ov] (eval i X.env)
  standAt pos
  holding [v,ov,iv] (setItem ov iv v)
  release [v,ov,iv] []):=by intro _;rfl):PG X (.Subscript o i pos) (JdY to ti t):=by
 intro pins s σ H v u Q I r h;rw [ha];refine yf (wpAny_holding (thn (ho pins s σ H _ I h) fun ov s1 ⟨x,H1,I1,r1,q1⟩=>?_));refine yf (wpAny_holding (thn (hi pins s1 σ H1 _ I1 q1) fun iv s2 ⟨y,H2,I2,r2,q2⟩=>?_));refine yf (wpAny_standAt (yf (wpAny_holding (thn (hs pins s2 σ H2 x y v ov iv u _ I2 r1 r2 r q2) fun _ s3 ⟨H3,I3,q3⟩=>?_))));exact wpAny_release ⟨σ,H3,I3,q3⟩
def J2q (te:TE)(g:TG):TS:=fun D σ H=>te σ H fun x H1=>g x σ H1 D.nx
theorem Jdy {tg e:Expr}{te:TE}{g:TG}(he:PE X e te)(hg:PG X tg g)(hs:swapsWithSole [tg] e pos.line X.env=pure false:=by rfl)(hw:swappedStores [tg] e X.env=pure none:=by rfl)
 (h1:(assignEach [tg] X.env).map (·.2)=[assign tg X.env]:=by rfl):PS X (.Assign [tg] e pos) (J2q te g):=by
 intro pins s σ H D I h;refine wpAny_Assign_stores (thn (he pins s σ H _ I h) fun v s1 ⟨x,H1,I1,r1,q1⟩=>?_) hs hw;rw [h1];exact thn (hg pins s1 σ H1 x v _ I1 r1 q1) fun _ s2 q=>q
theorem Jbe {i:Nat}{x:Str}{e:Expr}{te:TE}{pos':Pos}(hN:X.N.Nodup)(hi:X.N[i]?=some x)(hx:Loc X.env.scope x)(he:PE X e te)(hs:swapsWith e (some (.Name x pos')) pos.line X.env=pure false:=by rfl)(hf:X.fn x=true\/X.env.scope.names.lookup x=some .local:=by first | exact .inl rfl | exact .inr rfl | assumption) :
 PS X (.Assign [.Name x pos'] e pos) (J2q te (J01 i)):=by
 intro pins s σ H D I h;refine wpAny_Assign_Name (thn (he pins s σ H _ I h) fun v s1 ⟨y,H1,I1,r1,q1⟩=>?_) hs;exact J4Y I1 hN hi hx r1 (fun s2 I2=>⟨_,H1,I2,q1⟩) hf
def JaO (i:Nat)(te:TE)(ti:TIp):TS:=fun D σ H=>∃ x,σ[i]?=some (some x)/\te σ H fun y H1=>ti x y H1 fun z H2=>D.nx (σ.set i (some z)) H2
theorem ps_aug {i:Nat}{x:Str}{e:Expr}{te:TE}{op:Operator}{ti:TIp}{pos':Pos}(hN:X.N.Nodup)(hi:X.N[i]?=some x)(hx:Loc X.env.scope x)(he:PE X e te)(ho:PIp X op ti)(hf:X.fn x=true\/X.env.scope.names.lookup x=some .local:=by first | exact .inl rfl | exact .inr rfl | assumption) :
 PS X (.AugAssign (.Name x pos') op e pos) (JaO i te ti):=by
 intro pins s σ H D I h;obtain ⟨v,e1,h⟩:=h;obtain ⟨m,hn,hl⟩:=I.loc;have vis:Vis X.env.scope x:=by rcases hx with k | k;exact .inl k;exact .inr (.inl k)
 obtain ⟨u,r,l⟩:=hl i x v hi e1 vis;refine wpAny_AugAssign_Name ?_;have go:wpAny (model X.prog X.w) X.A (eval e X.env) (fun w s₂=>wpAny (model X.prog X.w) X.A (inplaceOp op u w) (fun r s₃=>wpAny (model X.prog X.w) X.A (storeName X.env x r) (fun _=>SP X pins D .next) X.xe s₃) X.xe s₂) X.xe s:=by
  refine thn (he pins s σ H _ I h) fun w s1 ⟨y,H1,I1,r1,q1⟩=>?_;refine thn (ho pins s1 σ H1 v y u w _ I1 r r1 q1) fun z s2 ⟨zv,H2,I2,r2,q2⟩=>?_;exact J4Y I2 hN hi hx r2 (fun s3 I3=>⟨_,H2,I3,q2⟩) hf
 rcases l with ⟨hk,hm⟩ | ⟨hk,c,hc,hcell⟩
 ·exact wpAny_loadName_local I.ok.kind hk hn hm go
 ·rcases hk with hk | hk
  ·exact wpAny_loadName_cell I.ok.kind hk hc hcell go
  ·rcases hx with k | k
   ·have:X.env.scope.names.lookup x=some .free:=hk
    rw [k] at this;cases this
   ·have:X.env.scope.names.lookup x=some .free:=hk
    rw [k] at this;cases this
def JaN (to ti te:TE)(tget:V->V->Hp->VK->Prop)(tip:TIp)(tset:Jcf):TS:=fun D σ H=>to σ H fun o H1=>ti σ H1 fun i H2=>tget o i H2 fun x H3=>te σ H3 fun y H4=>tip x y H4 fun z H5=>tset o i z H5 fun H6=>D.nx σ H6
def Je8 (X:Cx)(t:V->V->Hp->VK->Prop):Prop :=
 ∀ (pins:List (Addr×Obj)) (s:Shared) (σ:St) (H:Hp) (o i:V) (ov iv:Value) (Q:VK),Inv X pins σ H s->RelV o ov->RelV i iv->t o i H Q ->
   wpAny (model X.prog X.w) X.A (getItem ov iv) (EP X pins σ Q) X.xe s
theorem J6V {o i e:Expr}{to ti te:TE}{tget:V->V->Hp->VK->Prop}{tip:TIp}{tset:Jcf}{op:Operator}{tpos:Pos}(ho:PE X o to)(hi:PE X i ti)(hg:Je8 X tget)(he:PE X e te)(hp:PIp X op tip)(hs:Jd3 X tset)
 (ha:∀ ov iv new,augStore i ov iv new=(do holding [new,ov,iv] (setItem ov iv new);release [new,ov,iv] [];pure .next):=by intros;rfl):PS X (.AugAssign (.Subscript o i tpos) op e pos) (JaN to ti te tget tip tset):=by
 intro pins s σ H D I h;refine wpAny_AugAssign_SubscriptAny (thn (ho pins s σ H _ I h) fun ov s1 ⟨x1,H1,I1,r1,q1⟩=>?_) ha;refine thn (hi pins s1 σ H1 _ I1 q1) fun iv s2 ⟨x2,H2,I2,r2,q2⟩=>?_;refine thn (hg pins s2 σ H2 x1 x2 ov iv _ I2 r1 r2 q2) fun old s3 ⟨x3,H3,I3,r3,q3⟩=>?_;refine thn (he pins s3 σ H3 _ I3 q3) fun v s4 ⟨x4,H4,I4,r4,q4⟩=>?_;refine thn (hp pins s4 σ H4 x3 x4 old v _ I4 r3 r4 q4) fun new s5 ⟨x5,H5,I5,r5,q5⟩=>?_;exact thn (hs pins s5 σ H5 x1 x2 x5 ov iv new _ I5 r1 r2 r5 q5) fun _ s6 ⟨H6,I6,q6⟩=>⟨σ,H6,I6,q6⟩
def ipI (f:Int->Int->Int):TIp:=fun x y H Q=>∃ i j,x=.int i/\y=.int j/\Q (.int (f i j)) H
theorem J8H:PIp X .Add (ipI fun i j=>i+j):=by
 intro pins s σ H x y v u Q I r1 r2 h;obtain ⟨i,j,e1,e2,q⟩:=h;subst e1;subst e2;obtain ⟨t,rfl⟩:=r1;obtain ⟨t',rfl⟩:=r2;exact iadd_int ⟨.int _,H,I.tok _,⟨_,rfl⟩,q⟩
theorem JdX:PIp X .Sub (ipI fun i j=>i - j):=by
 intro pins s σ H x y v u Q I r1 r2 h;obtain ⟨i,j,e1,e2,q⟩:=h;subst e1;subst e2;obtain ⟨t,rfl⟩:=r1;obtain ⟨t',rfl⟩:=r2;exact isub_int ⟨.int _,H,I.tok _,⟨_,rfl⟩,q⟩
end
section
variable {X:Cx}{pos:Pos}
def J8l (c:TT)(tb:TS):TS:=fun D σ H=>∃ W:Nat->St->Hp->Prop,(∃ m,W m σ H)/\∀ m σ H,W m σ H ->
 c σ H fun b H1=>if b=true then ∃ N:St->Hp->Prop,(∀ σ' H',N σ' H'->∃ m',m'<m/\W m' σ' H')/\tb { D with nx:=N,ct:=N,bk:=D.nx } σ H1 else D.nx σ H1
theorem J5g {c:Expr}{body:List Stmt}{tc:TT}{tb:TS}(hp:PassesOwn (model X.prog X.w) X.A X.env X.xe)(hc:PT X c tc)(hb:PSs X body tb):PS X (.While c body [] pos) (J8l tc tb):=by
 intro pins s σ H D I h;obtain ⟨W,⟨m0,w0⟩,turn⟩:=h;refine wpAny_While (codeAny_whileLoop (fun n s'=>∃ σ' H',Inv X pins σ' H' s'/\W n σ' H') ?_ m0 ⟨σ,H,I,w0⟩);rintro n s1 ⟨σ1,H1,I1,w1⟩;refine wpAny_passesOwn hp (thn (hc pins s1 σ1 H1 _ I1 (turn n σ1 H1 w1)) fun b s2 ⟨H2,I2,q2⟩=>?_);cases b with
 | true =>
   obtain ⟨N,hN,q2⟩:=q2;rw [yi rfl];refine wpAny_passesOwn hp (thn (hb pins s2 σ1 H2 _ I2 q2) fun f s3 q3=>?_);cases f with
   | next =>
     obtain ⟨σ3,H3,I3,n3⟩:=q3;obtain ⟨m',hm,w3⟩:=hN σ3 H3 n3;exact ⟨m',hm,σ3,H3,I3,w3⟩
   | cont =>
     obtain ⟨σ3,H3,I3,n3⟩:=q3;obtain ⟨m',hm,w3⟩:=hN σ3 H3 n3;exact ⟨m',hm,σ3,H3,I3,w3⟩
   | brk=>exact q3
   | ret v=>exact q3
 | false =>
   rw [yh yk];exact wpAny_execs_nil ⟨σ1,H2,I2,q2⟩
end
structure It where
 go:Nat->Hp->Prop
 yld:Nat->Hp->V->Hp->Prop
 stop:Nat->Hp->Prop
def J1M (X:Cx)(pins:List (Addr×Obj))(H:Hp)(b:Addr):Prop :=
 H b=none/\b≠X.env.locals/\b∉X.fs/\(b∈X.ex\/X.s₀.heap.objs.size<=b)/\(∀ x c,X.env.cells.lookup x=some c->c≠b)/\∀ p∈X.pn++pins,p.1≠b
theorem Inv.fpOk {X:Cx}{pins:List (Addr×Obj)}{σ:St}{H H':Hp}{s:Shared}{b:Addr}(I:Inv X pins σ H s)(hb:s.heap.objs.size<=b)(hn:H' b=none):J1M X pins H' b:=by
 refine ⟨hn,Nat.ne_of_gt (yv I.lt hb),I.nofs hb,.inr (yx I.sz hb),fun x c e z=>?_,fun p hp z=>?_⟩
 ·obtain ⟨v,q⟩:=I.cell x c e
  exact absurd (yv q.lt (by rw [z];exact hb)) (Nat.lt_irrefl _)
 ·exact absurd (yv (y7 (I.pin p hp).1) (by rw [z];exact hb)) (Nat.lt_irrefl _)
structure Turn (P:Program)(w:World)(K:Frag)(tg:Expr)(J:It)(fp:List Addr)(it:Addr)(tn:Nat->Heap->Prop):Prop where
 mem:it∈fp
 obj:∀ i h,tn i h->∀ b∈fp,∃ o,h.get? b=some o/\∀ v,o.data≠.cell v
 keep:∀ i h h',tn i h->(∀ b∈fp,∀ o,h.get? b=some o->h'.get? b=some o)->tn i h'
 item:∀ (X:Cx),X.prog=P->X.w=w->X.K=K->X.calm=true->∀ (i:Nat) (pins:List (Addr×Obj)) (s:Shared) (σ:St) (H:Hp) (E:Value->Shared->Prop),Inv X pins σ H s->(∀ b∈fp,J1M X pins H b)->tn i s.heap->J.go i H ->
  wpAny (model P w) X.A (pyNext (.ref it)) (fun r s1=>∃ u,r=some u /\
   wpAny (model P w) X.A (letOwnedTupleGo tg (.ref it) u) (fun _ s2=>∃ x H',Inv X pins σ H' s2/\RelV x u/\J.yld i H x H'/\tn (i+1) s2.heap/\∀ b∈fp,H' b=none) E s1) E s
 done:∀ (X:Cx),X.prog=P->X.w=w->X.K=K->X.calm=true->∀ (i:Nat) (pins:List (Addr×Obj)) (s:Shared) (σ:St) (H:Hp) (E:Value->Shared->Prop),Inv X pins σ H s->(∀ b∈fp,J1M X pins H b)->tn i s.heap->J.stop i H ->
  wpAny (model P w) X.A (pyNext (.ref it)) (fun r s1=>r=none/\Inv X pins σ H s1) E s
 self:∀ (A:Around) (i:Nat) (s:Shared) (Q:Value->Shared->Prop) (E:Value->Shared->Prop),tn i s.heap->Q (.ref it) s->wpAny (model P w) A (pyIter (.ref it)) Q E s
abbrev TI:=St->Hp->(It->Hp->Prop)->Prop
def PIE (X:Cx)(pins:List (Addr×Obj))(σ:St)(tg:Expr)(R:It->Hp->Prop)(itv:Value)(s2:Shared):Prop :=
 ∃ (it:Addr) (fp:List Addr) (tn:Nat->Heap->Prop) (J:It) (H':Hp),itv=.ref it/\Inv X pins σ H' s2/\Turn X.prog X.w X.K tg J fp it tn/\tn 0 s2.heap/\(∀ b∈fp,J1M X pins H' b)/\R J H'
def PI (X:Cx)(tg iter:Expr)(wi:TI):Prop :=
 ∀ (pins:List (Addr×Obj)) (s:Shared) (σ:St) (H:Hp) (R:It->Hp->Prop),Inv X pins σ H s->wi σ H R ->
   wpAny (model X.prog X.w) X.A (eval iter X.env) (fun v s1=>wpAny (model X.prog X.w) X.A (pyIter v) (PIE X pins σ tg R) X.xe s1) X.xe s
theorem go_of {M:Model}{A:Around}{E:Value->Shared->Prop}{s:Shared}{tg:Expr}{it:Addr}{u:Value}{o:Obj}{n:String}{vs:Array Value}{Q:Unit->Shared->Prop}(ho:s.heap.get? it=some o)(hc:o.cls=.type n)(hd:o.data=.fields vs)
 (hn:["enumerate","zip","dict_itemiterator","dict_reverseitemiterator","odict_iterator","itertools.zip_longest","itertools.pairwise"].contains n=false) (hQ:Q () s):wpAny M A (letOwnedTupleGo tg (.ref it) u) Q E s:=by
 unfold letOwnedTupleGo
 cases tg <;> first
  | exact yg hQ
  | (cases u<;>first
   | exact yg hQ
   | (refine yf (wpAny_load ho ?_)
      rw [hc,hd];show wpAny M A (if (["enumerate","zip","dict_itemiterator","dict_reverseitemiterator","odict_iterator","itertools.zip_longest","itertools.pairwise"].contains n&&vs[0]? == some (rawInt _))=true then _ else _) Q E s;rw [yh (by intro h;rw [hn,Bool.false_and] at h;cases h)];exact yg hQ))
def Itl (K:Frag)(a:Addr):It :=
 ⟨fun i H=>∃ xs x,SqL K H a xs/\xs[i]?=some x,fun i H x H'=>H'=H/\∀ xs,SqL K H a xs->xs[i]?=some x,fun i H=>∃ xs,SqL K H a xs/\xs.length<=i⟩
def Itr (lo:Int)(n:Nat):It:=⟨fun i _=>i<n,fun i H x H'=>H'=H/\x=.int (lo+i),fun i _=>n<=i⟩
theorem J9Q {P:Program}{w:World}{K:Frag}{tg:Expr}(a it:Addr):Turn P w K tg (Itl K a) [it] it (fun i h=>h.IsListIter it a i) where
 mem:=by simp
 obj:=fun i h st b hb=>by
  have e:b=it:=by simpa using hb
  subst e;obtain ⟨o,e,c,d⟩:=st;exact ⟨o,e,fun v z=>by rw [d] at z;cases z⟩
 keep:=fun i h h' st k=>st.at fun o e=>k it (by simp) o e
 item:=by
  intro X hP hw hK hc i pins s σ H E I hf st hg;subst hP hw hK;obtain ⟨xs,x,hq,hx⟩:=hg;obtain ⟨its,rv,p,hz⟩:=I.list hq;obtain ⟨u,hu,ru⟩:=rv.get hx;obtain ⟨f0,f1,f2,f3,f4,f5⟩:=hf it (by simp);refine wpAny_pyNext_list_item st p.isList (x:=u) (by simpa using hu) fun h' st' sb=>?_;have I1:Inv X pins σ H { s with heap:=h' }:=I.turned (t':=s.toks) (fun b o hb e=>(sb.2 b hb).trans e) f0 f1 f3 f4 f5;obtain ⟨o,e,c,d⟩:=id st';exact ⟨u,rfl,go_of (s:={ s with heap:=h' }) e c d (by decide) ⟨x,H,I1,ru,⟨rfl,fun ys hy=>by rw [I.list_inj hy hq];exact hx⟩,st',fun b hb=>(hf b hb).1⟩⟩
 done:=by
  intro X hP hw hK hc i pins s σ H E I hf st hg;subst hP hw hK;obtain ⟨xs,hq,hx⟩:=hg;obtain ⟨its,rv,p,hz⟩:=I.list hq;obtain ⟨f0,f1,f2,f3,f4,f5⟩:=hf it (by simp);have hl:=rv.length;exact wpAny_pyNext_list_end (I.ok.hd hc) st p.isList (by simp;omega) fun h' eb=>⟨rfl,I.turned (t':=s.toks) (fun b o hb e=>eb b o hb e) f0 f1 f3 f4 f5⟩
 self:=fun _ _ _ _ _ st h=>wpAny_pyIter_listiter st h
theorem J8j {P:Program}{w:World}{K:Frag}{tg:Expr}(it:Addr)(lo:Int)(n:Nat):Turn P w K tg (Itr lo n) [it] it (fun i h=>IsRangeIter h it (lo+(i:Nat) * 1) ((n:Int) - (i:Nat)) 1) where
 mem:=by simp
 obj := fun i h st b hb=>by
  have e:b=it:=by simpa using hb
  subst e;exact ⟨_,st,fun v z=>by
   have z':Data.fields _=Data.cell v:=z;cases z'⟩
 keep:=fun i h h' st k=>k it (by simp) _ st
 item:=by
  intro X hP hw hK hc i pins s σ H E I hf st hg;subst hP hw hK;obtain ⟨f0,f1,f2,f3,f4,f5⟩:=hf it (by simp);have W:=Walks.range (prog:=X.prog) (w:=X.w) (I.ok.hd hc) it lo 1 n;refine W.item i s _ _ hg st fun v h' tk hv st' kk=>?_;obtain ⟨t,rfl⟩:=hv;have I1:Inv X pins σ H { s with heap:=h',toks:=tk }:=I.turned (fun b o hb e=>kk b o (by simpa using hb) e) f0 f1 f3 f4 f5;refine ⟨_,rfl,go_of (s:={ s with heap:=h',toks:=tk }) (n:="range_iterator") st' rfl rfl (by decide) ⟨.int (lo+i),H,I1,⟨t,?_⟩,⟨rfl,rfl⟩,st',fun b hb=>(hf b hb).1⟩⟩;rw [Int.mul_one]
 done:=by
  intro X hP hw hK hc i pins s σ H E I hf st hg;subst hP hw hK;obtain ⟨f0,f1,f2,f3,f4,f5⟩:=hf it (by simp);exact wpAny_pyNext_range_end (I.ok.hd hc) st (by have:n<=i:=hg;omega) fun h' eb=>⟨rfl,I.turned (t':=s.toks) (fun b o hb e=>eb b o hb e) f0 f1 f3 f4 f5⟩
 self:=fun _ _ _ _ _ st h=>wpAny_pyIter_rangeiter st h
section
variable {X:Cx}{tg:Expr}
def J9v (K:Frag)(tl:TE):TI:=fun σ H R=>tl σ H fun x H1=>∃ a,x=.ref a/\(∃ xs,SqL K H1 a xs)/\R (Itl K a) H1
theorem JcA {l:Expr}{tl:TE}(hl:PE X l tl):PI X tg l (J9v X.K tl):=by
 intro pins s σ H R I h;refine thn (hl pins s σ H _ I h) fun v s1 ⟨x,H1,I1,r1,q1⟩=>?_;obtain ⟨a,e,⟨xs,hq⟩,q⟩:=q1;subst e;cases r1;obtain ⟨its,rv,p,hz⟩:=I1.list hq;refine wpAny_pyIter_list p.isList ?_;refine ⟨s1.heap.objs.size,[s1.heap.objs.size],_,_,H1,rfl,I1.kept (t':=s1.toks) fun b o e=>y4 _ e,J9Q a _,⟨_,y6 _ rfl,rfl,rfl⟩,fun b hb=>?_,q⟩;have e:b=s1.heap.objs.size:=by simpa using hb
 subst e;exact I1.fpOk (yj _) (I1.hok.fresh (yj _))
theorem Jb5 {pins:List (Addr×Obj)}{σ:St}{H:Hp}{s:Shared}{R:It->Hp->Prop}{E:Value->Shared->Prop}{lo hi:Int}{t u v:Tok}{tk:Nat}(I:Inv X pins σ H s)(h1:-(2 ^ 62)<=lo)(h2:lo<2 ^ 62)(h3:-(2 ^ 62)<=hi)(h4:hi<2 ^ 62)
 (q:R (Itr lo (hi - lo).toNat) H):wpAny (model X.prog X.w) X.A (pyIter (.ref s.heap.objs.size)) (PIE X pins σ tg R) E { s with heap:=s.heap.push { cls:=.type "range",data:=.fields #[.int lo t,.int hi u,.int 1 v] },toks:=tk }:=by
 refine wpAny_pyIter_range (IsRange.new ..) (small_one h1 h2 h3 h4) ?_;have I1:Inv X pins σ H { s with heap:=s.heap.push { cls:=.type "range",data:=.fields #[.int lo t,.int hi u,.int 1 v] },toks:=tk }:=I.kept fun b o e=>y4 _ e;refine ⟨(s.heap.push { cls:=.type "range",data:=.fields #[.int lo t,.int hi u,.int 1 v] }).objs.size,[(s.heap.push { cls:=.type "range",data:=.fields #[.int lo t,.int hi u,.int 1 v] }).objs.size],_,_,H,rfl,
  I1.kept (t':=tk) fun b o e=>y4 _ e,J8j _ lo (hi - lo).toNat,?_,fun b hb=>?_,q⟩
 ·have e1:lo+((0:Nat):Int) * 1=lo:=by simp
  have e2:(((hi - lo).toNat:Nat):Int) - ((0:Nat):Int)=Builtin.Range.rangeSize lo hi 1:=by rw [rangeSize_one];split<;>omega
  show IsRangeIter _ _ (lo+((0:Nat):Int) * 1) ((((hi - lo).toNat:Nat):Int) - ((0:Nat):Int)) 1;rw [e1,e2];exact y6 _ rfl
 ·have e:b=(s.heap.push { cls:=.type "range",data:=.fields #[.int lo t,.int hi u,.int 1 v] }).objs.size:=by simpa using hb
  subst e;exact I1.fpOk (yj _) (I1.hok.fresh (yj _))
def JbC (ta:TA):TI:=fun σ H R=>ta σ H fun vs H1=>∃ j:Int,vs=[.int j]/\-(2 ^ 62)<=j/\j<2 ^ 62/\R (Itr 0 j.toNat) H1
theorem J0Z {a:Expr}{ta:TA}{p pos:Pos}(hg:Gl X "range")(hm:X.mg "range"=none)(ha:PA X [a] ta)(hs:starEach [a] X.env=[(false,eval a X.env)]:=by rfl):PI X tg (.Call (.Name "range" p) [a] [] pos) (JbC ta):=by
 intro pins s σ H R I h;refine Call_ (J1L I hg hm boot_range (PyProof.Rows.callWith_type1 (thn (ha pos pins s σ H _ I h) fun us s1 ⟨vs,H1,I1,r1,q1⟩=>?_) hs rfl));obtain ⟨j,e,q1,q2,q⟩:=q1;subst e;cases r1 with
 | cons r rr =>
   cases rr;obtain ⟨t,rfl⟩:=r;exact call_range_1 (Jb5 I1 (by omega) (by omega) q1 q2 (by simpa using q))
def J3W (wi:TI)(g:TG)(tb:TS):TS:=fun D σ H=>wi σ H fun J H1=>∃ W:Nat->Nat->St->Hp->Prop,(∃ m,W 0 m σ H1)/\∀ i m σ H,W i m σ H ->
 (J.stop i H/\D.nx σ H)\/(J.go i H/\∃ N:St->Hp->Prop,(∀ σ' H',N σ' H'->∃ m',m'<m/\W (i+1) m' σ' H')/\∀ x H',J.yld i H x H'->g x σ H' fun σ2 H2=>tb { D with nx:=N,ct:=N,bk:=D.nx } σ2 H2)
def J44 (fp:List Addr)(h:Heap):List (Addr×Obj):=fp.filterMap fun b=>(h.get? b).map fun o=>(b,o)
theorem J1b {fp:List Addr}{h:Heap}{b:Addr}{o:Obj}(hb:b∈fp)(e:h.get? b=some o):(b,o)∈J44 fp h:=mem_filterMap.mpr ⟨b,hb,by rw [e];rfl⟩
theorem Ja9 {fp:List Addr}{h:Heap}{p:Addr×Obj}(hp:p∈J44 fp h):p.1∈fp/\h.get? p.1=some p.2:=by
 obtain ⟨b,hb,e⟩:=mem_filterMap.mp hp;cases q:h.get? b with
 | none=>rw [q] at e;cases e
 | some o =>
   rw [q] at e;have e':(b,o)=p:=yq e;subst e';exact ⟨hb,q⟩
theorem Inv.pinned {pins:List (Addr×Obj)}{σ:St}{H:Hp}{s:Shared}{fp:List Addr}(I:Inv X pins σ H s)(hf:∀ b∈fp,J1M X pins H b)(ho:∀ b∈fp,∃ o,s.heap.get? b=some o/\∀ v,o.data≠.cell v):Inv X (pins++J44 fp s.heap) σ H s :=
 I.pins_of fun p hp=>(yQ.mp hp).elim (fun z=>I.pin p (yR _ z)) fun z=>by
  obtain ⟨hb,e⟩:=Ja9 z;obtain ⟨f0,f1,f2,_⟩:=hf p.1 hb;obtain ⟨o,e',d⟩:=ho p.1 hb;rw [e] at e';cases e';exact ⟨e,f0,f1,f2,d⟩
theorem Inv.unpinned {pins pl:List (Addr×Obj)}{σ:St}{H:Hp}{s:Shared}(I:Inv X (pins++pl) σ H s):Inv X pins σ H s:=I.pins_of fun p hp=>I.pin p (yR _ (yS _ hp))
theorem J0a {iter:Expr}{body:List Stmt}{wi:TI}{g:TG}{tb:TS}{pos:Pos}(hp:PassesOwn (model X.prog X.w) X.A X.env X.xe)(hc:X.calm=true)(hi:PI X tg iter wi)(hg:PG X tg g)(hb:PSs X body tb)
 (hs:∀ x,foldedSetIterable iter X.env x=pure x:=by intro _;rfl):PS X (.For tg iter body [] pos) (J3W wi g tb):=by
 intro pins s σ H D I h;refine wpAny_For (thn (hi pins s σ H _ I h) fun v s1 h1=>thn h1 fun itv s2 h2=>?_) hs;obtain ⟨it,fp,tn,J,H2,e,I2,T,st2,f2,W,⟨m0,w0⟩,turn⟩:=h2;subst e;have stat:∀ {H':Hp},(∀ b∈fp,H' b=none)->∀ b∈fp,J1M X pins H' b:=fun hn b hb=>⟨hn b hb,(f2 b hb).2⟩;refine codeAny_forLoop_any (fun n s'=>∃ i σ' H',Inv X pins σ' H' s'/\tn i s'.heap/\(∀ b∈fp,H' b=none)/\W i n σ' H') ?_ m0 ⟨0,σ,H2,I2,st2,fun b hb=>(f2 b hb).1,w0⟩;rintro n s3 ⟨i,σ3,H3,I3,st3,fr3,w3⟩;rcases turn i n σ3 H3 w3 with ⟨stop,qn⟩ | ⟨go,N,hN,step⟩
 ·refine wpAny_passesOwn hp (thn (T.done X rfl rfl rfl hc i pins s3 σ3 H3 X.xe I3 (stat fr3) st3 stop) fun r s4 ⟨hr,I4⟩=>?_)
  subst hr;exact wpAny_execs_nil ⟨σ3,H3,I4,qn⟩
 ·refine wpAny_passesOwn hp (thn (T.item X rfl rfl rfl hc i pins s3 σ3 H3 X.xe I3 (stat fr3) st3 go) fun r s4 ⟨u,hr,h4⟩=>?_)
  subst hr;refine wpAny_passesOwn hp (thn h4 fun _ s5 ⟨x,H5,I5,r5,y5,st5,fr5⟩=>?_);have I5':=I5.pinned (stat fr5) (T.obj _ _ st5);refine wpAny_passesOwn hp (thn (hg _ s5 σ3 H5 x u _ I5' r5 (step x H5 y5)) fun _ s6 ⟨σ6,H6,I6,q6⟩=>?_);refine wpAny_passesOwn hp (thn (hb _ s6 σ6 H6 _ I6 q6) fun f s7 q7=>?_);have again:∀ {σ7:St} {H7:Hp},Inv X (pins++J44 fp s5.heap) σ7 H7 s7->N σ7 H7->∃ m,m<n/\∃ i σ' H',Inv X pins σ' H' s7/\tn i s7.heap/\(∀ b∈fp,H' b=none)/\W i m σ' H':=fun {σ7 H7} I7 n7=>by
   obtain ⟨m',hm,w7⟩:=hN σ7 H7 n7;refine ⟨m',hm,i+1,σ7,H7,I7.unpinned,T.keep _ _ _ st5 fun b hb o e=>(I7.pin (b,o) (yR _ (yR _ (J1b hb e)))).1,fun b hb=>?_,w7⟩;obtain ⟨o,e,d⟩:=T.obj _ _ st5 b hb;exact (I7.pin (b,o) (yR _ (yR _ (J1b hb e)))).2.1
  cases f with
  | next=>obtain ⟨σ7,H7,I7,n7⟩:=q7;exact again I7 n7
  | cont=>obtain ⟨σ7,H7,I7,n7⟩:=q7;exact again I7 n7
  | brk=>obtain ⟨σ7,H7,I7,q7⟩:=q7;exact ⟨σ7,H7,I7.unpinned,q7⟩
  | ret v=>obtain ⟨x7,σ7,H7,I7,r7,q7⟩:=q7;exact ⟨x7,σ7,H7,I7.unpinned,r7,q7⟩
end
abbrev R2:=V->V->Hp->VK->Prop
def OpR (X:Cx)(f:Value->Value->Sem Value)(r:R2):Prop :=
 ∀ (pins:List (Addr×Obj)) (s:Shared) (σ:St) (H:Hp) (x y:V) (v u:Value) (Q:VK),Inv X pins σ H s->RelV x v->RelV y u->r x y H Q ->
   wpAny (model X.prog X.w) X.A (f v u) (EP X pins σ Q) X.xe s
def UnR (X:Cx)(f:Value->Sem Value)(r:V->Hp->VK->Prop):Prop :=
 ∀ (pins:List (Addr×Obj)) (s:Shared) (σ:St) (H:Hp) (x:V) (v:Value) (Q:VK),Inv X pins σ H s->RelV x v->r x H Q ->
   wpAny (model X.prog X.w) X.A (f v) (EP X pins σ Q) X.xe s
def J0I (X:Cx)(f:Value)(r:List V->Hp->VK->Prop):Prop :=
 ∀ (pins:List (Addr×Obj)) (s:Shared) (σ:St) (H:Hp) (xs:List V) (us:List Value) (Q:VK),Inv X pins σ H s->Vals xs us->r xs H Q ->
   wpAny (model X.prog X.w) X.A (call f us) (EP X pins σ Q) X.xe s
def JeQ (X:Cx)(r:V->Hp->(Bool->Hp->Prop)->Prop):Prop :=
 ∀ (pins:List (Addr×Obj)) (s:Shared) (σ:St) (H:Hp) (x:V) (v:Value) (Q:Bool->Hp->Prop),Inv X pins σ H s->RelV x v->r x H Q ->
   wpAny (model X.prog X.w) X.A (truthy v) (TP X pins σ Q) X.xe s
def tOp (r:R2)(ta tb:TE):TE:=fun σ H Q=>ta σ H fun x H1=>tb σ H1 fun y H2=>r x y H2 Q
def tUn (r:V->Hp->VK->Prop)(ta:TE):TE:=fun σ H Q=>ta σ H fun x H1=>r x H1 Q
def rI (C:Int->Int->Prop)(g:Int->Int->V):R2:=fun x y H Q=>∃ i j,x=.int i/\y=.int j/\C i j/\Q (g i j) H
def rI0 (g:Int->Int->V):R2:=fun x y H Q=>∃ i j,x=.int i/\y=.int j/\Q (g i j) H
def rU (g:Int->V):V->Hp->VK->Prop:=fun x H Q=>∃ i,x=.int i/\Q (g i) H
section
variable {X:Cx}{a b c:Expr}{ta tb tc:TE}{pos:Pos}
theorem Je5 (ha:PE X a ta)(hb:PE X b tb){pins:List (Addr×Obj)}{s:Shared}{σ:St}{H:Hp}{R:V->V->Hp->Prop}(I:Inv X pins σ H s)
 (h:ta σ H fun x H1=>tb σ H1 fun y H2=>R x y H2) {Q:Value->Shared->Prop} {f:Value->Value->Sem Value}
 (hf:∀ v u s2 x y H2,Inv X pins σ H2 s2->RelV x v->RelV y u->R x y H2->wpAny (model X.prog X.w) X.A (f v u) Q X.xe s2) :
 wpAny (model X.prog X.w) X.A (eval a X.env) (fun v s₁=>wpAny (model X.prog X.w) X.A (eval b X.env) (fun u s₂=>wpAny (model X.prog X.w) X.A (f v u) Q X.xe s₂) X.xe s₁) X.xe s:=by
 refine thn (ha pins s σ H _ I h) fun v s1 ⟨x,H1,I1,r1,q1⟩=>?_;refine thn (hb pins s1 σ H1 _ I1 q1) fun u s2 ⟨y,H2,I2,r2,q2⟩=>?_;exact hf v u s2 x y H2 I2 r1 r2 q2
theorem Jl {op:Operator}{r:R2}(ho:OpR X (binaryOp op) r)(ha:PE X a ta)(hb:PE X b tb):PE X (.BinOp a op b pos) (tOp r ta tb):=by
 intro pins s σ H Q I h;exact wpAny_BinOp (Je5 ha hb I h fun v u s2 x y H2 I2 rx ry q=>ho pins s2 σ H2 x y v u Q I2 rx ry q)
theorem J5l {op:UnaryOp}{r:V->Hp->VK->Prop}(ho:UnR X (unaryOp op) r)(ha:PE X a ta):PE X (.UnaryOp op a pos) (tUn r ta):=by
 intro pins s σ H Q I h;exact UnaryOp_ (thn (ha pins s σ H _ I h) fun v s1 ⟨x,H1,I1,r1,q1⟩=>ho pins s1 σ H1 x v Q I1 r1 q1)
theorem opI {f:Value->Value->Sem Value}{C:Int->Int->Prop}{g:Int->Int->Int}
 (rule:∀ (i j:Int) (t u:Tok) (s:Shared) (Q:Value->Shared->Prop) (E:Value->Shared->Prop),C i j->Q (.int (g i j) s.toks) { s with toks:=s.toks+1 }->wpAny (model X.prog X.w) X.A (f (.int i t) (.int j u)) Q E s) :
 OpR X f (rI C fun i j=>.int (g i j)):=by
 intro pins s σ H x y v u Q I rx ry h;obtain ⟨i,j,rfl,rfl,hc,q⟩:=h;obtain ⟨t,rfl⟩:=rx;obtain ⟨t',rfl⟩:=ry;exact rule i j t t' s _ _ hc ⟨.int (g i j),H,I.tok _,⟨_,rfl⟩,q⟩
theorem Jek {f:Value->Value->Sem Value}{g:Int->Int->Int}
 (rule:∀ (i j:Int) (t u:Tok) (s:Shared) (Q:Value->Shared->Prop) (E:Value->Shared->Prop),Q (.int (g i j) s.toks) { s with toks:=s.toks+1 }->wpAny (model X.prog X.w) X.A (f (.int i t) (.int j u)) Q E s) :
 OpR X f (rI0 fun i j=>.int (g i j)):=by
 intro pins s σ H x y v u Q I rx ry h;obtain ⟨i,j,rfl,rfl,q⟩:=h;obtain ⟨t,rfl⟩:=rx;obtain ⟨t',rfl⟩:=ry;exact rule i j t t' s _ _ ⟨.int (g i j),H,I.tok _,⟨_,rfl⟩,q⟩
theorem JdJ {f:Value->Value->Sem Value}{g:Int->Int->Bool}
 (rule:∀ (i j:Int) (t u:Tok) (s:Shared) (Q:Value->Shared->Prop) (E:Value->Shared->Prop),Q (.bool (g i j)) s->wpAny (model X.prog X.w) X.A (f (.int i t) (.int j u)) Q E s) :
 OpR X f (rI0 fun i j=>.bl (g i j)):=by
 intro pins s σ H x y v u Q I rx ry h;obtain ⟨i,j,rfl,rfl,q⟩:=h;obtain ⟨t,rfl⟩:=rx;obtain ⟨t',rfl⟩:=ry;exact rule i j t t' s _ _ ⟨.bl (g i j),H,I,rfl,q⟩
def JeX (i j:Int):Prop:=0<j/\j<1073741824
def JeW (i j:Int):Prop:=0<=j/\j<=1000000/\i.natAbs<2 ^ 64
def CMul (i j:Int):Prop:=(-(2 ^ 64)<i/\i<2 ^ 64)\/(-(2 ^ 64)<j/\j<2 ^ 64)
theorem CMul.ok {i j:Int}(h:CMul i j):IntMulOk i j:=by
 rcases h with ⟨h1,h2⟩ | ⟨h1,h2⟩
 ·exact .of_left (intBits_le_64 h1 h2)
 ·exact .of_right (intBits_le_64 h1 h2)
theorem J0d:OpR X (binaryOp .Add) (rI0 fun i j=>.int (i+j)):=Jek fun _ _ _ _ _ _ _ q=>add_int q
theorem J6Y:OpR X (binaryOp .Sub) (rI0 fun i j=>.int (i - j)):=Jek fun _ _ _ _ _ _ _ q=>sub_int q
theorem J2c:OpR X (binaryOp .Mult) (rI CMul fun i j=>.int (i * j)):=opI fun _ _ _ _ _ _ _ hc q=>mul_int q hc.ok
theorem J3C:OpR X (binaryOp .FloorDiv) (rI JeX fun i j=>.int (i / j)):=opI fun i j _ _ _ _ _ hc q=>by
 have h1:(0:Int)<j:=hc.1;have h2:j<1073741824:=hc.2;exact floordiv_int (by omega) (by rw [Int.fdiv_eq_ediv_of_nonneg i (by omega)];exact q) (.inl (PyProof.noPylong_small (by omega)))
theorem J1K:OpR X (binaryOp .Mod) (rI (fun _ j=>0<j) fun i j=>.int (i % j)):=opI fun i j _ _ _ _ _ hc q=>by
 have h1:(0:Int)<j:=hc;exact mod_int' (by omega) (by rw [Int.fmod_eq_emod_of_nonneg i (by omega)];exact q)
theorem Jbq:OpR X (binaryOp .Pow) (rI JeW fun i j=>.int (i ^ j.toNat)):=opI fun _ _ _ _ _ _ _ hc q=>pow_int_small hc.1 hc.2.1 hc.2.2 q
theorem unI {f:Value->Sem Value}{g:Int->Int}
 (rule:∀ (i:Int) (t:Tok) (s:Shared) (Q:Value->Shared->Prop) (E:Value->Shared->Prop),Q (.int (g i) s.toks) { s with toks:=s.toks+1 }->wpAny (model X.prog X.w) X.A (f (.int i t)) Q E s) :
 UnR X f (rU fun i=>.int (g i)):=by
 intro pins s σ H x v Q I rx h;obtain ⟨i,rfl,q⟩:=h;obtain ⟨t,rfl⟩:=rx;exact rule i t s _ _ ⟨.int (g i),H,I.tok _,⟨_,rfl⟩,q⟩
theorem J39:UnR X (unaryOp .USub) (rU fun i=>.int (-i)):=unI fun _ _ _ _ _ q=>neg_int q
end
def JaY:V->V->Bool
 | .non,.non=>true | .non,.int _=>true | .int _,.non=>true | .non,.bl _=>true | .bl _,.non=>true | .non,.str _=>true | .str _,.non=>true
 | .int _,.int _=>true | .bl _,.bl _=>true | .str _,.str _=>true | .byt _,.byt _=>true
 | .int _,.str _=>true | .str _,.int _=>true | .bl _,.str _=>true | .str _,.bl _=>true
 | _,_=>false
def rEq:R2:=fun x y H Q=>JaY x y=true/\Q (.bl (decide (x=y))) H
def rNe:R2:=fun x y H Q=>JaY x y=true/\Q (.bl (!decide (x=y))) H
theorem J9G {i j:Int}:decide (V.int i=V.int j)=(i == j):=by
 rw [Bool.eq_iff_iff];simp
theorem JbS {i j:Bool}:decide (V.bl i=V.bl j)=(i == j):=by
 rw [Bool.eq_iff_iff];simp
theorem J9F {i j:Str}:decide (V.str i=V.str j)=(i == j):=by
 rw [Bool.eq_iff_iff];simp
theorem J9H {i j:Array UInt8}:decide (V.byt i=V.byt j)=(i.toList == j.toList):=by
 rw [Bool.eq_iff_iff];cases i;cases j;simp
section
variable {X:Cx}{a b c:Expr}{ta tb tc:TE}{pos:Pos}
theorem JL {pins:List (Addr×Obj)}{σ:St}{H:Hp}{s:Shared}{Q:VK}{k k':Bool}(I:Inv X pins σ H s)(q:Q (.bl k) H)(e:k=k'):EP X pins σ Q (.bool k') s:=by
 subst e;exact ⟨.bl k,H,I,rfl,q⟩
theorem J1H:OpR X (compareOp .Eq) rEq:=by
 intro pins s σ H x y v u Q I rx ry h;obtain ⟨hs,q⟩:=h;cases x with
 | non =>
   cases rx;cases y with
   | non=>cases ry;exact PySem.EqNone.eq_none_none (JL I q (by simp))
   | bl j=>cases ry;exact PySem.EqNone.eq_none_bool (JL I q (by simp))
   | int j=>obtain ⟨t',rfl⟩:=ry;exact PySem.EqNone.eq_none_int (JL I q (by simp))
   | str j=>obtain ⟨t',rfl⟩:=ry;exact PySem.EqNone.eq_none_str (JL I q (by simp))
   | _=>exact absurd (show false=true from hs) yk
 | bl i =>
   cases rx;cases y with
   | non=>cases ry;exact PySem.EqNone.eq_bool_none (JL I q (by simp))
   | bl j=>cases ry;exact eq_bool (JL I q JbS)
   | str j=>obtain ⟨t',rfl⟩:=ry;exact PySem.EqMixed.eq_bool_str (JL I q (by simp))
   | _=>exact absurd (show false=true from hs) yk
 | int i =>
   obtain ⟨t,rfl⟩:=rx;cases y with
   | non=>cases ry;exact PySem.EqNone.eq_int_none (JL I q (by simp))
   | int j=>obtain ⟨t',rfl⟩:=ry;exact eq_int (JL I q J9G)
   | str j=>obtain ⟨t',rfl⟩:=ry;exact PySem.EqMixed.eq_int_str (JL I q (by simp))
   | _=>exact absurd (show false=true from hs) yk
 | str i =>
   obtain ⟨t,rfl⟩:=rx;cases y with
   | non=>cases ry;exact PySem.EqNone.eq_str_none (JL I q (by simp))
   | bl j=>cases ry;exact PySem.EqMixed.eq_str_bool (JL I q (by simp))
   | int j=>obtain ⟨t',rfl⟩:=ry;exact PySem.EqMixed.eq_str_int (JL I q (by simp))
   | str j=>obtain ⟨t',rfl⟩:=ry;exact eq_str (JL I q J9F)
   | _=>exact absurd (show false=true from hs) yk
 | byt i =>
   obtain ⟨t,rfl⟩:=rx;cases y with
   | byt j=>obtain ⟨t',rfl⟩:=ry;exact PySem.W.eq_bytes (JL I q J9H)
   | _=>exact absurd (show false=true from hs) yk
 | _=>cases y<;>exact absurd (show false=true from hs) yk
theorem Jbr:OpR X (compareOp .NotEq) rNe:=by
 intro pins s σ H x y v u Q I rx ry h;obtain ⟨hs,q⟩:=h;cases x with
 | non =>
   cases rx;cases y with
   | non=>cases ry;exact PySem.EqNone.ne_none_none (JL I q (by simp))
   | bl j=>cases ry;exact PySem.EqNone.ne_none_bool (JL I q (by simp))
   | int j=>obtain ⟨t',rfl⟩:=ry;exact PySem.EqNone.ne_none_int (JL I q (by simp))
   | str j=>obtain ⟨t',rfl⟩:=ry;exact PySem.EqNone.ne_none_str (JL I q (by simp))
   | _=>exact absurd (show false=true from hs) yk
 | bl i =>
   cases rx;cases y with
   | non=>cases ry;exact PySem.EqNone.ne_bool_none (JL I q (by simp))
   | bl j=>cases ry;exact ne_bool (JL I q (congrArg not JbS))
   | str j=>obtain ⟨t',rfl⟩:=ry;exact PySem.EqMixed.ne_bool_str (JL I q (by simp))
   | _=>exact absurd (show false=true from hs) yk
 | int i =>
   obtain ⟨t,rfl⟩:=rx;cases y with
   | non=>cases ry;exact PySem.EqNone.ne_int_none (JL I q (by simp))
   | int j=>obtain ⟨t',rfl⟩:=ry;exact ne_int (JL I q (congrArg not J9G))
   | str j=>obtain ⟨t',rfl⟩:=ry;exact PySem.EqMixed.ne_int_str (JL I q (by simp))
   | _=>exact absurd (show false=true from hs) yk
 | str i =>
   obtain ⟨t,rfl⟩:=rx;cases y with
   | non=>cases ry;exact PySem.EqNone.ne_str_none (JL I q (by simp))
   | bl j=>cases ry;exact PySem.EqMixed.ne_str_bool (JL I q (by simp))
   | int j=>obtain ⟨t',rfl⟩:=ry;exact PySem.EqMixed.ne_str_int (JL I q (by simp))
   | str j=>obtain ⟨t',rfl⟩:=ry;exact ne_str (JL I q (congrArg not J9F))
   | _=>exact absurd (show false=true from hs) yk
 | byt i =>
   obtain ⟨t,rfl⟩:=rx;cases y with
   | byt j=>obtain ⟨t',rfl⟩:=ry;exact PySem.W.ne_bytes (JL I q (congrArg not J9H))
   | _=>exact absurd (show false=true from hs) yk
 | _=>cases y<;>exact absurd (show false=true from hs) yk
theorem J3B:OpR X (compareOp .Lt) (rI0 fun i j=>.bl (decide (i<j))):=JdJ fun _ _ _ _ _ _ _ q=>lt_int q
theorem J5o:OpR X (compareOp .Gt) (rI0 fun i j=>.bl (decide (j<i))):=JdJ fun _ _ _ _ _ _ _ q=>gt_int q
theorem Jej:OpR X (compareOp .GtE) (rI0 fun i j=>.bl (decide (j<=i))):=JdJ fun _ _ _ _ _ _ _ q=>ge_int q
theorem JB (b:Expr){op:CmpOp}(h:op≠.In:=by decide)(h2:op≠.NotIn:=by decide):behindInMarks op b=false:=by
 have e1:(op == CmpOp.In)=false:=by cases op<;>first | rfl | exact absurd rfl h
 have e2:(op == CmpOp.NotIn)=false:=by cases op<;>first | rfl | exact absurd rfl h2
 cases b<;>simp [behindInMarks,e1,e2]
theorem J3A {op:CmpOp}{r:R2}(ho:OpR X (compareOp op) r)(ha:PE X a ta)(hb:PE X b tb)(hm:behindInMarks op b=false):PE X (.Compare a [op] [b] pos) (tOp r ta tb):=by
 intro pins s σ H Q I h;exact wpAny_Compare1 (Je5 ha hb I h fun v u s2 x y H2 I2 rx ry q=>ho pins s2 σ H2 x y v u Q I2 rx ry q) hm
def JaE (t:TE):TT:=fun σ H Q=>t σ H fun x H'=>∃ k,x=.bl k/\Q k H'
theorem Jw {op:CmpOp}{r:R2}(ho:OpR X (compareOp op) r)(ha:PE X a ta)(hb:PE X b tb)(hm:behindInMarks op b=false):PT X (.Compare a [op] [b] pos) (JaE (tOp r ta tb)):=by
 intro pins s σ H Q I h;refine wpAny_isTrue_Compare1 (thn (ha pins s σ H _ I h) fun v s1 ⟨x,H1,I1,r1,q1⟩=>thn (hb pins s1 σ H1 _ I1 q1) fun u s2 ⟨y,H2,I2,r2,q2⟩ =>
  thn (ho pins s2 σ H2 x y v u _ I2 r1 r2 q2) fun c s3 ⟨z,H3,I3,r3,k,e,q3⟩=>?_) hm
 subst e;cases r3;exact wpAny_truthy_bool ⟨H3,I3,q3⟩
def Je6 (K:Frag)(x:V)(H:Hp)(k:Bool):Prop :=
 match x with
 | .non=>k=false
 | .bl b=>k=b
 | .int i=>k=(i != 0)
 | .str y=>y.length<=sizeLine/\k=((y.length:Int) != 0)
 | .byt y=>y.size<=sizeLine/\k=((y.size:Int) != 0)
 | .ref p=>(∃ xs,SqL K H p xs/\k = !xs.isEmpty)\/(∃ xs,SqT K H p xs/\k = !xs.isEmpty)\/∃ kvs,H p=some (.dK kvs)/\k = !kvs.isEmpty
 | _=>False
theorem J8G {κ:Type}{kvs:List (κ×V)}{vs:List (κ×Value)}(r:KV kvs vs):(!vs.isEmpty) = !kvs.isEmpty:=by
 cases r<;>rfl
theorem J5z {xs:List V}{its:List Value}(r:Vals xs its):(!its.toArray.isEmpty) = !xs.isEmpty:=by
 cases r<;>simp
theorem J48:(sizeLine:Nat)<2 ^ 63:=by rw [sizeLine_eq];decide
theorem Jdk:JeQ X (fun x H Q=>∃ k,Je6 X.K x H k/\Q k H):=by
 intro pins s σ H x v Q I rx h;obtain ⟨k,e,q⟩:=h;have hl:=J48;have hs:sizeLine=16777216:=sizeLine_eq;cases x with
 | non =>
   cases rx;have e':k=false:=e;subst e';exact truthy_none ⟨H,I,q⟩
 | bl b =>
   cases rx;have e':k=b:=e;subst e';exact wpAny_truthy_bool ⟨H,I,q⟩
 | int i =>
   obtain ⟨t,rfl⟩:=rx;have e':k=(i != 0):=e;subst e';exact PySem.P.truthy_int ⟨H,I,q⟩
 | str y =>
   obtain ⟨t,rfl⟩:=rx;obtain ⟨hy,e'⟩:y.length<=sizeLine/\k=((y.length:Int) != 0):=e;subst e';exact PySem.P.truthy_str (by omega) ⟨H,I.tok _,q⟩
 | byt y =>
   obtain ⟨t,rfl⟩:=rx;obtain ⟨hy,e'⟩:y.size<=sizeLine/\k=((y.size:Int) != 0):=e;subst e';exact PySem.W.truthy_bytes (by omega) ⟨H,I.tok _,q⟩
 | ref p =>
   cases rx;have e':(∃ xs,SqL X.K H p xs/\k = !xs.isEmpty)\/(∃ xs,SqT X.K H p xs/\k = !xs.isEmpty)\/∃ kvs,H p=some (.dK kvs)/\k = !kvs.isEmpty:=e;rcases e' with ⟨xs,hx,e'⟩ | ⟨xs,hx,e'⟩ | ⟨kvs,hx,e'⟩
   ·subst e'
    obtain ⟨its,r,pl,hz⟩:=I.list hx;have J06:=r.length;exact wpAny_truthy_list pl.isList (by simp only [yE];omega) ⟨H,I.tok _,by rw [J5z r];exact q⟩
   ·subst e'
    obtain ⟨its,r,pl,hz⟩:=I.tuple hx;have J06:=r.length;exact truthy_tuple pl (by simp only [yE];omega) ⟨H,I.tok _,by rw [J5z r];exact q⟩
   ·subst e'
    obtain ⟨hz,hS,vs,r,m⟩:kvs.length<=sizeLine/\(p == sysModules)=false/\∃ vs,KV kvs vs/\s.heap.DictOf (J0s X.prog X.w) p vs:=I.hok p _ hx;have J06:kvs.length=vs.length:=Paired.length r;exact wpAny_truthy_dict hS m (by omega) ⟨H,I.tok _,by rw [J8G r];exact q⟩
 | _=>exact (show False from e).elim
theorem J1R (ha:PE X a ta)(he:∀ whole,isTrue a X.env whole=(do let v <- whole;standAt a.pos;holding [v] (truthy v))) :
 PT X a (fun σ H Q=>ta σ H fun x H'=>∃ k,Je6 X.K x H' k/\Q k H'):=by
 intro pins s σ H Q I h;exact isTrue_plain (thn (ha pins s σ H _ I h) fun v s1 ⟨x,H1,I1,r1,q1⟩=>Jdk pins s1 σ H1 x v Q I1 r1 q1) (he _)
theorem J2r {x:V}{us:List Value}(r:Vals [x] us):∃ u,us=[u]/\RelV x u:=by
 cases r with
 | cons r1 r2=>cases r2;exact ⟨_,rfl,r1⟩
theorem J8Z {x y:V}{us:List Value}(r:Vals [x,y] us):∃ u w',us=[u,w']/\RelV x u/\RelV y w':=by
 cases r with
 | cons r1 r2 =>
   cases r2 with
   | cons r3 r4=>cases r4;exact ⟨_,_,rfl,r1,r3⟩
theorem J6u (hc:X.calm=true):J0I X (.builtin "min") (fun xs H Q=>∃ i j,xs=[.int i,.int j]/\Q (.int (if j<i then j else i)) H):=by
 intro pins s σ H xs us Q I r h;obtain ⟨i,j,rfl,q⟩:=h;obtain ⟨u,w',rfl,⟨t,rfl⟩,⟨t',rfl⟩⟩:=J8Z r;refine min_two_ints (I.ok.hd hc) fun h' tk k=>⟨_,H,I.kept k,?_,q⟩;by_cases hj:j<i
 ·rw [yi hj,yi hj];exact ⟨_,rfl⟩
 ·rw [yh hj,yh hj];exact ⟨_,rfl⟩
end
structure ObjM (h:Heap)(x dx C:Addr)(mA:Str->Option Value):Prop where
 obj:h.get? x=some (PySem.W.instObj C dx)
 ns:h.Ns1 dx mA
 ne:dx≠x
theorem Jad {h:Heap}{dx:Addr}{mA:Str->Option Value}(n:h.Ns1 dx mA):∃ od,h.get? dx=some od/\∀ name,PySem.W.lookIn name od=some (mA name):=by
 obtain ⟨o,es,ep,ho,hd,hk,_,hm⟩:=n;refine ⟨o,ho,fun name=>?_⟩;have e:=hm name;unfold nsFind findBy at e;rw [<- Array.find?_toList] at e;unfold PySem.W.lookIn;rw [hd];dsimp only
 split
 ·rename_i y q
  rw [q] at e;exact congrArg some e
 ·rename_i q
  rw [q] at e;have a:es.toList.any (·.refKey)=false:=by
   rw [any_eq_false];intro y hy;obtain ⟨z,t,hkey⟩:=hk y (Array.mem_toList_iff.mp hy);simp [DictEntry.refKey,hkey]
  have a':¬ es.toList.any (·.refKey)=true:=by rw [a];exact yk
  rw [yh a'];exact congrArg some e
theorem ObjM.look {h:Heap}{x dx C:Addr}{mA:Str->Option Value}(I:ObjM h x dx C mA):∃ od,PySem.W.InstAt h x (PySem.W.instObj C dx) C (some od)/\∀ name,PySem.W.lookIn name od=some (mA name) :=
 let ⟨od,ho,hl⟩:=Jad I.ns
 ⟨od,⟨I.obj,rfl,rfl,ho⟩,hl⟩
section
variable {prog:Program}{w:World}{A:Around}{E:Value->Shared->Prop}{s:Shared}{K:Frag}{x dx C f:Addr}{mA:Str->Option Value}{name:Str}{v:Value}
theorem JcP {expr:Bool}{Q:Value->Shared->Prop}(X:K.In s.heap)(I:ObjM s.heap x dx C mA)(hg:PySem.W.plainGet K C name=true)(hh:PySem.W.hasDictIn K C=true)
 (ha:findIn K (.ref C) name=some none) (hv:mA name=some v) (hv':PySem.W.handedIn v=true) (h:Q v { s with toks:=s.toks+1 }) :
 wpAny (model prog w) A (getAttr (.ref x) name expr) Q E s:=by
 obtain ⟨od,J,hl⟩:=I.look;exact PySem.W.get_value X J (PySem.W.plainGet_of hg).1 (PySem.W.findObj_own hh ha rfl (by rw [hl,hv])) hv' h
theorem JbH {pl:Sem Bool}{Q:Value×List Value->Shared->Prop}(X:K.In s.heap)(I:ObjM s.heap x dx C mA)(hg:PySem.W.plainGet K C name=true)
 (hf:findIn K (.ref C) name=some (some (.ref f))) (ht:PySem.W.isFn K (.ref f)=true) (hv:mA name=none) (h:Q (.ref f,[.ref x]) s) :
 wpAny (model prog w) A (getMethod (.ref x) name pl) Q E s:=by
 obtain ⟨od,J,hl⟩:=I.look;exact PySem.W.method_fn X J (PySem.W.plainGet_of hg).1 (PySem.W.plainGet_of hg).2 hf (beq_iff_eq.mp ht) (by show (PySem.W.lookIn name od).map (·.isSome)=some false;rw [hl,hv];rfl) h
theorem Jco {ns:List Str}{Q:Unit->Shared->Prop}(X:K.In s.heap)(I:ObjM s.heap x dx C mA)
 (hs:findIn K (.ref C) "__setattr__"=some (some (.builtin "object.__setattr__"))) (hp:PySem.W.plainOver K C=true) (ht:PySem.W.takerIn K C name=some none) (hh:PySem.W.hasDictIn K C=true)
 (hw:PySem.Within mA ns) (hsz:ns.length<=sizeLine)
 (h:∀ h',ObjM h' x dx C (fun y=>if y=name then some v else mA y)->Heap.SameBut dx s.heap h'->Q () { s with heap:=h',toks:=s.toks+2 }) :
 wpAny (model prog w) A (setAttr (.ref x) name v) Q E s:=by
 obtain ⟨od,J,hl⟩:=I.look;refine PySem.W.set_plain X J hs (PySem.W.osa_open (s:={ s with toks:=s.toks+1 }) (r:=none) X J hp ht fun b=>?_);obtain ⟨cd,hc,hd'⟩:=PySem.W.any_some hh;have hx:s.heap.get? x=some ⟨.ref C,some dx,.plain,#[]⟩:=I.obj;refine yf (yg (yf (yf (wpAny_loadPart hx (yf (PySem.W.Looks.here (s:={ s with toks:=s.toks+1 }) (PySem.W.looks_clsIn X hc) ?_))))));rw [hd'];refine yg (a:=some dx) (yf (yg (yf ?_)));refine wpAny_nsSet1 (s:={ s with toks:=s.toks+1 }) I.ns fun h' hn2 hs2=>?_;obtain ⟨oD,esD,epD,hoD,hdD,hcD⟩:=hn2.count (PySem.Within.cons name v hw);refine yf (wpAny_lookBehind hoD (by rw [hdD];exact pastItsLine_dict (yx hcD (by rw [length_cons];omega))) ?_);exact yg (h _ ⟨(hs2.2 _ (Ne.symm I.ne)).trans I.obj,hn2,I.ne⟩ hs2)
theorem Jbw {R:Result->Shared->Prop}{vs:List Value}{kw:List (Str×Value)}(X:K.In s.heap)(hm:PySem.W.makesIn K C=true)
 (hi:findIn K (.ref C) "__init__"=some (some (.ref f))) (hf:PySem.W.typeIn K (.ref f)=some (.type "function"))
 (h:codeAny (model prog w) (A.under (.builtin "type.__call__" ⟨.ref C::vs,kw⟩)) (.call (.ref f) ⟨.ref (s.heap.objs.size+1)::vs,kw⟩) (PySem.W.InitBack (s.heap.objs.size+1) R)
  { s with heap:=(s.heap.push PySem.W.emptyDict).push (PySem.W.instObj C s.heap.objs.size) }) :
 codeAny (model prog w) A (.call (.ref C) ⟨vs,kw⟩) R s:=by
 obtain ⟨hh,g,d,t,os⟩:=s;exact PySem.W.make_core (PySem.W.makes_of X hm) (PySem.W.looks_findIn X hi) (fun self=>PySem.W.bind_fn X self hf) (.inl rfl) h
end
def J1E (f:Str)(v:V):List (Str×V)->List (Str×V)
 | []=>[(f,v)]
 | (g,x)::r=>if g=f then (g,v)::r else (g,x)::J1E f v r
theorem lookup_putF (f g:Str)(v:V):∀ fs:List (Str×V),(J1E f v fs).lookup g=if g=f then some v else fs.lookup g
 | []=>by
   show List.lookup g [(f,v)]=_;by_cases h:g=f
   ·have hb:(g == f)=true:=beq_iff_eq.mpr h
    simp only [List.lookup,hb,yi h]
   ·have hb:(g == f)=false:=beq_eq_false_iff_ne.mpr h
    simp only [List.lookup,hb,yh h]
 | (k,x)::r=>by
   have ih:=lookup_putF f g v r;rw [show J1E f v ((k,x)::r)=(if k=f then (k,v)::r else (k,x)::J1E f v r) from rfl];by_cases hk:k=f
   ·rw [yi hk]
    by_cases h:g=k
    ·have hb:(g == k)=true:=beq_iff_eq.mpr h
     simp only [List.lookup,hb,yi (h.trans hk)]
    ·have hb:(g == k)=false:=beq_eq_false_iff_ne.mpr h
     simp only [List.lookup,hb,yh (fun e:g=f=>h (e.trans hk.symm))]
   ·rw [yh hk]
    by_cases h:g=k
    ·have hb:(g == k)=true:=beq_iff_eq.mpr h
     simp only [List.lookup,hb,yh (fun e:g=f=>hk (h.symm.trans e))]
    ·have hb:(g == k)=false:=beq_eq_false_iff_ne.mpr h
     simp only [List.lookup,hb];exact ih
theorem keys_putF (f:Str)(v:V):∀ fs:List (Str×V),f∈(J1E f v fs).map (·.1)/\∀ g,g∈fs.map (·.1)->g∈(J1E f v fs).map (·.1)
 | []=>⟨by simp [J1E],fun g h=>by simp at h⟩
 | (k,x)::r=>by
   obtain ⟨i1,i2⟩:=keys_putF f v r;rw [show J1E f v ((k,x)::r)=(if k=f then (k,v)::r else (k,x)::J1E f v r) from rfl];by_cases hk:k=f
   ·rw [yi hk]
    subst hk;exact ⟨by simp,fun g h=>by simpa using h⟩
   ·rw [yh hk]
    refine ⟨?_,fun g h=>?_⟩
    ·rw [yM]
     exact yJ _ i1
    ·rw [yM] at h ⊢
     rcases yL.mp h with e | e
     ·exact yL.mpr (.inl e)
     ·exact yJ _ (i2 g e)
theorem J4m (f:Str)(v:V):∀ fs:List (Str×V),(J1E f v fs).length<=fs.length+1
 | []=>by simp [J1E]
 | (k,x)::r=>by
   have ih:=J4m f v r;rw [show J1E f v ((k,x)::r)=(if k=f then (k,v)::r else (k,x)::J1E f v r) from rfl];by_cases hk:k=f
   ·rw [yi hk,length_cons,length_cons];omega
   ·rw [yh hk,length_cons,length_cons];omega
theorem RelO.some_of {v:V}{o:Option Value}(r:RelO (some v) o):∃ u,o=some u/\RelV v u:=by
 cases o with
 | none=>exact (show False from r).elim
 | some u=>exact ⟨u,rfl,r⟩
theorem RelO.none_of {o:Option Value}(r:RelO none o):o=none:=by
 cases o with
 | none=>rfl
 | some u=>exact (show False from r).elim
theorem Jan {v:V}{u:Value}(r:RelV v u):PySem.W.handedIn u=true:=by
 cases v with
 | non=>cases (show u=Value.none from r);rfl
 | bl b=>cases (show u=Value.bool b from r);rfl
 | int i=>obtain ⟨t,e⟩:=(show ∃ t,u=Value.int i t from r);cases e;rfl
 | str x=>obtain ⟨t,e⟩:=(show ∃ t,u=Value.str x t from r);cases e;rfl
 | byt b=>obtain ⟨t,e⟩:=(show ∃ t,u=Value.bytes b t from r);cases e;rfl
 | flt b=>obtain ⟨t,e⟩:=(show ∃ t,u=Value.float b t from r);cases e;rfl
 | ref a=>cases (show u=Value.ref a from r);rfl
 | ty n=>cases (show u=Value.type n from r);rfl
section
variable {P:Program}{w:World}{H H':Hp}{h h':Heap}{a C dx:Addr}{fs fs':List (Str×V)}
theorem J4I (hok:HOk P w H h)(e:H a=some (.ins C dx fs)):∃ mA,ObjM h a dx C mA/\(∀ f,RelO (fs.lookup f) (mA f))/\PySem.Within mA (fs.map (·.1))/\fs.length<=1000/\H dx=some (.own a):=by
 obtain ⟨d,z,ne,ob,mA,n,r,q⟩:=(show ObjOk P w H h a (.ins C dx fs) from hok a _ e);exact ⟨mA,⟨ob,n,ne⟩,r,q,z,d⟩
end
structure Cls (K:Frag)(C:Addr):Prop where
 pg:PySem.W.plainGet K C Str.empty=true
 hd:PySem.W.hasDictIn K C=true
 po:PySem.W.plainOver K C=true
 sa:findIn K (.ref C) "__setattr__"=some (some (.builtin "object.__setattr__"))
theorem Cls.get {K:Frag}{C:Addr}(c:Cls K C)(f:Str):PySem.W.plainGet K C f=true:=c.pg
def NoAttr (K:Frag)(C:Addr)(f:Str):Prop:=findIn K (.ref C) f=some none
theorem NoAttr.taker {K:Frag}{C:Addr}{f:Str}(n:NoAttr K C f):PySem.W.takerIn K C f=some none:=by
 unfold PySem.W.takerIn;rw [show findIn K (.ref C) f=some none from n];rfl
structure Meth (K:Frag)(C:Addr)(m:Str)(f:Addr):Prop where
 at_:findIn K (.ref C) m=some (some (.ref f))
 fn:PySem.W.isFn K (.ref f)=true
 kp:PySem.W.keepIn K (.ref f)=true
section
variable {X:Cx}{pins:List (Addr×Obj)}{σ:St}{H:Hp}{s:Shared}{a C dx:Addr}{fs:List (Str×V)}{f:Str}{v:V}{A:Around}{E:Value->Shared->Prop}
theorem J8L {b:Bool}{Q:Value->Shared->Prop}(I:Inv X pins σ H s)(e:H a=some (.ins C dx fs))(c:Cls X.K C)(n:NoAttr X.K C f)(l:fs.lookup f=some v)
 (h:∀ u s',Inv X pins σ H s'->RelV v u->Q u s'):wpAny (model X.prog X.w) A (getAttr (.ref a) f b) Q E s:=by
 obtain ⟨mA,O,r,_,_,_⟩:=J4I I.hok e;obtain ⟨u,hu,ru⟩:=RelO.some_of (v:=v) (o:=mA f) (by rw [<- l];exact r f);exact JcP I.kIn O (c.get f) c.hd n hu (Jan ru) (h u _ (I.tok _) ru)
theorem J8K {m:Str}{g:Addr}{pl:Sem Bool}{Q:Value×List Value->Shared->Prop}(I:Inv X pins σ H s)(e:H a=some (.ins C dx fs))(c:Cls X.K C)(k:Meth X.K C m g)(l:fs.lookup m=none)
 (h:Q (.ref g,[.ref a]) s):wpAny (model X.prog X.w) A (getMethod (.ref a) m pl) Q E s:=by
 obtain ⟨mA,O,r,_,_,_⟩:=J4I I.hok e;have hn:mA m=none:=RelO.none_of (by rw [<- l];exact r m);exact JbH I.kIn O (c.get m) k.at_ k.fn hn h
theorem J8s {y:V}{u:Value}{Q:Unit->Shared->Prop}(I:Inv X pins σ H s)(e:H a=some (.ins C dx fs))(c:Cls X.K C)(n:NoAttr X.K C f)(hl:fs.length<1000)(ry:RelV y u)
 (h:∀ s',Inv X pins σ (upd H a (.ins C dx (J1E f y fs))) s'->Q () s'):wpAny (model X.prog X.w) A (setAttr (.ref a) f u) Q E s:=by
 obtain ⟨mA,O,r,wi,_,ho⟩:=J4I I.hok e;have hz:(fs.map (·.1)).length<=sizeLine:=by rw [yC,sizeLine_eq];omega
 refine Jco I.kIn O c.sa c.po n.taker c.hd wi hz fun h' O' sb=>h _ ?_;have hd:∃ o,h'.get? dx=some o:=let ⟨o,_,_,e',_⟩:=O'.ns;⟨o,e'⟩;refine I.write (x:=a) (e:=dx) (by rw [e];exact True.intro) (.inr ho) (fun b q hb z=>(sb.2 b hb).trans z) hd ?_;refine ⟨by rw [Jd O.ne];exact ho,?_,O.ne,O'.obj,_,O'.ns,fun g=>?_,fun g hg=>?_⟩
 ·have:=J4m f y fs;omega
 ·show RelO ((J1E f y fs).lookup g) (if g=f then some u else mA g)
  rw [lookup_putF];by_cases q:g=f
  ·rw [yi q,yi q];exact ry
  ·rw [yh q,yh q];exact r g
 ·by_cases q:g=f
  ·rw [q];exact (keys_putF f y fs).1
  ·refine (keys_putF f y fs).2 g (wi g fun z=>hg ?_)
   show (if g=f then some u else mA g)=none;rw [yh q];exact z
theorem Inv.made (I:Inv X pins σ H s):Inv X pins σ (upd (upd H s.heap.objs.size (.own (s.heap.objs.size+1))) (s.heap.objs.size+1) (.ins C s.heap.objs.size []))
 { s with heap:=(s.heap.push PySem.W.emptyDict).push (PySem.W.instObj C s.heap.objs.size) }:=by
 have e1:(s.heap.push PySem.W.emptyDict).get? s.heap.objs.size=some PySem.W.emptyDict:=y6 s.heap rfl;have e2:((s.heap.push PySem.W.emptyDict).push (PySem.W.instObj C s.heap.objs.size)).get? (s.heap.objs.size+1)=some (PySem.W.instObj C s.heap.objs.size):=by
  have:=y6 (s.heap.push PySem.W.emptyDict) (o:=PySem.W.instObj C s.heap.objs.size) rfl;rwa [Heap.size_push] at this
 have e3:(s.heap.push PySem.W.emptyDict).Ns s.heap.objs.size (fun _=>none):=⟨PySem.W.emptyDict,#[],_,e1,rfl,(fun e he=>absurd he (by simp)),fun _=>rfl⟩;have I1:=I.laid (a:=s.heap.objs.size) (o:=.own (s.heap.objs.size+1)) (h':=s.heap.push PySem.W.emptyDict) (t':=s.toks) (fun b u q=>y4 _ q) (yj _) ⟨_,e1⟩;refine I1.laid (a:=s.heap.objs.size+1) (o:=.ins C s.heap.objs.size []) (t':=s.toks) (fun b u q=>y4 _ q) (Nat.le_of_eq (Heap.size_push _ _)) ?_;have ne:s.heap.objs.size≠s.heap.objs.size+1:=yr (Nat.lt_succ_self _);refine ⟨by rw [Jd ne,J1],yw _,ne,e2,fun _=>none,(Heap.Ns1.of_empty e3).at fun o q=>y4 _ q,fun _=>True.intro,fun y hy=>absurd rfl hy⟩
theorem JcZ {prog:Program}{w:World}{env:Env}{e:Expr}{f:Str}{pos:Pos}{s:Shared}{Q:Value->Shared->Prop}(hb:attributeBase e f env (eval e env)=eval e env)
 (h:wpAny (model prog w) A (eval e env) (fun o s₁=>wpAny (model prog w) A (getAttr o f true) Q E s₁) E s):wpAny (model prog w) A (eval (.Attribute e f pos) env) Q E s :=
 Attribute_any_ h (by rw [arm_eval_Attribute,hb])
end
def Jdq (K:Frag)(ta:TE)(f:Str):TE:=fun σ H Q=>ta σ H fun x H1=>∃ a C dx fs v,x=.ref a/\H1 a=some (.ins C dx fs)/\Cls K C/\NoAttr K C f/\fs.lookup f=some v/\Q v H1
def Jdu (K:Frag)(ta tv:TE)(f:Str):TS:=fun D σ H=>tv σ H fun y H1=>ta σ H1 fun x H2=>∃ a C dx fs,x=.ref a/\H2 a=some (.ins C dx fs)/\Cls K C/\NoAttr K C f/\fs.length<1000 /\
 D.nx σ (upd H2 a (.ins C dx (J1E f y fs)))
section
variable {X:Cx}{o e value:Expr}{f:Str}{pos pos' tpos:Pos}{ta tv:TE}
theorem J2a (he:PE X e ta)(hb:attributeBase e f X.env (eval e X.env)=eval e X.env):PE X (.Attribute e f pos) (Jdq X.K ta f):=by
 intro pins s σ H Q I h;refine JcZ hb (thn (he pins s σ H _ I h) fun u s1 ⟨x,H1,I1,rx,a,C,dx,fs,v,ex,ea,c,n,l,q⟩=>?_);subst ex;obtain rfl:u=Value.ref a:=rx;exact J8L I1 ea c n l fun u' s2 I2 ru=>⟨v,H1,I2,ru,q⟩
theorem J8v (ha:PE X o ta)(hv:PE X value tv)(hs:swapsWith value (some (.Attribute o f pos')) pos.line X.env=pure false):PS X (.Assign [.Attribute o f pos'] value pos) (Jdu X.K ta tv f):=by
 intro pins s σ H D I h;refine plainObj_wpAny_Assign_Attribute (thn (hv pins s σ H _ I h) fun u s1 ⟨y,H1,I1,ry,q⟩=>thn (ha pins s1 σ H1 _ I1 q) fun ov s2 ⟨x,H2,I2,rx,a,C,dx,fs,ex,ea,c,n,l,q2⟩=>?_) hs;subst ex;obtain rfl:ov=Value.ref a:=rx;exact J8s I2 ea c n l ry fun s3 I3=>⟨σ,_,I3,q2⟩
end
section
variable {X:Cx}{pins:List (Addr×Obj)}{σ:St}{H:Hp}{s:Shared}{A:Around}{E:Value->Shared->Prop}{Q:Value->Shared->Prop}{c:Value}{b:Bool}
inductive TyOf (K:Frag)(H:Hp):V->Value->Prop where
 | non:TyOf K H .non (.type "NoneType")
 | bl (x:Bool):TyOf K H (.bl x) (.type "bool")
 | int (i:Int):TyOf K H (.int i) (.type "int")
 | str (x:Str):TyOf K H (.str x) (.type "str")
 | flt (x:UInt64):TyOf K H (.flt x) (.type "float")
 | lst {a:Addr} {xs:List V} (e:H a=some (.lst xs)):TyOf K H (.ref a) (.type "list")
 | frz {a:Addr} {o:Obj} {xs:List V} (e:H a=some (.frz o (.lst xs))):TyOf K H (.ref a) (.type "list")
 | tup {a:Addr} {xs:List V} (e:H a=some (.tup xs)):TyOf K H (.ref a) (.type "tuple")
 | dK {a:Addr} {kvs:List (Key×V)} (e:H a=some (.dK kvs)):TyOf K H (.ref a) (.type "dict")
 | dT {a:Addr} {kvs:List (List J0A×V)} (e:H a=some (.dT kvs)):TyOf K H (.ref a) (.type "dict")
 | ins {a C dx:Addr} {fs:List (Str×V)} (e:H a=some (.ins C dx fs)) (cl:Cls K C) (ha:findIn K (.ref C) "__class__"=some (some (.builtin "object.__class__")))
  (hn:PySem.W.specialIn K (.builtin "object.__class__") "__get__"=some (some (.builtin "getset_descriptor.__get__"))) (htk:PySem.W.takesIn K (.builtin "object.__class__")=some true)
  (hm:PySem.W.mroIn K C (.type "object")=some true):TyOf K H (.ref a) (.ref C)
theorem Jah {x:V}{u t:Value}(I:Inv X pins σ H s)(rx:RelV x u)(ty:TyOf X.K H x t)(e:PySem.W.kitOne X.K t c=some b)(h:∀ tk,Q (.bool b) { s with toks:=tk }) :
 wpAny (model X.prog X.w) A (call (.builtin "isinstance") [u,c]) Q E s:=by
 cases ty with
 | non=>cases (show u=Value.none from rx);exact PySem.W.kia_one PySem.W.kitx_none I.kIn True.intro e (fun z=>nomatch z) h
 | bl y=>cases (show u=Value.bool y from rx);exact PySem.W.kia_one PySem.W.kitx_bool I.kIn True.intro e (fun z=>nomatch z) h
 | int i=>obtain ⟨t,q⟩:=(show ∃ t,u=Value.int i t from rx);cases q;exact PySem.W.kia_one PySem.W.kitx_int I.kIn True.intro e (fun z=>nomatch z) h
 | str y=>obtain ⟨t,q⟩:=(show ∃ t,u=Value.str y t from rx);cases q;exact PySem.W.kia_one PySem.W.kitx_str I.kIn True.intro e (fun z=>nomatch z) h
 | flt y=>obtain ⟨t,q⟩:=(show ∃ t,u=Value.float y t from rx);cases q;exact PySem.W.kia_one PySem.W.kitx_float I.kIn True.intro e (fun z=>nomatch z) h
 | @lst a xs ea =>
   cases (show u=Value.ref a from rx);obtain ⟨_,_,n,_,h1⟩:=(show ObjOk X.prog X.w H s.heap a (.lst xs) from I.hok a _ ea);exact PySem.W.kia_one PySem.W.kitx_list I.kIn ⟨_,h1,rfl⟩ e (fun z=>nomatch z) h
 | @frz a ob xs ea =>
   cases (show u=Value.ref a from rx);obtain ⟨_,_,_,n,_,h1⟩:=(show ObjOk X.prog X.w H s.heap a (.frz ob (.lst xs)) from I.hok a _ ea);exact PySem.W.kia_one PySem.W.kitx_list I.kIn ⟨_,h1,rfl⟩ e (fun z=>nomatch z) h
 | @tup a xs ea =>
   cases (show u=Value.ref a from rx);obtain ⟨_,_,_,p⟩:=(show ObjOk X.prog X.w H s.heap a (.tup xs) from I.hok a _ ea);obtain ⟨o,h1,h2,_⟩:=p;exact PySem.W.kia_one PySem.W.kitx_tuple I.kIn ⟨o,h1,h2⟩ e (fun z=>nomatch z) h
 | @dK a kvs ea =>
   cases (show u=Value.ref a from rx);obtain ⟨_,_,vs,_,p⟩:=(show ObjOk X.prog X.w H s.heap a (.dK kvs) from I.hok a _ ea);obtain ⟨o,es,ep,h1,h2,_⟩:=p;exact PySem.W.kia_one PySem.W.kitx_dict I.kIn ⟨o,h1,h2.1⟩ e (fun z=>nomatch z) h
 | @dT a kvs ea =>
   cases (show u=Value.ref a from rx);obtain ⟨_,_,xs,_,o,es,ep,h1,h2,_⟩:=(show ObjOk X.prog X.w H s.heap a (.dT kvs) from I.hok a _ ea);exact PySem.W.kia_one PySem.W.kitx_dict I.kIn ⟨o,h1,h2.1⟩ e (fun z=>nomatch z) h
 | @ins a C dx fs ea cl ha hn htk hm =>
   cases (show u=Value.ref a from rx);obtain ⟨mA,O,_⟩:=J4I I.hok ea;obtain ⟨od,J,_⟩:=O.look;exact PySem.W.kia_one (PySem.W.kitx_own (cl.get _) cl.hd ha hn htk hm) I.kIn J e (fun z=>nomatch z) h
end
structure Room (k:Nat)(A:Around):Prop where
 hd:A.handled=none
 dp:A.depth+3 * k+5<recursionLimit
 un:A.units+16 * k+200<cLine
theorem Room.mono {j k:Nat}{A:Around}(r:Room k A)(h:j<=k):Room j A:=⟨r.hd,by have:=r.dp;omega,by have:=r.un;omega⟩
theorem Room.deeper {k:Nat}{A:Around}(r:Room (k+1) A)(env:Env):Room k (A.deeper env) :=
 ⟨r.hd,by have:=r.dp;show A.depth+1+3 * k+5<_;omega,by have:=r.un;show A.units+3+16 * k+200<_;omega⟩
theorem J8C {A:Around}{C:Addr}{us:List Value}{kw:List (Str×Value)}:(A.under (.builtin "type.__call__" ⟨.ref C::us,kw⟩)).depth=A.depth+1:=by
 first | rfl | simp [Around.under,Code.weight,Code.isCreation,Code.isGuard,Code.isCaller,Code.frames,Code.isFrame,guardIds]
theorem J8B {A:Around}{C:Addr}{us:List Value}{kw:List (Str×Value)}:(A.under (.builtin "type.__call__" ⟨.ref C::us,kw⟩)).units=A.units+1:=by
 first | rfl | simp [Around.under,Code.cUnits,Code.frames,Code.isFrame]
theorem Room.make {k:Nat}{A:Around}(r:Room (k+1) A)(C:Addr)(us:List Value)(kw:List (Str×Value)):Room k (A.under (.builtin "type.__call__" ⟨.ref C::us,kw⟩)) :=
 ⟨r.hd,by have:=r.dp;rw [J8C];omega,by have:=r.un;rw [J8B];omega⟩
theorem Room.depth {k:Nat}{A:Around}(r:Room k A):A.depth<recursionLimit:=by have:=r.dp;omega
theorem Room.units {k:Nat}{A:Around}(r:Room k A):A.units+64<cLine:=by have:=r.un;omega
def JaG:TA:=fun _ H Q=>Q [] H
def J68 (ta:TE)(tr:TA):TA:=fun σ H Q=>ta σ H fun x H1=>tr σ H1 fun xs H2=>Q (x::xs) H2
section
variable {X:Cx}{e:Expr}{es:List Expr}{te:TE}{t:TA}{pos:Pos}
theorem Ja:PA X [] JaG:=fun _ _ _ _ H Q I h=>Calls.spliced_nil ⟨[],H,I,.nil,h⟩
theorem JcG (ha:PE X e te)(hr:PA X es t)(hs:starEach (e::es) X.env=(false,eval e X.env)::starEach es X.env:=by rfl):PA X (e::es) (J68 te t):=by
 intro pos pins s σ H Q I h;rw [hs];show wpAny _ _ (spliced ((false,eval e X.env)::backTo pos (starEach es X.env))) _ _ s;refine Calls.spliced_cons (thn (ha pins s σ H _ I h) fun u s1 ⟨x,H1,I1,r1,q1⟩=>?_);exact thn (hr pos pins s1 σ H1 _ I1 q1) fun us s2 ⟨xs,H2,I2,r2,q2⟩=>⟨x::xs,H2,I2,.cons r1 r2,q2⟩
def Jdl (t:TA):TE:=fun σ H Q=>t σ H fun xs H1=>xs.length<=sizeLine/\∀ p,H1 p=none->Q (.ref p) (upd H1 p (.tup xs))
def Jdp (t:TA):TE:=fun σ H Q=>t σ H fun xs H1=>xs.length<=sizeLine/\∀ p,H1 p=none->Q (.ref p) (upd H1 p (.lst xs))
theorem JD {x1}(h:PA X es t):PE X (.Tuple es x1 pos) (Jdl t):=by
 intro pins s σ H Q I hq;refine wpAny_Tuple_spliced (thn (h pos pins s σ H _ I hq) fun us s1 ⟨xs,H1,I1,r,z,q⟩=>⟨by rw [<- r.length];exact z,?_⟩);have hf:H1 s1.heap.objs.size=none:=I1.hok.fresh (yj _);refine ⟨.ref s1.heap.objs.size,upd H1 s1.heap.objs.size (.tup xs),I1.laid (t':=s1.toks) (fun b u e=>y4 _ e) (yj _) ?_,rfl,q _ hf⟩;exact ⟨z,us,r,⟨_,y6 _ rfl,rfl,_,rfl⟩⟩
theorem J0l (h:PA X es t):PE X (.List es pos) (Jdp t):=by
 intro pins s σ H Q I hq;refine wpAny_List_spliced (thn (h pos pins s σ H _ I hq) fun us s1 ⟨xs,H1,I1,r,z,q⟩=>⟨by rw [<- r.length];exact z,?_⟩);have hf:H1 s1.heap.objs.size=none:=I1.hok.fresh (yj _);refine ⟨.ref s1.heap.objs.size,upd H1 s1.heap.objs.size (.lst xs),I1.laid (t':=s1.toks) (fun b u e=>y4 _ e) (yj _) ?_,rfl,q _ hf⟩;exact ⟨z,us,0,r,y6 _ rfl⟩
end
abbrev Sp:=List V->Hp->VK->XK->Prop
abbrev CXT:=List Env->Hp->Shared->XK->Value->Shared->Prop
structure Env0 (P:Program)(w:World)(K:Frag)(mg:Str->Option Value)(base:Heap)(A:Around)(outer:List Env)(s:Shared)(H:Hp):Prop where
 frames:A.frames=some outer
 mod:Mod K mg base
 bs:∀ b o,base.get? b=some o->s.heap.get? b=some o/\H b=none
 bsz:base.objs.size<=s.heap.objs.size
 funs:s.heap.FunFrames base outer
 frf:∀ b∈frs outer,H b=none
 hok:HOk P w H s.heap
 bare:AllBare s.gens
def CE (outer:List Env)(P:Program)(w:World)(H:Hp)(s:Shared)(Q:VK)(u:Value)(s':Shared):Prop :=
 ∃ v H',s'.os=s.os/\AllBare s'.gens/\Un (frs outer) [] H H' s.heap s'.heap/\HOk P w H' s'.heap/\RelV v u/\Q v H'
def CR (CX:CXT)(outer:List Env)(P:Program)(w:World)(H:Hp)(s:Shared)(Q:VK)(E:XK)(r:Result)(s':Shared):Prop :=
 match r with
 | .ok (.ret u)=>CE outer P w H s Q u s'
 | .ok _=>False
 | .error e=>CX outer H s E e s'
structure FnOk (P:Program)(w:World)(K:Frag)(mg:Str->Option Value)(base:Heap)(CX:CXT)(k:Nat)(f:Addr)(fd:FuncData)(ps:List Str)(sp:Sp):Prop where
 len:∀ vs H Q E,sp vs H Q E->vs.length=ps.length
 run:∀ (A:Around) (outer:List Env) (s:Shared) (H:Hp) (args:Args) (us:List Value) (vs:List V) (Q:VK) (E:XK),Room k A->Env0 P w K mg base A outer s H->BindsTo s fd args (ps.zip us)->Vals vs us->sp vs H Q E ->
  codeAny (model P w) A (.call (.ref f) args) (CR CX outer P w H s Q E) s
theorem Env0.make {P:Program}{w:World}{K:Frag}{mg:Str->Option Value}{base:Heap}{A:Around}{outer:List Env}{s:Shared}{H:Hp}(e:Env0 P w K mg base A outer s H)(C:Addr)(us:List Value)(kw:List (Str×Value)) :
 Env0 P w K mg base (A.under (.builtin "type.__call__" ⟨.ref C::us,kw⟩)) outer s H:=⟨by first | exact e.frames | (simpa [Around.under,Code.envs,Code.isFrame,pushEnvs] using e.frames),e.mod,e.bs,e.bsz,e.funs,e.frf,e.hok,e.bare⟩
section
variable {X:Cx}{pins:List (Addr×Obj)}{σ:St}{H:Hp}{s s':Shared}
theorem Inv.env0 (I:Inv X pins σ H s):Env0 X.prog X.w X.K X.mg X.base X.A X.stack s H :=
 ⟨I.ok.frames,I.ok.mod,I.bs,yx I.ok.bsz I.sz,I.stack,I.stkFree,I.hok,I.bare⟩
theorem Inv.after {Q:VK}{u:Value}(I:Inv X pins σ H s)(h:CE X.stack X.prog X.w H s Q u s'):EP X pins σ Q u s':=by
 obtain ⟨v,H',os,bare,un,hok,r,q⟩:=h;obtain ⟨hh,g,d,t,os'⟩:=s';obtain rfl:os'=s.os:=os;exact ⟨v,H',I.call (h':=hh) (g':=g) (d':=d) (t':=t) (ch:=[]) un hok bare (fun b z=>absurd z (by simp)),r,q⟩
end
def J94 (sp:Sp)(dvs:List V)(E:XK)(t:TA):TE:=fun σ H Q=>t σ H fun vs H1=>sp (vs++dvs) H1 Q E
def JaJ (C:Addr)(m:Str)(sp:Sp)(dvs:List V)(E:XK)(ta:TE)(t:TA):TE:=fun σ H Q=>ta σ H fun x H1=>∃ a dx fs,x=.ref a/\H1 a=some (.ins C dx fs)/\fs.lookup m=none /\
 t σ H1 fun vs H2=>sp (x::(vs++dvs)) H2 Q E
def Jd5 (C:Addr)(sp:Sp)(dvs:List V)(E:XK)(t:TA):TE:=fun σ H Q=>t σ H fun vs H1=>∀ x dx,H1 x=none->H1 dx=none->dx≠x ->
 sp (.ref x::(vs++dvs)) (upd (upd H1 dx (.own x)) x (.ins C dx [])) (fun v H2=>v=.non/\Q (.ref x) H2) E
def Binds (K:Frag)(fd:FuncData)(ps:List Str)(ds:List Value):Prop :=
 ∀ (s:Shared) (us:List Value),K.In s.heap->(us++ds).length=ps.length->BindsTo s fd ⟨us,[]⟩ (ps.zip (us++ds))
theorem Binds.all {K:Frag}{fd:FuncData}{ps:List Str}(h:∀ us:List Value,us.length=ps.length->bindArgs fd ⟨us,[]⟩=pure (ps.zip us)):Binds K fd ps []:=fun s us _ hl=>by
 rw [append_nil] at hl ⊢;exact .of_eq (h us hl)
def J4g (CX:CXT)(X:Cx)(E:XK):Prop:=∀ (pins:List (Addr×Obj)) (σ:St) (H:Hp) (s:Shared) (e:Value) (s':Shared),Inv X pins σ H s->CX X.stack H s E e s'->X.xe e s'
section
variable {X:Cx}{CX:CXT}{k:Nat}{f C:Addr}{fd:FuncData}{ps:List Str}{sp:Sp}{dvs:List V}{ds:List Value}{E:XK}{x m:Str}{p pos apos:Pos}{e o:Expr}{es:List Expr}{ta:TE}{t:TA}
theorem Jb2 {pins:List (Addr×Obj)}{σ:St}{H:Hp}{s:Shared}{Q:VK}{us:List Value}{vs:List V}(F:FnOk X.prog X.w X.K X.mg X.base CX k f fd ps sp)(hr:Room k X.A)(hb:Binds X.K fd ps ds)(hd:Vals dvs ds)(hx:J4g CX X E)
 (I:Inv X pins σ H s) (r:Vals vs us) (h:sp (vs++dvs) H Q E):wpAny (model X.prog X.w) X.A (call (.ref f) us) (EP X pins σ Q) X.xe s:=by
 have r2:Vals (vs++dvs) (us++ds):=r.append hd;have hl:(us++ds).length=ps.length:=by rw [<- r2.length];exact F.len _ _ _ _ h
 refine wpAny_call (codeAny_mono (F.run X.A X.stack s H ⟨us,[]⟩ (us++ds) (vs++dvs) Q E hr I.env0 (hb s us I.kIn hl) r2 h) fun r s' hq=>?_);cases r with
 | error e=>exact hx pins σ H s e s' I hq
 | ok fl =>
   cases fl with
   | ret u=>exact I.after hq
   | next=>exact yy hq
   | brk=>exact yy hq
   | cont=>exact yy hq
theorem JcE (F:FnOk X.prog X.w X.K X.mg X.base CX k f fd ps sp)(hr:Room k X.A)(hg:Gl X x)(hm:X.mg x=some (.ref f))(hk:PySem.W.keepIn X.K (.ref f)=true)(hb:Binds X.K fd ps ds)(hd:Vals dvs ds)(hx:J4g CX X E)
 (ha:PA X (e::es) t) (hdb:(x == ("__debug__":Str))=false:=by decide) (he:starEach (e::es) X.env=(false,eval e X.env)::starEach es X.env:=by rfl) (hpl:(backTo pos (starEach es X.env)).any (·.1)=false:=by rfl) :
 PE X (.Call (.Name x p) (e::es) [] pos) (J94 sp dvs E t):=by
 intro pins s σ H Q I h;refine wpAny_Call_Name_kw (J73 I hg hm ?_ hdb);refine PySem.W.callWith_K (h₀:=X.base) I.ok.mod.kin hk (thn (ha pos pins s σ H _ I h) fun us s1 ⟨vs,H1,I1,r,q⟩=>⟨I1.kIn,?_⟩) he hpl;exact Jb2 F hr hb hd hx I1 r q
theorem J2U {pl:Sem Bool}(he:PE X o ta)(c:Cls X.K C)(hm:Meth X.K C m f)(F:FnOk X.prog X.w X.K X.mg X.base CX k f fd ps sp)(hr:Room k X.A)(hb:Binds X.K fd ps ds)(hd:Vals dvs ds)(hx:J4g CX X E)(ha:PA X (e::es) t)
 (hst:starEach (e::es) X.env=(false,eval e X.env)::starEach es X.env:=by rfl) (hpl:(backTo pos (starEach es X.env)).any (·.1)=false:=by rfl)
 (ht:eval (.Call (.Attribute o m apos) (e::es) [] pos) X.env=(do
  let ov <- eval o X.env
  standAt apos.atName
  let (f,first) <- holding [ov] (getMethod ov m pl)
  callWith pos f first (backTo pos (starEach (e::es) X.env)) (backToKw pos (keywordEach [] X.env))):=by rfl) :
 PE X (.Call (.Attribute o m apos) (e::es) [] pos) (JaJ C m sp dvs E ta t):=by
 intro pins s σ H Q I h;refine PySem.W.methodCall_KW (pl:=pl) (thn (he pins s σ H _ I h) fun u s1 ⟨x,H1,I1,rx,a,dx,fs,ex,ea,l,q⟩=>?_) ht;subst ex;obtain rfl:u=Value.ref a:=rx;refine J8K I1 ea c hm l ?_;refine PySem.W.callWith_K (first:=[.ref a]) (h₀:=X.base) I.ok.mod.kin hm.kp (thn (ha pos pins s1 σ H1 _ I1 q) fun us s2 ⟨vs,H2,I2,r,q2⟩=>⟨I2.kIn,?_⟩) hst hpl;exact Jb2 (us:=.ref a::us) (vs:=.ref a::vs) F hr hb hd hx I2 (.cons rfl r) q2
structure Mk (K:Frag)(C f:Addr):Prop where
 makes:PySem.W.makesIn K C=true
 init:findIn K (.ref C) "__init__"=some (some (.ref f))
 fn:PySem.W.isFn K (.ref f)=true
 kp:PySem.W.keepIn K (.ref C)=true
theorem Jb1 {pins:List (Addr×Obj)}{σ:St}{H:Hp}{s:Shared}{Q:VK}{us:List Value}{vs:List V}(M:Mk X.K C f)(F:FnOk X.prog X.w X.K X.mg X.base CX k f fd ps sp)(hr:Room (k+1) X.A)(hb:Binds X.K fd ps ds)(hd:Vals dvs ds)
 (hx:J4g CX X E) (I:Inv X pins σ H s) (r:Vals vs us)
 (h:∀ x dx,H x=none->H dx=none->dx≠x->sp (.ref x::(vs++dvs)) (upd (upd H dx (.own x)) x (.ins C dx [])) (fun v H2=>v=.non/\Q (.ref x) H2) E) :
 wpAny (model X.prog X.w) X.A (call (.ref C) us) (EP X pins σ Q) X.xe s:=by
 have hq:=h (s.heap.objs.size+1) s.heap.objs.size (I.hok.fresh (Nat.le_succ _)) (I.hok.fresh (yj _)) (yr (Nat.lt_succ_self _));have I2:=Inv.made (C:=C) I;have r2:Vals (V.ref (s.heap.objs.size+1)::(vs++dvs)) (Value.ref (s.heap.objs.size+1)::(us++ds)):=.cons rfl (r.append hd);have hl:(Value.ref (s.heap.objs.size+1)::us++ds).length=ps.length:=by
  have e:=r2.length;rw [F.len _ _ _ _ hq] at e;exact e.symm
 refine wpAny_call (Jbw (f:=f) I.kIn M.makes M.init (beq_iff_eq.mp M.fn) (codeAny_mono (F.run _ X.stack _ _ ⟨Value.ref (s.heap.objs.size+1)::us,[]⟩ (Value.ref (s.heap.objs.size+1)::(us++ds)) _ _ E (hr.make C us [])
  (I2.env0.make C us []) (hb _ (Value.ref (s.heap.objs.size+1)::us) I2.kIn hl) r2 hq) fun r s' hq'=>?_))
 cases r with
 | error e=>exact hx pins σ _ _ e s' I2 hq'
 | ok fl =>
   cases fl with
   | ret u =>
     obtain ⟨v,H',I3,rv,ev,q3⟩:=I2.after hq';subst ev;exact ⟨rv,⟨V.ref (s.heap.objs.size+1),H',I3,rfl,q3⟩⟩
   | next=>exact yy hq'
   | brk=>exact yy hq'
   | cont=>exact yy hq'
theorem JcB (M:Mk X.K C f)(F:FnOk X.prog X.w X.K X.mg X.base CX k f fd ps sp)(hr:Room (k+1) X.A)(hg:Gl X x)(hm:X.mg x=some (.ref C))(hb:Binds X.K fd ps ds)(hd:Vals dvs ds)(hx:J4g CX X E)
 (ha:PA X (e::es) t) (hdb:(x == ("__debug__":Str))=false:=by decide) (he:starEach (e::es) X.env=(false,eval e X.env)::starEach es X.env:=by rfl) (hpl:(backTo pos (starEach es X.env)).any (·.1)=false:=by rfl) :
 PE X (.Call (.Name x p) (e::es) [] pos) (Jd5 C sp dvs E t):=by
 intro pins s σ H Q I h;refine wpAny_Call_Name_kw (J73 I hg hm ?_ hdb);refine PySem.W.callWith_K (h₀:=X.base) I.ok.mod.kin M.kp (thn (ha pos pins s σ H _ I h) fun us s1 ⟨vs,H1,I1,r,q⟩=>⟨I1.kIn,?_⟩) he hpl;exact Jb1 M F hr hb hd hx I1 r q
end
def PK (X:Cx)(kws:List Keyword)(t:TA):Prop :=
 ∀ (pos:Pos) (pins:List (Addr×Obj)) (s:Shared) (σ:St) (H:Hp) (Q:List V->Hp->Prop),Inv X pins σ H s->t σ H Q->wpAny (model X.prog X.w) X.A (evalAll ((backToKw pos (keywordEach kws X.env)).map (·.2))) (AP X pins σ Q) X.xe s
section
variable {X:Cx}{CX:CXT}{k:Nat}{f C:Addr}{fd:FuncData}{ps ks:List Str}{sp:Sp}{E:XK}{x m:Str}{p pos apos kpos:Pos}{e o:Expr}{es:List Expr}{kws:List Keyword}{te ta:TE}{t tk:TA}{nm:Option Str}
theorem Jdz:PK X [] JaG:=fun _ _ _ _ H Q I h=>wpAny_evalAll_nil ⟨[],H,I,.nil,h⟩
theorem Jcz (ha:PE X e te)(hr:PK X kws t):PK X (⟨nm,e,kpos⟩::kws) (J68 te t):=by
 intro pos pins s σ H Q I h;show wpAny _ _ (evalAll ((do let v <- eval e X.env;standAt pos;pure v)::(backToKw pos (keywordEach kws X.env)).map (·.2))) _ _ s;refine wpAny_evalAll_cons (yf (thn (ha pins s σ H _ I h) fun u s1 ⟨x,H1,I1,r1,q1⟩=>yf (wpAny_standAt (yg ?_))));exact thn (hr pos pins s1 σ H1 _ I1 q1) fun us s2 ⟨xs,H2,I2,r2,q2⟩=>⟨x::xs,H2,I2,.cons r1 r2,q2⟩
variable {g:List Value->List Value->List Value}{gV:List V->List V->List V}
end
structure FnScope (N P:List Str)(sc:Scope):Prop where
 kind:sc.kind=.function
 co:sc.isCoroutine=false
 gen:sc.isGenerator=false
 nd:N.Nodup
 pre:N.take P.length=P
 par:∀ x∈P,sc.names.lookup x=some .local\/sc.names.lookup x=some .cell
 nofree:∀ y∈sc.names,y.2≠.free
theorem J6x {kindOf:Str->Option NameKind}{x:Str}:∀ {binds:List (Str×Value)} {m:Str->Option Value},(∀ v,(x,v)∉binds)->bindL kindOf binds m x=m x
 | [],_,_=>rfl
 | (n,v)::r,m,h=>by
   unfold bindL;rw [J6x fun w hw=>h w (yJ _ hw)]
   split
   ·have:x≠n:=by rintro rfl;exact h v yK
    simp [this]
   ·rfl
theorem J6z {kindOf:Str->Option NameKind}{x:Str}:∀ {binds:List (Str×Value)} {m:Str->Option Value},(∀ v,(x,v)∉binds)->bindC kindOf binds m x=m x
 | [],_,_=>rfl
 | (n,v)::r,m,h=>by
   unfold bindC;rw [J6z fun w hw=>h w (yJ _ hw)]
   split
   ·rfl
   ·have:x≠n:=by rintro rfl;exact h v yK
    simp [this]
theorem J6y {kindOf:Str->Option NameKind}{x:Str}{v:Value}:∀ {P:List Str} {vs:List Value} {i:Nat} {m:Str->Option Value},P.Nodup->P[i]?=some x->vs[i]?=some v->kindOf x=some .local ->
 bindL kindOf (P.zip vs) m x=some v
 | [],_,_,_,_,h,_,_=>by simp at h
 | _::_,[],_,_,_,_,h,_=>by simp at h
 | p::P,w::vs,0,m,nd,h1,h2,hk=>by
   simp at h1 h2;subst h1;subst h2;show bindL kindOf ((p,w)::P.zip vs) m p=_;unfold bindL;rw [J6x fun v hv=>(nodup_cons.mp nd).1 (of_mem_zip hv).1,yi hk];simp
 | p::P,w::vs,i+1,m,nd,h1,h2,hk=>by
   show bindL kindOf ((p,w)::P.zip vs) m x=_;unfold bindL;exact J6y (i:=i) (nodup_cons.mp nd).2 (by simpa using h1) (by simpa using h2) hk
theorem J6A {kindOf:Str->Option NameKind}{x:Str}{v:Value}:∀ {P:List Str} {vs:List Value} {i:Nat} {m:Str->Option Value},P.Nodup->P[i]?=some x->vs[i]?=some v->kindOf x≠some .local ->
 bindC kindOf (P.zip vs) m x=some v
 | [],_,_,_,_,h,_,_=>by simp at h
 | _::_,[],_,_,_,_,h,_=>by simp at h
 | p::P,w::vs,0,m,nd,h1,h2,hk=>by
   simp at h1 h2;subst h1;subst h2;show bindC kindOf ((p,w)::P.zip vs) m p=_;unfold bindC;rw [J6z fun v hv=>(nodup_cons.mp nd).1 (of_mem_zip hv).1,yh hk];simp
 | p::P,w::vs,i+1,m,nd,h1,h2,hk=>by
   show bindC kindOf ((p,w)::P.zip vs) m x=_;unfold bindC;exact J6A (i:=i) (nodup_cons.mp nd).2 (by simpa using h1) (by simpa using h2) hk
def start (N:List Str)(vs:List V):St:=vs.map some++List.replicate (N.length - vs.length) none
def J84 (CX:CXT)(P:Program)(w:World)(K:Frag)(mg:Str->Option Value)(base:Heap)(N:List Str)(qual:Str)(scope:Scope)(f:Addr)(cd:Value)(A:Around)(outer:List Env)(s:Shared)(H:Hp)(E:XK):Cx where
 prog:=P
 w:=w
 K:=K
 mg:=mg
 base:=base
 A:=A.deeper (envOfC qual scope s.heap.objs.size f cd)
 N:=N
 s₀:=s
 H₀:=H
 env:=envOfC qual scope s.heap.objs.size f cd
 outer:=outer
 stack:=envOfC qual scope s.heap.objs.size f cd::outer
 ex:=[]
 calm:=true
 fn:=fun _=>true
 pn:=[]
 xe:=fun e s'=>wpAny (model P w) (A.deeper (envOfC qual scope s.heap.objs.size f cd)) (leaving (envOfC qual scope s.heap.objs.size f cd) e) (fun _ s''=>CX outer H s E e s'') (fun e' s''=>CX outer H s E e' s'') s'
theorem J89 {sc:Scope}{n:Nat}{x:Str}(h:sc.names.lookup x=some .cell):∃ c,(cellsFrom n sc.names []).lookup x=some c:=by
 have q:=PySem.W.cellsFrom_some sc.names n [] (.inl h);exact Option.isSome_iff_exists.mp q
theorem inv_start {CX:CXT}{P:Program}{w:World}{K:Frag}{mg:Str->Option Value}{base:Heap}{N ps:List Str}{qual:Str}{scope:Scope}{f:Addr}{cd:Value}{A:Around}{outer:List Env}{s s1:Shared}{H:Hp}{E:XK}{us:List Value}{vs:List V}
 (S:FnScope N ps scope) (hd:A.handled=none) (e0:Env0 P w K mg base A outer s H) (hl:vs.length=ps.length) (r:Vals vs us)
 (x:InCallC s s.heap.objs.size (bindL (envOfC qual scope s.heap.objs.size f cd).kindOf (ps.zip us) fun _=>none) (cellsFrom (s.heap.objs.size+1) scope.names []) (bindC (envOfC qual scope s.heap.objs.size f cd).kindOf (ps.zip us) fun _=>none) s1) :
 Inv (J84 CX P w K mg base N qual scope f cd A outer s H E) [] (start N vs) H s1:=by
 have hpl:ps.length<=N.length:=by have:=congrArg List.length S.pre;rw [yI] at this;omega
 obtain ⟨h1,tk,rfl,hk⟩:=x.done;have noA:∀ b:Addr,b∉(J84 CX P w K mg base N qual scope f cd A outer s H E).ex:=fun b z=>absurd (show b∈([]:List Addr) from z) (by simp);refine ⟨⟨e0.mod,S.kind,rfl,rfl,yj _,fun y z c h1 h2=>?_,fun y hy=>?_,fun y c _ h=>?_,fun _=>hd,Around.frames_deeper e0.frames,.inr ⟨rfl,rfl⟩,fun b z=>absurd z (noA b),e0.bs,e0.bsz,fun b _ _=>noA b,fun b z=>absurd z (noA b),e0.funs,e0.frf⟩,
  rfl,e0.bare,Un.kept hk,⟨_,x.toInCall.ns,fun i y v h1 h2 h3=>?_⟩,fun y c h=>⟨_,x.cell y c h⟩,e0.hok.fresh (yj _),fun y c h=>?_,fun p hp=>absurd (show p∈([]:List (Addr×Obj)) from hp) (by simp),e0.hok.kept hk,?_⟩
 ·exact name_of_addr x.apart (PySem.mem_of_lookup h1) (PySem.mem_of_lookup h2)
 ·have hy:scope.names.lookup y=some .cell\/scope.names.lookup y=some .free:=hy
  rcases hy with hy | hy
  ·exact J89 hy
  ·exact absurd rfl (S.nofree _ (PySem.mem_of_lookup hy))
 ·exact Nat.le_of_lt (x.above y c (PySem.mem_of_lookup h))
 ·have hi:i<vs.length:=by
   unfold start at h2;by_cases hi:i<vs.length
   ·exact hi
   ·rw [yV (by simpa using hi)] at h2
    rw [List.getElem?_replicate] at h2
    split at h2<;>cases h2
  have ha:vs[i]?=some v:=by
   unfold start at h2;rw [yW (by simpa using hi),yN] at h2;cases e:vs[i]? with
   | none=>rw [e] at h2;cases h2
   | some a=>rw [e] at h2;cases h2;rfl
  obtain ⟨u,hu,rv⟩:=r.get ha;have hp:ps[i]?=some y:=by
   rw [<- S.pre,List.getElem?_take_of_lt (by omega)];exact h1
  have ndP:ps.Nodup:=by rw [<- S.pre];exact S.nd.sublist (take_sublist _ _)
  refine ⟨u,rv,?_⟩;rcases S.par y (yG hp) with k | k
  ·exact .inl ⟨k,J6y ndP hp hu k⟩
  ·obtain ⟨c,e⟩:=J89 (n:=s.heap.objs.size+1) k
   refine .inr ⟨.inl k,c,e,?_⟩;have q:=x.cell y c e;rw [J6A ndP hp hu (by show scope.names.lookup y≠_;rw [k];decide)] at q;exact q
 ·exact e0.hok.fresh (Nat.le_of_lt (x.above y c (PySem.mem_of_lookup h)))
 ·unfold start
  show _=N.length;rw [yH,yC,yZ];omega
theorem Jet {CX:CXT}{P:Program}{w:World}{K:Frag}{mg:Str->Option Value}{base:Heap}{k:Nat}{f:Addr}{name qual:Str}{params:Arguments}{body:List Stmt}{scope:Scope}{dV kV doc pm cdv ct oc:Value}{an od:Option Addr}
 {osl:Array (Option Value)} {N ps:List Str} {sp:Sp} (lk:K.lookup f=some ⟨oc,od,.func (PySem.W.fnOf name qual params body scope dV kV doc pm an cdv ct),osl⟩) (hcd:PySem.W.codeIn K cdv qual=true) (S:FnScope N ps scope)
 (len:∀ vs H Q E,sp vs H Q E->vs.length=ps.length)
 (hbody:∀ (A:Around) (outer:List Env) (s:Shared) (H:Hp) (vs:List V) (Q:VK) (E:XK),Room k (A.deeper (envOfC qual scope s.heap.objs.size f cdv))->sp vs H Q E ->
  ∃ t,PSs (J84 CX P w K mg base N qual scope f cdv A outer s H E) body t/\t { nx:=fun _ H'=>Q .non H',rt:=Q } (start N vs) H) :
 FnOk P w K mg base CX (k+1) f (PySem.W.fnOf name qual params body scope dV kV doc pm an cdv ct) ps sp:=by
 refine ⟨len,fun A outer s H args us vs Q E hr e0 hb r hsp=>?_⟩;have hl:=len _ _ _ _ hsp;have KX:K.In s.heap:=e0.mod.kin.keeps fun b o e=>(e0.bs b o e).1;have lim:s.heap.NoLimit:=e0.mod.nolimit.keeps fun b o e=>(e0.bs b o e).1;have hkind:∀ y∈ps.zip us,scope.names.lookup y.1=some .local\/(scope.names.lookup y.1=some .cell/\((cellsFrom (s.heap.objs.size+1) scope.names []).lookup y.1).isSome=true):=fun ⟨n,v⟩ hy=>by
  rcases S.par n (of_mem_zip hy).1 with q | q
  ·exact .inl q
  ·exact .inr ⟨q,PySem.W.cellsFrom_some _ _ _ (.inl q)⟩
 refine codeAny_call_function hr.depth (KX _ _ lk) rfl S.co S.gen rfl (PySem.W.codeRec_of KX hcd) (hb _ _ _ _ ?_);refine wpAny_newFunctionEnv_cells S.kind hkind fun env he s1 x=>?_;subst he;refine ⟨lim.keeps x.toInCall.keep,codeAny_func ?_⟩;obtain ⟨t,ht,hq⟩:=hbody A outer s H vs Q E (hr.deeper _) hsp;have I:Inv (J84 CX P w K mg base N qual scope f cdv A outer s H E) [] (start N vs) H s1:=inv_start S hr.hd e0 hl r x;refine wpAny_mono (ht [] s1 (start N vs) H _ I hq) (fun fl s' hs=>?_) fun e s' hs=>hs;have fin:∀ {σ':St} {H':Hp} {v:V} {u:Value},Inv (J84 CX P w K mg base N qual scope f cdv A outer s H E) [] σ' H' s'->RelV v u->Q v H'->CE outer P w H s Q u s' :=
  fun {σ' H' v u} J rv q=>⟨v,H',J.os,J.bare,J.base,J.hok,rv,q⟩
 cases fl with
 | ret u =>
   obtain ⟨v,σ',H',J,rv,q⟩:=hs;exact fin J rv q
 | next =>
   obtain ⟨σ',H',J,q⟩:=hs;exact fin (v:=V.non) (u:=Value.none) J rfl q
 | brk =>
   obtain ⟨_,_,_,q⟩:=hs;exact yy q
 | cont =>
   obtain ⟨_,_,_,q⟩:=hs;exact yy q
section
variable {X:Cx}{x:Str}{p pos:Pos}{e:Expr}{es:List Expr}{t:TA}{id T:String}{r:List V->Hp->VK->Prop}
def tCB (r:List V->Hp->VK->Prop)(t:TA):TE:=fun σ H Q=>t σ H fun vs H1=>r vs H1 Q
theorem Jbm (hc:J0I X (.builtin id) r)(hg:Gl X x)(hm:X.mg x=none)(hv:bootBuiltins x=some (.builtin id))(ha:PA X (e::es) t)(hn:x≠"__name__":=by decide)(hdb:(x == ("__debug__":Str))=false:=by decide)
 (he:starEach (e::es) X.env=(false,eval e X.env)::starEach es X.env:=by rfl) (hpl:(backTo pos (starEach es X.env)).any (·.1)=false:=by rfl):PE X (.Call (.Name x p) (e::es) [] pos) (tCB r t):=by
 intro pins s σ H Q I h;refine wpAny_Call_Name_kw (J1L I hg hm hv ?_ hn hdb);exact PyProof.Rows.callWith_builtin1 (thn (ha pos pins s σ H _ I h) fun us s1 ⟨vs,H1,I1,r1,q1⟩=>hc pins s1 σ H1 vs us Q I1 r1 q1) he hpl
theorem Ja6 (hc:J0I X (.type T) r)(hg:Gl X x)(hm:X.mg x=none)(hv:bootBuiltins x=some (.type T))(ha:PA X (e::es) t)(hn:x≠"__name__":=by decide)(hdb:(x == ("__debug__":Str))=false:=by decide)
 (he:starEach (e::es) X.env=(false,eval e X.env)::starEach es X.env:=by rfl) (hpl:(backTo pos (starEach es X.env)).any (·.1)=false:=by rfl):PE X (.Call (.Name x p) (e::es) [] pos) (tCB r t):=by
 intro pins s σ H Q I h;refine wpAny_Call_Name_kw (J1L I hg hm hv ?_ hn hdb);exact PyProof.Rows.callWith_type1 (thn (ha pos pins s σ H _ I h) fun us s1 ⟨vs,H1,I1,r1,q1⟩=>hc pins s1 σ H1 vs us Q I1 r1 q1) he hpl
end
end L2
namespace HT
open PySem PyProof.Rows
section
variable {prog:Program}{w:World}{A:Around}{E:Value->Shared->Prop}{s:Shared}
def sIx (n d:Nat):Option Int->Nat
 | none=>d
 | some v=>if v<0 then (v+(n:Int)).toNat else min v.toNat n
theorem Jdt (n d:Nat)(hd:d<=n)(o:Option Int):sIx n d o<=n:=by
 cases o with
 | none=>exact hd
 | some v =>
   show (if v<0 then (v+(n:Int)).toNat else min v.toNat n)<=n;by_cases hv:v<0
   ·rw [yi hv];omega
   ·rw [yh hv];exact Nat.min_le_right _ _
theorem J9L (v:Int)(n d:Nat):(if v<0 then max (v+(n:Int)) 0 else min v (n:Int))=((sIx n d (some v):Nat):Int):=by
 show (if v<0 then max (v+(n:Int)) 0 else min v (n:Int))=(((if v<0 then (v+(n:Int)).toNat else min v.toNat n):Nat):Int);by_cases hv:v<0
 ·simp only [yi hv];omega
 ·simp only [yh hv];omega
theorem J8W (lo hi:Option Int)(n:Nat):Builtin.Slice.sliceAdjust lo hi 1 (n:Int)=(((sIx n 0 lo:Nat):Int),((sIx n n hi:Nat):Int)):=by
 have h1:¬ ((1:Int)<0):=by omega
 unfold Builtin.Slice.sliceAdjust;simp only [h1,if_false];refine Prod.ext ?_ ?_
 ·cases lo with
  | none=>rfl
  | some v=>exact J9L v n 0
 ·cases hi with
  | none=>rfl
  | some v=>exact J9L v n n
theorem J8w (i j:Nat):Builtin.Slice.slicePlaces (i:Int) (j:Int) 1=j - i:=by
 unfold Builtin.Slice.slicePlaces;have h1:(1:Int) > 0:=by omega
 simp only [h1,if_true,Int.ediv_one]
 split<;>omega
theorem J54 {v:Value}{o:Option Int}{Q:Option Int->Shared->Prop}(p:IsPart v o)(h:Q o s):wpAny (model prog w) A (Builtin.Slice.slicePartIndex v) Q E s:=by
 cases p with
 | none=>exact slicePart_none h
 | int i t=>exact slicePart_int h
theorem J3Z {sl:Addr}{vl vu:Value}{lo hi:Option Int}{n:Nat}{Q:Int×Int×Nat->Shared->Prop}(hs:s.heap.IsSliceOf sl vl vu .none)(pl:IsPart vl lo)(pu:IsPart vu hi)
 (h:Q (((sIx n 0 lo:Nat):Int),1,sIx n n hi - sIx n 0 lo) s):wpAny (model prog w) A (Builtin.Slice.sliceApplied (.ref sl) (pure (n:Int))) Q E s:=by
 obtain ⟨os,hos,hcs,hds⟩:=id hs;unfold Builtin.Slice.sliceApplied Builtin.Slice.sliceFields;refine yf (yf (wpAny_field hos hds (x:=vl) rfl (yf (wpAny_field hos hds (x:=vu) rfl (yf (wpAny_field hos hds (x:=.none) rfl (yg ?_)))))));refine yf (slicePart_none ?_);show wpAny _ _ (if ((1:Int) == 0)=true then _ else _) _ _ s;rw [yh (by decide)];refine yf (J54 pl (yf (J54 pu (yf (yg ?_)))));show wpAny _ _ (match Builtin.Slice.sliceAdjust lo hi 1 (n:Int) with | (lo,hi)=>pure (lo,(1:Int),Builtin.Slice.slicePlaces lo hi 1)) _ _ s;rw [J8W lo hi n];show wpAny _ _ (pure (((sIx n 0 lo:Nat):Int),(1:Int),Builtin.Slice.slicePlaces ((sIx n 0 lo:Nat):Int) ((sIx n n hi:Nat):Int) 1)) _ _ s;rw [J8w];exact yg h
theorem Jbi (xs:Array Value)(i k:Nat):((List.range k).filterMap fun (m:Nat)=>xs[((i:Int)+(m:Int) * 1).toNat]?).toArray=((xs.toList.drop i).take k).toArray:=by
 have e:(fun (m:Nat)=>xs[((i:Int)+(m:Int) * 1).toNat]?)=fun m=>xs[i+m]?:=by
  funext m;have:((i:Int)+(m:Int) * 1).toNat=i+m:=by omega
  rw [this]
 rw [e];have:=pick_run xs i k;rw [filterMap_map] at this;have e2:((fun x=>xs[x]?)∘fun x=>i+x)=fun m=>xs[i+m]?:=rfl;rw [e2] at this;rw [this]
theorem getItem_tuple_cut {t sl:Addr}{items:Array Value}{vl vu:Value}{lo hi:Option Int}{Q:Value->Shared->Prop}(ht:IsTup s.heap t items)(hs:s.heap.IsSliceOf sl vl vu .none)(pl:IsPart vl lo)(pu:IsPart vu hi)
 (hw:¬ (sIx items.size 0 lo=0/\sIx items.size items.size hi=items.size))
 (h:Q (.ref s.heap.objs.size) { s with heap:=s.heap.push { cls:=.type "tuple",data:=.seq ((items.toList.drop (sIx items.size 0 lo)).take (sIx items.size items.size hi - sIx items.size 0 lo)).toArray } })
 (hsz:items.size<=sizeLine):wpAny (model prog w) A (getItem (.ref t) (.ref sl)) Q E s:=by
 have htake:sizeOk (.seq ((items.toList.drop (sIx items.size 0 lo)).take (sIx items.size items.size hi - sIx items.size 0 lo)).toArray):=by
  show ((items.toList.drop (sIx items.size 0 lo)).take (sIx items.size items.size hi - sIx items.size 0 lo)).toArray.size<=sizeLine;rw [yE,yI,length_drop,yz];omega
 have hj:sIx items.size items.size hi<=items.size:=Jdt _ _ (yj _) hi;obtain ⟨os,hos,hcs,hds⟩:=id hs;have hTs:s.TypeIs (.ref sl) "slice":=⟨os,hos,hcs⟩;unfold getItem
 try with_reducible refine wpAny_holding ?_
 first | refine yf (yg ?_) | skip
 refine yf (wpAny_sequenceKey ht.typeIs (by decide) ?_);refine yf (wpAny_callSpecial?_slot (name:=Str.ofString "__getitem__") ht.typeIs PyProof.Rows.slot_tuple_getitem
  (wpAny_call_entry PyProof.Rows.slot_tuple_getitem ht.typeIs entry_tuple_getitem ?_ (args_tuple_getitem _ _)))
 show wpAny _ _ (Builtin.Tuple.tupleItemsOf (.ref t) >>= _) _ _ s;refine yf (tupleItemsOf_ ht ?_);refine yf (wpAny_typeOf hTs ?_);rw [yi (by decide)];refine yf (J3Z hs pl pu ?_);have hno:¬ ((((sIx items.size 0 lo:Nat):Int) == 0&&(1:Int) == 1&&(sIx items.size items.size hi - sIx items.size 0 lo) == items.size)=true):=by
  intro q;rw [Bool.and_eq_true,Bool.and_eq_true] at q;have q1:((sIx items.size 0 lo:Nat):Int)=0:=eq_of_beq q.1.1;have q2:sIx items.size items.size hi - sIx items.size 0 lo=items.size:=eq_of_beq q.2;exact hw ⟨by omega,by omega⟩
 show wpAny _ _ (if (((sIx items.size 0 lo:Nat):Int) == 0&&(1:Int) == 1&&(sIx items.size items.size hi - sIx items.size 0 lo) == items.size)=true then _ else _) _ _ s;rw [yh hno,Jbi]
 first
  | exact yf (m:=Builtin.Tuple.tupleExact _) (wpAny_newObj_type (yg ⟨_,rfl,yg h⟩) htake)
  | exact yf (m:=Builtin.Tuple.tupleExact _) (wpAny_newObj_type (yf (yg (yg ⟨_,rfl,yg h⟩))) htake)
  | exact yf (yf (m:=Builtin.Tuple.tupleExact _) (wpAny_newObj_type (yg (yg ⟨_,rfl,yg h⟩)) htake))
  | exact yf (yf (m:=Builtin.Tuple.tupleExact _) (wpAny_newObj_type (yg ⟨_,rfl,yg h⟩) htake))
end
end HT
namespace L2
open PySem PySem.Spec PyProof.Rows
abbrev TO:=St->Hp->(Option Int->Hp->Prop)->Prop
def PO (X:Cx)(e:Option Expr)(t:TO):Prop :=
 ∀ (pins:List (Addr×Obj)) (s:Shared) (σ:St) (H:Hp) (Q:Option Int->Hp->Prop),Inv X pins σ H s->t σ H Q ->
   wpAny (model X.prog X.w) X.A (evalPart e X.env) (fun u s'=>∃ o H',Inv X pins σ H' s'/\IsPart u o/\Q o H') X.xe s
def J6G:TO:=fun _ H Q=>Q none H
def JaF (t:TE):TO:=fun σ H Q=>t σ H fun x H1=>∃ i,x=.int i/\Q (some i) H1
section
variable {X:Cx}{e:Expr}{te:TE}{lo hi:Option Expr}{tl th:TO}{pos p2:Pos}
theorem J6X:PO X none J6G:=by
 intro pins s σ H Q I h;rw [evalPart_none];exact yg ⟨none,H,I,.none,h⟩
theorem J29 (h:PE X e te):PO X (some e) (JaF te):=by
 intro pins s σ H Q I hw;rw [evalPart_some];refine thn (h pins s σ H _ I hw) fun u s1 ⟨x,H1,I1,r1,q1⟩=>?_;obtain ⟨i,rfl,q⟩:=q1;obtain ⟨t,rfl⟩:=r1;exact ⟨some i,H1,I1,.int i t,q⟩
def SlR (X:Cx)(r:V->Option Int->Option Int->Hp->VK->Prop):Prop :=
 ∀ (pins:List (Addr×Obj)) (s:Shared) (σ:St) (H:Hp) (x:V) (v vl vu:Value) (lo hi:Option Int) (sl:Addr) (Q:VK),Inv X pins σ H s->RelV x v->s.heap.IsSliceOf sl vl vu .none->IsPart vl lo->IsPart vu hi->r x lo hi H Q ->
   ∃ T id,typeLookup (.type T) "__getitem__"=pure (some (.builtin id))/\s.TypeIs v T/\wpAny (model X.prog X.w) X.A (getItem v (.ref sl)) (EP X pins σ Q) X.xe s
def tSl (r:V->Option Int->Option Int->Hp->VK->Prop)(te:TE)(tl th:TO):TE:=fun σ H Q=>te σ H fun x H1=>tl σ H1 fun l H2=>th σ H2 fun u H3=>r x l u H3 Q
theorem J2D {r:V->Option Int->Option Int->Hp->VK->Prop}(hr:SlR X r)(he:PE X e te)(hl:PO X lo tl)(hu:PO X hi th):PE X (.Subscript e (.Slice lo hi none p2) pos) (tSl r te tl th):=by
 intro pins s σ H Q I h;refine Subscript_ (thn (he pins s σ H _ I h) fun v s1 ⟨x,H1,I1,r1,q1⟩=>?_);refine wpAny_Slice (thn (hl pins s1 σ H1 _ I1 q1) fun vl s2 ⟨l,H2,I2,pl,q2⟩=>thn (hu pins s2 σ H2 _ I2 q2) fun vu s3 ⟨u,H3,I3,pu,q3⟩=>?_);rw [evalPart_none];refine yg ?_;have I4:Inv X pins σ H3 { s3 with heap:=s3.heap.push { cls:=.type "slice",data:=.fields #[vl,vu,.none] } }:=I3.kept (t':=s3.toks) fun b ob q=>y4 _ q;obtain ⟨T,id,hT,ht,hg⟩:=hr pins { s3 with heap:=s3.heap.push { cls:=.type "slice",data:=.fields #[vl,vu,.none] } } σ H3 x v vl vu l u s3.heap.objs.size Q I4 r1 (Heap.IsSliceOf.new ..) pl pu q3;show wpAny (model X.prog X.w) X.A (subscriptTail e (.Slice lo hi none p2) v (.ref s3.heap.objs.size)) (EP X pins σ Q) X.xe { s3 with heap:=s3.heap.push { cls:=.type "slice",data:=.fields #[vl,vu,.none] } };exact tail_any (ops:=[.ref s3.heap.objs.size,v]) ht hT hg (by with_unfolding_all rfl)
def J4B (xs:List V)(lo hi:Option Int):List V:=(xs.drop (HT.sIx xs.length 0 lo)).take (HT.sIx xs.length xs.length hi - HT.sIx xs.length 0 lo)
theorem J4n (xs:List V)(lo hi:Option Int):(J4B xs lo hi).length<=xs.length:=by
 unfold J4B;rw [yI,length_drop];omega
def Jed (K:Frag):V->Option Int->Option Int->Hp->VK->Prop:=fun x lo hi H Q=>∃ a xs,x=.ref a/\SqT K H a xs /\
 ¬ (HT.sIx xs.length 0 lo=0/\HT.sIx xs.length xs.length hi=xs.length)/\∀ p,H p=none->Q (.ref p) (upd H p (.tup (J4B xs lo hi)))
theorem Jds:SlR X (Jed X.K):=by
 intro pins s σ H x v vl vu lo hi sl Q I rx hs pl pu h;obtain ⟨a,xs,rfl,hx,hw,q⟩:=h;cases rx;obtain ⟨its,r,ht,hz⟩:=I.tuple hx;have J06:its.toArray.size=xs.length:=by rw [yE];exact r.length.symm
 refine ⟨"tuple",_,PyProof.Rows.slot_tuple_getitem.lookup,ht.typeIs,?_⟩;refine HT.getItem_tuple_cut ht hs pl pu (by rw [J06];exact hw) ?_ (by rw [J06];exact hz);rw [J06];refine ⟨.ref s.heap.objs.size,_,I.laid (t':=s.toks) (o:=.tup (J4B xs lo hi)) (fun b ob q=>y4 _ q) (yj _) ?_,rfl,q _ (I.hok.fresh (yj _))⟩;exact ⟨yx (J4n xs lo hi) hz,_,(r.drop (HT.sIx xs.length 0 lo)).take (HT.sIx xs.length xs.length hi - HT.sIx xs.length 0 lo),IsTup.new _ _⟩
end
def ixN (n:Nat)(i:Int):Option Nat:=if 0<=i then (if i<n then some i.toNat else none) else if -(n:Int)<=i then some (i+n).toNat else none
def atI {α:Type}(xs:List α)(i:Int):Option α:=(ixN xs.length i).bind fun j=>xs[j]?
theorem J9r {n:Nat}{i:Int}{j:Nat}(h:ixN n i=some j):seqIndex? i n=some j/\j<n/\-(n:Int)<=i/\i<n:=by
 unfold ixN at h;by_cases h0:0<=i
 ·rw [yi h0] at h
  by_cases h1:i<n
  ·rw [yi h1] at h
   have e:i.toNat=j:=yq h;exact ⟨by rw [seqIndex_of h0 h1,e],by omega,by omega,h1⟩
  ·rw [yh h1] at h;cases h
 ·rw [yh h0] at h
  by_cases h1:-(n:Int)<=i
  ·rw [yi h1] at h
   have e:(i+n).toNat=j:=yq h;exact ⟨by rw [seqIndex_neg (by omega) h1,e],by omega,h1,by omega⟩
  ·rw [yh h1] at h;cases h
theorem J9N {α:Type}{xs:List α}{i:Int}{v:α}(h:atI xs i=some v):∃ j,seqIndex? i xs.length=some j/\xs[j]?=some v/\j<xs.length/\-(xs.length:Int)<=i/\i<xs.length:=by
 unfold atI at h;cases e:ixN xs.length i with
 | none=>rw [e] at h;cases h
 | some j =>
   rw [e] at h;obtain ⟨h1,h2,h3,h4⟩:=J9r e;exact ⟨j,h1,h,h2,h3,h4⟩
theorem Jt {α:Type}{xs:List α}{j:Nat}{v:α}(h:xs[j]?=some v):atI xs (j:Int)=some v:=by
 have hj:j<xs.length:=(yB.mp h).1;have e:ixN xs.length (j:Int)=some j:=by
  unfold ixN;rw [yi (by omega),yi (by omega)];simp
 unfold atI;rw [e];exact h
theorem J8h {α:Type}(xs:List α)(v:α):atI (xs++[v]) (-1)=some v:=by
 have hl:(xs++[v]).length=xs.length+1:=by simp
 have e:ixN (xs++[v]).length (-1)=some xs.length:=by
  unfold ixN;rw [hl,yh (by decide),yi (by omega)];congr 1;omega
 unfold atI;rw [e];show (xs++[v])[xs.length]?=some v;simp
def Jd2 (b:Expr):Prop:=∀ o i,subscripted b false o i=operate [o,i] (getItem o i)
def IxR (X:Cx)(r:R2):Prop :=
 ∀ (value slice:Expr) (pins:List (Addr×Obj)) (s:Shared) (σ:St) (H:Hp) (x y:V) (v u:Value) (Q:VK),Inv X pins σ H s->RelV x v->RelV y u->r x y H Q ->
   subscripted slice false v u=operate [v,u] (getItem v u)->wpAny (model X.prog X.w) X.A (subscriptTail value slice v u) (EP X pins σ Q) X.xe s
def MtR (X:Cx)(id:String)(r:V->List V->Hp->VK->Prop):Prop :=
 ∀ (pins:List (Addr×Obj)) (s:Shared) (σ:St) (H:Hp) (x:V) (xs:List V) (v:Value) (us:List Value) (Q:VK),Inv X pins σ H s->RelV x v->Vals xs us->r x xs H Q ->
   wpAny (model X.prog X.w) X.A (call (.builtin id) (v::us)) (EP X pins σ Q) X.xe s
section
variable {X:Cx}{a b:Expr}{ta tb:TE}{pos:Pos}
theorem JT {r:R2}(hr:IxR X r)(ha:PE X a ta)(hb:PE X b tb)(hs:Jd2 b):PE X (.Subscript a b pos) (tOp r ta tb):=by
 intro pins s σ H Q I h;exact Subscript_ (Je5 ha hb I h fun v u s2 x y H2 I2 rx ry q=>hr a b pins s2 σ H2 x y v u Q I2 rx ry q (hs _ _))
def Jct (K:Frag):R2:=fun x y H Q=>∃ p xs i v,x=.ref p/\y=.int i/\SqL K H p xs/\atI xs i=some v/\Q v H
def Jeg (K:Frag):R2:=fun x y H Q=>∃ p xs i v,x=.ref p/\y=.int i/\SqT K H p xs/\atI xs i=some v/\Q v H
theorem JcM:IxR X (Jct X.K):=by
 intro value slice pins s σ H x y v u Q I rx ry h hs;obtain ⟨p,xs,i,z,rfl,rfl,hq,he,q⟩:=h;cases rx;obtain ⟨t,rfl⟩:=ry;obtain ⟨its,r,pl,hz⟩:=I.list hq;obtain ⟨j,h1,h2,h3,h4,h5⟩:=J9N he;obtain ⟨w,ew,rw'⟩:=r.get h2;have hl:=r.length;have hn:=J48;have fin:EP X pins σ Q w s:=⟨z,H,I,rw',q⟩;by_cases h0:0<=i
 ·have hj:i.toNat=j:=by
   rw [seqIndex_of h0 h5] at h1;exact yq h1
  exact item_listR pl.isList h0 (by omega) (by rw [hj];simpa using ew) fin hs
 ·have hj:(i+(its.toArray.size:Int)).toNat=j:=by
   rw [seqIndex_neg (by omega) h4] at h1;rw [yE,<- hl];exact yq h1
  exact subscriptTail_builtinR (x:=w) pl.isList.typeIs slot_list_getitem.lookup
   (wpAny_getItem_list_neg (Q:=fun r s'=>r=w/\EP X pins σ Q r s') pl.isList (by omega) (by rw [yE]<;>omega) (by omega) (by rw [hj];simpa using ew) ⟨rfl,fin⟩) hs
theorem JdV:IxR X (Jeg X.K):=by
 intro value slice pins s σ H x y v u Q I rx ry h hs;obtain ⟨p,xs,i,z,rfl,rfl,hq,he,q⟩:=h;cases rx;obtain ⟨t,rfl⟩:=ry;obtain ⟨its,r,pl,hz⟩:=I.tuple hq;obtain ⟨j,h1,h2,h3,h4,h5⟩:=J9N he;obtain ⟨w,ew,rw'⟩:=r.get h2;have hl:=r.length;have hn:=J48;have fin:EP X pins σ Q w s:=⟨z,H,I,rw',q⟩;exact subscriptTail_builtinR (x:=w) pl.typeIs slot_tuple_getitem.lookup
  (getItem_tuple (j:=j) (Q:=fun r s'=>r=w/\EP X pins σ Q r s') pl (by omega) (by omega) (by rw [yE,<- hl];exact h1) (by simpa using ew) ⟨rfl,fin⟩) hs
theorem J8A (its:List Value)(n j:Nat)(u:Value):Obj.mapSeq (·.setIfInBounds j u) { cls:=.type "list",data:=.seq its.toArray n }={ cls:=.type "list",data:=.seq (its.set j u).toArray n }:=by
 simp [Obj.mapSeq]
theorem Inv.lst {pins:List (Addr×Obj)}{σ:St}{H:Hp}{s:Shared}{p:Addr}{xs:List V}(I:Inv X pins σ H s)(h:H p=some (.lst xs)) :
 ∃ (its:List Value) (n:Nat),Vals xs its/\s.heap.get? p=some { cls:=.type "list",data:=.seq its.toArray n }/\xs.length<=sizeLine:=by
 obtain ⟨z,its,n,r,e⟩:=I.hok p _ h;exact ⟨its,n,r,e,z⟩
theorem Inv.lstUpd {pins:List (Addr×Obj)}{σ:St}{H:Hp}{s:Shared}{p:Addr}{xs ys:List V}{its its':List Value}{n n':Nat}{f:Obj->Obj}(I:Inv X pins σ H s)(h:H p=some (.lst xs))
 (ho:s.heap.get? p=some { cls:=.type "list",data:=.seq its.toArray n }) (hf:f { cls:=.type "list",data:=.seq its.toArray n }={ cls:=.type "list",data:=.seq its'.toArray n' }) (r:Vals ys its') (hz:ys.length<=sizeLine) (t:Nat) :
 Inv X pins σ (upd H p (.lst ys)) { s with heap:=s.heap.update p f,toks:=t }:=by
 have e:(s.heap.update p f).get? p=some { cls:=.type "list",data:=.seq its'.toArray n' }:=by
  rw [Heap.get?_update_self f ho (by rw [hf]<;>rfl),hf]
 refine I.write (x:=p) (e:=p) (by rw [h];trivial) (.inl rfl) (fun b u hb q=>(y8 _ _ (Ne.symm hb)).trans q) ⟨_,e⟩ ?_;exact ⟨hz,its',n',r,e⟩
def Jee:V->V->V->Hp->(Hp->Prop)->Prop:=fun o i v H Q=>∃ p xs k j,o=.ref p/\i=.int k/\H p=some (.lst xs)/\ixN xs.length k=some j/\Q (upd H p (.lst (xs.set j v)))
theorem J3q:Jd3 X Jee:=by
 intro pins s σ H o i v ov iv u Q I ro ri rv h;obtain ⟨p,xs,k,j,rfl,rfl,hp,hj,q⟩:=h;cases ro;obtain ⟨t,rfl⟩:=ri;obtain ⟨its,n,r,ho,hz⟩:=I.lst hp;obtain ⟨h1,h2,h3,h4⟩:=J9r hj;have hl:=r.length;have hn:=J48;have I':Inv X pins σ (upd H p (.lst (xs.set j v))) { s with heap:=s.heap.update p (Obj.mapSeq (·.setIfInBounds j u)) } :=
  I.lstUpd hp ho (J8A its n j u) (r.set rv j) (by rw [length_set];exact hz) s.toks
 by_cases h0:0<=k
 ·have hk:k.toNat=j:=by
   rw [seqIndex_of h0 h4] at h1;exact yq h1
  exact PySem.W.ki_setAt ho h0 (by omega) (by rw [yE,<- hl];exact h4) (by rw [hk];exact ⟨_,I',q⟩)
 ·have hk:(k+(its.toArray.size:Int)).toNat=j:=by
   rw [seqIndex_neg (by omega) h3] at h1;rw [yE,<- hl];exact yq h1
  exact PySem.W.ki_setBack ho (by omega) (by rw [yE,<- hl];exact h3) (by omega) (by rw [hk];exact ⟨_,I',q⟩)
theorem J6P (lo hi:Option Int)(n:Nat):(sliceBounds lo hi none n).1=((HT.sIx n 0 lo:Nat):Int)/\(sliceBounds lo hi none n).2.1=((HT.sIx n n hi:Nat):Int)/\(sliceBounds lo hi none n).2.2=1:=by
 refine ⟨?_,?_,rfl⟩
 ·cases lo with
  | none=>simp [sliceBounds,HT.sIx]
  | some i =>
    simp only [sliceBounds,HT.sIx,Option.getD_none,show (1:Int) > 0 by decide,if_true];by_cases h:i<0
    ·simp only [h,if_true]<;>omega
    ·simp only [h,if_false]<;>omega
 ·cases hi with
  | none=>simp [sliceBounds,HT.sIx]
  | some i =>
    simp only [sliceBounds,HT.sIx,Option.getD_none,show (1:Int) > 0 by decide,if_true];by_cases h:i<0
    ·simp only [h,if_true]<;>omega
    ·simp only [h,if_false]<;>omega
theorem J5W (its:List Value)(lo hi:Option Int):slicePick its.toArray lo hi none=((its.drop (HT.sIx its.length 0 lo)).take (HT.sIx its.length its.length hi - HT.sIx its.length 0 lo)).toArray:=by
 obtain ⟨h1,h2,h3⟩:=J6P lo hi its.toArray.size;unfold slicePick;rw [h1,h2,h3];simp only [sliceRange_one,pick_run,yE]<;>rfl
def Jcs (K:Frag):V->Option Int->Option Int->Hp->VK->Prop:=fun x lo hi H Q=>∃ a xs,x=.ref a/\SqL K H a xs/\∀ p,H p=none->Q (.ref p) (upd H p (.lst (J4B xs lo hi)))
theorem Jcm:SlR X (Jcs X.K):=by
 intro pins s σ H x v vl vu lo hi sl Q I rx hs pl pu h;obtain ⟨a,xs,rfl,hx,q⟩:=h;cases rx;obtain ⟨its,r,ht,hz⟩:=I.list hx;have J06:=r.length;refine ⟨"list",_,slot_list_getitem.lookup,ht.isList.typeIs,?_⟩;refine wpAny_getItem_list_slice ht.isList hs pl pu .none (by simp) ?_ (by rw [yE]<;>omega);rw [J5W,<- J06];refine ⟨.ref s.heap.objs.size,_,I.laid (t':=s.toks) (o:=.lst (J4B xs lo hi)) (fun b ob q=>y4 _ q) (yj _) ?_,rfl,q _ (I.hok.fresh (yj _))⟩;exact ⟨yx (J4n xs lo hi) hz,_,0,(r.drop (HT.sIx xs.length 0 lo)).take (HT.sIx xs.length xs.length hi - HT.sIx xs.length 0 lo),y6 _ rfl⟩
theorem J7f:J0I X (.builtin "len") (fun xs H Q=>∃ p ys,xs=[.ref p]/\(SqL X.K H p ys\/SqT X.K H p ys)/\Q (.int ys.length) H):=by
 intro pins s σ H xs us Q I r h;obtain ⟨p,ys,rfl,hq,q⟩:=h;obtain ⟨u,rfl,rx⟩:=J2r r;cases rx;have hn:=J48;rcases hq with hq | hq
 ·obtain ⟨its,r',pl,hz⟩:=I.list hq
  have J06:=r'.length;exact Calls.call_len_list pl.isList (by simp only [yE]<;>omega) ⟨.int ys.length,H,I.tok _,⟨s.toks+1,by rw [yE,J06]⟩,q⟩
 ·obtain ⟨its,r',pl,hz⟩:=I.tuple hq
  have J06:=r'.length;exact len_tuple pl (by simp only [yE]<;>omega) ⟨.int ys.length,H,I.tok _,⟨s.toks+1,by rw [yE,J06]⟩,q⟩
theorem J7e:J0I X (.type "list") (fun xs H Q=>∃ p ys,xs=[.ref p]/\(SqL X.K H p ys\/SqT X.K H p ys)/\∀ l,H l=none->Q (.ref l) (upd H l (.lst ys))):=by
 intro pins s σ H xs us Q I r h;obtain ⟨p,ys,rfl,hq,q⟩:=h;obtain ⟨u,rfl,rx⟩:=J2r r;cases rx;have fin:∀ (its:List Value),Vals ys its->ys.length<=sizeLine->∀ (h':Heap) (c':Nat),(∀ b o',s.heap.get? b=some o'->h'.get? b=some o') ->
  h'.get? s.heap.objs.size=some { cls:=.type "list",dict:=none,data:=.seq its.toArray c',slots:=#[] }->EP X pins σ Q (.ref s.heap.objs.size) { s with heap:=h' }:=fun its r' hz h' c' kp e =>
  ⟨.ref s.heap.objs.size,_,I.laid (t':=s.toks) kp (yj _) (show ObjOk X.prog X.w _ h' _ (.lst ys) from ⟨hz,its,c',r',e⟩),rfl,q _ (I.hok.fresh (yj _))⟩
 rcases hq with hq | hq
 ·obtain ⟨its,r',pl,hz⟩:=I.list hq
  have J06:=r'.length;obtain ⟨o,ho,hc,n,hd⟩:=pl.isList;exact call_list_seq p (.inl rfl) ho hc hd (fun h' c' kp e=>fin its r' hz h' c' kp e) (by simp only [yE]<;>omega)
 ·obtain ⟨its,r',pl,hz⟩:=I.tuple hq
  have J06:=r'.length;obtain ⟨o,ho,hc,n,hd⟩:=pl;exact call_list_seq p (.inr rfl) ho hc hd (fun h' c' kp e=>fin its r' hz h' c' kp e) (by simp only [yE]<;>omega)
def tyV (K:Frag)(T:String)(x:V)(H:Hp):Prop:=match x with
 | .str _=>T="str"
 | .int _=>T="int"
 | .ref p=>(T="list"/\∃ xs,SqL K H p xs)\/(T="tuple"/\∃ o,K.lookup p=some o/\o.cls=.type "tuple"/\o.dict=none) \/
  (T="dict"/\((∃ kvs,H p=some (.dK kvs))\/∃ kvs,H p=some (.dT kvs)))\/(T="set"/\∃ S n,H p=some (.set S n))
 | _=>False
theorem tyV_is {pins:List (Addr×Obj)}{σ:St}{H:Hp}{s:Shared}{T:String}{x:V}{v:Value}(I:Inv X pins σ H s)(r:RelV x v)(ty:tyV X.K T x H) :
 s.TypeIs v T/\∀ a,v=.ref a->∃ ob,s.heap.get? a=some ob/\ob.dict=none:=by
 cases x with
 | str z =>
   obtain ⟨t,rfl⟩:=r;cases (show T="str" from ty);exact ⟨typeIs_str s z t,fun _ e=>nomatch e⟩
 | int i =>
   obtain ⟨t,rfl⟩:=r;cases (show T="int" from ty);exact ⟨typeIs_int s i t,fun _ e=>nomatch e⟩
 | ref p =>
   cases r;rcases ty with ⟨rfl,xs,hq⟩ | ⟨rfl,o,hk,hc,hd⟩ | ⟨rfl,hk⟩ | ⟨rfl,S,n,hk⟩
   ·obtain ⟨its,_,pl,_⟩:=I.list hq
    refine ⟨pl.isList.typeIs,fun a e=>?_⟩;cases e;obtain ⟨o,n,e,c,hd,_⟩:=pl;exact ⟨o,e,hd⟩
   ·refine ⟨⟨o,I.kIn p o hk,hc⟩,fun a e=>?_⟩
    cases e;exact ⟨o,I.kIn _ o hk,hd⟩
   ·have z:∃ o,s.heap.get? p=some o/\o.ExactDict:=by
     rcases hk with ⟨kvs,hk⟩ | ⟨kvs,hk⟩
     ·obtain ⟨_,_,_,_,o,_,_,e,ex,_⟩:=I.hok p _ hk
      exact ⟨o,e,ex⟩
     ·obtain ⟨_,_,_,_,o,_,_,e,ex,_⟩:=I.hok p _ hk
      exact ⟨o,e,ex⟩
    obtain ⟨o,e,ex⟩:=z;refine ⟨⟨o,e,ex.1⟩,fun a e2=>?_⟩;cases e2;exact ⟨o,e,ex.2.1⟩
   ·obtain ⟨o,_,_,_,e,ex,_⟩:=I.hok p _ hk
    refine ⟨⟨o,e,ex.1⟩,fun a e2=>?_⟩;cases e2;exact ⟨o,e,ex.2.1⟩
 | _=>exact yy ty
def tBM (K:Frag)(T:String)(r:V->List V->Hp->VK->Prop)(to:TE)(t:TA):TE:=fun σ H Q=>to σ H fun x H1=>tyV K T x H1/\t σ H1 fun xs H2=>r x xs H2 Q
variable {o e:Expr}{es:List Expr}{to:TE}{t:TA}{name:Str}{apos cpos:Pos}{T id:String}{r:V->List V->Hp->VK->Prop}
theorem Jei (pa:PlainAttrs T)(slot:Slot T name id)(hty:typeOf (.builtin id)=pure (.type "method_descriptor"))(hm:MtR X id r)(ho:PE X o to)(ha:PA X (e::es) t)
 (hbase:attributeBase o name X.env (eval o X.env)=eval o X.env:=by rfl)
 (hfew:((backTo cpos (starEach (e::es) X.env)).all (fun x=>!x.1)&&(backToKw cpos (keywordEach [] X.env)).all (fun x=>x.1.isSome)
  && decide ((e::es).length+([]:List Keyword).length+(if ([]:List Keyword).isEmpty then 0 else 1)<30))=true:=by rfl)
 (hline:(apos.endLine == cpos.line)=true:=by rfl) (hs:starEach (e::es) X.env=(false,eval e X.env)::starEach es X.env:=by rfl) (hplain:(backTo cpos (starEach es X.env)).any (·.1)=false:=by rfl) :
 PE X (.Call (.Attribute o name apos) (e::es) [] cpos) (tBM X.K T r to t):=by
 intro pins s σ H Q I h;refine wpAny_Call_method_late hbase hfew hline rfl (thn (ho pins s σ H _ I h) fun v s1 ⟨x,H1,I1,r1,ty,q1⟩=>?_);obtain ⟨h1,h2⟩:=tyV_is I1 r1 ty;refine ⟨T,id,pa,slot,hty,h1,h2,?_⟩;have hA:=ha cpos pins s1 σ H1 _ I1 q1;rw [hs] at hA ⊢;refine Calls.callWith_builtin (by show (false||(backTo cpos (starEach es X.env)).any (·.1))=false;rw [hplain]<;>rfl) (Calls.evalArgs_plain ?_);exact thn hA fun us s2 ⟨vs,H2,I2,r2,q2⟩=>hm pins s2 σ H2 x vs v us Q I2 r1 r2 q2
end
def MtM (X:Cx)(id:String)(r:V->List V->Hp->VK->Prop):Prop :=
 ∀ (pins:List (Addr×Obj)) (s:Shared) (σ:St) (H:Hp) (x:V) (xs:List V) (v:Value) (us:List Value) (Q:VK),Inv X pins σ H s->RelV x v->Vals xs us->r x xs H Q ->
   wpAny (model X.prog X.w) X.A (call (.builtin id) (v::us)) (EP X pins σ Q) X.xe s
theorem Vals.one:∀ {x:V} {us:List Value},Vals [x] us->∃ u,us=[u]/\RelV x u
 | _,_,.cons r .nil=>⟨_,rfl,r⟩
theorem Vals.rep {xs:List V}{us:List Value}(h:Vals xs us):∀ k:Nat,Vals (List.replicate k xs).flatten (List.replicate k us).flatten
 | 0=>.nil
 | k+1=>by
   rw [replicate_succ,replicate_succ,flatten_cons,flatten_cons];exact Vals.append h (Vals.rep h k)
theorem J6n (its:List Value):∀ (k:Nat) (acc:List Value),
 List.foldl (fun x1 x2=>x1++x2) acc.toArray (List.replicate k its.toArray)=(acc++(List.replicate k its).flatten).toArray
 | 0,acc=>by simp
 | k + 1,acc=>by
   have e:acc.toArray++its.toArray=(acc++its).toArray:=by simp
   have e2:(acc++its)++(List.replicate k its).flatten=acc++(List.replicate (k+1) its).flatten:=by
    rw [replicate_succ,flatten_cons,yY]
   rw [<- e2,<- J6n its k (acc++its),<- e,replicate_succ,foldl_cons]
section
variable {X:Cx}{pins:List (Addr×Obj)}{σ:St}{H:Hp}{s:Shared}{l b:Addr}{xs ys zs:List V}
theorem Inv.lset {its its':List Value}{n:Nat}{f:Array Value->Array Value}{t':Nat}(I:Inv X pins σ H s)(hH:H l=some (.lst xs))
 (e:s.heap.get? l=some { cls:=.type "list",data:=.seq its.toArray n }) (hf:f its.toArray=its'.toArray) (hv:Vals ys its') (hz:ys.length<=sizeLine) :
 Inv X pins σ (upd H l (.lst ys)) { s with heap:=s.heap.update l (Obj.mapSeq f),toks:=t' }:=by
 have q:=PySem.IsL.update e f;rw [hf] at q;refine I.write (x:=l) (e:=l) (by rw [hH];exact trivial) (.inl rfl) (fun b' u hb hu=>(y8 s.heap (Obj.mapSeq f) (Ne.symm hb)).trans hu) ⟨_,q⟩ ?_;exact ⟨hz,its',_,hv,q⟩
theorem Inv.lnew {its:List Value}{t':Nat}(I:Inv X pins σ H s)(hv:Vals ys its)(hz:ys.length<=sizeLine) :
 Inv X pins σ (upd H s.heap.objs.size (.lst ys)) { s with heap:=s.heap.push { cls:=.type "list",data:=.seq its.toArray },toks:=t' } :=
 I.laid (fun _ _ q=>y4 _ q) (yj _) ⟨hz,its,0,hv,y6 _ rfl⟩
theorem Inv.fresh (I:Inv X pins σ H s):H s.heap.objs.size=none:=I.hok.fresh (yj _)
theorem Inv.lstM (I:Inv X pins σ H s)(hH:H l=some (.lst xs)):xs.length<=sizeLine/\∃ (its:List Value) (n:Nat),Vals xs its/\xs.length=its.length/\s.heap.get? l=some { cls:=.type "list",data:=.seq its.toArray n }:=by
 obtain ⟨z,its,n,r,e⟩:=I.hok l _ hH;exact ⟨z,its,n,r,r.length,e⟩
theorem J7E {n:Nat}(h:n<=sizeLine):Builtin.List.listTooLong n=false:=by
 unfold Builtin.List.listTooLong;exact yo (by omega)
end
section
variable {X:Cx}
def J9e:V->List V->Hp->VK->Prop:=fun x vs H Q=>∃ l xs y,x=.ref l/\vs=[y]/\H l=some (.lst xs)/\xs.length<sizeLine/\Q .non (upd H l (.lst (xs++[y])))
theorem J08:MtM X "list.append" J9e:=by
 intro pins s σ H x vs v us Q I rx rv h;obtain ⟨l,xs,y,rfl,rfl,hH,hz,q⟩:=h;cases rx;obtain ⟨u,rfl,ru⟩:=rv.one;obtain ⟨z,its,n,r,hl,e⟩:=I.lstM hH;refine call_meets F.slot_list_append ⟨_,e,rfl⟩ F.entry_list_append (F.args_list_append_2 _ _) (PySem.list_append l its.toArray n u (by rw [yE];omega)) ⟨e,?_⟩;refine ⟨.non,_,I.lset (its':=its++[u]) hH e (by simp) (r.append (.cons ru .nil)) ?_,rfl,q⟩;rw [yH,length_singleton];omega
def JeF:R2:=fun x y H Q=>∃ l b xs zs,x=.ref l/\y=.ref b/\H l=some (.lst xs)/\H b=some (.lst zs)/\xs.length+zs.length<=sizeLine/\∀ p,H p=none->Q (.ref p) (upd H p (.lst (xs++zs)))
theorem J1A:OpR X (binaryOp .Add) JeF:=by
 intro pins s σ H x y v u Q I rx ry h;obtain ⟨l,b,xs,zs,rfl,rfl,hH,hB,hz,q⟩:=h;cases rx;cases ry;obtain ⟨z,its,n,r,hl,e⟩:=I.lstM hH;obtain ⟨z2,its2,n2,r2,hl2,e2⟩:=I.lstM hB;refine PySem.P.add_list e e2 ?_ (by rw [yE,yE];omega);have ea:its.toArray++its2.toArray=(its++its2).toArray:=by simp
 rw [ea];exact ⟨.ref _,_,I.lnew (t':=s.toks) (r.append r2) (by rw [yH];omega),rfl,q _ I.fresh⟩
def JeD:R2:=fun x y H Q=>∃ l k xs,x=.ref l/\y=.int k/\H l=some (.lst xs)/\-(2 ^ 63)<=k/\k<2 ^ 63/\xs.length * k.toNat<=sizeLine /\
 ∀ p,H p=none->Q (.ref p) (upd H p (.lst (List.replicate k.toNat xs).flatten))
theorem JcK {α:Type}(xs:List α)(k:Nat):(List.replicate k xs).flatten.length=k * xs.length:=by
 induction k with
 | zero=>simp
 | succ k ih=>rw [replicate_succ,flatten_cons,yH,ih,Nat.succ_mul,Nat.add_comm]
theorem Jbp:OpR X (binaryOp .Mult) JeD:=by
 intro pins s σ H x y v u Q I rx ry h;obtain ⟨l,k,xs,rfl,rfl,hH,h1,h2,hz,q⟩:=h;cases rx;obtain ⟨t,rfl⟩:=ry;obtain ⟨z,its,n,r,hl,e⟩:=I.lstM hH;have J06:its.toArray.size * k.toNat<=sizeLine:=by rw [yE,<- hl];exact hz
 have hcap:¬ its.toArray.size * k.toNat > (2 ^ 63 - 1) / 8:=by
  have:(sizeLine:Nat)<=(2 ^ 63 - 1) / 8:=by decide
  omega
 have hfit:¬ (!Builtin.List.listFitsIndex k)=true:=by
  rw [fitsIndex_both h1 h2];exact yk
 have hlong:¬ Builtin.List.listTooLong (its.toArray.size * k.toNat)=true:=by
  rw [J7E J06];exact yk
 have hnew:List.foldl (fun x1 x2=>x1++x2) #[] (List.replicate (if its.toArray.isEmpty=true then 0 else k.toNat) its.toArray)=(List.replicate k.toNat its).flatten.toArray:=by
  have f0:∀ m:Nat,List.foldl (fun x1 x2=>x1++x2) #[] (List.replicate m its.toArray)=(List.replicate m its).flatten.toArray:=fun m=>by
   have:=J6n its m [];rw [nil_append] at this;exact this
  rw [f0];cases its with
  | nil=>simp
  | cons a r'=>rw [yh (by simp)]
 refine wpAny_binaryOp_repeat_ref (T:="list") (U:="int") (by decide) ⟨_,e,rfl⟩ (fun s'=>typeIs_int s' k t) noFill_list_mul F.fills_int_mul F.slot_int_rmul repeat_list F.slot_int_index.lookup
  (call_meets F.slot_int_rmul (typeIs_int s k t) F.entry_int_rmul (F.args_int_rmul_2 _ _) (int___rmul___int_list k t l its.toArray n)
   ⟨e,rfl,⟨_,e,rfl⟩,call_meets F.slot_list_mul ⟨_,e,rfl⟩ F.entry_list_mul (F.args_list_mul_2 _ _) (AutoListH.list___mul___list_int_3 l its.toArray n k t hfit hcap hlong) ⟨e,?_⟩⟩)
 rw [hnew];exact ⟨.ref _,_,I.lnew (t':=s.toks) (r.rep k.toNat) (by rw [JcK,Nat.mul_comm];exact hz),rfl,q _ I.fresh⟩
end
section
variable {κ:Type}[DecidableEq κ]
def J11 (kvs:List (κ×V))(k:κ):Option V:=(kvs.find? fun kv=>decide (kv.1=k)).map (·.2)
def J1p (kvs:List (κ×V))(k:κ)(v:V):List (κ×V) :=
 if (kvs.any fun kv=>decide (kv.1=k))=true then kvs.map (fun kv=>if kv.1=k then (kv.1,v) else kv) else kvs++[(k,v)]
theorem J2s {p:κ×V}{r:List (κ×V)}{k:κ}(e:p.1=k):J11 (p::r) k=some p.2:=by simp [J11,List.find?_cons,e]
theorem J2t {p:κ×V}{r:List (κ×V)}{k:κ}(e:¬ p.1=k):J11 (p::r) k=J11 r k:=by simp [J11,List.find?_cons,e]
theorem J7i (k:κ):∀ kvs:List (κ×V),(kvs.any fun kv=>decide (kv.1=k))=(J11 kvs k).isSome
 | []=>rfl
 | p::r=>by
   rw [any_cons];by_cases e:p.1=k
   ·simp only [J2s e,ym e,Bool.true_or,Option.isSome_some]
   ·rw [J2t e,yo e,Bool.false_or];exact J7i k r
theorem J2H (kvs:List (κ×V))(k:κ)(v:V):(J1p kvs k v).length<=kvs.length+1:=by
 unfold J1p
 split
 ·rw [yC];omega
 ·rw [yH,length_cons,length_nil];omega
theorem RelO.isSome_eq {o:Option V}{u:Option Value}(r:RelO o u):o.isSome=u.isSome:=by
 cases o with
 | none=>cases u with
   | none=>rfl
   | some _=>exact (show False from r).elim
 | some _=>cases u with
   | none=>exact (show False from r).elim
   | some _=>rfl
theorem KV.val {kvs:List (κ×V)}{vs:List (κ×Value)}(r:KV kvs vs)(k:κ):RelO (J11 kvs k) (valueAt vs k):=by
 unfold KV at r
 induction r with
 | nil=>exact True.intro
 | @cons p q ps qs h t ih =>
   obtain ⟨h1,h2⟩:=h;by_cases e:p.1=k
   ·have e':q.1=k:=h1.symm.trans e
    have b:valueAt (q::qs) k=some q.2:=by simp [valueAt,List.find?_cons,e']
    rw [J2s e,b];exact h2
   ·have e':¬ q.1=k:=fun z=>e (h1.trans z)
    have b:valueAt (q::qs) k=valueAt qs k:=by simp [valueAt,List.find?_cons,e']
    rw [J2t e,b];exact ih
theorem KV.any {kvs:List (κ×V)}{vs:List (κ×Value)}(r:KV kvs vs)(k:κ):(kvs.any fun kv=>decide (kv.1=k))=vs.any fun kv=>decide (kv.1=k):=by
 unfold KV at r
 induction r with
 | nil=>rfl
 | cons h t ih=>rw [any_cons,any_cons,ih,h.1]
theorem KV.repl {kvs:List (κ×V)}{vs:List (κ×Value)}(r:KV kvs vs)(k:κ){y:V}{u:Value}(ry:RelV y u) :
 KV (kvs.map fun kv=>if kv.1=k then (kv.1,y) else kv) (vs.map fun kv=>if kv.1=k then (kv.1,u) else kv):=by
 unfold KV at r ⊢
 induction r with
 | nil=>exact .nil
 | @cons p q ps qs h t ih =>
   rw [yM,yM];refine .cons ?_ ih;obtain ⟨h1,h2⟩:=h;by_cases e:p.1=k
   ·rw [yi e,yi (h1.symm.trans e)];exact ⟨h1,ry⟩
   ·rw [yh e,yh (fun z=>e (h1.trans z))];exact ⟨h1,h2⟩
theorem KV.put {kvs:List (κ×V)}{vs:List (κ×Value)}(r:KV kvs vs)(k:κ){y:V}{u:Value}(ry:RelV y u):KV (J1p kvs k y) (stored vs k u):=by
 unfold J1p stored;rw [r.any k];by_cases e:(vs.any fun kv=>decide (kv.1=k))=true
 ·rw [yi e,yi e];exact r.repl k ry
 ·rw [yh e,yh e];exact Paired.snoc r ⟨rfl,ry⟩
theorem KV.keys {kvs:List (κ×V)}{vs:List (κ×Value)}(r:KV kvs vs):kvs.map (·.1)=vs.map (·.1):=by
 unfold KV at r
 induction r with
 | nil=>rfl
 | cons h t ih=>rw [yM,yM,ih,h.1]
theorem KV.length {kvs:List (κ×V)}{vs:List (κ×Value)}(r:KV kvs vs):kvs.length=vs.length:=Paired.length r
end
theorem J6i {P:Program}{w:World}{k:Key}{u:Value}(r:RelV (kV k) u):(J0s P w).is k u=true:=by
 cases k with
 | inl i=>obtain ⟨t,e⟩:=(show ∃ t,u=Value.int i t from r);subst e;exact J7J P w i t
 | inr x=>obtain ⟨t,e⟩:=(show ∃ t,u=Value.str x t from r);subst e;exact J7I P w x t
theorem Jdb {P:Program}{w:World}{k:J0A}{u:Value}(r:RelV (nV k) u):(J0c P w).is k u=true:=by
 cases k with
 | none=>cases (show u=Value.none from r);rfl
 | some k=>exact J6i (P:=P) (w:=w) (k:=k) r
theorem J6j {P:Program}{w:World}:∀ {ks:List J0A} {us:List Value},Vals (ks.map nV) us->ItemsAre (J0c P w) ks us
 | [],_,r=>by rw [map_nil] at r;cases r;exact .nil
 | k::ks,_,r=>by
   rw [yM] at r;cases r with
   | cons h t=>exact .cons (Jdb h) (J6j t)
abbrev KT (H:Hp):List (List J0A×V)->List (List J0A×Addr×Value)->Prop:=Paired fun p q=>p.1=q.1/\H q.2.1=some (.tup (p.1.map nV))/\RelV p.2 q.2.2
theorem KT.val {H:Hp}{kvs:List (List J0A×V)}{xs:List (List J0A×Addr×Value)}(r:KT H kvs xs)(k:List J0A):RelO (J11 kvs k) ((atKey xs k).map (·.2)):=by
 induction r with
 | nil=>exact True.intro
 | @cons p q ps qs h t ih =>
   obtain ⟨h1,_,h2⟩:=h;by_cases e:p.1=k
   ·have e':q.1=k:=h1.symm.trans e
    have b:atKey (q::qs) k=some q.2:=by simp [atKey,List.find?_cons,e']
    rw [J2s e,b];exact h2
   ·have e':¬ q.1=k:=fun z=>e (h1.trans z)
    have b:atKey (q::qs) k=atKey qs k:=by simp [atKey,List.find?_cons,e']
    rw [J2t e,b];exact ih
theorem KT.repl {H:Hp}{kvs:List (List J0A×V)}{xs:List (List J0A×Addr×Value)}(r:KT H kvs xs)(k:List J0A){y:V}{u:Value}(ry:RelV y u) :
 KT H (kvs.map fun kv=>if kv.1=k then (kv.1,y) else kv) (xs.map (putAt k u)):=by
 induction r with
 | nil=>exact .nil
 | @cons p q ps qs h t ih =>
   rw [yM,yM];refine .cons ?_ ih;obtain ⟨h1,h2,h3⟩:=h;unfold putAt;by_cases e:p.1=k
   ·rw [yi e,yi (h1.symm.trans e)];exact ⟨h1,h2,ry⟩
   ·rw [yh e,yh (fun z=>e (h1.trans z))];exact ⟨h1,h2,h3⟩
theorem KT.put {H:Hp}{kvs:List (List J0A×V)}{xs:List (List J0A×Addr×Value)}(r:KT H kvs xs)(k:List J0A){b:Addr}{y:V}{u:Value}(hb:H b=some (.tup (k.map nV)))(ry:RelV y u) :
 KT H (J1p kvs k y) (storedH xs k b u):=by
 have e:(kvs.any fun kv=>decide (kv.1=k))=(atKey xs k).isSome:=by
  rw [J7i,(r.val k).isSome_eq,Option.isSome_map]
 unfold J1p storedH;rw [e];by_cases q:(atKey xs k).isSome=true
 ·rw [yi q,yi q];exact r.repl k ry
 ·rw [yh q,yh q];exact Paired.snoc r ⟨rfl,hb,ry⟩
theorem KT.keeps {H H':Hp}{kvs:List (List J0A×V)}{xs:List (List J0A×Addr×Value)}(r:KT H kvs xs)(ht:∀ b ys,H b=some (.tup ys)->H' b=some (.tup ys)):KT H' kvs xs :=
 Paired.mapP r fun _ _ z=>⟨z.1,ht _ _ z.2.1,z.2.2⟩
section
variable {P:Program}{w:World}{H:Hp}{h:Heap}{a:Addr}
theorem Jd7 {u:HO}(ok:HOk P w H h)(e:Rd H a u):ObjOk P w H h a u:=e.ok ok
theorem J82 {kvs:List (Key×V)}(ok:HOk P w H h)(e:Rd H a (.dK kvs)):kvs.length<=sizeLine/\(a == sysModules)=false/\∃ vs,KV kvs vs/\h.DictOf (J0s P w) a vs :=
 show ObjOk P w H h a (.dK kvs) from Jd7 ok e
theorem JbP {kvs:List (Key×V)}(ok:HOk P w H h)(e:H a=some (.dK kvs)):kvs.length<=sizeLine/\(a == sysModules)=false/\∃ vs,KV kvs vs/\h.DictOf (J0s P w) a vs:=J82 ok (.inl e)
theorem J49 {ks:List J0A}(ok:HOk P w H h)(e:H a=some (.tup (ks.map nV))):(tupleKind (J0c P w)).is h ks a:=by
 obtain ⟨_,its,r,o,h1,h2,n,h3⟩:=(show ObjOk P w H h a (.tup (ks.map nV)) from ok a _ e);exact ⟨o,its.toArray,n,h1,h2,h3,by simpa using J6j r⟩
theorem dt_rd {kvs:List (List J0A×V)}(ok:HOk P w H h)(e:Rd H a (.dT kvs)):kvs.length<=sizeLine/\(a == sysModules)=false /\
 ∃ xs,KT H kvs xs/\h.DictOfH (tupleKind (J0c P w)) a xs:=by
 obtain ⟨z,y,xs,r,o,es,ep,h1,h2,h3,h4,h5⟩:=(show ObjOk P w H h a (.dT kvs) from Jd7 ok e);refine ⟨z,y,xs,r,o,es,ep,h1,h2,h3,h4,fun x hx=>?_,h5⟩;have all:∀ {l:List (List J0A×V)} {m:List (List J0A×Addr×Value)},KT H l m->∀ x∈m,(tupleKind (J0c P w)).is h x.1 x.2.1:=by
  intro l m q
  induction q with
  | nil=>intro x hx;exact nomatch hx
  | @cons p q ps qs hq t ih =>
    intro x hx;rcases yL.mp hx with e | hx
    ·subst e
     exact J49 ok (by rw [<- hq.1];exact hq.2.1)
    ·exact ih x hx
 exact all r x hx
theorem Jew {kvs:List (List J0A×V)}(ok:HOk P w H h)(e:H a=some (.dT kvs)):kvs.length<=sizeLine/\(a == sysModules)=false /\
 ∃ xs,KT H kvs xs/\h.DictOfH (tupleKind (J0c P w)) a xs:=dt_rd ok (.inl e)
end
def DGet (H:Hp)(a:Addr)(y:V)(r:Option V):Prop :=
 (∃ kvs k,Rd H a (.dK kvs)/\y=kV k/\r=J11 kvs k)\/∃ kvs k b,Rd H a (.dT kvs)/\y=.ref b/\H b=some (.tup (k.map nV))/\r=J11 kvs k
def DPut (H:Hp)(a:Addr)(y v:V)(H':Hp):Prop :=
 (∃ kvs k,H a=some (.dK kvs)/\y=kV k/\kvs.length<sizeLine/\H'=upd H a (.dK (J1p kvs k v))) \/
 ∃ kvs k b,H a=some (.dT kvs)/\y=.ref b/\H b=some (.tup (k.map nV))/\kvs.length<sizeLine/\H'=upd H a (.dT (J1p kvs k v))
theorem DGet.k {H:Hp}{a:Addr}{kvs:List (Key×V)}{k:Key}(e:H a=some (.dK kvs)):DGet H a (kV k) (J11 kvs k):=.inl ⟨kvs,k,.inl e,rfl,rfl⟩
theorem DPut.k {H:Hp}{a:Addr}{kvs:List (Key×V)}{k:Key}{v:V}(e:H a=some (.dK kvs))(hl:kvs.length<sizeLine):DPut H a (kV k) v (upd H a (.dK (J1p kvs k v))):=.inl ⟨kvs,k,e,rfl,hl,rfl⟩
section
variable {X:Cx}{pins:List (Addr×Obj)}{σ:St}{H:Hp}{s:Shared}{a:Addr}{y v:V}{u r:Value}{o:Option V}{A:Around}{E:Value->Shared->Prop}
theorem Inv.big (I:Inv X pins σ H s):sysModules<s.heap.objs.size:=by
 have h:mainGlobals<s.heap.objs.size:=(I.mod.glob.keeps I.bk).lt;exact Nat.lt_trans (by decide) h
theorem Jar {Q:Value->Shared->Prop}(hu:A.units+1<cLine)(I:Inv X pins σ H s)(g:DGet H a y (some v))(ry:RelV y u)(h:∀ w' s',Inv X pins σ H s'->RelV v w'->Q w' s') :
 wpAny (model X.prog X.w) A (getItem (.ref a) u) Q E s:=by
 rcases g with ⟨kvs,k,e,ey,l⟩ | ⟨kvs,k,b,e,ey,eb,l⟩
 ·subst ey
  obtain ⟨z,hd,vs,rel,dd⟩:=J82 I.hok e;obtain ⟨w',hw,rw'⟩:=RelO.some_of (v:=v) (o:=valueAt vs k) (by rw [l];exact rel.val k);exact wpAny_getItem_of (J6i ry) dd.mapOf hw (h w' _ (I.tok _) rw')
 ·subst ey
  cases (show u=Value.ref b from ry);obtain ⟨z,hd,xs,rel,dd⟩:=dt_rd I.hok e;obtain ⟨w',hw,rw'⟩:=RelO.some_of (v:=v) (o:=(atKey xs k).map (·.2)) (by rw [l];exact rel.val k);obtain ⟨p,hp,hp2⟩:=Option.map_eq_some_iff.mp hw;refine wpAny_getItem_heap (tupleKind_room_in1 hu) (J49 I.hok eb) dd hp ?_;rw [hp2];exact h w' _ (I.tok _) rw'
theorem JeM {Q:Value->Shared->Prop}(hu:A.units+1<cLine)(I:Inv X pins σ H s)(g:DGet H a y o)(ry:RelV y u)(h:∀ s',Inv X pins σ H s'->Q (.bool o.isSome) s') :
 wpAny (model X.prog X.w) A (compareOp .In u (.ref a)) Q E s:=by
 rcases g with ⟨kvs,k,e,ey,l⟩ | ⟨kvs,k,b,e,ey,eb,l⟩
 ·subst ey
  obtain ⟨z,hd,vs,rel,dd⟩:=J82 I.hok e;refine wpAny_in_of (J6i ry) hd dd.mapOf ?_;rw [<- (rel.val k).isSome_eq,<- l];exact h _ (I.tok _)
 ·subst ey
  cases (show u=Value.ref b from ry);obtain ⟨z,hd,xs,rel,dd⟩:=dt_rd I.hok e;refine wpAny_in_heap (tupleKind_room_in1 hu) (J49 I.hok eb) hd dd ?_;have q:=(rel.val k).isSome_eq;rw [Option.isSome_map] at q;rw [<- q,<- l];exact h _ (I.tok _)
theorem JcU {Q:Value->Shared->Prop}(hu:A.units+1<cLine)(I:Inv X pins σ H s)(g:DGet H a y o)(ry:RelV y u)(h:∀ s',Inv X pins σ H s'->Q (.bool (!o.isSome)) s') :
 wpAny (model X.prog X.w) A (compareOp .NotIn u (.ref a)) Q E s:=by
 rcases g with ⟨kvs,k,e,ey,l⟩ | ⟨kvs,k,b,e,ey,eb,l⟩
 ·subst ey
  obtain ⟨z,hd,vs,rel,dd⟩:=J82 I.hok e;refine wpAny_notIn_of (J6i ry) hd dd.mapOf ?_;rw [<- (rel.val k).isSome_eq,<- l];exact h _ (I.tok _)
 ·subst ey
  cases (show u=Value.ref b from ry);obtain ⟨z,hd,xs,rel,dd⟩:=dt_rd I.hok e;refine wpAny_notIn_heap (tupleKind_room_in1 hu) (J49 I.hok eb) hd dd ?_;have q:=(rel.val k).isSome_eq;rw [Option.isSome_map] at q;rw [<- q,<- l];exact h _ (I.tok _)
theorem J4K {h':Heap}{t':Nat}{ob:HO}(I:Inv X pins σ H s)(mu:Mut (H a))(hs:Heap.SameBut a s.heap h')(he:∃ q,h'.get? a=some q)(new:ObjOk X.prog X.w (upd H a ob) h' a ob) :
 Inv X pins σ (upd H a ob) { s with heap:=h',toks:=t' } :=
 I.write (x:=a) (e:=a) mu (.inl rfl) (fun b q hb z=>(hs.2 b hb).trans z) he new
theorem JbQ {P:Program}{w:World}{H':Hp}{h':Heap}{kvs:List (Key×V)}{vs:List (Key×Value)}(z:kvs.length<=sizeLine)(hd:(a == sysModules)=false)(rel:KV kvs vs)(dd:h'.DictOf (J0s P w) a vs) :
 ObjOk P w H' h' a (.dK kvs):=⟨z,hd,vs,rel,dd⟩
theorem Jaq {H':Hp}{Q:Unit->Shared->Prop}(hu:A.units+1<cLine)(I:Inv X pins σ H s)(g:DPut H a y v H')(ry:RelV y u)(rv:RelV v r)(h:∀ s',Inv X pins σ H' s'->Q () s') :
 wpAny (model X.prog X.w) A (setItem (.ref a) u r) Q E s:=by
 rcases g with ⟨kvs,k,e,ey,l,eH⟩ | ⟨kvs,k,b,e,ey,eb,l,eH⟩
 ·subst ey eH
  obtain ⟨z,hd,vs,rel,dd⟩:=JbP I.hok e;have hz:vs.length<=sizeLine:=by rw [<- rel.length];exact z
  have hl:(J1p kvs k v).length<=sizeLine:=by have:=J2H kvs k v;omega
  refine wpAny_setItem_pairs (hsz:=hz) (J6i ry) dd fun h' dd' hs=>h _ ?_;have he:∃ q,h'.get? a=some q:=let ⟨q,_,_,hq,_⟩:=dd';⟨q,hq⟩;exact J4K I (by rw [e];exact True.intro) hs he (JbQ hl hd (rel.put k rv) dd')
 ·subst ey eH
  cases (show u=Value.ref b from ry);obtain ⟨z,hd,xs,rel,dd⟩:=Jew I.hok e;have hz:xs.length<=sizeLine:=by rw [<- Paired.length rel];exact z
  have hl:(J1p kvs k v).length<=sizeLine:=by have:=J2H kvs k v;omega
  refine wpAny_setItem_heap (hsz:=hz) (tupleKind_room_in1 hu) (J49 I.hok eb) dd fun h' dd' hs=>h _ ?_;obtain ⟨q,es,ep,hq,h2,h3,h4,_,h5⟩:=dd';refine J4K I (by rw [e];exact True.intro) hs ⟨q,hq⟩ ⟨hl,hd,_,(rel.put k eb rv).keeps fun c ys ec=>?_,q,es,ep,hq,h2,h3,h4,h5⟩;rw [Jd (J2F ec e (fun z=>nomatch z))];exact ec
end
def Jea (i:Expr):Prop:=∀ ov iv,subscripted i false ov iv=operate [ov,iv] (getItem ov iv)
theorem J95 {prog:Program}{w:World}{A:Around}{E:Value->Shared->Prop}{s:Shared}{env:Env}{value slice:Expr}{pos:Pos}{T id:String}{Q:Value->Shared->Prop}
 (hl:typeLookup (.type T) "__getitem__"=pure (some (.builtin id))) (hs:Jea slice)
 (h:wpAny (model prog w) A (eval value env) (fun o s₁=>wpAny (model prog w) A (eval slice env) (fun i s₂=>s₂.TypeIs o T/\wpAny (model prog w) A (getItem o i) Q E s₂) E s₁) E s) :
 wpAny (model prog w) A (eval (.Subscript value slice pos) env) Q E s:=by
 refine Subscript_ (wpAny_mono h (fun o s₁ h₁=>wpAny_mono h₁ (fun i s₂ h₂=>?_) fun _ _ x=>x) fun _ _ x=>x);obtain ⟨hT,h₂⟩:=h₂;unfold subscriptTail;refine yf ?_;rw [getitemInPython_of_ne hT.not_modules];refine yf (wpAny_specialOf hT hl ?_);have fin:wpAny (model prog w) A (subscripted slice false o i) (fun r s₃=>wpAny (model prog w) A (letTemporaryGo value o r >>= fun _=>pure r) Q E s₃) E s₂:=by
  rw [hs o i];exact wpAny_operating (wpAny_mono h₂ (fun r s₃ h₃=>yf (wpAny_letTemporaryGo (yg h₃))) fun _ _ x=>x)
 first
  | exact yg (yf fin)
  | exact yf (yg (yf fin))
  | exact yf fin
theorem J83 {X:Cx}{pins:List (Addr×Obj)}{σ:St}{H:Hp}{s:Shared}{a:Addr}{y:V}{o:Option V}(I:Inv X pins σ H s)(g:DGet H a y o):s.TypeIs (.ref a) "dict":=by
 rcases g with ⟨kvs,k,e,_,_⟩ | ⟨kvs,k,b,e,_,_,_⟩
 ·obtain ⟨_,_,vs,_,dd⟩:=J82 I.hok e
  exact dd.typeIs
 ·obtain ⟨_,_,xs,_,dd⟩:=dt_rd I.hok e
  exact dd.typeIs
def JaL (td ty:TE):TE:=fun σ H Q=>td σ H fun x H1=>ty σ H1 fun y H2=>∃ a v,x=.ref a/\DGet H2 a y (some v)/\Q v H2
def Jdr (ty td:TE):TE:=fun σ H Q=>ty σ H fun y H1=>td σ H1 fun x H2=>∃ a o,x=.ref a/\DGet H2 a y o/\Q (.bl o.isSome) H2
def J6H (ty td:TE):TE:=fun σ H Q=>ty σ H fun y H1=>td σ H1 fun x H2=>∃ a o,x=.ref a/\DGet H2 a y o/\Q (.bl (!o.isSome)) H2
def Jb0 (td ty tv:TE):TS:=fun D σ H=>tv σ H fun v H1=>td σ H1 fun x H2=>ty σ H2 fun y H3=>∃ a H4,x=.ref a/\DPut H3 a y v H4/\D.nx σ H4
section
variable {X:Cx}{o i e value:Expr}{pos pos' tpos:Pos}{td ty tv:TE}
theorem J9j (hu:X.A.units+1<cLine)(ho:PE X o td)(hi:PE X i ty)(hs:Jea i):PE X (.Subscript o i pos) (JaL td ty):=by
 intro pins s σ H Q I h;refine J95 PySem.F.slot_dict_getitem.lookup hs (thn (ho pins s σ H _ I h) fun u s1 ⟨x,H1,I1,rx,q1⟩=>thn (hi pins s1 σ H1 _ I1 q1) fun iv s2 ⟨y,H2,I2,ry,a,v,ex,g,q2⟩=>?_);subst ex;obtain rfl:u=Value.ref a:=rx;exact ⟨J83 I2 g,Jar hu I2 g ry fun w' s3 I3 rw'=>⟨v,H2,I3,rw',q2⟩⟩
theorem JdE (hu:X.A.units+1<cLine)(hi:PE X i ty)(ho:PE X o td):PC X .In i o (Jdr ty td):=by
 intro pins s σ H Q I h;refine thn (hi pins s σ H _ I h) fun iv s1 ⟨y,H1,I1,ry,q1⟩=>thn (ho pins s1 σ H1 _ I1 q1) fun u s2 ⟨x,H2,I2,rx,a,ov,ex,g,q2⟩=>?_;subst ex;obtain rfl:u=Value.ref a:=rx;exact JeM hu I2 g ry fun s3 I3=>⟨.bl ov.isSome,H2,I3,rfl,q2⟩
theorem Ja7 (hu:X.A.units+1<cLine)(hi:PE X i ty)(ho:PE X o td):PC X .NotIn i o (J6H ty td):=by
 intro pins s σ H Q I h;refine thn (hi pins s σ H _ I h) fun iv s1 ⟨y,H1,I1,ry,q1⟩=>thn (ho pins s1 σ H1 _ I1 q1) fun u s2 ⟨x,H2,I2,rx,a,ov,ex,g,q2⟩=>?_;subst ex;obtain rfl:u=Value.ref a:=rx;exact JcU hu I2 g ry fun s3 I3=>⟨.bl (!ov.isSome),H2,I3,rfl,q2⟩
theorem Jcw (hu:X.A.units+1<cLine)(ho:PE X o td)(hi:PE X i ty)(hv:PE X value tv)(hs:swapsWith value (some (.Subscript o i pos')) pos.line X.env=pure false) :
 PS X (.Assign [.Subscript o i pos'] value pos) (Jb0 td ty tv):=by
 intro pins s σ H D I h;refine wpAny_Assign_Subscript (thn (hv pins s σ H _ I h) fun r s1 ⟨v,H1,I1,rv,q1⟩=>thn (ho pins s1 σ H1 _ I1 q1) fun u s2 ⟨x,H2,I2,rx,q2⟩=>thn (hi pins s2 σ H2 _ I2 q2) fun iv s3 ⟨y,H3,I3,ry,a,H4,ex,g,q3⟩=>?_) hs;subst ex;obtain rfl:u=Value.ref a:=rx;exact Jaq hu I3 g ry rv fun s4 I4=>⟨σ,H4,I4,q3⟩
end
theorem JbR {P:Program}{w:World}{H:Hp}(h:Heap)(hb:sysModules<h.objs.size):ObjOk P w H (h.push { cls:=.type "dict",data:=.dict #[] }) h.objs.size (.dK []) :=
 ⟨yw _,beq_eq_false_iff_ne.mpr (Ne.symm (yr hb)),[],.nil,Heap.DictOf.new h⟩
def J4V:List (TE×TE)->St->Hp->(List (V×V)->Hp->Prop)->Prop
 | [],_,H,Q=>Q [] H
 | (tk,tv)::r,σ,H,Q=>tk σ H fun x H1=>tv σ H1 fun y H2=>J4V r σ H2 fun ps H3=>Q ((x,y)::ps) H3
abbrev VV:List (V×V)->List (Value×Value)->Prop:=Paired fun p q=>RelV p.1 q.1/\RelV p.2 q.2
def PPs (X:Cx)(pos:Pos)(keys:List (Option Expr))(values:List Expr)(trs:List (TE×TE)):Prop :=
 ∀ (pins:List (Addr×Obj)) (s:Shared) (σ:St) (H:Hp) (Q:List (V×V)->Hp->Prop),Inv X pins σ H s->J4V trs σ H Q ->
   wpAny (model X.prog X.w) X.A (evalPairs (pairTrees keys values X.env pos)) (fun vs s'=>∃ ps H',Inv X pins σ H' s'/\VV ps vs/\Q ps H') X.xe s
theorem Jcy {X:Cx}{pos:Pos}:PPs X pos [] [] []:=fun pins s σ H Q I h=>pairTrees_nil_walk ⟨[],H,I,.nil,h⟩
theorem Jbh {X:Cx}{pos:Pos}{k v:Expr}{ks:List (Option Expr)}{vs:List Expr}{tk tv:TE}{trs:List (TE×TE)}(hk:PE X k tk)(hv:PE X v tv)(hr:PPs X pos ks vs trs) :
 PPs X pos (some k::ks) (v::vs) ((tk,tv)::trs):=fun pins s σ H Q I h =>
 pairTrees_cons_walk (thn (hk pins s σ H _ I h) fun u s1 ⟨x,H1,I1,rx,q1⟩=>thn (hv pins s1 σ H1 _ I1 q1) fun w2 s2 ⟨y,H2,I2,ry,q2⟩ =>
  thn (hr pins s2 σ H2 _ I2 q2) fun ws s3 ⟨ps,H3,I3,rel,q3⟩=>⟨(x,y)::ps,H3,I3,.cons ⟨rx,ry⟩ rel,q3⟩)
def J46 (kvs more:List (Key×V)):List (Key×V):=more.foldl (fun acc kv=>J1p acc kv.1 kv.2) kvs
theorem KV.merge:∀ {more:List (Key×V)} {rs:List (Key×Value)} {kvs:List (Key×V)} {vs:List (Key×Value)},KV more rs->KV kvs vs->KV (J46 kvs more) (merged vs rs):=by
 intro more rs kvs vs r;unfold KV at r
 induction r generalizing kvs vs with
 | nil=>intro q;exact q
 | @cons p q ps qs h t ih =>
   intro r0;have e:KV (J1p kvs p.1 p.2) (stored vs q.1 q.2):=by
    have:=r0.put p.1 h.2;rw [<- h.1];exact this
   exact ih e
theorem J36:∀ (more kvs:List (Key×V)),(J46 kvs more).length<=kvs.length+more.length
 | [],kvs=>by show kvs.length<=kvs.length+0;omega
 | p::r,kvs=>by
   have h1:=J36 r (J1p kvs p.1 p.2);have h2:=J2H kvs p.1 p.2;show (J46 (J1p kvs p.1 p.2) r).length<=_;rw [length_cons];omega
theorem J5P {P:Program}{w:World}:∀ {kvs:List (Key×V)} {ws:List (Value×Value)},VV (kvs.map fun kv=>(kV kv.1,kv.2)) ws->∃ rs,Carries (J0s P w) ws rs/\KV kvs rs
 | [],_,r=>by rw [map_nil] at r;cases r;exact ⟨[],True.intro,.nil⟩
 | p :: kvs,_,r=>by
   rw [yM] at r;cases r with
   | @cons a b as bs h t =>
     obtain ⟨rs,c,q⟩:=J5P (P:=P) (w:=w) t;obtain ⟨b1,b2⟩:=b;exact ⟨(p.1,b2)::rs,⟨J6i h.1,rfl,c⟩,.cons ⟨rfl,h.2⟩ q⟩
def JaK (trs:List (TE×TE)):TE:=fun σ H Q=>∀ p,H p=none->J4V trs σ (upd H p (.dK [])) fun ps H2=>H2 p=some (.dK [])/\∃ kvs:List (Key×V),ps=kvs.map (fun kv=>(kV kv.1,kv.2))/\kvs.length<=15/\Q (.ref p) (upd H2 p (.dK (J46 [] kvs)))
theorem JcD {X:Cx}{pos:Pos}{keys:List (Option Expr)}{values:List Expr}{trs:List (TE×TE)}(h:PPs X pos keys values trs)(hall:keys.all (·.isSome)=true)(hl:keys.length=values.length)(h0:keys≠[])
 (h15:keys.length<=15):PE X (.Dict keys values pos) (JaK trs):=by
 intro pins s σ H Q I q;have hn:=I.hok.fresh (yj s.heap.objs.size);have I1:=I.laid (a:=s.heap.objs.size) (o:=.dK []) (h':=s.heap.push { cls:=.type "dict",data:=.dict #[] }) (t':=s.toks) (fun _ _ q=>y4 _ q) (yj _) (JbR s.heap I.big);refine wpAny_Dict_walk (knd:=J0s X.prog X.w) hall hl h0 h15 (thn (h pins _ σ _ _ I1 (q _ hn)) fun ws s2 ⟨ps,H2,I2,rel,e,kvs,ep,lk,q2⟩=>?_);subst ep;obtain ⟨rs,c,rk⟩:=J5P (P:=X.prog) (w:=X.w) rel;obtain ⟨z,hd,vs0,r0,dd⟩:=JbP I2.hok e;cases r0;refine ⟨rs,c,dd,fun h' dd' hs=>⟨.ref s.heap.objs.size,_,?_,rfl,q2⟩⟩;have hz:(J46 [] kvs).length<=sizeLine:=by
  have h1:=J36 kvs [];rw [length_nil] at h1;rw [sizeLine_eq];omega
 have he:∃ q,h'.get? s.heap.objs.size=some q:=let ⟨q,_,_,hq,_⟩:=dd';⟨q,hq⟩;exact J4K I2 (by rw [e];exact True.intro) hs he (JbQ hz hd (rk.merge .nil) dd')
structure M2 (X:Cx)(o:Expr)(m:Str)(apos:Pos)(e f:Expr)(cpos:Pos):Prop where
 base:attributeBase o m X.env (eval o X.env)=eval o X.env
 few:((backTo cpos (starEach [e,f] X.env)).all (fun x=>!x.1)&&(backToKw cpos (keywordEach [] X.env)).all (fun x=>x.1.isSome)
  && decide (([e,f]:List Expr).length+([]:List Keyword).length+(if ([]:List Keyword).isEmpty then 0 else 1)<30))=true
 line:(apos.endLine == cpos.line)=true
 trees:backTo cpos (starEach [e,f] X.env)=[(false,eval e X.env),(false,eval f X.env)]
end L2
namespace Att
open PySem PySem.W PySem.Calls PyProof.Rows
theorem J4A {P:Params}{h:Heap}:∀ (ns:List Int) (vs:List Value),WellAll P h vs (ns.map WData.int)->IntsAre vs ns:=by
 intro ns
 induction ns with
 | nil =>
   intro vs w;rw [map_nil] at w;cases w;exact .nil
 | cons n ns ih =>
   intro vs w;rw [yM] at w;cases w with
   | cons a b =>
     cases a;exact .cons _ _ (ih _ b)
theorem Ja0 {l:OpenLaw}{n:Nat}(hn:l.most=some n){P:Params}{h:Heap}{args:List WData}{vals:List Value}
 (hpre:l.row.toRowW.claim.pre args=true) (hwl:WellAll P h vals args) :
 ∃ a vs ns,vals=[Value.ref a]/\args=[WData.list (ns.map WData.int)]/\h.get? a=some { cls:=.type "list",data:=.seq vs.toArray }/\IntsAre vs ns/\ns.length<=n:=by
 have hsh:WShape.hasAll [] args [.list .int]=true:=(pre_splitW hpre).1;have hc:l.pre.holds [] { args:=args }=true:=(pre_splitW hpre).2;obtain ⟨d,r,rfl,h1,h2⟩:=hasAllW_cons hsh;obtain rfl:=hasAllW_nil h2;obtain ⟨xs,rfl,h3⟩:=hasW_list h1;obtain ⟨ns,rfl⟩:=items_int h3;have J06:ns.length<=n:=by
  unfold OpenLaw.pre at hc;have h4:(WTm.not (.lt (.lit (.int (n:Int))) (.len (.arg 0)))).holds [] { args:=[.list (ns.map .int)] }=true:=by
   have h4:=(holds_andW hc).1;rw [hn] at h4;exact h4
  have h5:=condW_of h4 (w_not (w_lt w_lit (w_len_list (w_arg rfl))));rw [yC] at h5;refine Nat.le_of_not_lt fun q=>?_;have q':(n:Int)<((ns.length:Nat):Int):=by omega
  first
   | (rw [ym q'] at h5;exact absurd h5 (by decide))
   | (simp at h5;omega)
 cases hwl with
 | cons w1 w2 =>
   cases w2;cases w1 with
   | list ho hall=>exact ⟨_,_,ns,rfl,rfl,ho,J4A ns _ hall,J06⟩
theorem Ja4 (l:OpenLaw)(args:List WData):l.row.toRowW.claim.post args (.bool true) args=true :=
 postW_of (r:=l.row.toRowW) (X:=(true == true))
  (show WShape.has [] (.bool true) .bool=true by first | rfl | decide | simp [WShape.has,WShape.arms,WShape.armsAll])
  (show (WTm.eq .res (.lit (.bool true))).value [] { args:=args,res:=some (.bool true),after:=args }=some (.bool (true == true)) from w_eq_bool (w_res rfl) w_lit) rfl
theorem attach_call {l:OpenLaw}{n:Nat}{q:Program}{loose:List Str}{XP:(Str->Option Value)->Heap->Prop}{YP:World->Heap->Prop}{d:DefRec}
 (hn:l.most=some n) (hdf:d.params.defaults=[])
 (call:∀ (w:World) (s₀ s₁:Shared) (mg mb:Str->Option Value) (fa:Addr) (o:Obj) (pm cd doc:Value) (a:Addr) (vs:List Value) (ns:List Int),
  Ground q loose [] XP w s₀ mg mb s₁.heap->YP w s₁.heap ->
  s₁.heap.get? fa=some o->o.data=.func (docDef d.name d.params d.body d.scope pm cd doc)->s₁.heap.CodeRec cd d.name->mg d.name=some (.ref fa) ->
  s₁.heap.get? a=some { cls:=.type "list",data:=.seq vs.toArray }->IntsAre vs ns->ns.length<=n->s₁.gens=#[] ->
  codeAny (model l.prog w) callerA (.call (.ref fa) ⟨[.ref a],[]⟩) (fun r s'=>r=.ok (.ret (.bool true))/\OldK s₁.heap s'.heap/\s'.os=s₁.os/\AllBare s'.gens) s₁) :
 WalkO q loose XP YP l.row.toRowW d [] (fun f vs=>PySem.call f vs):=by
 intro w s₀ s₁ mg mb G Y fa o pm cd doc dV kV ho hd hcd hD hmg hg args vals as hpre hlay hrd hwl hlo;obtain rfl:dV=.none:=Dflts.none hD hdf;obtain rfl:kV=.none:=Dflts.noKw hD;obtain ⟨a,vs,ns,rfl,rfl,hobj,hints,J06⟩:=Ja0 hn hpre hwl;refine enter_call (codeAny_mono (call w s₀ s₁ mg mb fa o pm cd doc a vs ns G Y ho (fd_plain hd) hcd hmg hobj hints J06 hg) fun r s' hq=>?_);obtain ⟨rfl,h2,h3,h4⟩:=hq;exact ⟨.inl ⟨.bool true,.bool true,[],rfl,fun _=>rfl,.bool true,Ja4 l _,fun _=>⟨List.Pairwise.nil,fun _ hm=>(nomatch hm)⟩⟩,h2,h3,h4⟩
end Att
namespace L2
open PySem PySem.Spec PyProof.Rows
theorem J65:∀ {vs:List Value} {ns:List Int},IntsAre vs ns->Vals (ns.map V.int) vs
 | _,_,.nil=>.nil
 | _,_,.cons n t h=>.cons ⟨t,rfl⟩ (J65 h)
def Je9 (H:Hp):Prop:=∀ b,H b=none\/∃ o xs,H b=some (.frz o (.lst xs))
theorem law_call {P:Program}{w:World}{K:Frag}{mg mb:Str->Option Value}{CX:CXT}{k:Nat}{fa a:Addr}{fd:FuncData}{x:Str}{sp:Sp}{s₁:Shared}{vs:List Value}{ns:List Int}
 (KX:K.In s₁.heap) (hns:s₁.heap.Ns mainGlobals mg) (hb:s₁.heap.Ns builtinsNs mb) (hbb:∀ x:Str,x≠"__name__"->mb x=bootBuiltins x) (hlim:s₁.heap.NoLimit) (hg:s₁.gens=#[])
 (ha:s₁.heap.get? a=some { cls:=.type "list",data:=.seq vs.toArray }) (hi:IntsAre vs ns) (hl:ns.length<=sizeLine) (hr:Room k callerA)
 (F:∀ base:Heap,K.In base->base.Ns mainGlobals mg->FnOk P w K mg base CX k fa fd [x] sp) (hbind:∀ (s:Shared) (u:Value),BindsTo s fd ⟨[u],[]⟩ [(x,u)])
 (hsp:∀ H:Hp,Je9 H->SqL K H a (ns.map V.int)->sp [.ref a] H (fun v _=>v=.bl true) fun _ _ _=>False)
 (hCX:∀ H e s',CX [] H s₁ (fun _ _ _=>False) e s'->False) :
 codeAny (model P w) callerA (.call (.ref fa) ⟨[.ref a],[]⟩) (fun r s'=>r=.ok (.ret (.bool true))/\OldK s₁.heap s'.heap/\s'.os=s₁.os/\AllBare s'.gens) s₁:=by
 have rv:=J65 hi;have lenV:=hi.length
 have core : ∀ H:Hp,Je9 H->SqL K H a (ns.map V.int)->HOk P w H s₁.heap->(∀ b,H b≠none->b=a)->(H a≠none->K.lookup a=none) ->
  codeAny (model P w) callerA (.call (.ref fa) ⟨[.ref a],[]⟩) (fun r s'=>r=.ok (.ret (.bool true))/\OldK s₁.heap s'.heap/\s'.os=s₁.os/\AllBare s'.gens) s₁:=by
  intro H hO hS hok hA hK;have base_of:∀ {b:Addr} {o:Obj},s₁.heap.get? b=some o->H b=none->(J7b s₁.heap H).get? b=some o:=fun e n=>JbE e n;have noA:∀ {b:Addr} {o:Obj} {es:Array DictEntry} {ep:Nat},s₁.heap.get? b=some o->o.data=.dict es ep->H b=none:=fun {b o es ep} e d=>by
   cases q:H b with
   | none=>rfl
   | some u =>
     have e':b=a:=hA b (by rw [q];simp);subst e';rw [ha] at e;cases e;have d':Data.seq vs.toArray _=Data.dict es ep:=d;cases d'
  have nsK:∀ {b:Addr} {m:Str->Option Value},s₁.heap.Ns b m->(J7b s₁.heap H).Ns b m:=fun {b m} ⟨o,es,ep,e,d,r⟩=>⟨o,es,ep,base_of e (noA e d),d,r⟩;have hKb:K.In (J7b s₁.heap H):=fun b o e=>base_of (KX b o e) (by
   cases q:H b with
   | none=>rfl
   | some u =>
     have e':b=a:=hA b (by rw [q];simp);subst e';rw [hK (by rw [q];simp)] at e;cases e)
  have hM:Mod K mg (J7b s₁.heap H):=⟨hKb,nsK hns,⟨mb,nsK hb,hbb⟩,let ⟨mc,h1,h2⟩:=hlim;⟨mc,nsK h1,h2⟩⟩;have e0:Env0 P w K mg (J7b s₁.heap H) callerA [] s₁ H:=⟨rfl,hM,fun b o e=>JcH e,Nat.le_of_eq (Jam _ _),trivial,fun b hb=>absurd (show b∈([]:List Addr) from hb) (by simp),hok,.of_eq hg⟩;refine codeAny_mono ((F _ hKb (nsK hns)).run callerA [] s₁ H ⟨[.ref a],[]⟩ [.ref a] [.ref a] _ _ hr e0 (hbind s₁ (.ref a)) (.cons rfl .nil) (hsp H hO hS)) fun r s' h=>?_;cases r with
  | error e=>exact (hCX H e s' h).elim
  | ok fl =>
    cases fl with
    | next=>exact yy h
    | brk=>exact yy h
    | cont=>exact yy h
    | ret u =>
      obtain ⟨v,H',os,bare,un,hok',r',q⟩:=h;have q':v=.bl true:=q;subst q';obtain rfl:u=Value.bool true:=r';refine ⟨rfl,OldK.of_keep fun b o e=>?_,os,bare⟩;cases q:H b with
      | none=>exact un.keep b o e q (by intro z;exact absurd (show b∈([]:List Addr) from z) (by simp)) (by simp)
      | some u =>
        rcases hO b with z | ⟨ob,xs,z⟩
        ·rw [q] at z;cases z
        ·have z2:=un.frzs b ob _ z
         obtain ⟨e1,_⟩:=hok b _ z;obtain ⟨e2,_⟩:=hok' b _ z2;rw [e] at e1;cases e1;exact e2
 cases hk:K.lookup a with
 | some o =>
   have e:=KX a o hk;rw [ha] at e;cases e;refine core (fun _=>none) (fun _=>.inl rfl) (.inr ⟨_,vs.toArray,_,hk,rfl,rfl,rfl,by rw [yE,lenV];exact hl,by simpa using rv⟩) (fun b u z=>by have z':(none:Option HO)=some u:=z;cases z') (fun b z=>absurd rfl z) fun z=>absurd rfl z
 | none =>
   refine core (fun b=>if b=a then some (.frz { cls:=.type "list",data:=.seq vs.toArray } (.lst (ns.map V.int))) else none) (fun b=>?_) (.inl (.inr ⟨{ cls:=.type "list",data:=.seq vs.toArray },yi rfl⟩)) (fun b u z=>?_) (fun b z=>?_) fun _=>hk
   ·by_cases hb:b=a
    ·exact .inr ⟨_,_,yi hb⟩
    ·exact .inl (yh hb)
   ·by_cases hb:b=a
    ·have z':=(yi hb).symm.trans z
     cases z';subst hb;exact ⟨ha,by rw [yC];exact hl,vs,_,rv,ha⟩
    ·have z':=(yh hb).symm.trans z
     cases z'
   ·by_cases hb:b=a
    ·exact hb
    ·exact absurd (yh hb) z
abbrev KOf {K:Frag}{h:Heap}(_:K.In h):Frag:=K
theorem walk_of {l:PySem.W.OpenLaw}{n k:Nat}{q:Program}{loose:List Str}{XP:(Str->Option Value)->Heap->Prop}{YP:World->Heap->Prop}{d:DefRec}{K:Params->Frag}{CX:World->CXT}{sp:World->Sp}{x:Str}
 (hn:l.most=some n) (hn2:n<=sizeLine) (hdf:d.params.defaults=[]) (hr:Room k callerA)
 (hY:∀ (w:World) (h:Heap),YP w h->(K w.params).In h)
 (F:∀ (w:World) (mg:Str->Option Value) (fa:Addr) (h:Heap),(K w.params).In h->h.Ns mainGlobals mg->mg d.name=some (.ref fa) ->
  ∃ fd:FuncData,(∀ (s:Shared) (u:Value),BindsTo s fd ⟨[u],[]⟩ [(x,u)]) /\
    ∀ base:Heap,(K w.params).In base->base.Ns mainGlobals mg->FnOk l.prog w (K w.params) mg base (CX w) k fa fd [x] (sp w))
 (hsp:∀ (w:World) (H:Hp) (a:Addr) (ns:List Int),ns.length<=n->Je9 H->SqL (K w.params) H a (ns.map V.int)->sp w [.ref a] H (fun v _=>v=.bl true) fun _ _ _=>False)
 (hCX:∀ (w:World) (H:Hp) (s:Shared) (e:Value) (s':Shared),CX w [] H s (fun _ _ _=>False) e s'->False) :
 PySem.W.WalkO q loose XP YP l.row.toRowW d [] (fun f vs=>PySem.call f vs):=by
 refine Att.attach_call hn hdf fun w s₀ s₁ mg mb fa o pm cd doc a vs ns G Y ho hd hcd hmg hobj hints J06 hg=>?_;have KX:=hY w _ Y;obtain ⟨fd,hb,hF⟩:=F w mg fa _ KX G.T.g hmg;exact law_call KX G.T.g G.T.b G.T.builtins G.T.nolimit hg hobj hints (yx J06 hn2) hr hF hb (fun H hO hS=>hsp w H a ns J06 hO hS) fun H e s'=>hCX w H s₁ e s'
def J1g (s:Stmt):Arguments:=match s with
 | .FunctionDef _ a _ _ _ _ _ _ _ _=>a
 | _=>{ posonlyargs:=[],args:=[],vararg:=none,kwonlyargs:=[],kw_defaults:=[],kwarg:=none,defaults:=[] }
def J18 (s:Stmt):List Stmt:=match s with
 | .FunctionDef _ _ b _ _ _ _ _ _ _=>b
 | _=>[]
def Jf (s:Stmt):Scope:=match s with
 | .FunctionDef _ _ _ _ _ _ sc _ _ _=>sc
 | _=>{ kind:=.function,names:=[],isGenerator:=false,isCoroutine:=false }
abbrev CX0:CXT:=fun _ _ _ _ _ _=>False
abbrev E0:XK:=fun _ _ _=>False
theorem J4k {X:Cx}:J4g CX0 X E0:=fun _ _ _ _ _ _ _ h=>h.elim
structure Fun (K:Frag)(x qual:Str)(st:Stmt)(f:Addr)(fd:FuncData):Prop where
 ex:∃ (oc:Value) (od:Option Addr) (kV doc pm:Value) (an:Option Addr) (cdv ct:Value) (osl:Array (Option Value)),
  fd=PySem.W.fnOf x qual (J1g st) (J18 st) (Jf st) .none kV doc pm an cdv ct/\K.lookup f=some ⟨oc,od,.func fd,osl⟩/\PySem.W.codeIn K cdv qual=true
 kp:PySem.W.keepIn K (.ref f)=true
section
variable {P:Program}{w:World}{K:Frag}{mg:Str->Option Value}{base:Heap}
theorem Fun.ok {x qual:Str}{st:Stmt}{f:Addr}{fd:FuncData}{N ps:List Str}{k:Nat}{sp:Sp}(F:Fun K x qual st f fd)(S:FnScope N ps (Jf st))(len:∀ vs H Q E,sp vs H Q E->vs.length=ps.length)
 (hbody:∀ (cdv:Value) (A:Around) (outer:List Env) (s:Shared) (H:Hp) (vs:List V) (Q:VK) (E:XK),Room k (A.deeper (envOfC qual (Jf st) s.heap.objs.size f cdv))->sp vs H Q E ->
  ∃ t,PSs (J84 CX0 P w K mg base N qual (Jf st) f cdv A outer s H E).nox (J18 st) t/\t { nx:=fun _ H'=>Q .non H',rt:=Q } (start N vs) H):FnOk P w K mg base CX0 (k+1) f fd ps sp:=by
 obtain ⟨oc,od,kV,doc,pm,an,cdv,ct,osl,rfl,lk,hcd⟩:=F.ex;refine Jet lk hcd S len fun A outer s H vs Q E hr hsp=>?_;obtain ⟨t,h,q⟩:=hbody cdv A outer s H vs Q E hr hsp;exact ⟨t,h.nox,q⟩
theorem Fun.binds {x qual:Str}{st:Stmt}{f:Addr}{fd:FuncData}{ps:List Str}(F:Fun K x qual st f fd)
 (h:∀ (kV doc pm:Value) (an:Option Addr) (cdv ct:Value) (us:List Value),us.length=ps.length->bindArgs (PySem.W.fnOf x qual (J1g st) (J18 st) (Jf st) .none kV doc pm an cdv ct) ⟨us,[]⟩=pure (ps.zip us)):Binds K fd ps []:=by
 obtain ⟨oc,od,kV,doc,pm,an,cdv,ct,osl,rfl,lk,hcd⟩:=F.ex;exact .all (h kV doc pm an cdv ct)
theorem JdZ {x qual:Str}{st:Stmt}{f:Addr}{oc:Value}{od an:Option Addr}{osl:Array (Option Value)}{kV doc pm cdv ct:Value}(l:K.lookup f=some ⟨oc,od,.func (PySem.W.fnOf x qual (J1g st) (J18 st) (Jf st) .none kV doc pm an cdv ct),osl⟩)
 (c:PySem.W.codeIn K cdv qual=true) (k:PySem.W.keepIn K (.ref f)=true):Fun K x qual st f (PySem.W.fnOf x qual (J1g st) (J18 st) (Jf st) .none kV doc pm an cdv ct):=⟨⟨oc,od,kV,doc,pm,an,cdv,ct,osl,rfl,l,c⟩,k⟩
end
theorem J7W {A:Around}{k:Nat}(hr:Room k A):A.units+1<cLine:=Nat.lt_of_le_of_lt (Nat.add_le_add_left (by decide:1<=64) _) hr.units
def Same (H H':Hp):Prop:=∀ b o,H b=some o->H' b=some o
theorem Same.refl (H:Hp):Same H H:=fun _ _ h=>h
theorem Same.trans {H H1 H2:Hp}(a:Same H H1)(b:Same H1 H2):Same H H2:=fun c o h=>b c o (a c o h)
theorem Same.free {H H':Hp}(e:Same H H'){l:Addr}(h:H' l=Option.none):H l=Option.none:=by
 cases q:H l with
 | none=>rfl
 | some o =>
   rw [e l o q] at h;cases h
theorem Same.seq {K:Frag}{H H':Hp}{a:Addr}{xs:List V}(e:Same H H')(h:SqL K H a xs):SqL K H' a xs:=by
 rcases h with (h | ⟨o,h⟩) | h
 ·exact .inl (.inl (e _ _ h))
 ·exact .inl (.inr ⟨o,e _ _ h⟩)
 ·exact .inr h
abbrev Jb3 (ifs:List Expr)(env:Env):Sem Bool :=
 forIn ifs true fun c r=>if r=true then do let ok <- isTrue c env (eval c env);pure (ForInStep.yield ok) else pure (ForInStep.yield r)
theorem J6r {prog:Program}{w:World}{A:Around}{R:Result->Shared->Prop}{s:Shared}{elt tg iter:Expr}{ifs:List Expr}{scope:Scope}{pos:Pos}{it acc:Value}{env:Env}(I:Nat->Shared->Prop)
 (turn : ∀ n s,I n s->wpAny (model prog w) A (pyNext it) (fun r s1=>match r with
  | none=>R (.ok .next) s1
  | some v=>wpAny (model prog w) A (letOwnedTupleGo tg it v) (fun _ s2=>wpAny (model prog w) A (assign tg env v) (fun _ s3=>wpAny (model prog w) A (Jb3 ifs env) (fun ok s4 =>
   if ok=true then wpAny (model prog w) A (eval elt env) (fun x s5=>wpAny (model prog w) A (call (.builtin "list.append") [acc,x]) (fun _ s6=>∃ m,m<n/\I m s6) (fun _ _=>False) s5) (fun _ _=>False) s4
   else ∃ m,m<n/\I m s4) (fun _ _=>False) s3) (fun _ _=>False) s2) (fun _ _=>False) s1) (fun _ _=>False) s)
 (n:Nat) (h:I n s):codeAny (model prog w) A (.compLoop (.ListComp elt [⟨tg,iter,ifs,0⟩] scope pos) 0 it acc env) R s:=by
 refine codeAny_loop rfl I (fun n s hI=>?_) n h;show wpAny _ A ((compTurn (.ListComp elt [⟨tg,iter,ifs,0⟩] scope pos) 0 it acc env).onRaise (fun x=>do noteFrame x env;theTreesLotGoes x)) _ _ s;refine wpAny_noted (wpAny_noRaise ?_);rw [compTurn_list];refine yf (wpAny_standAt (yf (thn (turn n s hI) fun r s1 h1=>?_)));cases r with
 | none=>exact yg h1
 | some v =>
   refine yf (thn h1 fun _ s2 h2=>yf (thn h2 fun _ s3 h3=>yf (thn h3 fun ok s4 h4=>?_)));cases ok with
   | false=>exact yg ⟨rfl,h4⟩
   | true=>exact yf (yf (thn h4 fun x s5 h5=>yf (thn h5 fun _ s6 h6=>yg (yg ⟨rfl,h6⟩))))
theorem closure_go (env:Env):∀ (names:List (Str×NameKind)) (cs:List (Str×Addr)),(∀ n,(n,NameKind.free)∈names->∃ c,env.cells.lookup n=some c)->(∀ n c,cs.lookup n=some c->env.cells.lookup n=some c) ->
 ∃ cl,(forIn names cs fun (p:Str×NameKind) (r:List (Str×Addr))=>(if p.2 == NameKind.free then do let c <- cellOf env p.1;pure (ForInStep.yield ((p.1,c)::r)) else pure (ForInStep.yield r):Sem (ForInStep (List (Str×Addr)))))=pure cl /\
   (∀ n c,cl.lookup n=some c->env.cells.lookup n=some c)/\(∀ n,((n,NameKind.free)∈names\/∃ c,cs.lookup n=some c)->∃ c,cl.lookup n=some c)
 | [],cs,_,hcs=>⟨cs,rfl,hcs,fun n h=>h.elim (fun z=>nomatch z) id⟩
 | (m,k)::r,cs,hn,hcs=>by
   cases hk:k == NameKind.free with
   | false =>
     obtain ⟨cl,e,h1,h2⟩:=closure_go env r cs (fun n z=>hn n (yJ _ z)) hcs;refine ⟨cl,?_,h1,fun n z=>h2 n ?_⟩
     ·rw [forIn_cons];simp only [hk];exact e
     ·rcases z with z | z
      ·rcases yL.mp z with q | q
       ·cases q;simp at hk
       ·exact .inl q
      ·exact .inr z
   | true =>
     have ek:k=NameKind.free:=by simpa using hk
     subst ek;obtain ⟨c,hc⟩:=hn m yK;obtain ⟨cl,e,h1,h2⟩:=closure_go env r ((m,c)::cs) (fun n z=>hn n (yJ _ z)) (fun n c' z=>by
      by_cases q:n=m
      ·subst q;simp [lookup_cons] at z;subst z;exact hc
      ·rw [lookup_cons,beq_eq_false_iff_ne.mpr q] at z;exact hcs n c' z)
     refine ⟨cl,?_,h1,fun n z=>h2 n ?_⟩
     ·rw [forIn_cons];simp only [cellOf,hc];exact e
     ·rcases z with z | ⟨c',z⟩
      ·rcases yL.mp z with q | q
       ·cases q;exact .inr ⟨c,by simp [lookup_cons]⟩
       ·exact .inl q
      ·by_cases q:n=m
       ·subst q;exact .inr ⟨c,by simp [lookup_cons]⟩
       ·exact .inr ⟨c',by rw [lookup_cons,beq_eq_false_iff_ne.mpr q];exact z⟩
theorem J5O {scope:Scope}{env:Env}(hn:∀ n,(n,NameKind.free)∈scope.names->∃ c,env.cells.lookup n=some c) :
 ∃ cl,closureFor scope env=pure cl/\(∀ n c,cl.lookup n=some c->env.cells.lookup n=some c)/\(∀ n,(n,NameKind.free)∈scope.names->∃ c,cl.lookup n=some c):=by
 obtain ⟨cl,e,h1,h2⟩:=closure_go env scope.names [] hn (fun _ _ z=>nomatch z);refine ⟨cl,?_,h1,fun n z=>h2 n (.inl z)⟩;unfold closureFor;simp only [bind_pure];exact e
def Jn (names onames:List (Str×NameKind)):List (Str×NameKind) :=
 names.map fun (n,k)=>if (k == .free&&onames.lookup n == some .cell) then (n,.cell) else (n,k)
def JbV (sc osc:Scope)(N rest:List Str):Bool :=
 (sc.kind == .function&&osc.kind == .function&&sc.names.all fun y=>y.2 != .cell&&(y.2 != .local||sc.names.lookup y.1 == some .local)&&(y.2 != .free||osc.names.lookup y.1 == some .cell||osc.names.lookup y.1 == some .free))
 && N.length == rest.length&&(N.zip rest).all fun p=>match (Jn sc.names osc.names).lookup p.2 with
  | some .local=>false
  | some .cell=>p.1 == p.2&&(p.2,NameKind.free)∈sc.names&&(osc.names.lookup p.2 == some .cell||osc.names.lookup p.2 == some .free)
  | some .free=>p.1 == p.2&&(p.2,NameKind.free)∈sc.names&&(osc.names.lookup p.2 == some .cell||osc.names.lookup p.2 == some .free)
  | _=>true
structure CompSc (sc osc:Scope)(N rest:List Str):Prop where
 kind:sc.kind=.function
 okind:osc.kind=.function
 cell:∀ y∈sc.names,y.2≠.cell
 loc:∀ y∈sc.names,y.2=.local->sc.names.lookup y.1=some .local
 free:∀ n,(n,NameKind.free)∈sc.names->osc.names.lookup n=some .cell\/osc.names.lookup n=some .free
 len:N.length=rest.length
 look:∀ (i:Nat) x,rest[i]?=some x->((Jn sc.names osc.names).lookup x=some .local\/(Jn sc.names osc.names).lookup x=some .cell\/(Jn sc.names osc.names).lookup x=some .free) ->
  N[i]?=some x/\(x,NameKind.free)∈sc.names/\(osc.names.lookup x=some .cell\/osc.names.lookup x=some .free)/\((Jn sc.names osc.names).lookup x=some .cell\/(Jn sc.names osc.names).lookup x=some .free)
theorem Jr {sc osc:Scope}{N rest:List Str}(h:JbV sc osc N rest=true):CompSc sc osc N rest:=by
 unfold JbV at h;simp only [Bool.and_eq_true,beq_iff_eq,all_eq_true] at h;obtain ⟨⟨⟨⟨hk,hok⟩,hy⟩,hl⟩,hz⟩:=h;refine ⟨hk,hok,fun y z e=>?_,fun y z e=>?_,fun n z=>?_,hl,fun i x e v=>?_⟩
 ·have:=(hy y z).1.1;rw [e] at this;simp at this
 ·have:=(hy y z).1.2;rw [e] at this;simpa using this
 ·have:=(hy _ z).2;simpa using this
 ·have hi:i<rest.length:=(yB.mp e).1
  have hi':i<N.length:=by omega
  have hN:N[i]?=some N[i]:=yA hi';have hm:(N[i],x)∈N.zip rest:=by
   refine yG (i:=i) ?_;rw [List.getElem?_zip_eq_some];exact ⟨hN,e⟩
  have q:=hz _ hm;dsimp only at q;rcases v with v | v | v
  ·rw [v] at q;simp at q
  ·rw [v] at q;simp only [Bool.and_eq_true,beq_iff_eq,Bool.or_eq_true,decide_eq_true_eq] at q
   obtain ⟨⟨q1,q2⟩,q3⟩:=q;exact ⟨by rw [hN,q1],q2,q3,.inl v⟩
  ·rw [v] at q;simp only [Bool.and_eq_true,beq_iff_eq,Bool.or_eq_true,decide_eq_true_eq] at q
   obtain ⟨⟨q1,q2⟩,q3⟩:=q;exact ⟨by rw [hN,q1],q2,q3,.inr v⟩
theorem J0o {sc:Scope}{env:Env}(hk:env.scope.kind=.function):(relabel sc env).names=Jn sc.names env.scope.names:=by
 unfold relabel Jn Env.kindOf;simp [hk]
theorem Jb4 {names onames:List (Str×NameKind)}(hc:∀ y∈names,y.2≠.cell){x:Str}(h:(Jn names onames).lookup x=some .cell\/(Jn names onames).lookup x=some .free):(x,NameKind.free)∈names:=by
 have hm:(x,NameKind.cell)∈Jn names onames\/(x,NameKind.free)∈Jn names onames:=h.imp PySem.mem_of_lookup PySem.mem_of_lookup;rcases hm with hm | hm
 ·obtain ⟨⟨n,k⟩,hn,e⟩:=yU.mp hm
  dsimp only at e
  split at e
  ·rename_i hh;cases e;simp at hh;obtain ⟨rfl,_⟩:=hh;exact hn
  ·cases e;exact absurd rfl (hc _ hn)
 ·obtain ⟨⟨n,k⟩,hn,e⟩:=yU.mp hm
  dsimp only at e
  split at e
  ·cases e
  ·cases e;exact hn
def J03 (X:Cx)(scope:Scope)(N':List Str)(cl:List (Str×Addr))(s2:Shared)(H2:Hp)(C:Addr)(fp:List Addr):Cx :=
 { X with N:=N',s₀:=s2,H₀:=H2,env:=compEnvC scope cl C X.env,outer:=X.stack,stack:=X.stack,ex:=fp,fn:=fun _=>false,pn:=[],xe:=fun _ _=>False }
section
variable {X:Cx}{pins:List (Addr×Obj)}{σ:St}{H2:Hp}{s2:Shared}{scope:Scope}{own rest:List Str}{cl:List (Str×Addr)}{fp:List Addr}{C:Addr}
theorem Jat (I:Inv X pins σ H2 s2)(S:CompSc scope X.env.scope X.N rest)(h1:∀ n c,cl.lookup n=some c->X.env.cells.lookup n=some c)(h2:∀ n,(n,NameKind.free)∈scope.names->∃ c,cl.lookup n=some c)
 (hC:s2.heap.objs.size<=C) (hf:∀ b∈fp,J1M X pins H2 b) (ho:∀ b∈fp,∃ o,s2.heap.get? b=some o):(J03 X scope (own++rest) cl s2 H2 C fp).Ok where
 mod:=I.ok.mod
 kind:=S.kind
 glob:=I.ok.glob
 blt:=I.ok.blt
 above:=hC
 inj:=fun x y c e1 e2=>I.ok.inj x y c (h1 x c e1) (h1 y c e2)
 has:=fun x hx=>h2 x (Jb4 S.cell (by
  have e:(J03 X scope (own++rest) cl s2 H2 C fp).env.kindOf x=(Jn scope.names X.env.scope.names).lookup x:=congrArg (List.lookup x) (J0o (sc:=scope) I.ok.kind);rw [e] at hx;exact hx))
 cab:=fun _ _ z=>nomatch z
 hd:=I.ok.hd
 frames:=I.ok.frames
 stk:=.inl rfl
 exf:=fun b hb=>by
  obtain ⟨o,e⟩:=ho b hb;exact ⟨yr (yv (y7 e) hC),fun x c e=>(hf b hb).2.2.2.2.1 x c (h1 x c e)⟩
 bs:=I.bs
 bsz:=yx I.ok.bsz I.sz
 noex:=fun b o e hb=>by
  rcases (hf b hb).2.2.2.1 with z | z
  ·exact I.ok.noex b o e z
  ·exact absurd (yv (y7 e) (yx I.ok.bsz z)) (Nat.lt_irrefl _)
 exfs:=fun b hb z=>by
  rcases yL.mp (I.stkSub b z) with q | q
  ·exact (hf b hb).2.1 q
  ·exact (hf b hb).2.2.1 q
 funs:=I.stack
 frf:=I.stkFree
theorem comp_start {h1:Heap}{t1:Nat}(I:Inv X pins σ H2 s2)(S:CompSc scope X.env.scope X.N rest)(hc1:∀ n c,cl.lookup n=some c->X.env.cells.lookup n=some c)(hc2:∀ n,(n,NameKind.free)∈scope.names->∃ c,cl.lookup n=some c)
 (hC:s2.heap.objs.size<=C) (hf:∀ b∈fp,J1M X pins H2 b) (ho:∀ b∈fp,∃ o,s2.heap.get? b=some o)
 (old:∀ b o,s2.heap.get? b=some o->h1.get? b=some o) (ns:h1.Ns C fun _=>none) :
 Inv (J03 X scope (own++rest) cl s2 H2 C fp) [] (List.replicate own.length none++σ) H2 { s2 with heap:=h1,toks:=t1 }:=by
 obtain ⟨m,hn,hl⟩:=id I.loc;have hv:∀ x,Vis (J03 X scope (own++rest) cl s2 H2 C fp).env.scope x->((Jn scope.names X.env.scope.names).lookup x=some .local\/(Jn scope.names X.env.scope.names).lookup x=some .cell\/(Jn scope.names X.env.scope.names).lookup x=some .free):=fun x z=>by
  have e:(J03 X scope (own++rest) cl s2 H2 C fp).env.scope.names=Jn scope.names X.env.scope.names:=J0o (sc:=scope) I.ok.kind;unfold Vis at z;rw [e] at z;exact z
 refine ⟨Jat I S hc1 hc2 hC hf ho,rfl,I.bare,Un.kept old,⟨_,ns,fun i x v e1 e2 e3=>?_⟩,fun x c e=>?_,I.hok.fresh hC,fun x c e=>I.freeC x c (hc1 x c e),fun p hp=>absurd (show p∈([]:List (Addr×Obj)) from hp) (by simp),I.hok.kept old,?_⟩
 ·have e1':(own++rest)[i]?=some x:=e1
  by_cases hi:i<own.length
  ·rw [yW (by simpa using hi),List.getElem?_replicate] at e2
   split at e2<;>cases e2
  ·have hi':own.length<=i:=Nat.le_of_not_lt hi
   rw [yV (by simpa using hi'),yZ] at e2;rw [yV hi'] at e1';obtain ⟨q1,q2,q3,q4⟩:=S.look _ x e1' (hv x e3);obtain ⟨u,r,l⟩:=hl (i - own.length) x v q1 e2 (q3.elim (fun z=>.inr (.inl z)) fun z=>.inr (.inr z));refine ⟨u,r,.inr ⟨?_,?_⟩⟩
   ·have e:(J03 X scope (own++rest) cl s2 H2 C fp).env.kindOf x=(Jn scope.names X.env.scope.names).lookup x:=congrArg (List.lookup x) (J0o (sc:=scope) I.ok.kind)
    rw [e];exact q4
   ·rcases l with ⟨k,_⟩ | ⟨_,c,e,z⟩
    ·have k':X.env.scope.names.lookup x=some .local:=k
     rcases q3 with q3 | q3<;>(rw [q3] at k';cases k')
    ·obtain ⟨c',e'⟩:=hc2 x q2
     have e2:=hc1 x c' e';rw [e] at e2;cases e2;obtain ⟨o,q,d⟩:=z;exact ⟨c,e',o,old c o q,d⟩
 ·obtain ⟨v,o,q,d⟩:=I.cell x c (hc1 x c e)
  exact ⟨v,o,old c o q,d⟩
 ·show _=(own++rest).length
  have:=I.len;have:=S.len;simp only [yH,yZ];omega
theorem JbU {H':Hp}{s':Shared}{σ':St}{D:Addr}{ys:List V}{its:List Value}{n:Nat}{pins':List (Addr×Obj)}(I:Inv X pins σ H2 s2)(J:Inv (J03 X scope (own++rest) cl s2 H2 C fp) pins' σ' H' s')(hf:∀ b∈fp,J1M X pins H2 b)
 (hD:s2.heap.objs.size<=D) (hDn:H' D=none) (hDo:s'.heap.get? D=some { cls:=.type "list",data:=.seq its.toArray n }) (r:Vals ys its) (hz:ys.length<=sizeLine) :
 Inv X pins σ (upd H' D (.lst ys)) s':=by
 have u:Un (frs X.stack) fp H2 H' s2.heap s'.heap:=J.base;have nD:∀ b o,s2.heap.get? b=some o->b≠D:=fun b o e=>yr (yv (y7 e) hD);refine I.call' (ch:=fp) J.os ⟨u.keep,u.slot,fun b o e n hx=>?_,u.there,fun b xs e=>?_,fun b o v e=>?_,fun b ps e=>?_⟩ (fun b o e=>?_) J.bare fun b hb=>?_
 ·rw [Jd (nD b o e)];exact u.free b o e n hx
 ·rw [Jd (Jh (u.tups b xs e) hDn)];exact u.tups b xs e
 ·rw [Jd (Jh (u.frzs b o v e) hDn)];exact u.frzs b o v e
 ·obtain ⟨more,q⟩:=u.tbls b ps e
  exact ⟨more,by rw [Jd (Jh q hDn)];exact q⟩
 ·by_cases hb:b=D
  ·subst hb;rw [J1] at e;cases e;exact ⟨hz,its,n,r,hDo⟩
  ·rw [Jd hb] at e
   exact (J.hok b o e).stay (fun c v _ q=>q) (fun c q=>by rw [Jd (Jh q hDn)];exact q) fun c xs q=>by rw [Jd (Jh q hDn)];exact q
 ·obtain ⟨_,f1,_,f3,f4,f5⟩:=hf b hb
  exact ⟨f3,f1,f4,f5⟩
end
def PTs (X:Cx)(ifs:List Expr)(t:TT):Prop :=
 ∀ (pins:List (Addr×Obj)) (s:Shared) (σ:St) (H:Hp) (Q:Bool->Hp->Prop),Inv X pins σ H s->t σ H Q->wpAny (model X.prog X.w) X.A (Jb3 ifs X.env) (TP X pins σ Q) X.xe s
def J9R:TT:=fun _ H Q=>Q true H
theorem JR {X:Cx}:PTs X [] J9R:=fun _ _ _ H _ I h=>wpAny_tests_nil ⟨H,I,h⟩
theorem J2S {X:Cx}{c:Expr}{t:TT}(h:PT X c t):PTs X [c] t:=fun pins s σ H Q I q=>wpAny_tests_one (h pins s σ H Q I q)
def J4r (J:It)(g:TG)(tt:TT)(te:TE)(fin:List V->Hp->Prop)(σ0:St)(H1:Hp):Prop :=
 ∃ W : Nat->Nat->List V->St->Hp->Prop,(∃ m,W 0 m [] σ0 H1)/\∀ i m ys σ H,W i m ys σ H ->
   (J.stop i H/\fin ys H)\/(J.go i H/\ys.length<sizeLine/\∃ N:List V->St->Hp->Prop,(∀ ys' σ' H',N ys' σ' H'->∃ m',m'<m/\W (i+1) m' ys' σ' H') /\
    ∀ x H',J.yld i H x H'->g x σ H' fun σ2 H2=>tt σ2 H2 fun b H3=>if b=true then te σ2 H3 fun y H4=>N (ys++[y]) σ2 H4 else N ys σ2 H3)
section
variable {X:Cx}{pins:List (Addr×Obj)}{σ:St}{H2:Hp}{s2:Shared}{scope:Scope}{own rest:List Str}{cl:List (Str×Addr)}{fp:List Addr}{E:Value->Shared->Prop}
theorem comp_run {elt tg iter:Expr}{ifs:List Expr}{pos:Pos}{J:It}{it:Addr}{tn:Nat->Heap->Prop}{g:TG}{tt:TT}{te:TE}{fin:List V->Hp->Prop}{RR:Value->Addr->Result->Shared->Prop}{D:Nat}(hD:s2.heap.objs.size=D)(hcalm:X.calm=true)
 (I:Inv X pins σ H2 s2) (S:CompSc scope X.env.scope X.N rest) (hc1:∀ n c,cl.lookup n=some c->X.env.cells.lookup n=some c) (hc2:∀ n,(n,NameKind.free)∈scope.names->∃ c,cl.lookup n=some c)
 (T:Turn X.prog X.w X.K tg J fp it tn) (st:tn 0 s2.heap) (hf:∀ b∈fp,J1M X pins H2 b)
 (hg:PG (J03 X scope (own++rest) cl s2 H2 (D+1:Nat) fp) tg g) (ht:PTs (J03 X scope (own++rest) cl s2 H2 (D+1:Nat) fp) ifs tt)
 (he:PE (J03 X scope (own++rest) cl s2 H2 (D+1:Nat) fp) elt te)
 (hw:J4r J g tt te fin (List.replicate own.length none++σ) H2)
 (hR:∀ (s':Shared) (H':Hp) (ys:List V),Inv X pins σ (upd H' D (.lst ys)) s'->(∃ m,s'.heap.Ns (D+1:Nat) m)->H' D=none->H' (D+1:Nat)=none->fin ys H'->RR (.ref D) (D+1:Nat) (.ok .next) s') :
 wpAny (model X.prog X.w) X.A (newList []) (fun acc s3=>wpAny (model X.prog X.w) X.A (newFunctionEnv scope X.env.globals cl [] X.env.qual none .none (some X.env)) (fun cenv s4 =>
  codeAny (model X.prog X.w) X.A (.compStart (.ListComp elt [⟨tg,iter,ifs,0⟩] scope pos) 0 (.ref it) acc { cenv with scope:=relabel scope X.env }) (RR acc cenv.locals) s4) E s3) E s2:=by
 refine wpAny_newObj_type (wpAny_newFunctionEnv S.cell (by intro y hy;simp at hy) (fun h1 hns hsb=>?_) S.kind);dsimp only at hns hsb ⊢;generalize hHp:s2.heap.push { cls:=.type "list",dict:=none,data:=.seq ([]:List Value).toArray }=Hp2 at hns hsb ⊢;have hC:Hp2.objs.size=s2.heap.objs.size+1:=by rw [<- hHp,Heap.size_push]
 rw [hD] at hC;rw [hC] at hns hsb ⊢;rw [hD];have nDC:D≠D+1:=yr (Nat.lt_succ_self _);have below:∀ b o,s2.heap.get? b=some o->b<D:=fun b o e=>by rw [<- hD];exact y7 e
 have old:∀ b o,s2.heap.get? b=some o->h1.get? b=some o:=fun b o e=>by
  exact hsb.extBut b o (yr (Nat.lt_succ_of_lt (below b o e))) (y4 _ (hHp ▸ y4 _ e))
 have hDo:h1.get? D=some { cls:=.type "list",data:=.seq ([]:List Value).toArray 0 } :=
  hsb.extBut _ _ nDC (y4 _ (by rw [<- hHp,<- hD];exact y6 _ rfl))
 have hfo:∀ b∈fp,∃ o,s2.heap.get? b=some o:=fun b hb=>let ⟨o,e,_⟩:=T.obj 0 _ st b hb;⟨o,e⟩;have st1:tn 0 h1:=T.keep _ _ _ st fun b hb o e=>old b o e;have J0:Inv (J03 X scope (own++rest) cl s2 H2 (D+1:Nat) fp) [] (List.replicate own.length none++σ) H2 { s2 with heap:=h1,toks:=s2.toks } :=
  comp_start I S hc1 hc2 (by omega) hf hfo old hns
 have nfs:D∉(J03 X scope (own++rest) cl s2 H2 (D+1:Nat) fp).fs:=fun z=>by
  have z':D∈frs X.stack:=z;rcases yL.mp (I.stkSub D z') with q | q
  ·exact Nat.lt_irrefl D (by have h:=I.lt;rw [<- q,hD] at h;exact h)
  ·exact I.nofs (Nat.le_of_eq hD) q
 have ncl:∀ x c,(J03 X scope (own++rest) cl s2 H2 (D+1:Nat) fp).env.cells.lookup x=some c->c≠D:=fun x c e z=>by
  obtain ⟨v,o,q,d⟩:=I.cell x c (hc1 x c e);exact yr (below c o q) z
 have loop:∀ s3:Shared,s3={ s2 with heap:=h1,toks:=s2.toks } ->
  codeAny (model X.prog X.w) X.A (.compLoop (.ListComp elt [⟨tg,iter,ifs,0⟩] scope pos) 0 (.ref it) (.ref D) (compEnvC scope cl (D+1) X.env)) (RR (.ref D) (D+1)) s3:=by
  rintro s3 rfl;obtain ⟨W,⟨m0,w0⟩,turn⟩:=hw;refine J6r (fun m s'=>∃ (i:Nat) (ys:List V) (its:List Value) (n:Nat) (σ':St) (H':Hp),Inv (J03 X scope (own++rest) cl s2 H2 (D+1:Nat) fp) [] σ' H' s'/\tn i s'.heap/\(∀ b∈fp,H' b=none) /\
   s'.heap.get? D=some { cls:=.type "list",data:=.seq its.toArray n }/\H' D=none/\Vals ys its/\ys.length<=sizeLine/\W i m ys σ' H') ?_ m0
   ⟨0,[],[],0,_,H2,J0,st1,fun b hb=>(hf b hb).1,hDo,by rw [<- hD];exact I.fresh,.nil,by simp,w0⟩
  rintro m s3 ⟨i,ys,its,n,σ3,H3,J3,st3,fr3,ho3,hn3,r3,z3,w3⟩;have pin:∀ {σ':St} {H':Hp} {s':Shared},Inv (J03 X scope (own++rest) cl s2 H2 (D+1:Nat) fp) [] σ' H' s'->s'.heap.get? D=some { cls:=.type "list",data:=.seq its.toArray n }->H' D=none ->
   Inv (J03 X scope (own++rest) cl s2 H2 (D+1:Nat) fp) [(D,{ cls:=.type "list",data:=.seq its.toArray n })] σ' H' s':=fun {σ' H' s'} K1 K2 K3 =>
   K1.pins_of fun p hp=>by
    have e:p=(D,{ cls:=.type "list",data:=.seq its.toArray n }):=by simpa using hp
    subst e;exact ⟨K2,K3,nDC,nfs,fun v z=>nomatch z⟩
  have fpk:∀ {H':Hp},(∀ b∈fp,H' b=none)->∀ b∈fp,J1M (J03 X scope (own++rest) cl s2 H2 (D+1:Nat) fp) [(D,{ cls:=.type "list",data:=.seq its.toArray n })] H' b:=fun {H'} fr b hb=>by
   obtain ⟨o,e⟩:=hfo b hb;have lt:=below b o e;refine ⟨fr b hb,yr (Nat.lt_succ_of_lt lt),?_,.inl hb,fun x c q=>(hf b hb).2.2.2.2.1 x c (hc1 x c q),fun p hp=>?_⟩
   ·intro z
    have z':b∈frs X.stack:=z;rcases yL.mp (I.stkSub b z') with q | q
    ·exact (hf b hb).2.1 q
    ·exact (hf b hb).2.2.1 q
   ·have e:p=(D,{ cls:=.type "list",data:=.seq its.toArray n }):=by
     have hp':p∈[(D,({ cls:=.type "list",data:=.seq its.toArray n }:Obj))]:=hp;simpa using hp'
    subst e;exact Nat.ne_of_gt lt
  have J3p:=pin J3 ho3 hn3;rcases turn i m ys σ3 H3 w3 with ⟨stop,q⟩ | ⟨go,hlt,N,hN,step⟩
  ·refine thn (T.done (J03 X scope (own++rest) cl s2 H2 (D+1:Nat) fp) rfl rfl rfl hcalm i _ s3 σ3 H3 _ J3p (fpk fr3) st3 stop) fun r s4 ⟨hr,J4⟩=>?_
   subst hr;have ho4:=J4.pin _ (yR _ yK);refine hR s4 H3 ys (JbU I J4 hf (by omega) hn3 ho4.1 r3 z3) ?_ hn3 J4.free q;obtain ⟨mm,hmm,_⟩:=J4.loc;exact ⟨mm,hmm⟩
  ·refine thn (T.item (J03 X scope (own++rest) cl s2 H2 (D+1:Nat) fp) rfl rfl rfl hcalm i _ s3 σ3 H3 _ J3p (fpk fr3) st3 go) fun r s4 ⟨u,hr,h4⟩=>?_
   subst hr;refine thn h4 fun _ s5 ⟨x,H5,J5,r5,y5,st5,fr5⟩=>?_;have J5':=J5.pinned (fpk fr5) (T.obj _ _ st5);refine thn (hg _ s5 σ3 H5 x u _ J5' r5 (step x H5 y5)) fun _ s6 ⟨σ6,H6,J6,q6⟩=>?_;refine thn (ht _ s6 σ6 H6 _ J6 q6) fun b s7 ⟨H7,J7,q7⟩=>?_;have stay:∀ {σ':St} {H':Hp} {s':Shared},Inv (J03 X scope (own++rest) cl s2 H2 (D+1:Nat) fp) ([(D,{ cls:=.type "list",data:=.seq its.toArray n })]++J44 fp s5.heap) σ' H' s' ->
    Inv (J03 X scope (own++rest) cl s2 H2 (D+1:Nat) fp) [] σ' H' s'/\tn (i+1) s'.heap/\(∀ b∈fp,H' b=none)/\s'.heap.get? D=some { cls:=.type "list",data:=.seq its.toArray n }/\H' D=none:=fun {σ' H' s'} K1=>by
    refine ⟨K1.pins_of fun p hp=>absurd hp (by simp),T.keep _ _ _ st5 fun b hb o e=>(K1.pin (b,o) (yR _ (yR _ (J1b hb e)))).1,fun b hb=>?_,?_,?_⟩
    ·obtain ⟨o,e,d⟩:=T.obj _ _ st5 b hb
     exact (K1.pin (b,o) (yR _ (yR _ (J1b hb e)))).2.1
    ·exact (K1.pin (D,_) (yR _ (yS _ yK))).1
    ·exact (K1.pin (D,_) (yR _ (yS _ yK))).2.1
   cases b with
   | false =>
     rw [yh yk] at q7 ⊢;obtain ⟨k1,k2,k3,k4,k5⟩:=stay J7;obtain ⟨m',hm,w'⟩:=hN _ _ _ q7;exact ⟨m',hm,i+1,ys,its,n,σ6,H7,k1,k2,k3,k4,k5,r3,z3,w'⟩
   | true =>
     rw [yi rfl] at q7 ⊢;refine thn (he _ s7 σ6 H7 _ J7 q7) fun xv s8 ⟨y,H8,J8,r8,q8⟩=>?_;obtain ⟨k1,k2,k3,k4,k5⟩:=stay J8;refine call_meets F.slot_list_append ⟨_,k4,rfl⟩ F.entry_list_append (F.args_list_append_2 _ _) (PySem.list_append D its.toArray n xv (by rw [yE,<- r3.length];omega)) ⟨k4,?_⟩;obtain ⟨m',hm,w'⟩:=hN _ _ _ q8;have ho9:=PySem.IsL.update k4 (fun a=>a.push xv);have ek:∀ b o,b≠D->s8.heap.get? b=some o->(s8.heap.update D (Obj.mapSeq (fun a=>a.push xv))).get? b=some o:=fun b o hb e=>(y8 s8.heap (Obj.mapSeq _) (Ne.symm hb)).trans e;refine ⟨m',hm,i+1,ys++[y],its++[xv],(if ((its.toArray.push xv).size == its.toArray.size)=true then n else n+1),σ6,H8,k1.turned (it:=D) (t':=s8.toks) ek k5 nDC (.inr (show s2.heap.objs.size<=D by omega)) ncl (fun p hp=>absurd (show p∈([]:List (Addr×Obj)) from hp) (by simp)),?_,k3,?_,k5,r3.append (.cons r8 .nil),?_,w'⟩
     ·refine T.keep _ _ _ k2 fun b hb o e=>ek b o ?_ e
      obtain ⟨o',e'⟩:=hfo b hb;exact yr (below b o' e')
     ·have e2:its.toArray.push xv=(its++[xv]).toArray:=by simp
      rw [<- e2];exact ho9
     ·simp only [yH,length_cons,length_nil];omega
 exact codeAny_compStart_list (loop _ rfl) (T.self X.A 0 _ _ _ st1 (loop _ rfl))
end
def J7n (k:Nat)(wi:TI)(g:TG)(tt:TT)(te:TE):TE:=fun σ H Q=>wi σ H fun J H1=>J4r J g tt te (fun ys H'=>∀ D,H' D=none->Q (.ref D) (upd H' D (.lst ys))) (List.replicate k none++σ) H1
section
variable {X:Cx}{elt tg iter:Expr}{ifs:List Expr}{scope:Scope}{pos:Pos}{wi:TI}{g:TG}{tt:TT}{te:TE}
theorem Inv.closed {pins:List (Addr×Obj)}{σ:St}{H:Hp}{s:Shared}{N rest:List Str}(I:Inv X pins σ H s)(S:CompSc scope X.env.scope N rest) :
 ∃ cl,closureFor scope X.env=pure cl/\(∀ n c,cl.lookup n=some c->X.env.cells.lookup n=some c)/\(∀ n,(n,NameKind.free)∈scope.names->∃ c,cl.lookup n=some c) :=
 J5O fun n z=>I.ok.has n (S.free n z)
theorem Inv.letgo {pins pins':List (Addr×Obj)}{σ σ':St}{H H':Hp}{s s':Shared}{b:Addr}{h':Heap}(I:Inv X pins σ H s)(J:Inv X pins σ' H' s')(hb:s.heap.objs.size<=b)(hn:H' b=none)(sb:Heap.SameBut b s'.heap h'):Inv X pins σ' H' { s' with heap:=h' }:=by
 obtain ⟨f0,f1,f2,f3,f4,f5⟩:=I.fpOk hb hn;exact J.turned (t':=s'.toks) (fun c o hc e=>(sb.2 c hc).trans e) f0 f1 f3 f4 f5
theorem JY (own rest:List Str)(hcalm:X.calm=true)(S:CompSc scope X.env.scope X.N rest)(hi:PI X tg iter wi)
 (hg:∀ cl s2 H2 C fp,PG (J03 X scope (own++rest) cl s2 H2 C fp) tg g) (ht:∀ cl s2 H2 C fp,PTs (J03 X scope (own++rest) cl s2 H2 C fp) ifs tt) (he:∀ cl s2 H2 C fp,PE (J03 X scope (own++rest) cl s2 H2 C fp) elt te)
 (hs:∀ x,foldedSetIterable iter X.env x=pure x:=by intro _;rfl):PE X (.ListComp elt [⟨tg,iter,ifs,0⟩] scope pos) (J7n own.length wi g tt te):=by
 intro pins s σ H Q I h;obtain ⟨cl,hcl,hc1,hc2⟩:=I.closed S;rw [eval_ListComp];refine wpAny_comprehension_free (use:=none) rfl hs hcl S.kind S.loc (thn (hi pins s σ H _ I h) fun v s1 h1=>thn h1 fun itv s2 h2=>?_);obtain ⟨it,fp,tn,J,H2,e,I2,T,st,hf,hw⟩:=h2;subst e;refine comp_run (RR:=fun acc C=>compPost (model X.prog X.w) X.A X.xe none (EP X pins σ Q) acc C) (D:=s2.heap.objs.size) rfl hcalm I2 S hc1 hc2 T st hf (hg _ _ _ _ _) (ht _ _ _ _ _) (he _ _ _ _ _) hw ?_;intro s' H' ys J' ⟨m,hm⟩ hD hC q;refine ⟨m,hm,fun h' sb=>⟨.ref s2.heap.objs.size,_,I2.letgo (pins':=pins) (b:=(s2.heap.objs.size+1:Nat)) J' (Nat.le_succ _) ?_ sb,rfl,q _ hD⟩⟩;rw [Jd (Nat.ne_of_gt (Nat.lt_succ_self _))];exact hC
theorem J2T {i:Nat}{y:Str}{py spos:Pos}(own rest:List Str)(hcalm:X.calm=true)(S:CompSc scope X.env.scope X.N rest)(hN:X.N.Nodup)(hy:X.N[i]?=some y)(hl:X.env.scope.names.lookup y=some .local)(hi:PI X tg iter wi)
 (hg:∀ cl s2 H2 C fp,PG (J03 X scope (own++rest) cl s2 H2 C fp) tg g) (ht:∀ cl s2 H2 C fp,PTs (J03 X scope (own++rest) cl s2 H2 C fp) ifs tt) (he:∀ cl s2 H2 C fp,PE (J03 X scope (own++rest) cl s2 H2 C fp) elt te)
 (hsw:swapsWith (.ListComp elt [⟨tg,iter,ifs,0⟩] scope pos) (some (.Name y py)) spos.line X.env=pure true:=by rfl)
 (hs:∀ x,foldedSetIterable iter X.env x=pure x:=by intro _;rfl):PS X (.Assign [.Name y py] (.ListComp elt [⟨tg,iter,ifs,0⟩] scope pos) spos) (J2q (J7n own.length wi g tt te) (J01 i)):=by
 intro pins s σ H D I h;obtain ⟨cl,hcl,hc1,hc2⟩:=I.closed S;rw [exec_Assign_Name_used _ _ _ _ hsw];refine yf (wpAny_standAt (yf ?_));show wpAny _ X.A (do let _ <- comprehension (.ListComp elt [⟨tg,iter,ifs,0⟩] scope pos) scope X.env _ (newList []) false (eval iter X.env) (some (assign (.Name y py) X.env))) _ _ s;refine yf (wpAny_mono (wpAny_comprehension_free (use:=some (assign (.Name y py) X.env)) (Q:=fun _ s'=>SP X pins D .next s') rfl hs hcl S.kind S.loc (thn (hi pins s σ H _ I h) fun v s1 h1=>thn h1 fun itv s2 h2=>?_)) (fun _ s' hq=>yg (yg hq)) fun _ _ e=>e);obtain ⟨it,fp,tn,J,H2,e,I2,T,st,hf,hw⟩:=h2;subst e;refine comp_run (RR:=fun acc C=>compPost (model X.prog X.w) X.A X.xe (some (assign (.Name y py) X.env)) (fun _ s'=>SP X pins D .next s') acc C) (D:=s2.heap.objs.size) rfl hcalm I2 S hc1 hc2 T st hf (hg _ _ _ _ _) (ht _ _ _ _ _) (he _ _ _ _ _) hw ?_;intro s' H' ys J' ⟨m,hm⟩ hD hC q;show wpAny _ X.A (assign (.Name y py) X.env (.ref s2.heap.objs.size)) _ _ s';refine wpAny_assign_Name (store_ok2 (v:=.ref s2.heap.objs.size) J' hN hy (.inl hl) rfl (fun s3 J3 ⟨a,sb,ha⟩=>?_) (.inr hl));have hne:s2.heap.objs.size+1≠a:=by
  rcases ha with ha | ha
  ·rw [ha];exact Nat.ne_of_gt (Nat.lt_succ_of_lt I2.lt)
  ·obtain ⟨v,o,e,d⟩:=I2.cell y a ha
   exact Nat.ne_of_gt (Nat.lt_succ_of_lt (y7 e))
 refine ⟨m,hm.sameBut sb hne,fun h' sb'=>⟨_,_,I2.letgo (pins':=pins) (b:=(s2.heap.objs.size+1:Nat)) J3 (Nat.le_succ _) ?_ sb',q _ hD⟩⟩;rw [Jd (Nat.ne_of_gt (Nat.lt_succ_self _))];exact hC
end
structure Walk (J:It)(xs:List V)(ok:Hp->Prop):Prop where
 go:∀ i H,ok H->i<xs.length->J.go i H
 yld:∀ i H x H',ok H->i<xs.length->J.yld i H x H'->H'=H/\xs[i]?=some x
 stop:∀ H,ok H->J.stop xs.length H
theorem Jm {K:Frag}{a:Addr}{xs:List V}:Walk (Itl K a) xs (fun H=>SqL K H a xs) where
 go:=fun i H q hi=>⟨xs,xs[i],q,by simp [hi]⟩
 yld:=fun i H x H' q _ y=>⟨y.1,y.2 xs q⟩
 stop:=fun H q=>⟨xs,q,yj _⟩
def J42 (lo:Int)(n:Nat):List V:=(List.range n).map fun (i:Nat)=>V.int (lo+i)
theorem JK (lo:Int)(n:Nat):(J42 lo n).length=n:=by simp [J42]
theorem J5c {lo:Int}{n i:Nat}(h:i<n):(J42 lo n)[i]?=some (.int (lo+i)):=by simp [J42,h]
theorem J0D {lo:Int}{n:Nat}:Walk (Itr lo n) (J42 lo n) (fun _=>True) where
 go:=fun i H _ hi=>by rw [JK] at hi;exact hi
 yld:=fun i H x H' _ hi y=>⟨y.1,by rw [JK] at hi;rw [J5c hi,y.2]⟩
 stop:=fun H _=>Nat.le_of_eq (JK lo n).symm
theorem JbK {J:It}{xs:List V}{ok:Hp->Prop}(w:Walk J xs ok){g:TG}{tb:TS}{D:Ends}{σ:St}{H:Hp}(Pv:Nat->St->Hp->Prop)(h0:Pv 0 σ H)(hl:∀ i σ H,i<=xs.length->Pv i σ H->ok H)
 (hs:∀ i x σ H,xs[i]?=some x->Pv i σ H->g x σ H fun σ2 H2=>tb { D with nx:=Pv (i+1),ct:=Pv (i+1),bk:=D.nx } σ2 H2) (hd:∀ σ H,Pv xs.length σ H->D.nx σ H) :
 ∃ W:Nat->Nat->St->Hp->Prop,(∃ m,W 0 m σ H)/\∀ i m σ H,W i m σ H ->
   (J.stop i H/\D.nx σ H)\/(J.go i H/\∃ N:St->Hp->Prop,(∀ σ' H',N σ' H'->∃ m',m'<m/\W (i+1) m' σ' H')/\∀ x H',J.yld i H x H'->g x σ H' fun σ2 H2=>tb { D with nx:=N,ct:=N,bk:=D.nx } σ2 H2):=by
 refine ⟨fun i m σ H=>m=xs.length - i/\i<=xs.length/\Pv i σ H,⟨xs.length,by simp,yw _,h0⟩,?_⟩;rintro i m σ H ⟨rfl,hi,p⟩;have q:=hl i σ H hi p;by_cases hlt:i<xs.length
 ·refine .inr ⟨w.go i H q hlt,Pv (i+1),fun σ' H' p'=>⟨xs.length - (i+1),by omega,rfl,hlt,p'⟩,fun x H' y=>?_⟩
  obtain ⟨e,y'⟩:=w.yld i H x H' q hlt y;subst e;exact hs i x σ _ y' p
 ·have e:i=xs.length:=by omega
  subst e;exact .inl ⟨w.stop H q,hd σ H p⟩
theorem JE {J:It}{xs:List V}{ok:Hp->Prop}(w:Walk J xs ok){tt:TT}{te:TE}{fin:List V->Hp->Prop}{σ:St}{H:Hp}(hz:xs.length<=sizeLine)(Pv:Nat->List V->Hp->Prop)(h0:Pv 0 [] H)(hl:∀ i ys H,i<=xs.length->Pv i ys H->ok H)
 (J06:∀ i ys H,Pv i ys H->ys.length<=i)
 (hs:∀ i x ys H,xs[i]?=some x->Pv i ys H->tt (some x::σ) H fun b H3=>if b=true then te (some x::σ) H3 fun y H4=>(∃ o,some x::σ=o::σ)/\Pv (i+1) (ys++[y]) H4 else (∃ o,some x::σ=o::σ)/\Pv (i+1) ys H3) (hd:∀ ys H,Pv xs.length ys H->fin ys H) :
 J4r J (J01 0) tt te fin (List.replicate 1 none++σ) H:=by
 refine ⟨fun i m ys σ' H=>m=xs.length - i/\i<=xs.length/\(∃ o,σ'=o::σ)/\Pv i ys H,⟨xs.length,by simp,yw _,⟨none,rfl⟩,h0⟩,?_⟩;rintro i m ys σ' H ⟨rfl,hi,⟨o,rfl⟩,p⟩;have hy:=J06 i ys H p;have q:=hl i ys H hi p;by_cases hlt:i<xs.length
 ·refine .inr ⟨w.go i H q hlt,by omega,fun ys' σ' H'=>(∃ o,σ'=o::σ)/\Pv (i+1) ys' H',fun ys' σ' H' p'=>⟨xs.length - (i+1),by omega,rfl,hlt,p'⟩,fun x H' y=>?_⟩
  obtain ⟨e,y'⟩:=w.yld i H x H' q hlt y;subst e;exact hs i x ys _ y' p
 ·have e:i=xs.length:=by omega
  subst e;exact .inl ⟨w.stop H q,hd ys H p⟩
mutual
def Rep (K:Frag)(H:Hp):PyData->V->Prop
 | .none,v=>v=.non
 | .bool b,v=>v=.bl b
 | .int i,v=>v=.int i
 | .str x,v=>v=.str x
 | .list ds,v=>∃ a xs,v=.ref a/\SqL K H a xs/\Reps K H ds xs
 | .tuple ds,v=>∃ a xs,v=.ref a/\SqT K H a xs/\Reps K H ds xs
 | .dict _,_=>False
def Reps (K:Frag)(H:Hp):List PyData->List V->Prop
 | [],vs=>vs=[]
 | d::ds,vs=>∃ v r,vs=v::r/\Rep K H d v/\Reps K H ds r
end
section
variable {X:Cx}{pins:List (Addr×Obj)}{σ:St}{H:Hp}{s:Shared}
mutual
theorem Rep.reads (I:Inv X pins σ H s):∀ (d:PyData) (v:V) (u:Value),Rep X.K H d v->RelV v u->∃ as,Reads s.heap u d as
 | .none,v,u,h,r=>by
   have e:v=.non:=by simpa [Rep] using h
   subst e;cases r;exact ⟨_,.none⟩
 | .bool b,v,u,h,r=>by
   have e:v=.bl b:=by simpa [Rep] using h
   subst e;cases r;exact ⟨_,.bool b⟩
 | .int i,v,u,h,r=>by
   have e:v=.int i:=by simpa [Rep] using h
   subst e;obtain ⟨t,rfl⟩:=r;exact ⟨_,.int i t⟩
 | .str x,v,u,h,r=>by
   have e:v=.str x:=by simpa [Rep] using h
   subst e;obtain ⟨t,rfl⟩:=r;exact ⟨_,.str x t⟩
 | .list ds,v,u,h,r=>by
   obtain ⟨a,xs,rfl,hs,hr⟩:∃ a xs,v=.ref a/\SqL X.K H a xs/\Reps X.K H ds xs:=by simpa only [Rep] using h
   cases r;obtain ⟨its,rv,p,hz⟩:=I.list hs;obtain ⟨o,ho,hc,n,hd⟩:=p.isList;obtain ⟨as,q⟩:=Reps.reads I ds xs its hr rv;exact ⟨_,.list ho hc hd (by simpa using q)⟩
 | .tuple ds,v,u,h,r=>by
   obtain ⟨a,xs,rfl,hs,hr⟩:∃ a xs,v=.ref a/\SqT X.K H a xs/\Reps X.K H ds xs:=by simpa only [Rep] using h
   cases r;obtain ⟨its,rv,p,hz⟩:=I.tuple hs;obtain ⟨o,ho,hc,n,hd⟩:=p;obtain ⟨as,q⟩:=Reps.reads I ds xs its hr rv;exact ⟨_,.tuple ho hc hd (by simpa using q)⟩
 | .dict _,v,u,h,r=>by simp [Rep] at h
theorem Reps.reads (I:Inv X pins σ H s):∀ (ds:List PyData) (vs:List V) (us:List Value),Reps X.K H ds vs->Vals vs us->∃ as,ReadsAll s.heap us ds as
 | [],vs,us,h,r=>by
   have e:vs=[]:=by simpa [Reps] using h
   subst e;cases r;exact ⟨_,.nil⟩
 | d :: ds,vs,us,h,r=>by
   obtain ⟨v,q,rfl,h1,h2⟩:∃ v r,vs=v::r/\Rep X.K H d v/\Reps X.K H ds r:=by simpa only [Reps] using h
   cases r with
   | cons r1 r2 =>
     obtain ⟨as,q1⟩:=Rep.reads I d v _ h1 r1;obtain ⟨bs,q2⟩:=Reps.reads I ds q _ h2 r2;exact ⟨_,.cons q1 q2⟩
end
end
section
variable {X:Cx}
def Ja1 (K:Frag)(neg:Bool):R2:=fun x y H Q=>∃ d e,Rep K H d x/\Rep K H e y/\SeqAt.shaped d=true/\SeqAt.shaped e=true/\Q (.bl (if neg then !PyData.eqv d e else PyData.eqv d e)) H
theorem JdI (hu:X.A.units+64<cLine):OpR X (compareOp .Eq) (Ja1 X.K false):=by
 intro pins s σ H x y v u Q I rx ry h;obtain ⟨d,e,h1,h2,h3,h4,q⟩:=h;obtain ⟨as,q1⟩:=Rep.reads I d x v h1 rx;obtain ⟨bs,q2⟩:=Rep.reads I e y u h2 ry;exact eq_dataH q1 q2 h3 h4 hu (JL I q rfl)
theorem JdG (hu:X.A.units+64<cLine):OpR X (compareOp .NotEq) (Ja1 X.K true):=by
 intro pins s σ H x y v u Q I rx ry h;obtain ⟨d,e,h1,h2,h3,h4,q⟩:=h;obtain ⟨as,q1⟩:=Rep.reads I d x v h1 rx;obtain ⟨bs,q2⟩:=Rep.reads I e y u h2 ry;exact ne_dataH q1 q2 h3 h4 hu (JL I q rfl)
def JeE (K:Frag):List V->Hp->VK->Prop:=fun xs H Q=>∃ x T t b,xs=[x,.ty T]/\TyOf K H x t/\PySem.W.kitOne K t (.type T)=some b/\Q (.bl b) H
theorem Jc2:J0I X (.builtin "isinstance") (JeE X.K):=by
 intro pins s σ H xs us Q I r h;obtain ⟨x,T,t,b,rfl,ty,e,q⟩:=h;obtain ⟨u,c,rfl,ru,rc⟩:=J8Z r;cases rc;exact Jah I ru ty e fun tk=>⟨.bl b,H,I.tok _,rfl,q⟩
end
section
variable {X:Cx}
structure DefOk (K:Frag)(mg:Str->Option Value)(x:Str)(st:Stmt)(ps:List Str)(f:Addr)(fd:FuncData):Prop where
 F:Fun K x x st f fd
 b:Binds K fd ps []
 m:mg x=some (.ref f)
theorem pvl (i:Nat){x:Str}{pos:Pos}(hN:X.N[i]?=some x:=by rfl)(hv:X.env.scope.names.lookup x=some .local:=by rfl)(hd:(x == ("__debug__":Str))=false:=by decide)(hcd:(x == ("__classdict__":Str))=false:=by decide):PE X (.Name x pos) (J7m i):=Jbj hN (.inl hv) hd hcd
theorem pvc (i:Nat){x:Str}{pos:Pos}(hN:X.N[i]?=some x:=by rfl)(hv:X.env.scope.names.lookup x=some .cell:=by rfl)(hd:(x == ("__debug__":Str))=false:=by decide)(hcd:(x == ("__classdict__":Str))=false:=by decide):PE X (.Name x pos) (J7m i):=Jbj hN (.inr (.inl hv)) hd hcd
theorem pgl (i:Nat){x:Str}{pos:Pos}(hN:X.N.Nodup)(hi:X.N[i]?=some x:=by rfl)(hv:X.env.scope.names.lookup x=some .local:=by rfl):PG X (.Name x pos) (J01 i):=J9h hN hi (.inl hv) (.inr hv)
theorem pgc (i:Nat){x:Str}{pos:Pos}(hN:X.N.Nodup)(hi:X.N[i]?=some x:=by rfl)(hv:X.env.scope.names.lookup x=some .cell:=by rfl)(hf:X.fn x=true:=by rfl):PG X (.Name x pos) (J01 i):=J9h hN hi (.inr hv) (.inl hf)
theorem psl (i:Nat){x:Str}{pos pos':Pos}{e:Expr}{te:TE}(hN:X.N.Nodup)(he:PE X e te)(hi:X.N[i]?=some x:=by rfl)(hv:X.env.scope.names.lookup x=some .local:=by rfl)(hs:swapsWith e (some (.Name x pos')) pos.line X.env=pure false:=by rfl) :
 PS X (.Assign [.Name x pos'] e pos) (J2q te (J01 i)):=Jbe hN hi (.inl hv) he hs (.inr hv)
theorem psc (i:Nat){x:Str}{pos pos':Pos}{e:Expr}{te:TE}(hN:X.N.Nodup)(he:PE X e te)(hi:X.N[i]?=some x:=by rfl)(hv:X.env.scope.names.lookup x=some .cell:=by rfl)(hs:swapsWith e (some (.Name x pos')) pos.line X.env=pure false:=by rfl)(hf:X.fn x=true:=by rfl) :
 PS X (.Assign [.Name x pos'] e pos) (J2q te (J01 i)):=Jbe hN hi (.inr hv) he hs (.inl hf)
theorem pgi {x:Str}{i:Int}{pos:Pos}(hm:∃ tk,X.mg x=some (.int i tk))(hg:Gl X x:=by rfl)(hd:(x == ("__debug__":Str))=false:=by decide):PE X (.Name x pos) (tC (.int i)):=let ⟨t,e⟩:=hm;JcC hg e ⟨t,rfl⟩ hd
theorem pty {x:Str}{T:String}{pos:Pos}(hm:X.mg x=none)(hv:bootBuiltins x=some (.type T))(hg:Gl X x:=by rfl)(hn:x≠"__name__":=by decide)(hd:(x == ("__debug__":Str))=false:=by decide):PE X (.Name x pos) (tC (.ty T)):=JcF hg hm hv rfl hn hd
end
theorem Same.new {H H':Hp}(e:Same H H'){p:Addr}(h:H' p=none)(o:HO):Same H (upd H' p o):=fun b q z=>by
 rw [Jd (Jh (e b q z) h)];exact e b q z
theorem Same.upd_new {H:Hp}{p:Addr}(h:H p=none)(o:HO):Same H (upd H p o):=(Same.refl H).new h o
theorem Same.set {H H':Hp}(e:Same H H'){p:Addr}(h:H p=none)(o:HO):Same H (upd H' p o):=fun b q z=>by
 rw [Jd (Jh z h)];exact e b q z
theorem JX:bootBuiltins "len"=some (.builtin "len"):=by decide +kernel
theorem J8S:bootBuiltins "min"=some (.builtin "min"):=by decide +kernel
theorem J1d:bootBuiltins "sum"=some (.builtin "sum"):=by decide +kernel
theorem J6w:bootBuiltins "sorted"=some (.builtin "sorted"):=by decide +kernel
theorem J1h:bootBuiltins "isinstance"=some (.builtin "isinstance"):=by decide +kernel
theorem Je3:bootBuiltins "int"=some (.type "int"):=by decide +kernel
theorem JcV:bootBuiltins "bool"=some (.type "bool"):=by decide +kernel
theorem J1r:bootBuiltins "list"=some (.type "list"):=by decide +kernel
theorem Jb {n:Nat}(h:n<=1000000):n<=sizeLine:=by rw [sizeLine_eq];omega
def J3z:List String:=["NoneType","bool","int","str","list","tuple","dict"]
structure Pl (K:Frag)(H:Hp)(x:V)(T:String):Prop where
 ty:TyOf K H x (.type T)
 mem:T∈J3z
 sz:∀ z,x=.str z->z.length<=sizeLine
def Jaj (T S:String):Bool:=T == S||(T == "bool"&&S == "int")
theorem Jai {K:Frag}{T S:String}(hT:T∈J3z)(hS:S∈J3z):PySem.W.kitOne K (.type T) (.type S)=some (Jaj T S):=by
 simp only [J3z,yL,not_mem_nil,or_false] at hT hS;rcases hT with rfl | rfl | rfl | rfl | rfl | rfl | rfl<;>rcases hS with rfl | rfl | rfl | rfl | rfl | rfl | rfl<;>rfl
theorem Pl.of_int {K:Frag}{H:Hp}{i:Int}:Pl K H (.int i) "int":=⟨.int i,by decide,fun _ e=>by cases e⟩
theorem Pl.of_lst {K:Frag}{H:Hp}{a:Addr}{xs:List V}(h:H a=some (.lst xs)):Pl K H (.ref a) "list":=⟨.lst h,by decide,fun _ e=>by cases e⟩
def Jcu (K:Frag):List V->Hp->VK->Prop:=fun xs H Q=>∃ x S T,xs=[x,.ty S]/\Pl K H x T/\S∈J3z/\Q (.bl (Jaj T S)) H
theorem Jc3 {X:Cx}:J0I X (.builtin "isinstance") (Jcu X.K):=by
 intro pins s σ H xs us Q I r h;obtain ⟨x,S,T,rfl,p,hS,q⟩:=h;exact Jc2 pins s σ H _ us Q I r ⟨x,S,.type T,_,rfl,p.ty,Jai p.mem hS,q⟩
theorem JdW {K:Frag}{H:Hp}{p:Addr}{xs:List V}{i:Int}{Q:VK}(h:SqL K H p xs)(h0:0<=i)(h1:i<xs.length)(q:∀ v,xs[i.toNat]?=some v->Q v H):Jct K (.ref p) (.int i) H Q:=by
 have hj:i.toNat<xs.length:=by omega
 refine ⟨p,xs,i,xs[i.toNat],rfl,rfl,h,?_,q _ (yA hj)⟩;have e:=Jt (yA hj);rwa [Int.toNat_of_nonneg h0] at e
section
variable {X:Cx}{K:Frag}(e:X.K=K)
include e
theorem J9q:J0I X (.builtin "isinstance") (Jcu K):=by subst e;exact Jc3
def Jb7 (K:Frag):List V->Hp->VK->Prop:=fun xs H Q=>∃ p ys,xs=[.ref p]/\(SqL K H p ys\/SqT K H p ys)/\Q (.int ys.length) H
theorem J0v:J0I X (.builtin "len") (Jb7 K):=by subst e;exact J7f
def J4E (K:Frag):List V->Hp->VK->Prop:=fun xs H Q=>∃ p ys,xs=[.ref p]/\(SqL K H p ys\/SqT K H p ys)/\∀ l,H l=none->Q (.ref l) (upd H l (.lst ys))
theorem J5x:J0I X (.type "list") (J4E K):=by subst e;exact J7e
theorem J0q:IxR X (Jct K):=by subst e;exact JcM
theorem J2p:IxR X (Jeg K):=by subst e;exact JdV
theorem J9p:SlR X (Jcs K):=by subst e;exact Jcm
theorem Jer:SlR X (Jed K):=by subst e;exact Jds
theorem Jes (hu:X.A.units+64<cLine):OpR X (compareOp .Eq) (Ja1 K false):=by subst e;exact JdI hu
theorem Jdc (hu:X.A.units+64<cLine):OpR X (compareOp .NotEq) (Ja1 K true):=by subst e;exact JdG hu
theorem J00 {tg l:Expr}{tl:TE}(hl:PE X l tl):PI X tg l (J9v K tl):=by subst e;exact JcA hl
theorem J1C {es:List Expr}{k:Nat}{t:TGs}{n:Nat}{pos:Pos}(hc:X.calm=true)(h:PGs X es t)(hn:(assignEach es X.env).length=n:=by rfl)(hst:(assignEach es X.env).findIdx? (·.1)=none:=by rfl):PG X (.Tuple es k pos) (JcQ K n t):=by subst e;exact JdC hc h hn hst
theorem JeJ {o a:Expr}{es:List Expr}{to:TE}{t:TA}{name:Str}{apos cpos:Pos}{T id:String}{r:V->List V->Hp->VK->Prop}(pa:PlainAttrs T)(slot:Slot T name id)(hty:typeOf (.builtin id)=pure (.type "method_descriptor"))(hm:MtR X id r)(ho:PE X o to)(ha:PA X (a::es) t)
 (hbase:attributeBase o name X.env (eval o X.env)=eval o X.env:=by rfl)
 (hfew:((backTo cpos (starEach (a::es) X.env)).all (fun x=>!x.1)&&(backToKw cpos (keywordEach [] X.env)).all (fun x=>x.1.isSome)
  && decide ((a::es).length+([]:List Keyword).length+(if ([]:List Keyword).isEmpty then 0 else 1)<30))=true:=by rfl)
 (hline:(apos.endLine == cpos.line)=true:=by rfl) (hs:starEach (a::es) X.env=(false,eval a X.env)::starEach es X.env:=by rfl) (hplain:(backTo cpos (starEach es X.env)).any (·.1)=false:=by rfl) :
 PE X (.Call (.Attribute o name apos) (a::es) [] cpos) (tBM K T r to t):=by subst e;exact Jei pa slot hty hm ho ha hbase hfew hline hs hplain
end
def JS:Expr->Bool
 | .Starred _ _=>false
 | _=>true
theorem J02 {e:Expr}{es:List Expr}{env:Env}(h:JS e=true):starEach (e::es) env=(false,eval e env)::starEach es env:=by
 cases e<;>first | rfl | cases h
theorem J69 {env:Env}:∀ {es:List Expr},es.all JS=true->(starEach es env).any (·.1)=false
 | [],_=>rfl
 | e::es,h=>by
   rw [all_cons,Bool.and_eq_true] at h;rw [J02 h.1,any_cons,J69 h.2];rfl
theorem J1e {env:Env}{pos:Pos}{es:List Expr}(h:es.all JS=true):(backTo pos (starEach es env)).any (·.1)=false:=by
 have:=J69 (env:=env) h;unfold backTo;rw [any_map];exact this
section
variable {X:Cx}{e:Expr}{es:List Expr}{te:TE}{t:TA}
theorem pal (hn:JS e=true)(ha:PE X e te)(hr:PA X es t):PA X (e::es) (J68 te t):=JcG ha hr (J02 hn)
theorem Jj {x:Str}{st:Stmt}{ps:List Str}{f:Addr}{fd:FuncData}{k:Nat}{sp:Sp}{p pos:Pos}(D:DefOk X.K X.mg x st ps f fd)(G:FnOk X.prog X.w X.K X.mg X.base CX0 k f fd ps sp)(hr:Room k X.A)
 (hg:Gl X x) (hdb:(x == ("__debug__":Str))=false) (hn:(e::es).all JS=true) (ha:PA X (e::es) t) :
 PE X (.Call (.Name x p) (e::es) [] pos) (J94 sp [] E0 t) :=
 have h:JS e=true/\es.all JS=true:=by rw [all_cons,Bool.and_eq_true] at hn;exact hn
 JcE G hr hg D.m D.F.kp D.b .nil J4k ha hdb (J02 h.1) (J1e h.2)
theorem JA {x:Str}{p pos:Pos}{id:String}{r:List V->Hp->VK->Prop}(hc:J0I X (.builtin id) r)(hm:X.mg x=none)(hv:bootBuiltins x=some (.builtin id))(hg:Gl X x)(hn:x≠"__name__")(hdb:(x == ("__debug__":Str))=false)
 (hs:(e::es).all JS=true) (ha:PA X (e::es) t):PE X (.Call (.Name x p) (e::es) [] pos) (tCB r t) :=
 have h:JS e=true/\es.all JS=true:=by rw [all_cons,Bool.and_eq_true] at hs;exact hs
 Jbm hc hg hm hv ha hn hdb (J02 h.1) (J1e h.2)
theorem J2b {x:Str}{p pos:Pos}{T:String}{r:List V->Hp->VK->Prop}(hc:J0I X (.type T) r)(hm:X.mg x=none)(hv:bootBuiltins x=some (.type T))(hg:Gl X x)(hn:x≠"__name__")(hdb:(x == ("__debug__":Str))=false)
 (hs:(e::es).all JS=true) (ha:PA X (e::es) t):PE X (.Call (.Name x p) (e::es) [] pos) (tCB r t) :=
 have h:JS e=true/\es.all JS=true:=by rw [all_cons,Bool.and_eq_true] at hs;exact hs
 Ja6 hc hg hm hv ha hn hdb (J02 h.1) (J1e h.2)
theorem Jce {env:Env}{pos:Pos}{es:List Expr}(h:es.all JS=true):(backTo pos (starEach es env)).all (fun x=>!x.1)=true:=by
 have:=J1e (env:=env) (pos:=pos) h;rw [any_eq_false] at this;rw [all_eq_true];intro x hx;have:=this x hx;simpa using this
theorem J1m {K:Frag}{o a:Expr}{to:TE}{name:Str}{apos cpos:Pos}{T id:String}{r:V->List V->Hp->VK->Prop}(ek:X.K=K)(pa:PlainAttrs T)(slot:Slot T name id)(hty:typeOf (.builtin id)=pure (.type "method_descriptor"))(hm:MtR X id r)
 (hbase:attributeBase o name X.env (eval o X.env)=eval o X.env) (hs:(a::es).all JS=true) (hsz:decide ((a::es).length+0+0<30)=true) (hline:(apos.endLine == cpos.line)=true) (ho:PE X o to) (ha:PA X (a::es) t) :
 PE X (.Call (.Attribute o name apos) (a::es) [] cpos) (tBM K T r to t) :=
 have h:JS a=true/\es.all JS=true:=by rw [all_cons,Bool.and_eq_true] at hs;exact hs
 JeJ ek pa slot hty hm ho ha hbase (by rw [Jce hs];exact hsz) hline (J02 h.1) (J1e h.2)
end
def ForW (J:It)(g:TG)(tb:TS)(D:Ends)(σ:St)(H1:Hp):Prop:=∃ W:Nat->Nat->St->Hp->Prop,(∃ m,W 0 m σ H1)/\∀ i m σ H,W i m σ H ->
 (J.stop i H/\D.nx σ H)\/(J.go i H/\∃ N:St->Hp->Prop,(∀ σ' H',N σ' H'->∃ m',m'<m/\W (i+1) m' σ' H')/\∀ x H',J.yld i H x H'->g x σ H' fun σ2 H2=>tb { D with nx:=N,ct:=N,bk:=D.nx } σ2 H2)
theorem J0b {wi:TI}{g:TG}{tb:TS}{D:Ends}{σ:St}{H:Hp}(h:wi σ H fun J H1=>ForW J g tb D σ H1):J3W wi g tb D σ H:=h
theorem ForW.of {g:TG}{tb:TS}{D:Ends}{σ:St}{H:Hp}{J:It}{xs:List V}{ok:Hp->Prop}(w:Walk J xs ok)(Pv:Nat->St->Hp->Prop)(h0:Pv 0 σ H)(hl:∀ i σ H,i<=xs.length->Pv i σ H->ok H)
 (hs:∀ i x σ H,xs[i]?=some x->Pv i σ H->g x σ H fun σ2 H2=>tb { D with nx:=Pv (i+1),ct:=Pv (i+1),bk:=D.nx } σ2 H2) (hd:∀ σ H,Pv xs.length σ H->D.nx σ H):ForW J g tb D σ H:=JbK w Pv h0 hl hs hd
end L2
namespace L2
open PySem
theorem J0W {lo:Int}{n i:Nat}{x:V}(h:(J42 lo n)[i]?=some x):i<n/\x=.int (lo+i):=by
 have hi:i<n:=by have:=(yB.mp h).1;rwa [JK] at this
 rw [J5c hi] at h;cases h;exact ⟨hi,rfl⟩
def WGo (Pv:Nat->St->Hp->Prop)(m:Nat)(tb:TS)(D:Ends)(σ:St)(H1:Hp):Prop:=∃ N:St->Hp->Prop,(∀ σ' H',N σ' H'->∃ m',m'<m/\Pv m' σ' H')/\tb { D with nx:=N,ct:=N,bk:=D.nx } σ H1
theorem WGo.of {Pv:Nat->St->Hp->Prop}{m:Nat}{tb:TS}{D:Ends}{σ:St}{H1:Hp}(h:tb { D with nx:=fun σ' H'=>∃ m',m'<m/\Pv m' σ' H',ct:=fun σ' H'=>∃ m',m'<m/\Pv m' σ' H',bk:=D.nx } σ H1):WGo Pv m tb D σ H1:=⟨_,fun _ _ q=>q,h⟩
theorem J3j {c:TT}{tb:TS}{D:Ends}{σ:St}{H:Hp}(Pv:Nat->St->Hp->Prop)(h0:∃ m,Pv m σ H)(hs:∀ m σ H,Pv m σ H->c σ H fun b H1=>if b=true then WGo Pv m tb D σ H1 else D.nx σ H1):J8l c tb D σ H:=⟨Pv,h0,hs⟩
end L2
namespace L2
open PySem PySem.Spec PyProof.Rows
def Trc (H:Hp)(h G:Heap)(e:Addr)(C:Value)(ed:Option Addr)(fl:Value):Prop :=
 G.get? e=none/\H e=none/\∃ oe vs,h.get? e=some oe/\oe.cls=C/\oe.dict=ed/\oe.data=.fields vs/\1<vs.size /\
  ((vs[1]?=some .none/\fl=.none)\/∃ T oT ts,vs[1]?=some (.ref T)/\G.get? T=none/\T≠e/\H T=none/\h.get? T=some oT/\oT.data=.fields ts/\ts[3]?=some fl)
def CXE (P:Program)(w:World):CXT:=fun outer H s E e s'=>∃ a C ed H',e=.ref a/\s'.os=s.os/\AllBare s'.gens/\Un (frs outer) [] H H' s.heap s'.heap/\HOk P w H' s'.heap/\Trc H' s'.heap s.heap a C ed .none/\E C ed H'
theorem Inv.back {X:Cx}{pins:List (Addr×Obj)}{σ:St}{H:Hp}{s:Shared}(I:Inv X pins σ H s)(hex:X.ex=[])(b:Addr)(e:s.heap.get? b=none):X.s₀.heap.get? b=none:=by
 cases q:X.s₀.heap.get? b with
 | none=>rfl
 | some o =>
   obtain ⟨o',e'⟩:=I.base.there b o q (by rw [hex];simp);rw [e] at e';cases e'
structure Cov (X:Cx)(pins:List (Addr×Obj))(G:Heap):Prop where
 loc:G.get? X.env.locals≠none
 cell:∀ x c,X.env.cells.lookup x=some c->G.get? c≠none
 pin:∀ p∈X.pn++pins,G.get? p.1≠none
 old:∀ b,G.get? b=none->X.s₀.heap.get? b=none
theorem Inv.cov {X:Cx}{pins:List (Addr×Obj)}{σ:St}{H:Hp}{s:Shared}(I:Inv X pins σ H s)(hex:X.ex=[]):Cov X pins s.heap :=
 ⟨by obtain ⟨m,⟨o,_,_,ho,_⟩,_⟩:=I.loc;rw [ho];simp,fun x c e=>by obtain ⟨v,o,ho,_⟩:=I.cell x c e;rw [ho];simp,fun p hp=>by rw [(I.pin p hp).1];simp,I.back hex⟩
abbrev vbm:List Value:=[.type "ValueError",.type "Exception",.type "BaseException",.type "object"]
def exB (K:Frag)(C:Addr)(ini:Option Value):Bool:=match K.lookup C with
 | some ⟨.type "type",_,.cls cd,sl⟩=>(match cd.mro,sl.toList with
   | .ref C'::bm,[_,_,_,_,some (.builtin n),_]=>C' == C&&(n == "ValueError.__new__"&&(PySem.W.tailIn K vbm bm&&(!cd.hasDel&&(PySem.W.nsOkIn K cd.ns&&nsIn K cd.ns "__init__" == some ini))))
   | _,_=>false)
 | _=>false
section
variable {X:Cx}{pins:List (Addr×Obj)}{σ:St}{H:Hp}{s:Shared}{G:Heap}
theorem Inv.hold {a:Addr}{o:HO}(I:Inv X pins σ H s)(c:Cov X pins G)(ha:G.get? a=none)(hH:H a=none)(ok:ObjOk X.prog X.w (upd H a o) s.heap a o):Inv X pins σ (upd H a o) s:=by
 have ne:∀ b,G.get? b≠none->b≠a:=fun b h z=>by subst z;exact h ha
 have ne2:∀ b u,H b=some u->b≠a:=fun b u h z=>by subst z;rw [hH] at h;cases h
 have neo:∀ b o',X.s₀.heap.get? b=some o'->b≠a:=fun b o' e z=>by
  subst z;have:=c.old b ha;rw [e] at this;cases this
 refine ⟨I.ok,I.os,I.bare,⟨I.base.keep,I.base.slot,fun b o' e hn hx=>by rw [Jd (neo b o' e)];exact I.base.free b o' e hn hx,I.base.there,fun b xs e=>?_,fun b o' u e=>?_,fun b ps e=>?_⟩,I.loc,I.cell,by rw [Jd (ne _ c.loc)];exact I.free,fun x cc e=>by rw [Jd (ne _ (c.cell x cc e))];exact I.freeC x cc e,fun p hp=>?_,fun b u e=>?_,I.len⟩
 ·have:=I.base.tups b xs e
  rw [Jd (ne2 b _ this)];exact this
 ·have:=I.base.frzs b o' u e
  rw [Jd (ne2 b _ this)];exact this
 ·obtain ⟨m,this⟩:=I.base.tbls b ps e
  exact ⟨m,by rw [Jd (ne2 b _ this)];exact this⟩
 ·obtain ⟨e,n,r⟩:=I.pin p hp
  exact ⟨e,by rw [Jd (ne _ (c.pin p hp))];exact n,r⟩
 ·by_cases z:b=a
  ·subst z
   rw [J1] at e;cases e;exact ok
  ·rw [Jd z] at e
   exact (I.hok b u e).stay (fun _ _ _ q=>q) (fun d q=>by rw [Jd (ne2 d _ q)];exact q) fun d xs q=>by rw [Jd (ne2 d _ q)];exact q
end
def Jel (i:Nat)(D:Ends):Ends:={ nx:=fun σ H=>D.nx (σ.set i none) H,rt:=D.rt,bk:=fun σ H=>D.bk (σ.set i none) H,ct:=fun σ H=>D.ct (σ.set i none) H }
def ExN (a:Addr)(C:Value)(ed:Option Addr):HO:=.ext fun h=>∃ oe vs,h.get? a=some oe/\oe.cls=C/\oe.dict=ed/\oe.data=.fields vs/\1<vs.size/\vs[1]?=some .none
section
variable {X:Cx}{pins:List (Addr×Obj)}{σ:St}{H:Hp}{s:Shared}{a:Addr}
def Jd6 (K:Frag)(ta tv:TE)(f:Str):TS:=fun D σ H=>tv σ H fun y H1=>ta σ H1 fun x H2=>∃ a C ini,x=.ref a/\H2 a=some (ExN a (.ref C) none)/\exB K C ini=true/\PySem.W.hasDictIn K C=true /\
 findIn K (.ref C) "__setattr__"=some (some (.builtin "object.__setattr__"))/\NoAttr K C f/\∀ dx,H2 dx=none->dx≠a->D.nx σ (upd (upd H2 dx (.xd [(f,y)])) a (ExN a (.ref C) (some dx)))
end
def J7U (s:Stmt)(j:Nat):Stmt:=match s with
 | .ClassDef _ _ _ b _ _ _ _ _ _ _=>b.getD j (.Pass ⟨0,0,0,0⟩)
 | _=>.Pass ⟨0,0,0,0⟩
structure MthOk (K:Frag)(x qual:Str)(st:Stmt)(ps:List Str)(f:Addr)(fd:FuncData):Prop where
 F:Fun K x qual st f fd
 b:Binds K fd ps []
 fn:PySem.W.isFn K (.ref f)=true
structure OwnOk (K:Frag)(mg:Str->Option Value)(x:Str)(c fi:Addr):Prop where
 m:mg x=some (.ref c)
 cls:Cls K c
 mkr:Mk K c fi
theorem JdF {K:Frag}{h:Heap}{mg:Str->Option Value}{x:Str}{c fi:Addr}(X:K.In h)(G:h.Ns mainGlobals mg)(a:nsIn K mainGlobals x=some (some (.ref c)))(pg:PySem.W.plainGet K c Str.empty=true)(hd:PySem.W.hasDictIn K c=true)(po:PySem.W.plainOver K c=true)
 (sa:findIn K (.ref c) "__setattr__"=some (some (.builtin "object.__setattr__"))) (ma:PySem.W.makesIn K c=true) (i:findIn K (.ref c) "__init__"=some (some (.ref fi))) (fn:PySem.W.isFn K (.ref fi)=true) (kp:PySem.W.keepIn K (.ref c)=true):OwnOk K mg x c fi :=
 ⟨PySem.W.mg_of X G a,⟨pg,hd,po,sa⟩,⟨ma,i,fn,kp⟩⟩
def Ite (K:Frag)(a:Addr):It where
 go:=fun i H=>∃ xs x,SqL K H a xs/\xs[i]?=some x
 yld:=fun i H y H'=>∃ p x,H p=none/\y=.ref p/\(∀ ys,SqL K H a ys->ys[i]?=some x)/\H'=upd H p (.tup [.int i,x])
 stop:=fun i H=>∃ xs,SqL K H a xs/\xs.length<=i
theorem turn_enum {P:Program}{w:World}{K:Frag}{elts:List Expr}{x1:Nat}{tpos:Pos}(a e it:Addr)(hne:e≠it):Turn P w K (.Tuple elts x1 tpos) (Ite K a) [e,it] e (fun i h=>∃ old,IsEnum h e it i old/\h.IsListIter it a i) where
 mem:=by simp
 obj := fun i h st b hb=>by
  obtain ⟨old,h1,o,h2,c,d⟩:=st;rcases yL.mp hb with rfl | hb
  ·exact ⟨_,h1,fun v z=>nomatch z⟩
  ·cases yD.mp hb
   exact ⟨o,h2,fun v z=>by rw [d] at z;cases z⟩
 keep:=fun i h h' st k=>by
  obtain ⟨old,h1,h2⟩:=st;exact ⟨old,k e (by simp) _ h1,h2.at fun o z=>k it (by simp) o z⟩
 item:=by
  intro X hP hw hK hc i pins s σ H E I hf st hg;subst hP hw hK;obtain ⟨xs,x,hq,hx⟩:=hg;obtain ⟨its,rv,p,hz⟩:=I.list hq;obtain ⟨u,hu,ru⟩:=rv.get hx;obtain ⟨old,h1,h2⟩:=st;obtain ⟨f0,f1,f2,f3,f4,f5⟩:=hf e (by simp);obtain ⟨g0,g1,g2,g3,g4,g5⟩:=hf it (by simp);have fr:H s.heap.objs.size=none:=I.hok.fresh (yj _);have pe:s.heap.objs.size≠e:=Nat.ne_of_gt (y7 h1);refine wpAny_pyNext_enum_item h1 h2 p.isList (x:=u) (by simpa using hu) hne fun h' out st' tup sz k=>⟨.ref s.heap.objs.size,rfl,?_⟩;refine wpAny_letOwnedTupleGo_enum (s:={ s with heap:=h',toks:=s.toks+1 }) out fun h'' he' sb=>?_;have kk:∀ b o,b∉[e,it]->s.heap.get? b=some o->h''.get? b=some o:=fun b o hb z =>
   (sb.2 b (fun q=>hb (by simp [q]))).trans (k b o (fun q=>hb (by simp [q])) (fun q=>hb (by simp [q])) z)
  have kt:h''.get? s.heap.objs.size=some { cls:=.type "tuple",data:=.seq #[.int i s.toks,u] }:=(sb.2 _ pe).trans tup;have nt:∀ b v,H b=some v->b∉[e,it]:=fun b v z hb=>by
   rcases yL.mp hb with rfl | hb
   ·rw [f0] at z;cases z
   ·cases yD.mp hb
    rw [g0] at z;cases z
  have np:∀ b v,H b=some v->b≠s.heap.objs.size:=fun b v z q=>by subst q;rw [fr] at z;cases z
  have up:∀ b v,H b=some v->upd H s.heap.objs.size (.tup [.int i,x]) b=some v:=fun b v z=>by rw [Jd (np b v z)];exact z
  refine ⟨.ref s.heap.objs.size,upd H s.heap.objs.size (.tup [.int i,x]),?_,rfl,⟨_,x,fr,rfl,fun ys hy=>by rw [I.list_inj hy hq];exact hx,rfl⟩,⟨u,he',st'.at fun o z=>(sb.2 it (Ne.symm hne)).trans z⟩,fun b hb=>?_⟩
  ·show Inv X pins σ _ { s with heap:=h'',gens:=s.gens,drawn:=s.drawn,toks:=s.toks+1 }
   refine Inv.step (s:=s) (h':=h'') (t':=s.toks+1) (g':=s.gens) (d':=s.drawn) (ch:=[e,it]) I (fun b hb=>?_) (fun b o _ _ hb z _=>kk b o hb z) (fun b o _ _ hb z _=>⟨o.slots,kk b o hb z⟩) (fun b o _ z n=>by rw [Jd (yr (y7 z))];exact n) (fun b o hb z=>⟨o,kk b o hb z⟩)
    (fun b ys z=>up b _ z) (fun b o v z=>up b _ z) (fun b ps z=>⟨#[],by rw [Array.append_empty];exact up b _ z⟩) (fun m hm=>?_) (fun b v z=>?_) I.bare
   ·rcases yL.mp hb with rfl | hb
    ·exact ⟨f3,f1,f4,f5⟩
    ·cases yD.mp hb
     exact ⟨g3,g1,g4,g5⟩
   ·obtain ⟨o,es,ep,ho,r⟩:=hm
    refine ⟨o,es,ep,kk _ o (fun hb=>?_) ho,r⟩;rcases yL.mp hb with q | hb
    ·exact f1 q.symm
    ·exact g1 (yD.mp hb).symm
   ·by_cases q:b=s.heap.objs.size
    ·subst q
     rw [J1] at z;cases z;exact ⟨Jb (Nat.le_of_ble_eq_true rfl),[.int i s.toks,u],.cons ⟨_,rfl⟩ (.cons ru .nil),_,kt,rfl,_,rfl⟩
    ·rw [Jd q] at z
     refine (I.hok b v z).stay (fun c o hc y=>kk c o ?_ y) (fun c y=>up c _ y) fun c ys y=>up c _ y;rcases hc with rfl | hc
     ·exact nt _ _ z
     ·exact nt _ _ hc
  ·rcases yL.mp hb with rfl | hb
   ·rw [Jd (Ne.symm pe)];exact f0
   ·cases yD.mp hb
    obtain ⟨o,h2',_⟩:=h2;rw [Jd (yr (y7 h2'))];exact g0
 done:=by
  intro X hP hw hK hc i pins s σ H E I hf st hg;subst hP hw hK;obtain ⟨xs,hq,hx⟩:=hg;obtain ⟨its,rv,p,hz⟩:=I.list hq;obtain ⟨old,h1,h2⟩:=st;obtain ⟨g0,g1,g2,g3,g4,g5⟩:=hf it (by simp);have hl:=rv.length;exact wpAny_pyNext_enum_end (I.ok.hd hc) h1 h2 p.isList (by simp;omega) fun h' eb=>⟨rfl,I.turned (t':=s.toks) (fun b o hb z=>eb b o hb z) g0 g1 g3 g4 g5⟩
 self:=fun _ _ _ _ _ st h=>by
  obtain ⟨old,h1,h2⟩:=st;exact wpAny_pyIter_enum h1 h
section
variable {X:Cx}
def J6k (K:Frag)(ta:TA):TI:=fun σ H R=>ta σ H fun vs H1=>∃ a,vs=[.ref a]/\(∃ xs,SqL K H1 a xs)/\R (Ite K a) H1
theorem J1q {a:Expr}{ta:TA}{p pos tpos:Pos}{elts:List Expr}{x1:Nat}(hg:Gl X "enumerate")(hm:X.mg "enumerate"=none)(ha:PA X [a] ta)(hn:JS a=true):PI X (.Tuple elts x1 tpos) (.Call (.Name "enumerate" p) [a] [] pos) (J6k X.K ta):=by
 intro pins s σ H R I h;refine Call_ (J1L I hg hm boot_enumerate (PyProof.Rows.callWith_type1 (thn (ha pos pins s σ H _ I h) fun us s1 ⟨vs,H1,I1,r1,q1⟩=>?_) (J02 hn) rfl));obtain ⟨l,e,⟨xs,hq⟩,q⟩:=q1;subst e;cases r1 with
 | cons r rr =>
   cases rr;cases (show _=Value.ref l from r);obtain ⟨its,rv,pl,hz⟩:=I1.list hq;refine call_enumerate_list pl.isList fun h' he st sz k=>?_;refine wpAny_pyIter_enum (s:={ s1 with heap:=h' }) he ?_;refine ⟨s1.heap.objs.size+1,[s1.heap.objs.size+1,s1.heap.objs.size],_,_,H1,rfl,I1.kept (t':=s1.toks) k,turn_enum l _ _ (Nat.succ_ne_self _),⟨_,he,st⟩,fun b hb=>?_,q⟩;rcases yL.mp hb with rfl | hb
   ·exact I1.fpOk (Nat.le_succ _) (I1.hok.fresh (Nat.le_succ _))
   ·cases yD.mp hb
    exact I1.fpOk (yj _) (I1.hok.fresh (yj _))
end
theorem ForW.enum {K:Frag}{a:Addr}{xs:List V}{g:TG}{tb:TS}{D:Ends}{σ:St}{H:Hp}(Pv:Nat->St->Hp->Prop)(h0:Pv 0 σ H)(hl:∀ i σ H,Pv i σ H->SqL K H a xs)
 (hs:∀ (i:Nat) x σ H p,xs[i]?=some x->Pv i σ H->H p=none->g (.ref p) σ (upd H p (.tup [.int i,x])) fun σ2 H2=>tb { D with nx:=Pv (i+1),ct:=Pv (i+1),bk:=D.nx } σ2 H2)
 (hd:∀ σ H,Pv xs.length σ H->D.nx σ H):ForW (Ite K a) g tb D σ H:=by
 refine ⟨fun i m σ H=>Pv i σ H/\i<=xs.length/\m=xs.length - i,⟨_,h0,yw _,rfl⟩,fun i m σ H ⟨h1,h2,h3⟩=>?_⟩;have sq:=hl i σ H h1;by_cases e:i=xs.length
 ·subst e
  exact .inl ⟨⟨xs,sq,yj _⟩,hd σ H h1⟩
 ·have lt:i<xs.length:=Nat.lt_of_le_of_ne h2 e
  refine .inr ⟨⟨xs,xs[i],sq,yA lt⟩,Pv (i+1),fun σ' H' z=>⟨xs.length - (i+1),by omega,z,lt,rfl⟩,fun x H' hy=>?_⟩;obtain ⟨p,x',hp,rfl,hx,rfl⟩:=hy;exact hs i x' σ H p (hx xs sq) h1 hp
section
variable {prog:Program}{w:World}{A:Around}{E:Value->Shared->Prop}{s:Shared}{T:String}{r d:Addr}{n:Nat}{P:Nat->Value->Prop}{OK:Heap->Prop}
theorem Ja2 {R:Result->Shared->Prop}(K:PySem.W.KdlSrc prog w T r d n P OK)(hh:A.handled=none)(hok:OK s.heap)(hn:n<=sizeLine)
 (hR:∀ h' tk acc' c',(∀ b o,s.heap.get? b=some o->h'.get? b=some o)->h'.get? s.heap.objs.size=some { cls:=.type "list",dict:=none,data:=.seq acc' c',slots:=#[] }->ItemsOf P acc' n->R (.ok (.ret (.ref s.heap.objs.size))) { s with heap:=h',toks:=tk }) :
 codeAny (model prog w) A (.builtin "proto.collect" ⟨[.ref r],[]⟩) R s:=by
 refine codeAny_builtin PySem.F.entry_proto_collect ?_;rw [ze PySem.F.plain_proto_collect _];show wpAny _ A.in1 (newList [] >>= fun l=>again (.builtin "list.__iadd__" ⟨[l,.ref r],[]⟩)) _ _ s;refine yf (wpAny_newObj_type ?_);refine yg ⟨plainId_quiet PySem.F.plain_list_iadd _,codeAny_builtin PySem.F.entry_list_iadd ?_⟩;rw [ze PySem.F.plain_list_iadd _];have hlt:=K.there _ hok;have hS:(s.heap.push { cls:=.type "list",data:=.seq ([]:List Value).toArray }).get? s.heap.objs.size=some { cls:=.type "list",data:=.seq #[] 0 }:=y6 _ rfl;show wpAny _ A.in1 (Builtin.List.listExtendWith (.ref s.heap.objs.size) (.ref r) (.ref s.heap.objs.size)) _ _ _;exact PySem.W.kdl_extend (s:={ s with heap:=s.heap.push { cls:=.type "list",data:=.seq ([]:List Value).toArray } }) (A:=A) K hh (K.keep _ _ hok fun b _ o e=>y4 _ e) s.heap.objs.size (Nat.ne_of_gt hlt.1) (Nat.ne_of_gt hlt.2) (.ref s.heap.objs.size) 0 hS
  (fun h' tk acc' c' hk hS' hacc=>hR h' tk acc' c' (fun b o e=>hk b o (yr (y7 e)) (y4 _ e)) hS' hacc) hn
theorem J85 {Q:List Value->Shared->Prop}(K:PySem.W.KdlSrc prog w T r d n P OK)(hh:A.handled=none)(hok:OK s.heap)(hn:n<=sizeLine)
 (hQ:∀ h' tk acc',(∀ b o,s.heap.get? b=some o->h'.get? b=some o)->s.heap.objs.size<h'.objs.size->ItemsOf P acc' n->Q acc'.toList { s with heap:=h',toks:=tk }):wpAny (model prog w) A (collect (.ref r)) Q E s:=by
 unfold collect;refine yf (wpAny_runValue (Ja2 K hh hok hn fun h' tk acc' c' hk hS' hacc=>?_));show wpAny _ A (load s.heap.objs.size >>= _) _ _ _;refine yf (wpAny_load hS' ?_);exact yg (hQ h' tk acc' hk (y7 hS') hacc)
end
theorem J2f:∀ {us:List Value} {ks:List Int},us.length=ks.length->(∀ (i:Nat) v k,us[i]?=some v->ks[i]?=some k->∃ t,v=Value.int k t)->IntsAre us ks
 | [],[],_,_=>.nil
 | [],_::_,h,_=>by cases h
 | _::_,[],h,_=>by cases h
 | u::us,k::ks,h,f=>by
   obtain ⟨t,rfl⟩:=f 0 u k rfl rfl;exact .cons k t (J2f (by simpa using h) fun i v k' a b=>f (i+1) v k' (by simpa using a) (by simpa using b))
theorem J13:∀ {us:List Value} {ks:List Int},IntsAre us ks->Vals (ks.map V.int) us
 | _,_,.nil=>.nil
 | _,_,.cons _ _ t=>.cons ⟨_,rfl⟩ (J13 t)
theorem Jag {i:Int}{v:Value}(h:J37 (.inl i) v=true):∃ t,v=Value.int i t:=by
 have h':Value.isInt i v=true:=h;cases v with
 | int j t =>
   have e:(j == i)=true\/(i == j)=true:=by first | exact .inl h' | exact .inr h'
   rcases e with e | e
   ·exact ⟨t,by rw [beq_iff_eq.mp e]⟩
   ·exact ⟨t,by rw [beq_iff_eq.mp e]⟩
 | _=>cases h'
open AutoSeq1 (wpAny_loadPart')
section
variable {X:Cx}
def JeC:List V->Hp->VK->Prop:=fun xs H Q=>∃ n:Int,xs=[.int n]/\-(2 ^ 62)<=n/\n<2 ^ 62/\∀ p,H p=none->Q (.ref p) (upd H p (.rng 0 n))
theorem J8a:J0I X (.type "range") JeC:=by
 intro pins s σ H xs us Q I r h;obtain ⟨n,rfl,q1,q2,q⟩:=h;obtain ⟨u,rfl,ru⟩:=J2r r;obtain ⟨t,rfl⟩:=ru;refine call_range_1 ?_;exact ⟨.ref s.heap.objs.size,upd H s.heap.objs.size (.rng 0 n),I.laid (fun b o e=>y4 _ e) (yj _) (show ObjOk X.prog X.w _ _ _ (.rng 0 n) from ⟨_,_,_,y6 _ rfl⟩),rfl,q _ (I.hok.fresh (yj _))⟩
def Jb6:List V->Hp->VK->Prop:=fun xs H Q=>∃ p,∃ n:Nat,xs=[.ref p]/\H p=some (.rng 0 n)/\n<=1000/\∀ l,H l=none->Q (.ref l) (upd H l (.lst ((List.range n).map fun (i:Nat)=>V.int i)))
theorem J3O (hc:X.calm=true):J0I X (.type "list") Jb6:=by
 intro pins s σ H xs us Q I r h;obtain ⟨p,n,rfl,hp,hn,q⟩:=h;obtain ⟨u,rfl,ru⟩:=J2r r;cases ru;obtain ⟨t,t',t'',e⟩:=I.hok p _ hp;refine call_list_range (n:=n) (I.ok.hd hc) e (small_one (by decide) (by decide) (by omega) (by omega)) (by rw [rangeSize_one];split<;>omega) (by omega) fun h' tk acc c' hk hl hacc=>?_;refine ⟨.ref s.heap.objs.size,upd H s.heap.objs.size (.lst ((List.range n).map fun (i:Nat)=>V.int i)),I.laid (t':=tk) hk (yj _) (show ObjOk X.prog X.w _ h' _ (.lst _) from ⟨by rw [yC,yX,sizeLine_eq];omega,acc.toList,c',?_,by rw [Array.toArray_toList];exact hl⟩),rfl,q _ (I.hok.fresh (yj _))⟩;have e1:(List.range n).map (fun (i:Nat)=>V.int i)=((List.range n).map fun (i:Nat)=>(i:Int)).map V.int:=by rw [map_map];rfl
 rw [e1];refine J13 (J2f (by rw [yz,hacc.1,yC,yX]) fun i v k hv hki=>?_);obtain ⟨tt,ev⟩:=hacc.2 i v (by rw [<- Array.getElem?_toList];exact hv);have hil:=(yB.mp hki).1;rw [yC,yX] at hil;rw [yN,List.getElem?_range hil] at hki;have:(i:Int)=k:=by simpa using hki
 refine ⟨tt,?_⟩;rw [ev,<- this];simp
end
theorem J8b:bootBuiltins "range"=some (.type "range"):=by decide +kernel
section
variable {prog:Program}{w:World}{A:Around}{E:Value->Shared->Prop}{s:Shared}
abbrev J0L (led:Bool):Obj:={ cls:=.type "set",dict:=none,data:=.set #[] 0 (.fresh 0 0 led) }
set_option maxHeartbeats 3200000 in
variable {α:Type}[DecidableEq α][BEq α][LawfulBEq α]{knd:PySem.KeyKind prog w α}
end
theorem Je2:bootBuiltins "set"=some (.type "set"):=by decide +kernel
def Itz (K:Frag)(a b:Addr):It where
 go:=fun i H=>∃ xs ys x y,SqL K H a xs/\SqL K H b ys/\xs[i]?=some x/\ys[i]?=some y
 yld:=fun i H v H'=>∃ p x y,H p=none/\v=.ref p/\(∀ zs,SqL K H a zs->zs[i]?=some x)/\(∀ zs,SqL K H b zs->zs[i]?=some y)/\H'=upd H p (.tup [x,y])
 stop:=fun i H=>∃ xs ys,SqL K H a xs/\SqL K H b ys/\(xs.length<=i\/ys.length<=i)
theorem turn_zip {P:Program}{w:World}{K:Frag}{elts:List Expr}{x1:Nat}{tpos:Pos}(z TI TO i1 i2 a b:Addr)(D:ZipApart z TI TO i1 i2 a b) :
 Turn P w K (.Tuple elts x1 tpos) (Itz K a b) [z,TI,TO,i1,i2] z (fun i h=>IsZip h z TI TO .none/\IsPair h TI (.ref i1) (.ref i2)/\(∃ x y,IsPair h TO x y)/\h.IsListIter i1 a i/\h.IsListIter i2 b i) where
 mem:=by simp
 obj:=fun i h st c hc=>by
  obtain ⟨h1,h2,⟨x,y,h3⟩,⟨o4,e4,_,d4⟩,⟨o5,e5,_,d5⟩⟩:=st;simp only [yL,not_mem_nil,or_false] at hc;rcases hc with rfl | rfl | rfl | rfl | rfl
  ·exact ⟨_,h1,fun v z=>nomatch z⟩
  ·exact ⟨_,h2,fun v z=>nomatch z⟩
  ·exact ⟨_,h3,fun v z=>nomatch z⟩
  ·exact ⟨_,e4,fun v z=>by rw [d4] at z;cases z⟩
  ·exact ⟨_,e5,fun v z=>by rw [d5] at z;cases z⟩
 keep:=fun i h h' st k=>by
  obtain ⟨h1,h2,⟨x,y,h3⟩,h4,h5⟩:=st;exact ⟨k z (by simp) _ h1,k TI (by simp) _ h2,⟨x,y,k TO (by simp) _ h3⟩,h4.at fun o e=>k i1 (by simp) o e,h5.at fun o e=>k i2 (by simp) o e⟩
 item:=by
  intro X hP hw hK hc i pins s σ H E I hf st hg;subst hP hw hK;obtain ⟨xs,ys,x,y,hqa,hqb,hx,hy⟩:=hg;obtain ⟨ia,ra,pa,_⟩:=I.list hqa;obtain ⟨ib,rb,pb,_⟩:=I.list hqb;obtain ⟨u,hu,ru⟩:=ra.get hx;obtain ⟨v,hv,rv⟩:=rb.get hy;obtain ⟨h1,h2,⟨ox,oy,h3⟩,h4,h5⟩:=st;have fr:H s.heap.objs.size=none:=I.hok.fresh (yj _);have pz:s.heap.objs.size≠z:=Nat.ne_of_gt (y7 h1);refine wpAny_pyNext_zip_item D h1 h2 h3 h4 h5 pa.isList pb.isList (x:=u) (y:=v) (by simpa using hu) (by simpa using hv) fun h' out to' st1 st2 tup sz k=>⟨.ref s.heap.objs.size,rfl,?_⟩;refine wpAny_letOwnedTupleGo_zip (s:={ s with heap:=h' }) out fun h'' hz' sb=>?_;have kk:∀ c o,c∉[z,TI,TO,i1,i2]->s.heap.get? c=some o->h''.get? c=some o:=fun c o hb e =>
   (sb.2 c (fun q=>hb (by simp [q]))).trans (k c o (fun q=>hb (by simp [q])) (fun q=>hb (by simp [q])) (fun q=>hb (by simp [q])) (fun q=>hb (by simp [q])) e)
  have kt:h''.get? s.heap.objs.size=some { cls:=.type "tuple",data:=.seq #[u,v] }:=(sb.2 _ pz).trans tup;have nt:∀ c w',H c=some w'->c∉[z,TI,TO,i1,i2]:=fun c w' e hb=>by
   rw [(hf c hb).1] at e;cases e
  have np:∀ c w',H c=some w'->c≠s.heap.objs.size:=fun c w' e q=>by subst q;rw [fr] at e;cases e
  have up:∀ c w',H c=some w'->upd H s.heap.objs.size (.tup [x,y]) c=some w':=fun c w' e=>by rw [Jd (np c w' e)];exact e
  have lts:∀ c∈[z,TI,TO,i1,i2],c<s.heap.objs.size:=fun c hc=>by
   obtain ⟨o4,e4,_,_⟩:=h4;obtain ⟨o5,e5,_,_⟩:=h5;simp only [yL,not_mem_nil,or_false] at hc;rcases hc with rfl | rfl | rfl | rfl | rfl
   ·exact y7 h1
   ·exact y7 h2
   ·exact y7 h3
   ·exact y7 e4
   ·exact y7 e5
  refine ⟨.ref s.heap.objs.size,upd H s.heap.objs.size (.tup [x,y]),?_,rfl,⟨_,x,y,fr,rfl,fun zs hz=>by rw [I.list_inj hz hqa];exact hx,fun zs hz=>by rw [I.list_inj hz hqb];exact hy,rfl⟩,⟨hz',(sb.2 TI D.TIz).trans (k TI _ D.TIz D.TITO D.TIi1 D.TIi2 h2),⟨u,v,(sb.2 TO D.TOz).trans to'⟩,st1.at fun o e=>(sb.2 i1 D.i1z).trans e,st2.at fun o e=>(sb.2 i2 D.i2z).trans e⟩,fun c hc=>?_⟩
  ·show Inv X pins σ _ { s with heap:=h'',gens:=s.gens,drawn:=s.drawn,toks:=s.toks }
   refine Inv.step (s:=s) (h':=h'') (t':=s.toks) (g':=s.gens) (d':=s.drawn) (ch:=[z,TI,TO,i1,i2]) I (fun c hc=>?_) (fun c o _ _ hb e _=>kk c o hb e) (fun c o _ _ hb e _=>⟨o.slots,kk c o hb e⟩) (fun c o _ e n=>by rw [Jd (yr (y7 e))];exact n) (fun c o hb e=>⟨o,kk c o hb e⟩)
    (fun c zs e=>up c _ e) (fun c o w' e=>up c _ e) (fun c ps e=>⟨#[],by rw [Array.append_empty];exact up c _ e⟩) (fun m hm=>?_) (fun c w' e=>?_) I.bare
   ·obtain ⟨f0,f1,f2,f3,f4,f5⟩:=hf c hc
    exact ⟨f3,f1,f4,f5⟩
   ·obtain ⟨o,es,ep,ho,r⟩:=hm
    exact ⟨o,es,ep,kk _ o (fun hb=>(hf _ hb).2.1 rfl) ho,r⟩
   ·by_cases q:c=s.heap.objs.size
    ·subst q
     rw [J1] at e;cases e;exact ⟨Jb (Nat.le_of_ble_eq_true rfl),[u,v],.cons ru (.cons rv .nil),_,kt,rfl,_,rfl⟩
    ·rw [Jd q] at e
     refine (I.hok c w' e).stay (fun d o hd y=>kk d o ?_ y) (fun d y=>up d _ y) fun d zs y=>up d _ y;rcases hd with rfl | hd
     ·exact nt _ _ e
     ·exact nt _ _ hd
  ·rw [Jd (yr (lts c hc))]
   exact (hf c hc).1
 done:=by
  intro X hP hw hK hc i pins s σ H E I hf st hg;subst hP hw hK;obtain ⟨xs,ys,hqa,hqb,hx⟩:=hg;obtain ⟨ia,ra,pa,_⟩:=I.list hqa;obtain ⟨ib,rb,pb,_⟩:=I.list hqb;obtain ⟨h1,h2,⟨ox,oy,h3⟩,h4,h5⟩:=st;have la:=ra.length;have lb:=rb.length;refine wpAny_pyNext_zip_end (I.ok.hd hc) D h1 h2 h3 h4 h5 pa.isList pb.isList (by
   rcases hx with hx | hx
   ·left;simp;omega
   ·right;simp;omega) fun h' k=>⟨rfl,?_⟩
  have kk:∀ c o,c∉[z,TI,TO,i1,i2]->s.heap.get? c=some o->h'.get? c=some o:=fun c o hb e =>
   k c o (fun q=>hb (by simp [q])) (fun q=>hb (by simp [q])) (fun q=>hb (by simp [q])) (fun q=>hb (by simp [q])) e
  have nt:∀ c w',H c=some w'->c∉[z,TI,TO,i1,i2]:=fun c w' e hb=>by
   rw [(hf c hb).1] at e;cases e
  show Inv X pins σ _ { s with heap:=h',gens:=s.gens,drawn:=s.drawn,toks:=s.toks };refine Inv.step (s:=s) (h':=h') (t':=s.toks) (g':=s.gens) (d':=s.drawn) (ch:=[z,TI,TO,i1,i2]) I (fun c hc=>?_) (fun c o _ _ hb e _=>kk c o hb e) (fun c o _ _ hb e _=>⟨o.slots,kk c o hb e⟩) (fun _ _ _ _ n=>n) (fun c o hb e=>⟨o,kk c o hb e⟩)
   (fun _ _ e=>e) (fun _ _ _ e=>e) (fun c ps e=>⟨#[],by rw [Array.append_empty];exact e⟩) (fun m hm=>?_) (fun c w' e=>?_) I.bare
  ·obtain ⟨f0,f1,f2,f3,f4,f5⟩:=hf c hc
   exact ⟨f3,f1,f4,f5⟩
  ·obtain ⟨o,es,ep,ho,r⟩:=hm
   exact ⟨o,es,ep,kk _ o (fun hb=>(hf _ hb).2.1 rfl) ho,r⟩
  ·refine (I.hok c w' e).stay (fun d o hd y=>kk d o ?_ y) (fun d y=>y) fun d zs y=>y
   rcases hd with rfl | hd
   ·exact nt _ _ e
   ·exact nt _ _ hd
 self:=fun _ _ _ _ _ st h=>wpAny_pyIter_zip st.1 h
theorem Jcd:bootBuiltins "zip"=some (.type "zip"):=by decide +kernel
section
variable {X:Cx}
def JcO (K:Frag)(ta:TA):TI:=fun σ H R=>ta σ H fun vs H1=>∃ a b,vs=[.ref a,.ref b]/\(∃ xs,SqL K H1 a xs)/\(∃ ys,SqL K H1 b ys)/\R (Itz K a b) H1
theorem JdA {a b:Expr}{ta:TA}{p pos tpos:Pos}{elts:List Expr}{x1:Nat}(hg:Gl X "zip")(hm:X.mg "zip"=none)(ha:PA X [a,b] ta)(hn:JS a=true)(hn2:JS b=true):PI X (.Tuple elts x1 tpos) (.Call (.Name "zip" p) [a,b] [] pos) (JcO X.K ta):=by
 intro pins s σ H R I h;refine Call_ (J1L I hg hm Jcd (PyProof.Rows.callWith_type1 (thn (ha pos pins s σ H _ I h) fun us s1 ⟨vs,H1,I1,r1,q1⟩=>?_) (J02 hn) (by rw [J02 hn2];rfl)));obtain ⟨l,m,e,⟨xs,hq⟩,⟨ys,hq2⟩,q⟩:=q1;subst e;obtain ⟨u,v,rfl,ru,rv⟩:=J8Z r1;cases (show u=Value.ref l from ru);cases (show v=Value.ref m from rv);obtain ⟨ia,ra,pa,_⟩:=I1.list hq;obtain ⟨ib,rb,pb,_⟩:=I1.list hq2;have la:l<s1.heap.objs.size:=by obtain ⟨o,e,_⟩:=pa.isList;exact y7 e
 have lb:m<s1.heap.objs.size:=by obtain ⟨o,e,_⟩:=pb.isList;exact y7 e
 refine call_zip_2 pa.isList pb.isList fun h' hz hTI hTO st1 st2 sz k=>?_;refine wpAny_pyIter_zip (s:={ s1 with heap:=h' }) hz ?_;refine ⟨s1.heap.objs.size+4,[s1.heap.objs.size+4,s1.heap.objs.size+2,s1.heap.objs.size+3,s1.heap.objs.size,s1.heap.objs.size+1],_,_,H1,rfl,I1.kept (t':=s1.toks) k,turn_zip _ _ _ _ _ l m ?_,⟨hz,hTI,⟨_,_,hTO⟩,st1,st2⟩,fun c hc=>?_,q⟩
 ·have la':Nat.lt l s1.heap.objs.size:=la
  have lb':Nat.lt m s1.heap.objs.size:=lb;generalize s1.heap.objs.size=N at *;constructor<;>first | exact yr (by simp only [Nat.lt_eq] at *;omega) | exact Nat.ne_of_gt (by simp only [Nat.lt_eq] at *;omega)
 ·have hle:s1.heap.objs.size<=c:=by
   simp only [yL,not_mem_nil,or_false] at hc;rcases hc with rfl | rfl | rfl | rfl | rfl
   ·exact Nat.le_add_right _ _
   ·exact Nat.le_add_right _ _
   ·exact Nat.le_add_right _ _
   ·exact yj _
   ·exact Nat.le_add_right _ _
  exact I1.fpOk hle (I1.hok.fresh hle)
theorem Jeq {K:Frag}{a b:Expr}{ta:TA}{p pos tpos:Pos}{elts:List Expr}{x1:Nat}(e:X.K=K)(hg:Gl X "zip")(hm:X.mg "zip"=none)(ha:PA X [a,b] ta)(hn:JS a=true)(hn2:JS b=true):PI X (.Tuple elts x1 tpos) (.Call (.Name "zip" p) [a,b] [] pos) (JcO K ta):=by subst e;exact JdA hg hm ha hn hn2
end
theorem ForW.zip {K:Frag}{a b:Addr}{xs ys:List V}{g:TG}{tb:TS}{D:Ends}{σ:St}{H:Hp}(Pv:Nat->St->Hp->Prop)(h0:Pv 0 σ H)(hl:∀ i σ H,Pv i σ H->SqL K H a xs/\SqL K H b ys)
 (hs:∀ (i:Nat) x y σ H p,xs[i]?=some x->ys[i]?=some y->Pv i σ H->H p=none->g (.ref p) σ (upd H p (.tup [x,y])) fun σ2 H2=>tb { D with nx:=Pv (i+1),ct:=Pv (i+1),bk:=D.nx } σ2 H2)
 (hd:∀ σ H,Pv (min xs.length ys.length) σ H->D.nx σ H):ForW (Itz K a b) g tb D σ H:=by
 refine ⟨fun i m σ H=>Pv i σ H/\i<=min xs.length ys.length/\m=min xs.length ys.length - i,⟨_,h0,yw _,rfl⟩,fun i m σ H ⟨h1,h2,h3⟩=>?_⟩;obtain ⟨sa,sb⟩:=hl i σ H h1;by_cases e:i=min xs.length ys.length
 ·subst e
  exact .inl ⟨⟨xs,ys,sa,sb,by omega⟩,hd σ H h1⟩
 ·have lt:i<min xs.length ys.length:=Nat.lt_of_le_of_ne h2 e
  have lx:i<xs.length:=by omega
  have ly:i<ys.length:=by omega
  refine .inr ⟨⟨xs,ys,xs[i],ys[i],sa,sb,yA lx,yA ly⟩,Pv (i+1),fun σ' H' z=>⟨min xs.length ys.length - (i+1),by omega,z,lt,rfl⟩,fun v H' hy=>?_⟩;obtain ⟨p,x',y',hp,rfl,hx,hy,rfl⟩:=hy;exact hs i x' y' σ H p (hx xs sa) (hy ys sb) h1 hp
section
variable {X:Cx}
def Jcv:V->List V->Hp->VK->Prop:=fun x vs H Q=>∃ l xs,∃ k:Nat,∃ y,x=.ref l/\vs=[.int k,y]/\H l=some (.lst xs)/\k<=xs.length/\xs.length+1<=1000000/\Q .non (upd H l (.lst (xs.take k++y::xs.drop k)))
theorem J6g:MtM X "list.insert" Jcv:=by
 intro pins s σ H x vs v us Q I rx rv h;obtain ⟨l,xs,k,y,rfl,rfl,hH,hk,hz,q⟩:=h;cases rx;obtain ⟨u,z,rfl,⟨t,rfl⟩,rz⟩:=J8Z rv;obtain ⟨hz0,its,n,r,hl,e⟩:=I.lstM hH;obtain ⟨i,hi⟩:∃ i:Int,i=(k:Int):=⟨_,rfl⟩;rw [<- hi];have h1:-(2 ^ 63)<=i:=by omega
 have h2:i<2 ^ 63:=by omega
 have hsz:its.toArray.size<=sizeLine:=by rw [yE];omega
 have M:=AutoSeq1.list_insert_list_int_val_1 l its.toArray n i t z (by rw [fitsIndex_both h1 h2];exact yk) hsz;refine call_meets F.slot_list_insert ⟨_,e,rfl⟩ F.entry_list_insert (F.args_list_insert_3 _ _ _) M ⟨e,?_⟩;refine ⟨.non,_,I.lset (its':=its.take k++z::its.drop k) hH e ?_ ((r.take k).append (.cons rz (r.drop k))) ?_,rfl,q⟩
 ·have e1:min k its.length=k:=by omega
  have e2:¬ (k:Int)<0:=by omega
  have e3:List.take (its.length - k) (List.drop k its)=List.drop k its:=take_of_length_le (by rw [length_drop];exact yj _);simp [hi,e1,e2,e3]
 ·have:sizeLine=sizeLine:=rfl
  exact Jb (by rw [yH,length_cons,yI,length_drop];omega)
def Jd9 (K:Frag):V->V->Hp->VK->Prop:=fun x y H Q=>∃ p xs,∃ i:Nat,∃ v,x=.ref p/\y=.int i/\SqL K H p xs/\xs[i]?=some v/\Q v H
theorem JbI:Je8 X (Jd9 X.K):=by
 intro pins s σ H x y v u Q I rx ry h;obtain ⟨p,xs,i,z,rfl,rfl,hq,he,q⟩:=h;cases rx;obtain ⟨t,rfl⟩:=ry;obtain ⟨its,r,pl,hz⟩:=I.list hq;obtain ⟨w,ew,rw'⟩:=r.get he;have hl:=r.length;have hn:=J48;have hi:=(yB.mp he).1;have h63:(i:Int)<2 ^ 63:=by omega
 exact wpAny_getItem_list pl.isList (Int.natCast_nonneg _) h63 (by rw [Int.toNat_natCast];simpa using ew) ⟨z,H,I,rw',q⟩
theorem J8E {K:Frag}(e:X.K=K):Je8 X (Jd9 K):=by subst e;exact JbI
theorem JdB (K:Frag)(i j:Nat){x y:Str}{p1 p2 pos:Pos}{k:Nat}(hN:X.N.Nodup)(e:X.K=K:=by rfl)(hc:X.calm=true:=by rfl)(hi:X.N[i]?=some x:=by rfl)(hj:X.N[j]?=some y:=by rfl)(hv:X.env.scope.names.lookup x=some .local:=by rfl)(hw:X.env.scope.names.lookup y=some .local:=by rfl)
 (h1:(assignEach [.Name x p1,.Name y p2] X.env).map (·.2)=assign (.Name x p1) X.env::(assignEach [.Name y p2] X.env).map (·.2):=by rfl) (h2:(assignEach [.Name y p2] X.env).map (·.2)=assign (.Name y p2) X.env::(assignEach [] X.env).map (·.2):=by rfl)
 (hn:(assignEach [.Name x p1,.Name y p2] X.env).length=2:=by rfl) (hst:(assignEach [.Name x p1,.Name y p2] X.env).findIdx? (·.1)=none:=by rfl):PG X (.Tuple [.Name x p1,.Name y p2] k pos) (JcQ K 2 (J0O (J01 i) (J0O (J01 j) J2g))) :=
 J1C e hc (Jq (pgl i hN hi hv) (Jq (pgl j hN hj hw) J0w h2) h1) hn hst
end
section
variable {X:Cx}
theorem J78 {zs:List Int}{its:List Value}{i:Nat}{v:Value}(r:Vals (zs.map V.int) its)(hv:its.toArray[i]?=some v):i<zs.length/\∃ t,v=.int (zs.getD i 0) t:=by
 have hv':its[i]?=some v:=by simpa using hv
 have hm:i<zs.length:=by
  have:=r.length;rw [yC] at this;rw [this];exact (yB.mp hv').1
 obtain ⟨u,hu,t,e⟩:=r.get (i:=i) (x:=V.int zs[i]) (by rw [yN,yA hm];rfl);rw [hv'] at hu;cases hu;exact ⟨hm,t,by rw [yF,yA hm];exact e⟩
theorem J7c {α:Type}{l:List α}{i:Nat}{x d:α}(h:l[i]?=some x):l.getD i d=x:=by rw [yF,h];rfl
end
section
variable {X:Cx}
def J9d (K:Frag):List V->Hp->VK->Prop:=fun xs H Q=>∃ l,∃ zs:List Int,xs=[.ref l]/\SqL K H l (zs.map V.int)/\Q (.int (zs.foldl (·+·) 0)) H
theorem J4j (zs:List Int):∀ k,k<=zs.length->preSum (fun i=>zs.getD i 0) k=(zs.take k).foldl (·+·) 0
 | 0,_=>rfl
 | k+1,h=>by
   have hk:k<zs.length:=h;show preSum (fun i=>zs.getD i 0) k+zs.getD k 0=_;rw [J4j zs k (by omega),take_add_one,yA hk,foldl_append,J7c (yA hk)];rfl
theorem Jc1 (hc:X.calm=true):J0I X (.builtin "sum") (J9d X.K):=by
 intro pins s σ H xs us Q I r h;obtain ⟨l,zs,rfl,hq,q⟩:=h;obtain ⟨lv,rfl,rl⟩:=J2r r;cases (show lv=Value.ref l from rl);obtain ⟨its,r',pl,hz⟩:=I.list hq;have hl:=r'.length;rw [yC] at hl;obtain ⟨ol,hol,hcl⟩:=id pl.isList;have ll:l<s.heap.objs.size:=y7 hol;refine call_sum_walkAnyS (wpAny_pyIter_list pl.isList ⟨s.heap.objs.size,_,_,_,_,_,_,fun i=>zs.getD i 0,rfl,(Walks.list (by simp [I.ok.hd hc]) s.heap.objs.size l (yr ll) its.toArray).toS,⟨⟨_,y6 _ rfl,rfl,rfl⟩,pl.isList.push _⟩,?_,fun i v hv=>(J78 r' hv).2,fun s' t' mv=>?_⟩)
 ·intro b hb
  rw [Heap.size_push];simp only [yL,not_mem_nil,or_false] at hb;rcases hb with rfl | rfl
  ·exact Nat.lt_succ_self _
  ·exact Nat.lt_succ_of_lt ll
 ·obtain ⟨h',g',d',tk',os'⟩:=s'
  obtain rfl:g'=s.gens:=mv.gens;obtain rfl:d'=s.drawn:=mv.drawn;obtain rfl:os'=s.os:=mv.os;have e:preSum (fun i=>zs.getD i 0) its.toArray.size=zs.foldl (·+·) 0:=by
   rw [yE,<- hl,J4j zs zs.length (yj _),yO]
  rw [e];refine ⟨.int _,H,I.kept (t':=tk') fun b o hb=>?_,⟨_,rfl⟩,q⟩;refine mv.heap b o ?_ (y4 _ hb);simp only [yL,not_mem_nil,or_false];exact yr (y7 hb)
theorem J1c {K:Frag}(e:X.K=K)(hc:X.calm=true):J0I X (.builtin "sum") (J9d K):=by subst e;exact Jc1 hc
end
section
variable {X:Cx}
def Jdv (K:Frag)(neg:Bool):R2:=fun x y H Q=>∃ d es,Rep K H d x/\Rep K H (.list es) y/\SeqAt.shaped d=true/\SeqAt.shaped (.list es)=true/\Q (.bl (if neg then !es.any (fun e=>PyData.eqv e d) else es.any (fun e=>PyData.eqv e d))) H
theorem J55 {d:PyData}(h:SeqAt.shaped d=true):d.canLay0=true/\d.depth<=64:=by
 unfold SeqAt.shaped at h;rw [Bool.and_eq_true] at h;exact ⟨h.1,by have:=of_decide_eq_true h.2;omega⟩
theorem JdH (hu:X.A.units+64<cLine):OpR X (compareOp .In) (Jdv X.K false):=by
 intro pins s σ H x y v u Q I rx ry h;obtain ⟨d,es,h1,h2,h3,h4,q⟩:=h;obtain ⟨as,q1⟩:=Rep.reads I d x v h1 rx;obtain ⟨bs,q2⟩:=Rep.reads I _ y u h2 ry;have l1:=J55 h3;have l2:=J55 h4;have l3:PyData.canLayAll0 es=true:=by simpa [PyData.canLay0] using l2.1
 refine SeqAt.in_list_reads q2 q1 l3 l1.1 ?_ (JL I q rfl);have:=Nat.min_le_left (PyData.depthAll es) d.depth;have l5:PyData.depthAll es+1<=64:=by simpa [PyData.depth] using l2.2
 omega
theorem Jbz {K:Frag}(e:X.K=K)(hu:X.A.units+64<cLine):OpR X (compareOp .In) (Jdv K false):=by subst e;exact JdH hu
theorem J7a {M:Model}{A:Around}{E:Value->Shared->Prop}{s:Shared}{a b:Value}{Q:Value->Shared->Prop}(ha:s.TypeIs a "list")(hb:s.TypeIs b "list")
 (hc:wpAny M A (call (.builtin "list.__iadd__") [a,b]) Q E s):wpAny M A (inplaceOp .Add a b) Q E s:=by
 have hi:typeLookup (.type "list") (dunderI "add")=pure (some (.builtin "list.__iadd__")):=F.slot_list_iadd.lookup;have hq:isSeqSlot (some (.builtin "list.__iadd__"))=true:=by decide +kernel
 unfold inplaceOp;refine wpAny_holding ?_;have hfi:fillsInplaceSlot (.type "list") "add" (Operator.Add == .Add)=pure false:=by
  unfold fillsInplaceSlot;show (typeLookup (.type "list") (dunderI "add") >>= fun fi=>pure (fi.isSome&&!isSeqSlot fi))=pure false;rw [hi,pure_bind,hq];rfl
 have hsi:seqSlot? (.type "list") (dunderI "add")=pure (some (.builtin "list.__iadd__")):=PyProof.Rows.seqSlot_of hi hq;refine yf (wpAny_typeOf ha (yf (wpAny_of_eq hfi ?_)));show wpAny M A (if false=true then _ else _) Q E s;rw [yh yk];refine yf (binaryOp1_none (nm:="add") ha hb noFill_list_add ?_);refine yf (wpAny_of_eq hsi ?_);exact yf (wpAny_rule hc)
def Jef:V->V->Hp->VK->Prop:=fun x y H Q=>∃ l b xs zs,x=.ref l/\y=.ref b/\H l=some (.lst xs)/\H b=some (.lst zs)/\xs.length+zs.length<=sizeLine/\Q (.ref l) (upd H l (.lst (xs++zs)))
theorem J77:PIp X .Add Jef:=by
 intro pins s σ H x y v u Q I rx ry h;obtain ⟨l,b,xs,zs,rfl,rfl,hH,hB,hz,q⟩:=h;cases rx;cases ry;obtain ⟨z,its,n,r,hl,e⟩:=I.lstM hH;obtain ⟨z2,its2,n2,r2,hl2,e2⟩:=I.lstM hB;have hsz:its.toArray.size+its2.toArray.size<=sizeLine:=by rw [yE,yE];omega
 have hlong:¬ (!its.toArray.isEmpty&&Builtin.List.listTooLong (its.toArray.size+its2.toArray.size))=true:=by
  rw [J7E hsz,Bool.and_false];exact yk
 refine J7a ⟨_,e,rfl⟩ ⟨_,e2,rfl⟩ (call_meets F.slot_list_iadd ⟨_,e,rfl⟩ F.entry_list_iadd (F.args_list_iadd_2 _ _)
  (AutoSeq1.list___iadd___list_list_0 l its.toArray n b its2.toArray n2 hlong (by rw [yE];omega) (by omega)) ⟨e,e2,?_⟩)
 refine ⟨.ref l,_,I.lset (its':=its++its2) hH e (by simp) (r.append r2) ?_,rfl,q⟩;rw [yH];omega
end
theorem J5K {J:It}{xs:List V}{ok:Hp->Prop}(w:Walk J xs ok){g:TG}{tt:TT}{te:TE}{fin:List V->Hp->Prop}{σ:St}{H:Hp}(hz:xs.length<=sizeLine)(Pv:Nat->List V->St->Hp->Prop)(h0:Pv 0 [] σ H)(hl:∀ i zs σ H,Pv i zs σ H->ok H/\zs.length<=i)
 (hs:∀ (i:Nat) x zs σ H,xs[i]?=some x->Pv i zs σ H->g x σ H fun σ2 H2=>tt σ2 H2 fun b H3=>if b=true then te σ2 H3 fun y H4=>Pv (i+1) (zs++[y]) σ2 H4 else Pv (i+1) zs σ2 H3)
 (hd:∀ zs σ H,Pv xs.length zs σ H->fin zs H):J4r J g tt te fin σ H:=by
 refine ⟨fun i m zs σ H=>m=xs.length - i/\i<=xs.length/\Pv i zs σ H,⟨_,rfl,yw _,h0⟩,?_⟩;rintro i m zs σ H ⟨rfl,hi,p⟩;obtain ⟨q,hy⟩:=hl i zs σ H p;by_cases hlt:i<xs.length
 ·refine .inr ⟨w.go i H q hlt,by omega,Pv (i+1),fun zs' σ' H' z=>⟨xs.length - (i+1),by omega,rfl,hlt,z⟩,fun x H' y=>?_⟩
  obtain ⟨e,y'⟩:=w.yld i H x H' q hlt y;subst e;exact hs i x zs σ _ y' p
 ·have e:i=xs.length:=by omega
  subst e;exact .inl ⟨w.stop H q,hd zs σ H p⟩
section
def All2 {α β:Type}(R:α->β->Prop)(xs:List α)(ys:List β):Prop:=xs.length=ys.length/\∀ (i:Nat) x y,xs[i]?=some x->ys[i]?=some y->R x y
variable {α β:Type}{R S:α->β->Prop}{xs:List α}{ys:List β}
theorem All2.nil:All2 R [] []:=⟨rfl,fun i x y h=>by simp at h⟩
theorem All2.mono (h:All2 R xs ys)(f:∀ x y,R x y->S x y):All2 S xs ys:=⟨h.1,fun i x y a b=>f x y (h.2 i x y a b)⟩
theorem All2.at {i:Nat}{x:α}(h:All2 R xs ys)(hx:xs[i]?=some x):∃ y,ys[i]?=some y/\R x y:=by
 have hi:i<ys.length:=by rw [<- h.1];exact (yB.mp hx).1
 exact ⟨_,yA hi,h.2 i x _ hx (yA hi)⟩
theorem All2.at' {i:Nat}{y:β}(h:All2 R xs ys)(hy:ys[i]?=some y):∃ x,xs[i]?=some x/\R x y:=by
 have hi:i<xs.length:=by rw [h.1];exact (yB.mp hy).1
 exact ⟨_,yA hi,h.2 i _ y (yA hi) hy⟩
theorem All2.meml {x:α}(h:All2 R xs ys)(hx:x∈xs):∃ y∈ys,R x y:=by
 obtain ⟨i,hi⟩:=yT.mp hx;obtain ⟨y,hy,r⟩:=h.at hi;exact ⟨y,yG hy,r⟩
theorem All2.append {xs':List α}{ys':List β}(h:All2 R xs ys)(h':All2 R xs' ys'):All2 R (xs++xs') (ys++ys'):=by
 refine ⟨by simp [h.1,h'.1],fun i x y a b=>?_⟩;by_cases c:i<xs.length
 ·rw [yW c] at a
  rw [yW (by rw [<- h.1];exact c)] at b;exact h.2 i x y a b
 ·rw [yV (by omega)] at a
  rw [yV (by rw [<- h.1];omega),<- h.1] at b;exact h'.2 _ x y a b
theorem All2.one {x:α}{y:β}(h:R x y):All2 R [x] [y]:=⟨rfl,fun i a b ha hb=>by
 cases i with
 | zero=>simp at ha hb;subst ha hb;exact h
 | succ i=>simp at ha⟩
theorem All2.snoc {x:α}{y:β}(h:All2 R xs ys)(r:R x y):All2 R (xs++[x]) (ys++[y]):=h.append (.one r)
theorem All2.tail {x:α}{y:β}(h:All2 R (x::xs) (y::ys)):R x y/\All2 R xs ys :=
 ⟨h.2 0 x y rfl rfl,by simpa using h.1,fun i a b ha hb=>h.2 (i+1) a b (by simpa using ha) (by simpa using hb)⟩
end
theorem nodup_le:∀ (m:Nat) (l:List Nat),l.Nodup->(∀ x∈l,x<m)->l.length<=m
 | 0,[],_,_=>yj _
 | 0,x::l,_,h=>absurd (h x yK) (Nat.not_lt_zero _)
 | m + 1,l,hn,h=>by
   by_cases c:m∈l
   ·have h1:=nodup_le m (l.erase m) (hn.erase m) fun x hx=>by
     have:=h x (mem_of_mem_erase hx);have:x≠m:=fun e=>by
      subst e;exact absurd hx (List.Nodup.not_mem_erase hn)
     omega
    have:=length_erase_of_mem c;have:0<l.length:=length_pos_of_mem c;omega
   ·exact Nat.le_succ_of_le (nodup_le m l hn fun x hx=>by
     have:=h x hx;have:x≠m:=fun e=>c (e ▸ hx);omega)
abbrev Box:=Nat×Nat
def RowAt (H:Hp)(x:V)(r:List Int):Prop:=∃ p,x=.ref p/\H p=some (.lst (r.map V.int))
def GridV (H:Hp)(xs:List V)(g:List (List Int)):Prop:=All2 (RowAt H) xs g
theorem RowAt.mono {H H':Hp}{x:V}{r:List Int}(s:Same H H')(h:RowAt H x r):RowAt H' x r:=by
 obtain ⟨p,e,g⟩:=h;exact ⟨p,e,s _ _ g⟩
theorem GridV.mono {H H':Hp}{xs:List V}{g:List (List Int)}(s:Same H H')(h:GridV H xs g):GridV H' xs g:=All2.mono h fun _ _=>RowAt.mono s
structure GOk (g:List (List Int))(R C:Nat):Prop where
 rows:g.length=R
 cols:∀ r∈g,r.length=C
 pos:∀ r∈g,∀ x∈r,0<=x
def InG (R C:Nat)(b:Box):Prop:=b.1<R/\b.2<C
structure Arc where
 a:Int
 b:Int
 l:Int
 u:Int
instance:Inhabited Arc:=⟨⟨0,0,0,0⟩⟩
def Arc.vs (A:Arc):List V:=[.int A.a,.int A.b,.int A.l,.int A.u]
def ArcAt (H:Hp)(x:V)(A:Arc):Prop:=∃ p,x=.ref p/\H p=some (.tup A.vs)
def ArcsV (H:Hp)(xs:List V)(as:List Arc):Prop:=All2 (ArcAt H) xs as
theorem ArcAt.mono {H H':Hp}{x:V}{A:Arc}(s:Same H H')(h:ArcAt H x A):ArcAt H' x A:=by
 obtain ⟨p,e,g⟩:=h;exact ⟨p,e,s _ _ g⟩
theorem ArcsV.mono {H H':Hp}{xs:List V}{as:List Arc}(s:Same H H')(h:ArcsV H xs as):ArcsV H' xs as:=All2.mono h fun _ _=>ArcAt.mono s
def InN (m:Nat)(A:Arc):Prop:=0<=A.a/\A.a<m/\0<=A.b/\A.b<m
def StepOk (as:List Arc)(n pl t:Nat)(sg:Int):Prop:=∃ A,as[pl]?=some A/\((sg=1/\A.a=n/\A.b=t)\/(sg=-1/\A.b=n/\A.a=t))
def StepV (H:Hp)(as:List Arc)(n:Nat)(x:V):Prop:=∃ (q:Addr) (pl t:Nat) (sg:Int),x=.ref q/\H q=some (.tup [.int pl,.int t,.int sg])/\StepOk as n pl t sg
structure StepsAt (H:Hp)(as:List Arc)(D:Nat->Int->Prop)(bnd n:Nat)(p:Addr):Prop where
 ex:∃ ts,H p=some (.lst ts)/\ts.length<=bnd/\(∀ t∈ts,StepV H as n t) /\
  ∀ (pl t:Nat) (sg:Int),D pl sg->StepOk as n pl t sg->∃ q,V.ref q∈ts/\H q=some (.tup [.int pl,.int t,.int sg])
def J0M (as:List Arc)(fl:List Int)(pl:Nat)(sg:Int):Int:=if sg=1 then (as.getD pl default).u - fl.getD pl 0 else fl.getD pl 0 - (as.getD pl default).l
structure StreamAt (H:Hp)(C x:Addr)(m:Nat)(as:List Arc)(fl:List Int):Prop where
 ex:∃ (dx la lb ls:Addr) (xs:List V) (sa:List Addr),H x=some (.ins C dx [("arcs",.ref la),("borne",.ref lb),("steps",.ref ls)])/\H la=some (.lst xs)/\ArcsV H xs as/\H lb=some (.lst (fl.map V.int)) /\
  H ls=some (.lst (sa.map V.ref))/\sa.length=m/\∀ (n:Nat) p,sa[n]?=some p->StepsAt H as (fun _ _=>True) (2 * as.length) n p
 len:fl.length=as.length
 small:as.length<=1000/\m<=1000
 inn:∀ A∈as,InN m A
theorem StepV.mono {H H':Hp}{as:List Arc}{n:Nat}{x:V}(s:Same H H')(h:StepV H as n x):StepV H' as n x:=by
 obtain ⟨q,pl,t,sg,e,g,r⟩:=h;exact ⟨q,pl,t,sg,e,s _ _ g,r⟩
theorem StepsAt.mono {H H':Hp}{as:List Arc}{D:Nat->Int->Prop}{bnd n:Nat}{p:Addr}(s:Same H H')(h:StepsAt H as D bnd n p):StepsAt H' as D bnd n p:=by
 obtain ⟨ts,e,l,a,b⟩:=h.ex;refine ⟨ts,s _ _ e,l,fun t ht=>(a t ht).mono s,fun pl t sg h1 h2=>?_⟩;obtain ⟨q,h3,h4⟩:=b pl t sg h1 h2;exact ⟨q,h3,s _ _ h4⟩
theorem StreamAt.mono {H H':Hp}{C x:Addr}{m:Nat}{as:List Arc}{fl:List Int}(s:Same H H')(h:StreamAt H C x m as fl):StreamAt H' C x m as fl:=by
 obtain ⟨dx,la,lb,ls,xs,sa,h1,h2,h3,h4,h5,h6,h7⟩:=h.ex;exact ⟨⟨dx,la,lb,ls,xs,sa,s _ _ h1,s _ _ h2,h3.mono s,s _ _ h4,s _ _ h5,h6,fun n p hp=>(h7 n p hp).mono s⟩,h.len,h.small,h.inn⟩
def J7h (as:List Arc)(fl:List Int)(n pl t:Nat)(sg:Int):Prop:=StepOk as n pl t sg/\0<J0M as fl pl sg
abbrev Ent:=Nat×Option (Nat×Nat×Int)
def Jv (es:List Ent):List Nat:=es.map (·.1)
def EntV (H:Hp)(kv:Key×V)(e:Ent):Prop:=kv.1=Sum.inl (e.1:Int)/\match e.2 with
 | none=>kv.2=.non
 | some (n,pl,sg)=>∃ q,kv.2=.ref q/\H q=some (.tup [.int n,.int pl,.int sg])
theorem EntV.mono {H H':Hp}{kv:Key×V}{e:Ent}(s:Same H H')(h:EntV H kv e):EntV H' kv e:=by
 obtain ⟨k,o⟩:=e;cases o with
 | none=>exact h
 | some z=>obtain ⟨a,q,b,c⟩:=h;exact ⟨a,q,b,s _ _ c⟩
def EntsV (H:Hp)(kvs:List (Key×V))(es:List Ent):Prop:=All2 (EntV H) kvs es
theorem EntsV.mono {H H':Hp}{kvs:List (Key×V)}{es:List Ent}(s:Same H H')(h:EntsV H kvs es):EntsV H' kvs es:=All2.mono h fun _ _=>EntV.mono s
def TSame (H H':Hp):Prop:=∀ q zs,H q=some (.tup zs)->H' q=some (.tup zs)
theorem TSame.set {H H':Hp}(s:TSame H H'){p:Addr}{o o':HO}(h:H' p=some o)(hn:∀ zs,o≠.tup zs):TSame H (upd H' p o'):=fun q zs z=>by
 have h1:=s q zs z;rw [Jd (fun e=>by subst e;rw [h] at h1;exact hn zs (yq h1))];exact h1
theorem TSame.new {H H':Hp}(s:TSame H H'){p:Addr}{o':HO}(h:H' p=none):TSame H (upd H' p o'):=fun q zs z=>by
 have h1:=s q zs z;rw [Jd (fun e=>by subst e;rw [h] at h1;cases h1)];exact h1
theorem TSame.refl (H:Hp):TSame H H:=fun _ _ z=>z
theorem EntV.monoT {H H':Hp}{kv:Key×V}{e:Ent}(s:TSame H H')(h:EntV H kv e):EntV H' kv e:=by
 obtain ⟨k,o⟩:=e;cases o with
 | none=>exact h
 | some z=>obtain ⟨a,q,b,c⟩:=h;exact ⟨a,q,b,s _ _ c⟩
theorem EntsV.monoT {H H':Hp}{kvs:List (Key×V)}{es:List Ent}(s:TSame H H')(h:EntsV H kvs es):EntsV H' kvs es:=All2.mono h fun _ _=>EntV.monoT s
theorem StepV.monoT {H H':Hp}{as:List Arc}{n:Nat}{x:V}(s:TSame H H')(h:StepV H as n x):StepV H' as n x:=by
 obtain ⟨q,pl,t,sg,e,g,r⟩:=h;exact ⟨q,pl,t,sg,e,s _ _ g,r⟩
theorem StepOk.same {as:List Arc}{n n' pl t t':Nat}{sg:Int}(h:StepOk as n pl t sg)(h':StepOk as n' pl t' sg):n=n'/\t=t':=by
 obtain ⟨A,hA,c⟩:=h;obtain ⟨A',hA',c'⟩:=h';rw [hA] at hA';cases hA';rcases c with ⟨rfl,a,b⟩ | ⟨rfl,a,b⟩<;>rcases c' with ⟨e,a',b'⟩ | ⟨e,a',b'⟩<;>first | exact ⟨by omega,by omega⟩ | exact absurd e (by decide)
theorem steps_app {H:Hp}{sa:List Addr}(nd:sa.Nodup){as:List Arc}{D:Nat->Int->Prop}{bnd:Nat}(h:∀ (n:Nat) a,sa[n]?=some a->StepsAt H as D bnd n a){N pl t:Nat}{sg:Int}{aN r:Addr}{ts:List V}(hN:sa[N]?=some aN)(so:StepOk as N pl t sg)(hr:H r=none)(hts:H aN=some (.lst ts)) :
 ∀ (n:Nat) a,sa[n]?=some a->StepsAt (upd (upd H r (.tup [.int pl,.int t,.int sg])) aN (.lst (ts++[.ref r]))) as (fun pl' sg'=>D pl' sg'\/(pl'=pl/\sg'=sg)) (bnd+1) n a:=by
 intro n a ha;have nr:aN≠r:=Jh hts hr;have tss:TSame H (upd (upd H r (.tup [.int pl,.int t,.int sg])) aN (.lst (ts++[.ref r]))):=((TSame.refl H).new hr).set (by rw [Jd nr];exact hts) (fun _ z=>by cases z);obtain ⟨ts',e,l,p1,p2⟩:=(h n a ha).ex;have nar:a≠r:=Jh e hr;by_cases c:n=N
 ·subst c
  rw [hN] at ha;cases ha;rw [hts] at e;cases e;refine ⟨ts++[.ref r],J1,by simp;exact l,fun y hy=>?_,fun pl' t' sg' hd so'=>?_⟩
  ·rcases yQ.mp hy with z | z
   ·exact (p1 y z).monoT tss
   ·exact ⟨r,pl,t,sg,yD.mp z,by rw [Jd (Ne.symm nr),J1],so⟩
  ·rcases hd with hd | ⟨rfl,rfl⟩
   ·obtain ⟨q,h3,h4⟩:=p2 pl' t' sg' hd so'
    exact ⟨q,yS _ h3,tss _ _ h4⟩
   ·obtain ⟨_,rfl⟩:=so.same so'
    exact ⟨r,yR _ (yD.mpr rfl),by rw [Jd (Ne.symm nr),J1]⟩
 ·have naN:a≠aN:=fun z=>by
   subst z;exact c ((List.getElem?_inj (yB.mp ha).1 nd).mp (ha.trans hN.symm))
  refine ⟨ts',by rw [Jd naN,Jd nar];exact e,by omega,fun y hy=>(p1 y hy).monoT tss,fun pl' t' sg' hd so'=>?_⟩;rcases hd with hd | ⟨rfl,rfl⟩
  ·obtain ⟨q,h3,h4⟩:=p2 pl' t' sg' hd so'
   exact ⟨q,h3,tss _ _ h4⟩
  ·exact absurd (so'.same so).1 c
def SameBut (x:Addr)(H H':Hp):Prop:=∀ b o,b≠x->H b=some o->H' b=some o
theorem SameBut.new {x:Addr}{H H':Hp}(s:SameBut x H H'){p:Addr}{o:HO}(h:H' p=none):SameBut x H (upd H' p o):=fun b q n z=>by
 have:=s b q n z;rw [Jd (fun e=>by subst e;rw [h] at this;cases this)];exact this
theorem SameBut.at {x:Addr}{H H':Hp}(s:SameBut x H H'){o:HO}:SameBut x H (upd H' x o):=fun b q n z=>by
 rw [Jd n];exact s b q n z
theorem SameBut.set {x:Addr}{H H':Hp}(s:SameBut x H H'){p:Addr}{o:HO}(h:H p=none):SameBut x H (upd H' p o):=fun b q n z=>by
 rw [Jd (fun e=>by subst e;rw [h] at z;cases z)];exact s b q n z
structure CInv (as:List Arc)(fl:List Int)(m start:Nat)(es:List Ent):Prop where
 hd:∃ r,es=(start,none)::r
 some_:∀ (i:Nat) e,es[i+1]?=some e->e.2≠none
 tree:∀ (i:Nat) k n pl sg,es[i]?=some (k,some (n,pl,sg))->n∈Jv (es.take i)/\J7h as fl n pl k sg
 nd:(Jv es).Nodup
 lt:∀ k∈Jv es,k<m
def Closed (as:List Arc)(fl:List Int)(es:List Ent)(n:Nat):Prop:=∀ pl t sg,J7h as fl n pl t sg->t∈Jv es
theorem J17 (a b:List Ent):Jv (a++b)=Jv a++Jv b:=yP
theorem Closed.more {as:List Arc}{fl:List Int}{es es':List Ent}{n:Nat}(h:Closed as fl es n)(s:∀ k∈Jv es,k∈Jv es'):Closed as fl es' n:=fun pl t sg z=>s _ (h pl t sg z)
theorem CInv.start {as:List Arc}{fl:List Int}{m s:Nat}(h:s<m):CInv as fl m s [(s,none)] where
 hd:=⟨_,rfl⟩
 some_:=fun i e h=>by simp at h
 tree:=fun i k n pl sg h=>by
  cases i with
  | zero=>simp at h
  | succ i=>simp at h
 nd:=by simp [Jv]
 lt:=fun k hk=>by simp [Jv] at hk;omega
theorem CInv.snoc {as:List Arc}{fl:List Int}{m s:Nat}{es:List Ent}(h:CInv as fl m s es){n pl t:Nat}{sg:Int}(hn:n∈Jv es)(st:J7h as fl n pl t sg)(ht:t∉Jv es)(hm:t<m):CInv as fl m s (es++[(t,some (n,pl,sg))]) where
 hd:=by obtain ⟨r,e⟩:=h.hd;exact ⟨r++[(t,some (n,pl,sg))],by rw [e];rfl⟩
 some_:=fun i e he=>by
  by_cases c:i+1<es.length
  ·rw [yW c] at he;exact h.some_ i e he
  ·rw [yV (by omega)] at he
   cases j:i+1 - es.length with
   | zero=>rw [j] at he;simp at he;subst he;simp
   | succ j'=>rw [j] at he;simp at he
 tree:=fun i k n' pl' sg' he=>by
  by_cases c:i<es.length
  ·rw [yW c] at he
   obtain ⟨h1,h2⟩:=h.tree i k n' pl' sg' he;refine ⟨?_,h2⟩;rw [take_append_of_le_length (by omega)];exact h1
  ·rw [yV (by omega)] at he
   cases j:i - es.length with
   | zero =>
     rw [j] at he;simp at he;obtain ⟨rfl,rfl,rfl,rfl⟩:=he;have e:i=es.length:=by omega
     rw [e,take_append_of_le_length (yj _),yO];exact ⟨hn,st⟩
   | succ j'=>rw [j] at he;simp at he
 nd:=by
  rw [J17];refine nodup_append.mpr ⟨h.nd,by simp [Jv],fun a ha b hb=>?_⟩;simp [Jv] at hb;subst hb;exact fun e=>ht (e ▸ ha)
 lt:=fun k hk=>by
  rw [J17] at hk;rcases yQ.mp hk with z | z
  ·exact h.lt k z
  ·simp [Jv] at z;omega
theorem CInv.len {as:List Arc}{fl:List Int}{m s:Nat}{es:List Ent}(h:CInv as fl m s es):es.length<=m:=by
 have:=nodup_le m (Jv es) h.nd h.lt;unfold Jv at this;rwa [yC] at this
structure Came (as:List Arc)(fl:List Int)(m start:Nat)(es:List Ent):Prop extends CInv as fl m start es where
 closed:∀ n∈Jv es,Closed as fl es n
theorem J3V {H:Hp}:∀ {kvs:List (Key×V)} {es:List Ent},EntsV H kvs es->∀ k:Nat,(J11 kvs (Sum.inl (k:Int))).isSome=decide (k∈Jv es)
 | [],[],_,k=>by simp [J11,Jv]
 | [],_::_,h,_=>by have:=h.1;simp at this
 | _::_,[],h,_=>by have:=h.1;simp at this
 | kv::kvs,e::es,h,k=>by
   obtain ⟨h1,h2⟩:=All2.tail h;by_cases c:k=e.1
   ·rw [J2s (by rw [h1.1,c])]
    simp [Jv,c]
   ·rw [J2t (by rw [h1.1];intro z;exact c (by have:=Sum.inl.inj z;omega)),J3V h2 k]
    unfold Jv;rw [yM];simp only [yL,c,false_or]
theorem Jbc {H:Hp}{kvs:List (Key×V)}{es:List Ent}(h:EntsV H kvs es){k:Nat}(hk:k∉Jv es)(v:V):J1p kvs (Sum.inl (k:Int)) v=kvs++[(Sum.inl (k:Int),v)]:=by
 unfold J1p;rw [yh];intro z;obtain ⟨kv,hm,he⟩:=any_eq_true.mp z;obtain ⟨e,hem,r⟩:=All2.meml h hm;have h1:=of_decide_eq_true he;rw [r.1] at h1;have h2:(e.1:Int)=k:=Sum.inl.inj h1;exact hk (by
  have:e.1=k:=by omega
  rw [<- this];exact mem_map_of_mem hem)
inductive Reach (L:Nat->Nat->Prop)(s:Nat):Nat->Prop
 | here:Reach L s s
 | step {u v:Nat}:Reach L s u->L u v->Reach L s v
theorem Reach.stays {L:Nat->Nat->Prop}{s v:Nat}{P:Nat->Prop}(h:Reach L s v)(hs:P s)(hc:∀ a b,P a->L a b->P b):P v:=by
 induction h with
 | here=>exact hs
 | step _ l ih=>exact hc _ _ ih l
def J4q (as:List Arc)(fl:List Int)(u v:Nat):Prop:=∃ pl sg,J7h as fl u pl v sg
theorem CInv.reach {as:List Arc}{fl:List Int}{m s:Nat}{es:List Ent}(h:CInv as fl m s es):∀ (i:Nat) e,es[i]?=some e->Reach (J4q as fl) s e.1:=by
 intro i
 induction i using Nat.strongRecOn with
 | ind i ih =>
   intro e he;obtain ⟨k,o⟩:=e;cases o with
   | none =>
     cases i with
     | zero =>
       obtain ⟨r,e⟩:=h.hd;rw [e] at he;simp at he;rw [<- he];exact .here
     | succ i=>exact absurd rfl (h.some_ i _ he)
   | some z =>
     obtain ⟨n,pl,sg⟩:=z;obtain ⟨h1,h2⟩:=h.tree i k n pl sg he;unfold Jv at h1;obtain ⟨e',hm,rfl⟩:=yU.mp h1;obtain ⟨j,hj⟩:=yT.mp hm;have hji:j<i:=by
      have:=(yB.mp hj).1;rw [yI] at this;omega
     rw [List.getElem?_take_of_lt hji] at hj;exact (ih j hji e' hj).step ⟨pl,sg,h2⟩
theorem Came.iff {as:List Arc}{fl:List Int}{m s:Nat}{es:List Ent}(h:Came as fl m s es)(v:Nat):v∈Jv es↔Reach (J4q as fl) s v:=by
 constructor
 ·intro hv
  obtain ⟨e,he,rfl⟩:=yU.mp hv;obtain ⟨i,hi⟩:=yT.mp he;exact h.toCInv.reach i e hi
 ·intro hr
  refine hr.stays (P:=fun v=>v∈Jv es) ?_ fun a b ha ⟨pl,sg,st⟩=>h.closed a ha pl b sg st;obtain ⟨r,e⟩:=h.hd;rw [e];exact yK
theorem cells_split:∀ (names:List (Str×NameKind)) (h:Heap) (acc:List (Str×Addr)) (x:Str) (c:Addr),(cellsFrom h.objs.size names acc).lookup x=some c ->
 (h.objs.size<=c/\(x,NameKind.cell)∈names/\(pushCells h names).IsCell c none)\/acc.lookup x=some c
 | [],_,_,_,_,e=>.inr e
 | (y,k)::r,h,acc,x,c,e=>by
   unfold cellsFrom at e;unfold pushCells;cases hk:k == NameKind.cell with
   | false =>
     rw [hk,yh yk] at e;rw [yh yk];rcases cells_split r h acc x c e with ⟨a,b,d⟩ | q
     ·exact .inl ⟨a,yJ _ b,d⟩
     ·exact .inr q
   | true =>
     have ek:k=NameKind.cell:=by simpa using hk
     subst ek;rw [hk,yi rfl] at e;rw [yi rfl];have e2:(cellsFrom (h.push { cls:=.type "cell",data:=.cell none }).objs.size r ((y,h.objs.size)::acc)).lookup x=some c:=by rw [Heap.size_push];exact e
     rcases cells_split r _ _ x c e2 with ⟨a,b,d⟩ | q
     ·rw [Heap.size_push] at a
      exact .inl ⟨by omega,yJ _ b,d⟩
     ·by_cases hx:x=y
      ·subst hx
       rw [lookup_cons,beq_self_eq_true] at q;cases q;exact .inl ⟨yj _,yK,⟨_,pushCells_keeps _ _ _ _ (y6 _ rfl),rfl⟩⟩
      ·rw [lookup_cons,beq_eq_false_iff_ne.mpr hx] at q
       exact .inr q
theorem J2Y {x:Str}:∀ (names:List (Str×NameKind)) (n:Nat) (acc:List (Str×Addr)),(x,NameKind.cell)∉names->(cellsFrom n names acc).lookup x=acc.lookup x
 | [],_,_,_=>rfl
 | (y,k)::r,n,acc,h=>by
   unfold cellsFrom;have hr:(x,NameKind.cell)∉r:=fun z=>h (yJ _ z);cases hk:k == NameKind.cell with
   | false=>rw [yh yk];exact J2Y r n acc hr
   | true =>
     have ek:k=NameKind.cell:=by simpa using hk
     subst ek;rw [yi rfl,J2Y r _ _ hr,lookup_cons,beq_eq_false_iff_ne.mpr (fun e:x=y=>h (by rw [e];exact yK))]
theorem cells_lo {x:Str}{lo c:Nat}:∀ (names:List (Str×NameKind)) (n:Nat) (acc:List (Str×Addr)),lo<=n->((x,NameKind.cell)∈names\/∀ d,acc.lookup x=some d->lo<=d)->(cellsFrom n names acc).lookup x=some c->lo<=c
 | [],_,_,_,h,e=>h.elim (fun z=>nomatch z) fun z=>z _ e
 | (y,k)::r,n,acc,hn,h,e=>by
   unfold cellsFrom at e;cases hk:k == NameKind.cell with
   | false =>
     rw [hk,yh yk] at e;refine cells_lo r n acc hn (h.imp (fun z=>?_) id) e;rcases yL.mp z with q | q
     ·cases q;simp at hk
     ·exact q
   | true =>
     rw [hk,yi rfl] at e;refine cells_lo r (n+1) _ (by omega) ?_ e;by_cases hx:x=y
     ·subst hx
      exact .inr fun d q=>by rw [lookup_cons,beq_self_eq_true] at q;cases q;exact hn
     ·refine h.imp (fun z=>?_) fun z d q=>z d (by rw [lookup_cons,beq_eq_false_iff_ne.mpr hx] at q;exact q)
      rcases yL.mp z with q | q
      ·cases q;exact absurd rfl hx
      ·exact q
theorem cells_inj {x y:Str}{c:Nat}:∀ (names:List (Str×NameKind)) (n:Nat) (acc:List (Str×Addr)),(∀ z d,acc.lookup z=some d->d<n)->(∀ z w d,acc.lookup z=some d->acc.lookup w=some d->z=w) ->
 (cellsFrom n names acc).lookup x=some c->(cellsFrom n names acc).lookup y=some c->x=y
 | [],_,_,_,h,e1,e2=>h _ _ _ e1 e2
 | (v,k)::r,n,acc,hn,h,e1,e2=>by
   unfold cellsFrom at e1 e2;cases hk:k == NameKind.cell with
   | false =>
     rw [hk,yh yk] at e1 e2;exact cells_inj r n acc hn h e1 e2
   | true =>
     rw [hk,yi rfl] at e1 e2;refine cells_inj r (n+1) ((v,n)::acc) (fun z d q=>?_) (fun z w d q1 q2=>?_) e1 e2
     ·rw [lookup_cons] at q
      split at q
      ·cases q;exact Nat.lt_succ_self _
      ·exact Nat.lt_succ_of_lt (hn _ _ q)
     ·rw [lookup_cons] at q1 q2
      split at q1<;>split at q2
      ·rename_i _ a _ b;rw [beq_iff_eq] at a b;rw [a,b]
      ·cases q1;exact absurd (hn _ _ q2) (Nat.lt_irrefl _)
      ·cases q2;exact absurd (hn _ _ q1) (Nat.lt_irrefl _)
      ·exact h _ _ _ q1 q2
theorem J5S {M:Model}{A:Around}{E:Value->Shared->Prop}{s:Shared}{scope:Scope}{globals:Addr}{cl:List (Str×Addr)}{qual:Str}{func:Option Addr}{code:Value}{outer:Env}{builtins:Addr}{Q:Env->Shared->Prop}
 (hQ:Q (newEnv scope s.heap.objs.size globals (cellsFrom (s.heap.objs.size+1) scope.names cl) qual func code (some outer) builtins) { s with heap:=pushCells (s.heap.push { cls:=.type "dict",data:=.dict #[] }) scope.names }) :
 wpAny M A (newFunctionEnv scope globals cl [] qual func code (some outer) builtins) Q E s:=by
 simp only [newFunctionEnv,Option.isSome_some,if_true];refine yf (wpAny_alloc ?_);refine yf (wpAny_layCells _ (fun name kind cells=>by cases hkc:kind == NameKind.cell<;>simp [hkc]) _ _ _ _ ?_);rw [show ({ s with heap:=s.heap.push { cls:=.type "dict",data:=.dict #[] } }:Shared).heap.objs.size=s.heap.objs.size+1 from Heap.size_push ..];rw [forIn_nil];exact yf (yg (yg hQ))
structure CompScC (sc osc:Scope)(N rest:List Str):Prop where
 kind:sc.kind=.function
 okind:osc.kind=.function
 cel:∀ x,(x,NameKind.cell)∈sc.names->sc.names.lookup x=some .cell
 loc:∀ y∈sc.names,y.2=.local->sc.names.lookup y.1=some .local
 free:∀ n,(n,NameKind.free)∈sc.names->osc.names.lookup n=some .cell\/osc.names.lookup n=some .free
 fre:∀ n,(n,NameKind.free)∈sc.names->sc.names.lookup n=some .free
 len:N.length=rest.length
 look:∀ (i:Nat) x,rest[i]?=some x->((Jn sc.names osc.names).lookup x=some .local\/(Jn sc.names osc.names).lookup x=some .cell\/(Jn sc.names osc.names).lookup x=some .free) ->
  N[i]?=some x/\(x,NameKind.free)∈sc.names/\(osc.names.lookup x=some .cell\/osc.names.lookup x=some .free)/\((Jn sc.names osc.names).lookup x=some .cell\/(Jn sc.names osc.names).lookup x=some .free)
def J9K (sc osc:Scope)(N rest:List Str):Bool :=
 (sc.kind == .function&&osc.kind == .function&&sc.names.all fun y=>sc.names.lookup y.1 == some y.2&&(y.2 != .free||osc.names.lookup y.1 == some .cell||osc.names.lookup y.1 == some .free))
 && N.length == rest.length&&(N.zip rest).all fun p=>match (Jn sc.names osc.names).lookup p.2 with
  | some .local=>false
  | some .cell=>p.1 == p.2&&(p.2,NameKind.free)∈sc.names&&(osc.names.lookup p.2 == some .cell||osc.names.lookup p.2 == some .free)
  | some .free=>p.1 == p.2&&(p.2,NameKind.free)∈sc.names&&(osc.names.lookup p.2 == some .cell||osc.names.lookup p.2 == some .free)
  | _=>true
theorem J5L {sc osc:Scope}{N rest:List Str}(h:J9K sc osc N rest=true):CompScC sc osc N rest:=by
 unfold J9K at h;simp only [Bool.and_eq_true,beq_iff_eq,all_eq_true] at h;obtain ⟨⟨⟨⟨hk,hok⟩,hy⟩,hl⟩,hz⟩:=h;refine ⟨hk,hok,fun x z=>(hy _ z).1,fun y z e=>by rw [(hy _ z).1,e],fun n z=>?_,fun n z=>(hy _ z).1,hl,fun i x e v=>?_⟩
 ·have:=(hy _ z).2;simpa using this
 ·have hi:i<rest.length:=(yB.mp e).1
  have hi':i<N.length:=by omega
  have hN:N[i]?=some N[i]:=yA hi';have hm:(N[i],x)∈N.zip rest:=by
   refine yG (i:=i) ?_;rw [List.getElem?_zip_eq_some];exact ⟨hN,e⟩
  have q:=hz _ hm;dsimp only at q;rcases v with v | v | v
  ·rw [v] at q;simp at q
  ·rw [v] at q;simp only [Bool.and_eq_true,beq_iff_eq,Bool.or_eq_true,decide_eq_true_eq] at q
   obtain ⟨⟨q1,q2⟩,q3⟩:=q;exact ⟨by rw [hN,q1],q2,q3,.inl v⟩
  ·rw [v] at q;simp only [Bool.and_eq_true,beq_iff_eq,Bool.or_eq_true,decide_eq_true_eq] at q
   obtain ⟨⟨q1,q2⟩,q3⟩:=q;exact ⟨by rw [hN,q1],q2,q3,.inr v⟩
theorem Jcp {names onames:List (Str×NameKind)}{x:Str}(h:(Jn names onames).lookup x=some .cell\/(Jn names onames).lookup x=some .free):(x,NameKind.free)∈names\/(x,NameKind.cell)∈names:=by
 have hm:(x,NameKind.cell)∈Jn names onames\/(x,NameKind.free)∈Jn names onames:=h.imp PySem.mem_of_lookup PySem.mem_of_lookup;rcases hm with hm | hm
 ·obtain ⟨⟨n,k⟩,hn,e⟩:=yU.mp hm
  dsimp only at e
  split at e
  ·rename_i hh;cases e;simp at hh;obtain ⟨rfl,_⟩:=hh;exact .inl hn
  ·cases e;exact .inr hn
 ·obtain ⟨⟨n,k⟩,hn,e⟩:=yU.mp hm
  dsimp only at e
  split at e
  ·cases e
  ·cases e;exact .inl hn
def JeH (scope:Scope):Str->Bool:=fun x=>scope.names.lookup x == some .cell
def JO (X:Cx)(scope:Scope)(N':List Str)(cl:List (Str×Addr))(s2:Shared)(H2:Hp)(C:Addr)(fp:List Addr):Cx :=
 { X with N:=N',s₀:=s2,H₀:=H2,env:=compEnvC scope (cellsFrom (C+1:Nat) scope.names cl) C X.env,outer:=X.stack,stack:=X.stack,ex:=fp,fn:=JeH scope,pn:=[],xe:=fun _ _=>False }
section
variable {X:Cx}{pins:List (Addr×Obj)}{σ:St}{H2:Hp}{s2:Shared}{scope:Scope}{own rest:List Str}{cl:List (Str×Addr)}{fp:List Addr}{C:Nat}
theorem JeI (I:Inv X pins σ H2 s2)(h1:∀ n c,cl.lookup n=some c->X.env.cells.lookup n=some c){x:Str}{c:Addr}(e:cl.lookup x=some c):c<s2.heap.objs.size:=by
 obtain ⟨v,q⟩:=I.cell x c (h1 x c e);exact q.lt
theorem J6K (I:Inv X pins σ H2 s2){x:Str}{c:Addr}(e:(cellsFrom (C+1) scope.names cl).lookup x=some c):C+1<=c\/cl.lookup x=some c:=by
 by_cases hx:(x,NameKind.cell)∈scope.names
 ·exact .inl (cells_lo (lo:=C+1) scope.names (C+1) cl (yj _) (.inl hx) e)
 ·rw [J2Y _ _ _ hx] at e;exact .inr e
theorem J8Q (I:Inv X pins σ H2 s2)(S:CompScC scope X.env.scope X.N rest)(h1:∀ n c,cl.lookup n=some c->X.env.cells.lookup n=some c)(h2:∀ n,(n,NameKind.free)∈scope.names->∃ c,cl.lookup n=some c)
 (hC:s2.heap.objs.size<=C) (hf:∀ b∈fp,J1M X pins H2 b) (ho:∀ b∈fp,∃ o,s2.heap.get? b=some o):(JO X scope (own++rest) cl s2 H2 C fp).Ok where
 mod:=I.ok.mod
 kind:=S.kind
 glob:=I.ok.glob
 blt:=I.ok.blt
 above:=hC
 inj:=fun x y c e1 e2=>cells_inj scope.names (C+1) cl (fun z d e=>Nat.lt_succ_of_lt (yv (JeI I h1 e) hC)) (fun z w d q1 q2=>I.ok.inj z w d (h1 z d q1) (h1 w d q2)) e1 e2
 has := fun x hx=>by
  have e:(JO X scope (own++rest) cl s2 H2 C fp).env.kindOf x=(Jn scope.names X.env.scope.names).lookup x:=congrArg (List.lookup x) (J0o (sc:=scope) I.ok.kind);rw [e] at hx;refine Option.isSome_iff_exists.mp (PySem.W.cellsFrom_some scope.names (C+1) cl ?_);rcases Jcp hx with z | z
  ·obtain ⟨c,q⟩:=h2 x z
   exact .inr (by rw [q];rfl)
  ·exact .inl (S.cel x z)
 cab := fun x c hx e=>by
  have hx':scope.names.lookup x=some .cell:=by
   have z:(scope.names.lookup x == some .cell)=true:=hx;simpa using z
  have:=cells_lo (lo:=C+1) scope.names (C+1) cl (yj _) (.inl (PySem.mem_of_lookup hx')) e;exact yx hC (Nat.le_of_succ_le this)
 hd:=I.ok.hd
 frames:=I.ok.frames
 stk:=.inl rfl
 exf:=fun b hb=>by
  obtain ⟨o,e⟩:=ho b hb;have lt:=y7 e;refine ⟨yr (yv lt hC),fun x c q=>?_⟩;rcases J6K I q with z | z
  ·exact Nat.ne_of_gt (yv lt (yx hC (Nat.le_of_succ_le z)))
  ·exact (hf b hb).2.2.2.2.1 x c (h1 x c z)
 bs:=I.bs
 bsz:=yx I.ok.bsz I.sz
 noex:=fun b o e hb=>by
  rcases (hf b hb).2.2.2.1 with z | z
  ·exact I.ok.noex b o e z
  ·exact absurd (yv (y7 e) (yx I.ok.bsz z)) (Nat.lt_irrefl _)
 exfs:=fun b hb z=>by
  rcases yL.mp (I.stkSub b z) with q | q
  ·exact (hf b hb).2.1 q
  ·exact (hf b hb).2.2.1 q
 funs:=I.stack
 frf:=I.stkFree
theorem comp_startC {h1:Heap}{t1:Nat}(I:Inv X pins σ H2 s2)(S:CompScC scope X.env.scope X.N rest)(hc1:∀ n c,cl.lookup n=some c->X.env.cells.lookup n=some c)(hc2:∀ n,(n,NameKind.free)∈scope.names->∃ c,cl.lookup n=some c)
 (hC:s2.heap.objs.size<=C) (hf:∀ b∈fp,J1M X pins H2 b) (ho:∀ b∈fp,∃ o,s2.heap.get? b=some o)
 (old:∀ b o,s2.heap.get? b=some o->h1.get? b=some o) (ns:h1.Ns C fun _=>none) (nc:∀ x c,(cellsFrom (C+1) scope.names cl).lookup x=some c->h1.IsCell c none\/cl.lookup x=some c) :
 Inv (JO X scope (own++rest) cl s2 H2 C fp) [] (List.replicate own.length none++σ) H2 { s2 with heap:=h1,toks:=t1 }:=by
 obtain ⟨m,hn,hl⟩:=id I.loc;have hv:∀ x,Vis (JO X scope (own++rest) cl s2 H2 C fp).env.scope x->((Jn scope.names X.env.scope.names).lookup x=some .local\/(Jn scope.names X.env.scope.names).lookup x=some .cell\/(Jn scope.names X.env.scope.names).lookup x=some .free):=fun x z=>by
  have e:(JO X scope (own++rest) cl s2 H2 C fp).env.scope.names=Jn scope.names X.env.scope.names:=J0o (sc:=scope) I.ok.kind;unfold Vis at z;rw [e] at z;exact z
 refine ⟨J8Q I S hc1 hc2 hC hf ho,rfl,I.bare,Un.kept old,⟨_,ns,fun i x v e1 e2 e3=>?_⟩,fun x c e=>?_,I.hok.fresh hC,fun x c e=>?_,fun p hp=>absurd (show p∈([]:List (Addr×Obj)) from hp) (by simp),I.hok.kept old,?_⟩
 ·have e1':(own++rest)[i]?=some x:=e1
  by_cases hi:i<own.length
  ·rw [yW (by simpa using hi),List.getElem?_replicate] at e2
   split at e2<;>cases e2
  ·have hi':own.length<=i:=Nat.le_of_not_lt hi
   rw [yV (by simpa using hi'),yZ] at e2;rw [yV hi'] at e1';obtain ⟨q1,q2,q3,q4⟩:=S.look _ x e1' (hv x e3);obtain ⟨u,r,l⟩:=hl (i - own.length) x v q1 e2 (q3.elim (fun z=>.inr (.inl z)) fun z=>.inr (.inr z));refine ⟨u,r,.inr ⟨?_,?_⟩⟩
   ·have e:(JO X scope (own++rest) cl s2 H2 C fp).env.kindOf x=(Jn scope.names X.env.scope.names).lookup x:=congrArg (List.lookup x) (J0o (sc:=scope) I.ok.kind)
    rw [e];exact q4
   ·rcases l with ⟨k,_⟩ | ⟨_,c,e,z⟩
    ·have k':X.env.scope.names.lookup x=some .local:=k
     rcases q3 with q3 | q3<;>(rw [q3] at k';cases k')
    ·obtain ⟨c',e'⟩:=hc2 x q2
     have e2:=hc1 x c' e';rw [e] at e2;cases e2;obtain ⟨o,q,d⟩:=z;refine ⟨c,?_,o,old c o q,d⟩;show (cellsFrom (C+1) scope.names cl).lookup x=some c;rw [J2Y _ _ _ fun z=>by have:=S.cel x z;rw [S.fre x q2] at this;cases this];exact e'
 ·rcases nc x c e with z | z
  ·exact ⟨_,z⟩
  ·obtain ⟨v,o,q,d⟩:=I.cell x c (hc1 x c z)
   exact ⟨v,o,old c o q,d⟩
 ·rcases J6K I e with z | z
  ·exact I.hok.fresh (yx hC (Nat.le_of_succ_le z))
  ·exact I.freeC x c (hc1 x c z)
 ·show _=(own++rest).length
  have:=I.len;have:=S.len;simp only [yH,yZ];omega
theorem Jas {H':Hp}{s':Shared}{σ':St}{D:Addr}{ys:List V}{its:List Value}{n:Nat}{pins':List (Addr×Obj)}(I:Inv X pins σ H2 s2)(J:Inv (JO X scope (own++rest) cl s2 H2 C fp) pins' σ' H' s')(hf:∀ b∈fp,J1M X pins H2 b)
 (hD:s2.heap.objs.size<=D) (hDn:H' D=none) (hDo:s'.heap.get? D=some { cls:=.type "list",data:=.seq its.toArray n }) (r:Vals ys its) (hz:ys.length<=sizeLine) :
 Inv X pins σ (upd H' D (.lst ys)) s':=by
 have u:Un (frs X.stack) fp H2 H' s2.heap s'.heap:=J.base;have nD:∀ b o,s2.heap.get? b=some o->b≠D:=fun b o e=>yr (yv (y7 e) hD);refine I.call' (ch:=fp) J.os ⟨u.keep,u.slot,fun b o e n hx=>?_,u.there,fun b xs e=>?_,fun b o v e=>?_,fun b ps e=>?_⟩ (fun b o e=>?_) J.bare fun b hb=>?_
 ·rw [Jd (nD b o e)];exact u.free b o e n hx
 ·rw [Jd (Jh (u.tups b xs e) hDn)];exact u.tups b xs e
 ·rw [Jd (Jh (u.frzs b o v e) hDn)];exact u.frzs b o v e
 ·obtain ⟨more,q⟩:=u.tbls b ps e
  exact ⟨more,by rw [Jd (Jh q hDn)];exact q⟩
 ·by_cases hb:b=D
  ·subst hb;rw [J1] at e;cases e;exact ⟨hz,its,n,r,hDo⟩
  ·rw [Jd hb] at e
   exact (J.hok b o e).stay (fun c v _ q=>q) (fun c q=>by rw [Jd (Jh q hDn)];exact q) fun c xs q=>by rw [Jd (Jh q hDn)];exact q
 ·obtain ⟨_,f1,_,f3,f4,f5⟩:=hf b hb
  exact ⟨f3,f1,f4,f5⟩
end
section
variable {X:Cx}{pins:List (Addr×Obj)}{σ:St}{H2:Hp}{s2:Shared}{scope:Scope}{own rest:List Str}{cl:List (Str×Addr)}{fp:List Addr}{E:Value->Shared->Prop}
theorem comp_runC {elt tg iter:Expr}{ifs:List Expr}{pos:Pos}{J:It}{it:Addr}{tn:Nat->Heap->Prop}{g:TG}{tt:TT}{te:TE}{fin:List V->Hp->Prop}{RR:Value->Addr->Result->Shared->Prop}{D:Nat}(hD:s2.heap.objs.size=D)(hcalm:X.calm=true)
 (I:Inv X pins σ H2 s2) (S:CompScC scope X.env.scope X.N rest) (hc1:∀ n c,cl.lookup n=some c->X.env.cells.lookup n=some c) (hc2:∀ n,(n,NameKind.free)∈scope.names->∃ c,cl.lookup n=some c)
 (T:Turn X.prog X.w X.K tg J fp it tn) (st:tn 0 s2.heap) (hf:∀ b∈fp,J1M X pins H2 b)
 (hg:PG (JO X scope (own++rest) cl s2 H2 (D+1:Nat) fp) tg g) (ht:PTs (JO X scope (own++rest) cl s2 H2 (D+1:Nat) fp) ifs tt)
 (he:PE (JO X scope (own++rest) cl s2 H2 (D+1:Nat) fp) elt te)
 (hw:J4r J g tt te fin (List.replicate own.length none++σ) H2)
 (hR:∀ (s':Shared) (H':Hp) (ys:List V),Inv X pins σ (upd H' D (.lst ys)) s'->(∃ m,s'.heap.Ns (D+1:Nat) m)->H' D=none->H' (D+1:Nat)=none->fin ys H'->RR (.ref D) (D+1:Nat) (.ok .next) s') :
 wpAny (model X.prog X.w) X.A (newList []) (fun acc s3=>wpAny (model X.prog X.w) X.A (newFunctionEnv scope X.env.globals cl [] X.env.qual none .none (some X.env)) (fun cenv s4 =>
  codeAny (model X.prog X.w) X.A (.compStart (.ListComp elt [⟨tg,iter,ifs,0⟩] scope pos) 0 (.ref it) acc { cenv with scope:=relabel scope X.env }) (RR acc cenv.locals) s4) E s3) E s2:=by
 refine wpAny_newObj_type (J5S ?_);dsimp only;generalize hHp:s2.heap.push { cls:=.type "list",dict:=none,data:=.seq ([]:List Value).toArray }=Hp2;have hC:Hp2.objs.size=s2.heap.objs.size+1:=by rw [<- hHp,Heap.size_push]
 rw [hD] at hC;have hC2:(Hp2.push { cls:=.type "dict",data:=.dict #[] }).objs.size=D+1+1:=by rw [Heap.size_push,hC]
 have hns:(pushCells (Hp2.push { cls:=.type "dict",data:=.dict #[] }) scope.names).Ns (D+1:Nat) fun _=>none:=by
  have:=(Heap.Ns.new Hp2 (.type "dict")).keeps (pushCells_keeps scope.names _);rw [hC] at this;exact this
 have nc:∀ x c,(cellsFrom (D+1+1) scope.names cl).lookup x=some c->(pushCells (Hp2.push { cls:=.type "dict",data:=.dict #[] }) scope.names).IsCell c none\/cl.lookup x=some c:=fun x c e=>by
  rw [<- hC2] at e;rcases cells_split _ _ _ _ _ e with ⟨_,_,z⟩ | z
  ·exact .inl z
  ·exact .inr z
 rw [hC];rw [hD];have nDC:D≠D+1:=yr (Nat.lt_succ_self _);have below:∀ b o,s2.heap.get? b=some o->b<D:=fun b o e=>by rw [<- hD];exact y7 e
 have old:∀ b o,s2.heap.get? b=some o->(pushCells (Hp2.push { cls:=.type "dict",data:=.dict #[] }) scope.names).get? b=some o:=fun b o e =>
  pushCells_keeps _ _ _ _ (y4 _ (hHp ▸ y4 _ e))
 have hDo:(pushCells (Hp2.push { cls:=.type "dict",data:=.dict #[] }) scope.names).get? D=some { cls:=.type "list",data:=.seq ([]:List Value).toArray 0 } :=
  pushCells_keeps _ _ _ _ (y4 _ (by rw [<- hHp,<- hD];exact y6 _ rfl))
 generalize pushCells (Hp2.push { cls:=.type "dict",data:=.dict #[] }) scope.names=h1 at hns nc old hDo ⊢;have hfo:∀ b∈fp,∃ o,s2.heap.get? b=some o:=fun b hb=>let ⟨o,e,_⟩:=T.obj 0 _ st b hb;⟨o,e⟩;have st1:tn 0 h1:=T.keep _ _ _ st fun b hb o e=>old b o e;have J0:Inv (JO X scope (own++rest) cl s2 H2 (D+1:Nat) fp) [] (List.replicate own.length none++σ) H2 { s2 with heap:=h1,toks:=s2.toks } :=
  comp_startC I S hc1 hc2 (by omega) hf hfo old hns nc
 have nfs:D∉(JO X scope (own++rest) cl s2 H2 (D+1:Nat) fp).fs:=fun z=>by
  have z':D∈frs X.stack:=z;rcases yL.mp (I.stkSub D z') with q | q
  ·exact Nat.lt_irrefl D (by have h:=I.lt;rw [<- q,hD] at h;exact h)
  ·exact I.nofs (Nat.le_of_eq hD) q
 have ncl:∀ x c,(JO X scope (own++rest) cl s2 H2 (D+1:Nat) fp).env.cells.lookup x=some c->c≠D:=fun x c e z=>by
  rcases J6K I e with q | q
  ·have hq:D+1+1<=c:=q
   exact Nat.ne_of_gt (yv (Nat.lt_succ_of_lt (Nat.lt_succ_self D)) hq) z
  ·obtain ⟨v,o,q,d⟩:=I.cell x c (hc1 x c q)
   exact yr (below c o q) z
 have loop:∀ s3:Shared,s3={ s2 with heap:=h1,toks:=s2.toks } ->
  codeAny (model X.prog X.w) X.A (.compLoop (.ListComp elt [⟨tg,iter,ifs,0⟩] scope pos) 0 (.ref it) (.ref D) (compEnvC scope (cellsFrom (D+1+1) scope.names cl) (D+1) X.env)) (RR (.ref D) (D+1)) s3:=by
  rintro s3 rfl;obtain ⟨W,⟨m0,w0⟩,turn⟩:=hw;refine J6r (fun m s'=>∃ (i:Nat) (ys:List V) (its:List Value) (n:Nat) (σ':St) (H':Hp),Inv (JO X scope (own++rest) cl s2 H2 (D+1:Nat) fp) [] σ' H' s'/\tn i s'.heap/\(∀ b∈fp,H' b=none) /\
   s'.heap.get? D=some { cls:=.type "list",data:=.seq its.toArray n }/\H' D=none/\Vals ys its/\ys.length<=sizeLine/\W i m ys σ' H') ?_ m0
   ⟨0,[],[],0,_,H2,J0,st1,fun b hb=>(hf b hb).1,hDo,by rw [<- hD];exact I.fresh,.nil,by simp,w0⟩
  rintro m s3 ⟨i,ys,its,n,σ3,H3,J3,st3,fr3,ho3,hn3,r3,z3,w3⟩;have pin:∀ {σ':St} {H':Hp} {s':Shared},Inv (JO X scope (own++rest) cl s2 H2 (D+1:Nat) fp) [] σ' H' s'->s'.heap.get? D=some { cls:=.type "list",data:=.seq its.toArray n }->H' D=none ->
   Inv (JO X scope (own++rest) cl s2 H2 (D+1:Nat) fp) [(D,{ cls:=.type "list",data:=.seq its.toArray n })] σ' H' s':=fun {σ' H' s'} K1 K2 K3 =>
   K1.pins_of fun p hp=>by
    have e:p=(D,{ cls:=.type "list",data:=.seq its.toArray n }):=by simpa using hp
    subst e;exact ⟨K2,K3,nDC,nfs,fun v z=>nomatch z⟩
  have fpk:∀ {H':Hp},(∀ b∈fp,H' b=none)->∀ b∈fp,J1M (JO X scope (own++rest) cl s2 H2 (D+1:Nat) fp) [(D,{ cls:=.type "list",data:=.seq its.toArray n })] H' b:=fun {H'} fr b hb=>by
   obtain ⟨o,e⟩:=hfo b hb;have lt:=below b o e;refine ⟨fr b hb,yr (Nat.lt_succ_of_lt lt),?_,.inl hb,fun x c q=>?_,fun p hp=>?_⟩
   ·intro z
    have z':b∈frs X.stack:=z;rcases yL.mp (I.stkSub b z') with q | q
    ·exact (hf b hb).2.1 q
    ·exact (hf b hb).2.2.1 q
   ·rcases J6K I q with z | z
    ·have hz:D+1+1<=c:=z
     exact Nat.ne_of_gt (yv (Nat.lt_succ_of_lt (Nat.lt_succ_of_lt lt)) hz)
    ·exact (hf b hb).2.2.2.2.1 x c (hc1 x c z)
   ·have e:p=(D,{ cls:=.type "list",data:=.seq its.toArray n }):=by
     have hp':p∈[(D,({ cls:=.type "list",data:=.seq its.toArray n }:Obj))]:=hp;simpa using hp'
    subst e;exact Nat.ne_of_gt lt
  have J3p:=pin J3 ho3 hn3;rcases turn i m ys σ3 H3 w3 with ⟨stop,q⟩ | ⟨go,hlt,N,hN,step⟩
  ·refine thn (T.done (JO X scope (own++rest) cl s2 H2 (D+1:Nat) fp) rfl rfl rfl hcalm i _ s3 σ3 H3 _ J3p (fpk fr3) st3 stop) fun r s4 ⟨hr,J4⟩=>?_
   subst hr;have ho4:=J4.pin _ (yR _ yK);refine hR s4 H3 ys (Jas I J4 hf (by omega) hn3 ho4.1 r3 z3) ?_ hn3 J4.free q;obtain ⟨mm,hmm,_⟩:=J4.loc;exact ⟨mm,hmm⟩
  ·refine thn (T.item (JO X scope (own++rest) cl s2 H2 (D+1:Nat) fp) rfl rfl rfl hcalm i _ s3 σ3 H3 _ J3p (fpk fr3) st3 go) fun r s4 ⟨u,hr,h4⟩=>?_
   subst hr;refine thn h4 fun _ s5 ⟨x,H5,J5,r5,y5,st5,fr5⟩=>?_;have J5':=J5.pinned (fpk fr5) (T.obj _ _ st5);refine thn (hg _ s5 σ3 H5 x u _ J5' r5 (step x H5 y5)) fun _ s6 ⟨σ6,H6,J6,q6⟩=>?_;refine thn (ht _ s6 σ6 H6 _ J6 q6) fun b s7 ⟨H7,J7,q7⟩=>?_;have stay:∀ {σ':St} {H':Hp} {s':Shared},Inv (JO X scope (own++rest) cl s2 H2 (D+1:Nat) fp) ([(D,{ cls:=.type "list",data:=.seq its.toArray n })]++J44 fp s5.heap) σ' H' s' ->
    Inv (JO X scope (own++rest) cl s2 H2 (D+1:Nat) fp) [] σ' H' s'/\tn (i+1) s'.heap/\(∀ b∈fp,H' b=none)/\s'.heap.get? D=some { cls:=.type "list",data:=.seq its.toArray n }/\H' D=none:=fun {σ' H' s'} K1=>by
    refine ⟨K1.pins_of fun p hp=>absurd hp (by simp),T.keep _ _ _ st5 fun b hb o e=>(K1.pin (b,o) (yR _ (yR _ (J1b hb e)))).1,fun b hb=>?_,?_,?_⟩
    ·obtain ⟨o,e,d⟩:=T.obj _ _ st5 b hb
     exact (K1.pin (b,o) (yR _ (yR _ (J1b hb e)))).2.1
    ·exact (K1.pin (D,_) (yR _ (yS _ yK))).1
    ·exact (K1.pin (D,_) (yR _ (yS _ yK))).2.1
   cases b with
   | false =>
     rw [yh yk] at q7 ⊢;obtain ⟨k1,k2,k3,k4,k5⟩:=stay J7;obtain ⟨m',hm,w'⟩:=hN _ _ _ q7;exact ⟨m',hm,i+1,ys,its,n,σ6,H7,k1,k2,k3,k4,k5,r3,z3,w'⟩
   | true =>
     rw [yi rfl] at q7 ⊢;refine thn (he _ s7 σ6 H7 _ J7 q7) fun xv s8 ⟨y,H8,J8,r8,q8⟩=>?_;obtain ⟨k1,k2,k3,k4,k5⟩:=stay J8;refine call_meets F.slot_list_append ⟨_,k4,rfl⟩ F.entry_list_append (F.args_list_append_2 _ _) (PySem.list_append D its.toArray n xv (by rw [yE,<- r3.length];omega)) ⟨k4,?_⟩;obtain ⟨m',hm,w'⟩:=hN _ _ _ q8;have ho9:=PySem.IsL.update k4 (fun a=>a.push xv);have ek:∀ b o,b≠D->s8.heap.get? b=some o->(s8.heap.update D (Obj.mapSeq (fun a=>a.push xv))).get? b=some o:=fun b o hb e=>(y8 s8.heap (Obj.mapSeq _) (Ne.symm hb)).trans e;refine ⟨m',hm,i+1,ys++[y],its++[xv],(if ((its.toArray.push xv).size == its.toArray.size)=true then n else n+1),σ6,H8,k1.turned (it:=D) (t':=s8.toks) ek k5 nDC (.inr (show s2.heap.objs.size<=D by omega)) ncl (fun p hp=>absurd (show p∈([]:List (Addr×Obj)) from hp) (by simp)),?_,k3,?_,k5,r3.append (.cons r8 .nil),?_,w'⟩
     ·refine T.keep _ _ _ k2 fun b hb o e=>ek b o ?_ e
      obtain ⟨o',e'⟩:=hfo b hb;exact yr (below b o' e')
     ·have e2:its.toArray.push xv=(its++[xv]).toArray:=by simp
      rw [<- e2];exact ho9
     ·simp only [yH,length_cons,length_nil];omega
 exact codeAny_compStart_list (loop _ rfl) (T.self X.A 0 _ _ _ st1 (loop _ rfl))
end
section
variable {X:Cx}{elt tg iter:Expr}{ifs:List Expr}{scope:Scope}{pos:Pos}{wi:TI}{g:TG}{tt:TT}{te:TE}
theorem Inv.closedC {pins:List (Addr×Obj)}{σ:St}{H:Hp}{s:Shared}{N rest:List Str}(I:Inv X pins σ H s)(S:CompScC scope X.env.scope N rest) :
 ∃ cl,closureFor scope X.env=pure cl/\(∀ n c,cl.lookup n=some c->X.env.cells.lookup n=some c)/\(∀ n,(n,NameKind.free)∈scope.names->∃ c,cl.lookup n=some c) :=
 J5O fun n z=>I.ok.has n (S.free n z)
theorem J7D (own rest:List Str)(hcalm:X.calm=true)(S:CompScC scope X.env.scope X.N rest)(hi:PI X tg iter wi)
 (hg:∀ cl s2 H2 C fp,PG (JO X scope (own++rest) cl s2 H2 C fp) tg g) (ht:∀ cl s2 H2 C fp,PTs (JO X scope (own++rest) cl s2 H2 C fp) ifs tt) (he:∀ cl s2 H2 C fp,PE (JO X scope (own++rest) cl s2 H2 C fp) elt te)
 (hs:∀ x,foldedSetIterable iter X.env x=pure x:=by intro _;rfl):PE X (.ListComp elt [⟨tg,iter,ifs,0⟩] scope pos) (J7n own.length wi g tt te):=by
 intro pins s σ H Q I h;obtain ⟨cl,hcl,hc1,hc2⟩:=I.closedC S;rw [eval_ListComp];refine wpAny_comprehension_free (use:=none) rfl hs hcl S.kind S.loc (thn (hi pins s σ H _ I h) fun v s1 h1=>thn h1 fun itv s2 h2=>?_);obtain ⟨it,fp,tn,J,H2,e,I2,T,st,hf,hw⟩:=h2;subst e;refine comp_runC (RR:=fun acc C=>compPost (model X.prog X.w) X.A X.xe none (EP X pins σ Q) acc C) (D:=s2.heap.objs.size) rfl hcalm I2 S hc1 hc2 T st hf (hg _ _ _ _ _) (ht _ _ _ _ _) (he _ _ _ _ _) hw ?_;intro s' H' ys J' ⟨m,hm⟩ hD hC q;refine ⟨m,hm,fun h' sb=>⟨.ref s2.heap.objs.size,_,I2.letgo (pins':=pins) (b:=(s2.heap.objs.size+1:Nat)) J' (Nat.le_succ _) ?_ sb,rfl,q _ hD⟩⟩;rw [Jd (Nat.ne_of_gt (Nat.lt_succ_self _))];exact hC
end
theorem J7T {X0:Cx}{sc0 osc sc:Scope}{N' N rest:List Str}{cl:List (Str×Addr)}{s2:Shared}{H2:Hp}{C:Addr}{fp:List Addr}(h0:X0.env.scope=osc)(hk:osc.kind=.function)
 (S:CompSc sc { sc0 with names:=Jn sc0.names osc.names } N rest):CompSc sc (JO X0 sc0 N' cl s2 H2 C fp).env.scope N rest:=by
 have e:(JO X0 sc0 N' cl s2 H2 C fp).env.scope.names=Jn sc0.names osc.names:=by
  have:=J0o (sc:=sc0) (env:=X0.env) (by rw [h0];exact hk);rw [h0] at this;exact this
 exact ⟨S.kind,S.okind,S.cell,S.loc,fun n z=>by rw [e];exact S.free n z,S.len,fun i x h1 h2=>by rw [e] at h2 ⊢;exact S.look i x h1 h2⟩
def BB:Int:=2 ^ 250
theorem Jcg:BB=((2 ^ 250:Nat):Int):=by unfold BB;norm_cast
theorem J45 {j:Int}(h1:-BB<j)(h2:j<BB):j.natAbs<2 ^ 250:=by
 rw [Jcg] at h1 h2;generalize (2 ^ 250:Nat)=N at *;omega
section
variable {X:Cx}
theorem J5p:OpR X (binaryOp .FloorDiv) (rI (fun _ j=>0<j/\j<BB) fun i j=>.int (i / j)):=opI fun i j _ _ _ _ _ hc q=>by
 have h1:(0:Int)<j:=hc.1;have h0:(0:Int)<=BB:=by rw [Jcg];exact Int.natCast_nonneg _
 have h2:j.natAbs<2 ^ 250:=J45 (by omega) hc.2;refine floordiv_int (by omega) (by rw [Int.fdiv_eq_ediv_of_nonneg i (by omega)];exact q) (.inl (PyProof.noPylong_of_log2 ?_));exact Nat.lt_trans ((Nat.log2_lt (by omega)).mpr h2) (by decide)
theorem J4F:OpR X (binaryOp .Mult) (rI (fun i j=>(-BB<i/\i<BB)/\-BB<j/\j<BB) fun i j=>.int (i * j)):=opI fun i j _ _ _ _ _ hc q =>
 mul_int q (.of_bits (yx (intBits_le (J45 hc.1.1 hc.1.2)) (by decide)) (yx (intBits_le (J45 hc.2.1 hc.2.2)) (by decide)))
end
section
variable {X:Cx}
def Jd8 (K:Frag):List V->Hp->VK->Prop:=fun xs H Q=>∃ l,∃ zs:List Int,xs=[.ref l]/\SqL K H l (zs.map V.int)/\zs≠[]/\∀ m∈zs,(∀ z∈zs,m<=z)->Q (.int m) H
theorem Jaw (hc:X.calm=true):J0I X (.builtin "min") (Jd8 X.K):=by
 intro pins s σ H xs us Q I r h;obtain ⟨l,zs,rfl,hq,hne,q⟩:=h;obtain ⟨lv,rfl,rl⟩:=J2r r;cases (show lv=Value.ref l from rl);obtain ⟨its,r',pl,hz⟩:=I.list hq;have hl:=r'.length;rw [yC] at hl;have hpos:0<zs.length:=length_pos_iff.mpr hne;obtain ⟨ol,hol,hcl⟩:=id pl.isList;have ll:l<s.heap.objs.size:=y7 hol;refine call_min_walk (wpAny_pyIter_list pl.isList ⟨s.heap.objs.size,_,_,_,_,_,_,rfl,Walks.list (by simp [I.ok.hd hc]) s.heap.objs.size l (yr ll) its.toArray,⟨⟨_,y6 _ rfl,rfl,rfl⟩,pl.isList.push _⟩,?_,by rw [yE];omega,CmpOf.ints_lt (fun i=>zs.getD i 0) (fun i v hv=>(J78 r' hv).2),fun v h' tk hv hk=>?_⟩)
 ·intro b hb
  rw [Heap.size_push];simp only [yL,not_mem_nil,or_false] at hb;rcases hb with rfl | rfl
  ·exact Nat.lt_succ_self _
  ·exact Nat.lt_succ_of_lt ll
 ·obtain ⟨h1,h2⟩:=argBest_lt (fun i=>zs.getD i 0) (its.toArray.size - 1)
  obtain ⟨t,rfl⟩:=(J78 r' hv).2;rw [yE,<- hl] at h1 h2 ⊢;generalize argBest (fun i j=>decide (zs.getD i 0<zs.getD j 0)) (zs.length - 1)=k at *;have hk2:k<zs.length:=by omega
  have ek:zs.getD k 0=zs[k]:=J7c (yA hk2);refine ⟨.int (zs.getD k 0),H,I.kept (t':=tk) fun b o hb=>?_,⟨_,rfl⟩,q _ (by rw [ek];exact getElem_mem hk2) fun z hz=>?_⟩
  ·refine hk b o ?_ (y4 _ hb)
   simp only [yL,not_mem_nil,or_false];exact yr (y7 hb)
  ·obtain ⟨j,hj⟩:=yT.mp hz
   have hjl:=(yB.mp hj).1;have:=h2 j (by omega);rw [J7c hj] at this;exact this
theorem JdU {K:Frag}(e:X.K=K)(hc:X.calm=true):J0I X (.builtin "min") (Jd8 K):=by subst e;exact Jaw hc
end
def Bnd (as:List Arc)(fl:List Int):Prop:=All2 (fun (A:Arc) (y:Int)=>A.l<=y/\y<=A.u) as fl
def exF:List Arc->List Int->Int->Int
 | A::as,y::fl,v=>(if A.b=v then y else 0) - (if A.a=v then y else 0)+exF as fl v
 | _,_,_=>0
theorem J9z:∀ (as:List Arc) (fl:List Int) (pl:Nat) (A:Arc) (y z v:Int),as[pl]?=some A->fl[pl]?=some y->exF as (fl.set pl z) v=exF as fl v+(if A.b=v then z - y else 0) - (if A.a=v then z - y else 0)
 | [],fl,pl,A,y,z,v,h,_=>by simp at h
 | _::_,[],pl,A,y,z,v,_,h=>by simp at h
 | B::as,x::fl,0,A,y,z,v,h1,h2=>by
   simp at h1 h2;subst h1 h2;simp only [set_cons_zero,exF]
   split<;>split<;>omega
 | B::as,x::fl,pl+1,A,y,z,v,h1,h2=>by
   simp only [set_cons_succ,exF];rw [J9z as fl pl A y z v (by simpa using h1) (by simpa using h2)];omega
def J8X (as:List Arc)(start:Nat):List (Nat×Int)->Nat->Prop
 | [],v=>v=start
 | (pl,sg)::r,v=>∃ n,StepOk as n pl v sg/\J8X as start r n
structure WayOk (as:List Arc)(fl:List Int)(start goal:Nat)(tks:List (Nat×Int)):Prop where
 back:tks≠[]->J8X as start tks goal
 room:∀ s∈tks,0<J0M as fl s.1 s.2
 sgn:∀ s∈tks,s.2=1\/s.2=-1
 lt:∀ s∈tks,s.1<as.length
 nd:(tks.map (·.1)).Nodup
 none_:tks=[]->start≠goal->¬ Reach (J4q as fl) start goal
theorem J7Q {es:List Ent}(nd:(Jv es).Nodup){i j:Nat}{e e':Ent}(hi:es[i]?=some e)(hj:es[j]?=some e')(h:e.1=e'.1):i=j:=by
 have h1:(Jv es)[i]?=some e.1:=by unfold Jv;rw [yN,hi];rfl
 have h2:(Jv es)[j]?=some e.1:=by unfold Jv;rw [yN,hj,h];rfl
 exact (List.getElem?_inj (yB.mp h1).1 nd).mp (h1.trans h2.symm)
theorem J5w {es:List Ent}{i n:Nat}(h:n∈Jv (es.take i)):∃ j e,j<i/\es[j]?=some e/\e.1=n:=by
 unfold Jv at h;obtain ⟨e,hm,rfl⟩:=yU.mp h;obtain ⟨j,hj⟩:=yT.mp hm;have hji:j<i:=by
  have:=(yB.mp hj).1;rw [yI] at this;omega
 rw [List.getElem?_take_of_lt hji] at hj;exact ⟨j,e,hji,hj,rfl⟩
theorem CInv.places {as:List Arc}{fl:List Int}{m s:Nat}{es:List Ent}(h:CInv as fl m s es){i j k k' n n' pl:Nat}{sg sg':Int}(hi:es[i]?=some (k,some (n,pl,sg)))(hj:es[j]?=some (k',some (n',pl,sg'))):¬ j<i:=by
 intro lt;obtain ⟨hn,⟨A,hA,hc⟩,_⟩:=h.tree i k n pl sg hi;obtain ⟨hn',⟨A',hA',hc'⟩,_⟩:=h.tree j k' n' pl sg' hj;rw [hA] at hA';cases hA';have hne:k≠k':=fun e=>by
  have:=J7Q h.nd hi hj e;omega
 have hk:k=n':=by
  rcases hc with ⟨_,a,b⟩ | ⟨_,a,b⟩<;>rcases hc' with ⟨_,a',b'⟩ | ⟨_,a',b'⟩<;>omega
 obtain ⟨j2,e,l2,he,e1⟩:=J5w hn';have:=J7Q h.nd hi he (by rw [e1];exact hk);omega
theorem J7j {H:Hp}:∀ {kvs:List (Key×V)} {es:List Ent} {i k:Nat} {o:Option (Nat×Nat×Int)},EntsV H kvs es->(Jv es).Nodup->es[i]?=some (k,o)->∃ kv,kvs[i]?=some kv/\EntV H kv (k,o)/\J11 kvs (Sum.inl (k:Int))=some kv.2
 | [],[],i,k,o,_,_,h=>by simp at h
 | [],_::_,_,_,_,h,_,_=>by have:=h.1;simp at this
 | _::_,[],_,_,_,h,_,_=>by have:=h.1;simp at this
 | kv::kvs,e::es,0,k,o,h,nd,he=>by
   simp at he;subst he;obtain ⟨h1,h2⟩:=All2.tail h;exact ⟨kv,rfl,h1,J2s (by rw [h1.1])⟩
 | kv::kvs,e::es,i+1,k,o,h,nd,he=>by
   obtain ⟨h1,h2⟩:=All2.tail h;have nd':(e.1::Jv es).Nodup:=nd;obtain ⟨kv',g1,g2,g3⟩:=J7j h2 (nodup_cons.mp nd').2 (by simpa using he);refine ⟨kv',by simpa using g1,g2,?_⟩;rw [J2t,g3];rw [h1.1];intro z;have:e.1=k:=by have:=Sum.inl.inj z;omega
   exact (nodup_cons.mp nd').1 (by rw [this];exact mem_map_of_mem (f:=fun e:Ent=>e.1) (yG (by simpa using he)))
def J32 (t:Int)(fl:List Int)(s:Nat×Int):List Int:=fl.set s.1 (fl.getD s.1 0+s.2 * t)
theorem J5f (t:Int)(fl:List Int)(s:Nat×Int):(J32 t fl s).length=fl.length:=by unfold J32;rw [length_set]
theorem J7w {as:List Arc}{fl:List Int}{t:Int}{s s':Nat×Int}(h:s.1≠s'.1):J0M as (J32 t fl s) s'.1 s'.2=J0M as fl s'.1 s'.2:=by
 have:(J32 t fl s).getD s'.1 0=fl.getD s'.1 0:=by
  unfold J32;rw [yF,List.getElem?_set_ne h,yF]
 unfold J0M;rw [this]
theorem Jbb {as:List Arc}{fl:List Int}{t:Int}{s:Nat×Int}(hb:Bnd as fl)(hl:s.1<as.length)(h0:0<=t)(hr:t<=J0M as fl s.1 s.2)(hs:s.2=1\/s.2=-1):Bnd as (J32 t fl s):=by
 refine ⟨by rw [J5f];exact hb.1,fun i A y hA hy=>?_⟩;by_cases e:s.1=i
 ·subst e
  have hl2:s.1<fl.length:=by rw [<- hb.1];exact hl
  unfold J32 at hy;rw [List.getElem?_set_self hl2] at hy;have e1:=yA hl2;obtain ⟨b1,b2⟩:=hb.2 s.1 A _ hA e1;unfold J0M at hr;rw [yF,yF,hA,e1] at hr;rw [yF,e1] at hy;simp only [Option.getD_some] at hr hy;have hy:=yq hy;rcases hs with hs | hs
  ·rw [yi hs] at hr
   rw [hs] at hy;omega
  ·rw [yh (by rw [hs];decide)] at hr
   rw [hs] at hy;omega
 ·unfold J32 at hy
  rw [List.getElem?_set_ne e] at hy;exact hb.2 i A y hA hy
theorem JbN {as:List Arc}{fl:List Int}{t:Int}{n pl v':Nat}{sg:Int}(hl:fl.length=as.length)(so:StepOk as n pl v' sg)(v:Int):exF as (J32 t fl (pl,sg)) v=exF as fl v+(if (v':Int)=v then t else 0) - (if (n:Int)=v then t else 0):=by
 obtain ⟨A,hA,hc⟩:=so;have hpl:pl<fl.length:=by rw [hl];exact (yB.mp hA).1
 unfold J32;rw [J9z as fl pl A _ _ v hA (yA hpl),yF,yA hpl];simp only [Option.getD_some];rcases hc with ⟨rfl,a,b⟩ | ⟨rfl,a,b⟩
 ·rw [a,b]
  split<;>split<;>omega
 ·rw [a,b]
  split<;>split<;>omega
theorem J9y {as:List Arc}{t:Int}{start:Nat}:∀ (tks:List (Nat×Int)) (fl:List Int) (goal:Nat),fl.length=as.length->J8X as start tks goal->∀ v,exF as (tks.foldl (J32 t) fl) v=exF as fl v+(if (goal:Int)=v then t else 0) - (if (start:Int)=v then t else 0)
 | [],fl,goal,hl,hb,v=>by
   have e:goal=start:=hb;subst e;simp only [foldl_nil];omega
 | (pl,sg)::r,fl,goal,hl,hb,v=>by
   obtain ⟨n,so,hr⟩:=hb;rw [foldl_cons,J9y r _ n (by rw [J5f];exact hl) hr v,JbN hl so v];omega
theorem J6o {as:List Arc}{t:Int}(h0:0<=t):∀ (tks:List (Nat×Int)) (fl:List Int),Bnd as fl->(tks.map (·.1)).Nodup->(∀ s∈tks,t<=J0M as fl s.1 s.2)->(∀ s∈tks,s.2=1\/s.2=-1)->(∀ s∈tks,s.1<as.length)->Bnd as (tks.foldl (J32 t) fl)
 | [],fl,hb,_,_,_,_=>hb
 | s::r,fl,hb,nd,hr,hs,hl=>by
   rw [yM,nodup_cons] at nd;rw [foldl_cons];refine J6o h0 r _ (Jbb hb (hl s yK) h0 (hr s yK) (hs s yK)) nd.2 (fun s' h'=>?_) (fun s' h'=>hs s' (yJ _ h')) fun s' h'=>hl s' (yJ _ h');rw [J7w (fun e=>nd.1 (by rw [e];exact mem_map_of_mem h'))];exact hr s' (yJ _ h')
structure StrmAt (H:Hp)(C x lb:Addr)(m:Nat)(as:List Arc)(fl:List Int):Prop where
 ex:∃ (dx la ls:Addr) (xs:List V) (sa:List Addr),H x=some (.ins C dx [("arcs",.ref la),("borne",.ref lb),("steps",.ref ls)])/\H la=some (.lst xs)/\ArcsV H xs as/\H lb=some (.lst (fl.map V.int)) /\
  H ls=some (.lst (sa.map V.ref))/\sa.length=m/\(∀ (n:Nat) p,sa[n]?=some p->StepsAt H as (fun _ _=>True) (2 * as.length) n p)/\la≠lb/\ls≠lb/\∀ a∈sa,a≠lb
 len:fl.length=as.length
 small:as.length<=1000/\m<=1000
 inn:∀ A∈as,InN m A
theorem StrmAt.stream {H:Hp}{C x lb:Addr}{m:Nat}{as:List Arc}{fl:List Int}(h:StrmAt H C x lb m as fl):StreamAt H C x m as fl:=by
 obtain ⟨dx,la,ls,xs,sa,h1,h2,h3,h4,h5,h6,h7,_⟩:=h.ex;exact ⟨⟨dx,la,lb,ls,xs,sa,h1,h2,h3,h4,h5,h6,h7⟩,h.len,h.small,h.inn⟩
theorem StrmAt.mono {H H':Hp}{C x lb:Addr}{m:Nat}{as:List Arc}{fl:List Int}(s:Same H H')(h:StrmAt H C x lb m as fl):StrmAt H' C x lb m as fl:=by
 obtain ⟨dx,la,ls,xs,sa,h1,h2,h3,h4,h5,h6,h7,h8⟩:=h.ex;exact ⟨⟨dx,la,ls,xs,sa,s _ _ h1,s _ _ h2,h3.mono s,s _ _ h4,s _ _ h5,h6,(fun n p hp=>(h7 n p hp).mono s),h8⟩,h.len,h.small,h.inn⟩
theorem SameBut.refl (x:Addr)(H:Hp):SameBut x H H:=fun _ _ _ z=>z
theorem SameBut.trans {x:Addr}{H H1 H2:Hp}(a:SameBut x H H1)(b:SameBut x H1 H2):SameBut x H H2:=fun c o n h=>b c o n (a c o n h)
theorem SameBut.same {x:Addr}{H H1 H2:Hp}(a:SameBut x H H1)(b:Same H1 H2):SameBut x H H2:=fun c o n h=>b c o (a c o n h)
theorem StrmAt.turn {H H':Hp}{C x lb:Addr}{m:Nat}{as:List Arc}{fl fl':List Int}(h:StrmAt H C x lb m as fl)(s:SameBut lb H H')(hb:H' lb=some (.lst (fl'.map V.int)))(hl:fl'.length=fl.length):StrmAt H' C x lb m as fl':=by
 obtain ⟨dx,la,ls,xs,sa,h1,h2,h3,h4,h5,h6,h7,n1,n2,n3⟩:=h.ex;have nx:x≠lb:=J2F h1 h4 (by intro z;cases z);have ts:TSame H H':=fun q zs hq=>s q _ (J2F hq h4 (by intro z;cases z)) hq;refine ⟨⟨dx,la,ls,xs,sa,s _ _ nx h1,s _ _ n1 h2,All2.mono h3 fun _ _ ⟨p,e,g⟩=>⟨p,e,ts _ _ g⟩,hb,s _ _ n2 h5,h6,fun n p hp=>?_,n1,n2,n3⟩,by rw [hl];exact h.len,h.small,h.inn⟩;obtain ⟨ts',t1,t2,t3,t4⟩:=(h7 n p hp).ex;refine ⟨ts',s _ _ (n3 p (yG hp)) t1,t2,fun t ht=>(t3 t ht).monoT ts,fun pl t sg hd so=>?_⟩;obtain ⟨q,q1,q2⟩:=t4 pl t sg hd so;exact ⟨q,q1,ts _ _ q2⟩
end L2
namespace L2
open PySem
variable {xs:Array Nat}{j:Nat}
def Ris (xs:Array Nat):Prop:=xs.toList.Pairwise (·<·)
theorem Ris.lt (h:Ris xs){i:Nat}(hij:i<j)(hj:j<xs.size):xs[i]<xs[j]:=by
 have:=pairwise_iff_getElem.mp h i j (by simp;omega) (by simpa using hj) hij;simpa using this
theorem below_go {xs:Array Nat}{j:Nat}(h:Ris xs):∀ (fuel lo hi:Nat),lo<=hi->hi<=xs.size->hi - lo<=fuel->(∀ k (hk:k<xs.size),k<lo->xs[k]<j)->(∀ k (hk:k<xs.size),hi<=k->j<=xs[k]) ->
 SetTable.below.go xs j fuel lo hi<=xs.size/\(∀ k (hk:k<xs.size),k<SetTable.below.go xs j fuel lo hi->xs[k]<j)/\(∀ k (hk:k<xs.size),SetTable.below.go xs j fuel lo hi<=k->j<=xs[k])
 | 0,lo,hi,h1,h2,h3,h4,h5=>by
   have e:hi=lo:=by omega
   subst e;exact ⟨h2,h4,h5⟩
 | fuel+1,lo,hi,h1,h2,h3,h4,h5=>by
   unfold SetTable.below.go;by_cases c:lo<hi
   ·rw [yi c]
    have hm:(lo+hi) / 2<xs.size:=by omega
    have eg:xs.getD ((lo+hi) / 2) j=xs[(lo+hi) / 2]:=by simp [Array.getD,hm]
    dsimp only;rw [eg];by_cases d:xs[(lo+hi) / 2]<j
    ·rw [yi d]
     refine below_go h fuel _ hi (by omega) h2 (by omega) (fun k hk hkl=>?_) h5;by_cases e:k=(lo+hi) / 2
     ·subst e;exact d
     ·have:=h.lt (show k<(lo+hi) / 2 by omega) hm
      omega
    ·rw [yh d]
     refine below_go h fuel lo _ (by omega) (by omega) (by omega) h4 (fun k hk hkl=>?_);by_cases e:k=(lo+hi) / 2
     ·subst e;omega
     ·have:=h.lt (show (lo+hi) / 2<k by omega) hk
      omega
   ·rw [yh c]
    have e:hi=lo:=by omega
    subst e;exact ⟨h2,h4,h5⟩
theorem J8f (h:Ris xs)(j:Nat):SetTable.below xs j<=xs.size/\(∀ k (hk:k<xs.size),k<SetTable.below xs j->xs[k]<j)/\(∀ k (hk:k<xs.size),SetTable.below xs j<=k->j<=xs[k]) :=
 below_go h xs.size 0 xs.size (yw _) (yj _) (by omega) (fun _ _ z=>absurd z (Nat.not_lt_zero _)) (fun k hk z=>absurd hk (by omega))
theorem J8g (h:Ris xs){i:Nat}(hi:i<=xs.size)(h1:∀ k (hk:k<xs.size),k<i->xs[k]<j)(h2:∀ k (hk:k<xs.size),i<=k->j<=xs[k]):SetTable.below xs j=i:=by
 obtain ⟨a,b,c⟩:=J8f h j;rcases Nat.lt_trichotomy (SetTable.below xs j) i with z | z | z
 ·have hk:SetTable.below xs j<xs.size:=by omega
  have e1:=h1 _ hk z;have e2:=c _ hk (yj _);omega
 ·exact z
 ·have hk:i<xs.size:=by omega
  have e1:=h2 _ hk (yj _);have e2:=b _ hk z;omega
theorem Jax (h:Ris xs)(hm:j∈xs.toList):xs[SetTable.below xs j]?=some j:=by
 obtain ⟨i,hi⟩:=yT.mp hm;obtain ⟨hl,e⟩:=yB.mp hi;have hl':i<xs.size:=by simpa using hl
 have e':xs[i]=j:=by simpa using e
 have:SetTable.below xs j=i:=J8g h (Nat.le_of_lt hl') (fun k hk z=>by rw [<- e'];exact h.lt z hl') fun k hk z=>by
  rcases Nat.lt_or_eq_of_le z with z | rfl
  ·rw [<- e'];exact Nat.le_of_lt (h.lt z hk)
  ·omega
 rw [this,Array.getElem?_eq_getElem hl',e']
theorem Ris.ins {xs:Array Nat}(h:Ris xs){j:Nat}(hm:j∉xs.toList):Ris (SetTable.insertAt xs (SetTable.below xs j) j):=by
 obtain ⟨a,b,c⟩:=J8f h j;unfold Ris;rw [SetTable.toList_insertAt];generalize SetTable.below xs j=p at *;have ht:∀ x∈xs.toList.take p,x<j:=fun x hx=>by
  obtain ⟨i,hi⟩:=yT.mp hx;rw [List.getElem?_take] at hi
  split at hi
  ·rename_i hip
   obtain ⟨hl,e⟩:=yB.mp hi;have hl':i<xs.size:=by simpa using hl
   have:=b i hl' hip;rw [<- e];simpa using this
  ·cases hi
 have hd:∀ x∈xs.toList.drop p,j<x:=fun x hx=>by
  obtain ⟨i,hi⟩:=yT.mp hx;rw [List.getElem?_drop] at hi;obtain ⟨hl,e⟩:=yB.mp hi;have hl':p+i<xs.size:=by simpa using hl
  have h1:=c (p+i) hl' (by omega);have e':xs[p+i]=x:=by simpa using e
  have h2:x≠j:=fun z=>hm (by rw [<- z];exact yG hi);omega
 rw [pairwise_append];refine ⟨h.sublist (take_sublist ..),pairwise_cons.mpr ⟨hd,h.sublist (drop_sublist ..)⟩,fun x hx y hy=>?_⟩;rcases yL.mp hy with rfl | hy
 ·exact ht x hx
 ·exact Nat.lt_trans (ht x hx) (hd y hy)
theorem J2R (n:Nat):Ris (Array.range n):=by
 unfold Ris;rw [Array.toList_range];exact pairwise_lt_range
theorem J9Y {t:SetTable}(h:Ris t.place)(hm:j∈t.place.toList):∃ i,t.slot j=.live i:=by
 unfold SetTable.slot;dsimp only;rw [Jax h hm];exact ⟨SetTable.below t.place j,by rw [yi (by simp)]⟩
theorem J6D (t:SetTable)(p:SetTable.Probe):(t.advance p).dummy=p.dummy:=by
 unfold SetTable.advance
 split<;>rfl
theorem J5h {t:SetTable}{h:Int}:∀ (fuel:Nat) (p:SetTable.Probe) (j:Nat) (dm:Option Nat),(∀ d,p.dummy=some d->t.slot d=.dummy)->SetTable.probe.go t (fun _=>h+1) h fuel p=some (.empty j dm) ->
 t.slot j=.empty/\∀ d,dm=some d->t.slot d=.dummy
 | 0,p,j,dm,_,e=>by simp [SetTable.probe.go] at e
 | fuel+1,p,j,dm,hp,e=>by
   unfold SetTable.probe.go at e;cases hs:t.slot p.j with
   | empty =>
     rw [hs] at e;simp only [Option.some.injEq,SetTable.Met.empty.injEq] at e;obtain ⟨rfl,rfl⟩:=e;exact ⟨hs,hp⟩
   | dummy =>
     rw [hs] at e;refine J5h fuel _ j dm (fun d hd=>?_) e;rw [J6D] at hd;cases hd;exact hs
   | live i =>
     rw [hs] at e;simp only at e;rw [yh (by simp;omega)] at e;exact J5h fuel _ j dm (fun d hd=>hp d (by rw [<- J6D t];exact hd)) e
theorem JcR {t:SetTable}{h:Int}{b:Bool}(hr:Ris t.place)(e:t.freeSlot h=some (j,b)):j∉t.place.toList:=by
 unfold SetTable.freeSlot at e
 split at e
 ·rename_i k dm hq
  simp only [Option.some.injEq,Prod.mk.injEq] at e;obtain ⟨rfl,rfl⟩:=e;have:=J5h _ _ k dm (fun d hd=>by simp [SetTable.probeStart] at hd) hq;intro hm;obtain ⟨i,hi⟩:=J9Y hr hm;cases dm with
  | none=>rw [show (Option.getD none k)=k from rfl,this.1] at hi;cases hi
  | some d=>rw [show (Option.getD (some d) k)=d from rfl,this.2 d rfl] at hi;cases hi
 ·cases e
theorem J8D {t:SetTable}(hr:Ris t.place)(es:Array (Int×Value))(h:Int)(x:Value):Ris (layNew t es h x).2.1.place/\(layNew t es h x).2.1.led=t.led:=by
 unfold layNew
 split
 ·rename_i slot wd e
  have hn:=JcR hr e;have h1:Ris (t.put slot).1.place:=hr.ins hn;have h2:(t.put slot).1.led=t.led:=rfl;dsimp only;unfold SetTable.orStandIn
  split
  ·exact ⟨h1,h2⟩
  ·exact ⟨J2R _,h2⟩
 ·exact ⟨J2R _,rfl⟩
theorem relaid_ris {t t':SetTable}{hs:Array Int}{wanted:Nat}{o:Array Nat}(e:t.relaid hs wanted=some (t',o)):Ris t'.place/\t'.led=t.led:=by
 unfold SetTable.relaid SetTable.laid at e;cases q:SetTable.layClean (SetTable.sizeAbove wanted - 1) hs with
 | none=>rw [q] at e;cases e
 | some owner =>
   rw [q] at e;cases e;refine ⟨?_,rfl⟩;unfold Ris;dsimp only;rw [pairwise_map];generalize SetTable.sizeAbove wanted - 1+1=N;have key:∀ l:List Nat,l.Pairwise (·<·)->(l.filterMap fun j=>(owner.getD j none).map (j,·)).Pairwise fun a b=>a.1<b.1:=by
    intro l
    induction l with
    | nil=>intro _;exact .nil
    | cons a l ih =>
      intro hp;obtain ⟨h1,h2⟩:=pairwise_cons.mp hp;cases hq:owner.getD a none with
      | none=>rw [filterMap_cons_none (by rw [hq];rfl)];exact ih h2
      | some c =>
        rw [filterMap_cons_some (b:=(a,c)) (by rw [hq];rfl)];refine pairwise_cons.mpr ⟨fun y hy=>?_,ih h2⟩;obtain ⟨z,hz,e⟩:=mem_filterMap.mp hy;have:y.1=z:=by
         cases hz2:owner.getD z none with
         | none=>rw [hz2] at e;cases e
         | some c2=>rw [hz2] at e;cases e;rfl
        rw [this];exact h1 z hz
   exact key _ pairwise_lt_range
theorem J6S {t:SetTable}(hr:Ris t.place)(es:Array (Int×Value))(wanted:Nat):Ris (relayAll t es wanted).2.1.place/\(relayAll t es wanted).2.1.led=t.led:=by
 unfold relayAll
 split
 ·rename_i t' o e
  dsimp only
  split
  ·exact relaid_ris e
  ·exact ⟨J2R _,rfl⟩
 ·exact ⟨J2R _,rfl⟩
theorem J3e {α:Type}:∀ (l:List α) (i:Nat) (h:i<l.length),(l[i]::l.eraseIdx i).Perm l
 | a::l,0,h=>by simp
 | a::l,i+1,h=>by
   have:=J3e l i (by simpa using h);simp only [getElem_cons_succ,eraseIdx_cons_succ];exact (List.Perm.swap _ _ _).trans (this.cons a)
theorem J9g {α:Type}(next:Nat->Nat):∀ (fuel k:Nat) (left:List α) (out:Array α),fuel=left.length->(pickOrder.go next fuel k left out).toList.Perm (out.toList++left)
 | 0,k,left,out,h=>by
   have:left=[]:=eq_nil_of_length_eq_zero h.symm;subst this;simp [pickOrder.go]
 | fuel+1,k,left,out,h=>by
   unfold pickOrder.go;have hl:next k % left.length<left.length:=Nat.mod_lt _ (by omega);rw [yA hl];dsimp only;refine (J9g next fuel (k+1) _ _ (by rw [length_eraseIdx_of_lt hl];omega)).trans ?_;rw [Array.toList_push,yY];refine List.Perm.append_left _ ?_;exact J3e left _ hl
theorem Ja5 {α:Type}(next:Nat->Nat)(xs:Array α):(pickOrder next xs).toList.Perm xs.toList:=by
 have:=J9g next xs.size 0 xs.toList #[] (by simp);simpa [pickOrder] using this
end L2
namespace L2
open PySem PySem.Spec PyProof.Rows
def kOf (e:Int×Value):Int:=numOf e.2
structure SR (prog:Program)(w:World)(es:Array (Int×Value))(t:SetTable)(ks:List Int):Prop where
 el:ElemsOf (intKind prog w) es.toList
 fits:t.fits es.size=true
 ris:Ris t.place
 led:t.led = !(w.params.followText "set-order")
 nd:(es.toList.map kOf).Nodup
 mem:∀ k,k∈es.toList.map kOf↔k∈ks
 len:es.size<=ks.length
def J3T (prog:Program)(w:World)(h:Heap)(a:Addr)(ks:List Int):Prop:=∃ o es ep t,h.get? a=some o/\o.ExactSet/\o.data=.set es ep t/\SR prog w es t ks
theorem isInt_shape {k:Int}{v:Value}{prog:Program}{w:World}(h:(intKind prog w).is k v=true):∃ t,v=.int k t:=by
 have h':Value.isInt k v=true:=h;cases v with
 | int j t =>
   have e:(j == k)=true\/(k == j)=true:=by first | exact .inl h' | exact .inr h'
   rcases e with e | e
   ·exact ⟨t,by rw [beq_iff_eq.mp e]⟩
   ·exact ⟨t,by rw [beq_iff_eq.mp e]⟩
 | _=>cases h'
section
variable {prog:Program}{w:World}{es:Array (Int×Value)}{t:SetTable}{ks:List Int}
theorem SR.perm {es':Array (Int×Value)}{t':SetTable}(h:SR prog w es t ks)(p:es'.toList.Perm es.toList)(f:t'.fits es'.size=true)(r:Ris t'.place)(l:t'.led=t.led):SR prog w es' t' ks where
 el:=h.el.perm p
 fits:=f
 ris:=r
 led:=l.trans h.led
 nd:=(p.map kOf).nodup_iff.mpr h.nd
 mem:=fun k=>((p.map kOf).mem_iff).trans (h.mem k)
 len:=by
  have:=p.length_eq;rw [yz,yz] at this;rw [this];exact h.len
theorem SR.put {k:Int}{tk:Tok}(h:SR prog w es t ks)(hn:k∉ks){es':Array (Int×Value)}{t':SetTable}(p:es'.toList.Perm (es.toList++[(hashInt k,.int k tk)]))(f:t'.fits es'.size=true)(r:Ris t'.place)(l:t'.led=t.led):SR prog w es' t' (ks++[k]) where
 el:=(h.el.push (k:=k) (x:=.int k tk) (intKind_is _ _ _ _) rfl).perm p
 fits:=f
 ris:=r
 led:=l.trans h.led
 nd:=by
  refine (p.map kOf).nodup_iff.mpr ?_;rw [yP];refine nodup_append.mpr ⟨h.nd,by simp,fun a ha b hb=>?_⟩;have:b=k:=by simpa [kOf,numOf] using hb
  rw [this];intro e;exact hn ((h.mem k).mp (by rw [<- e];exact ha))
 mem:=fun k'=>by
  rw [(p.map kOf).mem_iff,yP,yQ,yQ,h.mem k'];simp [kOf,numOf]
 len:=by
  have:=p.length_eq;rw [yz,yH,yz] at this;have:=h.len;rw [yH];simp only [length_cons,length_nil] at *;omega
theorem SR.again {k:Int}(h:SR prog w es t ks)(hk:k∈ks):SR prog w es t (ks++[k]) where
 el:=h.el
 fits:=h.fits
 ris:=h.ris
 led:=h.led
 nd:=h.nd
 mem:=fun k'=>by
  rw [h.mem k',yQ];refine ⟨.inl,fun z=>z.elim id fun z=>?_⟩;rw [yD.mp z];exact hk
 len:=by have:=h.len;rw [yH];omega
end
section
variable {prog:Program}{w:World}{A:Around}{E:Value->Shared->Prop}{s:Shared}
theorem J96 {a:Addr}{o:Obj}{es es':Array (Int×Value)}{ep:Nat}{t t':SetTable}(h:Heap)(ho:h.get? a=some o)(hd:o.data=.set es ep t):(h.update a (Obj.putSet es' t')).get? a=some { o with data:=.set es' (ep+1) t' }:=by
 have:=Heap.get?_update_self (Obj.putSet es' t') ho (by rw [putSet_of es' t' hd];rfl);rw [putSet_of es' t' hd] at this;exact this
theorem add_R {a:Addr}{ks:List Int}{k:Int}{tk:Tok}{Q:Bool->Shared->Prop}(h:J3T prog w s.heap a ks)(room:ks.length+1<scanBound)
 (hQ:∀ b h',Heap.SameBut a s.heap h'->J3T prog w h' a (ks++[k])->Q b { s with heap:=h' }):wpAny (model prog w) A (setAddHashed a (.int k tk) (hashInt k)) Q E s:=by
 obtain ⟨o,es,ep,t,ho,hex,hd,R⟩:=h;have hb:es.size<scanBound:=by have:=R.len;omega
 have hkey:(intKind prog w).is k (.int k tk)=true:=intKind_is _ _ _ _;have hgw:∀ (b:Bool) {s₁:Shared} {Q':Unit->Shared->Prop},Q' () s₁->wpAny (model prog w) A (match b with | true=>rule "set.scan.the-table-gave-way" | false=>pure ()) Q' E s₁ :=
  fun b s₁ Q' hq=>by cases b<;>first | exact yg hq | exact wpAny_rule hq
 unfold setAddHashed setAddHashedIn;refine wpAny_holding (yf (wpAny_setState_of ho hd R.fits ?_));dsimp only;rw [byScan_of (knd:=intKind prog w) rfl hb R.el];simp only [↓reduceIte];unfold setAddByScan;refine yf (yf (wpAny_rule (yf (wpAny_setScan_of (knd:=intKind prog w) (k:=k) hkey ho hd R.fits R.el ?_))));cases hr:List.findIdx? (fun e=>(intKind prog w).is k e.2) es.toList with
 | some j =>
   dsimp only;obtain ⟨hj,hpj,_⟩:=List.findIdx?_eq_some_iff_getElem.mp hr;obtain ⟨t',et⟩:=isInt_shape hpj;have hk:k∈ks:=(R.mem k).mp (yU.mpr ⟨es.toList[j],getElem_mem hj,by unfold kOf;rw [et];rfl⟩);have:=hQ false s.heap (Heap.SameBut.refl a s.heap) ⟨o,es,ep,t,ho,hex,hd,R.again hk⟩;exact yg (yg this)
 | none =>
   dsimp only;have hk:k∉ks:=fun z=>by
    obtain ⟨e,he,q⟩:=yU.mp ((R.mem k).mpr z);obtain ⟨⟨k',hk',_⟩,_⟩:=R.el e he;obtain ⟨t',et⟩:=isInt_shape hk';have e2:k'=k:=by unfold kOf at q;rw [et] at q;exact q
    subst e2;have:=List.findIdx?_eq_none_iff.mp hr e he;rw [hk'] at this;exact Bool.noConfusion this
   have hp:=layNew_perm t es (hashInt k) (.int k tk);have hf:=layNew_fits t es (hashInt k) (.int k tk);have hrs:=J8D R.ris es (hashInt k) (.int k tk);generalize layNew t es (hashInt k) (.int k tk)=L at hp hf hrs ⊢;obtain ⟨es1,t1,wasDummy,gave⟩:=L;dsimp only at hp hf hrs ⊢;rw [Array.toList_push] at hp;have R1:=R.put hk hp hf hrs.1 hrs.2;have hz1:es1.size<=sizeLine:=fits_of_scanBound (by have:=R1.len;rw [yH] at this;simp at this;omega);refine yf (hgw _ ?_);have fin:∀ (t2:SetTable),t2=t1->wpAny (model prog w) A (do
    storeSet a es1 t2
    if (!wasDummy&&t2.tooFull)=true then do
        (match (relayAll t2 es1 (SetTable.grown es1.size)).2.2 with | true=>rule "set.scan.the-table-gave-way" | false=>pure ())
        storeSet a (relayAll t2 es1 (SetTable.grown es1.size)).1 (relayAll t2 es1 (SetTable.grown es1.size)).2.1
        pure (some true)
     else pure (some true)) (fun r s'=>wpAny (model prog w) A (match r with | some added=>pure added | none=>setAddHashedIn a (.int k tk) (hashInt k) 99999) Q E s') E s:=by
    intro t2 e2;rw [e2];refine yf (wpAny_storeSet_of ho hd ?_ hz1);have g1:=J96 (es':=es1) (t':=t1) s.heap ho hd;have sb:=Heap.SameBut.update s.heap a (Obj.putSet es1 t1)
    split
    ·have hp2:=relayAll_perm t1 es1 (SetTable.grown es1.size)
     have hf2:=relayAll_fits t1 es1 (SetTable.grown es1.size);have hr2:=J6S R1.ris es1 (SetTable.grown es1.size);generalize relayAll t1 es1 (SetTable.grown es1.size)=L2' at hp2 hf2 hr2 ⊢;obtain ⟨es2,t3,gave2⟩:=L2';dsimp only at hp2 hf2 hr2 ⊢;have R2:=R1.perm hp2 hf2 hr2.1 hr2.2;have hz2:es2.size<=sizeLine:=fits_of_scanBound (by have:=R2.len;rw [yH] at this;simp at this;omega);refine yf (hgw _ (yf (wpAny_storeSet_of g1 rfl ?_ hz2)));have g2:=J96 (es':=es2) (t':=t3) _ g1 rfl;exact yg (yg (hQ _ _ (sb.trans (Heap.SameBut.update _ a _)) ⟨_,es2,_,t3,g2,hex,rfl,R2⟩))
    ·exact yg (yg (hQ _ _ sb ⟨_,es1,_,t1,g1,hex,rfl,R1⟩))
   split
   ·refine yf ?_
    rw [hashByValue_scannable 8 rfl];refine yg ?_;exact fin _ (by simp [plainKind])
   ·refine yf (yg ?_)
    exact fin _ (by simp)
end
section
variable {prog:Program}{w:World}{A:Around}{R:Result->Shared->Prop}{I:Addr}{fp wr:List Addr}{G:Array GenState->Array GenState->Prop}{n:Nat}{P:Nat->Value->Prop}{St:Nat->Shared->Prop}
theorem Je0 (W:WalksS prog w A.in1 I fp wr G n P St){b:Addr}(nb:b∉fp){val:Nat->Int}(hv:∀ i v,P i v->∃ t,v=.int (val i) t)(room:n+1<scanBound) :
 ∀ (m i:Nat) (s:Shared),n - i=m->i<=n->St i s->J3T prog w s.heap b ((List.range i).map val) ->
   (∀ s',Moved (b::wr) G s s'->J3T prog w s'.heap b ((List.range n).map val)->R (.ok (.ret .none)) s') ->
   codeAny (model prog w) A (.builtin "set.update.loop" ⟨[.ref b,.ref I],[]⟩) R s:=by
 have nw:b∉wr:=fun z=>nb (W.sub _ z);have more:∀ c∈wr,c∈b::wr:=fun c hc=>yJ _ hc;have same:∀ {s s':Shared} {ks:List Int},J3T prog w s.heap b ks->Moved wr G s s'->J3T prog w s'.heap b ks:=fun {s s' ks} h hm=>by
  obtain ⟨o,es,ep,t,ho,r⟩:=h;exact ⟨o,es,ep,t,hm.heap b _ nw ho,r⟩
 intro m
 induction m with
 | zero =>
   intro i s hm hi hst hS hR;obtain rfl:i=n:=by omega
   refine codeAny_builtin PyProof.Rows.F.entry_set_update_loop ?_;rw [ze PyProof.Rows.F.plain_set_update_loop _];show wpAny _ A.in1 (pyNext (.ref I) >>= _) _ _ s;exact yf (W.done s _ _ hst fun s' mv=>yg (hR s' (mv.mono more) (same hS mv)))
 | succ m ih =>
   intro i s hm hi hst hS hR;have lt:i<n:=by omega
   refine codeAny_builtin PyProof.Rows.F.entry_set_update_loop ?_;rw [ze PyProof.Rows.F.plain_set_update_loop _];show wpAny _ A.in1 (pyNext (.ref I) >>= _) _ _ s;refine yf (W.item i s _ _ lt hst fun v s' hP hst' mv=>?_);obtain ⟨t,rfl⟩:=hv i v hP;show wpAny _ A.in1 (holding [Value.int (val i) t] (setAdd b (Value.int (val i) t)) >>= _) _ _ s';refine yf (wpAny_holding ?_);unfold setAdd;refine wpAny_holding (yf ((intKind prog w).pyHash (k:=val i) (intKind_is _ _ _ _) ?_));have hS':=same hS mv;refine add_R (s:={ s' with toks:=s'.toks+1 }) hS' (by simp;omega) fun bo h' sb hS2=>?_;have hS3:J3T prog w h' b ((List.range (i+1)).map val):=by
    rw [range_succ,yP];exact hS2
   refine yg ⟨plainId_quiet PyProof.Rows.F.plain_set_update_loop _,ih (i+1) _ (by omega) lt (W.frame _ s' _ _ hst' (Nat.le_succ _) fun c hc o e=>?_) hS3 fun s'' mv' hS4=>?_⟩
   ·rw [sb.2 c (fun z:c=b=>nb (by rw [<- z];exact hc))];exact e
   ·refine hR s'' (Moved.trans W.gtrans ((mv.mono more).then_heap (Nat.le_succ _) fun c o hc e=>?_) mv') hS4
    rw [sb.2 c (fun z:c=b=>hc (by rw [z];exact yK))];exact e
end
section
variable {prog:Program}{w:World}{A:Around}{E:Value->Shared->Prop}{s:Shared}
theorem J60 (a:Value){Q₁:Value->Shared->Prop}(h:Q₁ (.ref s.heap.objs.size) { s with heap:=s.heap.push (J0L (!(w.params.followText "set-order"))) }) :
 codeAny (model prog w) A (.call (.builtin "set.__new__") ⟨[.type "set",a],[]⟩) (wants Q₁ E) s:=by
 refine codeAny_of_tree ?_;show wpAny _ A.in1 (do checkBuiltinCall "set.__new__" ⟨[.type "set",a],[]⟩;again (.builtin "set.__new__" ⟨[.type "set",a],[]⟩)) _ _ s;refine yf (wpAny_of_eq (PySem.F.newCall_set_1 a) (yg ⟨plainId_quiet PySem.F.plain_set_new _,codeAny_builtin PySem.F.entry_set_new ?_⟩));rw [ze PySem.F.plain_set_new _];unfold Builtin.«set.__new__» Builtin.Frozenset.newClass;have hsub:=sub_set_self;obtain ⟨hp,g,d,tk,os⟩:=s;dsimp only
 wp_walk
 refine wpAny_askSetting (yg ?_);dsimp only;simp only [newObj];exact yf (wpAny_alloc (yg (yg h)))
set_option maxHeartbeats 3200000 in
theorem set_callL {x:Value}{Q:Value->Shared->Prop}{Z:Heap->Prop}
 (fill:∀ (E':Value->Shared->Prop) (Q':Unit->Shared->Prop),(∀ h' tk,Z h'->Q' () { s with heap:=h',toks:=tk })->wpAny (model prog w) A.in1.in1 (Builtin.Frozenset.updateFrom "set.__init__" s.heap.objs.size x) Q' E' { s with heap:=s.heap.push (J0L (!(w.params.followText "set-order"))) })
 (h:∀ (h':Heap) (tk:Nat),Z h'->Q (.ref s.heap.objs.size) { s with heap:=h',toks:=tk }):wpAny (model prog w) A (call (.type "set") [x]) Q E s:=by
 obtain ⟨c,tl,hmro⟩:=PySem.F.called_set.mro;have g1:=PySem.F.called_set.made;have g2:=PySem.F.called_set.sub;have g3:=PySem.F.called_set.notType;have g4:=PySem.F.called_set.canCreate;have g5:=PySem.F.typeCall_set_1 x;refine wpAny_call (codeAny_of_tree ?_);show wpAny _ _ (callAny (.type "set") _) _ _ _;refine yg ⟨Code.quiet_builtin _ (by decide +kernel),codeAny_builtin PySem.F.entry_type_call ?_⟩;rw [Around.under_plain (weight_type_call_type "set" [x] []) rfl]
 repeat (any_goals (first | assumption | wp_step))
 generalize hled:(!(w.params.followText "set-order"))=led at *;refine codeAny_mono (J60 x (E:=E) (Q₁:=fun v s1=>v=.ref s.heap.objs.size/\s1={ s with heap:=s.heap.push (J0L led) }) ⟨rfl,by rw [hled]⟩) fun r s1 hr=>?_
 match r,hr with
 | .error e,hr=>exact hr
 | .ok .next,hr=>exact hr.elim
 | .ok .brk,hr=>exact hr.elim
 | .ok .cont,hr=>exact hr.elim
 | .ok (.ret v),hr =>
   obtain ⟨rfl,rfl⟩:=hr;have at0:(s.heap.push (J0L led)).get? s.heap.objs.size=some (J0L led):=y6 _ rfl;have hT:Shared.TypeIs { s with heap:=s.heap.push (J0L led) } (.ref s.heap.objs.size) "set":=⟨_,at0,rfl⟩;have i1:=PySem.F.called_set.init.lookup;have i2:=PySem.F.called_set.init.bind (.ref s.heap.objs.size)
   repeat (any_goals (first | assumption | wp_step))
   refine codeAny_mono (codeAny_call_builtin (R:=wants (fun r s2=>r=.none/\∃ h' tk,s2={ s with heap:=h',toks:=tk }/\Z h') E) PySem.F.called_set.init.plain PySem.F.entry_set_init (check_set_init_1 hT ?_)) fun r2 s2 hr2=>?_
   ·have at1:({ s with heap:=s.heap.push (J0L led) }:Shared).heap.get? s.heap.objs.size=some (J0L led):=at0
    unfold Builtin.«set.__init__» noKeywords;generalize hU:Builtin.Frozenset.updateFrom=U
    wp_walk
    subst hU;exact fill _ _ fun h' tk z=>yg ⟨rfl,h',tk,rfl,z⟩
   ·match r2,hr2 with
    | .error e,hr2=>exact hr2
    | .ok .next,hr2=>exact hr2.elim
    | .ok .brk,hr2=>exact hr2.elim
    | .ok .cont,hr2=>exact hr2.elim
    | .ok (.ret v),hr2 =>
      obtain ⟨rfl,h',tk,rfl,z⟩:=hr2
      repeat (any_goals (first | assumption | wp_step))
      exact h _ _ z
theorem Jcn {l:Addr}{vs:List Value}{zs:List Int}{Q:Value->Shared->Prop}(hh:A.handled=none)(hl:s.heap.IsList l vs.toArray)(hv:IntsAre vs zs)(room:zs.length+1<scanBound)
 (h:∀ (h':Heap) (tk:Nat),J3T prog w h' s.heap.objs.size zs->(∀ c o,s.heap.get? c=some o->h'.get? c=some o)->Q (.ref s.heap.objs.size) { s with heap:=h',toks:=tk }):wpAny (model prog w) A (call (.type "set") [.ref l]) Q E s:=by
 have J06:=hv.length;have erg:(List.range vs.toArray.size).map (fun i=>zs.getD i 0)=zs:=by
  refine ext_getElem? fun i=>?_;rw [yN];by_cases hi:i<zs.length
  ·rw [List.getElem?_range (by simp;omega),yA hi]
   simp [yF,yA hi]
  ·rw [List.getElem?_eq_none (l:=List.range _) (by rw [yX,yE];omega),List.getElem?_eq_none (l:=zs) (by omega)]
   rfl
 refine set_callL (Z:=fun h'=>J3T prog w h' s.heap.objs.size zs/\∀ c o,s.heap.get? c=some o->h'.get? c=some o) (fun E' Q' q=>?_) fun h' tk z=>h h' tk z.1 z.2;generalize hled:(!(w.params.followText "set-order"))=led at *;obtain ⟨ol,hol,hcl,nl,hdl⟩:=id hl;obtain ⟨ocls,odict,odata,oslots⟩:=ol;simp only at hcl hdl;subst hcl;subst hdl;have at1:(s.heap.push (J0L led)).get? l=some { cls:=.type "list",dict:=odict,data:=.seq vs.toArray nl,slots:=oslots }:=y4 _ hol;have k1:=PySem.F.sub_list_set;have k2:=PySem.F.sub_list_frozenset;have k3:(Value.type "list" == Value.type "dict")=false:=by decide
 have hl1:(s.heap.push (J0L led)).IsList l vs.toArray:=⟨_,at1,rfl,nl,rfl⟩;unfold Builtin.Frozenset.updateFrom;generalize hP:pyIter=PI
 wp_walk
 subst hP;refine wpAny_pyIter_list hl1 ?_;refine yf (wpAny_runValue ?_);have ll:l<s.heap.objs.size:=y7 hol;have sz:(s.heap.push (J0L led)).objs.size=s.heap.objs.size+1:=Heap.size_push ..;refine Je0 (val:=fun i=>zs.getD i 0) ((Walks.list (by simp [hh]) _ l (by rw [sz];exact yr (Nat.lt_succ_of_lt ll)) vs.toArray).toS) (b:=s.heap.objs.size) (by rw [sz];simp;exact Nat.ne_of_gt ll) (fun i v hv'=>?_) (by simp;omega) (vs.toArray.size - 0) 0 _ (by omega) (yw _) ⟨⟨_,y6 _ rfl,rfl,rfl⟩,hl1.push _⟩ ?_ ?_
 ·have hv2:vs[i]?=some v:=by simpa using hv'
  have hi:i<zs.length:=by
   have:=(yB.mp hv2).1;omega
  obtain ⟨t,ht⟩:=hv.get i _ (yA hi);rw [hv2] at ht;cases ht;exact ⟨t,by rw [yF,yA hi];rfl⟩
 ·have g:=y4 (h:=s.heap.push (J0L led)) { cls:=.type "list_iterator",data:=.fields #[.ref l,.int 0 0] } (y6 (o:=J0L led) s.heap rfl)
  exact ⟨_,#[],0,.fresh 0 0 led,g,⟨rfl,rfl,rfl⟩,rfl,⟨fun e he=>by simp at he,by rfl,List.Pairwise.nil,hled.symm ▸ rfl,by simp,fun k=>by simp,by simp⟩⟩
 ·intro s' mv hS
  obtain ⟨h',g',d',tk',os'⟩:=s';obtain rfl:g'=s.gens:=mv.gens;obtain rfl:d'=s.drawn:=mv.drawn;obtain rfl:os'=s.os:=mv.os;show wpAny _ _ _ _ _ _;refine yg ?_;rw [erg] at hS;refine q h' tk' ⟨hS,fun c o e=>?_⟩;have hc:=y7 e;refine mv.heap c o ?_ (y4 _ (y4 _ e));rw [sz];simp only [yL,not_mem_nil,or_false,not_or];exact ⟨yr hc,yr (Nat.lt_succ_of_lt hc)⟩
end
theorem J5G:entryFor table "set.__iter__"=some Builtin.«frozenset.__iter__» :=
 entryFor_alias (id':="frozenset.__iter__") (by kernel_rfl) rfl (by decide +kernel) (by kernel_rfl)
theorem JU:Slot "set_iterator" "__next__" "set_iterator.__next__" :=
 .of (owner:="set_iterator") (n:="__next__") (by rw [typeLookup_type,builtinLookup_eq_fast];kernel_rfl) (by decide +kernel) (by decide +kernel) (by decide +kernel)
  (by first | exact .inl (by decide +kernel) | exact .inr (by decide +kernel)) (by rw [isSubtype_type];kernel_rfl)
theorem J1Y:entryFor table "set_iterator.__next__"=some Builtin.«set_iterator.__next__»:=entryFor_of_tree (by kernel_rfl)
theorem J2k (a:Value):argsOk "set_iterator.__next__" ⟨[a],[]⟩:=by unfold argsOk;kernel_rfl
theorem J14:Slot "set_iterator" "__iter__" "set_iterator.__iter__" :=
 .of (owner:="set_iterator") (n:="__iter__") (by rw [typeLookup_type,builtinLookup_eq_fast];kernel_rfl) (by decide +kernel) (by decide +kernel) (by decide +kernel)
  (by first | exact .inl (by decide +kernel) | exact .inr (by decide +kernel)) (by rw [isSubtype_type];kernel_rfl)
theorem J1Z:entryFor table "set_iterator.__iter__"=some Builtin.«dict_keyiterator.__iter__» :=
 entryFor_alias (id':="dict_keyiterator.__iter__") (by kernel_rfl) rfl (by decide +kernel) (by kernel_rfl)
theorem J2l (a:Value):argsOk "set_iterator.__iter__" ⟨[a],[]⟩:=by unfold argsOk;kernel_rfl
abbrev JaX (first:Value)(i:Nat)(a:Addr)(n ep:Nat):Obj:={ cls:=.type "set_iterator",data:=.fields #[first,.int i 0,.ref a,.int n 0,.int ep 0] }
def SetIt (h:Heap)(it:Addr)(first:Value)(i:Nat)(a:Addr)(n ep:Nat):Prop:=∃ o,h.get? it=some o/\o.cls=.type "set_iterator"/\o.data=.fields #[first,.int i 0,.ref a,.int n 0,.int ep 0]
section
variable {M:Model}{A:Around}{E:Value->Shared->Prop}{s:Shared}
theorem J9O {src:Source}{n:Nat}{Q:Nat->Shared->Prop}(hn:n≠0)(h:∀ i d',i<n->Q i { s with drawn:=d' }):wpAny M A (choose src n) Q E s:=fun Γ p hΓ=>⟨hn,h _ _ (Nat.mod_lt _ (by omega))⟩
theorem J9E {α:Type}:∀ (n:Nat) (xs:List α) (s:Shared) {Q:List α->Shared->Prop},n=xs.length->(∀ l d',l.Perm xs->Q l { s with drawn:=d' })->wpAny M A (drawOrder n xs) Q E s
 | 0,xs,s,Q,hl,h=>by
   have:xs=[]:=eq_nil_of_length_eq_zero hl.symm;subst this;exact yg (h [] s.drawn (.refl _))
 | n+1,[],s,Q,hl,h=>by cases hl
 | n+1,x::xs,s,Q,hl,h=>by
   unfold drawOrder;refine yf (J9O (by simp) fun i d' hi=>?_);rw [yA hi];dsimp only;refine yf (J9E n _ _ (by rw [length_eraseIdx_of_lt hi];omega) fun l d2 hp=>yg ?_);exact h _ d2 ((hp.cons _).trans (J3e _ _ hi))
end
section
variable {prog:Program}{w:World}{A:Around}{E:Value->Shared->Prop}{s:Shared}{a:Addr}{o:Obj}{es:Array (Int×Value)}{ep:Nat}{t:SetTable}{ks:List Int}
abbrev byT (w:World):Bool:=w.params.followText "set-order"
abbrev drw (w:World)(es:Array (Int×Value))(t:SetTable):Bool:=!byT w&&(!t.plain&&decide (es.size > 1))
theorem J8u {Q:Value->Shared->Prop}(ho:s.heap.get? a=some o)(hex:o.ExactSet)(hd:o.data=.set es ep t)(R:SR prog w es t ks)(hz:es.size<=sizeLine)
 (h1:drw w es t=false->Q (.ref s.heap.objs.size) { s with heap:=s.heap.push (JaX (.int 0 0) 0 a es.size ep) })
 (h2:drw w es t=true->∀ (l:List Nat) d',l.Perm (List.range es.size)->Q (.ref (s.heap.objs.size+1:Nat)) { s with heap:=(s.heap.push (seqObj "tuple" (l.map fun (i:Nat)=>Value.int i 0).toArray 0)).push (JaX (.ref s.heap.objs.size) 0 a es.size ep),drawn:=d' }) :
 wpAny (model prog w) A (pyIter (.ref a)) Q E s:=by
 have hT:s.TypeIs (.ref a) "set":=⟨o,ho,hex.1⟩;refine wpAny_pyIter_slot hT PySem.F.slot_set_iter (wpAny_call_entry PySem.F.slot_set_iter hT J5G ?_ (PySem.F.args_set_iter_1 _));show wpAny _ _ (Builtin.Frozenset.sizeOf a >>= _) _ _ s;unfold Builtin.Frozenset.sizeOf;refine yf (yf (wpAny_setEntries_of ho hd R.fits (yg ?_)));refine yf ?_;unfold setDrawn setsByText;refine yf (wpAny_setState_of ho hd R.fits ?_);refine yf (yf (wpAny_askSetting (yg ?_)));show wpAny _ _ (pure (drw w es t)) _ _ s;refine yg ?_;cases hD:drw w es t with
 | false =>
   show wpAny _ _ (pure (rawInt 0) >>= _) _ _ s;refine yf (yg ?_);refine yf (wpAny_setEpoch_of ho hd R.fits ?_);refine yf (wpAny_newObj_type (yg ⟨_,rfl,"set_iterator",_,⟨_,y6 _ rfl,rfl⟩,JU.lookup,?_⟩) (by size_fits));exact h1 hD
 | true =>
   show wpAny _ _ (drawOrder es.size (List.range es.size) >>= _) _ _ s;refine yf (J9E _ _ _ (by simp) fun l d' hp=>?_);have hll:l.length=es.size:=by rw [hp.length_eq];simp
   refine yf (wpAny_newTuple ?_ (by rw [yC,hll];exact hz));have ho':=y4 (h:=s.heap) { cls:=.type "tuple",data:=.seq (l.map fun (i:Nat)=>rawInt i).toArray } ho;refine yf (wpAny_setEpoch_of (s:={ s with heap:=s.heap.push { cls:=.type "tuple",data:=.seq (l.map fun (i:Nat)=>rawInt i).toArray },drawn:=d' }) ho' hd R.fits ?_);refine yf (wpAny_newObj_type (yg ⟨_,rfl,"set_iterator",_,⟨_,y6 _ rfl,rfl⟩,JU.lookup,?_⟩) (by size_fits));have:=h2 hD l d' hp;rw [show (s.heap.push { cls:=.type "tuple",data:=.seq (l.map fun (i:Nat)=>rawInt i).toArray }).objs.size=s.heap.objs.size+1 from Heap.size_push ..];exact this
theorem SetIt.typeIs {it:Addr}{first:Value}{i n:Nat}(x:SetIt s.heap it first i a n ep):s.TypeIs (.ref it) "set_iterator":=let ⟨o,ho,hc,_⟩:=x;⟨o,ho,hc⟩
theorem SetIt.at {h h':Heap}{it:Addr}{first:Value}{i n:Nat}(x:SetIt h it first i a n ep)(e:∀ o,h.get? it=some o->h'.get? it=some o):SetIt h' it first i a n ep:=let ⟨o,ho,r⟩:=x;⟨o,e _ ho,r⟩
theorem setIt_next {it:Addr}{f:Value}{i n:Nat}{Q:Option Value->Shared->Prop}(hit:SetIt s.heap it f i a n ep)(ho:s.heap.get? a=some o)(hd:o.data=.set es ep t)(hf:t.fits es.size=true)(hn:n=es.size)
 (h:wpAny (model prog w) A.in1 (do
  if let .int slot _:=f then
   match <- setNext a slot.toNat i ep with
   | some (x,next) =>
     setField (.ref it) 0 (rawInt next)
     setField (.ref it) 1 (rawInt ((i:Int)+1))
     ret x
   | none=>setField (.ref it) 2 .none;raiseNew (<- newExc (.type "StopIteration") [])
  else
   let some places <- seqItems? f | unsupported "internal:set_iterator"
   match places[i]? with
   | some (.int place _) =>
     let x <- setNextDrawn a place.toNat ep
     setField (.ref it) 1 (rawInt ((i:Int)+1))
     ret x
   | some _=>unsupported "internal:set_iterator"
   | none=>setField (.ref it) 0 (rawInt 0);setField (.ref it) 2 .none;raiseNew (<- newExc (.type "StopIteration") []))
  (fun fin s'=>∃ r,fin=.done (.ret r)/\Q (some r) s') (fun e s'=>wpAny (model prog w) A (do if <- isInstance e (.type "StopIteration") then pure none else throw e) Q E s') s) :
 wpAny (model prog w) A (pyNext (.ref it)) Q E s:=by
 obtain ⟨oi,hoi,hci,hdi⟩:=id hit;unfold pyNext;refine yf (wpAny_attempt (wpAny_callSpecial?_slot (name:=Str.ofString "__next__") hit.typeIs JU
  (wpAny_call_entry JU hit.typeIs J1Y ?_ (J2k _))))
 unfold Builtin.«set_iterator.__next__»;refine yf (yg ?_);refine yf (wpAny_fieldsOf hoi hdi ?_);dsimp only;refine yf (wpAny_setEntries_of ho hd hf ?_);rw [yh (by rw [hn];simp)];exact wpAny_mono h (fun fin s' ⟨r,e,q⟩=>⟨r,e,yg q⟩) fun _ _ z=>z
theorem J2P {h:Heap}{it:Addr}{x0 x1 x2 x3 x4:Value}{o:Obj}(ho:h.get? it=some o)(hc:o.cls=.type "set_iterator")(hd:o.data=.fields #[x0,x1,x2,x3,x4])(k:Nat)(v:Value) :
 ∃ o',(h.update it (Obj.mapFields (·.setIfInBounds k v))).get? it=some o'/\o'.cls=.type "set_iterator"/\o'.data=.fields (#[x0,x1,x2,x3,x4].setIfInBounds k v) :=
 ⟨_,Heap.get?_update_self _ ho (Obj.isFreed_of_fields (Obj.data_mapFields hd _)),(Obj.cls_mapFields ..).trans hc,by rw [Obj.data_mapFields hd]⟩
theorem J97 {h:Heap}{Q:Option Value->Shared->Prop}(hh:A.handled=none)(hQ:∀ h',(∀ b o,h.get? b=some o->h'.get? b=some o)->Q none { s with heap:=h' }) :
 wpAny (model prog w) A.in1 (do raiseNew (<- newExc (.type "StopIteration") []):Sem PySem.Fin) (fun fin s'=>∃ r,fin=.done (.ret r)/\Q (some r) s') (fun e s'=>wpAny (model prog w) A (do if <- isInstance e (.type "StopIteration") then pure none else throw e) Q E s') { s with heap:=h }:=by
 refine yf ?_;simp only [newExc,newTuple];refine yf (wpAny_newObj_type ?_ (by size_fits));refine yf (m:=firstArgMember _ _) (wpAny_of_eq (a:=Value.none) (by first | rfl | (simp only [firstArgMember];rfl)) ?_);refine wpAny_newObj_type ?_ (by size_fits);simp only [raiseNew];refine yf (wpAny_handled ?_);rw [show A.in1.handled=none from hh];refine yf (yg (wpAny_throw ?_));refine yf (wpAny_isInstance (T:="StopIteration") (b:=true) ⟨_,y6 _ rfl,rfl⟩ isSubtype_stop ?_);exact yg (hQ _ fun b o e=>y4 _ (y4 _ e))
theorem J07 {h:Heap}{b it:Addr}{f:Obj->Obj}{o:Obj}(hb:b≠it)(e:h.get? b=some o):(h.update it f).get? b=some o:=(y8 _ _ (Ne.symm hb)).trans e
theorem J3x {it:Addr}{first:Value}{i n:Nat}{Q:Value->Shared->Prop}(hit:SetIt s.heap it first i a n ep)(h:Q (.ref it) s):wpAny (model prog w) A (pyIter (.ref it)) Q E s:=by
 refine wpAny_pyIter_slot hit.typeIs J14 (wpAny_call_entry J14 hit.typeIs J1Z ?_ (J2l _));show wpAny _ _ (ret (.ref it)) _ _ s;exact yg ⟨_,rfl,"set_iterator",_,hit.typeIs,JU.lookup,h⟩
theorem J4N (hh:A.handled=none)(I:Addr)(hne:a≠I)(hd:o.data=.set es ep t)(hf:t.fits es.size=true)(vs:List Value)(sl:Nat->Nat)(hn:vs.length=es.size)
 (hnx:∀ (A':Around) (E':Value->Shared->Prop) (s':Shared) (Q':Option (Value×Nat)->Shared->Prop) (i:Nat) (v:Value),vs[i]?=some v->s'.heap.get? a=some o->Q' (some (v,sl (i+1))) s'->wpAny (model prog w) A' (setNext a (sl i) i ep) Q' E' s')
 (hen:∀ (A':Around) (E':Value->Shared->Prop) (s':Shared) (Q':Option (Value×Nat)->Shared->Prop),s'.heap.get? a=some o->Q' none s'->wpAny (model prog w) A' (setNext a (sl vs.length) vs.length ep) Q' E' s') :
 Walks prog w A I [I,a] [I] vs.length (fun i v=>vs[i]?=some v) (fun i h=>SetIt h I (.int (sl i) 0) i a vs.length ep/\h.get? a=some o) where
 sub:=fun b hb=>by simp at hb;simp [hb]
 frame:=fun _ _ _ st hk=>⟨st.1.at fun o e=>hk I (by simp) o e,hk a (by simp) _ st.2⟩
 item:=fun i s Q E hi st hQ=>by
  obtain ⟨⟨oi,hoi,hci,hdi⟩,hoa⟩:=st;refine setIt_next ⟨oi,hoi,hci,hdi⟩ hoa hd hf hn ?_;refine yf (hnx _ _ _ _ i vs[i] (yA hi) hoa ?_);dsimp only;refine yf (wpAny_setField hoi hdi (by simp) ?_);obtain ⟨o1,g1,c1,d1⟩:=J2P hoi hci hdi 0 (rawInt (sl (i+1)));refine yf (wpAny_setField (s:={ s with heap:=_ }) g1 d1 (by simp) ?_);obtain ⟨o2,g2,c2,d2⟩:=J2P (x0:=rawInt (sl (i+1))) g1 c1 (by rw [d1];rfl) 1 (rawInt ((i:Int)+1));refine yg ⟨_,rfl,hQ _ _ s.toks (yA hi) ⟨⟨o2,g2,c2,by rw [d2];rfl⟩,J07 hne (J07 hne hoa)⟩ fun b o' hb e=>J07 (by simpa using hb) (J07 (by simpa using hb) e)⟩
 done:=fun s Q E st hQ=>by
  obtain ⟨⟨oi,hoi,hci,hdi⟩,hoa⟩:=st;refine setIt_next ⟨oi,hoi,hci,hdi⟩ hoa hd hf hn ?_;refine yf (hen _ _ _ _ hoa ?_);dsimp only;refine yf (wpAny_setField hoi hdi (by simp) ?_);refine J97 hh fun h' hk=>hQ h' s.toks fun b o' hb e=>hk _ _ (J07 (by simpa using hb) e)
 self:=fun i s Q E st hQ=>J3x st.1 hQ
theorem J9P (hh:A.handled=none)(I T:Addr)(hne:a≠I)(hnT:T≠I)(hd:o.data=.set es ep t)(hf:t.fits es.size=true)(l:List Nat)(hl:∀ i∈l,i<es.size)(hn:l.length=es.size) :
 Walks prog w A I [I,a,T] [I] l.length (fun i v=>(l.map fun j=>(es.getD j (0,Value.none)).2)[i]?=some v)
  (fun i h=>SetIt h I (.ref T) i a l.length ep/\h.get? a=some o/\h.get? T=some (seqObj "tuple" (l.map fun (i:Nat)=>Value.int i 0).toArray 0)) where
 sub:=fun b hb=>by simp at hb;simp [hb]
 frame:=fun _ _ _ st hk=>⟨st.1.at fun o e=>hk I (by simp) o e,hk a (by simp) _ st.2.1,hk T (by simp) _ st.2.2⟩
 item:=fun i s Q E hi st hQ=>by
  obtain ⟨⟨oi,hoi,hci,hdi⟩,hoa,hoT⟩:=st;refine setIt_next ⟨oi,hoi,hci,hdi⟩ hoa hd hf hn ?_;dsimp only;have hp:(l.map fun (i:Nat)=>Value.int i 0).toArray[i]?=some (Value.int (l[i]:Nat) 0):=by simp [hi]
  have hls:l[i]<es.size:=hl _ (getElem_mem hi);have hv:(l.map fun j=>(es.getD j (0,Value.none)).2)[i]?=some es[l[i]].2:=by simp [hi,Array.getD,hls]
  refine yf (m:=seqItems? (.ref T)) (yf (wpAny_load hoT (yg ?_)));dsimp only;rw [hp];dsimp only;unfold setNextDrawn;refine yf (yf (wpAny_setState_of hoa hd hf ?_));dsimp only;rw [yh (by simp),show ((l[i]:Nat):Int).toNat=l[i] from rfl,Array.getElem?_eq_getElem hls];refine yg ?_;refine yf (wpAny_setField hoi hdi (by simp) ?_);obtain ⟨o2,g2,c2,d2⟩:=J2P hoi hci hdi 1 (rawInt ((i:Int)+1));exact yg ⟨_,rfl,hQ _ _ s.toks hv ⟨⟨o2,g2,c2,by rw [d2];rfl⟩,J07 hne hoa,J07 hnT hoT⟩ fun b o' hb e=>J07 (by simpa using hb) e⟩
 done:=fun s Q E st hQ=>by
  obtain ⟨⟨oi,hoi,hci,hdi⟩,hoa,hoT⟩:=st;refine setIt_next ⟨oi,hoi,hci,hdi⟩ hoa hd hf hn ?_;dsimp only;refine yf (m:=seqItems? (.ref T)) (yf (wpAny_load hoT (yg ?_)));dsimp only;rw [show (l.map fun (i:Nat)=>Value.int i 0).toArray[l.length]?=none by simp];dsimp only;refine yf (wpAny_setField hoi hdi (by simp) ?_);obtain ⟨o1,g1,c1,d1⟩:=J2P hoi hci hdi 0 (rawInt 0);refine yf (wpAny_setField (s:={ s with heap:=_ }) g1 d1 (by simp) ?_);refine J97 hh fun h' hk=>hQ h' s.toks fun b o' hb e=>hk _ _ (J07 (by simpa using hb) (J07 (by simpa using hb) e))
 self:=fun i s Q E st hQ=>J3x st.1 hQ
theorem Jbu (hb:byT w=true)(hd:o.data=.set es ep t)(hf:t.fits es.size=true)(A':Around)(E':Value->Shared->Prop)(s':Shared)(Q':Option (Value×Nat)->Shared->Prop)(i:Nat)(ho:s'.heap.get? a=some o)
 (h:Q' (((pickOrder (w.params.setOrder a ep) es)[i]?).map fun e=>(e.2,0)) s'):wpAny (model prog w) A' (setNext a 0 i ep) Q' E' s':=by
 unfold setNext setsByText;refine yf (wpAny_setState_of ho hd hf ?_);dsimp only;refine yf (yf (wpAny_askSetting (yg ?_)));show wpAny _ _ (if byT w=true then _ else _) _ _ _;rw [yi hb,yh (by simp)];unfold setWalk setsByText;refine yf (yf (wpAny_setState_of ho hd hf ?_));dsimp only;refine yf (yf (wpAny_askSetting (yg ?_)));show wpAny _ _ (if byT w=true then _ else _) _ _ _;rw [yi hb];refine yf (wpAny_askSetting (yg (yg h)))
theorem Jbt (hb:byT w=false)(hD:drw w es t=false)(hd:o.data=.set es ep t)(hf:t.fits es.size=true)(hl:t.led=true)(slot:Nat)(A':Around)(E':Value->Shared->Prop)(s':Shared)(Q':Option (Value×Nat)->Shared->Prop)(i:Nat)(ho:s'.heap.get? a=some o)
 (h:Q' (match es[SetTable.below t.place slot]?,t.place[SetTable.below t.place slot]? with | some (_,x),some j=>some (x,j+1) | _,_=>none) s'):wpAny (model prog w) A' (setNext a slot i ep) Q' E' s':=by
 unfold setNext setsByText;refine yf (wpAny_setState_of ho hd hf ?_);dsimp only;refine yf (yf (wpAny_askSetting (yg ?_)));have hD':(!t.plain&&decide (es.size > 1))=false:=by
  have:drw w es t=(!byT w&&(!t.plain&&decide (es.size > 1))):=rfl;rw [this,hb] at hD;simpa using hD
 show wpAny _ _ (if byT w=true then _ else if (!t.plain&&decide (es.size > 1))=true then _ else _) _ _ _;rw [hb,hD',yh yk,yh yk];show wpAny _ _ ((if (!t.led&&!es.isEmpty)=true then unsupported "set:maker-not-led" else pure ()) >>= _) _ _ _;rw [hl,yh (by simp)];exact yf (yg (yg h))
end
section
variable {prog:Program}{w:World}{es:Array (Int×Value)}{t:SetTable}{ks:List Int}
theorem JcN {l:List (Int×Value)}:(∀ e∈l,∃ k,(intKind prog w).is k e.2=true)->IntsAre (l.map (·.2)) (l.map kOf):=by
 induction l with
 | nil=>intro _;exact .nil
 | cons e l ih =>
   intro h;obtain ⟨k,hk⟩:=h e yK;obtain ⟨tk,et⟩:=isInt_shape hk;have e1:kOf e=k:=by unfold kOf;rw [et];rfl
   rw [yM,yM,et,e1];exact .cons k tk (ih fun x hx=>h x (yJ _ hx))
theorem SR.ints (R:SR prog w es t ks){l:List (Int×Value)}(p:l.Perm es.toList):IntsAre (l.map (·.2)) (l.map kOf)/\(l.map kOf).Nodup/\(∀ k,k∈l.map kOf↔k∈ks)/\l.length<=ks.length :=
 ⟨JcN fun e he=>let ⟨⟨k,hk,_⟩,_⟩:=R.el e (p.mem_iff.mp he);⟨k,hk⟩,(p.map kOf).nodup_iff.mpr R.nd,fun k=>((p.map kOf).mem_iff).trans (R.mem k),by rw [p.length_eq,yz];exact R.len⟩
theorem J8M {α:Type}(es:Array α)(d:α):(List.range es.size).map (fun j=>es.getD j d)=es.toList:=by
 refine ext_getElem? fun i=>?_;rw [yN,show es.toList[i]?=es[i]? from Array.getElem?_toList];by_cases hi:i<es.size
 ·rw [List.getElem?_range hi,Array.getElem?_eq_getElem hi]
  simp [Array.getD,hi]
 ·rw [List.getElem?_eq_none (l:=List.range _) (by rw [yX];omega),Array.getElem?_eq_none (by omega)]
  rfl
end
section
variable {prog:Program}{w:World}{A:Around}{E:Value->Shared->Prop}{s:Shared}{a:Addr}{ks:List Int}
theorem iter_R {Q:Value->Shared->Prop}(hh:A.handled=none)(h:J3T prog w s.heap a ks)(hz:ks.length<=sizeLine)
 (hQ:∀ (I:Addr) (h1:Heap) d1 (fp:List Addr) (St:Nat->Heap->Prop) (vs:List Value) (ms:List Int),Walks prog w A I fp [I] vs.length (fun i v=>vs[i]?=some v) St->St 0 h1->s.heap.objs.size<=I->(∀ b∈fp,b=a\/s.heap.objs.size<=b) ->
  (∀ b o,s.heap.get? b=some o->h1.get? b=some o)->IntsAre vs ms->ms.Nodup->(∀ k,k∈ms↔k∈ks)->vs.length<=ks.length->Q (.ref I) { s with heap:=h1,drawn:=d1 }):wpAny (model prog w) A (pyIter (.ref a)) Q E s:=by
 obtain ⟨o,es,ep,t,ho,hex,hd,R⟩:=h;have hfe:t.place.size=es.size:=by
  have:=R.fits;simp only [SetTable.fits,Bool.and_eq_true,beq_iff_eq] at this;exact this.1
 have hla:a<s.heap.objs.size:=y7 ho;refine J8u ho hex hd R (yx R.len hz) (fun hD=>?_) fun hD l d' hp=>?_
 ·cases hb:byT w with
  | true =>
    have hp:=Ja5 (w.params.setOrder a ep) es;obtain ⟨i1,i2,i3,i4⟩:=R.ints hp;have hn:((pickOrder (w.params.setOrder a ep) es).toList.map (·.2)).length=es.size:=by rw [yC,hp.length_eq,yz]
    refine hQ s.heap.objs.size _ s.drawn _ _ _ _ (J4N hh s.heap.objs.size (yr hla) hd R.fits ((pickOrder (w.params.setOrder a ep) es).toList.map (·.2)) (fun _=>0) hn (fun A' E' s' Q' i v hv ho' hq=>?_) (fun A' E' s' Q' ho' hq=>?_)) ⟨⟨_,y6 _ rfl,rfl,by rw [hn];rfl⟩,y4 _ ho⟩ (yj _) (fun b hb=>?_) (fun b o e=>y4 _ e) i1 i2 i3 (by rw [yC];exact i4)
    ·refine Jbu hb hd R.fits A' E' s' Q' i ho' ?_
     rw [yN,Array.getElem?_toList] at hv;obtain ⟨e,he,rfl⟩:=Option.map_eq_some_iff.mp hv;rw [he];exact hq
    ·refine Jbu hb hd R.fits A' E' s' Q' _ ho' ?_
     rw [yC,yz,Array.getElem?_eq_none (yj _)];exact hq
    ·rcases yL.mp hb with rfl | hb
     ·exact .inr (yj _)
     ·exact .inl (yD.mp hb)
  | false =>
    have hled:t.led=true:=by rw [R.led,show w.params.followText "set-order"=false from hb];rfl
    obtain ⟨i1,i2,i3,i4⟩:=R.ints (.refl _);have hn:(es.toList.map (·.2)).length=es.size:=by rw [yC,yz]
    have hbel:∀ i,i<=es.size->SetTable.below t.place (match i with | 0=>0 | j+1=>t.place.getD j 0+1)=i:=fun i hi=>by
     refine J8g R.ris (by omega) (fun k hk hki=>?_) (fun k hk hki=>?_)
     ·cases i with
      | zero=>omega
      | succ j =>
        have hj:j<t.place.size:=by omega
        have e:t.place.getD j 0=t.place[j]:=by simp [Array.getD,hj]
        dsimp only;rw [e];rcases Nat.lt_or_eq_of_le (Nat.le_of_lt_succ hki) with z | rfl
        ·exact Nat.lt_succ_of_lt (R.ris.lt z hj)
        ·exact Nat.lt_succ_self _
     ·cases i with
      | zero=>exact yw _
      | succ j =>
        have hj:j<t.place.size:=by omega
        have e:t.place.getD j 0=t.place[j]:=by simp [Array.getD,hj]
        dsimp only;rw [e];exact R.ris.lt hki hk
    refine hQ s.heap.objs.size _ s.drawn _ _ _ _ (J4N hh s.heap.objs.size (yr hla) hd R.fits (es.toList.map (·.2)) (fun i=>match i with | 0=>0 | j+1=>t.place.getD j 0+1) hn (fun A' E' s' Q' i v hv ho' hq=>?_) (fun A' E' s' Q' ho' hq=>?_)) ⟨⟨_,y6 _ rfl,rfl,by rw [hn];rfl⟩,y4 _ ho⟩ (yj _) (fun b hb=>?_) (fun b o e=>y4 _ e) i1 i2 i3 (by rw [yC];exact i4)
    ·refine Jbt hb hD hd R.fits hled _ A' E' s' Q' i ho' ?_
     rw [yN,Array.getElem?_toList] at hv;obtain ⟨e,he,rfl⟩:=Option.map_eq_some_iff.mp hv;have hi:i<es.size:=(Array.getElem?_eq_some_iff.mp he).1;rw [hbel i (Nat.le_of_lt hi),he,Array.getElem?_eq_getElem (show i<t.place.size by omega)];have e2:t.place.getD i 0=t.place[i]'(by omega):=by simp [Array.getD,show i<t.place.size by omega]
     dsimp only at hq ⊢;rw [e2] at hq;exact hq
    ·refine Jbt hb hD hd R.fits hled _ A' E' s' Q' _ ho' ?_
     rw [hn,hbel es.size (yj _),Array.getElem?_eq_none (yj _)];exact hq
    ·rcases yL.mp hb with rfl | hb
     ·exact .inr (yj _)
     ·exact .inl (yD.mp hb)
 ·have hlt:∀ i∈l,i<es.size:=fun i hi=>by simpa using hp.mem_iff.mp hi
  have hll:l.length=es.size:=by rw [hp.length_eq];simp
  have hp2:(l.map fun j=>es.getD j (0,Value.none)).Perm es.toList:=by
   rw [<- J8M es (0,Value.none)];exact hp.map _
  obtain ⟨i1,i2,i3,i4⟩:=R.ints hp2;rw [yC] at i4;have hsz:(s.heap.push (seqObj "tuple" (l.map fun (i:Nat)=>Value.int i 0).toArray 0)).objs.size=s.heap.objs.size+1:=Heap.size_push ..;have W:=J9P (prog:=prog) (w:=w) (A:=A) hh (s.heap.objs.size+1:Nat) s.heap.objs.size (a:=a) (yr (Nat.lt_succ_of_lt hla)) (yr (Nat.lt_succ_self _)) hd R.fits l hlt hll;have ev:((l.map fun j=>es.getD j (0,Value.none)).map (·.2))=l.map fun j=>(es.getD j (0,Value.none)).2:=by rw [map_map];rfl
  rw [ev] at i1;have hl2:(l.map fun j=>(es.getD j (0,Value.none)).2).length=l.length:=yC ..;have W2:Walks prog w A (s.heap.objs.size+1:Nat) [(s.heap.objs.size+1:Nat),a,s.heap.objs.size] [(s.heap.objs.size+1:Nat)] (l.map fun j=>(es.getD j (0,Value.none)).2).length (fun i v=>(l.map fun j=>(es.getD j (0,Value.none)).2)[i]?=some v)
   (fun i h=>SetIt h (s.heap.objs.size+1:Nat) (.ref s.heap.objs.size) i a l.length ep/\h.get? a=some o/\h.get? s.heap.objs.size=some (seqObj "tuple" (l.map fun (i:Nat)=>Value.int i 0).toArray 0)):=by rw [hl2];exact W
  refine hQ _ _ d' _ _ _ _ W2 ⟨⟨_,by rw [<- hsz];exact y6 _ rfl,rfl,by rw [hll]⟩,y4 _ (y4 _ ho),y4 _ (y6 _ rfl)⟩ (Nat.le_succ _) (fun b hb=>?_) (fun b o e=>y4 _ (y4 _ e)) i1 i2 i3 (by rw [hl2];exact i4);rcases yL.mp hb with rfl | hb
  ·exact .inr (Nat.le_succ _)
  ·rcases yL.mp hb with rfl | hb
   ·exact .inl rfl
   ·exact .inr (by rw [yD.mp hb];exact yj _)
theorem JbD {Q:Bool->Shared->Prop}{r:Addr}(hT:s.TypeIs (.ref r) "set")(h:Q false s):wpAny (model prog w) A (Builtin.List.listLengthHint (.ref r)) Q E s:=by
 unfold Builtin.List.listLengthHint;refine yf (wpAny_specialOf hT PySem.F.slot_set_len.lookup ?_);generalize hid:("set.__len__":String)=id0
 wp_delta
 rw [show splitId id0=some ("set","__len__") from by subst hid;decide +kernel];subst hid;refine yf (wpAny_isInstance (T:="set") (b:=true) hT (by rw [isSubtype_type];kernel_rfl) ?_);refine wpAny_ite_split (fun hab=>absurd hab (by decide)) (fun _=>?_);refine wpAny_ite_split (fun _=>?_) (fun hab=>absurd (by decide +kernel) hab);refine yf (wpAny_typeOf hT ?_);exact yg h
theorem extend_set {R:Result->Shared->Prop}(hh:A.handled=none)(hS0:J3T prog w s.heap a ks)(hz:ks.length<=sizeLine)(S:Addr)(hSa:S≠a)(res:Value)(c₀:Nat)(hS:s.heap.get? S=some { cls:=.type "list",data:=.seq #[] c₀ })
 (hR:∀ h' tk d' acc' c' ms,(∀ b o,b≠S->s.heap.get? b=some o->h'.get? b=some o)->h'.get? S=some { cls:=.type "list",dict:=none,data:=.seq acc' c',slots:=#[] }->IntsAre acc'.toList ms->ms.Nodup->(∀ k,k∈ms↔k∈ks)->ms.length<=ks.length ->
  R (.ok (.ret res)) { s with heap:=h',toks:=tk,drawn:=d' }) :
 wpAny (model prog w) A.in1 (Builtin.List.listExtendWith (.ref S) (.ref a) res)
  (fun fin s'=>match fin with | .done f=>R (.ok f) s' | .again c'=>c'.quiet=true/\codeAny (model prog w) A c' R s') (fun e s'=>R (.error e) s') s:=by
 have hT:s.TypeIs (.ref a) "set":=by obtain ⟨o,_,_,_,ho,hex,_⟩:=hS0;exact ⟨o,ho,hex.1⟩
 unfold Builtin.List.listExtendWith;refine yf (wpAny_typeOf (T:="set") hT ?_);have h1:Builtin.List.listSameRef (.ref S) (.ref a)=false:=by simp [Builtin.List.listSameRef,hSa]
 have h2:(Value.type "set" == Value.type "list")=false:=by decide
 have h3:(Value.type "set" == Value.type "tuple")=false:=by decide
 simp only [h1,h2,h3,Bool.or_false,Bool.false_eq_true,if_false];refine yf (iter_R (A:=A.in1) hh hS0 hz fun I hp1 d1 fp St vs ms W st hI hfp hk hi hnd hmem hle=>?_);have hSf:S∉fp:=fun z=>by
  rcases hfp S z with e | e
  ·exact hSa e
  ·exact absurd (y7 hS) (Nat.not_lt.mpr e)
 have hT1:Shared.TypeIs { s with heap:=hp1,drawn:=d1 } (.ref a) "set":=by obtain ⟨o,ho,hc⟩:=hT;exact ⟨o,hk _ _ ho,hc⟩
 have hS1:=hk _ _ hS;refine yf (wpAny_holding (JbD hT1 ?_));have key:∀ (h:Heap) (c₁ tk:Nat),St 0 h->(∀ b o,b≠S->s.heap.get? b=some o->h.get? b=some o) ->
  h.get? S=some { cls:=.type "list",data:=.seq #[] c₁ }->codeAny (model prog w) A (.builtin "list.extend.loop" ⟨[.ref S,.ref I,res],[]⟩) R { s with heap:=h,toks:=tk,drawn:=d1 }:=by
  intro h c₁ tk hst hk' hS₁;refine codeAny_extend_loopS W.toS (by omega) S hSf res vs.length 0 _ #[] c₁ rfl (yw _) hst hS₁ (ItemsOf.nil _) fun s' acc' c' hm hS' hacc=>?_;rw [Moved.eq_with hm];have ea:acc'.toList=vs:=by
   refine ext_getElem? fun j=>?_;rw [Array.getElem?_toList];by_cases hj:j<acc'.size
   ·rw [Array.getElem?_eq_getElem hj,hacc.2 j _ (Array.getElem?_eq_getElem hj)]
   ·have:=hacc.1
    rw [Array.getElem?_eq_none (by omega),List.getElem?_eq_none (by omega)]
  refine hR s'.heap s'.toks d1 acc' c' ms (fun b o hb e=>hm.heap b o (fun hmem=>?_) (hk' b o hb e)) hS' (by rw [ea];exact hi) hnd hmem (by rw [<- hi.length];exact hle);rcases yL.mp hmem with e' | hmem
  ·exact hb e'
  ·rw [yD.mp hmem] at e
   exact absurd (y7 e) (Nat.not_lt.mpr hI)
 refine wpAny_ite_split (fun _=>?_) (fun _=>yg ⟨plainId_quiet PySem.F.plain_extend_loop _,key _ c₀ _ st (fun b o _ e=>hk b o e) hS1⟩);refine yf (wpAny_rule ?_);refine yf ?_;show wpAny _ _ (updateSeq S (·.push .none) >>= fun _=>updateSeq S (·.pop)) _ _ _;refine yf (wpAny_updateSeq hS1 rfl ?_);have hS₂:=Heap.get?_update_self (Obj.mapSeq (·.push Value.none)) hS1 rfl;refine wpAny_updateSeq (hz:=by seq_fits) hS₂ rfl ?_;have hS₃:=Heap.get?_update_self (Obj.mapSeq (·.pop)) hS₂ rfl;refine yg ⟨plainId_quiet PySem.F.plain_extend_loop _,key _ _ _ ?_ (fun b o hb e=>?_) hS₃⟩
 ·refine W.frame 0 _ _ st fun b hb o e=>?_
  have hbS:b≠S:=fun h=>hSf (h ▸ hb);exact J07 hbS (J07 hbS e)
 ·exact J07 hb (J07 hb (hk _ _ e))
theorem Ja3 {R:Result->Shared->Prop}(hh:A.handled=none)(hS0:J3T prog w s.heap a ks)(hz:ks.length<=sizeLine)
 (hR:∀ h' tk d' acc' c' ms,(∀ b o,s.heap.get? b=some o->h'.get? b=some o)->h'.get? s.heap.objs.size=some { cls:=.type "list",dict:=none,data:=.seq acc' c',slots:=#[] }->IntsAre acc'.toList ms->ms.Nodup->(∀ k,k∈ms↔k∈ks)->ms.length<=ks.length ->
  R (.ok (.ret (.ref s.heap.objs.size))) { s with heap:=h',toks:=tk,drawn:=d' }) :
 codeAny (model prog w) A (.builtin "proto.collect" ⟨[.ref a],[]⟩) R s:=by
 have hla:a<s.heap.objs.size:=by obtain ⟨o,_,_,_,ho,_⟩:=hS0;exact y7 ho
 refine codeAny_builtin PySem.F.entry_proto_collect ?_;rw [ze PySem.F.plain_proto_collect _];show wpAny _ A.in1 (newList [] >>= fun l=>again (.builtin "list.__iadd__" ⟨[l,.ref a],[]⟩)) _ _ s;refine yf (wpAny_newObj_type ?_);refine yg ⟨plainId_quiet PySem.F.plain_list_iadd _,codeAny_builtin PySem.F.entry_list_iadd ?_⟩;rw [ze PySem.F.plain_list_iadd _];have hS:(s.heap.push { cls:=.type "list",data:=.seq ([]:List Value).toArray }).get? s.heap.objs.size=some { cls:=.type "list",data:=.seq #[] 0 }:=y6 _ rfl;show wpAny _ A.in1 (Builtin.List.listExtendWith (.ref s.heap.objs.size) (.ref a) (.ref s.heap.objs.size)) _ _ _;exact extend_set (s:={ s with heap:=s.heap.push { cls:=.type "list",data:=.seq ([]:List Value).toArray } }) (A:=A) hh (by obtain ⟨o,es,ep,t,ho,r⟩:=hS0;exact ⟨o,es,ep,t,y4 _ ho,r⟩) hz s.heap.objs.size (Nat.ne_of_gt hla) (.ref s.heap.objs.size) 0 hS
  (fun h' tk d' acc' c' ms hk hS' hi hnd hmem hle=>hR h' tk d' acc' c' ms (fun b o e=>hk b o (yr (y7 e)) (y4 _ e)) hS' hi hnd hmem hle)
theorem J86 {Q:List Value->Shared->Prop}(hh:A.handled=none)(hS0:J3T prog w s.heap a ks)(hz:ks.length<=sizeLine)
 (hQ:∀ h' tk d' vs ms,(∀ b o,s.heap.get? b=some o->h'.get? b=some o)->s.heap.objs.size<h'.objs.size->IntsAre vs ms->ms.Nodup->(∀ k,k∈ms↔k∈ks)->ms.length<=ks.length->Q vs { s with heap:=h',toks:=tk,drawn:=d' }):wpAny (model prog w) A (collect (.ref a)) Q E s:=by
 unfold collect;refine yf (wpAny_runValue (Ja3 hh hS0 hz fun h' tk d' acc' c' ms hk hS' hi hnd hmem hle=>?_));show wpAny _ A (load s.heap.objs.size >>= _) _ _ _;refine yf (wpAny_load hS' ?_);exact yg (hQ h' tk d' acc'.toList ms hk (y7 hS') hi hnd hmem hle)
end
theorem J7g:bootBuiltins "sorted"=some (.builtin "sorted"):=by decide +kernel
theorem J9S {ms:List Int}(h:ms.Pairwise (·<=·))(n:ms.Nodup):ms.Pairwise (·<·):=by
 have:=List.Pairwise.and h n;exact this.imp fun ⟨a,b⟩=>by omega
section
variable {X:Cx}{K:Frag}{e:Expr}{te:TE}{p1 p2 q1 q2:Pos}{pins:List (Addr×Obj)}{σ:St}{H:Hp}{s:Shared}
theorem Inv.drw (I:Inv X pins σ H s)(d):Inv X pins σ H { s with drawn:=d }:=⟨I.ok,I.os,I.bare,I.base,I.loc,I.cell,I.free,I.freeC,I.pin,I.hok,I.len⟩
end
end L2
namespace L2
open PySem PyProof.Rows
section
variable {M:Model}{A:Around}{E:Value->Shared->Prop}{s:Shared}{τ α:Type}{c:Prop}[Decidable c]{a b:StateT τ Sem α}{Q:α->τ->Prop}{st:τ}
theorem JF (h:c)(q:wpS M A E s a Q st):wpS M A E s (if c then a else b) Q st:=by rw [yi h];exact q
theorem JW (h:¬ c)(q:wpS M A E s b Q st):wpS M A E s (if c then a else b) Q st:=by rw [yh h];exact q
end
structure Held (T:Prop):Prop where
 out:T
theorem J8V {T R:Prop}(f:Held T->R)(t:T):R:=f ⟨t⟩
abbrev Up (rk:Value->Nat)(l:List Keyed):Prop:=l.Pairwise fun x y=>rk x.1<=rk y.1
structure MLo (rk:Value->Nat)(la lb o:List Keyed)(ia ib:Nat):Prop where
 perm:(o++(la.drop ia++lb.drop ib)).Perm (la++lb)
 up:Up rk o
 low:∀ x∈o,∀ y∈la.drop ia++lb.drop ib,rk x.1<=rk y.1
section
variable {rk:Value->Nat}{la lb o:List Keyed}{ia ib k:Nat}
theorem MLo.start:MLo rk la lb [] 0 0:=⟨by simp,.nil,fun x h=>nomatch h⟩
theorem MLo.chA (m:MLo rk la lb o ia ib)(ha:Up rk la)(h:∀ x∈(la.drop ia).take k,∀ y∈lb.drop ib,rk x.1<=rk y.1):MLo rk la lb (o++(la.drop ia).take k) (ia+k) ib:=by
 have e:la.drop ia=(la.drop ia).take k++la.drop (ia+k):=by rw [<- drop_drop];exact (take_append_drop k _).symm
 have hd:Up rk ((la.drop ia).take k++la.drop (ia+k)):=by rw [<- e];exact List.Pairwise.sublist (drop_sublist _ _) ha
 obtain ⟨h1,h2,h3⟩:=pairwise_append.mp hd;have mem:∀ x,x∈(la.drop ia).take k->x∈la.drop ia:=fun x hx=>mem_of_mem_take hx;refine ⟨?_,?_,?_⟩
 ·have p:=m.perm
  rw [e] at p;simpa [yY] using p
 ·refine pairwise_append.mpr ⟨m.up,h1,fun x hx y hy=>m.low x hx y (yS _ (mem y hy))⟩
 ·intro x hx y hy
  rcases yQ.mp hx with hx | hx
  ·refine m.low x hx y ?_
   rcases yQ.mp hy with hy | hy
   ·rw [e];exact yS _ (yR _ hy)
   ·exact yR _ hy
  ·rcases yQ.mp hy with hy | hy
   ·exact h3 x hx y hy
   ·exact h x hx y hy
theorem MLo.chB (m:MLo rk la lb o ia ib)(hb:Up rk lb)(h:∀ x∈(lb.drop ib).take k,∀ y∈la.drop ia,rk x.1<=rk y.1):MLo rk la lb (o++(lb.drop ib).take k) ia (ib+k):=by
 have e:lb.drop ib=(lb.drop ib).take k++lb.drop (ib+k):=by rw [<- drop_drop];exact (take_append_drop k _).symm
 have hd:Up rk ((lb.drop ib).take k++lb.drop (ib+k)):=by rw [<- e];exact List.Pairwise.sublist (drop_sublist _ _) hb
 obtain ⟨h1,h2,h3⟩:=pairwise_append.mp hd;have mem:∀ x,x∈(lb.drop ib).take k->x∈lb.drop ib:=fun x hx=>mem_of_mem_take hx;refine ⟨?_,?_,?_⟩
 ·have p:=m.perm
  rw [e] at p;refine List.Perm.trans ?_ p;rw [yY];refine List.Perm.append_left _ ?_;rw [<- yY,<- yY];exact List.Perm.append_right _ perm_append_comm
 ·exact pairwise_append.mpr ⟨m.up,h1,fun x hx y hy=>m.low x hx y (yR _ (mem y hy))⟩
 ·intro x hx y hy
  rcases yQ.mp hx with hx | hx
  ·refine m.low x hx y ?_
   rcases yQ.mp hy with hy | hy
   ·exact yS _ hy
   ·rw [e];exact yR _ (yR _ hy)
  ·rcases yQ.mp hy with hy | hy
   ·exact h x hx y hy
   ·exact h3 x hx y hy
def J0B (rk:Value->Nat)(la lb l:List Keyed):Prop:=l.Perm (la++lb)/\Up rk l
theorem MLo.doneB (m:MLo rk la lb o ia ib)(ha:Up rk la)(hb:Up rk lb)(h:lb.length<=ib\/la.length<=ia):J0B rk la lb (o++la.drop ia++lb.drop ib):=by
 rw [yY];refine ⟨m.perm,pairwise_append.mpr ⟨m.up,?_,m.low⟩⟩;rcases h with h | h
 ·rw [drop_eq_nil_of_le h,append_nil];exact List.Pairwise.sublist (drop_sublist _ _) ha
 ·rw [drop_eq_nil_of_le h,nil_append];exact List.Pairwise.sublist (drop_sublist _ _) hb
theorem MLo.doneA (m:MLo rk la lb o ia ib)(ha:Up rk la)(hb:Up rk lb)(h:∀ x∈lb,∀ y∈la.drop ia,rk x.1<=rk y.1):J0B rk la lb (o++lb.drop ib++la.drop ia):=by
 rw [yY];refine ⟨List.Perm.trans (List.Perm.append_left _ perm_append_comm) m.perm,pairwise_append.mpr ⟨m.up,?_,fun x hx y hy=>m.low x hx y ?_⟩⟩
 ·exact pairwise_append.mpr ⟨List.Pairwise.sublist (drop_sublist _ _) hb,List.Pairwise.sublist (drop_sublist _ _) ha,fun x hx y hy=>h x (mem_of_mem_drop hx) y hy⟩
 ·rcases yQ.mp hy with hy | hy
  ·exact yR _ hy
  ·exact yS _ hy
theorem J93 {l:List Keyed}{i:Nat}{p:Keyed}(h:l[i]?=some p):(l.drop i).take 1=[p]:=by
 obtain ⟨hi,rfl⟩:=yB.mp h;rw [drop_eq_getElem_cons hi];rfl
theorem J1F {l:List Keyed}{i:Nat}{p:Keyed}(u:Up rk l)(h:l[i]?=some p):∀ y∈l.drop i,rk p.1<=rk y.1:=by
 obtain ⟨hi,rfl⟩:=yB.mp h;have e:=drop_eq_getElem_cons hi;have u':Up rk (l.drop i):=List.Pairwise.sublist (drop_sublist _ _) u;intro y hy;rw [e] at hy u';rcases yL.mp hy with rfl | hy
 ·exact yj _
 ·exact (pairwise_cons.mp u').1 y hy
theorem J47 {l:List Keyed}{i k:Nat}{x:Keyed}(h:x∈(l.drop i).take k):∃ j,j<k/\l[i+j]?=some x:=by
 obtain ⟨j,hj⟩:=yT.mp h;have hjk:j<k:=by
  have:=(yB.mp hj).1;rw [yI] at this;omega
 rw [List.getElem?_take_of_lt hjk,List.getElem?_drop] at hj;exact ⟨j,hjk,hj⟩
end
def J9x:Bool->Keyed->Array Keyed->Nat->Nat->Nat->StateT SortSt Sem (Option Nat):=sortPriv% PySem.Builtin.gallop
def Cmp (prog:Program)(w:World)(A:Around)(s:Shared)(kd:SortKind)(D:Value->Prop)(rk:Value->Nat):Prop :=
 ∀ (E:Value->Shared->Prop) (x y:Value) (Q:Bool->Shared->Prop),D x->D y->Q (decide (rk x<rk y)) s->wpAny (model prog w) A (keyLt' kd x y) Q E s
section
variable {prog:Program}{w:World}{A:Around}{E:Value->Shared->Prop}{s:Shared}{kd:SortKind}{D:Value->Prop}{rk:Value->Nat}
theorem J4U (C:Cmp prog w A s kd D rk){st:SortSt}{x y:Keyed}{Q:Option Bool->SortSt->Prop}(hk:kindOf st=kd)(hx:D x.1)(hy:D y.1)(h:Q (some (decide (rk x.1<rk y.1))) st):wpS (model prog w) A E s (lt' x y) Q st:=by
 rw [lt'_eq];refine wpS_bind (wpS_get ?_);rw [hk];exact wpS_bind (wpS_lift (wpAny_attempt (C _ _ _ _ hx hy ⟨rfl,wpS_pure h⟩)))
theorem JG {arr:Array Keyed}{i:Nat}{p:Keyed}{st:SortSt}{Q:Keyed->SortSt->Prop}{M:Model}(hp:arr[i]?=some p)(h:Q p st):wpS M A E s (elem' arr i) Q st:=by
 rw [elem'_eq,hp];exact wpS_pure h
def bey (rk:Value->Nat)(left:Bool)(key:Keyed)(arr:Array Keyed)(base i:Nat):Bool :=
 match arr[base+i]? with
 | some p=>if left then decide (rk p.1<rk key.1) else !decide (rk key.1<rk p.1)
 | none=>false
theorem tim_gallop (C:Cmp prog w A s kd D rk){st:SortSt}{left:Bool}{key:Keyed}{arr:Array Keyed}{base n hint:Nat}{Q:Option Nat->SortSt->Prop}(hk:kindOf st=kd)(hkey:D key.1)(hin:base+n<=arr.size)(hD:∀ p∈arr.toList,D p.1)(hh:hint<n)
 (mono:∀ i j,i<=j->j<n->bey rk left key arr base j=true->bey rk left key arr base i=true)
 (h:∀ k,k<=n->(∀ i,i<k->bey rk left key arr base i=true)->(∀ i,k<=i->i<n->bey rk left key arr base i=false)->Q (some k) st):wpS (model prog w) A E s (J9x left key arr base n hint) Q st:=by
 have ask:∀ (i:Nat) (R:Option Bool->SortSt->Prop),i<n->R (some (bey rk left key arr base i)) st->wpS (model prog w) A E s (elem' arr (base+i) >>= fun x=>if left then lt' x key else lt' key x >>= fun r=>pure (r.map (!·))) R st:=by
  intro i R hi hR;have hlt:base+i<arr.size:=by omega
  have e:arr[base+i]?=some arr[base+i]:=getElem?_pos arr (base+i) hlt;have d:D arr[base+i].1:=hD _ (by simp);refine wpS_bind (JG e ?_);unfold bey at hR;rw [e] at hR;cases left with
  | true=>exact J4U C hk d hkey hR
  | false=>exact wpS_bind (J4U C hk hkey d (wpS_pure hR))
 unfold J9x;refine wpS_bind (ask hint _ hh ?_);have anti:∀ i j,i<=j->j<n->bey rk left key arr base i=false->bey rk left key arr base j=false:=fun i j hij hj hf=>by
  cases e:bey rk left key arr base j with
  | false=>rfl
  | true=>rw [mono i j hij hj e] at hf;exact hf
 have fin:∀ (lo hi:Nat),lo<=hi->hi<=n->(∀ i,i<lo->bey rk left key arr base i=true)->(∀ i,hi<=i->i<n->bey rk left key arr base i=false)->∀ m,lo<=m->m<hi->(bey rk left key arr base m=true->∀ i,i<m+1->bey rk left key arr base i=true)/\(bey rk left key arr base m=false->∀ i,m<=i->i<n->bey rk left key arr base i=false):=fun lo hi _ h2 _ _ m _ h6 =>
  ⟨fun e i hi'=>mono i m (by omega) (by omega) e,fun e i h1 h2=>anti m i h1 h2 e⟩
 dsimp only;cases hr:bey rk left key arr base hint with
 | true =>
   rw [yi rfl];refine wpS_bind (wpS_mono (wpS_forRange (I:=fun x c st'=>st'=st/\∃ la o,c=(none,la,o)/\la<o/\x<o/\hint+la<n/\bey rk left key arr base (hint+la)=true)
    (Q:=fun c st'=>st'=st/\∃ la o,c=(none,la,o)/\la<o/\hint+la<n/\bey rk left key arr base (hint+la)=true/\(n - hint<=o\/bey rk left key arr base (hint+o)=false)) ?step ?fin ⟨rfl,0,1,rfl,by omega,by omega,by omega,hr⟩) ?post)
   case fin =>
    rintro c st' ⟨rfl,la,o,rfl,h1,h2,h3,h4⟩;exact ⟨rfl,la,o,rfl,h1,h3,h4,.inl (by omega)⟩
   case step =>
    rintro x c st' _ hx ⟨rfl,la,o,rfl,h1,h2,h3,h4⟩;dsimp only;by_cases ho:o≥n - hint
    ·rw [yi ho]
     exact wpS_pure ⟨rfl,la,o,rfl,h1,h3,h4,.inl ho⟩
    ·rw [yh ho]
     refine wpS_bind (ask (hint+o) _ (by omega) ?_);dsimp only;cases hb:bey rk left key arr base (hint+o) with
     | true=>exact wpS_pure ⟨rfl,o,2 * o+1,rfl,by omega,by omega,by omega,hb⟩
     | false=>exact wpS_pure ⟨rfl,la,o,rfl,h1,h3,h4,.inr hb⟩
   case post =>
    rintro c st1 ⟨e1,la,o,rfl,h1,h3,h4,h5⟩;rw [e1];clear e1 st1;dsimp only;have a1:hint+la+1<=hint+min o (n - hint):=by omega
    have a2:hint+min o (n - hint)<=n:=by omega
    have a3:∀ i,i<hint+la+1->bey rk left key arr base i=true:=fun i hi=>mono i (hint+la) (by omega) h3 h4;have a4:∀ i,hint+min o (n - hint)<=i->i<n->bey rk left key arr base i=false:=fun i hi hn=>by
     rcases h5 with h5 | h5
     ·omega
     ·by_cases q:o<=n - hint
      ·exact anti (hint+o) i (by omega) hn h5
      ·omega
    generalize hint+la+1=lo at *;generalize hint+min o (n - hint)=hi at *;refine wpS_bind (wpS_mono (wpS_forRange (I:=fun x c st'=>st'=st/\∃ lo hi,c=(none,lo,hi)/\lo<=hi/\hi<=n/\hi - lo<=n - x/\(∀ i,i<lo->bey rk left key arr base i=true)/\(∀ i,hi<=i->i<n->bey rk left key arr base i=false))
     (Q:=fun c st'=>st'=st/\∃ lo hi,c=(none,lo,hi)/\hi<=n/\(∀ i,i<hi->bey rk left key arr base i=true)/\(∀ i,hi<=i->i<n->bey rk left key arr base i=false)) ?stepT ?finT ⟨rfl,lo,hi,rfl,a1,a2,by omega,a3,a4⟩) ?postT)
    case finT =>
     rintro c st' ⟨rfl,lo,hi,rfl,b1,b2,b3,b4,b5⟩;exact ⟨rfl,lo,hi,rfl,b2,fun i hi'=>b4 i (by omega),b5⟩
    case stepT =>
     rintro x c st' _ hx ⟨rfl,lo,hi,rfl,b1,b2,b3,b4,b5⟩;dsimp only;by_cases hg:lo≥hi
     ·rw [yi hg]
      exact wpS_pure ⟨rfl,lo,hi,rfl,b2,fun i hi'=>b4 i (by omega),b5⟩
     ·rw [yh hg]
      refine wpS_bind (ask (lo+(hi - lo) / 2) _ (by omega) ?_);dsimp only;obtain ⟨f1,f2⟩:=fin lo hi b1 b2 b4 b5 (lo+(hi - lo) / 2) (by omega) (by omega);cases hb:bey rk left key arr base (lo+(hi - lo) / 2) with
      | true=>exact wpS_pure ⟨rfl,lo+(hi - lo) / 2+1,hi,rfl,by omega,b2,by omega,f1 hb,b5⟩
      | false=>exact wpS_pure ⟨rfl,lo,lo+(hi - lo) / 2,rfl,by omega,by omega,by omega,b4,f2 hb⟩
    case postT =>
     rintro c st' ⟨rfl,lo,hi,rfl,b2,b4,b5⟩;exact wpS_pure (h hi b2 b4 b5)
 | false =>
   rw [yh (by simp)];refine wpS_bind (wpS_mono (wpS_forRange (I:=fun x c st'=>st'=st/\∃ la o,c=(none,la,o)/\la<o/\x<o/\la<=hint/\bey rk left key arr base (hint - la)=false)
    (Q:=fun c st'=>st'=st/\∃ la o,c=(none,la,o)/\la<o/\la<=hint/\bey rk left key arr base (hint - la)=false/\(hint+1<=o\/bey rk left key arr base (hint - o)=true)) ?step2 ?fin2 ⟨rfl,0,1,rfl,by omega,by omega,by omega,hr⟩) ?post2)
   case fin2 =>
    rintro c st' ⟨rfl,la,o,rfl,h1,h2,h3,h4⟩;exact ⟨rfl,la,o,rfl,h1,h3,h4,.inl (by omega)⟩
   case step2 =>
    rintro x c st' _ hx ⟨rfl,la,o,rfl,h1,h2,h3,h4⟩;dsimp only;by_cases ho:o≥hint+1
    ·rw [yi ho]
     exact wpS_pure ⟨rfl,la,o,rfl,h1,h3,h4,.inl ho⟩
    ·rw [yh ho]
     refine wpS_bind (ask (hint - o) _ (by omega) ?_);dsimp only;cases hb:bey rk left key arr base (hint - o) with
     | true=>exact wpS_pure ⟨rfl,la,o,rfl,h1,h3,h4,.inr hb⟩
     | false=>exact wpS_pure ⟨rfl,o,2 * o+1,rfl,by omega,by omega,by omega,hb⟩
   case post2 =>
    rintro c st1 ⟨e1,la,o,rfl,h1,h3,h4,h5⟩;rw [e1];clear e1 st1;dsimp only;have a1:hint+1 - min o (hint+1)<=hint - la:=by omega
    have a2:hint - la<=n:=by omega
    have a3:∀ i,i<hint+1 - min o (hint+1)->bey rk left key arr base i=true:=fun i hi=>by
     rcases h5 with h5 | h5
     ·omega
     ·exact mono i (hint - o) (by omega) (by omega) h5
    have a4:∀ i,hint - la<=i->i<n->bey rk left key arr base i=false:=fun i hi hn=>anti (hint - la) i hi hn h4;generalize hint+1 - min o (hint+1)=lo at *;generalize hint - la=hi at *;refine wpS_bind (wpS_mono (wpS_forRange (I:=fun x c st'=>st'=st/\∃ lo hi,c=(none,lo,hi)/\lo<=hi/\hi<=n/\hi - lo<=n - x/\(∀ i,i<lo->bey rk left key arr base i=true)/\(∀ i,hi<=i->i<n->bey rk left key arr base i=false))
     (Q:=fun c st'=>st'=st/\∃ lo hi,c=(none,lo,hi)/\hi<=n/\(∀ i,i<hi->bey rk left key arr base i=true)/\(∀ i,hi<=i->i<n->bey rk left key arr base i=false)) ?stepU ?finU ⟨rfl,lo,hi,rfl,a1,a2,by omega,a3,a4⟩) ?postU)
    case finU =>
     rintro c st' ⟨rfl,lo,hi,rfl,b1,b2,b3,b4,b5⟩;exact ⟨rfl,lo,hi,rfl,b2,fun i hi'=>b4 i (by omega),b5⟩
    case stepU =>
     rintro x c st' _ hx ⟨rfl,lo,hi,rfl,b1,b2,b3,b4,b5⟩;dsimp only;by_cases hg:lo≥hi
     ·rw [yi hg]
      exact wpS_pure ⟨rfl,lo,hi,rfl,b2,fun i hi'=>b4 i (by omega),b5⟩
     ·rw [yh hg]
      refine wpS_bind (ask (lo+(hi - lo) / 2) _ (by omega) ?_);dsimp only;obtain ⟨f1,f2⟩:=fin lo hi b1 b2 b4 b5 (lo+(hi - lo) / 2) (by omega) (by omega);cases hb:bey rk left key arr base (lo+(hi - lo) / 2) with
      | true=>exact wpS_pure ⟨rfl,lo+(hi - lo) / 2+1,hi,rfl,by omega,b2,by omega,f1 hb,b5⟩
      | false=>exact wpS_pure ⟨rfl,lo,lo+(hi - lo) / 2,rfl,by omega,by omega,by omega,b4,f2 hb⟩
    case postU =>
     rintro c st' ⟨rfl,lo,hi,rfl,b2,b4,b5⟩;exact wpS_pure (h hi b2 b4 b5)
end
def J7K:Array Keyed->Array Keyed->StateT SortSt Sem (Array Keyed):=sortPriv% PySem.Builtin.mergeLo
def J2N (st st':SortSt):Prop:=kindOf st'=kindOf st/\arrOf st'=arrOf st/\pendingOf st'=pendingOf st/\failedOf st'=failedOf st
theorem J04 {a:Array Keyed}{i:Nat}{p:Keyed}(h:a[i]?=some p):a.toList[i]?=some p:=by rw [Array.getElem?_toList];exact h
theorem J92 (a:Array Keyed)(i k:Nat):(a.extract i (i+k)).toList=(a.toList.drop i).take k:=by
 rw [Array.toList_extract,extract_eq_drop_take];congr 1;omega
theorem J4D (a:Array Keyed)(i:Nat):(a.extract i a.size).toList=a.toList.drop i:=by
 rw [Array.toList_extract,extract_eq_drop_take];exact take_of_length_le (by simp)
section
variable {rk:Value->Nat}{a b:Array Keyed}{o:List Keyed}{ia ib k:Nat}{pa pb:Keyed}
theorem MLo.stB (m:MLo rk a.toList b.toList o ia ib)(ua:Up rk a.toList)(ub:Up rk b.toList)(hb:b[ib]?=some pb)(ha:a[ia]?=some pa)(h:rk pb.1<=rk pa.1):MLo rk a.toList b.toList (o++[pb]) ia (ib+1):=by
 have q:=m.chB (k:=1) ub (fun x hx y hy=>by
  rw [J93 (J04 hb)] at hx;cases yD.mp hx;exact yx h (J1F ua (J04 ha) y hy))
 rw [J93 (J04 hb)] at q;exact q
theorem MLo.stA (m:MLo rk a.toList b.toList o ia ib)(ua:Up rk a.toList)(ub:Up rk b.toList)(hb:b[ib]?=some pb)(ha:a[ia]?=some pa)(h:rk pa.1<=rk pb.1):MLo rk a.toList b.toList (o++[pa]) (ia+1) ib:=by
 have q:=m.chA (k:=1) ua (fun x hx y hy=>by
  rw [J93 (J04 ha)] at hx;cases yD.mp hx;exact yx h (J1F ub (J04 hb) y hy))
 rw [J93 (J04 ha)] at q;exact q
theorem MLo.gaA (m:MLo rk a.toList b.toList o ia ib)(ua:Up rk a.toList)(ub:Up rk b.toList)(hb:b[ib]?=some pb)(h:∀ i,i<k->bey rk false pb a ia i=true):MLo rk a.toList b.toList (o++(a.extract ia (ia+k)).toList) (ia+k) ib:=by
 rw [J92];refine m.chA ua fun x hx y hy=>yx ?_ (J1F ub (J04 hb) y hy);obtain ⟨j,hj,e⟩:=J47 hx;rw [Array.getElem?_toList] at e;have q:=h j hj;unfold bey at q;rw [e] at q;simpa using q
theorem MLo.gaB (m:MLo rk a.toList b.toList o ia ib)(ua:Up rk a.toList)(ub:Up rk b.toList)(ha:a[ia]?=some pa)(h:∀ i,i<k->bey rk true pa b ib i=true):MLo rk a.toList b.toList (o++(b.extract ib (ib+k)).toList) ia (ib+k):=by
 rw [J92];refine m.chB ub fun x hx y hy=>yx ?_ (J1F ua (J04 ha) y hy);obtain ⟨j,hj,e⟩:=J47 hx;rw [Array.getElem?_toList] at e;have q:=h j hj;unfold bey at q;rw [e] at q;exact Nat.le_of_lt (by simpa using q)
theorem J3R {left:Bool}{key:Keyed}{n:Nat}(u:Up rk a.toList)(hn:ia+n<=a.size):∀ i j,i<=j->j<n->bey rk left key a ia j=true->bey rk left key a ia i=true:=fun i j hij hj h=>by
 have hi':ia+i<a.size:=by omega
 have hj':ia+j<a.size:=by omega
 have ei:a[ia+i]?=some a[ia+i]:=getElem?_pos a (ia+i) hi';have ej:a[ia+j]?=some a[ia+j]:=getElem?_pos a (ia+j) hj';have le:rk a[ia+i].1<=rk a[ia+j].1:=by
  refine J1F u (J04 ei) _ ?_;refine yT.mpr ⟨j - i,?_⟩;rw [List.getElem?_drop,show ia+i+(j - i)=ia+j by omega];exact J04 ej
 unfold bey at h ⊢;rw [ej] at h;rw [ei];cases left with
 | true=>simp only [if_true,decide_eq_true_eq] at h ⊢;omega
 | false=>simp only [Bool.false_eq_true,if_false,Bool.not_eq_true',decide_eq_false_iff_not] at h ⊢;omega
end
section
variable {prog:Program}{w:World}{A:Around}{E:Value->Shared->Prop}{s:Shared}{kd:SortKind}{D:Value->Prop}{rk:Value->Nat}
inductive LoI1 (rk:Value->Nat)(a b:Array Keyed)(x:Nat)(c:Option (Array Keyed)×Array Keyed×Nat×Nat×Nat):Prop
 | mk (o:Array Keyed) (ia ib mg:Nat) (hc:c=(none,o,ia,ib,mg)) (h0:MLo rk a.toList b.toList o.toList ia ib) (h1:ia+1<a.size) (h2:ib<b.size) (h3:x<=ia+ib):LoI1 rk a b x c
inductive LoI2 (rk:Value->Nat)(a b:Array Keyed)(c:Option (Array Keyed)×Array Keyed×Nat×Nat×Nat):Prop
 | mk (l o:Array Keyed) (ia ib mg:Nat) (hc:c=(some l,o,ia,ib,mg)) (h0:J0B rk a.toList b.toList l.toList):LoI2 rk a b c
inductive LoI3 (rk:Value->Nat)(a b:Array Keyed)(x:Nat)(y:Nat)(c:Option (Array Keyed)×Array Keyed×Nat×Nat×Nat×Nat):Prop
 | mk (o:Array Keyed) (ia ib ac bc:Nat) (hc:c=(none,o,ia,ib,ac,bc)) (h0:MLo rk a.toList b.toList o.toList ia ib) (h1:ia+1<a.size) (h2:ib<b.size) (h3:x<=ia+ib) (h4:y<=ia+ib):LoI3 rk a b x y c
inductive LoI4 (rk:Value->Nat)(a b:Array Keyed)(c:Option (Array Keyed)×Array Keyed×Nat×Nat×Nat×Nat):Prop
 | mk (l o:Array Keyed) (ia ib ac bc:Nat) (hc:c=(some l,o,ia,ib,ac,bc)) (h0:J0B rk a.toList b.toList l.toList):LoI4 rk a b c
inductive LoI5 (rk:Value->Nat)(a b:Array Keyed)(x:Nat)(c:Option (Array Keyed)×Array Keyed×Nat×Nat×Nat×Nat):Prop
 | mk (o:Array Keyed) (ia ib ac bc:Nat) (hc:c=(none,o,ia,ib,ac,bc)) (h0:MLo rk a.toList b.toList o.toList ia ib) (h1:ia+1<a.size) (h2:ib<b.size) (h3:x+1<=ia+ib):LoI5 rk a b x c
inductive LoI6 (rk:Value->Nat)(a b:Array Keyed)(x:Nat)(y:Nat)(c:Option (Array Keyed)×Array Keyed×Nat×Nat×Nat×Nat×Nat):Prop
 | mk (o:Array Keyed) (ia ib mg ac bc:Nat) (hc:c=(none,o,ia,ib,mg,ac,bc)) (h0:MLo rk a.toList b.toList o.toList ia ib) (h1:ia+1<a.size) (h2:ib<b.size) (h3:x+1<=ia+ib) (h4:y<=ia+ib):LoI6 rk a b x y c
inductive LoI7 (rk:Value->Nat)(a b:Array Keyed)(c:Option (Array Keyed)×Array Keyed×Nat×Nat×Nat×Nat×Nat):Prop
 | mk (l o:Array Keyed) (ia ib mg ac bc:Nat) (hc:c=(some l,o,ia,ib,mg,ac,bc)) (h0:J0B rk a.toList b.toList l.toList):LoI7 rk a b c
inductive LoI8 (rk:Value->Nat)(a b:Array Keyed)(x:Nat)(c:Option (Array Keyed)×Array Keyed×Nat×Nat×Nat×Nat×Nat):Prop
 | mk (o:Array Keyed) (ia ib mg ac bc:Nat) (hc:c=(none,o,ia,ib,mg,ac,bc)) (h0:MLo rk a.toList b.toList o.toList ia ib) (h1:ia+1<a.size) (h2:ib<b.size) (h3:x+1<=ia+ib):LoI8 rk a b x c
theorem tim_mergeLo (C:Cmp prog w A s kd D rk){st:SortSt}{a b:Array Keyed}{Q:Array Keyed->SortSt->Prop}(hk:kindOf st=kd)(hDa:∀ p∈a.toList,D p.1)(hDb:∀ p∈b.toList,D p.1)(ua:Up rk a.toList)(ub:Up rk b.toList){b0 a0:Keyed}{n:Nat}{al:Keyed}
 (hb0:b[0]?=some b0) (ha0:a[0]?=some a0) (hlt:rk b0.1<=rk a0.1) (hn:a.size=n+1) (hal:a[n]?=some al) (hlast:∀ x∈b.toList,rk x.1<=rk al.1)
 (h:∀ l st',J2N st st'->J0B rk a.toList b.toList l.toList->Q l st'):wpS (model prog w) A E s (J7K a b) Q st:=by
 have atA:∀ {i:Nat},i<a.size->∃ p,a[i]?=some p/\D p.1:=fun {i} hi=>⟨a[i],getElem?_pos a i hi,hDa _ (by simp)⟩;have atB:∀ {i:Nat},i<b.size->∃ p,b[i]?=some p/\D p.1:=fun {i} hi=>⟨b[i],getElem?_pos b i hi,hDb _ (by simp)⟩;have hbs:0<b.size:=by
  cases e:b.size with
  | zero=>rw [Array.getElem?_eq_none (by omega)] at hb0;cases hb0
  | succ m=>omega
 have m1:MLo rk a.toList b.toList [b0] 0 1:=by simpa using MLo.start.stB ua ub hb0 ha0 hlt
 have dn:∀ {o:Array Keyed} {ia ib:Nat},MLo rk a.toList b.toList o.toList ia ib->(ib=b.size\/ia=a.size)->J0B rk a.toList b.toList (o++a.extract ia a.size++b.extract ib b.size).toList:=fun {o ia ib} m hh=>by
  rw [Array.toList_append,Array.toList_append,J4D,J4D];exact m.doneB ua ub (by rcases hh with rfl | rfl;exact .inl (by simp);exact .inr (by simp))
 have lA:∀ {o:Array Keyed} {ia ib:Nat},MLo rk a.toList b.toList o.toList ia ib->ia+1=a.size->J0B rk a.toList b.toList (o++b.extract ib b.size++a.extract ia a.size).toList:=fun {o ia ib} m hh=>by
  rw [Array.toList_append,Array.toList_append,J4D,J4D];refine m.doneA ua ub fun x hx y hy=>yx (hlast x hx) ?_;obtain rfl:ia=n:=by omega
  exact J1F ua (J04 hal) y hy
 have nx:∀ {ia k:Nat} {pb:Keyed},ia+k<a.size->bey rk false pb a ia k=false->∃ pa,a[ia+k]?=some pa/\D pa.1/\rk pb.1<=rk pa.1:=fun {ia k pb} hlt e=>by
  obtain ⟨pa,hpa,dpa⟩:=atA hlt;unfold bey at e;rw [hpa] at e;simp at e;exact ⟨pa,hpa,dpa,by omega⟩
 have ny:∀ {ib k:Nat} {pa:Keyed},ib+k<b.size->bey rk true pa b ib k=false->∃ pc,b[ib+k]?=some pc/\rk pa.1<=rk pc.1:=fun {ib k pa} hlt e=>by
  obtain ⟨pc,hpc,_⟩:=atB hlt;unfold bey at e;rw [hpc] at e;simp at e;exact ⟨pc,hpc,by omega⟩
 unfold J7K;refine wpS_bind (wpS_lift (wpAny_rule ⟨rfl,?_⟩));refine wpS_bind (JG hb0 ?_);have hm1:MLo rk a.toList b.toList (#[b0]:Array Keyed).toList 0 1:=m1;by_cases h1:(1 == b.size)=true
 ·first | refine JF h1 ?_ | rw [yi h1]
  exact wpS_pure (h _ _ ⟨rfl,rfl,rfl,rfl⟩ (dn hm1 (.inl (beq_iff_eq.mp h1))))
 first | refine JW h1 ?_ | rw [yh h1]
 by_cases h2:(0+1 == a.size)=true
 ·first | refine JF h2 ?_ | rw [yi h2]
  exact wpS_pure (h _ _ ⟨rfl,rfl,rfl,rfl⟩ (lA hm1 (beq_iff_eq.mp h2)))
 first | refine JW h2 ?_ | rw [yh h2]
 have h1':1<b.size:=by have:¬ 1=b.size:=fun z=>h1 (beq_iff_eq.mpr z);omega
 have h2':0+1<a.size:=by have:¬ 0+1=a.size:=fun z=>h2 (beq_iff_eq.mpr z);omega
 refine wpS_bind (wpS_get ?_);refine wpS_bind (wpS_mono (wpS_forRange (I:=fun x c st'=>J2N st st'/\LoI1 rk a b x c)
  (Q:=fun c st'=>J2N st st'/\LoI2 rk a b c) ?step ?fin ⟨⟨rfl,rfl,rfl,rfl⟩,_,0,1,_,rfl,hm1,h2',h1',by omega⟩) ?post)
 case fin =>
  rintro c st' ⟨_,o,ia,ib,mg,rfl,m,b1,b2,b3⟩;omega
 case post =>
  rintro c st' ⟨sm,l,o,ia,ib,mg,rfl,m⟩;exact wpS_pure (h l st' sm m)
 case step =>
  rintro x c st1 _ hx ⟨sm,o,ia,ib,mg,rfl,m,b1,b2,b3⟩;refine wpS_bind (wpS_mono (wpS_forRange (I:=fun y c st'=>st'=st1/\LoI3 rk a b x y c)
   (Q:=fun c st'=>st'=st1/\(LoI4 rk a b c\/LoI5 rk a b x c)) ?step1 ?fin1 ⟨rfl,o,ia,ib,0,0,rfl,m,b1,b2,b3,by omega⟩) ?post1)
  case fin1 =>
   rintro c st' ⟨_,o,ia,ib,ac,bc,rfl,m,b1,b2,b3,b4⟩;omega
  case step1 =>
   rintro y c st2 _ hy ⟨e2,o,ia,ib,ac,bc,rfl,m,b1,b2,b3,b4⟩;rw [e2];clear e2;dsimp only;obtain ⟨pb,hpb,dpb⟩:=atB b2;obtain ⟨pa,hpa,dpa⟩:=atA (i:=ia) (by omega);refine wpS_bind (JG hpb (wpS_bind (JG hpa (wpS_bind (J4U C (sm.1.trans hk) dpb dpa ?_)))));by_cases hw:rk pb.1<rk pa.1
   ·first | refine JF (ym hw) ?_ | rw [yi (ym hw)]
    refine wpS_bind (JG hpb ?_);have m':MLo rk a.toList b.toList (o.push pb).toList ia (ib+1):=by rw [Array.toList_push];exact m.stB ua ub hpb hpa (Nat.le_of_lt hw)
    by_cases g1:(ib+1 == b.size)=true
    ·first | refine JF g1 ?_ | rw [yi g1]
     exact wpS_pure ⟨rfl,.inl ⟨_,_,_,_,_,_,rfl,dn m' (.inl (beq_iff_eq.mp g1))⟩⟩
    ·first | refine JW g1 ?_ | rw [yh g1]
     have g1':ib+1<b.size:=by have:¬ ib+1=b.size:=fun z=>g1 (beq_iff_eq.mpr z);omega
     by_cases g2:bc+1≥mg
     ·first | refine JF g2 ?_ | rw [yi g2]
      exact wpS_pure ⟨rfl,.inr ⟨_,_,_,_,_,rfl,m',b1,g1',by omega⟩⟩
     ·first | refine JW g2 ?_ | rw [yh g2]
      exact wpS_pure ⟨rfl,_,_,_,_,_,rfl,m',b1,g1',by omega,by omega⟩
   ·first | refine JW (by rw [yo hw];exact yk) ?_ | rw [yh (by rw [yo hw];exact yk)]
    refine wpS_bind (JG hpa ?_);have m':MLo rk a.toList b.toList (o.push pa).toList (ia+1) ib:=by rw [Array.toList_push];exact m.stA ua ub hpb hpa (by omega)
    by_cases g1:(ia+1+1 == a.size)=true
    ·first | refine JF g1 ?_ | rw [yi g1]
     exact wpS_pure ⟨rfl,.inl ⟨_,_,_,_,_,_,rfl,lA m' (beq_iff_eq.mp g1)⟩⟩
    ·first | refine JW g1 ?_ | rw [yh g1]
     have g1':ia+1+1<a.size:=by have:¬ ia+1+1=a.size:=fun z=>g1 (beq_iff_eq.mpr z);omega
     by_cases g2:ac+1≥mg
     ·first | refine JF g2 ?_ | rw [yi g2]
      exact wpS_pure ⟨rfl,.inr ⟨_,_,_,_,_,rfl,m',g1',b2,by omega⟩⟩
     ·first | refine JW g2 ?_ | rw [yh g2]
      exact wpS_pure ⟨rfl,_,_,_,_,_,rfl,m',g1',b2,by omega,by omega⟩
  case post1 =>
   clear m b1 b2 b3;rintro c st2 ⟨e2,⟨l,o,ia,ib,ac,bc,rfl,m⟩ | ⟨o,ia,ib,ac,bc,rfl,m,b1,b2,b3⟩⟩
   ·rw [e2]
    exact wpS_pure ⟨sm,l,_,_,_,_,rfl,m⟩
   rw [e2];clear e2;refine wpS_bind (wpS_lift (wpAny_rule ⟨rfl,?_⟩));refine wpS_bind (wpS_mono (wpS_forRange (I:=fun y c st'=>J2N st st'/\LoI6 rk a b x y c)
    (Q:=fun c st'=>J2N st st'/\(LoI7 rk a b c\/LoI8 rk a b x c)) ?step3 ?fin3 ⟨sm,o,ia,ib,_,_,_,rfl,m,b1,b2,b3,by omega⟩) ?post3)
   case fin3 =>
    rintro c st' ⟨_,o,ia,ib,mg,ac,bc,rfl,m,b1,b2,b3,b4⟩;omega
   case post3 =>
    clear m b1 b2 b3;rintro c st2 ⟨sm,⟨l,o,ia,ib,mg,ac,bc,rfl,m⟩ | ⟨o,ia,ib,mg,ac,bc,rfl,m,b1,b2,b3⟩⟩
    ·exact wpS_pure ⟨sm,l,_,_,_,_,rfl,m⟩
    ·exact wpS_bind (wpS_modify (wpS_pure ⟨sm,_,_,_,_,rfl,m,b1,b2,b3⟩))
   case step3 =>
    clear m b1 b2 b3;rintro y c st2 _ hy ⟨sm2,o,ia,ib,mg2,ac,bc,rfl,m,b1,b2,b3,b4⟩;dsimp only;obtain ⟨pb,hpb,dpb⟩:=atB b2;apply J8V
    ·intro key
     by_cases hg:mg2 > 1
     ·rw [yi hg]
      generalize mg2 - 1=mg3
      revert mg3
      exact key.out
     ·rw [yh hg]
      exact key.out mg2
    ·intro mg3
     refine wpS_bind (wpS_modify (wpS_bind (JG hpb ?_)));refine wpS_bind (tim_gallop C (sm2.1.trans hk) dpb (by omega) hDa (by omega) (J3R ua (by omega)) fun k k1 k2 k3=>?_);apply J8V
     ·intro key
      have mk:=m.gaA ua ub hpb k2;rw [<- Array.toList_append] at mk;by_cases hk0:k > 0
      case' pos =>
       first | refine JF hk0 ?_ | rw [yi hk0]
       by_cases g1:(ia+k+1 == a.size)=true
       case pos =>
        first | refine JF g1 ?_ | rw [yi g1]
        exact wpS_pure ⟨sm2,.inl ⟨_,_,_,_,_,_,_,rfl,lA mk (beq_iff_eq.mp g1)⟩⟩
       first | refine JW g1 ?_ | rw [yh g1]
       by_cases g2:(ia+k == a.size)=true
       case pos =>
        first | refine JF g2 ?_ | rw [yi g2]
        exact wpS_pure ⟨sm2,.inl ⟨_,_,_,_,_,_,_,rfl,dn mk (.inr (beq_iff_eq.mp g2))⟩⟩
       first | refine JW g2 ?_ | rw [yh g2]
       have c1:ia+k+1<a.size:=by
        have:¬ ia+k+1=a.size:=fun z=>g1 (beq_iff_eq.mpr z);have:¬ ia+k=a.size:=fun z=>g2 (beq_iff_eq.mpr z);omega
       have hp:∃ pa,a[ia+k]?=some pa/\D pa.1/\rk pb.1<=rk pa.1:=nx (by omega) (k3 k (yj _) (by omega));have b5:x+1<=ia+k+ib:=by omega
       have b6:y<=ia+k+ib:=by omega
       revert mk c1 hp b5 b6
       generalize o++a.extract ia (ia+k)=o2;generalize ia+k=i2
       revert o2 i2
       exact key.out
      case' neg =>
       first | refine JW hk0 ?_ | rw [yh hk0]
       obtain rfl:k=0:=by omega
       have c1:ia+1<a.size:=b1;have hp:∃ pa,a[ia]?=some pa/\D pa.1/\rk pb.1<=rk pa.1:=nx (by omega) (k3 0 (yj _) (by omega));have b5:x+1<=ia+ib:=b3;have b6:y<=ia+ib:=b4;exact key.out o ia m c1 hp b5 b6
     ·intro o2 i2 mk c1 hp b5 b6
      clear m b1 b3 b4 k1 k2 k3;obtain ⟨pa,hpa,dpa,hle⟩:=hp;refine wpS_bind (JG hpb ?_);have m':MLo rk a.toList b.toList (o2.push pb).toList i2 (ib+1):=by rw [Array.toList_push];exact mk.stB ua ub hpb hpa hle
      by_cases g3:(ib+1 == b.size)=true
      case pos =>
       first | refine JF g3 ?_ | rw [yi g3]
       exact wpS_pure ⟨sm2,.inl ⟨_,_,_,_,_,_,_,rfl,dn m' (.inl (beq_iff_eq.mp g3))⟩⟩
      first | refine JW g3 ?_ | rw [yh g3]
      have g3':ib+1<b.size:=by have:¬ ib+1=b.size:=fun z=>g3 (beq_iff_eq.mpr z);omega
      refine wpS_bind (JG hpa ?_);refine wpS_bind (tim_gallop C (sm2.1.trans hk) dpa (by omega) hDb (by omega) (J3R ub (by omega)) fun j j1 j2 j3=>?_);apply J8V
      ·intro key
       have mj:=m'.gaB ua ub hpa j2;rw [<- Array.toList_append] at mj;by_cases hj0:j > 0
       case' pos =>
        first | refine JF hj0 ?_ | rw [yi hj0]
        by_cases g4:(ib+1+j == b.size)=true
        case pos =>
         first | refine JF g4 ?_ | rw [yi g4]
         exact wpS_pure ⟨sm2,.inl ⟨_,_,_,_,_,_,_,rfl,dn mj (.inl (beq_iff_eq.mp g4))⟩⟩
        first | refine JW g4 ?_ | rw [yh g4]
        have c2:ib+1+j<b.size:=by
         have:¬ ib+1+j=b.size:=fun z=>g4 (beq_iff_eq.mpr z);omega
        have hq:∃ pc,b[ib+1+j]?=some pc/\rk pa.1<=rk pc.1:=ny c2 (j3 j (yj _) (by omega));have b7:ib<ib+1+j:=by omega
        revert mj c2 hq b7
        generalize (o2.push pb)++b.extract (ib+1) (ib+1+j)=o3;generalize ib+1+j=i3
        revert o3 i3
        exact key.out
       case' neg =>
        first | refine JW hj0 ?_ | rw [yh hj0]
        obtain rfl:j=0:=by omega
        have c2:ib+1<b.size:=g3';have hq:∃ pc,b[ib+1]?=some pc/\rk pa.1<=rk pc.1:=ny c2 (j3 0 (yj _) (by omega));have b7:ib<ib+1:=by omega
        exact key.out _ _ m' c2 hq b7
      ·intro o3 i3 mj c2 hq b7
       clear j1 j2 j3;obtain ⟨pc,hpc,hle2⟩:=hq;refine wpS_bind (JG hpa ?_);have m4:MLo rk a.toList b.toList (o3.push pa).toList (i2+1) i3:=by rw [Array.toList_push];exact mj.stA ua ub hpc hpa hle2
       by_cases g5:(i2+1+1 == a.size)=true
       case pos =>
        first | refine JF g5 ?_ | rw [yi g5]
        exact wpS_pure ⟨sm2,.inl ⟨_,_,_,_,_,_,_,rfl,lA m4 (beq_iff_eq.mp g5)⟩⟩
       first | refine JW g5 ?_ | rw [yh g5]
       have g5':i2+1+1<a.size:=by have:¬ i2+1+1=a.size:=fun z=>g5 (beq_iff_eq.mpr z);omega
       split
       ·exact wpS_pure ⟨sm2,.inr ⟨_,_,_,_,_,_,rfl,m4,g5',c2,by omega⟩⟩
       ·exact wpS_pure ⟨sm2,_,_,_,_,_,_,rfl,m4,g5',c2,by omega,by omega⟩
end
def J7L:Array Keyed->Array Keyed->StateT SortSt Sem (Array Keyed):=sortPriv% PySem.Builtin.mergeHi
structure MHi (rk:Value->Nat)(la lb o:List Keyed)(na nb:Nat):Prop where
 perm:(la.take na++lb.take nb++o).Perm (la++lb)
 up:Up rk o
 hig:∀ x∈la.take na++lb.take nb,∀ y∈o,rk x.1<=rk y.1
section
variable {rk:Value->Nat}{la lb o:List Keyed}{na nb k:Nat}
theorem MHi.start:MHi rk la lb [] la.length lb.length:=⟨by simp,.nil,fun x _ y h=>nomatch h⟩
theorem J5H (l:List Keyed)(n:Nat)(h:k<=n):l.take n=l.take k++(l.take n).drop k:=by
 have e:(l.take n).take k=l.take k:=by rw [take_take];congr 1;omega
 rw [<- e];exact (take_append_drop k _).symm
theorem MHi.chA (m:MHi rk la lb o na nb)(hk:k<=na)(ha:Up rk la)(h:∀ x∈lb.take nb,∀ y∈(la.take na).drop k,rk x.1<=rk y.1):MHi rk la lb ((la.take na).drop k++o) k nb:=by
 have e:=J5H la na hk;have hd:Up rk (la.take k++(la.take na).drop k):=by rw [<- e];exact List.Pairwise.sublist (take_sublist _ _) ha
 obtain ⟨h1,h2,h3⟩:=pairwise_append.mp hd;refine ⟨?_,?_,?_⟩
 ·have p:=m.perm
  rw [e] at p;refine List.Perm.trans ?_ p;rw [<- yY];refine List.Perm.append_right _ ?_;rw [yY,yY];exact List.Perm.append_left _ perm_append_comm
 ·exact pairwise_append.mpr ⟨h2,m.up,fun x hx y hy=>m.hig x (yS _ (by rw [e];exact yR _ hx)) y hy⟩
 ·intro x hx y hy
  rcases yQ.mp hy with hy | hy
  ·rcases yQ.mp hx with hx | hx
   ·exact h3 x hx y hy
   ·exact h x hx y hy
  ·refine m.hig x ?_ y hy
   rcases yQ.mp hx with hx | hx
   ·rw [e];exact yS _ (yS _ hx)
   ·exact yR _ hx
theorem MHi.chB (m:MHi rk la lb o na nb)(hk:k<=nb)(hb:Up rk lb)(h:∀ x∈la.take na,∀ y∈(lb.take nb).drop k,rk x.1<=rk y.1):MHi rk la lb ((lb.take nb).drop k++o) na k:=by
 have e:=J5H lb nb hk;have hd:Up rk (lb.take k++(lb.take nb).drop k):=by rw [<- e];exact List.Pairwise.sublist (take_sublist _ _) hb
 obtain ⟨h1,h2,h3⟩:=pairwise_append.mp hd;refine ⟨?_,?_,?_⟩
 ·have p:=m.perm
  rw [e] at p;simpa [yY] using p
 ·exact pairwise_append.mpr ⟨h2,m.up,fun x hx y hy=>m.hig x (yR _ (by rw [e];exact yR _ hx)) y hy⟩
 ·intro x hx y hy
  rcases yQ.mp hy with hy | hy
  ·rcases yQ.mp hx with hx | hx
   ·exact h x hx y hy
   ·exact h3 x hx y hy
  ·refine m.hig x ?_ y hy
   rcases yQ.mp hx with hx | hx
   ·exact yS _ hx
   ·rw [e];exact yR _ (yS _ hx)
theorem MHi.doneA (m:MHi rk la lb o na nb)(ha:Up rk la)(hb:Up rk lb)(h:na=0\/nb=0):J0B rk la lb (la.take na++lb.take nb++o):=by
 refine ⟨m.perm,pairwise_append.mpr ⟨?_,m.up,m.hig⟩⟩;rcases h with rfl | rfl
 ·simpa using List.Pairwise.sublist (take_sublist _ _) hb
 ·simpa using List.Pairwise.sublist (take_sublist _ _) ha
theorem MHi.doneB (m:MHi rk la lb o na nb)(ha:Up rk la)(hb:Up rk lb)(h:∀ x∈lb.take nb,∀ y∈la,rk x.1<=rk y.1):J0B rk la lb (lb.take nb++la.take na++o):=by
 refine ⟨List.Perm.trans (List.Perm.append_right _ perm_append_comm) m.perm,pairwise_append.mpr ⟨?_,m.up,fun x hx y hy=>m.hig x ?_ y hy⟩⟩
 ·exact pairwise_append.mpr ⟨List.Pairwise.sublist (take_sublist _ _) hb,List.Pairwise.sublist (take_sublist _ _) ha,fun x hx y hy=>h x hx y (mem_of_mem_take hy)⟩
 ·rcases yQ.mp hx with hx | hx
  ·exact yR _ hx
  ·exact yS _ hx
theorem J7P {l:List Keyed}{i:Nat}{p:Keyed}(h:l[i]?=some p):(l.take (i+1)).drop i=[p]:=by
 obtain ⟨hi,rfl⟩:=yB.mp h;rw [take_succ_eq_append_getElem hi,drop_append_of_le_length (by simp;omega),drop_eq_nil_of_le (by rw [yI];omega)];rfl
theorem J66 {l:List Keyed}{i:Nat}{p:Keyed}(u:Up rk l)(h:l[i]?=some p):∀ y∈l.take (i+1),rk y.1<=rk p.1:=by
 have e:=J5H (k:=i) l (i+1) (by omega);rw [J7P h] at e;have u':Up rk (l.take i++[p]):=by rw [<- e];exact List.Pairwise.sublist (take_sublist _ _) u
 intro y hy;rw [e] at hy;rcases yQ.mp hy with hy | hy
 ·exact (pairwise_append.mp u').2.2 y hy p (by simp)
 ·cases yD.mp hy
  exact yj _
theorem J5u {l:List Keyed}{n:Nat}{x:Keyed}(h:x∈l.take n):∃ j,j<n/\l[j]?=some x:=by
 have:=J47 (l:=l) (i:=0) (k:=n) (by simpa using h);simpa using this
theorem Jbv {l:List Keyed}{n k:Nat}{x:Keyed}(h:x∈(l.take n).drop k):∃ j,k<=j/\j<n/\l[j]?=some x:=by
 obtain ⟨j,hj⟩:=yT.mp h;rw [List.getElem?_drop] at hj;have hlt:k+j<n:=by
  have:=(yB.mp hj).1;rw [yI] at this;omega
 rw [List.getElem?_take_of_lt hlt] at hj;exact ⟨k+j,by omega,hlt,hj⟩
end
theorem J3l (a:Array Keyed)(n:Nat):(a.extract 0 n).toList=a.toList.take n:=by
 rw [Array.toList_extract,extract_eq_drop_take];simp
theorem JaD (a:Array Keyed)(k n:Nat):(a.extract k n).toList=(a.toList.take n).drop k:=by
 rw [Array.toList_extract,extract_eq_drop_take,drop_take]
section
variable {rk:Value->Nat}{a b:Array Keyed}{o:List Keyed}{na nb k:Nat}{pa pb:Keyed}
theorem MHi.stA (m:MHi rk a.toList b.toList o (na+1) nb)(ua:Up rk a.toList)(ha:a[na]?=some pa)(h:∀ x∈b.toList.take nb,rk x.1<=rk pa.1):MHi rk a.toList b.toList (pa::o) na nb:=by
 have q:=m.chA (k:=na) (by omega) ua (fun x hx y hy=>by
  rw [J7P (J04 ha)] at hy;cases yD.mp hy;exact h x hx)
 rw [J7P (J04 ha)] at q;exact q
theorem MHi.stB (m:MHi rk a.toList b.toList o na (nb+1))(ub:Up rk b.toList)(hb:b[nb]?=some pb)(h:∀ x∈a.toList.take na,rk x.1<=rk pb.1):MHi rk a.toList b.toList (pb::o) na nb:=by
 have q:=m.chB (k:=nb) (by omega) ub (fun x hx y hy=>by
  rw [J7P (J04 hb)] at hy;cases yD.mp hy;exact h x hx)
 rw [J7P (J04 hb)] at q;exact q
theorem J3S {left:Bool}{i:Nat}{p key:Keyed}(hp:a[i]?=some p)(h:bey rk left key a 0 i=false):rk key.1<=rk p.1:=by
 unfold bey at h;rw [Nat.zero_add,hp] at h;cases left with
 | true=>simpa using h
 | false=>exact Nat.le_of_lt (by simpa using h)
theorem J8d {left:Bool}{i:Nat}{p key:Keyed}(hp:a[i]?=some p)(h:bey rk left key a 0 i=true):rk p.1<=rk key.1:=by
 unfold bey at h;rw [Nat.zero_add,hp] at h;cases left with
 | true=>exact Nat.le_of_lt (by simpa using h)
 | false=>simpa using h
theorem MHi.gaA (m:MHi rk a.toList b.toList o na nb)(hkn:k<=na)(ua:Up rk a.toList)(h:∀ i,k<=i->i<na->bey rk false pb a 0 i=false)(hb:∀ x∈b.toList.take nb,rk x.1<=rk pb.1):MHi rk a.toList b.toList ((a.extract k na).toList++o) k nb:=by
 rw [JaD];refine m.chA hkn ua fun x hx y hy=>yx (hb x hx) ?_;obtain ⟨j,h1,h2,e⟩:=Jbv hy;rw [Array.getElem?_toList] at e;exact J3S e (h j h1 h2)
theorem MHi.gaB (m:MHi rk a.toList b.toList o na nb)(hkn:k<=nb)(ub:Up rk b.toList)(h:∀ i,k<=i->i<nb->bey rk true pa b 0 i=false)(ha:∀ x∈a.toList.take na,rk x.1<=rk pa.1):MHi rk a.toList b.toList ((b.extract k nb).toList++o) na k:=by
 rw [JaD];refine m.chB hkn ub fun x hx y hy=>yx (ha x hx) ?_;obtain ⟨j,h1,h2,e⟩:=Jbv hy;rw [Array.getElem?_toList] at e;exact J3S e (h j h1 h2)
theorem J8e {left:Bool}{key:Keyed}(h:∀ i,i<k->bey rk left key a 0 i=true):∀ x∈a.toList.take k,rk x.1<=rk key.1:=fun x hx=>by
 obtain ⟨j,h1,e⟩:=J5u hx;rw [Array.getElem?_toList] at e;exact J8d e (h j h1)
end
section
variable {prog:Program}{w:World}{A:Around}{E:Value->Shared->Prop}{s:Shared}{kd:SortKind}{D:Value->Prop}{rk:Value->Nat}
inductive HiI1 (rk:Value->Nat)(a b:Array Keyed)(x:Nat)(c:Option (Array Keyed)×Nat×Nat×Array Keyed×Nat):Prop
 | mk (na nb:Nat) (o:Array Keyed) (mg:Nat) (hc:c=(none,na,nb,o,mg)) (h0:MHi rk a.toList b.toList o.toList.reverse na nb) (h1:0<na) (h2:na<a.size) (h3:1<nb) (h4:nb<=b.size) (h5:x+na+nb<=a.size+b.size):HiI1 rk a b x c
inductive HiI2 (rk:Value->Nat)(a b:Array Keyed)(c:Option (Array Keyed)×Nat×Nat×Array Keyed×Nat):Prop
 | mk (l:Array Keyed) (na nb:Nat) (o:Array Keyed) (mg:Nat) (hc:c=(some l,na,nb,o,mg)) (h0:J0B rk a.toList b.toList l.toList):HiI2 rk a b c
inductive HiI3 (rk:Value->Nat)(a b:Array Keyed)(x:Nat)(y:Nat)(c:Option (Array Keyed)×Nat×Nat×Array Keyed×Nat×Nat):Prop
 | mk (na nb:Nat) (o:Array Keyed) (ac bc:Nat) (hc:c=(none,na,nb,o,ac,bc)) (h0:MHi rk a.toList b.toList o.toList.reverse na nb) (h1:0<na) (h2:na<a.size) (h3:1<nb) (h4:nb<=b.size) (h5:x+na+nb<=a.size+b.size) (h6:y+na+nb<=a.size+b.size):HiI3 rk a b x y c
inductive HiI4 (rk:Value->Nat)(a b:Array Keyed)(c:Option (Array Keyed)×Nat×Nat×Array Keyed×Nat×Nat):Prop
 | mk (l:Array Keyed) (na nb:Nat) (o:Array Keyed) (ac bc:Nat) (hc:c=(some l,na,nb,o,ac,bc)) (h0:J0B rk a.toList b.toList l.toList):HiI4 rk a b c
inductive HiI5 (rk:Value->Nat)(a b:Array Keyed)(x:Nat)(c:Option (Array Keyed)×Nat×Nat×Array Keyed×Nat×Nat):Prop
 | mk (na nb:Nat) (o:Array Keyed) (ac bc:Nat) (hc:c=(none,na,nb,o,ac,bc)) (h0:MHi rk a.toList b.toList o.toList.reverse na nb) (h1:0<na) (h2:na<a.size) (h3:1<nb) (h4:nb<=b.size) (h5:x+1+na+nb<=a.size+b.size):HiI5 rk a b x c
inductive HiI6 (rk:Value->Nat)(a b:Array Keyed)(x:Nat)(y:Nat)(c:Option (Array Keyed)×Nat×Nat×Array Keyed×Nat×Nat×Nat):Prop
 | mk (na nb:Nat) (o:Array Keyed) (mg ac bc:Nat) (hc:c=(none,na,nb,o,mg,ac,bc)) (h0:MHi rk a.toList b.toList o.toList.reverse na nb) (h1:0<na) (h2:na<a.size) (h3:1<nb) (h4:nb<=b.size) (h5:x+1+na+nb<=a.size+b.size) (h6:y+na+nb<=a.size+b.size):HiI6 rk a b x y c
inductive HiI7 (rk:Value->Nat)(a b:Array Keyed)(c:Option (Array Keyed)×Nat×Nat×Array Keyed×Nat×Nat×Nat):Prop
 | mk (l:Array Keyed) (na nb:Nat) (o:Array Keyed) (mg ac bc:Nat) (hc:c=(some l,na,nb,o,mg,ac,bc)) (h0:J0B rk a.toList b.toList l.toList):HiI7 rk a b c
inductive HiI8 (rk:Value->Nat)(a b:Array Keyed)(x:Nat)(c:Option (Array Keyed)×Nat×Nat×Array Keyed×Nat×Nat×Nat):Prop
 | mk (na nb:Nat) (o:Array Keyed) (mg ac bc:Nat) (hc:c=(none,na,nb,o,mg,ac,bc)) (h0:MHi rk a.toList b.toList o.toList.reverse na nb) (h1:0<na) (h2:na<a.size) (h3:1<nb) (h4:nb<=b.size) (h5:x+1+na+nb<=a.size+b.size):HiI8 rk a b x c
theorem tim_mergeHi (C:Cmp prog w A s kd D rk){st:SortSt}{a b:Array Keyed}{Q:Array Keyed->SortSt->Prop}(hk:kindOf st=kd)(hDa:∀ p∈a.toList,D p.1)(hDb:∀ p∈b.toList,D p.1)(ua:Up rk a.toList)(ub:Up rk b.toList){b0 a0:Keyed}{n:Nat}{al:Keyed}
 (hb0:b[0]?=some b0) (ha0:a[0]?=some a0) (hlt:rk b0.1<=rk a0.1) (hn:a.size=n+1) (hal:a[n]?=some al) (hlast:∀ x∈b.toList,rk x.1<=rk al.1)
 (h:∀ l st',J2N st st'->J0B rk a.toList b.toList l.toList->Q l st'):wpS (model prog w) A E s (J7L a b) Q st:=by
 have atA:∀ {i:Nat},i<a.size->∃ p,a[i]?=some p/\D p.1:=fun {i} hi=>⟨a[i],getElem?_pos a i hi,hDa _ (by simp)⟩;have atB:∀ {i:Nat},i<b.size->∃ p,b[i]?=some p/\D p.1:=fun {i} hi=>⟨b[i],getElem?_pos b i hi,hDb _ (by simp)⟩;have hbs:0<b.size:=by
  cases e:b.size with
  | zero=>rw [Array.getElem?_eq_none (by omega)] at hb0;cases hb0
  | succ m=>omega
 have m0:MHi rk a.toList b.toList [] (n+1) b.size:=by
  have:=MHi.start (rk:=rk) (la:=a.toList) (lb:=b.toList);simpa [hn] using this
 have m1:MHi rk a.toList b.toList (#[al]:Array Keyed).toList.reverse n b.size:=by
  simpa using m0.stA ua hal fun x hx=>hlast x (mem_of_mem_take hx)
 have dn:∀ {o:Array Keyed} {na nb:Nat},MHi rk a.toList b.toList o.toList.reverse na nb->(na=0\/nb=0)->J0B rk a.toList b.toList (a.extract 0 na++b.extract 0 nb++o.reverse).toList:=fun {o na nb} m hh=>by
  rw [Array.toList_append,Array.toList_append,J3l,J3l,Array.toList_reverse];exact m.doneA ua ub hh
 have fB:∀ {o:Array Keyed} {na nb:Nat},MHi rk a.toList b.toList o.toList.reverse na nb->nb=1->J0B rk a.toList b.toList (b.extract 0 nb++a.extract 0 na++o.reverse).toList:=fun {o na nb} m hh=>by
  rw [Array.toList_append,Array.toList_append,J3l,J3l,Array.toList_reverse];refine m.doneB ua ub fun x hx y hy=>?_;subst hh;refine yx (J66 ub (J04 hb0) x hx) (yx hlt (J1F ua (J04 ha0) y (by simpa using hy)))
 have eP:∀ (o:Array Keyed) (p:Keyed),(o.push p).toList.reverse=p::o.toList.reverse:=fun o p=>by simp
 have eC:∀ (o c:Array Keyed),(o++c.reverse).toList.reverse=c.toList++o.toList.reverse:=fun o c=>by simp
 unfold J7L;refine wpS_bind (wpS_lift (wpAny_rule ⟨rfl,?_⟩));have hal':a[a.size - 1]?=some al:=by rw [hn];exact hal
 refine wpS_bind (JG hal' ?_);have en:a.size - 1=n:=by omega
 rw [en];by_cases h1:(n == 0)=true
 ·first | refine JF h1 ?_ | rw [yi h1]
  exact wpS_pure (h _ _ ⟨rfl,rfl,rfl,rfl⟩ (dn m1 (.inl (beq_iff_eq.mp h1))))
 first | refine JW h1 ?_ | rw [yh h1]
 by_cases h2:(b.size == 1)=true
 ·first | refine JF h2 ?_ | rw [yi h2]
  exact wpS_pure (h _ _ ⟨rfl,rfl,rfl,rfl⟩ (fB m1 (beq_iff_eq.mp h2)))
 first | refine JW h2 ?_ | rw [yh h2]
 have h1':0<n:=by have:¬ n=0:=fun z=>h1 (beq_iff_eq.mpr z);omega
 have h2':1<b.size:=by have:¬ b.size=1:=fun z=>h2 (beq_iff_eq.mpr z);omega
 refine wpS_bind (wpS_get ?_);refine wpS_bind (wpS_mono (wpS_forRange (I:=fun x c st'=>J2N st st'/\HiI1 rk a b x c)
  (Q:=fun c st'=>J2N st st'/\HiI2 rk a b c) ?step ?fin ⟨⟨rfl,rfl,rfl,rfl⟩,n,b.size,_,_,rfl,m1,h1',by omega,h2',by omega,by omega⟩) ?post)
 case fin =>
  rintro c st' ⟨_,na,nb,o,mg,rfl,m,b1,b2,b3,b4,b5⟩;omega
 case post =>
  rintro c st' ⟨sm,l,na,nb,o,mg,rfl,m⟩;exact wpS_pure (h l st' sm m)
 case step =>
  rintro x c st1 _ hx ⟨sm,na,nb,o,mg,rfl,m,b1,b2,b3,b4,b5⟩;refine wpS_bind (wpS_mono (wpS_forRange (I:=fun y c st'=>st'=st1/\HiI3 rk a b x y c)
   (Q:=fun c st'=>st'=st1/\(HiI4 rk a b c\/HiI5 rk a b x c)) ?step1 ?fin1 ⟨rfl,na,nb,o,0,0,rfl,m,b1,b2,b3,b4,b5,by omega⟩) ?post1)
  case fin1 =>
   rintro c st' ⟨_,na,nb,o,ac,bc,rfl,m,b1,b2,b3,b4,b5,b6⟩;omega
  case step1 =>
   rintro y c st2 _ hy ⟨e2,na1,nb1,o,ac,bc,rfl,m,b1,b2,b3,b4,b5,b6⟩;rw [e2];clear e2;obtain ⟨na,rfl⟩:∃ q,na1=q+1:=⟨na1 - 1,by omega⟩;obtain ⟨nb,rfl⟩:∃ q,nb1=q+1:=⟨nb1 - 1,by omega⟩;dsimp only;simp only [Nat.add_sub_cancel];obtain ⟨pb,hpb,dpb⟩:=atB (i:=nb) (by omega);obtain ⟨pa,hpa,dpa⟩:=atA (i:=na) (by omega);refine wpS_bind (JG hpb (wpS_bind (JG hpa (wpS_bind (J4U C (sm.1.trans hk) dpb dpa ?_)))));by_cases hw:rk pb.1<rk pa.1
   ·first | refine JF (ym hw) ?_ | rw [yi (ym hw)]
    refine wpS_bind (JG hpa ?_);have m':MHi rk a.toList b.toList (o.push pa).toList.reverse na (nb+1):=by rw [eP];exact m.stA ua hpa fun z hz=>yx (J66 ub (J04 hpb) z hz) (Nat.le_of_lt hw)
    by_cases g1:(na == 0)=true
    ·first | refine JF g1 ?_ | rw [yi g1]
     exact wpS_pure ⟨rfl,.inl ⟨_,_,_,_,_,_,rfl,dn m' (.inl (beq_iff_eq.mp g1))⟩⟩
    ·first | refine JW g1 ?_ | rw [yh g1]
     have g1':0<na:=by have:¬ na=0:=fun z=>g1 (beq_iff_eq.mpr z);omega
     by_cases g2:ac+1≥mg
     ·first | refine JF g2 ?_ | rw [yi g2]
      exact wpS_pure ⟨rfl,.inr ⟨_,_,_,_,_,rfl,m',g1',by omega,b3,b4,by omega⟩⟩
     ·first | refine JW g2 ?_ | rw [yh g2]
      exact wpS_pure ⟨rfl,_,_,_,_,_,rfl,m',g1',by omega,b3,b4,by omega,by omega⟩
   ·first | refine JW (by rw [yo hw];exact yk) ?_ | rw [yh (by rw [yo hw];exact yk)]
    refine wpS_bind (JG hpb ?_);have m':MHi rk a.toList b.toList (o.push pb).toList.reverse (na+1) nb:=by rw [eP];exact m.stB ub hpb fun z hz=>yx (J66 ua (J04 hpa) z hz) (by omega)
    by_cases g1:(nb == 1)=true
    ·first | refine JF g1 ?_ | rw [yi g1]
     exact wpS_pure ⟨rfl,.inl ⟨_,_,_,_,_,_,rfl,fB m' (beq_iff_eq.mp g1)⟩⟩
    ·first | refine JW g1 ?_ | rw [yh g1]
     have g1':1<nb:=by have:¬ nb=1:=fun z=>g1 (beq_iff_eq.mpr z);omega
     by_cases g2:bc+1≥mg
     ·first | refine JF g2 ?_ | rw [yi g2]
      exact wpS_pure ⟨rfl,.inr ⟨_,_,_,_,_,rfl,m',b1,b2,g1',by omega,by omega⟩⟩
     ·first | refine JW g2 ?_ | rw [yh g2]
      exact wpS_pure ⟨rfl,_,_,_,_,_,rfl,m',b1,b2,g1',by omega,by omega,by omega⟩
  case post1 =>
   clear m b1 b2 b3 b4 b5;rintro c st2 ⟨e2,⟨l,na,nb,o,ac,bc,rfl,m⟩ | ⟨na,nb,o,ac,bc,rfl,m,b1,b2,b3,b4,b5⟩⟩
   ·rw [e2]
    exact wpS_pure ⟨sm,l,_,_,_,_,rfl,m⟩
   rw [e2];clear e2;refine wpS_bind (wpS_lift (wpAny_rule ⟨rfl,?_⟩));refine wpS_bind (wpS_mono (wpS_forRange (I:=fun y c st'=>J2N st st'/\HiI6 rk a b x y c)
    (Q:=fun c st'=>J2N st st'/\(HiI7 rk a b c\/HiI8 rk a b x c)) ?step3 ?fin3 ⟨sm,na,nb,o,_,_,_,rfl,m,b1,b2,b3,b4,b5,by omega⟩) ?post3)
   case fin3 =>
    rintro c st' ⟨_,na,nb,o,mg,ac,bc,rfl,m,b1,b2,b3,b4,b5,b6⟩;omega
   case post3 =>
    clear m b1 b2 b3 b4 b5;rintro c st2 ⟨sm,⟨l,na,nb,o,mg,ac,bc,rfl,m⟩ | ⟨na,nb,o,mg,ac,bc,rfl,m,b1,b2,b3,b4,b5⟩⟩
    ·exact wpS_pure ⟨sm,l,_,_,_,_,rfl,m⟩
    ·exact wpS_bind (wpS_modify (wpS_pure ⟨sm,_,_,_,_,rfl,m,b1,b2,b3,b4,by omega⟩))
   case step3 =>
    clear m b1 b2 b3 b4 b5;rintro y c st2 _ hy ⟨sm2,na,nb1,o,mg2,ac,bc,rfl,m,b1,b2,b3,b4,b5,b6⟩;obtain ⟨nb,rfl⟩:∃ q,nb1=q+1:=⟨nb1 - 1,by omega⟩;dsimp only;simp only [Nat.add_sub_cancel];obtain ⟨pb,hpb,dpb⟩:=atB (i:=nb) (by omega);apply J8V
    ·intro key
     by_cases hg:mg2 > 1
     ·rw [yi hg]
      generalize mg2 - 1=mg3
      revert mg3
      exact key.out
     ·rw [yh hg]
      exact key.out mg2
    ·intro mg3
     refine wpS_bind (wpS_modify (wpS_bind (JG hpb ?_)));refine wpS_bind (tim_gallop C (sm2.1.trans hk) dpb (by omega) hDa (by omega) (J3R ua (by omega)) fun k k1 k2 k3=>?_);have kt:=J8e k2;apply J8V
     ·intro key
      have mk:=m.gaA k1 ua k3 (J66 ub (J04 hpb));rw [<- eC] at mk;by_cases hk0:na - k > 0
      case' pos =>
       first | refine JF hk0 ?_ | rw [yi hk0]
       by_cases g1:(k == 0)=true
       case pos =>
        first | refine JF g1 ?_ | rw [yi g1]
        exact wpS_pure ⟨sm2,.inl ⟨_,_,_,_,_,_,_,rfl,dn mk (.inl (beq_iff_eq.mp g1))⟩⟩
       first | refine JW g1 ?_ | rw [yh g1]
       have c1:0<k:=by have:¬ k=0:=fun z=>g1 (beq_iff_eq.mpr z);omega
       have c2:k<a.size:=by omega
       have c3:x+1+k+nb+1<=a.size+b.size:=by omega
       have c4:y+k+nb+1<=a.size+b.size:=by omega
       revert mk c1 c2 c3 c4
       generalize na - k=ka;generalize o++(a.extract k na).reverse=o2
       revert ka o2
       exact key.out
      case' neg =>
       first | refine JW hk0 ?_ | rw [yh hk0]
       obtain rfl:k=na:=by omega
       exact key.out _ _ m b1 b2 (by omega) (by omega)
     ·intro ka o2 mk c1 c2 c3 c4
      clear m b1 b2 b5 b6 k2 k3 k1;refine wpS_bind (JG hpb ?_);have m':MHi rk a.toList b.toList (o2.push pb).toList.reverse k nb:=by rw [eP];exact mk.stB ub hpb kt
      by_cases g3:(nb == 1)=true
      case pos =>
       first | refine JF g3 ?_ | rw [yi g3]
       exact wpS_pure ⟨sm2,.inl ⟨_,_,_,_,_,_,_,rfl,fB m' (beq_iff_eq.mp g3)⟩⟩
      first | refine JW g3 ?_ | rw [yh g3]
      have g3':1<nb:=by have:¬ nb=1:=fun z=>g3 (beq_iff_eq.mpr z);omega
      obtain ⟨k,rfl⟩:∃ q,k=q+1:=⟨k - 1,by omega⟩;simp only [Nat.add_sub_cancel];obtain ⟨pa,hpa,dpa⟩:=atA (i:=k) (by omega);refine wpS_bind (JG hpa ?_);refine wpS_bind (tim_gallop C (sm2.1.trans hk) dpa (by omega) hDb (by omega) (J3R ub (by omega)) fun j j1 j2 j3=>?_);have jt:=J8e j2;apply J8V
      ·intro key
       have mj:=m'.gaB j1 ub j3 (J66 ua (J04 hpa));rw [<- eC] at mj;by_cases hj0:nb - j > 0
       case' pos =>
        first | refine JF hj0 ?_ | rw [yi hj0]
        by_cases g4:(j == 1)=true
        case pos =>
         first | refine JF g4 ?_ | rw [yi g4]
         exact wpS_pure ⟨sm2,.inl ⟨_,_,_,_,_,_,_,rfl,fB mj (beq_iff_eq.mp g4)⟩⟩
        first | refine JW g4 ?_ | rw [yh g4]
        by_cases g6:(j == 0)=true
        case pos =>
         first | refine JF g6 ?_ | rw [yi g6]
         exact wpS_pure ⟨sm2,.inl ⟨_,_,_,_,_,_,_,rfl,dn mj (.inr (beq_iff_eq.mp g6))⟩⟩
        first | refine JW g6 ?_ | rw [yh g6]
        have d1:1<j:=by
         have:¬ j=1:=fun z=>g4 (beq_iff_eq.mpr z);have:¬ j=0:=fun z=>g6 (beq_iff_eq.mpr z);omega
        have d2:j<=nb:=j1
        revert mj d1 d2
        generalize nb - j=kb;generalize (o2.push pb)++(b.extract j nb).reverse=o3
        revert kb o3
        exact key.out
       case' neg =>
        first | refine JW hj0 ?_ | rw [yh hj0]
        obtain rfl:j=nb:=by omega
        exact key.out _ _ m' g3' (yj _)
      ·intro kb o3 mj d1 d2
       clear j1 j2 j3;refine wpS_bind (JG hpa ?_);have m4:MHi rk a.toList b.toList (o3.push pa).toList.reverse k j:=by rw [eP];exact mj.stA ua hpa jt
       by_cases g5:(k == 0)=true
       case pos =>
        first | refine JF g5 ?_ | rw [yi g5]
        exact wpS_pure ⟨sm2,.inl ⟨_,_,_,_,_,_,_,rfl,dn m4 (.inl (beq_iff_eq.mp g5))⟩⟩
       first | refine JW g5 ?_ | rw [yh g5]
       have g5':0<k:=by have:¬ k=0:=fun z=>g5 (beq_iff_eq.mpr z);omega
       split
       ·exact wpS_pure ⟨sm2,.inr ⟨_,_,_,_,_,_,rfl,m4,g5',by omega,d1,by omega,by omega⟩⟩
       ·exact wpS_pure ⟨sm2,_,_,_,_,_,_,rfl,m4,g5',by omega,d1,by omega,by omega,by omega⟩
end
theorem J9o (sa:Nat):∀ (l:List Keyed) (k:Nat) (arr:Array Keyed),sa+k+l.length<=arr.size->((l.zipIdx k).foldl (fun a (x:Keyed×Nat)=>a.setIfInBounds (sa+x.2) x.1) arr).toList=arr.toList.take (sa+k)++(l++arr.toList.drop (sa+k+l.length))
 | [],k,arr,h=>by simp
 | p :: l,k,arr,h=>by
   rw [length_cons] at h;rw [zipIdx_cons,foldl_cons,J9o sa l (k+1) _ (by rw [Array.size_setIfInBounds];omega),Array.toList_setIfInBounds];have hlt:sa+k<arr.toList.length:=by rw [yz];omega
   have e1:(arr.toList.set (sa+k) p).take (sa+(k+1))=arr.toList.take (sa+k)++[p]:=by
    rw [<- Nat.add_assoc,take_succ_eq_append_getElem (by rw [length_set];exact hlt),getElem_set_self,take_set_of_le (by omega)]
   have e2:(arr.toList.set (sa+k) p).drop (sa+(k+1)+l.length)=arr.toList.drop (sa+k+(p::l).length):=by
    rw [drop_set_of_lt (by omega),length_cons];congr 1;omega
   rw [e1,e2];simp
theorem J5k {ps1 ps2:List (Nat×Nat×Nat)}{x y z:Nat×Nat×Nat}{p:Array (Nat×Nat×Nat)}(h:p.toList=ps1++x::y::ps2):((p.setIfInBounds ps1.length z).eraseIdxIfInBounds (ps1.length+1)).toList=ps1++z::ps2:=by
 rw [Array.toList_eraseIdxIfInBounds,Array.toList_setIfInBounds,h,set_append_right _ _ (yj _),Nat.sub_self,set_cons_zero,eraseIdx_append_of_length_le (by omega)];rw [show ps1.length+1 - ps1.length=1 by omega];rfl
theorem J6B {rk:Value->Nat}{a:Array Keyed}{base n:Nat}{left:Bool}{key:Keyed}{P l R:List Keyed}(e:a.toList=P++(l++R))(hP:P.length=base)(hn:n=l.length)(u:Up rk l):∀ i j,i<=j->j<n->bey rk left key a base j=true->bey rk left key a base i=true:=fun i j hij hj h=>by
 have at':∀ i,i<n->a[base+i]?=l[i]?:=fun i hi=>by
  rw [<- Array.getElem?_toList,e,yV (by omega),hP,yW (by omega)];congr 1;omega
 have hi':i<l.length:=by omega
 have hj':j<l.length:=by omega
 have ei:=(at' i (by omega)).trans (yA hi');have ej:=(at' j (by omega)).trans (yA hj');have le:rk l[i].1<=rk l[j].1:=by
  rcases Nat.lt_or_eq_of_le hij with q | rfl
  ·exact (pairwise_iff_getElem.mp u) i j hi' hj' q
  ·exact yj _
 unfold bey at h ⊢;rw [ej] at h;rw [ei];cases left with
 | true=>simp only [if_true,decide_eq_true_eq] at h ⊢;omega
 | false=>simp only [Bool.false_eq_true,if_false,Bool.not_eq_true',decide_eq_false_iff_not] at h ⊢;omega
section
variable {prog:Program}{w:World}{A:Around}{E:Value->Shared->Prop}{s:Shared}{kd:SortKind}{D:Value->Prop}{rk:Value->Nat}
theorem Jcj {M:Model}{st st':SortSt}{Q:PUnit->SortSt->Prop}(h:Q ⟨⟩ st'):wpS M A E s (set st':StateT SortSt Sem PUnit) Q st:=by
 unfold wpS;rw [StateT.run_set];exact yg ⟨rfl,h⟩
theorem tim_mergeAt (C:Cmp prog w A s kd D rk){st:SortSt}{i sa na pw sb nb pw2:Nat}{ps1 ps2:List (Nat×Nat×Nat)}{P la lb R:List Keyed}{Q:Bool->SortSt->Prop}(hk:kindOf st=kd)(hf:failedOf st=none)(hD:∀ p∈(arrOf st).toList,D p.1)
 (hp:(pendingOf st).toList=ps1++(sa,na,pw)::(sb,nb,pw2)::ps2) (hi:ps1.length=i) (ha:(arrOf st).toList=P++(la++(lb++R))) (hP:P.length=sa) (hla:la.length=na) (hsb:sb=sa+na) (hlb:lb.length=nb) (a0:0<na) (b0:0<nb) (ua:Up rk la) (ub:Up rk lb)
 (h:∀ st' l,kindOf st'=kd->failedOf st'=none->J0B rk la lb l->(arrOf st').toList=P++(l++R)->(pendingOf st').toList=ps1++(sa,na+nb,pw)::ps2->Q true st'):wpS (model prog w) A E s (mergeAt' i) Q st:=by
 subst hi hP hla hsb hlb;have p1:(pendingOf st)[ps1.length]?=some (P.length,la.length,pw):=by rw [<- Array.getElem?_toList,hp];simp
 have p2:(pendingOf st)[ps1.length+1]?=some (P.length+la.length,lb.length,pw2):=by rw [<- Array.getElem?_toList,hp,yV (by omega)];simp
 have hsz:(arrOf st).size=P.length+(la.length+(lb.length+R.length)):=by rw [<- yz,ha];simp
 have atA:∀ j,j<la.length->(arrOf st)[P.length+j]?=la[j]?:=fun j hj=>by
  rw [<- Array.getElem?_toList,ha,yV (by omega),yW (by omega)];congr 1;omega
 have atB:∀ j,j<lb.length->(arrOf st)[P.length+la.length+j]?=lb[j]?:=fun j hj=>by
  rw [<- Array.getElem?_toList,ha,yV (by omega),yV (by omega),yW (by omega)];congr 1;omega
 have dA:∀ p∈la,D p.1:=fun p hp=>hD p (by rw [ha];simp [hp]);have dB:∀ p∈lb,D p.1:=fun p hp=>hD p (by rw [ha];simp [hp]);unfold mergeAt';refine wpS_bind (wpS_get ?_);have q1:=p1;have q2:=p2;unfold pendingOf at q1 q2;rw [q1,q2];refine wpS_bind (Jcj ?_);have hst:∀ (x:SortSt),kindOf x=kindOf st->kindOf x=kd:=fun x e=>e.trans hk;obtain ⟨fb,hfb⟩:∃ p,lb[0]?=some p:=⟨lb[0],yA b0⟩;have efb:(arrOf st)[P.length+la.length]?=some fb:=by have:=atB 0 b0;rw [Nat.add_zero,hfb] at this;exact this
 have dfb:D fb.1:=dB _ (yG hfb);refine wpS_bind (JG efb ?_);refine wpS_bind (tim_gallop C hk dfb (by show _<=(arrOf st).size;omega) hD a0 (J6B ha rfl rfl ua) fun k k1 k2 k3=>?_);dsimp only;have eb:∀ {left:Bool} {key:Keyed} {j:Nat} (hj:j<la.length),bey rk left key (arrOf st) P.length j=(if left then decide (rk la[j].1<rk key.1) else !decide (rk key.1<rk la[j].1)):=fun {left key j} hj=>by
  unfold bey;rw [atA j hj,yA hj]
 have ec:∀ {left:Bool} {key:Keyed} {j:Nat} (hj:j<lb.length),bey rk left key (arrOf st) (P.length+la.length) j=(if left then decide (rk lb[j].1<rk key.1) else !decide (rk key.1<rk lb[j].1)):=fun {left key j} hj=>by
  unfold bey;rw [atB j hj,yA hj]
 have lowA:∀ x∈la.take k,rk x.1<=rk fb.1:=fun x hx=>by
  obtain ⟨j,hj,e⟩:=J5u hx;have hj':j<la.length:=by omega
  rw [yA hj'] at e;cases e;have:=k2 j hj;rw [eb hj'] at this;simpa using this
 have fbB:∀ y∈lb,rk fb.1<=rk y.1:=fun y hy=>J1F ub hfb y (by simpa using hy);have lk:(la.take k).length=k:=by rw [yI];omega
 by_cases g1:(la.length - k == 0)=true
 ·rw [yi g1]
  have ek:k=la.length:=by have:=beq_iff_eq.mp g1;omega
  refine wpS_pure (h _ (la++lb) hk hf ⟨List.Perm.refl _,pairwise_append.mpr ⟨ua,ub,fun x hx y hy=>yx (lowA x (by rw [ek,yO];exact hx)) (fbB y hy)⟩⟩ (by rw [yY];exact ha) (J5k hp))
 rw [yh g1];have hkl:k<la.length:=by have:¬ la.length - k=0:=fun z=>g1 (beq_iff_eq.mpr z);omega
 obtain ⟨n,hn⟩:∃ n,la.length=n+1:=⟨la.length - 1,by omega⟩;obtain ⟨al,hal⟩:∃ p,la[n]?=some p:=⟨la[n],yA (by omega)⟩;have eal:(arrOf st)[P.length+k+(la.length - k) - 1]?=some al:=by
  have:=atA n (by omega);rw [hal] at this;rw [show P.length+k+(la.length - k) - 1=P.length+n by omega];exact this
 have dal:D al.1:=dA _ (yG hal);refine wpS_bind (JG eal ?_);have ha2:(arrOf st).toList=(P++la)++(lb++R):=by rw [ha,yY]
 refine wpS_bind (tim_gallop C hk dal (by show _<=(arrOf st).size;omega) hD (by omega) (J6B ha2 (by simp) rfl ub) fun j j1 j2 j3=>?_);dsimp only;have alA:∀ x∈la,rk x.1<=rk al.1:=fun x hx=>J66 ua hal x (by rw [<- hn,yO];exact hx);have hiB:∀ y∈lb.drop j,rk al.1<=rk y.1:=fun y hy=>by
  obtain ⟨q,hq⟩:=yT.mp hy;rw [List.getElem?_drop] at hq;have hlt:j+q<lb.length:=(yB.mp hq).1;rw [yA hlt] at hq;cases hq;have:=j3 (j+q) (by omega) hlt;rw [ec hlt] at this;simpa using this
 have loB:∀ y∈lb.take j,rk y.1<=rk al.1:=fun y hy=>by
  obtain ⟨q,hq,e⟩:=J5u hy;have hlt:q<lb.length:=by omega
  rw [yA hlt] at e;cases e;have:=j2 q hq;rw [ec hlt] at this;exact Nat.le_of_lt (by simpa using this)
 by_cases g2:(j == 0)=true
 ·rw [yi g2]
  have ej:j=0:=beq_iff_eq.mp g2;refine wpS_pure (h _ (la++lb) hk hf ⟨List.Perm.refl _,pairwise_append.mpr ⟨ua,ub,fun x hx y hy=>yx (alA x hx) (hiB y (by rw [ej];exact hy))⟩⟩ (by rw [yY];exact ha) (J5k hp))
 rw [yh g2];have hj0:0<j:=by have:¬ j=0:=fun z=>g2 (beq_iff_eq.mpr z);omega
 have ex:((arrOf st).extract (P.length+k) (P.length+la.length)).toList=la.drop k:=by
  rw [Array.toList_extract,extract_eq_drop_take,ha,show P.length+la.length - (P.length+k)=la.length - k by omega,<- drop_drop,drop_left,drop_append_of_le_length (by omega),take_left' (by rw [length_drop])]
 have ey:((arrOf st).extract (P.length+la.length) (P.length+la.length+j)).toList=lb.take j:=by
  rw [Array.toList_extract,extract_eq_drop_take,ha2,show P.length+la.length+j - (P.length+la.length)=j by omega,drop_left' (by simp),take_append_of_le_length (by omega)]
 generalize (arrOf st).extract (P.length+k) (P.length+la.length)=x at ex;have ey':((arrOf st).extract (P.length+la.length) (P.length+la.length+j)).toList=lb.take j:=ey;clear ey;generalize (arrOf st).extract (P.length+la.length) (P.length+la.length+j)=y at ey';obtain ⟨fa,hfa⟩:∃ p,la[k]?=some p:=⟨la[k],yA hkl⟩;have x0:x[0]?=some fa:=by rw [<- Array.getElem?_toList,ex,List.getElem?_drop,Nat.add_zero];exact hfa
 have y0:y[0]?=some fb:=by rw [<- Array.getElem?_toList,ey',List.getElem?_take_of_lt hj0];exact hfb
 have hle:rk fb.1<=rk fa.1:=by
  have:=k3 k (yj _) hkl;rw [show bey rk false fb (arrOf st) P.length k=_ from eb hkl] at this;have e:la[k]=fa:=by have:=hfa;rw [yA hkl] at this;exact yq this
  rw [e] at this;exact Nat.le_of_lt (by simpa using this)
 have xs:x.size=(n - k)+1:=by rw [<- yz,ex,length_drop];omega
 have xl:x[n - k]?=some al:=by rw [<- Array.getElem?_toList,ex,List.getElem?_drop,show k+(n - k)=n by omega];exact hal
 have uax:Up rk x.toList:=by rw [ex];exact List.Pairwise.sublist (drop_sublist _ _) ua
 have uby:Up rk y.toList:=by rw [ey'];exact List.Pairwise.sublist (take_sublist _ _) ub
 have dax:∀ p∈x.toList,D p.1:=fun p hp=>dA p (by rw [ex] at hp;exact mem_of_mem_drop hp);have dby:∀ p∈y.toList,D p.1:=fun p hp=>dB p (by rw [ey'] at hp;exact mem_of_mem_take hp);have lst:∀ z∈y.toList,rk z.1<=rk al.1:=fun z hz=>loB z (by rw [ey'] at hz;exact hz);have key:∀ (l:Array Keyed) (st2:SortSt),J2N (SortSt.mk' (kindOf st) (arrOf st) (((pendingOf st).setIfInBounds ps1.length (P.length,la.length+lb.length,pw)).eraseIdxIfInBounds (ps1.length+1)) (gallopOf st) (failedOf st)) st2->J0B rk x.toList y.toList l.toList ->
  ∀ st3:SortSt,kindOf st3=kindOf st2->pendingOf st3=pendingOf st2->failedOf st3=failedOf st2->arrOf st3=l.toList.zipIdx.foldl (fun a (x:Keyed×Nat)=>a.setIfInBounds (P.length+k+x.2) x.1) (arrOf st2)->Q true st3:=by
  rintro l st2 ⟨s1,s2,s3,s4⟩ ⟨mp,mu⟩ st3 t1 t2 t3 t4;have ll:l.toList.length=(la.length - k)+j:=by rw [mp.length_eq,yH,ex,ey',length_drop,yI];omega
  have e2:arrOf st2=arrOf st:=s2;have J06:P.length+k+0+l.toList.length<=(arrOf st).size:=by omega
  have e3:(arrOf st3).toList=(P++la.take k)++(l.toList++(lb.drop j++R)):=by
   rw [t4,e2,J9o (P.length+k) l.toList 0 _ J06,Nat.add_zero];congr 1
   ·rw [ha,take_append,take_of_length_le (by omega),show P.length+k - P.length=k by omega,take_append_of_le_length (by omega)]
   ·congr 1
    rw [ll,ha2,show P.length+k+(la.length - k+j)=(P++la).length+j by rw [yH];omega,drop_append,drop_eq_nil_of_le (by omega),show (P++la).length+j - (P++la).length=j by omega,nil_append,drop_append_of_le_length (by omega)]
  refine h st3 (la.take k++(l.toList++lb.drop j)) (t1.trans (s1.trans hk)) (t3.trans (s4.trans hf)) ⟨?_,?_⟩ ?_ ?_
  ·rw [ex,ey'] at mp
   have p1:(la.take k++(l.toList++lb.drop j)).Perm (la.take k++((la.drop k++lb.take j)++lb.drop j)):=List.Perm.append_left _ (List.Perm.append_right _ mp);refine p1.trans (List.Perm.of_eq ?_);rw [yY,take_append_drop,<- yY,take_append_drop]
  ·rw [ex,ey'] at mp
   have ud:Up rk (la.take k++la.drop k):=by rw [take_append_drop];exact ua
   have ue:Up rk (lb.take j++lb.drop j):=by rw [take_append_drop];exact ub
   obtain ⟨u1,u2,u3⟩:=pairwise_append.mp ud;obtain ⟨v1,v2,v3⟩:=pairwise_append.mp ue;refine pairwise_append.mpr ⟨u1,pairwise_append.mpr ⟨mu,v2,fun z hz y hy=>?_⟩,fun z hz y hy=>?_⟩
   ·rcases yQ.mp (mp.mem_iff.mp hz) with q | q
    ·exact yx (alA z (mem_of_mem_drop q)) (hiB y hy)
    ·exact v3 z q y hy
   ·rcases yQ.mp hy with q | q
    ·rcases yQ.mp (mp.mem_iff.mp q) with q | q
     ·exact u3 z hz y q
     ·exact yx (lowA z hz) (fbB y (mem_of_mem_take q))
    ·exact yx (lowA z hz) (fbB y (mem_of_mem_drop q))
  ·rw [e3]
   simp [yY]
  ·rw [t2,show pendingOf st2=_ from s3]
   exact J5k hp
 by_cases g3:la.length - k<=j
 ·rw [yi g3]
  refine wpS_bind (tim_mergeLo C hk dax dby uax uby y0 x0 hle xs xl lst fun l st2 sm mm=>?_);refine wpS_bind (wpS_modify (wpS_bind (wpS_get (wpS_pure ?_))));have e:failedOf st2=none:=sm.2.2.2.trans hf;have e':(failedOf st2).isNone=true:=by rw [e];rfl
  show Q (failedOf st2).isNone _;rw [e'];exact key l st2 sm mm _ rfl rfl rfl rfl
 ·rw [yh g3]
  refine wpS_bind (tim_mergeHi C hk dax dby uax uby y0 x0 hle xs xl lst fun l st2 sm mm=>?_);refine wpS_bind (wpS_modify (wpS_bind (wpS_get (wpS_pure ?_))));have e:failedOf st2=none:=sm.2.2.2.trans hf;have e':(failedOf st2).isNone=true:=by rw [e];rfl
  show Q (failedOf st2).isNone _;rw [e'];exact key l st2 sm mm _ rfl rfl rfl rfl
end
def ra (rk:Value->Nat)(arr:Array Keyed)(i:Nat):Nat :=
 match arr[i]? with
 | some p=>rk p.1
 | none=>0
def Inc (rk:Value->Nat)(arr:Array Keyed)(lo n:Nat):Prop:=∀ i j,i<=j->j<n->ra rk arr (lo+i)<=ra rk arr (lo+j)
def Dec (rk:Value->Nat)(arr:Array Keyed)(lo n:Nat):Prop:=∀ i j,i<=j->j<n->ra rk arr (lo+j)<=ra rk arr (lo+i)
theorem J43 {rk:Value->Nat}{xs:Array Keyed}{i j:Nat}(hj:j<=xs.size)(k:Nat):ra rk (mirror xs i j ((j - i) / 2)) k=if i<=k/\k<j then ra rk xs (i+j - 1 - k) else ra rk xs k:=by
 unfold ra;rw [getElem?_mirror_all hj];by_cases q:i<=k/\k<j
 ·rw [yi q,yi q]
 ·rw [yh q,yh q]
theorem J6f {rk:Value->Nat}{xs:Array Keyed}{src d:Nat}(hs:src<xs.size)(hd:d<=src)(k:Nat):ra rk (bubble xs src d) k=if k=src - d then ra rk xs src else if src - d<k/\k<=src then ra rk xs (k - 1) else ra rk xs k:=by
 unfold ra;rw [getElem?_bubble hs d hd];by_cases q:k=src - d
 ·rw [yi q,yi q]
 ·rw [yh q,yh q]
  by_cases q2:src - d<k/\k<=src
  ·rw [yi q2,yi q2]
  ·rw [yh q2,yh q2]
theorem J28 {rk:Value->Nat}{xs:Array Keyed}{i j:Nat}(hj:j<=xs.size)(h:∀ k,i<=k->k<j->ra rk xs k=ra rk xs (j - 1))(k:Nat):ra rk (mirror xs i j ((j - i) / 2)) k=ra rk xs k:=by
 rw [J43 hj]
 split
 ·rw [h _ (by omega) (by omega),h k (by omega) (by omega)]
 ·rfl
structure SB (st0 st:SortSt)(lo n:Nat):Prop where
 kind:kindOf st=kindOf st0
 failed:failedOf st=failedOf st0
 pend:pendingOf st=pendingOf st0
 perm:(arrOf st).Perm (arrOf st0)
 out:∀ i,(i<lo\/lo+n<=i)->(arrOf st)[i]?=(arrOf st0)[i]?
theorem SB.refl (st:SortSt)(lo n:Nat):SB st st lo n:=⟨rfl,rfl,rfl,Array.Perm.refl _,fun _ _=>rfl⟩
theorem SB.size {st0 st:SortSt}{lo n:Nat}(h:SB st0 st lo n):(arrOf st).size=(arrOf st0).size:=h.perm.size_eq
theorem SB.mirr {st0 st:SortSt}{lo n i j:Nat}(h:SB st0 st lo n)(hi:lo<=i)(hj:j<=lo+n)(hz:lo+n<=(arrOf st0).size):SB st0 (setArr st (mirror (arrOf st) i j ((j - i) / 2))) lo n :=
 ⟨h.kind,h.failed,h.pend,(mirror_perm _ _ _ _).trans h.perm,fun k hk=>by
  show (mirror (arrOf st) i j ((j - i) / 2))[k]?=_;rw [getElem?_mirror_all (by rw [h.size];omega),yh (by omega)];exact h.out k hk⟩
theorem SB.bubb {st0 st:SortSt}{lo n src d:Nat}(h:SB st0 st lo n)(hs:src<lo+n)(hd:lo+d<=src)(hz:lo+n<=(arrOf st0).size):SB st0 (setArr st (bubble (arrOf st) src d)) lo n :=
 ⟨h.kind,h.failed,h.pend,(bubble_perm _ _ _).trans h.perm,fun k hk=>by
  show (PyProof.Rows.bubble (arrOf st) src d)[k]?=_;rw [getElem?_bubble (by rw [h.size];omega) d (by omega),yh (by omega),yh (by omega)];exact h.out k hk⟩
section
variable {prog:Program}{w:World}{A:Around}{E:Value->Shared->Prop}{s:Shared}{kd:SortKind}{D:Value->Prop}{rk:Value->Nat}
theorem J1P (C:Cmp prog w A s kd D rk){st0 st:SortSt}{lo n i j:Nat}{Q:Option Bool->SortSt->Prop}(hB:SB st0 st lo n)(hk:kindOf st0=kd)(hD:∀ p∈(arrOf st0).toList,D p.1)(hi:i<(arrOf st0).size)(hj:j<(arrOf st0).size)
 (h:Q (some (decide (ra rk (arrOf st) i<ra rk (arrOf st) j))) st):wpS (model prog w) A E s (ltAt' i j) Q st:=by
 have at':∀ i,i<(arrOf st0).size->∃ p,(arrOf st)[i]?=some p/\D p.1/\ra rk (arrOf st) i=rk p.1:=fun i hi=>by
  have hi':i<(arrOf st).size:=by rw [hB.size];exact hi
  have e:(arrOf st)[i]?=some (arrOf st)[i]:=getElem?_pos (arrOf st) i hi';exact ⟨_,e,hD _ ((Array.perm_iff_toList_perm.mp hB.perm).mem_iff.mp (by simp)),by unfold ra;rw [e]⟩
 obtain ⟨p,ep,dp,rp⟩:=at' i hi;obtain ⟨q,eq,dq,rq⟩:=at' j hj;rw [rp,rq] at h;rw [ltAt'_eq];exact wpS_bind (wpS_get (wpS_bind (JG ep (wpS_bind (JG eq (J4U C (hB.kind.trans hk) dp dq h))))))
theorem J7S {arr:Array Keyed}{lo x:Nat}(h:Inc rk arr lo x)(hx:1<=x)(hl:ra rk arr (lo+(x - 1))<=ra rk arr (lo+x)):Inc rk arr lo (x+1):=fun i j hij hj=>by
 by_cases hjx:j<x
 ·exact h i j hij hjx
 ·obtain rfl:j=x:=by omega
  by_cases hi:i=j
  ·subst hi;exact yj _
  ·exact yx (h i (j - 1) (by omega) (by omega)) hl
theorem J3L {arr:Array Keyed}{lo x:Nat}(h:Dec rk arr lo x)(hx:1<=x)(hl:ra rk arr (lo+x)<=ra rk arr (lo+(x - 1))):Dec rk arr lo (x+1):=fun i j hij hj=>by
 by_cases hjx:j<x
 ·exact h i j hij hjx
 ·obtain rfl:j=x:=by omega
  by_cases hi:i=j
  ·subst hi;exact yj _
  ·exact yx hl (h i (j - 1) (by omega) (by omega))
theorem tim_countRun (C:Cmp prog w A s kd D rk){st:SortSt}{lo nrem:Nat}{Q:Option Nat->SortSt->Prop}(hk:kindOf st=kd)(hD:∀ p∈(arrOf st).toList,D p.1)(hz:lo+nrem<=(arrOf st).size)(h1:1<=nrem)
 (h:∀ m st',SB st st' lo nrem->1<=m->m<=nrem->Inc rk (arrOf st') lo m->Q (some m) st'):wpS (model prog w) A E s (countRun' lo nrem) Q st:=by
 rw [countRun'_eq];refine wpS_bind (wpS_mono (wpS_forRange (I:=fun x c st'=>st'=st/\c=(none,x)/\Inc rk (arrOf st) lo x) (Q:=fun c st'=>st'=st/\∃ n,c=(none,n)/\1<=n/\n<=nrem/\Inc rk (arrOf st) lo n/\(n=nrem\/ra rk (arrOf st) (lo+n)<ra rk (arrOf st) (lo+n - 1))) ?step ?fin ⟨rfl,rfl,fun i j hij hj=>by obtain rfl:i=j:=(by omega);exact yj _⟩) ?post)
 case fin =>
  rintro c st' ⟨e,rfl,hs⟩;rw [show max 1 nrem=nrem by omega] at hs ⊢;exact ⟨e,nrem,rfl,h1,yj _,hs,.inl rfl⟩
 case step =>
  rintro x c st' hx1 hx2 ⟨e,rfl,hs⟩;rw [e];dsimp only;refine wpS_bind (J1P C (SB.refl st lo nrem) hk hD (by omega) (by omega) ?_);dsimp only;by_cases hl:ra rk (arrOf st) (lo+x)<ra rk (arrOf st) (lo+x - 1)
  ·rw [yi (ym hl)]
   exact wpS_pure ⟨rfl,x,rfl,hx1,by omega,hs,.inr hl⟩
  ·rw [yh (by rw [yo hl];exact yk)]
   exact wpS_pure ⟨rfl,rfl,J7S hs hx1 (by rw [show lo+(x - 1)=lo+x - 1 by omega];omega)⟩
 case post =>
  rintro c st1 ⟨e,n,rfl,n1,n2,hs,hor⟩;rw [e];clear e st1;dsimp only;by_cases hn:(n == nrem)=true
  ·rw [yi hn]
   exact wpS_pure (h n st (SB.refl _ _ _) n1 n2 hs)
  rw [yh hn];have hne:¬ n=nrem:=fun z=>hn (beq_iff_eq.mpr z);have hlt:=hor.resolve_left hne;have goD:∀ st2:SortSt,SB st st2 lo nrem->(∀ i,ra rk (arrOf st2) i=ra rk (arrOf st) i)->(∀ i,i<n->ra rk (arrOf st) (lo+i)=ra rk (arrOf st) (lo+(n - 1)))->Dec rk (arrOf st2) lo (n+1):=fun st2 _ e1 e2=>J3L (fun i j hij hj=>by rw [e1,e1,e2 i (by omega),e2 j hj];exact yj _) n1 (by rw [e1,e1,show lo+(n - 1)=lo+n - 1 by omega];omega);apply J8V
  ·intro key
   by_cases hg:n > 1
   case' pos =>
    rw [yi hg];refine wpS_bind (J1P C (SB.refl st lo nrem) hk hD (by omega) (by omega) ?_);dsimp only;by_cases hr:ra rk (arrOf st) lo<ra rk (arrOf st) (lo+n - 1)
    case pos =>
     rw [yi (ym hr)];exact wpS_pure (h n st (SB.refl _ _ _) n1 n2 hs)
    rw [yh (by rw [yo hr];exact yk)];refine wpS_bind (wpS_reverse ?_);have hall:∀ k,lo<=k->k<lo+n->ra rk (arrOf st) k=ra rk (arrOf st) (lo+n - 1):=fun k k1 k2=>by
     have a1:=hs 0 (k - lo) (by omega) (by omega);have a2:=hs (k - lo) (n - 1) (by omega) (by omega);rw [show lo+(k - lo)=k by omega] at a1 a2;rw [Nat.add_zero] at a1;rw [show lo+(n - 1)=lo+n - 1 by omega] at a2;omega
    have hS:=(SB.refl st lo nrem).mirr (i:=lo) (j:=lo+n) (yj _) (by omega) hz;have hDc:=goD _ hS (J28 (by omega) hall) (fun i hi=>by rw [hall (lo+i) (by omega) (by omega),show lo+(n - 1)=lo+n - 1 by omega])
    revert hS hDc
    generalize setArr st (mirror (arrOf st) lo (lo+n) ((lo+n - lo) / 2))=st2
    revert st2
    exact key.out
   case' neg =>
    rw [yh hg];exact key.out st (SB.refl st lo nrem) (goD st (SB.refl st lo nrem) (fun _=>rfl) (fun i hi=>by rw [show i=n - 1 by omega]))
  ·intro st2 hS hDc
   have hnn:n+1<=nrem:=by omega
   refine wpS_bind (wpS_lift (wpAny_rule ⟨rfl,?_⟩));refine wpS_bind (wpS_mono (wpS_forRange (I:=fun x c st'=>∃ neq,c=(none,x,neq)/\SB st st' lo nrem/\Dec rk (arrOf st') lo x/\neq+1<=x/\∀ i,x - (neq+1)<=i->i<x->ra rk (arrOf st') (lo+i)=ra rk (arrOf st') (lo+(x - 1)))
    (Q:=fun c st'=>∃ m neq,c=(none,m,neq)/\SB st st' lo nrem/\n+1<=m/\m<=nrem/\Dec rk (arrOf st') lo m/\neq+1<=m/\∀ i,m - (neq+1)<=i->i<m->ra rk (arrOf st') (lo+i)=ra rk (arrOf st') (lo+(m - 1))) ?stepD ?finD ⟨0,rfl,hS,hDc,by omega,fun i h1 h2=>by congr 1;omega⟩) ?postD)
   case finD =>
    rintro c st' ⟨neq,rfl,hB,hd,q1,q2⟩;rw [show max (n+1) nrem=nrem by omega] at hd q1 q2 ⊢;exact ⟨nrem,neq,rfl,hB,hnn,yj _,hd,q1,q2⟩
   case stepD =>
    rintro x c st' hx1 hx2 ⟨neq,rfl,hB,hd,q1,q2⟩;dsimp only;have hsz:lo+x<=(arrOf st').size:=by rw [hB.size];omega
    refine wpS_bind (J1P C hB hk hD (by omega) (by omega) ?_);dsimp only;by_cases hl:ra rk (arrOf st') (lo+x)<ra rk (arrOf st') (lo+x - 1)
    ·rw [yi (ym hl)]
     have hl':ra rk (arrOf st') (lo+x)<=ra rk (arrOf st') (lo+(x - 1)):=by rw [show lo+(x - 1)=lo+x - 1 by omega];omega
     by_cases hq:neq > 0
     ·rw [yi hq]
      refine wpS_bind (wpS_reverse ?_);have he:∀ k,lo+x - (neq+1)<=k->k<lo+x->ra rk (arrOf st') k=ra rk (arrOf st') (lo+x - 1):=fun k k1 k2=>by
       have:=q2 (k - lo) (by omega) (by omega);rw [show lo+(k - lo)=k by omega,show lo+(x - 1)=lo+x - 1 by omega] at this;exact this
      have em:=J28 (rk:=rk) (i:=lo+x - (neq+1)) hsz he;refine wpS_pure ⟨0,rfl,hB.mirr (by omega) (by omega) hz,J3L (fun i j hij hj=>?_) (by omega) ?_,by omega,fun i h1 h2=>by congr 1;omega⟩
      ·show ra rk (mirror _ _ _ _) _<=ra rk (mirror _ _ _ _) _
       rw [em,em];exact hd i j hij hj
      ·show ra rk (mirror _ _ _ _) _<=ra rk (mirror _ _ _ _) _
       rw [em,em];exact hl'
     ·rw [yh hq]
      exact wpS_pure ⟨0,rfl,hB,J3L hd (by omega) hl',by omega,fun i h1 h2=>by congr 1;omega⟩
    ·rw [yh (by rw [yo hl];exact yk)]
     refine wpS_bind (J1P C hB hk hD (by omega) (by omega) ?_);dsimp only;by_cases hm:ra rk (arrOf st') (lo+x - 1)<ra rk (arrOf st') (lo+x)
     ·rw [yi (ym hm)]
      exact wpS_pure ⟨x,neq,rfl,hB,hx1,by omega,hd,q1,q2⟩
     ·rw [yh (by rw [yo hm];exact yk)]
      have he:ra rk (arrOf st') (lo+x)=ra rk (arrOf st') (lo+(x - 1)):=by rw [show lo+(x - 1)=lo+x - 1 by omega];omega
      refine wpS_pure ⟨neq+1,rfl,hB,J3L hd (by omega) (by omega),by omega,fun i h1 h2=>?_⟩;rw [show x+1 - 1=x by omega];by_cases hi:i=x
      ·rw [hi]
      ·rw [q2 i (by omega) (by omega),he]
   case postD =>
    rintro c st3 ⟨m,neq,rfl,hB,m1,m2,hd,q1,q2⟩;dsimp only;have hsz:lo+m<=(arrOf st3).size:=by rw [hB.size];omega
    by_cases hq:neq > 0
    case' pos =>
     rw [yi hq];refine wpS_bind (wpS_reverse ?_);have he:∀ k,lo+m - (neq+1)<=k->k<lo+m->ra rk (arrOf st3) k=ra rk (arrOf st3) (lo+m - 1):=fun k k1 k2=>by
      have:=q2 (k - lo) (by omega) (by omega);rw [show lo+(k - lo)=k by omega,show lo+(m - 1)=lo+m - 1 by omega] at this;exact this
     have em:=J28 (rk:=rk) (i:=lo+m - (neq+1)) hsz he;have hB4:=hB.mirr (i:=lo+m - (neq+1)) (j:=lo+m) (by omega) (by omega) hz;have hd4:Dec rk (arrOf (setArr st3 (mirror (arrOf st3) (lo+m - (neq+1)) (lo+m) ((lo+m - (lo+m - (neq+1))) / 2)))) lo m:=fun i j hij hj=>by
      show ra rk (mirror _ _ _ _) _<=ra rk (mirror _ _ _ _) _;rw [em,em];exact hd i j hij hj
     generalize setArr st3 (mirror (arrOf st3) (lo+m - (neq+1)) (lo+m) ((lo+m - (lo+m - (neq+1))) / 2))=st4 at *
    case' neg =>
     rw [yh hq];have hB4:=hB;have hd4:=hd;generalize hst4:st3=st4 at hB4 hd4 ⊢
    all_goals
     refine wpS_bind (wpS_reverse ?_);have hsz4:lo+m<=(arrOf st4).size:=by rw [hB4.size];omega
     have hB5:=hB4.mirr (i:=lo) (j:=lo+m) (yj _) (by omega) hz;have hi5:Inc rk (arrOf (setArr st4 (mirror (arrOf st4) lo (lo+m) ((lo+m - lo) / 2)))) lo m:=fun i j hij hj=>by
      show ra rk (mirror _ _ _ _) _<=ra rk (mirror _ _ _ _) _;rw [J43 hsz4,J43 hsz4,yi (by omega),yi (by omega)];have:=hd4 (m - 1 - j) (m - 1 - i) (by omega) (by omega);rw [show lo+(m - 1 - j)=lo+(lo+m) - 1 - (lo+j) by omega,show lo+(m - 1 - i)=lo+(lo+m) - 1 - (lo+i) by omega] at this;exact this
     generalize setArr st4 (mirror (arrOf st4) lo (lo+m) ((lo+m - lo) / 2))=st5 at *;refine wpS_bind (wpS_mono (wpS_forRange (I:=fun x c st'=>st'=st5/\c=(none,x)/\Inc rk (arrOf st5) lo x) (Q:=fun c st'=>st'=st5/\∃ n,c=(none,n)/\1<=n/\n<=nrem/\Inc rk (arrOf st5) lo n) ?stepE ?finE ⟨rfl,rfl,hi5⟩) ?postE)
     case finE =>
      rintro c st' ⟨e,rfl,hs⟩;rw [show max m nrem=nrem by omega] at hs ⊢;exact ⟨e,nrem,rfl,h1,yj _,hs⟩
     case stepE =>
      rintro x c st' hx1 hx2 ⟨e,rfl,hs⟩;rw [e];dsimp only;refine wpS_bind (J1P C hB5 hk hD (by omega) (by omega) ?_);dsimp only;by_cases hl:ra rk (arrOf st5) (lo+x)<ra rk (arrOf st5) (lo+x - 1)
      ·rw [yi (ym hl)]
       exact wpS_pure ⟨rfl,x,rfl,by omega,by omega,hs⟩
      ·rw [yh (by rw [yo hl];exact yk)]
       exact wpS_pure ⟨rfl,rfl,J7S hs (by omega) (by rw [show lo+(x - 1)=lo+x - 1 by omega];omega)⟩
     case postE =>
      rintro c st6 ⟨e,z,rfl,z1,z2,hs⟩;rw [e];exact wpS_pure (h z st5 hB5 z1 z2 hs)
end
section
variable {prog:Program}{w:World}{A:Around}{E:Value->Shared->Prop}{s:Shared}{kd:SortKind}{D:Value->Prop}{rk:Value->Nat}
theorem tim_binarySort (C:Cmp prog w A s kd D rk){st0 st:SortSt}{lo nn n ok:Nat}{Q:Bool->SortSt->Prop}(hk:kindOf st0=kd)(hD:∀ p∈(arrOf st0).toList,D p.1)(hz:lo+nn<=(arrOf st0).size)(hn:n<=nn)(hok:ok<=n)(hB:SB st0 st lo nn)(hs:Inc rk (arrOf st) lo ok)
 (h:∀ st',SB st0 st' lo nn->Inc rk (arrOf st') lo n->Q true st'):wpS (model prog w) A E s (binarySort' lo n ok) Q st:=by
 rw [binarySort'_eq];refine wpS_bind (wpS_mono (wpS_forRange (I:=fun k c st'=>c=(none,())/\SB st0 st' lo nn/\Inc rk (arrOf st') lo (min k n)) (Q:=fun c st'=>c=(none,())/\SB st0 st' lo nn/\Inc rk (arrOf st') lo n) ?step ?fin ?init) ?post)
 case post =>
  rintro c st' ⟨rfl,hB',hs'⟩;exact wpS_pure (h st' hB' hs')
 case init =>
  refine ⟨rfl,hB,fun i j hij hj=>?_⟩;by_cases h1:ok=0
  ·obtain rfl:i=j:=by omega
   exact yj _
  ·exact hs i j hij (by omega)
 case fin =>
  rintro c st' ⟨hc,hB',hs'⟩;refine ⟨hc,hB',?_⟩;rwa [show min (max (max ok 1) n) n=n by omega] at hs'
 case step =>
  rintro k c st1 hak hkn ⟨rfl,hB',hs'⟩;rw [show min k n=k by omega] at hs';refine wpS_bind (wpS_mono (wpS_forRange (I:=fun x c st''=>st''=st1/\∃ l r,c=(none,l,r)/\l<=r/\r<=k/\r - l<=k - x/\(∀ i,i<l->ra rk (arrOf st1) (lo+i)<=ra rk (arrOf st1) (lo+k))/\(∀ i,r<=i->i<k->ra rk (arrOf st1) (lo+k)<ra rk (arrOf st1) (lo+i)))
   (Q:=fun c st''=>st''=st1/\∃ l r,c=(none,l,r)/\l<=k/\(∀ i,i<l->ra rk (arrOf st1) (lo+i)<=ra rk (arrOf st1) (lo+k))/\(∀ i,l<=i->i<k->ra rk (arrOf st1) (lo+k)<ra rk (arrOf st1) (lo+i))) ?istep ?ifin ?iinit) ?ipost)
  case iinit=>exact ⟨rfl,0,k,rfl,by omega,by omega,by omega,fun i hi=>by omega,fun i h1 h2=>by omega⟩
  case ifin =>
   rintro c st2 ⟨e,l,r,rfl,hlr,hrk,hm,hlo,hhi⟩;obtain rfl:l=r:=by omega
   exact ⟨e,l,l,rfl,hrk,hlo,hhi⟩
  case istep =>
   rintro x c st2 _ hxk ⟨e,l,r,rfl,hlr,hrk,hm,hlo,hhi⟩;rw [e];dsimp only;by_cases hge:l≥r
   ·rw [yi hge]
    obtain rfl:l=r:=by omega
    exact wpS_pure ⟨rfl,l,l,rfl,hrk,hlo,hhi⟩
   ·rw [yh hge]
    refine wpS_bind (J1P C hB' hk hD (by omega) (by omega) ?_);dsimp only;by_cases hless:ra rk (arrOf st1) (lo+k)<ra rk (arrOf st1) (lo+(l+r) / 2)
    ·rw [yi (ym hless)]
     exact wpS_pure ⟨rfl,l,(l+r) / 2,rfl,by omega,by omega,by omega,hlo,fun i h1 h2=>yv hless (hs' _ _ h1 h2)⟩
    ·rw [yh (by rw [yo hless];exact yk)]
     exact wpS_pure ⟨rfl,(l+r) / 2+1,r,rfl,by omega,by omega,by omega,fun i h1=>yx (hs' i ((l+r) / 2) (by omega) (by omega)) (by omega),hhi⟩
  case ipost =>
   rintro c st2 ⟨e,l,r,rfl,hlk,hlo,hhi⟩;rw [e];show wpS _ _ _ _ (do moveDown' (lo+k) (lo+l);pure (ForInStep.yield (none,()))) _ _;rw [moveDown'_eq];refine wpS_bind (wpS_modify (wpS_pure ⟨rfl,hB'.bubb (by omega) (by omega) hz,?_⟩));rw [show min (k+1) n=k+1 by omega];have hks:lo+k<(arrOf st1).size:=by rw [hB'.size];omega
   intro i j hij hj;show ra rk (bubble (arrOf st1) (lo+k) (lo+k - (lo+l))) (lo+i)<=ra rk (bubble (arrOf st1) (lo+k) (lo+k - (lo+l))) (lo+j);rw [J6f hks (by omega),J6f hks (by omega),show lo+k - (lo+k - (lo+l))=lo+l by omega];have s1:∀ z,l<z->lo+z - 1=lo+(z - 1):=fun z hz=>by omega
   by_cases a1:lo+i=lo+l
   ·rw [yi a1]
    by_cases a2:lo+j=lo+l
    ·rw [yi a2];exact yj _
    ·rw [yh a2,yi (by omega),s1 j (by omega)]
     exact Nat.le_of_lt (hhi _ (by omega) (by omega))
   ·rw [yh a1]
    by_cases a3:lo+l<lo+i/\lo+i<=lo+k
    ·rw [yi a3,yh (by omega),yi (by omega),s1 i (by omega),s1 j (by omega)]
     exact hs' _ _ (by omega) (by omega)
    ·rw [yh a3]
     by_cases a2:lo+j=lo+l
     ·rw [yi a2];exact hlo _ (by omega)
     ·rw [yh a2]
      by_cases a4:lo+l<lo+j/\lo+j<=lo+k
      ·rw [yi a4,s1 j (by omega)]
       exact hs' _ _ (by omega) (by omega)
      ·rw [yh a4]
       exact hs' _ _ hij (by omega)
end
def Runs (rk:Value->Nat):Nat->List (Nat×Nat×Nat)->List Keyed->Prop
 | _,[],L=>L=[]
 | b,x::ps,L=>x.1=b/\0<x.2.1/\∃ l L',L=l++L'/\l.length=x.2.1/\Up rk l/\Runs rk (b+x.2.1) ps L'
section
variable {rk:Value->Nat}
theorem Runs.app:∀ {ps1 ps2:List (Nat×Nat×Nat)} {b:Nat} {L:List Keyed},Runs rk b (ps1++ps2) L->∃ L1 L2,L=L1++L2/\Runs rk b ps1 L1/\Runs rk (b+L1.length) ps2 L2
 | [],ps2,b,L,h=>⟨[],L,rfl,rfl,h⟩
 | x::ps1,ps2,b,L,⟨h1,h2,l,L',e,hl,u,r⟩=>by
   obtain ⟨L1,L2,e2,r1,r2⟩:=Runs.app r;refine ⟨l++L1,L2,by rw [e,e2,yY],⟨h1,h2,l,L1,rfl,hl,u,r1⟩,?_⟩;rw [yH,<- Nat.add_assoc,hl];exact r2
theorem Runs.put:∀ {ps1 ps2:List (Nat×Nat×Nat)} {b:Nat} {L1 L2:List Keyed},Runs rk b ps1 L1->Runs rk (b+L1.length) ps2 L2->Runs rk b (ps1++ps2) (L1++L2)
 | [],ps2,b,L1,L2,h,r=>by
   cases (show L1=[] from h);exact r
 | x::ps1,ps2,b,L1,L2,⟨h1,h2,l,L',e,hl,u,r1⟩,r=>by
   subst e;refine ⟨h1,h2,l,L'++L2,by rw [yY],hl,u,Runs.put r1 ?_⟩;rw [yH,<- Nat.add_assoc,hl] at r;exact r
theorem Runs.len:∀ {ps:List (Nat×Nat×Nat)} {b:Nat} {L:List Keyed},Runs rk b ps L->ps.length<=L.length
 | [],_,_,_=>yw _
 | x::ps,b,L,⟨h1,h2,l,L',e,hl,u,r⟩=>by
   have:=Runs.len r;rw [e,yH,length_cons];omega
theorem Runs.pow:∀ {ps qs:List (Nat×Nat×Nat)} {b:Nat} {L:List Keyed},Runs rk b ps L->ps.map (fun x=>(x.1,x.2.1))=qs.map (fun x=>(x.1,x.2.1))->Runs rk b qs L
 | [],[],_,_,h,_=>h
 | [],_::_,_,_,_,e=>by simp at e
 | _::_,[],_,_,_,e=>by simp at e
 | x::ps,y::qs,b,L,⟨h1,h2,l,L',e,hl,u,r⟩,q=>by
   simp only [yM,List.cons.injEq,Prod.mk.injEq] at q;obtain ⟨⟨q1,q2⟩,q3⟩:=q;refine ⟨q1.symm.trans h1,by omega,l,L',e,by omega,u,?_⟩;rw [<- q2];exact Runs.pow r q3
end
structure Core (kd:SortKind)(rk:Value->Nat)(a₀:Array Keyed)(lo:Nat)(R:List Keyed)(st:SortSt):Prop where
 kind:kindOf st=kd
 failed:failedOf st=none
 perm:(arrOf st).Perm a₀
 runs:∃ L,(arrOf st).toList=L++R/\L.length=lo/\Runs rk 0 (pendingOf st).toList L
section
variable {prog:Program}{w:World}{A:Around}{E:Value->Shared->Prop}{s:Shared}{kd:SortKind}{D:Value->Prop}{rk:Value->Nat}{a₀:Array Keyed}
theorem Core.dom {lo:Nat}{R:List Keyed}{st:SortSt}(h:Core kd rk a₀ lo R st)(hD:∀ p∈a₀.toList,D p.1):∀ p∈(arrOf st).toList,D p.1:=fun p hp=>hD p ((Array.perm_iff_toList_perm.mp h.perm).mem_iff.mp hp)
theorem J5J (C:Cmp prog w A s kd D rk)(hD:∀ p∈a₀.toList,D p.1){lo:Nat}{R:List Keyed}{st:SortSt}{i:Nat}{Q:Bool->SortSt->Prop}(hc:Core kd rk a₀ lo R st)(hi:i+1<(pendingOf st).size)
 (h:∀ st',Core kd rk a₀ lo R st'->(pendingOf st').size+1=(pendingOf st).size->Q true st'):wpS (model prog w) A E s (mergeAt' i) Q st:=by
 obtain ⟨L,eL,hL,hr⟩:=hc.runs;have J06:(pendingOf st).toList.length=(pendingOf st).size:=yz;generalize hps:(pendingOf st).toList=ps at hr J06;have e0:ps=ps.take i++ps.drop i:=(take_append_drop i ps).symm;obtain ⟨x,y,ps2,e1⟩:∃ x y ps2,ps.drop i=x::y::ps2:=by
  have h1:i<ps.length:=by omega
  have h2:i+1<ps.length:=by omega
  exact ⟨_,_,_,by rw [drop_eq_getElem_cons h1,drop_eq_getElem_cons h2]⟩
 rw [e0,e1] at hr;obtain ⟨L1,L2,e2,r1,r2⟩:=Runs.app hr;obtain ⟨g1,g2,la,L3,e3,g3,g4,g5,g6,lb,L4,e4,g7,g8,g9⟩:=r2;obtain ⟨xa,xn,xp⟩:=x;obtain ⟨ya,yn,yp⟩:=y;dsimp only at *;rw [Nat.zero_add] at g1;subst e3 e4;refine tim_mergeAt C (P:=L1) (la:=la) (lb:=lb) (R:=L4++R) (ps1:=ps.take i) (ps2:=ps2) (sa:=xa) (na:=xn) (pw:=xp) (sb:=ya) (nb:=yn) (pw2:=yp) hc.kind hc.failed (hc.dom hD) (by rw [hps];rw [<- e1];exact e0) (by rw [yI];omega) (by rw [eL,e2];simp [yY]) g1.symm g3 (by omega) g7 g2 g6 g4 g8 fun st' l k1 k2 mm k3 k4=>?_;refine h st' ⟨k1,k2,?_,L1++(l++L4),by rw [k3];simp [yY],?_,?_⟩ ?_
 ·refine Array.perm_iff_toList_perm.mpr ((?_:(arrOf st').toList.Perm (arrOf st).toList).trans (Array.perm_iff_toList_perm.mp hc.perm))
  rw [k3,eL,e2];have:=mm.1;simp only [yY];refine List.Perm.append_left _ ?_;rw [<- yY la];exact List.Perm.append_right _ this
 ·have q:=mm.1.length_eq
  rw [yH] at q;rw [<- hL,e2];simp only [yH];omega
 ·rw [k4]
  refine Runs.put r1 ⟨by rw [Nat.zero_add];exact g1,(by show 0<xn+yn;omega),l,L4,rfl,by rw [mm.1.length_eq,yH,g3,g7],mm.2,?_⟩;rw [<- Nat.add_assoc];exact g9
 ·have:(pendingOf st').toList.length+1=ps.length:=by
   rw [k4,e0,e1];simp;omega
  rw [yz] at this;omega
theorem J5t {α β:Type}(f:α->α)(g:α->β)(hfg:∀ x,g (f x)=g x):∀ (l:List α) (i:Nat),(l.modify i f).map g=l.map g
 | [],i=>by simp
 | x::l,0=>by simp [hfg]
 | x::l,i+1=>by simp [J5t f g hfg l i]
theorem Core.rest {lo:Nat}{R:List Keyed}{st:SortSt}(h:Core kd rk a₀ lo R st):lo+R.length=a₀.size:=by
 obtain ⟨L,e,hL,_⟩:=h.runs;rw [<- h.perm.size_eq,<- yz,e,yH,hL]
theorem Core.pow {lo:Nat}{R:List Keyed}{st:SortSt}(h:Core kd rk a₀ lo R st)(i pw:Nat):Core kd rk a₀ lo R (setPending st ((pendingOf st).modify i fun x=>(x.fst,x.2.fst,pw))):=by
 obtain ⟨L,e,hL,r⟩:=h.runs;refine ⟨h.kind,h.failed,h.perm,L,e,hL,r.pow ?_⟩;show _=List.map _ ((pendingOf st).modify i fun x=>(x.fst,x.2.fst,pw)).toList;rw [Array.toList_modify];exact (J5t (fun x:Nat×Nat×Nat=>(x.1,x.2.1,pw)) (fun x=>(x.1,x.2.1)) (fun x=>rfl) _ _).symm
theorem Core.push {lo n:Nat}{l R:List Keyed}{st:SortSt}(h:Core kd rk a₀ lo (l++R) st)(hl:l.length=n)(h1:1<=n)(u:Up rk l):Core kd rk a₀ (lo+n) R (setPending st ((pendingOf st).push (lo,n,0))):=by
 obtain ⟨L,e,hL,r⟩:=h.runs;refine ⟨h.kind,h.failed,h.perm,L++l,by rw [yY];exact e,by rw [yH,hL,hl],?_⟩;show Runs rk 0 ((pendingOf st).push (lo,n,0)).toList (L++l);rw [Array.toList_push];exact r.put ⟨by rw [Nat.zero_add];exact hL.symm,h1,l,[],by simp,hl,u,rfl⟩
theorem Core.found {lo n:Nat}{R:List Keyed}{st st2:SortSt}(h:Core kd rk a₀ lo R st)(hB:SB st st2 lo (a₀.size - lo))(hi:Inc rk (arrOf st2) lo n)(hn:n<=a₀.size - lo):∃ l R',Core kd rk a₀ lo (l++R') st2/\l.length=n/\Up rk l:=by
 have hr:=h.rest;obtain ⟨L,e,hL,r⟩:=h.runs;have hsz:(arrOf st2).size=a₀.size:=hB.size.trans h.perm.size_eq;have et:(arrOf st2).toList.take lo=L:=by
  refine ext_getElem? fun i=>?_;by_cases q:i<lo
  ·rw [List.getElem?_take_of_lt q,Array.getElem?_toList,hB.out i (.inl q),<- Array.getElem?_toList,e,yW (by omega)]
  ·rw [List.getElem?_eq_none (by rw [yI];omega),List.getElem?_eq_none (by omega)]
 have e2:(arrOf st2).toList=L++((((arrOf st2).toList.drop lo).take n)++(((arrOf st2).toList.drop lo).drop n)):=by
  rw [take_append_drop,<- et,take_append_drop]
 have hl:(((arrOf st2).toList.drop lo).take n).length=n:=by
  rw [yI,length_drop,yz];omega
 refine ⟨_,_,⟨hB.kind.trans h.kind,hB.failed.trans h.failed,hB.perm.trans h.perm,L,e2,hL,by rw [hB.pend];exact r⟩,hl,?_⟩;refine pairwise_iff_getElem.mpr fun i j hi' hj' hij=>?_;have at':∀ i (hi:i<(((arrOf st2).toList.drop lo).take n).length),rk ((((arrOf st2).toList.drop lo).take n)[i]).1=ra rk (arrOf st2) (lo+i):=fun i hi=>by
  have q:(((arrOf st2).toList.drop lo).take n)[i]?=(arrOf st2)[lo+i]?:=by rw [List.getElem?_take_of_lt (by omega),List.getElem?_drop,Array.getElem?_toList]
  rw [yA hi] at q;unfold ra;rw [<- q]
 rw [at' i hi',at' j hj'];exact hi i j (by omega) (by omega)
theorem tim_sortRuns (C:Cmp prog w A s kd D rk)(hD:∀ p∈a₀.toList,D p.1){st:SortSt}{Q:Unit->SortSt->Prop}(hk:kindOf st=kd)(hf:failedOf st=none)(hp:(arrOf st).Perm a₀)(hq:pendingOf st=#[])
 (h:∀ st',(arrOf st').Perm a₀->failedOf st'=none->Up rk (arrOf st').toList->Q () st'):wpS (model prog w) A E s sortRuns' Q st:=by
 have hsz:(arrOf st).size=a₀.size:=hp.size_eq;rw [sortRuns'_eq];refine wpS_bind (wpS_get ?_);dsimp only;rw [hsz];generalize minRun' a₀.size a₀.size 0=mr;refine wpS_bind (wpS_mono (wpS_forRange (I:=fun x c st'=>∃ lo R,c=(none,lo)/\x<=lo/\lo<=a₀.size/\Core kd rk a₀ lo R st') (Q:=fun c st'=>c=(none,a₀.size)/\Core kd rk a₀ a₀.size [] st') ?step ?fin ⟨0,(arrOf st).toList,rfl,yj _,yw _,hk,hf,hp,[],rfl,rfl,by rw [hq];exact rfl⟩) ?post)
 case fin =>
  rintro c st' ⟨lo,R,rfl,h1,h2,hc⟩;obtain rfl:lo=a₀.size:=by omega
  have hR:R=[]:=eq_nil_of_length_eq_zero (by have:=hc.rest;omega);exact ⟨rfl,hR ▸ hc⟩
 case step =>
  rintro x c st1 _ hx ⟨lo,R,rfl,h1,h2,hc⟩;dsimp only;by_cases hlo:lo≥a₀.size
  ·rw [yi hlo]
   obtain rfl:lo=a₀.size:=by omega
   have hR:R=[]:=eq_nil_of_length_eq_zero (by have:=hc.rest;omega);exact wpS_pure ⟨rfl,hR ▸ hc⟩
  rw [yh hlo];have hz:lo+(a₀.size - lo)<=(arrOf st1).size:=by rw [hc.perm.size_eq];omega
  refine wpS_bind (tim_countRun C hc.kind (hc.dom hD) hz (by omega) fun m st2 hB m1 m2 hi=>?_);dsimp only;by_cases hm:m<mr
  case' pos =>
   rw [yi hm];refine wpS_bind (wpS_lift (wpAny_rule ⟨rfl,?_⟩));refine wpS_bind (tim_binarySort C hc.kind (hc.dom hD) hz (n:=min (a₀.size - lo) mr) (by omega) (by omega) hB hi fun st3 hB3 hi3=>?_);rw [yh (by simp)];have n1:1<=min (a₀.size - lo) mr:=by omega
   have n2:min (a₀.size - lo) mr<=a₀.size - lo:=by omega
   generalize min (a₀.size - lo) mr=n at *
  case' neg =>
   rw [yh hm];have n1:=m1;have n2:=m2;have hi3:=hi;have hB3:=hB;generalize hn:m=n at *;generalize hst3:st2=st3 at *
  all_goals
   obtain ⟨l,R',hc3,hl,hu⟩:=hc.found hB3 hi3 n2;refine wpS_bind (wpS_get ?_);have hpush:∀ st4:SortSt,Core kd rk a₀ lo (l++R') st4->∃ lo' R,((none:Option Unit),lo+n)=(none,lo')/\x+1<=lo'/\lo'<=a₀.size/\Core kd rk a₀ lo' R (setPending st4 ((pendingOf st4).push (lo,n,0))):=fun st4 h4=>⟨lo+n,R',rfl,by omega,by omega,h4.push hl n1 hu⟩;cases hb:(pendingOf st3).back? with
   | none=>exact wpS_bind (wpS_modify (wpS_pure (hpush st3 hc3)))
   | some q =>
     obtain ⟨s1,nn1,pp⟩:=q;refine wpS_bind (wpS_mono (wpS_forRange (I:=fun _ c st'=>c=(none,())/\Core kd rk a₀ lo (l++R') st') (Q:=fun c st'=>c=(none,())/\Core kd rk a₀ lo (l++R') st') ?stepM (fun _ _ z=>z) ⟨rfl,hc3⟩) ?postM)
     case postM =>
      rintro c st4 ⟨rfl,h4⟩;exact wpS_bind (wpS_modify (wpS_bind (wpS_modify (wpS_pure (hpush _ (h4.pow _ _))))))
     case stepM =>
      rintro y c st4 _ hy ⟨rfl,h4⟩;refine wpS_bind (wpS_get ?_);by_cases hs:(pendingOf st4).size > 1
      ·rw [yi hs]
       have hlt:(pendingOf st4).size - 2<(pendingOf st4).size:=by omega
       rw [getElem?_pos (pendingOf st4) ((pendingOf st4).size - 2) hlt];dsimp only
       split
       ·exact wpS_pure ⟨rfl,h4⟩
       ·refine wpS_bind (J5J C hD h4 (by omega) fun st5 h5 _=>?_)
        rw [yh (by simp)];exact wpS_pure ⟨rfl,h5⟩
      ·rw [yh hs]
       exact wpS_pure ⟨rfl,h4⟩
 case post =>
  rintro c st1 ⟨rfl,hc⟩;have hps:(pendingOf st1).size<=a₀.size:=by
   obtain ⟨L,e,hL,r⟩:=hc.runs;have:=r.len;rw [yz] at this;omega
  refine wpS_bind (wpS_mono (wpS_forRange (I:=fun x c st'=>c=(none,())/\Core kd rk a₀ a₀.size [] st'/\((pendingOf st').size<=1\/(pendingOf st').size+x<=a₀.size)) (Q:=fun c st'=>c=(none,())/\Core kd rk a₀ a₀.size [] st'/\(pendingOf st').size<=1) ?stepF ?finF ⟨rfl,hc,.inr (by omega)⟩) ?postF)
  case finF =>
   rintro c st2 ⟨rfl,h2,h3⟩;exact ⟨rfl,h2,by rcases h3 with h3 | h3<;>omega⟩
  case stepF =>
   rintro y c st2 _ hy ⟨rfl,h2,h3⟩;refine wpS_bind (wpS_get ?_);by_cases hs:(pendingOf st2).size<=1
   ·rw [yi hs]
    exact wpS_pure ⟨rfl,h2,hs⟩
   ·rw [yh hs]
    have hix:∀ (c:Prop) [Decidable c],(if c then (pendingOf st2).size - 2 - 1 else (pendingOf st2).size - 2)+1<(pendingOf st2).size:=fun c _=>by split<;>omega
    refine wpS_bind (J5J C hD h2 (hix _) fun st5 h5 h6=>?_);rw [yh (by simp)];exact wpS_pure ⟨rfl,h5,.inr (by omega)⟩
  case postF =>
   rintro c st2 ⟨rfl,h2,h3⟩;refine wpS_pure (h st2 h2.perm h2.failed ?_);obtain ⟨L,e,hL,r⟩:=h2.runs;rw [e,append_nil];have J06:(pendingOf st2).toList.length<=1:=by rw [yz];exact h3
   generalize (pendingOf st2).toList=ps at r J06
   match ps,r,J06 with
   | [],r,_=>cases (show L=[] from r);exact .nil
   | [p],⟨_,_,l,L',e2,_,u,r2⟩,_ =>
     cases (show L'=[] from r2);rw [e2,append_nil];exact u
   | _::_::_,_,J06=>simp at J06
end
theorem J3f {α:Type}{p q:α->Bool}:∀ {l:List α},(∀ z∈l,p z=true->q z=true)->l.countP p<=l.countP q
 | [],_=>yj _
 | x::l,h=>by
   have ih:=J3f (p:=p) (q:=q) (l:=l) fun z hz=>h z (yJ _ hz);rw [countP_cons,countP_cons];have hx:=h x yK;cases e:p x with
   | true=>rw [hx e];simp;exact ih
   | false=>simp;split<;>omega
theorem J4o {α:Type}{p q:α->Bool}{a:α}:∀ {l:List α},(∀ z∈l,p z=true->q z=true)->a∈l->q a=true->p a=false->l.countP p<l.countP q
 | x :: l,h,ha,h1,h2=>by
   have sub:∀ z∈l,p z=true->q z=true:=fun z hz=>h z (yJ _ hz);rw [countP_cons,countP_cons];rcases yL.mp ha with rfl | ha
   ·have:=J3f sub
    rw [h1,h2];simp;omega
   ·have ih:=J4o sub ha h1 h2
    have hx:=h x yK;cases e:p x with
    | true=>rw [hx e];simp;exact ih
    | false=>simp;split<;>omega
def J5b (O:KeyOrd)(l:List O.α)(x:O.α):Nat:=l.countP fun z=>O.blt z x
theorem J9c {O:KeyOrd}{l:List O.α}{a b:O.α}(ha:a∈l):decide (J5b O l a<J5b O l b)=O.blt a b:=by
 cases e:O.blt a b with
 | true=>exact ym (J4o (fun z _ hz=>O.trans z a b hz e) ha e (O.irrefl a))
 | false =>
   refine yo (Nat.not_lt.mpr (J3f fun z _ hz=>?_));rcases O.negTrans z a b hz with q | q
   ·exact q
   ·rw [e] at q;cases q
theorem Jcr {O:KeyOrd}{l:List O.α}{a b:O.α}(hb:b∈l)(h:J5b O l a<=J5b O l b):O.blt b a=false:=by
 rw [<- J9c (l:=l) hb];exact yo (by omega)
section
variable {prog:Program}{w:World}{A:Around}{E:Value->Shared->Prop}{s:Shared}{kd:SortKind}{D:Value->Prop}{rk:Value->Nat}
theorem J5Z {a:Addr}{vs:List Value}{n:Nat}{P:PySem.Fin->Shared->Prop}(C:∀ s',Cmp prog w A s' kd D rk)(hD:∀ v∈vs,D v)(ho:s.heap.get? a=some (seqObj "list" vs.toArray n))(hkk:2<=vs.length->keyKind' vs.toArray=pure kd)(J06:vs.length<=1000)
 (h:∀ st':SortSt,(arrOf st').Perm (pairsOf vs)->Up rk (arrOf st').toList->P (.done (.ret .none)) { s with heap:=sortedHeap s.heap a vs ((arrOf st').map (·.2)) }):wpAny (model prog w) A (Builtin.«list.sort» ⟨[.ref a],[]⟩) P E s:=by
 have room:vs.toArray.size<=sizeLine:=by rw [yE,sizeLine_eq];omega
 rw [list_sort_plain];have ha:a<s.heap.objs.size:=y7 ho;refine yf (listItems_at ho rfl (yf (listUpdate_at ho rfl ?_ room (by simp))));obtain ⟨e1,ho1⟩:∃ e1,(s.heap.update a (Obj.mapSeq fun _=>#[])).get? a=some (seqObj "list" #[] e1):=⟨_,get?_update_seq ho (fun _=>#[])⟩;refine yf (seqEpoch_at ho1 rfl (yf (wpAny_newTuple ?_ (hsz:=by simpa using room))));refine yf (wpAny_newList (wpAny_holding ?_));generalize hG:((s.heap.update a (Obj.mapSeq fun _=>#[])).push (seqObj "tuple" vs.toArray 0)).push (seqObj "list" #[] 0)=G;have ho6:G.get? a=some (seqObj "list" #[] e1):=by
  subst hG;exact y4 _ (y4 _ ho1)
 show wpAny (model prog w) A _ P E { s with heap:=G };by_cases h2:vs.toArray.size<2
 case' pos =>
  rw [yi h2,yi h2];refine yf (yg (yf ?_));rw [StateT.run_pure];refine yg ?_;have hf:failedOf (SortSt.mk' general' (vs.toArray.zip vs.toArray) #[] 7 none)=none:=rfl;have hp:(arrOf (SortSt.mk' general' (vs.toArray.zip vs.toArray) #[] 7 none)).Perm (pairsOf vs):=Array.Perm.refl _;have hu:Up rk (arrOf (SortSt.mk' general' (vs.toArray.zip vs.toArray) #[] 7 none)).toList:=by
   have hl:(vs.toArray.zip vs.toArray).toList.length<=1:=by simp at h2 ⊢;omega
   show Up rk (vs.toArray.zip vs.toArray).toList;generalize (vs.toArray.zip vs.toArray).toList=l at hl
   match l,hl with
   | [],_=>exact .nil
   | [x],_=>exact pairwise_singleton _ _
   | _::_::_,hl=>simp at hl
  generalize SortSt.mk' general' (vs.toArray.zip vs.toArray) #[] 7 none=st' at *
 case' neg =>
  rw [yh h2,yh h2,hkk (by simpa using h2)];refine yf (yg (yf (wpAny_mono (tim_sortRuns (C { s with heap:=G }) (a₀:=pairsOf vs) (st:=SortSt.mk' kd (vs.toArray.zip vs.toArray) #[] 7 none) (Q:=fun _ st'=>failedOf st'=none/\(arrOf st').Perm (pairsOf vs)/\Up rk (arrOf st').toList) (fun p hp=>?_) rfl rfl (Array.Perm.refl _) rfl fun st' a1 a2 a3=>⟨a2,a1,a3⟩) ?_ fun _ _ e=>e)))
  case refine_1 =>
   refine hD _ ?_;unfold pairsOf at hp;simp at hp;exact (of_mem_zip hp).1
  rintro ⟨⟨⟩,st'⟩ s' ⟨rfl,hf,hp,hu⟩
 all_goals
  have hz:((arrOf st').map (·.2)).size<=sizeLine+1:=by
   rw [Array.size_map,hp.size_eq,pairsOf_size,sizeLine_eq];omega
  refine yf (seqEpoch_at ho6 rfl (yf (listUpdate_at ho6 rfl ?_ (by simp) hz)));dsimp only;rw [hf];simp only [bne_self_eq_false,Bool.false_eq_true,if_false];have q:=h st' hp hu;unfold sortedHeap at q;rw [hG] at q;exact yg q
end
def J79:KeyOrd where
 α:=Int
 blt:=fun a b=>decide (a<b)
 irrefl:=fun a=>by simp
 trans:=fun a b c h1 h2=>by simp only [decide_eq_true_eq] at *;omega
 negTrans:=fun a b c h=>by simp only [decide_eq_true_eq] at *;omega
 total:=fun a b h1 h2=>by simp only [decide_eq_false_iff_not] at *;omega
def rkI (ns:List Int):Value->Nat
 | .int i _=>J5b J79 ns i
 | _=>0
def DI (ns:List Int)(v:Value):Prop:=∃ i t,v=.int i t/\i∈ns
theorem J2J:∀ {us:List Value} {ns:List Int},IntsAre us ns->∀ u∈us,DI ns u
 | _,_,.nil,u,hu=>nomatch hu
 | _,_,.cons i t r,u,hu=>by
   rcases yL.mp hu with rfl | hu
   ·exact ⟨i,t,rfl,yK⟩
   ·obtain ⟨j,q,e,hj⟩:=J2J r u hu
    exact ⟨j,q,e,yJ _ hj⟩
theorem J9t:∀ (us:List Value),(∀ u∈us,∃ i t,u=Value.int i t)->IntsAre us (us.map numOf)
 | [],_=>.nil
 | u::us,h=>by
   obtain ⟨i,t,rfl⟩:=h u yK;exact .cons i t (J9t us fun v hv=>h v (yJ _ hv))
section
variable {prog:Program}{w:World}{A:Around}{E:Value->Shared->Prop}{s:Shared}
theorem JeN (ns:List Int):Cmp prog w A s oneType' (DI ns) (rkI ns):=by
 rintro E x y Q ⟨i,t,rfl,hi⟩ ⟨j,u,rfl,hj⟩ h;rw [keyLt'_oneType];refine oneLt_int ?_;have e:decide (rkI ns (.int i t)<rkI ns (.int j u))=decide (i<j):=J9c (O:=J79) hi;rw [<- e];exact h
theorem list_sort_int {a:Addr}{vs:List Value}{ns:List Int}{n:Nat}{P:PySem.Fin->Shared->Prop}(ho:s.heap.get? a=some (seqObj "list" vs.toArray n))(hI:IntsAre vs ns)(J06:vs.length<=1000)
 (h:∀ (out:Array Value) (ns':List Int),IntsAre out.toList ns'->ns'.Perm ns->ns'.Pairwise (·<=·)->P (.done (.ret .none)) { s with heap:=sortedHeap s.heap a vs out }):wpAny (model prog w) A (Builtin.«list.sort» ⟨[.ref a],[]⟩) P E s:=by
 refine J5Z (fun s'=>JeN ns) (J2J hI) ho (fun h2=>?_) J06 fun st' hp hu=>?_
 ·match vs,hI,h2 with
  | [],_,h2=>simp at h2
  | [_],_,h2=>simp at h2
  | v₁::v₂::rest,hI,_=>exact keyKind_ints hI
 ·have hl:(arrOf st').toList.Perm (vs.zip vs):=by
   have:=Array.perm_iff_toList_perm.mp hp;unfold pairsOf at this;simpa using this
  have mem:∀ p∈(arrOf st').toList,p.1=p.2/\p.1∈vs:=fun p hp'=>by
   have q:=hl.mem_iff.mp hp';have zz:∀ (l:List Value) (p:Value×Value),p∈l.zip l->p.1=p.2:=fun l=>by
    induction l with
    | nil=>intro p hp;simp at hp
    | cons x l ih =>
      intro p hp;rw [zip_cons_cons] at hp;rcases yL.mp hp with rfl | hp
      ·rfl
      ·exact ih p hp
   exact ⟨zz _ p q,(of_mem_zip q).1⟩
  have el:((arrOf st').map (·.2)).toList=(arrOf st').toList.map (·.2):=by simp
  refine h _ (((arrOf st').toList.map (·.2)).map numOf) ?_ ?_ ?_
  ·rw [el]
   refine J9t _ fun u hu'=>?_;obtain ⟨p,hp',rfl⟩:=yU.mp hu';obtain ⟨e,hm⟩:=mem p hp';obtain ⟨i,t,e2,_⟩:=J2J hI p.1 hm;exact ⟨i,t,e ▸ e2⟩
  ·have q:=(hl.map (·.2)).map numOf
   have e2:(vs.zip vs).map (·.2)=vs:=map_snd_zip (yj _);rw [e2,hI.nums] at q;exact q
  ·rw [pairwise_map,pairwise_map]
   refine List.Pairwise.imp_of_mem (fun {x y} hx hy hxy=>?_) hu;obtain ⟨ex,mx⟩:=mem x hx;obtain ⟨ey,my⟩:=mem y hy;obtain ⟨i,t,e1,hi⟩:=J2J hI x.1 mx;obtain ⟨j,u,e2,hj⟩:=J2J hI y.1 my;rw [e1,e2] at hxy;rw [<- ex,<- ey,e1,e2];have:=Jcr (O:=J79) (l:=ns) hj hxy;simp only [J79,decide_eq_false_iff_not] at this;show i<=j;omega
end
end L2
namespace L2
open PySem PySem.Spec PyProof.Rows
section
variable {prog:Program}{w:World}{A:Around}{E:Value->Shared->Prop}{s:Shared}{T:String}{r d:Addr}{n:Nat}{P:Nat->Value->Prop}{OK:Heap->Prop}
theorem J7s {ns:List Int}{Q:Value->Shared->Prop}(K:PySem.W.KdlSrc prog w T r d n P OK)(hh:A.handled=none)(hok:OK s.heap)(hn:n<=1000)(hI:∀ acc:Array Value,ItemsOf P acc n->IntsAre acc.toList ns)
 (hQ:∀ h' tk p vs' ns' e,(∀ b o,s.heap.get? b=some o->h'.get? b=some o)->s.heap.objs.size<=p->h'.get? p=some (seqObj "list" vs' e)->IntsAre vs'.toList ns'->ns'.Perm ns->ns'.Pairwise (·<=·)->Q (.ref p) { s with heap:=h',toks:=tk }) :
 wpAny (model prog w) A (call (.builtin "sorted") [.ref r]) Q E s:=by
 refine Calls.call_function_entry kind_sorted plain_sorted entry_sorted (args_sorted1 _) ?_;unfold Builtin.«sorted»;refine yf (m:=checkCount "sorted" 1 1 _) (yg ?_);refine yf (J85 K hh hok (by rw [sizeLine_eq];omega) fun h1 tk acc hk hsz hacc=>?_);refine yf (wpAny_newList ?_ (hsz:=by rw [yz,hacc.1,sizeLine_eq];omega));have hoL:(h1.push (seqObj "list" acc.toList.toArray 0)).get? h1.objs.size=some (seqObj "list" acc.toList.toArray 0):=y6 _ rfl;show wpAny _ _ _ _ _ { s with heap:=h1.push (seqObj "list" acc.toList.toArray 0),toks:=tk };refine yf (wpAny_holding (wpAny_call_entry slot_list_sort ⟨_,hoL,rfl⟩ entry_list_sort (list_sort_int hoL (hI acc hacc) (by rw [yz,hacc.1];exact hn) fun out ns' a1 a2 a3=>⟨_,rfl,?_⟩) (args_list_sort _)));obtain ⟨e,he⟩:=sortedHeap_at (out:=out) hoL;exact yg ⟨_,rfl,hQ _ tk h1.objs.size out ns' e (fun b o eb=>by
  rw [sortedHeap_old (yr (y7 (hk b o eb))) (by rw [size_push'];exact Nat.lt_succ_of_lt (y7 (hk b o eb)))];exact y4 _ (hk b o eb)) (Nat.le_of_lt hsz) he a1 a2 a3⟩
end
section
variable {X:Cx}
def J6U:List V->Hp->VK->Prop:=fun xs H Q=>∃ d kvs,∃ ks:List Int,xs=[.ref d]/\H d=some (.dK kvs)/\kvs.map (·.1)=ks.map Sum.inl/\kvs.length<=1000 /\
 ∀ p,∀ ms:List Int,H p=none->ms.Perm ks->ms.Pairwise (·<=·)->Q (.ref p) (upd H p (.lst (ms.map V.int)))
theorem J61 (hc:X.calm=true):J0I X (.builtin "sorted") J6U:=by
 intro pins s σ H xs us Q I r h;obtain ⟨d,kvs,ks,rfl,hH,hk,h64,q⟩:=h;obtain ⟨u,rfl,ru⟩:=J2r r;cases ru;obtain ⟨z,hd,vs,rel,dd⟩:=JbP I.hok hH;have J06:=rel.length;obtain ⟨o,es,ep,ho,hx,hdat,hkn,hp,hnd⟩:=id dd;have hkl:ks.length=kvs.length:=by have:=congrArg List.length hk;simpa using this.symm
 have hm:s.heap.DictAt (J0s X.prog X.w) d vs ep:=⟨o,es,ho,hx,hdat,hkn,hp,hnd⟩;refine J7s (ns:=ks) (PySem.W.kdl_dict (kvs:=vs) (ep:=ep) hd) (I.ok.hd hc) hm (by omega) (fun acc hacc=>?_) (fun h' tk p vs' ns' e hkp hpz hpe hi hperm hsort=>?_)
 ·refine J2f (by rw [yz,hacc.1];omega) fun i v k hv hki=>?_
  obtain ⟨k',x,hx',hy'⟩:=hacc.2 i v (by rw [<- Array.getElem?_toList];exact hv);have e1:vs.map (·.1)=ks.map Sum.inl:=by rw [<- hk];exact rel.keys.symm
  have e2:(vs.map (·.1))[i]?=some k':=by rw [yN,hx'];rfl
  rw [e1,yN,hki] at e2;cases e2;exact Jag hy'
 ·have hv:=J13 hi
  refine ⟨.ref p,upd H p (.lst (ns'.map V.int)),I.laid (t':=tk) hkp hpz (show ObjOk X.prog X.w _ h' _ (.lst (ns'.map V.int)) from ⟨by rw [yC,hperm.length_eq,sizeLine_eq];omega,vs'.toList,e,hv,hpe⟩),rfl,q p ns' (I.hok.fresh hpz) hperm hsort⟩
end
section
variable {prog:Program}{w:World}{A:Around}{E:Value->Shared->Prop}{s:Shared}{a:Addr}{ks:List Int}
theorem J7t {Q:Value->Shared->Prop}(hh:A.handled=none)(hS0:J3T prog w s.heap a ks)(hz:ks.length<=1000)
 (hQ:∀ h' tk d' p vs' ms e,(∀ b o,s.heap.get? b=some o->h'.get? b=some o)->s.heap.objs.size<=p->h'.get? p=some (seqObj "list" vs' e)->IntsAre vs'.toList ms->ms.Nodup->(∀ k,k∈ms↔k∈ks)->ms.length<=ks.length->ms.Pairwise (·<=·)->Q (.ref p) { s with heap:=h',toks:=tk,drawn:=d' }) :
 wpAny (model prog w) A (call (.builtin "sorted") [.ref a]) Q E s:=by
 refine Calls.call_function_entry kind_sorted plain_sorted entry_sorted (args_sorted1 _) ?_;unfold Builtin.«sorted»;refine yf (m:=checkCount "sorted" 1 1 _) (yg ?_);refine yf (J86 hh hS0 (by rw [sizeLine_eq];omega) fun h1 tk d1 vs ms hk hsz hi hnd hmem hle=>?_);have hvl:vs.length=ms.length:=hi.length;refine yf (wpAny_newList ?_ (hsz:=by rw [sizeLine_eq];omega));have hoL:(h1.push (seqObj "list" vs.toArray 0)).get? h1.objs.size=some (seqObj "list" vs.toArray 0):=y6 _ rfl;show wpAny _ _ _ _ _ { s with heap:=h1.push (seqObj "list" vs.toArray 0),toks:=tk,drawn:=d1 };refine yf (wpAny_holding (wpAny_call_entry slot_list_sort ⟨_,hoL,rfl⟩ entry_list_sort (list_sort_int hoL hi (by omega) fun out ns' a1 a2 a3=>⟨_,rfl,?_⟩) (args_list_sort _)));obtain ⟨e,he⟩:=sortedHeap_at (out:=out) hoL;exact yg ⟨_,rfl,hQ _ tk d1 h1.objs.size out ns' e (fun b o eb=>by
  rw [sortedHeap_old (yr (y7 (hk b o eb))) (by rw [size_push'];exact Nat.lt_succ_of_lt (y7 (hk b o eb)))];exact y4 _ (hk b o eb)) (Nat.le_of_lt hsz) he a1 (a2.nodup_iff.mpr hnd) (fun k=>a2.mem_iff.trans (hmem k)) (by rw [a2.length_eq];exact hle) a3⟩
end
section
variable {X:Cx}{K:Frag}{e:Expr}{te:TE}{p1 p2 q1 q2:Pos}{pins:List (Addr×Obj)}{σ:St}{H:Hp}{s:Shared}
def J67 (K:Frag)(te:TE):TE:=fun σ H Q=>te σ H fun x H1=>∃ l,∃ zs:List Int,x=.ref l/\SqL K H1 l (zs.map V.int)/\zs.length<=1000 /\
 ∀ D,∀ ms:List Int,H1 D=none->ms.Pairwise (·<·)->(∀ k,k∈ms↔k∈zs)->ms.length<=zs.length->Q (.ref D) (upd H1 D (.lst (ms.map V.int)))
theorem J7C (ek:X.K=K)(hc:X.calm=true)(hm1:X.mg "sorted"=none)(hm2:X.mg "set"=none)(hg1:Gl X "sorted")(hg2:Gl X "set")(hs:JS e=true)(he:PE X e te):PE X (.Call (.Name "sorted" p1) [.Call (.Name "set" p2) [e] [] q2] [] q1) (J67 K te):=by
 subst ek;intro pins s σ H Q I h;refine wpAny_Call_Name_kw (J1L I hg1 hm1 J7g ?_ (by decide) (by decide));refine PyProof.Rows.callWith_builtin1 ?_ (J02 rfl) (J1e rfl);rw [J02 (e:=.Call (.Name "set" p2) [e] [] q2) (es:=[]) rfl];refine Calls.spliced_cons (wpAny_Call_Name_kw (J1L I hg2 hm2 Je2 ?_ (by decide) (by decide)));refine PyProof.Rows.callWith_type1 ?_ (J02 hs) (J1e rfl);rw [J02 (e:=e) (es:=[]) hs];refine Calls.spliced_cons (thn (he pins s σ H _ I h) fun u s1 ⟨x,H1,I1,r1,q1⟩=>Calls.spliced_nil ?_);obtain ⟨l,zs,rfl,hq,hz64,q⟩:=q1;cases r1;obtain ⟨its,r,pl,hz⟩:=I1.list hq;have hi:IntsAre its zs:=by
  refine J2f (by rw [<- r.length,yC]) fun i v k hv hk=>?_;obtain ⟨u,hu,ru⟩:=r.get (i:=i) (x:=V.int k) (by rw [yN,hk];rfl);rw [hv] at hu;cases hu;exact ru
 refine Jcn (I1.ok.hd hc) pl.isList hi (by unfold scanBound;omega) fun h' tk hS hk=>Calls.spliced_nil ?_;refine J7t (s:={ s1 with heap:=h',toks:=tk }) (I1.ok.hd hc) hS hz64 fun h2 tk2 d2 p vs' ms e hk2 hpz hpe hi' hnd hmem hle hso=>?_;have hsz:s1.heap.objs.size<=h'.objs.size:=by
  obtain ⟨o,_,_,_,ho,_⟩:=hS;exact Nat.le_of_lt (y7 ho)
 have hp1:s1.heap.objs.size<=p:=yx hsz hpz;refine ⟨.ref p,upd H1 p (.lst (ms.map V.int)),(I1.drw d2).laid (t':=tk2) (fun b o eb=>hk2 b o (hk b o eb)) hp1 (show ObjOk X.prog X.w _ h2 _ (.lst (ms.map V.int)) from ⟨by rw [yC,sizeLine_eq];omega,vs'.toList,e,J13 hi',hpe⟩),rfl,q p ms (I1.hok.fresh hp1) (J9S hso hnd) hmem hle⟩
end
theorem J6s {K:Frag}{a:Addr}{xs:List V}{g:TG}{tt:TT}{te:TE}{fin:List V->Hp->Prop}{σ:St}{H:Hp}(hz:xs.length<=sizeLine)(Pv:Nat->List V->St->Hp->Prop)(h0:Pv 0 [] σ H)(hl:∀ i zs σ H,Pv i zs σ H->SqL K H a xs/\zs.length<=i)
 (hs:∀ (i:Nat) x zs σ H p,xs[i]?=some x->Pv i zs σ H->H p=none->g (.ref p) σ (upd H p (.tup [.int i,x])) fun σ2 H2=>tt σ2 H2 fun b H3=>if b=true then te σ2 H3 fun y H4=>Pv (i+1) (zs++[y]) σ2 H4 else Pv (i+1) zs σ2 H3)
 (hd:∀ zs σ H,Pv xs.length zs σ H->fin zs H):J4r (Ite K a) g tt te fin σ H:=by
 refine ⟨fun i m zs σ H=>m=xs.length - i/\i<=xs.length/\Pv i zs σ H,⟨_,rfl,yw _,h0⟩,?_⟩;rintro i m zs σ H ⟨rfl,hi,p⟩;obtain ⟨sa,hy⟩:=hl i zs σ H p;by_cases e:i=xs.length
 ·subst e
  exact .inl ⟨⟨xs,sa,yj _⟩,hd zs σ H p⟩
 ·have lt:i<xs.length:=Nat.lt_of_le_of_ne hi e
  refine .inr ⟨⟨xs,xs[i],sa,yA lt⟩,by omega,Pv (i+1),fun zs' σ' H' z=>⟨xs.length - (i+1),by omega,rfl,lt,z⟩,fun v H' hv=>?_⟩;obtain ⟨q,x',hq,rfl,hx,rfl⟩:=hv;exact hs i x' zs σ H q (hx xs sa) p hq
abbrev JJ:=J0A ⊕ List J0A
section
variable {prog:Program}{w:World}
inductive MItem (prog:Program)(w:World)(h:Heap):JJ->Value->Prop
 | one {k:J0A} {v:Value}:(J0c prog w).is k v=true->MItem prog w h (.inl k) v
 | flat {ks:List J0A} {b:Addr}:IsTupleKey (J0c prog w) h ks b->MItem prog w h (.inr ks) (.ref b)
theorem MItem.inj {h:Heap}{x y:JJ}{v:Value}(a:MItem prog w h x v)(b:MItem prog w h y v):x=y:=by
 cases a with
 | one e1 =>
   cases b with
   | one e2=>rw [(J0c prog w).inj _ _ _ e1 e2]
   | flat e2=>exact absurd ((J0c prog w).byValue _ _ e1) (by simp [carriedByValue])
 | flat e1 =>
   cases b with
   | one e2=>exact absurd ((J0c prog w).byValue _ _ e2) (by simp [carriedByValue])
   | flat e2=>rw [e1.inj e2]
theorem MItem.keeps {h h':Heap}{d:Addr}{o:Obj}{es ep}(ho:h.get? d=some o)(hd:o.data=.dict es ep)(hs:Heap.SameBut d h h'){x:JJ}{v:Value}(a:MItem prog w h x v):MItem prog w h' x v:=by
 cases a with
 | one e=>exact .one e
 | flat e=>exact .flat (e.keeps ho hd hs)
def J7M (prog:Program)(w:World):JJ->Int
 | .inl k=>(J0c prog w).hash k
 | .inr ks=>tupleKeyHash (J0c prog w) ks
def mDr:JJ->Nat
 | .inl _=>1
 | .inr ks=>ks.length+1
theorem MItem.hash {A:Around}{E:Value->Shared->Prop}{s:Shared}{h:Heap}{x:JJ}{v:Value}{Q:Int->Shared->Prop}(hu:A.units<cLine)(e:h=s.heap)(a:MItem prog w h x v)(q:Q (J7M prog w x) { s with toks:=s.toks+mDr x }):wpAny (model prog w) A (pyHash v) Q E s:=by
 subst e;cases a with
 | one e=>exact (J0c prog w).pyHash e q
 | flat e=>exact wpAny_pyHash_tuple hu e q
theorem J4T {s:Shared}{ks:List J0A}{b:Addr}(h:IsTupleKey (J0c prog w) s.heap ks b):∃ its,s.heap.IsTuple b its:=by
 obtain ⟨o,its,n,e,c,d,_⟩:=h;exact ⟨its,o,e,c,n,d⟩
theorem MItem.eq {A:Around}{E:Value->Shared->Prop}{s:Shared}{x y:JJ}{u v:Value}{Q:Bool->Shared->Prop}(hu:A.units<cLine)(a:MItem prog w s.heap x u)(b:MItem prog w s.heap y v)(q:Q (decide (x=y)) s):wpAny (model prog w) A (eqBool u v) Q E s:=by
 cases a with
 | @one k _ e1 =>
   cases b with
   | one e2=>exact (J0c prog w).eqBool e1 e2 (by simpa using q)
   | flat e2 =>
     have q':Q false s:=by simpa using q
     obtain ⟨its,ht⟩:=J4T e2;rcases J0u e1 with ⟨rfl,rfl⟩ | ⟨k',rfl,hq⟩
     ·exact SeqAt.EqAt.none_tuple ht hu _ _ _ _ q'
     ·rcases JM hq with ⟨i,t,rfl,rfl⟩ | ⟨z,t,rfl,rfl⟩
      ·exact SeqAt.EqAt.int_tuple i t ht hu _ _ _ _ q'
      ·exact SeqAt.EqAt.str_tuple z t ht hu _ _ _ _ q'
 | flat e1 =>
   cases b with
   | @one k _ e2 =>
     have q':Q false s:=by simpa using q
     obtain ⟨its,ht⟩:=J4T e1;rcases J0u e2 with ⟨rfl,rfl⟩ | ⟨k',rfl,hq⟩
     ·exact SeqAt.EqAt.tuple_none ht hu _ _ _ _ q'
     ·rcases JM hq with ⟨i,t,rfl,rfl⟩ | ⟨z,t,rfl,rfl⟩
      ·exact SeqAt.EqAt.tuple_int i t ht hu _ _ _ _ q'
      ·exact SeqAt.EqAt.tuple_str z t ht hu _ _ _ _ q'
   | flat e2=>exact wpAny_eqBool_tuple hu e1 e2 (by simpa using q)
inductive ItemsT (prog:Program)(w:World)(h:Heap):List JJ->List Value->Prop
 | nil:ItemsT prog w h [] []
 | cons {k:JJ} {v:Value} {ks:List JJ} {vs:List Value}:MItem prog w h k v->ItemsT prog w h ks vs->ItemsT prog w h (k::ks) (v::vs)
def IsNest (prog:Program)(w:World)(h:Heap)(ks:List JJ)(a:Addr):Prop:=∃ ob its m,h.get? a=some ob/\ob.cls=.type "tuple"/\ob.data=.seq its m/\ItemsT prog w h ks its.toList
theorem ItemsT.inj {h:Heap}{x y:List JJ}{vs:List Value}(hx:ItemsT prog w h x vs)(hy:ItemsT prog w h y vs):x=y:=by
 induction hx generalizing y with
 | nil=>cases hy;rfl
 | cons k1 _ ih =>
   cases hy with
   | cons k2 t2=>rw [k1.inj k2,ih t2]
theorem IsNest.ty {s:Shared}{kss:List JJ}{a:Addr}(x:IsNest prog w s.heap kss a):s.TypeIs (.ref a) "tuple":=by
 obtain ⟨ob,_,_,e,c,_⟩:=x;exact ⟨ob,e,c⟩
theorem IsNest.inj {h:Heap}{a:Addr}{x y:List JJ}(hx:IsNest prog w h x a)(hy:IsNest prog w h y a):x=y:=by
 obtain ⟨o1,i1,m1,e1,_,d1,t1⟩:=hx;obtain ⟨o2,i2,m2,e2,_,d2,t2⟩:=hy;rw [e1] at e2;cases e2;rw [d1] at d2;cases d2;exact t1.inj t2
theorem ItemsT.keeps {h h':Heap}{d:Addr}{o:Obj}{es ep}(ho:h.get? d=some o)(hd:o.data=.dict es ep)(hs:Heap.SameBut d h h'){kss:List JJ}{vs:List Value}(x:ItemsT prog w h kss vs):ItemsT prog w h' kss vs:=by
 induction x with
 | nil=>exact .nil
 | cons k _ ih=>exact .cons (k.keeps ho hd hs) ih
theorem IsNest.keeps {h h':Heap}{kss:List JJ}{a d:Addr}{o:Obj}{es ep}(x:IsNest prog w h kss a)(ho:h.get? d=some o)(hd:o.data=.dict es ep)(hs:Heap.SameBut d h h'):IsNest prog w h' kss a:=by
 obtain ⟨ob,its,m,e,c,dd,t⟩:=x;have ne:a≠d:=fun z=>by
  subst z;rw [e] at ho;cases ho;rw [dd] at hd;cases hd
 exact ⟨ob,its,m,(hs.2 a ne).trans e,c,dd,t.keeps ho hd hs⟩
def J5r (prog:Program)(w:World)(kss:List JJ):Int:=reduceHash (Builtin.Tuple.tupleHashOf (kss.map (J7M prog w)))
def J1B:List JJ->Nat
 | []=>0
 | ks::kss=>J1B kss+mDr ks
theorem J7G (kss:List JJ)(ks:JJ):J1B (kss++[ks])=J1B kss+mDr ks:=by
 induction kss with
 | nil=>simp [J1B]
 | cons a t ih=>simp only [cons_append,J1B,ih];omega
variable {A:Around}{E:Value->Shared->Prop}{s:Shared}
theorem hash_nest {kss:List JJ}{a:Addr}{Q:Int->Shared->Prop}(hu:A.units+1<cLine)(hk:IsNest prog w s.heap kss a)(h:Q (J5r prog w kss) { s with toks:=s.toks+(J1B kss+1) }):wpAny (model prog w) A (pyHash (.ref a)) Q E s:=by
 have hT:=hk.ty;obtain ⟨ob,its,m,e,_,dd,t⟩:=hk;refine PySem.W.pyHash_slot (T:="tuple") hT F.slot_tuple_hash F.entry_tuple_hash (F.args_tuple_hash_1 _) (beq_builtin_none _) (.inr (by omega)) ?_;show wpAny _ _ (Builtin.Tuple.tupleItemsOf (.ref a) >>= _) _ _ s;refine yf (wpAny_tupleItemsOf e dd (yf ?_));rw [<- Array.forIn_toList];refine wpAny_forIn_list _ (fun rest (b:Array Int) s'=>∃ p q,kss=p++q/\ItemsT prog w s.heap q rest/\b.toList=p.map (J7M prog w)/\s'={ s with toks:=s.toks+J1B p }) _ ?_ ?_ _ _ ⟨[],kss,rfl,t,rfl,rfl⟩
 ·rintro x rest b s' ⟨p,q,rfl,tq,hb,rfl⟩
  cases tq with
  | @cons ks c kss' vs k1 tq' =>
    refine yf (k1.hash (A:=A.in1) (s:={ s with toks:=s.toks+J1B p }) hu rfl ?_);have fin:∃ p' q',p++ks::kss'=p'++q'/\ItemsT prog w s.heap q' rest/\(b.push (J7M prog w ks)).toList=p'.map (J7M prog w)/\({ s with toks:=s.toks+J1B p+mDr ks }:Shared)={ s with toks:=s.toks+J1B p' } :=
     ⟨p++[ks],kss',by simp,tq',by simp [hb],by rw [J7G,Nat.add_assoc]⟩
    first
     | exact yg fin
     | exact yf (yg (yg fin))
 ·rintro b s' ⟨p,q,rfl,tq,hb,rfl⟩
  cases tq;rw [append_nil] at h;show wpAny _ _ (retInt (Builtin.Tuple.tupleHashOf b.toList)) _ _ _;rw [hb];exact yf (wpAny_mkInt (yg ⟨_,_,rfl,by simpa [J5r,Nat.add_assoc] using h⟩))
theorem nest_eq_tree {x y:List JJ}{a b:Addr}{P:Fin->Shared->Prop}(hu:A.units<cLine)(hx:IsNest prog w s.heap x a)(hy:IsNest prog w s.heap y b)(h:P (.done (.ret (.bool (decide (x=y))))) s) :
 wpAny (model prog w) A (Builtin.«tuple.__eq__» ⟨[.ref a,.ref b],[]⟩) P E s:=by
 have tb:=hy.ty;obtain ⟨oa,ia,na,ea,_,da,ta⟩:=hx;obtain ⟨ob,ib,nb,eb,_,db,tq⟩:=hy;show wpAny _ _ (isInstance (.ref b) (.type "tuple") >>= _) _ _ s;refine yf (wpAny_isInstance tb isSubtype_tuple_tuple ?_);simp only [Bool.not_true,Bool.false_eq_true,if_false];refine yf (wpAny_tupleItemsOf ea da (yf (wpAny_tupleItemsOf eb db (yf ?_))));refine wpAny_forIn_list _ (fun rest r s'=>r.1=none/\s'=s/\∃ p q u v,rest=List.zip u v/\ItemsT prog w s.heap p u/\ItemsT prog w s.heap q v/\decide (p=q)=decide (x=y)/\(u.length == v.length)=(ia.size == ib.size)) _ ?_ ?_ _ _ ⟨rfl,rfl,x,y,ia.toList,ib.toList,rfl,ta,tq,rfl,by simp⟩
 ·rintro ⟨u1,v1⟩ rest r s' ⟨hr,rfl,p,q,u,v,hz,hp,hq,hde,hln⟩
  cases hp with
  | nil=>simp at hz
  | @cons k1 c1 p' u' g1 hp' =>
    cases hq with
    | nil=>simp at hz
    | @cons k2 c2 q' v' g2 hq' =>
      simp only [zip_cons_cons,List.cons.injEq,Prod.mk.injEq] at hz;obtain ⟨⟨rfl,rfl⟩,rfl⟩:=hz;refine yf (g1.eq hu g2 ?_);by_cases ek:k1=k2
      ·subst ek
       rw [ym rfl];simp only [Bool.not_true,Bool.false_eq_true,if_false];refine yg ⟨rfl,rfl,p',q',u',v',rfl,hp',hq',?_,by simpa using hln⟩;rw [<- hde];simp
      ·rw [yo ek]
       simp only [Bool.not_false,if_true];have ef:decide (x=y)=false:=by rw [<- hde];simp [ek]
       rw [ef] at h;exact yf (yg (yg (yg h)))
 ·rintro ⟨r1,r2⟩ s' ⟨hr,rfl,p,q,u,v,hz,hp,hq,hde,hln⟩
  simp only at hr;subst hr;have ef:(ia.size == ib.size)=decide (x=y):=by
   rw [<- hde,<- hln];cases hp with
   | nil =>
     cases hq with
     | nil=>simp
     | cons _ _=>simp
   | cons _ _ =>
     cases hq with
     | nil=>simp
     | cons _ _=>simp at hz
  refine yg ?_;show P (.done (.ret (.bool (ia.size == ib.size)))) s';rw [ef];exact h
theorem JcT {x y:List JJ}{a b:Addr}{Q:Bool->Shared->Prop}(hu:A.units+1<cLine)(hx:IsNest prog w s.heap x a)(hy:IsNest prog w s.heap y b)(h:Q (decide (x=y)) s):wpAny (model prog w) A (eqBool (.ref a) (.ref b)) Q E s:=by
 unfold eqBool
 try with_reducible refine wpAny_holding ?_
 by_cases c:a=b
 ·subst c
  obtain rfl:=hx.inj hy;show wpAny _ _ (if (Value.ref a == Value.ref a)=true then _ else _) Q E s;rw [yi (by simp)];exact yf (wpAny_rule (yg (by simpa using h)))
 ·show wpAny _ _ (if (Value.ref a == Value.ref b)=true then _ else _) Q E s
  rw [yh (fun z=>c (by have e:=eq_of_beq z;cases e;rfl))];exact yf (wpAny_richCompare_same_room (op:=.Eq) hx.ty hy.ty F.slot_tuple_eq (wpAny_call_entry F.slot_tuple_eq hx.ty F.entry_tuple_eq (nest_eq_tree (A:=A.in1) hu hx hy ⟨_,rfl,(fun z=>nomatch z),wpAny_truthy_bool h⟩) (F.args_tuple_eq_2 _ _)) (by omega))
theorem J8t {n:Nat}{ks:List J0A}{a:Addr}{Q:Bool->Shared->Prop}(hk:IsTupleKey (J0c prog w) s.heap ks a)(h:Q true s):wpAny (model prog w) A (eqIsQuiet (n+1) (.ref a)) Q E s:=by
 have hT:=hk.typeIs;obtain ⟨ob,its,m,e,_,dd,t⟩:=hk;unfold eqIsQuiet;refine yf (wpAny_specialOf hT F.slot_tuple_eq.lookup ?_);show wpAny _ _ (isInstance (.ref a) (.type "tuple") >>= _) _ _ s;refine yf (wpAny_isInstance hT isSubtype_tuple_tuple ?_);simp only [Bool.not_true,Bool.false_eq_true,if_false];refine yf (wpAny_seqItems e dd (yf ?_));show wpAny _ _ (forIn its _ _) _ _ s;rw [<- Array.forIn_toList];refine wpAny_forIn_list _ (fun rest r s'=>r.1=none/\s'=s/\∀ v∈rest,carriedByValue v=true) _ ?_ ?_ _ _ ⟨rfl,rfl,t.byValue⟩
 ·rintro v rest r s' ⟨hr,rfl,al⟩
  rw [eqIsQuiet_byValue _ (al v yK)];refine yf (yg ?_);simp only [Bool.not_true,Bool.false_eq_true,if_false];exact yg ⟨rfl,rfl,fun u hm=>al u (yJ _ hm)⟩
 ·rintro ⟨r1,r2⟩ s' ⟨hr,rfl,_⟩
  simp only at hr;subst hr;exact yg h
theorem quiet_nest {kss:List JJ}{a:Addr}{Q:Bool->Shared->Prop}(hk:IsNest prog w s.heap kss a)(h:Q true s):wpAny (model prog w) A (eqIsQuiet 8 (.ref a)) Q E s:=by
 have hT:=hk.ty;obtain ⟨ob,its,m,e,_,dd,t⟩:=hk;unfold eqIsQuiet;refine yf (wpAny_specialOf hT F.slot_tuple_eq.lookup ?_);show wpAny _ _ (isInstance (.ref a) (.type "tuple") >>= _) _ _ s;refine yf (wpAny_isInstance hT isSubtype_tuple_tuple ?_);simp only [Bool.not_true,Bool.false_eq_true,if_false];refine yf (wpAny_seqItems e dd (yf ?_));show wpAny _ _ (forIn its _ _) _ _ s;rw [<- Array.forIn_toList];refine wpAny_forIn_list _ (fun rest r s'=>r.1=none/\s'=s/\∃ q,ItemsT prog w s.heap q rest) _ ?_ ?_ _ _ ⟨rfl,rfl,kss,t⟩
 ·rintro v rest r s' ⟨hr,rfl,q,tq⟩
  cases tq with
  | cons k1 tq' =>
    cases k1 with
    | one e1 =>
      rw [eqIsQuiet_byValue _ ((J0c prog w).byValue _ _ e1)];refine yf (yg ?_);simp only [Bool.not_true,Bool.false_eq_true,if_false];exact yg ⟨rfl,rfl,_,tq'⟩
    | flat e1 =>
      refine yf (J8t (n:=6) e1 ?_);simp only [Bool.not_true,Bool.false_eq_true,if_false];exact yg ⟨rfl,rfl,_,tq'⟩
 ·rintro ⟨r1,r2⟩ s' ⟨hr,rfl,_⟩
  simp only at hr;subst hr;exact yg h
end
def J1U (prog:Program)(w:World):HeapKind prog w (List JJ) where
 is:=IsNest prog w
 hash:=J5r prog w
 draws:=fun kss=>J1B kss+1
 room:=fun A=>A.units+1<cLine
 inj:=fun a b=>a.inj b
 keeps:=fun x a b c=>x.keeps a b c
 pyHash:=fun a b c=>hash_nest a b c
 eqBool:=fun a b c d=>JcT a b c d
 quiet:=fun a b=>quiet_nest a b
section
variable {prog:Program}{w:World}{K:Type}[DecidableEq K]{knd:HeapKind prog w K}{A:Around}{E:Value->Shared->Prop}{s:Shared}
theorem setdef_heap {d a:Addr}{xs:List (K×Addr×Value)}{k:K}{v:Value}{Q:Value->Shared->Prop}(hu:knd.room A)(hk:knd.is s.heap k a)(hm:s.heap.DictOfH knd d xs)(hl:xs.length<=sizeLine)
 (q1:∀ p,atKey xs k=some p->Q p.2 { s with toks:=s.toks+knd.draws k })
 (q2:atKey xs k=none->∀ h',h'.DictOfH knd d (storedH xs k a v)->Heap.SameBut d s.heap h'->Q v { s with heap:=h',toks:=s.toks+knd.draws k }) :
 wpAny (model prog w) A (dictSetDefault d (.ref a) v) Q E s:=by
 obtain ⟨ob,es,ep,e,hc,hd,he,al,nd⟩:=hm;unfold dictSetDefault
 try with_reducible refine wpAny_holding ?_
 refine yf (knd.pyHash hu hk (yf (wpAny_dictFind_heap (s:={ s with toks:=s.toks+knd.draws k }) hu hk e hd he al nd ?_ ?_)))
 ·intro no
  have nk:k∉xs.map (·.1):=not_mem_keys_of_get no;have ks:=atKey_none_of_get no;have sb:∀ f,Heap.SameBut d s.heap (s.heap.update d f):=fun f=>Heap.SameBut.update ..;refine yf (wpAny_rule (yf (wpAny_updateDictKeys (hz:=by have z:=size_of_entries he;omega) (s:={ s with toks:=s.toks+knd.draws k }) e hd (yg (q2 ks _ ⟨_,_,ep+1,Heap.get?_update_self _ e (Obj.isFreed_of_dict (Obj.data_mapDictKeys hd _)),hc.mapDictKeys _,Obj.data_mapDictKeys hd _,?_,fun x hx=>?_,?_⟩ (Heap.SameBut.update ..))))))
  ·rw [storedH_new ks]
   simp [he,entryOfKey]
  ·rw [storedH_new ks] at hx
   rcases yQ.mp hx with hx | hx
   ·exact knd.keeps (al x hx) e hd (Heap.SameBut.update ..)
   ·cases yD.mp hx
    exact knd.keeps hk e hd (Heap.SameBut.update ..)
  ·rw [storedH_new ks,yP,nodup_append]
   refine ⟨nd,by simp,fun x hx y hy z=>?_⟩;rw [yM,map_nil,yD] at hy;subst hy z;exact nk hx
 ·intro j p hj
  refine yf (wpAny_dictEntries (s:={ s with toks:=s.toks+knd.draws k }) e hd ?_);rw [entry_at he j,hj];exact yf (wpAny_rule (yg (q1 p (atKey_of_get nd hj))))
theorem J3E (knd:HeapKind prog w K)(d a:Addr)(hd:(d == sysModules)=false)(v:Value) :
 MeetsIn prog w (Builtin.«dict.setdefault» ⟨[.ref d,.ref a,v],[]⟩) (fun A R s=>knd.room A.in1/\∃ k xs,knd.is s.heap k a/\s.heap.DictOfH knd d xs/\xs.length<=sizeLine /\
  (∀ p,atKey xs k=some p->R (.ok (.ret p.2)) { s with toks:=s.toks+knd.draws k }) /\
  (atKey xs k=none->∀ h',h'.DictOfH knd d (storedH xs k a v)->Heap.SameBut d s.heap h'->R (.ok (.ret v)) { s with heap:=h',toks:=s.toks+knd.draws k })) :=
 .of_wp fun A R s ⟨hu,k,xs,hk,hm,hl,q1,q2⟩=>by
  unfold Builtin.«dict.setdefault»;refine yf ?_;unfold Builtin.Dict.keyAndDefault;refine yf (wpAny_notOrdered_dict hm.typeIs ?_);show wpAny _ _ (pure (d,Value.ref a,some v)) _ _ s;refine yg ?_;show wpAny _ _ (if (d == sysModules)=true then _ else (dictSetDefault d (.ref a) v >>= _)) _ _ s;rw [yh (by rw [hd];decide)];exact yf (setdef_heap hu hk hm hl (fun p e=>yg ⟨_,rfl,q1 p e⟩) fun e h' m' s'=>yg ⟨_,rfl,q2 e h' m' s'⟩)
end
abbrev NPK:=List JJ
def dN (P:Program)(w:World)(a:Addr)(xs:List (NPK×Addr×Value)):HO:=.ext fun h=>∃ o es ep,h.get? a=some o/\o.ExactDict/\o.data=.dict es ep/\es.toList=xs.map (entryOfKey (J1U P w))/\(xs.map (·.1)).Nodup
def MAt (H:Hp):V->JJ->Prop
 | x,.inl k=>x=nV k
 | x,.inr ks=>∃ c,x=.ref c/\H c=some (.tup (ks.map nV))
def NKeyAt (H:Hp)(b:Addr)(kss:NPK):Prop:=∃ xs:List V,H b=some (.tup xs)/\Paired (MAt H) xs kss
theorem MAt.mono {H H':Hp}(t:∀ c ys,H c=some (.tup ys)->H' c=some (.tup ys)):∀ {x:V} {k:JJ},MAt H x k->MAt H' x k
 | _,.inl _,h=>h
 | _,.inr _,⟨c,e,h⟩=>⟨c,e,t _ _ h⟩
theorem NKeyAt.mono {H H':Hp}{b:Addr}{kss:NPK}(t:∀ c ys,H c=some (.tup ys)->H' c=some (.tup ys))(h:NKeyAt H b kss):NKeyAt H' b kss:=by
 obtain ⟨bs,h1,h2⟩:=h;exact ⟨bs,t _ _ h1,Paired.mapP h2 fun _ _ e=>e.mono t⟩
def NRel (H:Hp)(kvs:List (NPK×V))(xs:List (NPK×Addr×Value)):Prop:=Paired (fun (p:NPK×V) (q:NPK×Addr×Value)=>p.1=q.1/\NKeyAt H q.2.1 p.1/\RelV p.2 q.2.2) kvs xs
theorem NRel.mono {H H':Hp}{kvs:List (NPK×V)}{xs:List (NPK×Addr×Value)}(t:∀ c ys,H c=some (.tup ys)->H' c=some (.tup ys))(h:NRel H kvs xs):NRel H' kvs xs:=Paired.mapP h fun _ _ e=>⟨e.1,e.2.1.mono t,e.2.2⟩
def ND (P:Program)(w:World)(H:Hp)(a:Addr)(kvs:List (NPK×V)):Prop:=(a == sysModules)=false/\∃ xs,H a=some (dN P w a xs)/\NRel H kvs xs
theorem ND.mono {P:Program}{w:World}{H H':Hp}{a:Addr}{kvs:List (NPK×V)}(t:∀ c ys,H c=some (.tup ys)->H' c=some (.tup ys))(e:H' a=H a)(h:ND P w H a kvs):ND P w H' a kvs:=by
 obtain ⟨h1,xs,h2,h3⟩:=h;exact ⟨h1,xs,e.trans h2,h3.mono t⟩
section
variable {P:Program}{w:World}{H:Hp}{h:Heap}{a b:Addr}
theorem Jem (ok:HOk P w H h){x:V}{k:JJ}{v:Value}(m:MAt H x k)(r:RelV x v):MItem P w h k v:=by
 cases k with
 | inl k =>
   cases (show x=nV k from m);exact .one (Jdb (P:=P) (w:=w) r)
 | inr ks =>
   obtain ⟨c,rfl,e⟩:=(show ∃ c,x=.ref c/\H c=some (.tup (ks.map nV)) from m);cases (show v=Value.ref c from r);exact .flat (J49 ok e)
theorem JdO (ok:HOk P w H h){xs:List V}{kss:NPK}(r:Paired (MAt H) xs kss):∀ {its:List Value},Vals xs its->ItemsT P w h kss its:=by
 induction r with
 | nil=>intro its v;cases v;exact .nil
 | cons m t ih=>intro its v;cases v with | cons q v=>exact .cons (Jem ok m q) (ih v)
theorem J70 {kss:NPK}(ok:HOk P w H h)(k:NKeyAt H b kss):IsNest P w h kss b:=by
 obtain ⟨bs,e,r⟩:=k;obtain ⟨_,its,v,o,h1,h2,n,h3⟩:=(show ObjOk P w H h b (.tup bs) from ok b _ e);exact ⟨o,its.toArray,n,h1,h2,h3,by simpa using JdO ok r v⟩
theorem JcI {kvs:List (NPK×V)}{xs:List (NPK×Addr×Value)}(ok:HOk P w H h)(r:NRel H kvs xs):∀ x∈xs,IsNest P w h x.1 x.2.1:=by
 unfold NRel at r
 induction r with
 | nil=>intro x hx;cases hx
 | cons q t ih =>
   intro x hx;rcases yL.mp hx with rfl | hx
   ·rw [<- q.1]
    exact J70 ok q.2.1
   ·exact ih x hx
theorem J9k {xs:List (NPK×Addr×Value)}{kvs:List (NPK×V)}(ok:HOk P w H h)(e:H a=some (dN P w a xs))(r:NRel H kvs xs):h.DictOfH (J1U P w) a xs:=by
 obtain ⟨⟨o,es,ep,h1,h2,h3,h4,h5⟩,_,_⟩:=(show ObjOk P w H h a (dN P w a xs) from ok a _ e);exact ⟨o,es,ep,h1,h2,h3,h4,JcI ok r,h5⟩
theorem J6Z {k:NPK}{kvs:List (NPK×V)}{xs:List (NPK×Addr×Value)}(r:NRel H kvs xs):(J11 kvs k=none/\atKey xs k=none)\/∃ v p,J11 kvs k=some v/\atKey xs k=some p/\RelV v p.2:=by
 unfold NRel at r;unfold J11 atKey
 induction r with
 | nil=>exact .inl ⟨rfl,rfl⟩
 | @cons p q ps qs hq _ ih =>
   rw [List.find?_cons,List.find?_cons];by_cases c:p.1=k
   ·rw [ym c,ym (hq.1.symm.trans c)]
    exact .inr ⟨p.2,q.2,rfl,rfl,hq.2.2⟩
   ·rw [yo c,yo (fun z=>c (hq.1.trans z))]
    exact ih
theorem Jbs {k:NPK}{kvs:List (NPK×V)}{xs:List (NPK×Addr×Value)}{v:V}{u:Value}(r:NRel H kvs xs)(hk:NKeyAt H b k)(rv:RelV v u)(n1:J11 kvs k=none)(n2:atKey xs k=none):NRel H (J1p kvs k v) (storedH xs k b u):=by
 rw [storedH_new n2];have e:J1p kvs k v=kvs++[(k,v)]:=by
  unfold J1p;rw [yh];intro z;rw [any_eq_true] at z;obtain ⟨x,hx,hd⟩:=z;unfold J11 at n1;rw [Option.map_eq_none_iff,List.find?_eq_none] at n1;exact n1 x hx hd
 rw [e];exact Paired.snoc r ⟨rfl,hk,rv⟩
theorem Jdf {H':Hp}{h':Heap}{xs:List (NPK×Addr×Value)}(d:h'.DictOfH (J1U P w) a xs):ObjOk P w H' h' a (dN P w a xs):=by
 obtain ⟨o,es,ep,h1,h2,h3,h4,_,h5⟩:=d;exact ⟨⟨o,es,ep,h1,h2,h3,h4,h5⟩,⟨o,h1⟩,fun g1 g2 ⟨o,es,ep,q1,q2⟩ k=>⟨o,es,ep,k _ q1,q2⟩⟩
end
section
variable {X:Cx}{pins:List (Addr×Obj)}{σ:St}{H:Hp}{s:Shared}{a b:Addr}{k:NPK}{kvs:List (NPK×V)}{d:V}{r:Value}{A:Around}{E:Value->Shared->Prop}
theorem Jda (I:Inv X pins σ H s)(g:ND X.prog X.w H a kvs):s.TypeIs (.ref a) "dict"/\∀ b,Value.ref a=.ref b->∃ ob,s.heap.get? b=some ob/\ob.dict=none:=by
 obtain ⟨_,xs,e,rel⟩:=g;have dd:=J9k I.hok e rel;refine ⟨dd.typeIs,fun c q=>?_⟩;cases q;obtain ⟨ob,_,_,h1,h2,_⟩:=dd;exact ⟨ob,h1,h2.2.1⟩
theorem n_setdef {Q:Value->Shared->Prop}(hu:A.units+2<cLine)(I:Inv X pins σ H s)(g:ND X.prog X.w H a kvs)(hk:NKeyAt H b k)(rd:RelV d r)(hl:kvs.length<=sizeLine)
 (h1:∀ v w' s',J11 kvs k=some v->Inv X pins σ H s'->RelV v w'->Q w' s')
 (h2:J11 kvs k=none->∀ xs s',ND X.prog X.w (upd H a (dN X.prog X.w a xs)) a (J1p kvs k d)->Inv X pins σ (upd H a (dN X.prog X.w a xs)) s'->Q r s') :
 wpAny (model X.prog X.w) A (call (.builtin "dict.setdefault") [.ref a,.ref b,r]) Q E s:=by
 obtain ⟨hd,xs,e,rel⟩:=g;have dd:=J9k I.hok e rel;refine call_meetsIn PySem.F.slot_dict_setdefault dd.typeIs PySem.F.entry_dict_setdefault (PySem.F.args_dict_setdefault_3 _ _ _) (J3E (J1U X.prog X.w) a b hd r) ⟨hu,k,xs,J70 I.hok hk,dd,by rw [<- Paired.length rel];exact hl,fun p ep=>?_,fun en h' dd' hs=>?_⟩
 ·rcases J6Z (k:=k) rel with ⟨_,e2⟩ | ⟨v,p',e1,e2,rv⟩
  ·rw [e2] at ep;cases ep
  ·rw [e2] at ep
   cases ep;exact h1 v _ _ e1 (I.tok _) rv
 ·rcases J6Z (k:=k) rel with ⟨e1,e2⟩ | ⟨v,p',e1,e2,rv⟩
  ·have tk:∀ c ys,H c=some (.tup ys)->upd H a (dN X.prog X.w a (storedH xs k b r)) c=some (.tup ys):=fun c ys z=>by
    rw [Jd (J2F z e (fun q=>nomatch q))];exact z
   refine h2 e1 (storedH xs k b r) _ ⟨hd,_,J1,(Jbs rel hk rd e1 e2).mono tk⟩ ?_;exact J4K I (by rw [e];exact True.intro) hs (let ⟨q,_,_,hq,_⟩:=dd';⟨q,hq⟩) (Jdf dd')
  ·rw [e2] at en;cases en
end
def J8n (P:Program)(w:World):TE:=fun _ H Q=>∀ p xs,H p=none->ND P w (upd H p (dN P w p xs)) p []->Q (.ref p) (upd H p (dN P w p xs))
def J4W (P:Program)(w:World)(td ty tx:TE):TE:=fun σ H Q=>td σ H fun x H1=>∃ a kvs,x=.ref a/\ND P w H1 a kvs/\ty σ H1 fun y H2=>tx σ H2 fun z H3=>∃ b kvs k,y=.ref b/\ND P w H3 a kvs/\NKeyAt H3 b k/\kvs.length<=sizeLine /\
 (∀ v,J11 kvs k=some v->Q v H3)/\(J11 kvs k=none->∀ xs,ND P w (upd H3 a (dN P w a xs)) a (J1p kvs k z)->Q z (upd H3 a (dN P w a xs)))
section
variable {X:Cx}{o e f:Expr}{pos apos cpos:Pos}{td ty tx:TE}
theorem Jbl:PE X (.Dict [] [] pos) (J8n X.prog X.w):=fun pins s σ H Q I h=>by
 have hp:H s.heap.objs.size=none:=I.hok.fresh (yj _);have sy:(s.heap.objs.size == sysModules)=false:=beq_eq_false_iff_ne.mpr (Ne.symm (yr I.big));have dd:(s.heap.push { cls:=.type "dict",data:=.dict #[] }).DictOfH (J1U X.prog X.w) s.heap.objs.size []:=⟨_,#[],0,y6 _ rfl,⟨rfl,rfl,rfl⟩,rfl,rfl,(fun _ z=>nomatch z),nodup_nil⟩;exact wpAny_Dict_empty ⟨.ref s.heap.objs.size,_,I.laid (a:=s.heap.objs.size) (o:=dN X.prog X.w s.heap.objs.size []) (t':=s.toks) (fun _ _ q=>y4 _ q) (yj _) (Jdf dd),rfl,h _ [] hp ⟨sy,[],J1,.nil⟩⟩
theorem J8y (hu:X.A.units+64<cLine)(ho:PE X o td)(he:PE X e ty)(hf:PE X f tx)(m:M2 X o "setdefault" apos e f cpos):PE X (.Call (.Attribute o "setdefault" apos) [e,f] [] cpos) (J4W X.prog X.w td ty tx):=by
 intro pins s σ H Q I h;refine wpAny_Call_method m.base m.few m.line PySem.F.plainAttrs_dict PySem.F.slot_dict_setdefault PySem.F.type_dict_setdefault (thn (ho pins s σ H _ I h) fun u s1 ⟨x,H1,I1,rx,a,kv,ex,d,q1⟩=>?_);subst ex;obtain rfl:u=Value.ref a:=rx;obtain ⟨t1,t2⟩:=Jda I1 d;refine ⟨t1,t2,?_⟩;rw [m.trees];refine Calls.callWith_builtin rfl (Calls.evalArgs_plain (Calls.spliced_cons (thn (he pins s1 σ H1 _ I1 q1) fun iv s2 ⟨y,H2,I2,ry,q2⟩=>Calls.spliced_cons (thn (hf pins s2 σ H2 _ I2 q2) fun fv s3 ⟨z,H3,I3,rz,b,kvs,k,ey,g,hk,hl,q3,q4⟩=>Calls.spliced_nil ?_))));subst ey;obtain rfl:iv=Value.ref b:=ry;exact n_setdef (by omega) I3 g hk rz hl (fun v w' s4 ev I4 rv=>⟨v,H3,I4,rv,q3 v ev⟩) fun en xs s4 g4 I4=>⟨z,_,I4,rz,q4 en xs g4⟩
end
section
variable {prog:Program}{w:World}{K:Type}[DecidableEq K]{knd:HeapKind prog w K}{A:Around}{E:Value->Shared->Prop}{s:Shared}
theorem J8I (knd:HeapKind prog w K)(d:Addr)(hd:(d == sysModules)=false):MeetsIn prog w (Builtin.«dict.__len__» ⟨[.ref d],[]⟩) (fun _ R s=>∃ xs,s.heap.DictOfH knd d xs/\R (.ok (.ret (.int xs.length s.toks))) { s with toks:=s.toks+1 }) :=
 .of_wp fun A R s ⟨xs,⟨ob,es,ep,e,_,hdt,he,_⟩,q⟩=>by
  show wpAny _ _ (PySem.dictSize d >>= _) _ _ s;unfold PySem.dictSize;refine yf <| yf <| wpAny_dictEntries e hdt <| yg ?_
  show wpAny _ _ (PySem.Builtin.Dict.pendingCount d >>= _) _ _ s;refine yf <| wpAny_pendingCount_other hd <| wpAny_ret_mkInt ?_
  rw [Nat.add_zero,show es.size=xs.length by have z:=congrArg List.length he;simpa using z];exact q
theorem J06 {d:Addr}{xs:List (K×Addr×Value)}{Q:Value->Shared->Prop}(hd:(d == sysModules)=false)(hm:s.heap.DictOfH knd d xs)(hf:(xs.length:Int)<2 ^ 63)
 (q:Q (.int xs.length (s.toks+1)) { s with toks:=s.toks+1+1 }):wpAny (model prog w) A (call (.builtin "len") [.ref d]) Q E s:=by
 refine Calls.call_function_entry kind_len plain_len entry_len (args_len1 _) ?_;unfold Builtin.«len»;refine yf (m:=oneArg "len" _) <| yg ?_
 refine yf (m:=PySem.callSpecial? (.ref d) (Str.ofString "__len__")) <| wpAny_callSpecial?_slot (name:=Str.ofString "__len__") hm.typeIs F.slot_dict_len <|
  call_meetsIn F.slot_dict_len hm.typeIs F.entry_dict_len (F.args_dict_len_1 _) (J8I knd d hd) ⟨xs,hm,?_⟩
 show wpAny _ _ _ _ _ ({ s with toks:=s.toks+1 }:Shared);refine yf <| wpAny_holding <| yg ?_
 refine yf <| wpAny_letGo ?_
 show wpAny _ _ (if (xs.length:Int)<0 then _ else _) _ _ _;rw [yh (by omega)];show wpAny _ _ (if (xs.length:Int)≥2 ^ 63 then _ else _) _ _ _;rw [yh (by omega)];exact yf <| wpAny_mkInt <| yg ⟨_,rfl,q⟩
end
section
variable {X:Cx}{pins:List (Addr×Obj)}{σ:St}{H:Hp}{s:Shared}{a b:Addr}{k:NPK}{kvs:List (NPK×V)}{A:Around}{E:Value->Shared->Prop}
theorem Jac {v:V}{Q:Value->Shared->Prop}(hu:A.units+2<cLine)(I:Inv X pins σ H s)(g:ND X.prog X.w H a kvs)(hk:NKeyAt H b k)(hv:J11 kvs k=some v)(h:∀ w' s',Inv X pins σ H s'->RelV v w'->Q w' s') :
 wpAny (model X.prog X.w) A (getItem (.ref a) (.ref b)) Q E s:=by
 obtain ⟨hd,xs,e,rel⟩:=g;rcases J6Z (k:=k) rel with ⟨e1,_⟩ | ⟨v',p,e1,e2,rv⟩
 ·rw [e1] at hv;cases hv
 ·rw [e1] at hv
  cases hv;exact wpAny_getItem_heap (knd:=J1U X.prog X.w) hu (J70 I.hok hk) (J9k I.hok e rel) e2 (h _ _ (I.tok _) rv)
theorem n_len {Q:Value->Shared->Prop}(I:Inv X pins σ H s)(g:ND X.prog X.w H a kvs)(hl:kvs.length<=sizeLine)(h:∀ t s',Inv X pins σ H s'->Q (.int kvs.length t) s'):wpAny (model X.prog X.w) A (call (.builtin "len") [.ref a]) Q E s:=by
 obtain ⟨hd,xs,e,rel⟩:=g;have el:=Paired.length rel;refine J06 hd (J9k I.hok e rel) (by rw [<- el];rw [sizeLine_eq] at hl;omega) ?_;rw [<- el];exact h _ _ (I.tok _)
end
def JaI (P:Program)(w:World)(td ty:TE):TE:=fun σ H Q=>td σ H fun x H1=>ty σ H1 fun y H2=>∃ a b kvs k v,x=.ref a/\y=.ref b/\ND P w H2 a kvs/\NKeyAt H2 b k/\J11 kvs k=some v/\Q v H2
def Jb8 (P:Program)(w:World):List V->Hp->VK->Prop:=fun xs H Q=>∃ a kvs,xs=[V.ref a]/\ND P w H a kvs/\kvs.length<=sizeLine/\Q (.int kvs.length) H
section
variable {X:Cx}{o i:Expr}{pos:Pos}{td ty:TE}
theorem J9i (hu:X.A.units+64<cLine)(ho:PE X o td)(hi:PE X i ty)(hs:Jea i):PE X (.Subscript o i pos) (JaI X.prog X.w td ty):=by
 intro pins s σ H Q I h;refine J95 PySem.F.slot_dict_getitem.lookup hs (thn (ho pins s σ H _ I h) fun u s1 ⟨x,H1,I1,rx,q1⟩=>thn (hi pins s1 σ H1 _ I1 q1) fun iv s2 ⟨y,H2,I2,ry,a,b,kvs,k,v,ex,ey,g,hk,hv,q2⟩=>?_);subst ex ey;obtain rfl:u=Value.ref a:=rx;obtain rfl:iv=Value.ref b:=ry;exact ⟨(Jda I2 g).1,Jac (by omega) I2 g hk hv fun w' s3 I3 rw'=>⟨v,H2,I3,rw',q2⟩⟩
theorem J6v:J0I X (.builtin "len") (Jb8 X.prog X.w):=by
 intro pins s σ H xs us Q I r h;obtain ⟨a,kvs,rfl,ha,hl,q⟩:=h;obtain ⟨u,rfl,ru⟩:=J2r r;cases ru;exact n_len I ha hl fun t s' I'=>⟨.int kvs.length,H,I',⟨t,rfl⟩,q⟩
end
end L2
namespace L2
open PySem PySem.Spec PyProof.Rows PySem.W
section
variable {X:Cx}{pins:List (Addr×Obj)}{σ:St}{H:Hp}{s:Shared}{E:Value->Shared->Prop}
def JeA (X:Cx)(pins:List (Addr×Obj))(σ:St)(H:Hp)(A:Around)(f:Value)(G:Heap->Prop)(vs:List Value)(kz:List Int):Prop :=
 ∀ (i:Nat) v k,vs[i]?=some v->kz[i]?=some k->∀ (pl:List (Addr×Obj)) (s':Shared),Inv X (pins++pl) σ H s'->G s'.heap ->
   wpAny (model X.prog X.w) A (call f [v]) (fun u s''=>(∃ t,u=.int k t)/\Inv X (pins++pl) σ H s''/\G s''.heap) (fun _ _=>False) s'
end
section
variable {X:Cx}{pins:List (Addr×Obj)}{σ:St}{H:Hp}{s:Shared}{E:Value->Shared->Prop}
theorem Inv.turnedL {h':Heap}{t':Nat}{ch:List Addr}(I:Inv X pins σ H s)(k:∀ b o,b∉ch->s.heap.get? b=some o->h'.get? b=some o)(f:∀ b∈ch,J1M X pins H b):Inv X pins σ H { s with heap:=h',toks:=t' }:=by
 have nit:∀ b u,H b=some u->b∉ch:=fun b u e z=>by rw [(f b z).1] at e;cases e
 refine I.step (g':=s.gens) (d':=s.drawn) (ch:=ch) (fun b hb=>?_) (fun b o _ _ hc e _=>k b o hc e) (fun b o _ _ hc e _=>⟨o.slots,k b o hc e⟩) (fun _ _ _ _ n=>n)
  (fun b o hc e=>⟨o,k b o hc e⟩) (fun _ _ e=>e) (fun _ _ _ e=>e) (fun b ps e=>⟨#[],by rw [e];simp⟩) (fun m hm=>?_) (fun b u e=>?_) I.bare
 ·obtain ⟨_,h1,_,h3,h4,h5⟩:=f b hb
  exact ⟨h3,h1,h4,h5⟩
 ·obtain ⟨o,es,ep,ho,r⟩:=hm
  exact ⟨o,es,ep,k _ o (fun z=>(f _ z).2.1 rfl) ho,r⟩
 ·refine (I.hok b u e).stay (fun c v hc q=>k c v ?_ q) (fun _ q=>q) fun _ _ q=>q
  rcases hc with z | z
  ·rw [z];exact nit b u e
  ·exact nit c _ z
end
section
variable {prog:Program}{w:World}{A:Around}{E:Value->Shared->Prop}{s:Shared}
theorem J5v {kz:List Int}{vs out:List Value}{b:Bool}(hl:kz.length=vs.length)(h:KskOut b kz vs out):out.length=vs.length:=by
 obtain ⟨ps,hp,rfl,_⟩:=h;rw [yC,hp.length_eq,length_zip];omega
theorem JeL {a kS:Addr}{vs:List Value}{kz:List Int}{keys:Array Value}{e e1:Nat}{P:PySem.Fin->Shared->Prop}(ha:s.heap.get? a=some (seqObj "list" #[] e1))(hk:s.heap.get? kS=some (seqObj "list" keys e))(hka:kS≠a)(hi:IntsAre keys.toList kz)(hl:kz.length=vs.length)(h64:vs.length<64)
 (h:∀ h' tk e2 out,KskOut true kz vs out->(∀ b o,b≠a->b≠kS->s.heap.get? b=some o->h'.get? b=some o)->h'.get? a=some (seqObj "list" out.toArray e2)->(∃ o,h'.get? kS=some o)->P (.done (.ret .none)) { s with heap:=h',toks:=tk }) :
 wpAny (model prog w) A (ksk_end a true vs.toArray e1 (.ref kS) keys) P E s:=by
 have hks:keys.size=vs.length:=by have:=hi.length;rw [yz] at this;omega
 have hzs:(keys.zip vs.toArray).size=vs.length:=by rw [Array.size_zip,hks,yE,Nat.min_self]
 have hst:(keys.zip vs.toArray).reverse.Perm (keys.zip vs.toArray):=Array.perm_iff_toList_perm.mpr (by rw [Array.toList_reverse];exact reverse_perm _);have tail:∀ st:SortSt,failedOf st=none->(arrOf st).Perm (keys.zip vs.toArray)->SortedTo (arrOf st) (arrOf st).size->wpAny (model prog w) A (ksk_tail a true e1 (.ref kS) st) P E s:=fun st hf hp hs=>by
  have ko:KskOut true kz vs ((arrOf st).map (·.2)).reverse.toList:=by simpa using ksk_out (b:=true) hi hp hs
  have hol:=J5v hl ko;have s1:=Heap.SameBut.update s.heap kS (Obj.mapSeq fun _=>(#[]:Array Value));have na1:(s.heap.update kS (Obj.mapSeq fun _=>(#[]:Array Value))).get? a=some (seqObj "list" #[] e1):=(s1.2 a hka.symm).trans ha;have nk1:=get?_update_seq hk (fun _=>(#[]:Array Value));have hz:((arrOf st).map (·.2)).reverse.size<=sizeLine:=by rw [<- yz,hol,sizeLine_eq];omega
  unfold ksk_tail;dsimp only;simp only [if_true];generalize ((arrOf st).map (·.2)).reverse=ou at *;refine yf (listUpdate_at hk rfl ?_ (by rw [hks,sizeLine_eq];omega) (yw _));refine yf (wpAny_letGo ?_);refine yf (seqEpoch_at na1 rfl ?_);refine yf (listUpdate_at na1 rfl ?_ (yw _) (yx hz (Nat.le_succ _)));rw [hf];simp only [bne_self_eq_false,Bool.false_eq_true,if_false];have s2:=Heap.SameBut.update (s.heap.update kS (Obj.mapSeq fun _=>(#[]:Array Value))) a (Obj.mapSeq fun _=>ou);exact yg (h _ _ _ ou.toList ko (fun b o hb hb2 eb=>(s2.2 b hb).trans ((s1.2 b hb2).trans eb)) (by rw [Array.toArray_toList];exact get?_update_seq na1 _) ⟨_,(s2.2 kS hka).trans nk1⟩)
 unfold ksk_end;dsimp only;simp only [if_true];refine yf (wpAny_rule ?_);by_cases h2:vs.toArray.size<2
 ·rw [yi h2,yi h2]
  refine yf (yg ?_);rw [StateT.run_pure];refine yf (yg ?_);dsimp only;refine tail _ rfl hst fun i j hij hj=>?_;have hj2:j<(keys.zip vs.toArray).reverse.size:=hj;rw [hst.size_eq,hzs] at hj2;rw [yE] at h2;obtain rfl:i=j:=by omega
  exact Int.le_refl _
 ·rw [yh h2,yh h2]
  rw [yE] at h2;rw [ksk_kind hi (by omega)];refine yf (yg ?_);refine yf (wpAny_mono (wpS_sortRuns (a₀:=keys.zip vs.toArray) (st:=SortSt.mk' oneType' (keys.zip vs.toArray).reverse #[] 7 none) (Q:=fun _ st'=>failedOf st'=none/\(arrOf st').Perm (keys.zip vs.toArray)/\SortedTo (arrOf st') (keys.zip vs.toArray).size)
   (ksk_intKeys hi) ⟨hst,rfl,rfl,rfl⟩ (by rw [hzs];omega) (by rw [hzs];exact h64) fun st' a1 a2 a3=>⟨a2,a1,a3⟩) ?_ fun _ _ e=>e)
  rintro ⟨⟨⟩,st'⟩ s' ⟨rfl,hf,hp,hs⟩;exact tail st' hf hp (by rw [hp.size_eq];exact hs)
end
section
variable {X:Cx}{pins:List (Addr×Obj)}{σ:St}{H:Hp}{s:Shared}{E:Value->Shared->Prop}
theorem restR {A:Around}{f:Value}{G:Heap->Prop}{a kS:Addr}{vs:List Value}{kz:List Int}{e1:Nat}{P:PySem.Fin->Shared->Prop}(I:Inv X pins σ H s)(hG:G s.heap)(Gk:∀ h h':Heap,G h->(∀ b o,b≠kS->h.get? b=some o->h'.get? b=some o)->G h')
 (ha:s.heap.get? a=some (seqObj "list" #[] e1)) (hk:s.heap.get? kS=some (seqObj "list" #[] 0)) (hka:kS≠a) (fa:J1M X pins H a) (fk:J1M X pins H kS) (hl:kz.length=vs.length) (h64:vs.length<64) (KO:JeA X pins σ H A f G vs kz)
 (h:∀ s',Inv X pins σ H s'->∀ h' tk e2 out,KskOut true kz vs out->(∀ b o,b≠a->b≠kS->s'.heap.get? b=some o->h'.get? b=some o)->(∃ o,s'.heap.get? a=some o)->(∃ o,h'.get? kS=some o)->h'.get? a=some (seqObj "list" out.toArray e2)->P (.done (.ret .none)) { s' with heap:=h',toks:=tk }) :
 wpAny (model X.prog X.w) A (ksk_rest a f true vs.toArray e1 (.ref kS)) P E s:=by
 unfold ksk_rest;refine yf (wpAny_rule ?_);rw [forIn_toArray];refine yf (ksk_fold (fun i s'=>∃ kA e,Inv X pins σ H s'/\G s'.heap/\s'.heap.get? a=some (seqObj "list" #[] e1)/\s'.heap.get? kS=some (seqObj "list" kA e)/\IntsAre kA.toList (kz.take i)) vs 0 s
  ⟨#[],0,I,hG,ha,hk,by simpa using IntsAre.nil⟩ ?step ?done)
 case step =>
  rintro j x s' hx ⟨kA,e,J,g,na,nk,hi⟩;simp only [Nat.zero_add] at hi ⊢;have hj:j<vs.length:=(yB.mp hx).1;obtain ⟨k,hkj⟩:∃ k,kz[j]?=some k:=⟨_,yA (by omega)⟩;have hz:kA.size<=vs.length:=by
   have h1:=hi.length;rw [yz,yI] at h1;omega
  have J2:Inv X (pins++[(a,seqObj "list" #[] e1),(kS,seqObj "list" kA e)]) σ H s':=J.pins_of fun p hp=>by
   rcases yQ.mp hp with hp | hp
   ·exact J.pin p (yR _ hp)
   ·rcases yL.mp hp with rfl | hp
    ·exact ⟨na,fa.1,fa.2.1,fa.2.2.1,fun v=>by simp [seqObj]⟩
    ·rw [yD.mp hp]
     exact ⟨nk,fk.1,fk.2.1,fk.2.2.1,fun v=>by simp [seqObj]⟩
  refine yf (wpAny_attempt (wpAny_mono (KO j x k hx hkj _ s' J2 g) (fun u s'' he=>?_) fun _ _ hF=>hF.elim));obtain ⟨⟨t2,rfl⟩,J3,g3⟩:=he;dsimp only;have na3:=(J3.pin (a,seqObj "list" #[] e1) (yR _ (yR _ (.head _)))).1;have nk3:=(J3.pin (kS,seqObj "list" kA e) (yR _ (yR _ (.tail _ (.head _))))).1;have J4:Inv X pins σ H s'':=J3.unpinned;have s1:=Heap.SameBut.update s''.heap kS (Obj.mapSeq (·.push (.int k t2)));obtain ⟨c2,hc2⟩:∃ c2,(s''.heap.update kS (Obj.mapSeq (·.push (.int k t2)))).get? kS=some (seqObj "list" (kA.push (.int k t2)) c2):=⟨_,get?_update_seq nk3 (·.push (.int k t2))⟩;have ek:kz.take (j+1)=kz.take j++[k]:=by rw [take_add_one,hkj];simp
  have ea:(kA.push (Value.int k t2)).toList=kA.toList++[Value.int k t2]:=by simp
  refine yf (listUpdate_at nk3 rfl ?_ (by rw [sizeLine_eq];omega) (yx (Nat.le_of_eq (Array.size_push ..)) (by rw [sizeLine_eq];omega)));have kp:∀ b o,b≠kS->s''.heap.get? b=some o->(s''.heap.update kS (Obj.mapSeq (·.push (.int k t2)))).get? b=some o:=fun b o hb eb=>(s1.2 b hb).trans eb;exact yg ⟨rfl,kA.push (.int k t2),c2,J4.turned (t':=s''.toks) kp fk.1 fk.2.1 fk.2.2.2.1 fk.2.2.2.2.1 fk.2.2.2.2.2,Gk _ _ g3 kp,kp _ _ hka.symm na3,hc2,by rw [ea,ek];exact ksk_snoc hi⟩
 case done =>
  rintro s' ⟨kA,e,J,g,na,nk,hi⟩;have hk':IntsAre kA.toList kz:=by
   have e3:kz.take (0+vs.length)=kz:=take_of_length_le (by omega);rw [e3] at hi;exact hi
  refine yf (listItems_at nk rfl ?_);exact JeL na nk hka hk' hl h64 fun h' tk e2 out ko kp ha' hk2=>h s' J h' tk e2 out ko kp ⟨_,na⟩ hk2 ha'
def Jeb (H:Hp)(x:V)(n:Int):Prop:=∃ c ys,x=.ref c/\H c=some (.lst ys)/\n=(ys.length:Int)
def Jcq:Value->V
 | .ref c=>.ref c
 | _=>.non
theorem J7z:∀ {xs:List V} {vs:List Value},Vals xs vs->(∀ x∈xs,∃ c,x=V.ref c)->vs.map Jcq=xs
 | _,_,.nil,_=>rfl
 | _,_,.cons q t,h=>by
   obtain ⟨c,rfl⟩:=h _ yK;cases (show _=Value.ref c from q);rw [yM,J7z t fun x hx=>h x (yJ _ hx)];rfl
theorem J6d:∀ {vs:List Value},(∀ v∈vs,∃ c,v=Value.ref c)->Vals (vs.map Jcq) vs
 | [],_=>.nil
 | v::vs,h=>by
   obtain ⟨c,rfl⟩:=h v yK;exact .cons rfl (J6d fun u hu=>h u (yJ _ hu))
theorem J6e:∀ {xs:List V} {vs:List Value},Vals xs vs->(∀ x∈xs,∃ c,x=V.ref c)->∀ v∈vs,∃ c,v=Value.ref c
 | _,_,.nil,_,_,hv=>nomatch hv
 | _,_,.cons q t,h,v,hv=>by
   obtain ⟨c,rfl⟩:=h _ yK;rcases yL.mp hv with rfl | hv
   ·exact ⟨c,q⟩
   ·exact J6e t (fun x hx=>h x (yJ _ hx)) v hv
def Je7 (kz:List Int)(xs out:List V):Prop:=∃ ps:List (Int×V),ps.Perm (kz.zip xs)/\out=ps.map Prod.snd/\ps.Pairwise (fun p q=>q.1<=p.1)
theorem sorted_listR {l:Addr}{xs:List V}{kz:List Int}{Q:VK}(I:Inv X pins σ H s)(hex:X.ex=[])(hl:SqL X.K H l xs)(hn:xs.length<64)(hkl:kz.length=xs.length)(hkz:∀ (i:Nat) x k,xs[i]?=some x->kz[i]?=some k->Jeb H x k)
 (hQ:∀ D out,H D=none->Je7 kz xs out->Q (.ref D) (upd H D (.lst out))) :
 wpAny (model X.prog X.w) X.A (call (.builtin "sorted") [.ref l] [(Str.ofString "key",.builtin "len"),(Str.ofString "reverse",.bool true)]) (EP X pins σ Q) E s:=by
 obtain ⟨vs,rv,pl,_⟩:=I.list hl;have hvl:xs.length=vs.length:=rv.length;have href:∀ x∈xs,∃ c,x=V.ref c:=fun x hx=>by
  obtain ⟨i,hi⟩:=yT.mp hx;obtain ⟨c,_,e,_⟩:=hkz i x _ hi (yA (by rw [hkl];exact (yB.mp hi).1));exact ⟨c,e⟩
 refine call_function_entry_kw kind_sorted plain_sorted entry_sorted (ksk_s2 _ _ _) ?_;unfold Builtin.«sorted»;refine yf (m:=checkCount "sorted" 1 1 _) (yg ?_);refine yf (collect_list pl.isList ?_ (by rw [sizeLine_eq];omega));have hk0:∀ b o,s.heap.get? b=some o->((s.heap.push (seqObj "list" #[] 0)).update s.heap.objs.size (Obj.mapSeq (·++vs.toArray))).get? b=some o:=fun b o e=>(y8 _ _ (Nat.ne_of_gt (y7 e))).trans (y4 _ e);have hsz:s.heap.objs.size<((s.heap.push (seqObj "list" #[] 0)).update s.heap.objs.size (Obj.mapSeq (·++vs.toArray))).objs.size:=by rw [Heap.size_update,Heap.size_push];omega
 show wpAny _ _ _ _ _ { s with heap:=(s.heap.push (seqObj "list" #[] 0)).update s.heap.objs.size (Obj.mapSeq (·++vs.toArray)),toks:=s.toks };generalize (s.heap.push (seqObj "list" #[] 0)).update s.heap.objs.size (Obj.mapSeq (·++vs.toArray))=h1 at *;generalize s.toks=tk;refine yf (wpAny_newList ?_ (hsz:=by rw [sizeLine_eq];omega));have hoL:(h1.push (seqObj "list" vs.toArray 0)).get? h1.objs.size=some (seqObj "list" vs.toArray 0):=y6 _ rfl;have hsL:(h1.push (seqObj "list" vs.toArray 0)).objs.size=h1.objs.size+1:=Heap.size_push ..;have kL:∀ b o,s.heap.get? b=some o->(h1.push (seqObj "list" vs.toArray 0)).get? b=some o:=fun b o e=>y4 _ (hk0 b o e);show wpAny _ _ _ _ _ { s with heap:=h1.push (seqObj "list" vs.toArray 0),toks:=tk };generalize h1.push (seqObj "list" vs.toArray 0)=h2 at *;have haz:s.heap.objs.size<=h1.objs.size:=Nat.le_of_lt hsz;refine yf (wpAny_holding (wpAny_call_entry_kw slot_list_sort ⟨_,hoL,rfl⟩ entry_list_sort ?body (ksk_l2 _ _ _)))
 case body =>
  show wpAny (model X.prog X.w) X.A.in1.in1 (Builtin.«list.sort» ⟨[.ref h1.objs.size],[(Str.ofString "key",.builtin "len"),(Str.ofString "reverse",.bool true)]⟩) _ _ _;rw [ksk_t5];unfold ksk_tree;refine yf (listItems_at hoL rfl ?_);refine yf (listUpdate_at hoL rfl ?_ (by rw [yE,sizeLine_eq];omega) (yw _));obtain ⟨e1,ho1⟩:∃ e1,(h2.update h1.objs.size (Obj.mapSeq fun _=>(#[]:Array Value))).get? h1.objs.size=some (seqObj "list" #[] e1):=⟨_,get?_update_seq hoL fun _=>#[]⟩;have s3:(h2.update h1.objs.size (Obj.mapSeq fun _=>(#[]:Array Value))).objs.size=h1.objs.size+1:=by rw [Heap.size_update,hsL]
  have k3:∀ b o,s.heap.get? b=some o->(h2.update h1.objs.size (Obj.mapSeq fun _=>(#[]:Array Value))).get? b=some o:=fun b o e=>(y8 _ _ (Nat.ne_of_gt (yv (y7 e) haz))).trans (kL b o e);refine yf (seqEpoch_at ho1 rfl ?_);generalize h2.update h1.objs.size (Obj.mapSeq fun _=>(#[]:Array Value))=h3 at *;refine yf (wpAny_newTuple ?_ (by show vs.length<=_;rw [sizeLine_eq];omega));have ho4:(h3.push (seqObj "tuple" vs.toArray 0)).get? h1.objs.size=some (seqObj "list" #[] e1):=y4 _ ho1;have s4:(h3.push (seqObj "tuple" vs.toArray 0)).objs.size=h1.objs.size+2:=by rw [Heap.size_push,s3]
  have k4:∀ b o,s.heap.get? b=some o->(h3.push (seqObj "tuple" vs.toArray 0)).get? b=some o:=fun b o e=>y4 _ (k3 b o e);show wpAny _ _ _ _ _ { s with heap:=h3.push (seqObj "tuple" vs.toArray 0),toks:=tk };generalize h3.push (seqObj "tuple" vs.toArray 0)=h4 at *;refine yf (wpAny_newList ?_ (yw _));have hoK:(h4.push (seqObj "list" #[] 0)).get? h4.objs.size=some (seqObj "list" #[] 0):=y6 _ rfl;have ho5:(h4.push (seqObj "list" #[] 0)).get? h1.objs.size=some (seqObj "list" #[] e1):=y4 _ ho4;have k5:∀ b o,s.heap.get? b=some o->(h4.push (seqObj "list" #[] 0)).get? b=some o:=fun b o e=>y4 _ (k4 b o e);show wpAny _ _ _ _ _ { s with heap:=h4.push (seqObj "list" #[] 0),toks:=tk };generalize h4.push (seqObj "list" #[] 0)=h5 at *;refine wpAny_holding ?_;have hkz2:s.heap.objs.size<=h4.objs.size:=by rw [s4];omega
  have fa:J1M X pins H h1.objs.size:=I.fpOk haz (I.hok.fresh haz);have fk:J1M X pins H h4.objs.size:=I.fpOk hkz2 (I.hok.fresh hkz2);have I5:Inv X pins σ H { s with heap:=h5,toks:=tk }:=I.kept k5;refine restR (kz:=kz) (s:={ s with heap:=h5,toks:=tk }) (G:=fun _=>True) I5 trivial (fun _ _ _ _=>trivial) ho5 hoK (by show h4.objs.size≠h1.objs.size;rw [s4];exact Nat.ne_of_gt (Nat.lt_add_of_pos_right (by decide))) fa fk (by omega) (by omega) (fun i v k hv hk pl' s' J _=>?_) fun s' J h' tk' e2 out ko kp _ _ ha'=>⟨_,rfl,?_⟩
  ·have hi:i<xs.length:=by rw [hvl];exact (yB.mp hv).1
   obtain ⟨c,ys,ex,hc,rfl⟩:=hkz i _ k (yA hi) hk;obtain ⟨v',hv',rr⟩:=rv.get (yA hi);rw [hv] at hv';cases hv';rw [ex] at rr;cases (show v=Value.ref c from rr);obtain ⟨its,r2,pl2,hz2⟩:=J.list (SqL.of hc);have e3:its.toArray.size=ys.length:=by rw [yE,<- r2.length]
   refine Calls.call_len_list pl2.isList (by rw [e3];rw [sizeLine_eq] at hz2;omega) ⟨⟨_,by rw [e3]⟩,J.tok _,trivial⟩
  ·have J2:Inv X pins σ H { s' with heap:=h',toks:=tk' }:=J.turnedL (ch:=[h1.objs.size,h4.objs.size]) (fun b o hb e=>by
    simp only [yL,not_mem_nil,or_false,not_or] at hb;exact kp b o hb.1 hb.2 e) fun b hb=>by
    rcases yL.mp hb with rfl | hb
    ·exact fa
    ·rw [yD.mp hb];exact fk
   have hln:s.heap.get? h1.objs.size=none:=Heap.get?_none_of_le haz;have hol:=J5v (by omega) ko;have hbk:=J6e rv href;obtain ⟨ps,hp,rfl,hw⟩:=ko;have ho:∀ v∈ps.map Prod.snd,∃ c,v=Value.ref c:=fun v hv=>by
    obtain ⟨p,hp1,rfl⟩:=yU.mp hv;exact hbk _ (of_mem_zip (hp.mem_iff.mp hp1)).2
   refine yg ⟨_,rfl,.ref h1.objs.size,upd H h1.objs.size (.lst ((ps.map Prod.snd).map Jcq)),J2.hold (I.cov hex) hln fa.1 ?_,rfl,hQ _ _ fa.1 ⟨ps.map fun p=>(p.1,Jcq p.2),?_,by rw [map_map,map_map];rfl,?_⟩⟩
   ·exact ⟨by rw [yC,hol,sizeLine_eq];omega,_,e2,J6d ho,ha'⟩
   ·rw [<- J7z rv href,zip_map_right]
    exact hp.map _
   ·rw [pairwise_map]
    exact hw.imp fun h=>by simpa using h
end
def J8m (K:Frag)(ta:TA):TE:=fun σ H Q=>ta σ H fun vs H1=>∃ l xs kz,vs=[V.ref l]/\SqL K H1 l xs/\xs.length<64/\kz.length=xs.length/\(∀ (i:Nat) x k,xs[i]?=some x->kz[i]?=some k->Jeb H1 x k)/\∀ D out,H1 D=none->Je7 kz xs out->Q (.ref D) (upd H1 D (.lst out))
section
variable {X:Cx}
theorem Jbk {K:Frag}{a:Expr}{ta:TA}{p pos kp kp2 np cp:Pos}{j}(ek:X.K=K)(hex:X.ex=[])(hg:Gl X "sorted")(hm:X.mg "sorted"=none)(hg2:Gl X "len")(hm2:X.mg "len"=none)(hn:JS a=true)(ha:PA X [a] ta) :
 PE X (.Call (.Name "sorted" p) [a] [⟨some "key",.Name "len" np,kp⟩,⟨some "reverse",.Constant (.bool true) j cp,kp2⟩] pos) (J8m K ta):=by
 subst ek;intro pins s σ H Q I h;refine wpAny_Call_Name_kw (J1L I hg hm (show bootBuiltins "sorted"=some (.builtin "sorted") from rfl) ?_);refine PyProof.Rows.callWith_kw (thn (ha pos pins s σ H _ I h) fun us s1 ⟨vs,H1,I1,r1,q1⟩=>?_) (by rw [J02 hn];rfl) (by rw [J02 hn];rfl);obtain ⟨l,xs,kz,rfl,hl,h64,hkl,hkz,hq⟩:=q1;obtain ⟨u1,rfl,ru⟩:=J2r r1;cases (show u1=Value.ref l from ru);show wpAny _ _ (evalAll ((do let v <- eval (.Name "len" np) X.env;standAt pos;pure v)::(backToKw pos (keywordEach _ X.env)).map (·.2))) _ _ s1;refine wpAny_evalAll_cons (yf (J1L I1 hg2 hm2 (show bootBuiltins "len"=some (.builtin "len") from rfl) (yf (wpAny_standAt (yg ?_)))));refine thn ((Jcz J1T Jdz) pos pins s1 σ H1 (fun zs H2=>zs=[V.bl true]/\H2=H1) I1 ⟨rfl,rfl⟩) fun ws s2 ⟨zs,H2,I2,rz,ez,eH⟩=>?_;subst ez;subst eH;obtain ⟨w',rfl,rw'⟩:=J2r rz;cases (show w'=Value.bool true from rw');exact sorted_listR I2 hex hl h64 hkl hkz hq
end
end L2
namespace L2
open PySem PySem.Spec PyProof.Rows
section
variable {X:Cx}
def J6T (K:Frag):List V->Hp->VK->Prop:=fun xs H Q=>∃ l,∃ ns:List Int,xs=[.ref l]/\SqL K H l (ns.map V.int)/\ns.length<64 /\
 ∀ p,∀ ms:List Int,H p=none->ms.Perm ns->ms.Pairwise (·<=·)->Q (.ref p) (upd H p (.lst (ms.map V.int)))
theorem J4O:∀ {ns:List Int} {us:List Value},Vals (ns.map V.int) us->IntsAre us ns
 | [],_,.nil=>.nil
 | n::ns,_,.cons r t=>by
   obtain ⟨k,rfl⟩:=r;exact .cons n k (J4O t)
theorem J7d (hc:X.calm=true):J0I X (.builtin "sorted") (J6T X.K):=by
 intro pins s σ H xs us Q I r h;obtain ⟨l,ns,rfl,hq,h64,q⟩:=h;obtain ⟨lv,rfl,rl⟩:=J2r r;cases (show lv=Value.ref l from rl);obtain ⟨its,r',pl,hz⟩:=I.list hq;have hl:=r'.length;rw [yC] at hl;refine sorted_ints pl.isList (J4O r') (by omega) fun out ns' a1 a2 a3=>?_;have hsz:((s.heap.push (seqObj "list" #[] 0)).update s.heap.objs.size (Obj.mapSeq (·++its.toArray))).objs.size=s.heap.objs.size+1:=by
  rw [Heap.size_update,size_push']
 have hoL:(((s.heap.push (seqObj "list" #[] 0)).update s.heap.objs.size (Obj.mapSeq (·++its.toArray))).push (seqObj "list" its.toArray 0)).get? (s.heap.objs.size+1)=some (seqObj "list" its.toArray 0):=by
  rw [<- hsz];exact y6 _ rfl
 obtain ⟨e,he⟩:=sortedHeap_at (out:=out) hoL;refine ⟨.ref _,upd H (s.heap.objs.size+1) (.lst (ns'.map V.int)),I.laid (t':=s.toks) (fun b o eb=>?_) (Nat.le_succ _) (show ObjOk X.prog X.w _ _ _ (.lst (ns'.map V.int)) from ⟨by rw [yC,a2.length_eq,sizeLine_eq];omega,out.toList,e,J13 a1,he⟩),rfl,q _ ns' (I.hok.fresh (Nat.le_succ _)) a2 a3⟩;have hlt:b<s.heap.objs.size:=y7 eb;unfold sortedAll;rw [sortedHeap_old (yr (Nat.lt_succ_of_lt hlt)) (by rw [size_push',hsz];exact Nat.lt_succ_of_lt (Nat.lt_succ_of_lt hlt)),Heap.get?_push_ne _ _ _ (by rw [hsz];exact yr (Nat.lt_succ_of_lt hlt)),Heap.get?_update_ne _ _ _ _ (yr hlt),Heap.get?_push_ne _ _ _ (yr hlt)];exact eb
theorem JcL {K:Frag}(e:X.K=K)(hc:X.calm=true):J0I X (.builtin "sorted") (J6T K):=by subst e;exact J7d hc
end
section
variable {X:Cx}
theorem JeG (K:Frag)(i j m:Nat){x y z:Str}{p1 p2 p3 pos:Pos}{k:Nat}(hN:X.N.Nodup)(e:X.K=K:=by rfl)(hc:X.calm=true:=by rfl)(hi:X.N[i]?=some x:=by rfl)(hj:X.N[j]?=some y:=by rfl)(hm:X.N[m]?=some z:=by rfl)
 (hv:X.env.scope.names.lookup x=some .local:=by rfl) (hw:X.env.scope.names.lookup y=some .local:=by rfl) (hx:X.env.scope.names.lookup z=some .local:=by rfl)
 (h1:(assignEach [.Name x p1,.Name y p2,.Name z p3] X.env).map (·.2)=assign (.Name x p1) X.env::(assignEach [.Name y p2,.Name z p3] X.env).map (·.2):=by rfl)
 (h2:(assignEach [.Name y p2,.Name z p3] X.env).map (·.2)=assign (.Name y p2) X.env::(assignEach [.Name z p3] X.env).map (·.2):=by rfl)
 (h3:(assignEach [.Name z p3] X.env).map (·.2)=assign (.Name z p3) X.env::(assignEach [] X.env).map (·.2):=by rfl)
 (hn:(assignEach [.Name x p1,.Name y p2,.Name z p3] X.env).length=3:=by rfl) (hst:(assignEach [.Name x p1,.Name y p2,.Name z p3] X.env).findIdx? (·.1)=none:=by rfl):PG X (.Tuple [.Name x p1,.Name y p2,.Name z p3] k pos) (JcQ K 3 (J0O (J01 i) (J0O (J01 j) (J0O (J01 m) J2g)))) :=
 J1C e hc (Jq (pgl i hN hi hv) (Jq (pgl j hN hj hw) (Jq (pgl m hN hm hx) J0w h3) h2) h1) hn hst
end
end L2
namespace NS
open PySem L2
seal L2.PE L2.PT L2.PA L2.PS L2.PSs L2.PG L2.PI L2.PTs L2.PW L2.PO L2.PGs L2.PPs L2.OpR L2.J0I L2.IxR L2.SlR L2.UnR L2.Jd3
def top (i:Nat):Stmt:=PySem.Challenge.pw_crosshall_k36_whole_parts_add_up.main.body.getD i (.Pass ⟨0,0,0,0⟩)
abbrev J6Q:Stmt:=top 5
abbrev J0f:Stmt:=top 8
abbrev J0R:Stmt:=top 10
abbrev J1I:Stmt:=top 13
abbrev J1o:Stmt:=top 14
abbrev J1x:Stmt:=top 15
abbrev J1v:Stmt:=top 16
abbrev J2Q:Stmt:=top 17
abbrev J26:Stmt:=top 18
abbrev J1n:Stmt:=top 19
abbrev J2z:Stmt:=top 20
abbrev J16:Stmt:=top 21
abbrev J1G:Stmt:=top 22
abbrev J3b:Stmt:=top 23
abbrev J1w:Stmt:=top 24
abbrev J3s:Stmt:=top 25
abbrev J5a:Stmt:=top 27
abbrev J3v:Stmt:=top 28
abbrev J3w:Stmt:=top 29
abbrev J3c:Stmt:=top 30
abbrev J59:Stmt:=top 31
abbrev J2y:Stmt:=top 32
abbrev J3t:Stmt:=top 33
abbrev J0Y:Stmt:=top 34
abbrev J3u:Stmt:=top 35
abbrev s_law:Stmt:=top 36
abbrev J0C:Stmt:=J7U (top 7) 0
abbrev J1J:Stmt:=J7U (top 7) 1
abbrev J1y:Stmt:=J7U (top 7) 2
abbrev J27:Stmt:=J7U (top 7) 3
abbrev J1f:Stmt:=J7U (top 7) 4
theorem J3r:FnScope ["many","arcs","flow","told","arc","number"] ["many","arcs","flow"] (Jf J6Q):=⟨rfl,rfl,rfl,by decide +kernel,rfl,by decide +kernel,by decide +kernel⟩
theorem J0j:FnScope ["many","arcs","leasts","over","drawn","given","due","stream"] ["many","arcs"] (Jf J0f):=⟨rfl,rfl,rfl,by decide +kernel,rfl,by decide +kernel,by decide +kernel⟩
theorem J2x:FnScope ["grid","width"] ["grid"] (Jf J0R):=⟨rfl,rfl,rfl,by decide +kernel,rfl,by decide +kernel,by decide +kernel⟩
theorem J57:FnScope ["group","many"] ["group","many"] (Jf J1I):=⟨rfl,rfl,rfl,by decide +kernel,rfl,by decide +kernel,by decide +kernel⟩
theorem J33:FnScope ["one","other","shared"] ["one","other"] (Jf J1o):=⟨rfl,rfl,rfl,by decide +kernel,rfl,by decide +kernel,by decide +kernel⟩
theorem J0T:FnScope ["groups","many","at","group","other"] ["groups","many"] (Jf J1x):=⟨rfl,rfl,rfl,by decide +kernel,rfl,by decide +kernel,by decide +kernel⟩
theorem J4z:FnScope ["groups"] ["groups"] (Jf J1v):=⟨rfl,rfl,rfl,by decide +kernel,rfl,by decide +kernel,by decide +kernel⟩
theorem J56:FnScope ["groups","upto","place","held"] ["groups","upto","place"] (Jf J2Q):=⟨rfl,rfl,rfl,by decide +kernel,rfl,by decide +kernel,by decide +kernel⟩
theorem J0F:FnScope ["side","groups","sums","told","at","number","group"] ["side","groups","sums"] (Jf J26):=⟨rfl,rfl,rfl,by decide +kernel,rfl,by decide +kernel,by decide +kernel⟩
theorem J5X:FnScope ["side","groups","sums"] ["side","groups","sums"] (Jf J1n):=⟨rfl,rfl,rfl,by decide +kernel,rfl,by decide +kernel,by decide +kernel⟩
theorem J0J:FnScope ["grid","told","row","numbers","column","number"] ["grid"] (Jf J2z):=⟨rfl,rfl,rfl,by decide +kernel,rfl,by decide +kernel,by decide +kernel⟩
theorem J0x:FnScope ["grid","row_groups","told","column","number"] ["grid","row_groups"] (Jf J16):=⟨rfl,rfl,rfl,by decide +kernel,rfl,by decide +kernel,by decide +kernel⟩
theorem J15:FnScope ["grid","row_groups","column_groups","row_sums","told"] ["grid","row_groups","column_groups"] (Jf J1G):=⟨rfl,rfl,rfl,by decide +kernel,rfl,by decide +kernel,by decide +kernel⟩
theorem J1i:FnScope ["links","told","start","goal","number"] ["links"] (Jf J3b):=⟨rfl,rfl,rfl,by decide +kernel,rfl,by decide +kernel,by decide +kernel⟩
theorem J0m:FnScope ["links","many","whole","nodes","arcs","start","goal","number"] ["links","many","whole"] (Jf J1w):=⟨rfl,rfl,rfl,by decide +kernel,rfl,by decide +kernel,by decide +kernel⟩
theorem J2w:FnScope ["grid","many","row_groups","column_groups","whole","width","links","flow"] ["grid","many","row_groups","column_groups"] (Jf J3s):=⟨rfl,rfl,rfl,by decide +kernel,rfl,by decide +kernel,by decide +kernel⟩
theorem J41:FnScope ["_law_script","_law_k","_law_many_here","_law_number"] ["_law_script","_law_k","_law_many_here"] (Jf J5a):=⟨rfl,rfl,rfl,by decide +kernel,rfl,by decide +kernel,by decide +kernel⟩
theorem J0X:FnScope ["_law_script","_law_rows","_law_columns","_law_grid_here","_law_row","_law_column","_law_k","_law_number"] ["_law_script","_law_rows","_law_columns"] (Jf J3v):=⟨rfl,rfl,rfl,by decide +kernel,rfl,by decide +kernel,by decide +kernel⟩
theorem J40:FnScope ["_law_group","_law_groups_here","_law_other","_law_both"] ["_law_group","_law_groups_here"] (Jf J3w):=⟨rfl,rfl,rfl,by decide +kernel,rfl,by decide +kernel,by decide +kernel⟩
theorem J0G:FnScope ["_law_script","_law_at","_law_size","_law_most","_law_order","_law_place","_law_groups_here","_law_k","_law_begin","_law_group"] ["_law_script","_law_at","_law_size","_law_most"] (Jf J3c):=⟨rfl,rfl,rfl,by decide +kernel,rfl,by decide +kernel,by decide +kernel⟩
theorem J6b:FnScope ["_law_found","_law_number","_law_many_here","_law_whole","_law_due"] ["_law_found","_law_number","_law_many_here","_law_whole"] (Jf J59):=⟨rfl,rfl,rfl,by decide +kernel,rfl,by decide +kernel,by decide +kernel⟩
theorem J24:FnScope ["_law_told","_law_grid_here","_law_row","_law_number"] ["_law_told","_law_grid_here"] (Jf J2y):=⟨rfl,rfl,rfl,by decide +kernel,rfl,by decide +kernel,by decide +kernel⟩
theorem JaZ:FnScope ["_law_grid_here","_law_rows","_law_columns"] ["_law_grid_here","_law_rows","_law_columns"] (Jf J3t):=⟨rfl,rfl,rfl,by decide +kernel,rfl,by decide +kernel,by decide +kernel⟩
theorem J09:FnScope ["_law_grid_here","_law_many_here","_law_by_rows","_law_by_columns","_law_told","_law_rows","_law_columns","_law_whole","_law_blocks","_law_row","_law_group","_law_some","_law_others"] ["_law_grid_here","_law_many_here","_law_by_rows","_law_by_columns","_law_told"] (Jf J0Y):=⟨rfl,rfl,rfl,by decide +kernel,rfl,by decide +kernel,by decide +kernel⟩
theorem J6c:FnScope ["_law_script","_law_grid_here","_law_way"] ["_law_script","_law_grid_here"] (Jf J3u):=⟨rfl,rfl,rfl,by decide +kernel,rfl,by decide +kernel,by decide +kernel⟩
theorem J0U:FnScope ["_law_script","_law_rows","_law_columns","_law_grid_here","_law_many_here","_law_by_rows","_law_by_columns","_law_kept","_law_told","_law_row","_law_again"] ["_law_script"] (Jf s_law):=⟨rfl,rfl,rfl,by decide +kernel,rfl,by decide +kernel,by decide +kernel⟩
theorem J0V:FnScope ["self","many","arcs","flow","place","arc"] ["self","many","arcs","flow"] (Jf J0C):=⟨rfl,rfl,rfl,by decide +kernel,rfl,by decide +kernel,by decide +kernel⟩
theorem J58:FnScope ["self","place","sign"] ["self","place","sign"] (Jf J1J):=⟨rfl,rfl,rfl,by decide +kernel,rfl,by decide +kernel,by decide +kernel⟩
theorem JP:FnScope ["self","start","came","rim","further","node","place","to","sign"] ["self","start"] (Jf J1y):=⟨rfl,rfl,rfl,by decide +kernel,rfl,by decide +kernel,by decide +kernel⟩
theorem J0Q:FnScope ["self","start","goal","came","taken","node"] ["self","start","goal"] (Jf J27):=⟨rfl,rfl,rfl,by decide +kernel,rfl,by decide +kernel,by decide +kernel⟩
theorem J0k:FnScope ["self","start","goal","limit","pushed","way","through","place","sign"] ["self","start","goal","limit"] (Jf J1f):=⟨rfl,rfl,rfl,by decide +kernel,rfl,by decide +kernel,by decide +kernel⟩
structure Txt (K:Frag)(mg:Str->Option Value)(f:Nat->Addr)(fd:Nat->FuncData):Prop where
 wH:DefOk K mg "gains" J6Q ["many","arcs","flow"] (f 5) (fd 5)
 wI:DefOk K mg "flow_or_cut" J0f ["many","arcs"] (f 8) (fd 8)
 wu:DefOk K mg "column_sums" J0R ["grid"] (f 10) (fd 10)
 wJ:DefOk K mg "asked_group" J1I ["group","many"] (f 13) (fd 13)
 wK:DefOk K mg "asked_pair" J1o ["one","other"] (f 14) (fd 14)
 wv:DefOk K mg "asked_groups" J1x ["groups","many"] (f 15) (fd 15)
 ww:DefOk K mg "widest_first" J1v ["groups"] (f 16) (fd 16)
 wx:DefOk K mg "closest" J2Q ["groups","upto","place"] (f 17) (fd 17)
 wy:DefOk K mg "links_up" J26 ["side","groups","sums"] (f 18) (fd 18)
 wz:DefOk K mg "links_down" J1n ["side","groups","sums"] (f 19) (fd 19)
 wL:DefOk K mg "box_links" J2z ["grid"] (f 20) (fd 20)
 wM:DefOk K mg "column_links" J16 ["grid","row_groups"] (f 21) (fd 21)
 wN:DefOk K mg "all_links" J1G ["grid","row_groups","column_groups"] (f 22) (fd 22)
 wO:DefOk K mg "nodes_of" J3b ["links"] (f 23) (fd 23)
 wP:DefOk K mg "rounded_flow" J1w ["links","many","whole"] (f 24) (fd 24)
 wA:DefOk K mg "parts" J3s ["grid","many","row_groups","column_groups"] (f 25) (fd 25)
 we:DefOk K mg "_law_draw" J5a ["_law_script","_law_k","_law_many_here"] (f 27) (fd 27)
 wQ:DefOk K mg "_law_grid" J3v ["_law_script","_law_rows","_law_columns"] (f 28) (fd 28)
 wR:DefOk K mg "_law_fits" J3w ["_law_group","_law_groups_here"] (f 29) (fd 29)
 wB:DefOk K mg "_law_groups" J3c ["_law_script","_law_at","_law_size","_law_most"] (f 30) (fd 30)
 wS:DefOk K mg "_law_near" J59 ["_law_found","_law_number","_law_many_here","_law_whole"] (f 31) (fd 31)
 wT:DefOk K mg "_law_is_grid" J2y ["_law_told","_law_grid_here"] (f 32) (fd 32)
 wm:DefOk K mg "_law_sum" J3t ["_law_grid_here","_law_rows","_law_columns"] (f 33) (fd 33)
 wC:DefOk K mg "_law_right" J0Y ["_law_grid_here","_law_many_here","_law_by_rows","_law_by_columns","_law_told"] (f 34) (fd 34)
 wU:DefOk K mg "_law_many" J3u ["_law_script","_law_grid_here"] (f 35) (fd 35)
 wV:DefOk K mg "law" s_law ["_law_script"] (f 36) (fd 36)
 wW:MthOk K "__init__" "Stream.__init__" J0C ["self","many","arcs","flow"] (f 8000) (fd 8000)
 wD:MthOk K "room" "Stream.room" J1J ["self","place","sign"] (f 8001) (fd 8001)
 wE:MthOk K "reach" "Stream.reach" J1y ["self","start"] (f 8002) (fd 8002)
 wX:MthOk K "way" "Stream.way" J27 ["self","start","goal"] (f 8003) (fd 8003)
 wY:MthOk K "push" "Stream.push" J1f ["self","start","goal","limit"] (f 8004) (fd 8004)
 wf:OwnOk K mg "Stream" (f 7) (f 8000)
 wZ:Meth K (f 7) "room" (f 8001)
 w5:Meth K (f 7) "reach" (f 8002)
 w6:Meth K (f 7) "way" (f 8003)
 w8:Meth K (f 7) "push" (f 8004)
 wF:findIn K (.ref (f 7)) "arcs"=some none
 wn:findIn K (.ref (f 7)) "borne"=some none
 wo:findIn K (.ref (f 7)) "steps"=some none
 w9:mg "bool"=none
 wk:mg "enumerate"=none
 yb:mg "int"=none
 wp:mg "isinstance"=none
 wa:mg "len"=none
 wl:mg "list"=none
 wG:mg "min"=none
 wj:mg "range"=none
 yc:mg "set"=none
 wq:mg "sorted"=none
 wg:mg "sum"=none
 yd:mg "zip"=none
 ye:∃ tk,mg "MOST_GROUPS"=some (.int (8) tk)
theorem Jby {α:Type}{C:List α->Prop}(h:C [])(us:List α)(e:us.length=0):C us:=(length_eq_zero_iff.mp e) ▸ h
theorem J3d {α:Type}{n:Nat}{C:List α->Prop}(h:∀ (a:α) (us:List α),us.length=n->C (a::us))(us:List α)(e:us.length=n+1):C us:=by
 cases us with
 | nil=>cases e
 | cons a r=>exact h a r (Nat.succ.inj e)
theorem J7O {fd:FuncData}{ps:List Str}(h:∀ a:Value,bindArgs fd ⟨[a],[]⟩=pure (ps.zip [a]))(us:List Value)(e:us.length=1):bindArgs fd ⟨us,[]⟩=pure (ps.zip us):=by
 revert us
 exact J3d fun a=>Jby (h a)
theorem J3G {fd:FuncData}{ps:List Str}(h:∀ a b:Value,bindArgs fd ⟨[a,b],[]⟩=pure (ps.zip [a,b]))(us:List Value)(e:us.length=2):bindArgs fd ⟨us,[]⟩=pure (ps.zip us):=by
 revert us
 exact J3d fun a=>J3d fun b=>Jby (h a b)
theorem J2I {fd:FuncData}{ps:List Str}(h:∀ a b c:Value,bindArgs fd ⟨[a,b,c],[]⟩=pure (ps.zip [a,b,c]))(us:List Value)(e:us.length=3):bindArgs fd ⟨us,[]⟩=pure (ps.zip us):=by
 revert us
 exact J3d fun a=>J3d fun b=>J3d fun c=>Jby (h a b c)
theorem J7N {fd:FuncData}{ps:List Str}(h:∀ a b c d:Value,bindArgs fd ⟨[a,b,c,d],[]⟩=pure (ps.zip [a,b,c,d]))(us:List Value)(e:us.length=4):bindArgs fd ⟨us,[]⟩=pure (ps.zip us):=by
 revert us
 exact J3d fun a=>J3d fun b=>J3d fun c=>J3d fun d=>Jby (h a b c d)
theorem Jen {fd:FuncData}{ps:List Str}(h:∀ a b c d e:Value,bindArgs fd ⟨[a,b,c,d,e],[]⟩=pure (ps.zip [a,b,c,d,e]))(us:List Value)(e:us.length=5):bindArgs fd ⟨us,[]⟩=pure (ps.zip us):=by
 revert us
 exact J3d fun a=>J3d fun b=>J3d fun c=>J3d fun d=>J3d fun e=>Jby (h a b c d e)
theorem dkm {K:Frag}{h:Heap}{mg:Str->Option Value}{x:Str}{st:Stmt}{ps:List Str}{f:Addr}{fd:FuncData}(X:K.In h)(G:h.Ns mainGlobals mg)(F:Fun K x x st f fd)(hb:∀ kV doc pm an cdv ct (us:List Value),us.length=ps.length->bindArgs (PySem.W.fnOf x x (J1g st) (J18 st) (Jf st) .none kV doc pm an cdv ct) ⟨us,[]⟩=pure (ps.zip us))(a:nsIn K mainGlobals x=some (some (.ref f))):DefOk K mg x st ps f fd:=⟨F,F.binds hb,PySem.W.mg_of X G a⟩
theorem txt_mk {K:Frag}{h:Heap}{mg:Str->Option Value}(X:K.In h)(G:h.Ns mainGlobals mg)
 {f5 f8 f10 f13 f14 f15 f16 f17 f18 f19 f20 f21 f22 f23 f24 f25 f27 f28 f29 f30 f31 f32 f33 f34 f35 f36 f8000 f8001 f8002 f8003 f8004:Addr} {d5 d8 d10 d13 d14 d15 d16 d17 d18 d19 d20 d21 d22 d23 d24 d25 d27 d28 d29 d30 d31 d32 d33 d34 d35 d36 d8000 d8001 d8002 d8003 d8004:FuncData}
 {f7:Addr}
 (a7:nsIn K mainGlobals "Stream"=some (some (.ref f7)))
 (a5:nsIn K mainGlobals "gains"=some (some (.ref f5)))
 (l5:Fun K "gains" "gains" J6Q f5 d5)
 (a8:nsIn K mainGlobals "flow_or_cut"=some (some (.ref f8)))
 (l8:Fun K "flow_or_cut" "flow_or_cut" J0f f8 d8)
 (a10:nsIn K mainGlobals "column_sums"=some (some (.ref f10)))
 (l10:Fun K "column_sums" "column_sums" J0R f10 d10)
 (a13:nsIn K mainGlobals "asked_group"=some (some (.ref f13)))
 (l13:Fun K "asked_group" "asked_group" J1I f13 d13)
 (a14:nsIn K mainGlobals "asked_pair"=some (some (.ref f14)))
 (l14:Fun K "asked_pair" "asked_pair" J1o f14 d14)
 (a15:nsIn K mainGlobals "asked_groups"=some (some (.ref f15)))
 (l15:Fun K "asked_groups" "asked_groups" J1x f15 d15)
 (a16:nsIn K mainGlobals "widest_first"=some (some (.ref f16)))
 (l16:Fun K "widest_first" "widest_first" J1v f16 d16)
 (a17:nsIn K mainGlobals "closest"=some (some (.ref f17)))
 (l17:Fun K "closest" "closest" J2Q f17 d17)
 (a18:nsIn K mainGlobals "links_up"=some (some (.ref f18)))
 (l18:Fun K "links_up" "links_up" J26 f18 d18)
 (a19:nsIn K mainGlobals "links_down"=some (some (.ref f19)))
 (l19:Fun K "links_down" "links_down" J1n f19 d19)
 (a20:nsIn K mainGlobals "box_links"=some (some (.ref f20)))
 (l20:Fun K "box_links" "box_links" J2z f20 d20)
 (a21:nsIn K mainGlobals "column_links"=some (some (.ref f21)))
 (l21:Fun K "column_links" "column_links" J16 f21 d21)
 (a22:nsIn K mainGlobals "all_links"=some (some (.ref f22)))
 (l22:Fun K "all_links" "all_links" J1G f22 d22)
 (a23:nsIn K mainGlobals "nodes_of"=some (some (.ref f23)))
 (l23:Fun K "nodes_of" "nodes_of" J3b f23 d23)
 (a24:nsIn K mainGlobals "rounded_flow"=some (some (.ref f24)))
 (l24:Fun K "rounded_flow" "rounded_flow" J1w f24 d24)
 (a25:nsIn K mainGlobals "parts"=some (some (.ref f25)))
 (l25:Fun K "parts" "parts" J3s f25 d25)
 (a27:nsIn K mainGlobals "_law_draw"=some (some (.ref f27)))
 (l27:Fun K "_law_draw" "_law_draw" J5a f27 d27)
 (a28:nsIn K mainGlobals "_law_grid"=some (some (.ref f28)))
 (l28:Fun K "_law_grid" "_law_grid" J3v f28 d28)
 (a29:nsIn K mainGlobals "_law_fits"=some (some (.ref f29)))
 (l29:Fun K "_law_fits" "_law_fits" J3w f29 d29)
 (a30:nsIn K mainGlobals "_law_groups"=some (some (.ref f30)))
 (l30:Fun K "_law_groups" "_law_groups" J3c f30 d30)
 (a31:nsIn K mainGlobals "_law_near"=some (some (.ref f31)))
 (l31:Fun K "_law_near" "_law_near" J59 f31 d31)
 (a32:nsIn K mainGlobals "_law_is_grid"=some (some (.ref f32)))
 (l32:Fun K "_law_is_grid" "_law_is_grid" J2y f32 d32)
 (a33:nsIn K mainGlobals "_law_sum"=some (some (.ref f33)))
 (l33:Fun K "_law_sum" "_law_sum" J3t f33 d33)
 (a34:nsIn K mainGlobals "_law_right"=some (some (.ref f34)))
 (l34:Fun K "_law_right" "_law_right" J0Y f34 d34)
 (a35:nsIn K mainGlobals "_law_many"=some (some (.ref f35)))
 (l35:Fun K "_law_many" "_law_many" J3u f35 d35)
 (a36:nsIn K mainGlobals "law"=some (some (.ref f36)))
 (l36:Fun K "law" "law" s_law f36 d36)
 (a8000:findIn K (.ref f7) "__init__"=some (some (.ref f8000)))
 (l8000:Fun K "__init__" "Stream.__init__" J0C f8000 d8000)
 (b8000:PySem.W.isFn K (.ref f8000)=true)
 (a8001:findIn K (.ref f7) "room"=some (some (.ref f8001)))
 (l8001:Fun K "room" "Stream.room" J1J f8001 d8001)
 (b8001:PySem.W.isFn K (.ref f8001)=true)
 (a8002:findIn K (.ref f7) "reach"=some (some (.ref f8002)))
 (l8002:Fun K "reach" "Stream.reach" J1y f8002 d8002)
 (b8002:PySem.W.isFn K (.ref f8002)=true)
 (a8003:findIn K (.ref f7) "way"=some (some (.ref f8003)))
 (l8003:Fun K "way" "Stream.way" J27 f8003 d8003)
 (b8003:PySem.W.isFn K (.ref f8003)=true)
 (a8004:findIn K (.ref f7) "push"=some (some (.ref f8004)))
 (l8004:Fun K "push" "Stream.push" J1f f8004 d8004)
 (b8004:PySem.W.isFn K (.ref f8004)=true)
 (o_Stream_pg:PySem.W.plainGet K f7 Str.empty=true)
 (o_Stream_hd:PySem.W.hasDictIn K f7=true)
 (o_Stream_po:PySem.W.plainOver K f7=true)
 (o_Stream_sa:findIn K (.ref f7) "__setattr__"=some (some (.builtin "object.__setattr__")))
 (o_Stream_ma:PySem.W.makesIn K f7=true)
 (o_Stream_kp:PySem.W.keepIn K (.ref f7)=true)
 (v_na_Stream_arcs:findIn K (.ref f7) "arcs"=some none)
 (v_na_Stream_borne:findIn K (.ref f7) "borne"=some none)
 (v_na_Stream_steps:findIn K (.ref f7) "steps"=some none)
 (z_bool:nsIn K mainGlobals "bool"=some none)
 (z_enumerate:nsIn K mainGlobals "enumerate"=some none)
 (z_int:nsIn K mainGlobals "int"=some none)
 (z_isinstance:nsIn K mainGlobals "isinstance"=some none)
 (z_len:nsIn K mainGlobals "len"=some none)
 (z_list:nsIn K mainGlobals "list"=some none)
 (z_min:nsIn K mainGlobals "min"=some none)
 (z_range:nsIn K mainGlobals "range"=some none)
 (z_set:nsIn K mainGlobals "set"=some none)
 (z_sorted:nsIn K mainGlobals "sorted"=some none)
 (z_sum:nsIn K mainGlobals "sum"=some none)
 (z_zip:nsIn K mainGlobals "zip"=some none)
 {tk_MOST_GROUPS:Tok} (y_MOST_GROUPS:nsIn K mainGlobals "MOST_GROUPS"=some (some (.int (8) tk_MOST_GROUPS)))
 : ∃ f fd,Txt K mg f fd/\f 36=f36/\∃ kV dc pm an cd ct,fd 36=PySem.W.fnOf "law" "law" (J1g s_law) (J18 s_law) (Jf s_law) .none kV dc pm an cd ct:=by
 obtain ⟨kV,dc,pm,an,cd,ct,e⟩:∃ kV dc pm an cd ct,d36=PySem.W.fnOf "law" "law" (J1g s_law) (J18 s_law) (Jf s_law) .none kV dc pm an cd ct:=by
  obtain ⟨⟨_,_,kV,dc,pm,an,cd,ct,_,e,_⟩,_⟩:=l36;exact ⟨kV,dc,pm,an,cd,ct,e⟩
 refine ⟨fun i=>match i with | 5=>f5 | 8=>f8 | 10=>f10 | 13=>f13 | 14=>f14 | 15=>f15 | 16=>f16 | 17=>f17 | 18=>f18 | 19=>f19 | 20=>f20 | 21=>f21 | 22=>f22 | 23=>f23 | 24=>f24 | 25=>f25 | 27=>f27 | 28=>f28 | 29=>f29 | 30=>f30 | 31=>f31 | 32=>f32 | 33=>f33 | 34=>f34 | 35=>f35 | 36=>f36 | 8000=>f8000 | 8001=>f8001 | 8002=>f8002 | 8003=>f8003 | 8004=>f8004 | 7=>f7 | _=>0,fun i=>match i with | 5=>d5 | 8=>d8 | 10=>d10 | 13=>d13 | 14=>d14 | 15=>d15 | 16=>d16 | 17=>d17 | 18=>d18 | 19=>d19 | 20=>d20 | 21=>d21 | 22=>d22 | 23=>d23 | 24=>d24 | 25=>d25 | 27=>d27 | 28=>d28 | 29=>d29 | 30=>d30 | 31=>d31 | 32=>d32 | 33=>d33 | 34=>d34 | 35=>d35 | 36=>d36 | 8000=>d8000 | 8001=>d8001 | 8002=>d8002 | 8003=>d8003 | 8004=>d8004 | _=>d36,⟨?_,?_,?_,?_,?_,?_,?_,?_,?_,?_,?_,?_,?_,?_,?_,?_,?_,?_,?_,?_,?_,?_,?_,?_,?_,?_,?_,?_,?_,?_,?_,?_,?_,?_,?_,?_,?_,?_,?_,?_,?_,?_,?_,?_,?_,?_,?_,?_,?_,?_,?_,?_⟩,rfl,kV,dc,pm,an,cd,ct,e⟩
 ·exact dkm X G l5 (fun _ _ _ _ _ _=>J2I fun _ _ _=>rfl) a5
 ·exact dkm X G l8 (fun _ _ _ _ _ _=>J3G fun _ _=>rfl) a8
 ·exact dkm X G l10 (fun _ _ _ _ _ _=>J7O fun _=>rfl) a10
 ·exact dkm X G l13 (fun _ _ _ _ _ _=>J3G fun _ _=>rfl) a13
 ·exact dkm X G l14 (fun _ _ _ _ _ _=>J3G fun _ _=>rfl) a14
 ·exact dkm X G l15 (fun _ _ _ _ _ _=>J3G fun _ _=>rfl) a15
 ·exact dkm X G l16 (fun _ _ _ _ _ _=>J7O fun _=>rfl) a16
 ·exact dkm X G l17 (fun _ _ _ _ _ _=>J2I fun _ _ _=>rfl) a17
 ·exact dkm X G l18 (fun _ _ _ _ _ _=>J2I fun _ _ _=>rfl) a18
 ·exact dkm X G l19 (fun _ _ _ _ _ _=>J2I fun _ _ _=>rfl) a19
 ·exact dkm X G l20 (fun _ _ _ _ _ _=>J7O fun _=>rfl) a20
 ·exact dkm X G l21 (fun _ _ _ _ _ _=>J3G fun _ _=>rfl) a21
 ·exact dkm X G l22 (fun _ _ _ _ _ _=>J2I fun _ _ _=>rfl) a22
 ·exact dkm X G l23 (fun _ _ _ _ _ _=>J7O fun _=>rfl) a23
 ·exact dkm X G l24 (fun _ _ _ _ _ _=>J2I fun _ _ _=>rfl) a24
 ·exact dkm X G l25 (fun _ _ _ _ _ _=>J7N fun _ _ _ _=>rfl) a25
 ·exact dkm X G l27 (fun _ _ _ _ _ _=>J2I fun _ _ _=>rfl) a27
 ·exact dkm X G l28 (fun _ _ _ _ _ _=>J2I fun _ _ _=>rfl) a28
 ·exact dkm X G l29 (fun _ _ _ _ _ _=>J3G fun _ _=>rfl) a29
 ·exact dkm X G l30 (fun _ _ _ _ _ _=>J7N fun _ _ _ _=>rfl) a30
 ·exact dkm X G l31 (fun _ _ _ _ _ _=>J7N fun _ _ _ _=>rfl) a31
 ·exact dkm X G l32 (fun _ _ _ _ _ _=>J3G fun _ _=>rfl) a32
 ·exact dkm X G l33 (fun _ _ _ _ _ _=>J2I fun _ _ _=>rfl) a33
 ·exact dkm X G l34 (fun _ _ _ _ _ _=>Jen fun _ _ _ _ _=>rfl) a34
 ·exact dkm X G l35 (fun _ _ _ _ _ _=>J3G fun _ _=>rfl) a35
 ·exact dkm X G l36 (fun _ _ _ _ _ _=>J7O fun _=>rfl) a36
 ·exact ⟨l8000,l8000.binds (fun _ _ _ _ _ _=>J7N fun _ _ _ _=>rfl),b8000⟩
 ·exact ⟨l8001,l8001.binds (fun _ _ _ _ _ _=>J2I fun _ _ _=>rfl),b8001⟩
 ·exact ⟨l8002,l8002.binds (fun _ _ _ _ _ _=>J3G fun _ _=>rfl),b8002⟩
 ·exact ⟨l8003,l8003.binds (fun _ _ _ _ _ _=>J2I fun _ _ _=>rfl),b8003⟩
 ·exact ⟨l8004,l8004.binds (fun _ _ _ _ _ _=>J7N fun _ _ _ _=>rfl),b8004⟩
 ·exact (JdF X G a7 o_Stream_pg o_Stream_hd o_Stream_po o_Stream_sa o_Stream_ma a8000 b8000 o_Stream_kp)
 ·exact ⟨a8001,b8001,l8001.kp⟩
 ·exact ⟨a8002,b8002,l8002.kp⟩
 ·exact ⟨a8003,b8003,l8003.kp⟩
 ·exact ⟨a8004,b8004,l8004.kp⟩
 ·exact v_na_Stream_arcs
 ·exact v_na_Stream_borne
 ·exact v_na_Stream_steps
 ·exact (zd X G z_bool)
 ·exact (zd X G z_enumerate)
 ·exact (zd X G z_int)
 ·exact (zd X G z_isinstance)
 ·exact (zd X G z_len)
 ·exact (zd X G z_list)
 ·exact (zd X G z_min)
 ·exact (zd X G z_range)
 ·exact (zd X G z_set)
 ·exact (zd X G z_sorted)
 ·exact (zd X G z_sum)
 ·exact (zd X G z_zip)
 ·exact ⟨_,PySem.W.mg_of X G y_MOST_GROUPS⟩
section
variable {P:Program}{w:World}{K:Frag}{mg:Str->Option Value}{base:Heap}{f:Nat->Addr}{fd:Nat->FuncData}
variable {C R c i j m n s t:Nat}{cs fl fl' r rs sums x y zs:List Int}{d many whole z:Int}{H H' H1 H2:Hp}{D a lc lg lr p q:Addr}{b:Nat->Nat->Int}{Q:VK}{ns:List Nat}{out xs ys:List V}{v:V}{F G:Nat->Int}{ks:List NPK}{cgs g gs rgs wc wr ws:List (List Int)}{ps:List Addr}{o:Option Nat}
theorem J99 (i j:Str):JaY (.str i) (.str j)=true:=rfl
theorem J9a (i j:Int):JaY (.int i) (.int j)=true:=rfl
theorem J9b (i j:Bool):JaY (.bl i) (.bl j)=true:=rfl
open Lean in
local macro_rules | `(tactic|walk_at $s:str)=>do
 let g:=fun (t:String)=>(t.splitOn ",").toArray.mapM fun x=>`(Parser.Tactic.simpLemma|$(mkIdent x.toName):ident)
 let b:="J6T,JaI,Jb8,J4W,J8n,J8m,L2.start,J0r,JaH,J4s,J3m,J2q,J4h,J01,J7m,L2.tC,L2.tOp,L2.tUn,J94,L2.tCB,J68,JaG,JaE,L2.tB,Jdn,Jcl,L2.tOr,JaP,Jdm,L2.tIf,Jdp,Jdl,L2.tBM,L2.rI,L2.rI0,L2.rU,L2.rEq,L2.rNe,J9a,J9b,J99,J7n,J9v,JbC,J9R,Jcu,Jb7,J4E,JaK,J4V,L2.tSl,JaF,J6G,Jcs,Jel,Jd6,Jdq,Jdu,JaJ,J6U,J9d,Jdr,J6H,JaL,Jb0,JaN,ipI,JcO,JdY,List.map_cons,List.map_nil,List.cons_append,List.nil_append,List.length_cons,List.length_nil,List.getElem?_cons_zero,List.getElem?_cons_succ,Option.some.injEq,exists_eq_left',exists_eq_left,List.set_cons_zero,List.set_cons_succ,List.cons.injEq,and_true,true_and,V.int.injEq,V.str.injEq,V.bl.injEq,V.ref.injEq,V.ty.injEq,exists_and_left,exists_and_right,List.append_nil,reduceCtorEq,false_and,and_false,exists_false,or_false,false_or,decide_true,decide_false,Bool.not_true,Bool.not_false,if_true,if_false,Bool.false_eq_true,ite_true,ite_false,and_assoc,Nat.reduceAdd,Nat.reduceSub,List.replicate_succ,List.replicate_zero,Nat.zero_add,Nat.add_zero,Nat.sub_self"
 let n:=fun (x:String)=>mkIdent x.toName
 match s.getString.splitOn " " with
 | ["ok",p,h]=>`(tactic|refine $(mkIdent (`T++p.toName++`F.ok)) $(n h) (fun $(n "vs") $(n "H") $(n "Q") $(n "E") $(n "h")=>?_) (fun $(n "cdv") $(n "A") $(n "outer") $(n "s") $(n "H") $(n "vs") $(n "Q") $(n "E") $(n "hr") $(n "h")=>?_))
 | x=>do
  let d←g "J84"
  let m:=match x with
   | ["dl"]=>some ",JaO,J6k,Jd5,JaM,J67,Int.reduceEq,Int.reduceLT,Int.reduceLE,decide_eq_true_eq"
   | ["dc"]=>some ""
   | _=>none
  let some m:=m | Macro.throwUnsupported
  let e←g (b++m)
  let q←`(Parser.Tactic.simpLemma|↓reduceIte)
  let e:=if x==["dl"] then e.push q else e
  `(tactic|((try dsimp only [$d,*]);simp only [$e,*]))
theorem JN {α:Type}{l:List α}{x d:α}(h:l[i]?=some x):l.getD i d=x:=by rw [yF,h];rfl
theorem J4G (h:j<n):ixN n (j:Int)=some j:=by
 unfold ixN;rw [yi (by omega),yi (by omega),Int.toNat_natCast]
theorem J1s {K:Frag}{H:Hp}:∀ zs:List Int,Reps K H (zs.map .int) (zs.map V.int)/\PyData.canLayAll0 (zs.map .int)=true/\PyData.depthAll (zs.map .int)=0
 | []=>by simp [Reps,PyData.canLayAll0,PyData.depthAll]
 | z :: zs=>by
   obtain ⟨h1,h2,h3⟩:=J1s (K:=K) (H:=H) zs;refine ⟨?_,?_,?_⟩
   ·simp only [yM,Reps]
    exact ⟨_,_,rfl,by simp [Rep],h1⟩
   ·simp [PyData.canLayAll0,PyData.canLay0,h2]
   ·simp [PyData.depthAll,PyData.depth,h3]
theorem J5A:∀ a b:List Int,PyData.eqvAll (a.map .int) (b.map .int)=decide (a=b)
 | [],[]=>by simp [PyData.eqvAll]
 | [],_::_=>by simp [PyData.eqvAll]
 | _::_,[]=>by simp [PyData.eqvAll]
 | x::a,y::b=>by
   simp only [yM,PyData.eqvAll,J5A a b];by_cases e:x=y<;>simp [PyData.eqv,e]
theorem J7y (m:Nat):(List.replicate m [V.int 0]).flatten=(List.replicate m (0:Int)).map V.int:=by
 induction m with
 | zero=>rfl
 | succ m ih=>rw [replicate_succ,flatten_cons,ih,replicate_succ];rfl
theorem Je1 {K:Frag}{b:Addr}{neg:Bool}(h1:H a=some (.lst (x.map V.int)))(h2:H b=some (.lst (y.map V.int)))(q:Q (.bl (if neg then !decide (x=y) else decide (x=y))) H):Ja1 K neg (.ref a) (.ref b) H Q:=by
 have sh:∀ zs:List Int,SeqAt.shaped (.list (zs.map .int))=true:=fun zs=>by
  obtain ⟨_,r2,r3⟩:=J1s (K:=K) (H:=H) zs;unfold SeqAt.shaped;simp only [PyData.canLay0,PyData.depth,r2,Bool.true_and];exact ym (by omega)
 refine ⟨.list (x.map .int),.list (y.map .int),?_,?_,sh x,sh y,?_⟩
 ·simp only [Rep];exact ⟨a,_,rfl,.of h1,(J1s x).1⟩
 ·simp only [Rep];exact ⟨b,_,rfl,.of h2,(J1s y).1⟩
 ·have e:PyData.eqv (.list (x.map .int)) (.list (y.map .int))=decide (x=y):=by simp only [PyData.eqv];exact J5A x y
  rw [e];exact q
def J4i (g:List Int)(A:Arc)(x:Int):List Int:=(g.set A.a.toNat (g.getD A.a.toNat 0 - x)).set A.b.toNat ((g.set A.a.toNat (g.getD A.a.toNat 0 - x)).getD A.b.toNat 0+x)
def J1D (m:Nat)(as:List Arc)(fl:List Int):Nat->List Int
 | 0=>List.replicate m 0
 | i+1=>J4i (J1D m as fl i) (as.getD i default) (fl.getD i 0)
theorem J5D (m:Nat)(as:List Arc)(fl:List Int):∀ i,(J1D m as fl i).length=m
 | 0=>yZ
 | i+1=>by
   show (J4i (J1D m as fl i) _ _).length=m;unfold J4i;rw [length_set,length_set,J5D m as fl i]
theorem J4l (fl:List Int)(k:Nat)(v:Int):(fl.map V.int).set k (.int v)=(fl.set k v).map V.int:=by rw [map_set]
def J52 (K:Frag)(f:Nat->Addr):Sp:=fun vs H Q _=>∃ (x:Addr) (pl m:Nat) (sg:Int) (as:List Arc) (fl:List Int),vs=[.ref x,.int pl,.int sg]/\StreamAt H (f 7) x m as fl/\pl<as.length/\Q (.int (J0M as fl pl sg)) H
theorem J2E (T:Txt K mg f fd):FnOk P w K mg base CX0 1 (f 8001) (fd 8001) ["self","place","sign"] (J52 K f):=by
 walk_at "ok wD J58"
 ·obtain ⟨x,pl,m,sg,as,fl,rfl,_⟩:=h
  rfl
 ·obtain ⟨x,pl,m,sg,as,fl,rfl,S,hp,k⟩:=h
  refine ⟨_,(Jc (J0n (Jw J1H (pvl 2) Je (JB _))
   (Jg (Jx (Jl J6Y (JT (J2p rfl) (JT (J0q rfl) (J2a (pvl 0) rfl) (pvl 1) (fun _ _=>rfl)) Je (fun _ _=>rfl)) (JT (J0q rfl) (J2a (pvl 0) rfl) (pvl 1) (fun _ _=>rfl)))))
   JC)
   (Jg (Jx (Jl J6Y (JT (J0q rfl) (J2a (pvl 0) rfl) (pvl 1) (fun _ _=>rfl)) (JT (J2p rfl) (JT (J0q rfl) (J2a (pvl 0) rfl) (pvl 1) (fun _ _=>rfl)) Je (fun _ _=>rfl)))))),?_⟩
  walk_at "dl";obtain ⟨dx,la,lb,ls,xs,sa,h1,h2,h3,h4,h5,h6,h7⟩:=S.ex;have e1:=yA hp;have hp2:pl<fl.length:=by rw [S.len];exact hp
  have e2:=yA hp2;obtain ⟨v,hv,pa,rfl,hpa⟩:=All2.at' h3 e1;unfold J0M at k;rw [JN e1,JN e2] at k;by_cases c:sg=1
  ·rw [yi c] at k ⊢
   exact ⟨_,_,_,h1,T.wf.cls,T.wF,_,rfl,la,_,_,_,rfl,rfl,.of h2,Jt hv,pa,_,_,_,rfl,rfl,.of hpa,Jt (j:=3) rfl,_,_,_,h1,T.wf.cls,T.wn,_,rfl,lb,_,_,_,rfl,rfl,.of h4,Jt (by rw [yN,e2];rfl),_,rfl,_,rfl,k⟩
  ·rw [yh c] at k ⊢
   exact ⟨_,_,_,h1,T.wf.cls,T.wn,_,rfl,lb,_,_,_,rfl,rfl,.of h4,Jt (by rw [yN,e2];rfl),_,_,_,h1,T.wf.cls,T.wF,_,rfl,la,_,_,_,rfl,rfl,.of h2,Jt hv,pa,_,_,_,rfl,rfl,.of hpa,Jt (j:=2) rfl,_,rfl,_,rfl,k⟩
def J4y (K:Frag)(f:Nat->Addr):Sp:=fun vs H Q _=>∃ (x:Addr) (st m:Nat) (as:List Arc) (fl:List Int),vs=[.ref x,.int st]/\StreamAt H (f 7) x m as fl/\st<m /\
 ∀ H' p kvs es,Same H H'->H' p=some (.dK kvs)->EntsV H' kvs es->Came as fl m st es->Q (.ref p) H'
structure Mid (as:List Arc)(fl:List Int)(m st:Nat)(es:List Ent)(rim fu:List Nat):Prop extends CInv as fl m st es where
 rimIn:∀ n∈rim,n∈Jv es
 fuIn:∀ n∈fu,n∈Jv es
 done:∀ n∈Jv es,n∈rim\/n∈fu\/Closed as fl es n
def J19 (n:Nat):V:=V.int (n:Int)
theorem Jaa {x:V}(h:(ns.map J19)[i]?=some x):∃ n,ns[i]?=some n/\x=.int (n:Int):=by
 rw [yN] at h;obtain ⟨n,hn,rfl⟩:=Option.map_eq_some_iff.mp h;exact ⟨n,hn,rfl⟩
theorem Jd1 {k:Bool}(h:H q=some (.lst xs))(e:k = !xs.isEmpty):Je6 K (.ref q) H k:=.inl ⟨xs,.of h,e⟩
def JeT (H:Hp)(x p:Addr)(st m:Nat)(as:List Arc)(fl:List Int)(μ:Nat)(σ:St)(H':Hp):Prop:=∃ (q:Addr) (kvs:List (Key×V)) (es:List Ent) (rim:List Nat),(∃ v4 v5 v6 v7 v8,σ=[some (V.ref x),some (V.int (st:Int)),some (V.ref p),some (V.ref q),v4,v5,v6,v7,v8])/\Same H H'/\H q=none/\H' p=some (.dK kvs)/\EntsV H' kvs es/\H' q=some (.lst (rim.map J19))/\Mid as fl m st es rim []/\μ=2 * (m - es.length)+(if rim=[] then 0 else 1)
def JeS (H:Hp)(x p q u:Addr)(st m:Nat)(as:List Arc)(fl:List Int)(es0:List Ent)(rim:List Nat)(i:Nat)(σ:St)(H':Hp):Prop:=∃ (kvs:List (Key×V)) (es:List Ent) (fu:List Nat),(∃ v5 v6 v7 v8,σ=[some (V.ref x),some (V.int (st:Int)),some (V.ref p),some (V.ref q),some (V.ref u),v5,v6,v7,v8])/\Same H H'/\H' p=some (.dK kvs)/\EntsV H' kvs es/\H' q=some (.lst (rim.map J19))/\H' u=some (.lst (fu.map J19))/\Mid as fl m st es (rim.drop i) fu/\es.length=es0.length+fu.length
def JeR (H:Hp)(x p q u:Addr)(st m:Nat)(as:List Arc)(fl:List Int)(es0:List Ent)(rim:List Nat)(i nd:Nat)(ts:List V)(j:Nat)(σ:St)(H':Hp):Prop:=∃ (kvs:List (Key×V)) (es:List Ent) (fu:List Nat),(∃ v6 v7 v8,σ=[some (V.ref x),some (V.int (st:Int)),some (V.ref p),some (V.ref q),some (V.ref u),some (J19 nd),v6,v7,v8])/\Same H H'/\H' p=some (.dK kvs)/\EntsV H' kvs es/\H' q=some (.lst (rim.map J19))/\H' u=some (.lst (fu.map J19))/\Mid as fl m st es (rim.drop i) fu/\es.length=es0.length+fu.length /\
 ∀ (r:Addr) (pl t:Nat) (sg:Int),V.ref r∈ts.take j->H r=some (.tup [.int pl,.int t,.int sg])->0<J0M as fl pl sg->t∈Jv es
theorem ok_Stream_reach (T:Txt K mg f fd):FnOk P w K mg base CX0 2 (f 8002) (fd 8002) ["self","start"] (J4y K f):=by
 walk_at "ok wE JP"
 ·obtain ⟨x,st,m,as,fl,rfl,_⟩:=h
  rfl
 ·obtain ⟨x,st,m,as,fl,rfl,S,hst,k⟩:=h
  refine ⟨_,(Jc (psl 2 JP.nd (JcD (Jbh (pvl 1) J5m Jcy) rfl rfl (cons_ne_nil _ _) (by show 1<=15;decide)))
   (Jc (psl 3 JP.nd (J0l (pal rfl (pvl 1) Ja)))
   (Jc (J5g PassesOwn.never (J1R (pvl 3) (fun _=>rfl))
   (Jc (psl 4 JP.nd (J0l Ja))
   (Jc (J0a PassesOwn.never rfl (J00 rfl (pvl 3)) (pgl 5 JP.nd)
   (Jg (J0a PassesOwn.never rfl (J00 rfl (JT (J0q rfl) (J2a (pvl 0) rfl) (pvl 5) (fun _ _=>rfl))) (J1C rfl rfl (Jq (pgl 6 JP.nd) (Jq (pgl 7 JP.nd) (Jq (pgl 8 JP.nd) J0w))))
   (Jg (J0n (PW.pt (J5e (Jbd (Ja7 (J7W hr) (pvl 7) (pvl 2))) (J3y (Jw J5o (J2U (pvl 0) T.wf.cls T.wZ (J2E T) (hr.mono (by decide)) T.wD.b .nil J4k (pal rfl (pvl 6) (pal rfl (pvl 8) Ja)) rfl rfl rfl) Je (JB _)))))
   (Jc (Jcw (J7W hr) (pvl 2) (pvl 7) (JD (pal rfl (pvl 5) (pal rfl (pvl 6) (pal rfl (pvl 8) Ja)))) rfl)
   (Jg (J05 (J1m rfl y9 PySem.F.slot_list_append PySem.F.type_list_append J08 rfl rfl rfl rfl (pvl 4) (pal rfl (pvl 7) Ja)))))
   JC)))))
   (Jg (psl 3 JP.nd (pvl 4))))))
   (Jg (Jx (pvl 2)))))),?_⟩
  walk_at "dl";intro p hp;have u0:=Same.upd_new hp (HO.dK []);refine ⟨J1,[(Sum.inl (st:Int),.non)],rfl,(by show 1<=15;decide),?_⟩;rw [J90];have em:J46 [] [(Sum.inl (st:Int),V.non)]=[(Sum.inl (st:Int),V.non)]:=rfl;rw [em];have s1:=Same.upd_new hp (HO.dK [(Sum.inl (st:Int),V.non)]);have g1:upd H p (HO.dK [(Sum.inl (st:Int),V.non)]) p=some (.dK [(Sum.inl (st:Int),V.non)]):=J1;generalize upd H p (HO.dK [(Sum.inl (st:Int),V.non)])=H1 at *;refine ⟨Jb (by decide),fun q hq=>?_⟩;have hqH:H q=none:=s1.free hq;have g1':=Same.upd_new hq (HO.lst [V.int (st:Int)]) _ _ g1;have s2:=s1.new hq (HO.lst [V.int (st:Int)]);have g2:upd H1 q (HO.lst [V.int (st:Int)]) q=some (.lst ([st].map J19)):=J1;generalize upd H1 q (HO.lst [V.int (st:Int)])=H2 at *;refine J3j (JeT H x p st m as fl) ⟨_,q,_,[(st,none)],[st],⟨none,none,none,none,none,rfl⟩,s2,hqH,g1',All2.one ⟨rfl,rfl⟩,g2,⟨CInv.start hst,fun n hn=>by simpa [Jv] using hn,(fun _ h=>nomatch h),fun n hn=>.inl (by simpa [Jv] using hn)⟩,rfl⟩ ?_;clear g2 s2 g1' hqH hq s1 g1;rintro μ σ H3 ⟨q,kvs,es,rim,⟨v4,v5,v6,v7,v8,rfl⟩,s3,hqH,g3,e3,r3,M,hμ⟩;walk_at "dl";by_cases cr:rim=[]
  ·subst cr
   refine ⟨false,Jd1 r3 rfl,?_⟩;rw [yh yk];exact k H3 p kvs es s3 g3 e3 ⟨M.toCInv,fun n hn=>by
    rcases M.done n hn with z | z | z
    ·cases z
    ·cases z
    ·exact z⟩
  refine ⟨true,Jd1 r3 (by cases rim with | nil=>exact absurd rfl cr | cons=>rfl),?_⟩;rw [yi rfl];refine WGo.of ?_;walk_at "dl";refine ⟨yw _,fun u hu=>?_⟩;have huH:=s3.free hu;have hqu:q≠u:=Jh r3 hu;have u4:=Same.upd_new hu (HO.lst []);have g4:upd H3 u (HO.lst []) u=some (.lst (([]:List Nat).map J19)):=J1;have s4:=s3.trans u4;have g3':=u4 _ _ g3;have e3':=e3.mono u4;have r3':=u4 _ _ r3;generalize upd H3 u (HO.lst [])=H4 at *;refine J0b ?_;walk_at "dl";refine ⟨⟨_,.of r3'⟩,?_⟩;refine ForW.of Jm (JeS H x p q u st m as fl es rim) ⟨kvs,es,[],⟨v5,v6,v7,v8,rfl⟩,s4,g3',e3',r3',g4,M,rfl⟩ (fun i σ H' _ ⟨_,_,_,_,_,_,_,z,_⟩=>.of z) ?_ ?_
  ·rintro i y σ H5 hy ⟨kvs5,es5,fu5,⟨v5,v6,v7,v8,rfl⟩,s5,g5,e5,r5,f5,M5,l5⟩
   obtain ⟨nd,hnd,rfl⟩:=Jaa hy;walk_at "dl";refine J0b ?_;walk_at "dl";obtain ⟨dx,la,lb,ls,xs,sa,h1,h2,h3,h4,h5,h6,h7⟩:=S.ex;have ndK:nd∈Jv es5:=M5.rimIn nd (yG (i:=0) (by rw [List.getElem?_drop,Nat.add_zero];exact hnd));have ndm:nd<m:=M5.lt nd ndK;have hsa:=yA (show nd<sa.length by omega);generalize sa[nd]'(show nd<sa.length by omega)=na at hsa;obtain ⟨ts,hts,lts,sok,scp⟩:=(h7 nd na hsa).ex;refine ⟨_,_,_,s5 _ _ h1,T.wf.cls,T.wo,_,rfl,ls,_,_,_,rfl,rfl,.of (s5 _ _ h5),Jt (by rw [yN,hsa];rfl),na,rfl,⟨_,.of (s5 _ _ hts)⟩,?_⟩;refine ForW.of Jm (JeR H x p q u st m as fl es rim i nd ts) ⟨kvs5,es5,fu5,⟨v6,v7,v8,rfl⟩,s5,g5,e5,r5,f5,M5,l5,fun _ _ _ _ z=>nomatch z⟩ (fun j σ H' _ ⟨_,_,_,_,z,_⟩=>.of (z _ _ hts)) ?_ ?_
   ·rintro j y σ H6 hj ⟨kvs6,es6,fu6,⟨v6,v7,v8,rfl⟩,s6,g6,e6,r6,f6,M6,l6,d6⟩
    obtain ⟨r,pl,t,sg,rfl,hr',so⟩:=sok _ (yG hj);refine ⟨r,_,rfl,.of (s6 _ _ hr'),rfl,?_⟩;simp only [J0O,J2g,J01];walk_at "dl";obtain ⟨A0,hA0,hcase⟩:=so;have hpl:pl<as.length:=(yB.mp hA0).1;have inA:=S.inn A0 (yG hA0);have htm:t<m:=by
     obtain ⟨i1,i2,i3,i4⟩:=inA;rcases hcase with ⟨_,_,z⟩ | ⟨_,_,z⟩<;>omega
    have old:∀ (es':List Ent),(∀ k∈Jv es6,k∈Jv es')->(0<J0M as fl pl sg->t∈Jv es')->∀ (r':Addr) (pl' t':Nat) (sg':Int),V.ref r'∈ts.take (j+1)->H r'=some (.tup [.int pl',.int t',.int sg'])->0<J0M as fl pl' sg'->t'∈Jv es':=by
     intro es' sub new r' pl' t' sg' hm hr2 hroom;rw [take_succ,hj] at hm;rcases yQ.mp hm with z | z
     ·exact sub _ (d6 r' pl' t' sg' z hr2 hroom)
     ·simp at z
      subst z;rw [hr'] at hr2;simp at hr2;obtain ⟨a1,a2,a3⟩:=hr2;have:pl=pl':=by omega
      have:t=t':=by omega
      subst a3;subst pl';subst t';exact new hroom
    refine ⟨_,DGet.k (k:=Sum.inl (t:Int)) g6,?_⟩;rw [J3V e6 t];by_cases ck:t∈Jv es6
    ·rw [yh (by simp [ck])]
     exact ⟨kvs6,es6,fu6,⟨_,_,_,rfl⟩,s6,g6,e6,r6,f6,M6,l6,old es6 (fun _ z=>z) fun _=>ck⟩
    rw [yi (by simp [ck])];refine ⟨_,_,s6 _ _ h1,rfl,x,pl,m,sg,as,fl,rfl,S.mono s6,hpl,_,rfl,?_⟩;by_cases cr:0<J0M as fl pl sg
    ·rw [yi (by simpa using cr)]
     refine ⟨Jb (by decide),fun pt hpt=>?_⟩;have n1:p≠pt:=Jh g6 hpt;have n2:u≠pt:=Jh f6 hpt;have n3:u≠p:=J2F f6 g6 (by intro z;cases z);have n4:q≠pt:=Jh r6 hpt;have n5:q≠p:=J2F r6 g6 (by intro z;cases z);have n6:=hqu;have lk:kvs6.length<=m:=by rw [e6.1];exact M6.toCInv.len
     have hm:=S.small.2;have lf:fu6.length<=m:=by have:=M6.toCInv.len;omega
     refine ⟨_,DPut.k (k:=Sum.inl (t:Int)) (by rw [Jd n1];exact g6) (Jb (by omega)),.inl ⟨rfl,_,.of (by rw [Jd n3,Jd n2];exact f6)⟩,u,fu6.map J19,.int (t:Int),rfl,rfl,by rw [Jd n3,Jd n2];exact f6,by rw [yC,sizeLine_eq];omega,?_⟩;rw [Jbc e6 ck];have ndk:nd∈Jv es6:=M6.rimIn nd (yG (i:=0) (by rw [List.getElem?_drop,Nat.add_zero];exact hnd));have C7:=M6.toCInv.snoc ndk ⟨⟨A0,hA0,hcase⟩,cr⟩ ck htm;have sub:∀ k∈Jv es6,k∈Jv (es6++[(t,some (nd,pl,sg))]):=fun k hk=>by rw [J17];exact yS _ hk
     have tin:t∈Jv (es6++[(t,some (nd,pl,sg))]):=by rw [J17];exact yR _ (by simp [Jv])
     have ts7:TSame H6 (upd (upd (upd H6 pt (HO.tup [J19 nd,V.int ↑pl,V.int sg])) p (.dK (kvs6++[(Sum.inl (t:Int),V.ref pt)]))) u (.lst (fu6.map J19++[.int (t:Int)]))) :=
      (((TSame.refl H6).new hpt).set (by rw [Jd n1];exact g6) (fun _ z=>by cases z)).set (by rw [Jd n3,Jd n2];exact f6) (fun _ z=>by cases z)
     refine ⟨_,es6++[(t,some (nd,pl,sg))],fu6++[t],⟨_,_,_,rfl⟩,((s6.new hpt _).set hp _).set huH _,by rw [Jd (Ne.symm n3),J1],All2.snoc (e6.monoT ts7) ⟨rfl,pt,rfl,by rw [Jd (Ne.symm n2),Jd (Ne.symm n1),J1];rfl⟩,by rw [Jd n6,Jd n5,Jd n4];exact r6,by rw [J1,yP];rfl,⟨C7,fun n hn=>sub n (M6.rimIn n hn),fun n hn=>?_,fun n hn=>?_⟩,by simp;omega,old _ sub fun _=>tin⟩
     ·rcases yQ.mp hn with z | z
      ·exact sub n (M6.fuIn n z)
      ·rw [yD.mp z];exact tin
     ·rw [J17] at hn
      rcases yQ.mp hn with z | z
      ·rcases M6.done n z with y | y | y
       ·exact .inl y
       ·exact .inr (.inl (yS _ y))
       ·exact .inr (.inr (y.more sub))
      ·exact .inr (.inl (yR _ (by simpa [Jv] using z)))
    ·rw [yh (by simpa using cr)]
     exact ⟨kvs6,es6,fu6,⟨_,_,_,rfl⟩,s6,g6,e6,r6,f6,M6,l6,old es6 (fun _ z=>z) fun z=>absurd z cr⟩
   ·rintro σ H6 ⟨kvs6,es6,fu6,⟨v6,v7,v8,rfl⟩,s6,g6,e6,r6,f6,M6,l6,d6⟩
    rw [yO] at d6;have hdr:rim.drop i=nd::rim.drop (i+1):=by
     have hi:=(yB.mp hnd);rw [drop_eq_getElem_cons hi.1,hi.2]
    refine ⟨kvs6,es6,fu6,⟨_,_,_,_,rfl⟩,s6,g6,e6,r6,f6,⟨M6.toCInv,fun n hn=>M6.rimIn n (by rw [hdr];exact yJ _ hn),M6.fuIn,fun n hn=>?_⟩,l6⟩;have cnd:Closed as fl es6 nd:=fun pl t sg ⟨⟨A0,hA0,hcase⟩,hroom⟩=>by
     have hpl:pl<as.length:=(yB.mp hA0).1;obtain ⟨q',m1,m2⟩:=scp pl t sg trivial ⟨A0,hA0,hcase⟩;exact d6 q' pl t sg m1 m2 hroom
    rcases M6.done n hn with z | z | z
    ·rw [hdr] at z
     rcases yL.mp z with rfl | z
     ·exact .inr (.inr cnd)
     ·exact .inl z
    ·exact .inr (.inl z)
    ·exact .inr (.inr z)
  ·rintro σ H5 ⟨kvs5,es5,fu5,⟨v5,v6,v7,v8,rfl⟩,s5,g5,e5,r5,f5,M5,l5⟩
   walk_at "dl";have lm:=M5.toCInv.len;refine ⟨_,?_,u,kvs5,es5,fu5,⟨_,_,_,_,_,rfl⟩,s5,huH,g5,e5,f5,⟨M5.toCInv,M5.fuIn,(fun _ h=>nomatch h),fun n hn=>?_⟩,rfl⟩
   ·rw [hμ,yh cr]
    by_cases cf:fu5=[]
    ·rw [yi cf]
     rw [cf] at l5;simp at l5;omega
    ·rw [yh cf]
     have:0<fu5.length:=length_pos_iff.mpr cf;omega
   ·rcases M5.done n hn with z | z | z
    ·rw [yC,drop_length] at z;cases z
    ·exact .inl z
    ·exact .inr (.inr z)
def J3a (K:Frag)(f:Nat->Addr):Sp:=fun vs H Q _=>∃ (x dx la lf:Addr) (m:Nat) (xs:List V) (as:List Arc) (fl:List Int),vs=[.ref x,.int m,.ref la,.ref lf]/\H x=some (.ins (f 7) dx [])/\m<=1000/\H la=some (.lst xs)/\ArcsV H xs as/\as.length<=1000/\(∀ A∈as,InN m A)/\H lf=some (.lst (fl.map V.int))/\fl.length=as.length /\
 ∀ H' lb,SameBut x H H'->H lb=none->StrmAt H' (f 7) x lb m as fl->Q .non H'
structure IniQ (H:Hp)(C x dx p1 p2 ls:Addr)(xs:List V)(as:List Arc)(fl:List Int)(sa:List Addr)(D:Nat->Int->Prop)(bnd:Nat)(H':Hp):Prop where
 B:SameBut x H H'
 hx:H' x=some (.ins C dx [("arcs",.ref p1),("borne",.ref p2),("steps",.ref ls)])
 g:H' p1=some (.lst xs)
 k:H' p2=some (.lst (fl.map V.int))
 l:H' ls=some (.lst (sa.map V.ref))
 st:∀ (n:Nat) a,sa[n]?=some a->StepsAt H' as D bnd n a
def JeB (H:Hp)(C x dx la lf p1 p2 ls:Addr)(m:Nat)(xs:List V)(as:List Arc)(fl:List Int)(sa:List Addr)(i:Nat)(σ:St)(H':Hp):Prop:=(∃ v4 v5,σ=[some (V.ref x),some (V.int (m:Int)),some (V.ref la),some (V.ref lf),v4,v5])/\IniQ H C x dx p1 p2 ls xs as fl sa (fun pl _=>pl<i) (2 * i) H'
theorem IniQ.app {C x dx p1 p2 ls:Addr}{as:List Arc}{sa:List Addr}{D:Nat->Int->Prop}{bnd:Nat}(J:IniQ H C x dx p1 p2 ls xs as fl sa D bnd H')(nd:sa.Nodup)(fr:∀ (n:Nat) a,sa[n]?=some a->H a=none/\a≠x/\a≠p1/\a≠p2/\a≠ls)
 {N pl:Nat} {sg:Int} {aN:Addr} (hN:sa[N]?=some aN) (so:StepOk as N pl t sg):∃ ts,H' aN=some (.lst ts)/\ts.length<=bnd/\∀ r,H' r=none ->
  IniQ H C x dx p1 p2 ls xs as fl sa (fun pl' sg'=>D pl' sg'\/(pl'=pl/\sg'=sg)) (bnd+1) (upd (upd H' r (.tup [.int pl,.int t,.int sg])) aN (.lst (ts++[.ref r]))):=by
 obtain ⟨ts,h1,h2,_⟩:=(J.st N aN hN).ex;obtain ⟨f1,f2,f3,f4,f5⟩:=fr N aN hN;refine ⟨ts,h1,h2,fun r hr=>⟨(J.B.new hr).set f1,?_,?_,?_,?_,steps_app nd J.st hN so hr h1⟩⟩
 ·rw [Jd (Ne.symm f2),Jd (Jh J.hx hr)];exact J.hx
 ·rw [Jd (Ne.symm f3),Jd (Jh J.g hr)];exact J.g
 ·rw [Jd (Ne.symm f4),Jd (Jh J.k hr)];exact J.k
 ·rw [Jd (Ne.symm f5),Jd (Jh J.l hr)];exact J.l
theorem IniQ.keep {C x dx p1 p2 ls:Addr}{as:List Arc}{sa:List Addr}{D:Nat->Int->Prop}{bnd:Nat}(J:IniQ H C x dx p1 p2 ls xs as fl sa D bnd H')(s:Same H' H2):IniQ H C x dx p1 p2 ls xs as fl sa D bnd H2 :=
 ⟨fun b o n z=>s _ _ (J.B b o n z),s _ _ J.hx,s _ _ J.g,s _ _ J.k,s _ _ J.l,fun n a ha=>(J.st n a ha).mono s⟩
theorem ok_Stream___init__ (T:Txt K mg f fd):FnOk P w K mg base CX0 1 (f 8000) (fd 8000) ["self","many","arcs","flow"] (J3a K f):=by
 walk_at "ok wW J0V"
 ·obtain ⟨x,dx,la,lf,m,xs,as,fl,rfl,_⟩:=h
  rfl
 ·obtain ⟨x,dx,la,lf,m,xs,as,fl,rfl,hx,hm,hla,hA,h1000,hin,hlf,J06,k⟩:=h
  refine ⟨_,(Jc (J8v (pvl 0) (J2b (J5x rfl) T.wl J1r rfl (by decide) (by decide) rfl (pal rfl (pvl 2) Ja)) rfl)
   (Jc (J8v (pvl 0) (J2b (J5x rfl) T.wl J1r rfl (by decide) (by decide) rfl (pal rfl (pvl 3) Ja)) rfl)
   (Jc (J8v (pvl 0) (JY ["node"] ["self","many","arcs","flow","place","arc"] rfl (show CompSc _ (Jf J0C) ["self","many","arcs","flow","place","arc"] ["self","many","arcs","flow","place","arc"] from Jr (by decide +kernel)) (J0Z rfl T.wj (pal rfl (pvl 1) Ja)) (fun _ _ _ _ _=>(pgl 0 (show (["node","self","many","arcs","flow","place","arc"]:List Str).Nodup by decide +kernel))) (fun _ _ _ _ _=>JR) (fun _ _ _ _ _=>(J0l Ja))) rfl)
   (Jg (J0a PassesOwn.never rfl (J1q rfl T.wk (pal rfl (pvl 2) Ja) rfl) (J1C rfl rfl (Jq (pgl 4 J0V.nd) (Jq (pgl 5 J0V.nd) J0w)))
   (Jc (J05 (J1m rfl y9 PySem.F.slot_list_append PySem.F.type_list_append J08 rfl rfl rfl rfl (JT (J0q rfl) (J2a (pvl 0) rfl) (JT (J2p rfl) (pvl 5) Je (fun _ _=>rfl)) (fun _ _=>rfl)) (pal rfl (JD (pal rfl (pvl 4) (pal rfl (JT (J2p rfl) (pvl 5) Je (fun _ _=>rfl)) (pal rfl Je Ja)))) Ja)))
   (Jg (J05 (J1m rfl y9 PySem.F.slot_list_append PySem.F.type_list_append J08 rfl rfl rfl rfl (JT (J0q rfl) (J2a (pvl 0) rfl) (JT (J2p rfl) (pvl 5) Je (fun _ _=>rfl)) (fun _ _=>rfl)) (pal rfl (JD (pal rfl (pvl 4) (pal rfl (JT (J2p rfl) (pvl 5) Je (fun _ _=>rfl)) (pal rfl (J5l J39 Je) Ja)))) Ja)))))))))),?_⟩
  walk_at "dl";have nxla:la≠x:=J2F hla hx (by intro z;cases z);have nxlf:lf≠x:=J2F hlf hx (by intro z;cases z);refine ⟨xs,.inl (.of hla),fun p1 hp1=>?_⟩;have n1:x≠p1:=Jh hx hp1;have B1:SameBut x H (upd H p1 (.lst xs)):=SameBut.new (fun _ _ _ z=>z) hp1;have hx1:upd H p1 (.lst xs) x=some (.ins (f 7) dx []):=by rw [Jd n1];exact hx
  have g1:upd H p1 (.lst xs) p1=some (.lst xs):=J1;generalize upd H p1 (.lst xs)=H1 at *;refine ⟨_,_,_,hx1,T.wf.cls,T.wF,by decide,?_⟩;have B2:SameBut x H (upd H1 x (.ins (f 7) dx (J1E ("arcs":Str) (.ref p1) []))):=B1.at;have hx2:upd H1 x (.ins (f 7) dx (J1E ("arcs":Str) (.ref p1) [])) x=some (.ins (f 7) dx [("arcs",.ref p1)]):=J1;have g2:upd H1 x (.ins (f 7) dx (J1E ("arcs":Str) (.ref p1) [])) p1=some (.lst xs):=by rw [Jd (Ne.symm n1)];exact g1
  generalize upd H1 x (.ins (f 7) dx (J1E ("arcs":Str) (.ref p1) []))=H2 at *;refine ⟨fl.map V.int,.inl (.of (B2 _ _ nxlf hlf)),fun p2 hp2=>?_⟩;have n2:x≠p2:=Jh hx2 hp2;have hp2H:H p2=none:=by
   cases e:H p2 with
   | none=>rfl
   | some o=>rw [B2 p2 o (Ne.symm n2) e] at hp2;cases hp2
  have n3:p1≠p2:=Jh g2 hp2;have B3:SameBut x H (upd H2 p2 (.lst (fl.map V.int))):=B2.new hp2;have hx3:upd H2 p2 (.lst (fl.map V.int)) x=some (.ins (f 7) dx [("arcs",.ref p1)]):=by rw [Jd n2];exact hx2
  have g3:upd H2 p2 (.lst (fl.map V.int)) p1=some (.lst xs):=by rw [Jd n3];exact g2
  have k3:upd H2 p2 (.lst (fl.map V.int)) p2=some (.lst (fl.map V.int)):=J1;generalize upd H2 p2 (.lst (fl.map V.int))=H3 at *;refine ⟨_,_,_,hx3,T.wf.cls,T.wn,(by show 1<1000;decide),?_⟩;have ep:J1E (Str.ofString "borne") (V.ref p2) [(("arcs":Str),V.ref p1)]=([("arcs",.ref p1),("borne",.ref p2)]:List (Str×V)):=by
   show (if (("arcs":Str)="borne") then _ else _)=_;rw [yh (by decide)];rfl
  rw [ep];have B4:SameBut x H (upd H3 x (.ins (f 7) dx [("arcs",.ref p1),("borne",.ref p2)])):=B3.at;have hx4:upd H3 x (.ins (f 7) dx [("arcs",.ref p1),("borne",.ref p2)]) x=some (.ins (f 7) dx [("arcs",.ref p1),("borne",.ref p2)]):=J1;have g4:upd H3 x (.ins (f 7) dx [("arcs",.ref p1),("borne",.ref p2)]) p1=some (.lst xs):=by rw [Jd (Ne.symm n1)];exact g3
  have k4:upd H3 x (.ins (f 7) dx [("arcs",.ref p1),("borne",.ref p2)]) p2=some (.lst (fl.map V.int)):=by rw [Jd (Ne.symm n2)];exact k3
  generalize upd H3 x (.ins (f 7) dx [("arcs",.ref p1),("borne",.ref p2)])=H4 at *;refine ⟨by omega,by omega,?_⟩;rw [Int.toNat_natCast];have fr:∀ a,H4 a=none->H a=none:=fun a ha=>by
   cases e:H a with
   | none=>rfl
   | some o=>rw [B4 a o (fun z=>by subst z;rw [hx4] at ha;cases ha) e] at ha;cases ha
  refine JE J0D (by rw [JK];exact Jb (by omega)) (fun i ys H'=>Same H4 H'/\∃ sa:List Addr,ys=sa.map V.ref/\sa.length=i/\sa.Nodup/\∀ a∈sa,H4 a=none/\H' a=some (.lst [])) ⟨Same.refl _,[],rfl,rfl,nodup_nil,fun _ z=>nomatch z⟩ (fun _ _ _ _ _=>trivial) (fun i ys H' q=>by obtain ⟨_,sa,rfl,h2,_⟩:=q;rw [yC,h2];exact yj _) ?_ ?_
  ·rintro i y ys H5 hy ⟨s5,sa,rfl,l5,n5,a5⟩
   walk_at "dl";refine ⟨yw _,fun a ha=>⟨⟨_,rfl⟩,s5.new ha _,sa++[a],by rw [yP];rfl,by simp [l5],nodup_append.mpr ⟨n5,by simp,fun b hb c hc=>?_⟩,fun b hb=>?_⟩⟩
   ·rw [yD.mp hc]
    intro e;subst e;rw [(a5 _ hb).2] at ha;cases ha
   ·rcases yQ.mp hb with z | z
    ·have:b≠a:=fun e=>by subst e;rw [(a5 _ z).2] at ha;cases ha
     exact ⟨(a5 b z).1,by rw [Jd this];exact (a5 b z).2⟩
    ·rw [yD.mp z]
     exact ⟨s5.free ha,J1⟩
  ·rintro ys H5 ⟨s5,sa,rfl,l5,n5,a5⟩ ls hls
   rw [JK] at l5;have nxl:x≠ls:=Jh (s5 _ _ hx4) hls;refine ⟨_,_,_,by rw [Jd nxl];exact s5 _ _ hx4,T.wf.cls,T.wo,(by show 2<1000;decide),?_⟩;have ep:J1E (Str.ofString "steps") (V.ref ls) [(("arcs":Str),V.ref p1),("borne",V.ref p2)]=([("arcs",.ref p1),("borne",.ref p2),("steps",.ref ls)]:List (Str×V)):=by
    show (if (("arcs":Str)="steps") then _ else _::(if (("borne":Str)="steps") then _ else _))=_;rw [yh (by decide),yh (by decide)];rfl
   rw [ep];have n7':p2≠ls:=Jh (s5 _ _ k4) hls;have B5:SameBut x H H5:=fun b o nb hb=>s5 _ _ (B4 b o nb hb);refine J0b ?_;walk_at "dl";have I0:JeB H (f 7) x dx la lf p1 p2 ls m xs as fl sa 0 [some (V.ref x),some (V.int (m:Int)),some (V.ref la),some (V.ref lf),none,none] (upd (upd H5 ls (.lst (sa.map V.ref))) x (.ins (f 7) dx [("arcs",.ref p1),("borne",.ref p2),("steps",.ref ls)])):=by
    have n6:p1≠ls:=Jh (s5 _ _ g4) hls;have n7:p2≠ls:=Jh (s5 _ _ k4) hls;refine ⟨⟨none,none,rfl⟩,(B5.new hls).at,J1,by rw [Jd (Ne.symm n1),Jd n6];exact s5 _ _ g4,by rw [Jd (Ne.symm n2),Jd n7];exact s5 _ _ k4,by rw [Jd (Ne.symm nxl),J1],fun n a ha=>⟨[],?_,yw _,(fun _ z=>nomatch z),fun pl _ _ z=>absurd z (Nat.not_lt_zero _)⟩⟩;have h1:=a5 a (yG ha);have e1:a≠x:=fun e=>by subst e;rw [hx4] at h1;cases h1.1
    have e2:a≠ls:=Jh h1.2 hls;rw [Jd e1,Jd e2];exact h1.2
   have hsaH:∀ (n:Nat) a,sa[n]?=some a->H a=none/\a≠x/\a≠p1/\a≠p2/\a≠ls:=fun n a ha=>by
    have h1:=a5 a (yG ha);exact ⟨fr a h1.1,(fun e=>by subst e;rw [hx4] at h1;cases h1.1),(fun e=>by subst e;rw [g4] at h1;cases h1.1),(fun e=>by subst e;rw [k4] at h1;cases h1.1),Jh h1.2 hls⟩
   generalize upd (upd H5 ls (.lst (sa.map V.ref))) x (.ins (f 7) dx [("arcs",.ref p1),("borne",.ref p2),("steps",.ref ls)])=H6 at *;refine ⟨⟨xs,.of (I0.2.B _ _ nxla hla)⟩,?_⟩;refine ForW.enum (xs:=xs) (JeB H (f 7) x dx la lf p1 p2 ls m xs as fl sa) I0 (fun i σ H' q=>.of (q.2.B _ _ nxla hla)) ?_ ?_
   ·rintro i y σ H7 q hy ⟨⟨v4,v5,rfl⟩,J7⟩ hq
    obtain ⟨A0,hA0,pa,rfl,hpa⟩:=All2.at hA hy;have npa:pa≠x:=J2F hpa hx (by intro z;cases z);have u8:=Same.upd_new hq (HO.tup [V.int (i:Int),V.ref pa]);have g8:upd H7 q (HO.tup [V.int (i:Int),V.ref pa]) q=some (HO.tup [V.int (i:Int),V.ref pa]):=J1;have J8:=J7.keep u8;generalize upd H7 q (HO.tup [V.int (i:Int),V.ref pa])=H8 at *;refine ⟨q,_,rfl,.of g8,rfl,?_⟩;simp only [J0O,J2g,J01];walk_at "dl";obtain ⟨i1,i2,i3,i4⟩:=hin A0 (yG hA0);have hil:i<as.length:=(yB.mp hA0).1;obtain ⟨aa,ab,al,au⟩:=A0;simp only at i1 i2 i3 i4;obtain ⟨na,rfl⟩:∃ na:Nat,aa=(na:Int):=⟨aa.toNat,by omega⟩;obtain ⟨nb,rfl⟩:∃ nb:Nat,ab=(nb:Int):=⟨ab.toNat,by omega⟩;unfold Arc.vs at hpa;simp only at hpa;have ha:=yA (show na<sa.length by omega);generalize sa[na]'(show na<sa.length by omega)=pna at ha;have hb:=yA (show nb<sa.length by omega);generalize sa[nb]'(show nb<sa.length by omega)=pnb at hb;obtain ⟨ts,t1,t2,t3⟩:=J8.app n5 hsaH ha (pl:=i) (t:=nb) (sg:=1) ⟨_,hA0,.inl ⟨rfl,rfl,rfl⟩⟩;have pa8:=J8.B _ _ npa hpa;refine ⟨_,_,_,J8.hx,T.wf.cls,T.wo,_,rfl,pa,_,_,_,rfl,rfl,.of pa8,Jt (j:=0) rfl,ls,_,_,V.ref pna,rfl,rfl,.of J8.l,Jt (by rw [yN,ha];rfl),.inl ⟨rfl,_,.of t1⟩,pa,_,_,_,rfl,rfl,.of pa8,Jt (j:=1) rfl,Jb (by decide),fun r hr=>?_⟩;have J9:=t3 r hr;have nr:pna≠r:=Jh t1 hr;refine ⟨pna,ts,_,rfl,rfl,by rw [Jd nr];exact t1,by rw [sizeLine_eq];omega,?_⟩;generalize upd (upd H8 r (HO.tup [V.int (i:Int),V.int (nb:Int),V.int 1])) pna (HO.lst (ts++[V.ref r]))=H9 at *;obtain ⟨ts',t1',t2',t3'⟩:=J9.app n5 hsaH hb (pl:=i) (t:=na) (sg:=-1) ⟨_,hA0,.inr ⟨rfl,rfl,rfl⟩⟩;have pa9:=J9.B _ _ npa hpa;refine ⟨_,_,_,J9.hx,T.wf.cls,T.wo,_,rfl,pa,_,_,_,rfl,rfl,.of pa9,Jt (j:=1) rfl,ls,_,_,V.ref pnb,rfl,rfl,.of J9.l,Jt (by rw [yN,hb];rfl),.inl ⟨rfl,_,.of t1'⟩,pa,_,_,_,rfl,rfl,.of pa9,Jt (j:=0) rfl,Jb (by decide),fun r' hr'=>?_⟩;have J10:=t3' r' hr';have nr':pnb≠r':=Jh t1' hr';refine ⟨pnb,ts',_,rfl,rfl,by rw [Jd nr'];exact t1',by rw [sizeLine_eq];omega,⟨_,_,rfl⟩,J10.B,J10.hx,J10.g,J10.k,J10.l,fun n a hna=>?_⟩;obtain ⟨ts'',z1,z2,z3,z4⟩:=(J10.st n a hna).ex;refine ⟨ts'',z1,by omega,z3,fun pl t sg hd so=>z4 pl t sg ?_ so⟩;by_cases e:pl=i
    ·subst e
     obtain ⟨A1,_,c⟩:=so;rcases c with ⟨rfl,_⟩ | ⟨rfl,_⟩
     ·exact .inl (.inr ⟨rfl,rfl⟩)
     ·exact .inr ⟨rfl,rfl⟩
    ·exact .inl (.inl (by omega))
   ·rintro σ H7 ⟨⟨v4,v5,rfl⟩,J7⟩
    refine k H7 p2 J7.B hp2H ⟨⟨dx,p1,ls,xs,sa,J7.hx,J7.g,?_,J7.k,J7.l,l5,fun n a ha=>?_,n3,Ne.symm n7',(fun a ha=>by obtain ⟨n,hn⟩:=yT.mp ha;exact (hsaH n a hn).2.2.2.1)⟩,J06,⟨h1000,hm⟩,hin⟩
    ·exact All2.mono hA fun v A ⟨pa,e,hpa⟩=>⟨pa,e,J7.B _ _ (J2F hpa hx (by intro z;cases z)) hpa⟩
    ·obtain ⟨ts,t1,t2,t3,t4⟩:=(J7.st n a ha).ex
     rw [hA.1] at t2 t4;exact ⟨ts,t1,t2,t3,fun pl t sg _ so=>t4 pl t sg (by obtain ⟨A0,hA0,_⟩:=so;exact (yB.mp hA0).1) so⟩
def Jez (H:Hp)(x:V)(s:Nat×Int):Prop:=∃ q,x=.ref q/\H q=some (.tup [.int s.1,.int s.2])
def StpsV (H:Hp)(xs:List V)(tks:List (Nat×Int)):Prop:=All2 (Jez H) xs tks
theorem StpsV.mono {tks:List (Nat×Int)}(s:Same H H')(h:StpsV H xs tks):StpsV H' xs tks:=All2.mono h fun _ _ ⟨q,e,g⟩=>⟨q,e,s _ _ g⟩
theorem StpsV.monoT {tks:List (Nat×Int)}(s:TSame H H')(h:StpsV H xs tks):StpsV H' xs tks:=All2.mono h fun _ _ ⟨q,e,g⟩=>⟨q,e,s _ _ g⟩
def J5V (K:Frag)(f:Nat->Addr):Sp:=fun vs H Q _=>∃ (x:Addr) (st gl m:Nat) (as:List Arc) (fl:List Int),vs=[.ref x,.int st,.int gl]/\StreamAt H (f 7) x m as fl/\st<m/\gl<m /\
 ∀ H' p zs tks,Same H H'->H' p=some (.lst zs)->StpsV H' zs tks->WayOk as fl st gl tks->Q (.ref p) H'
structure BackP (as:List Arc)(fl:List Int)(es:List Ent)(st gl i:Nat)(tk:List (Nat×Int)):Prop where
 join:∀ r nd,(∃ o,es[i]?=some (nd,o))->J8X as st r nd->J8X as st (tk++r) gl
 src:∀ s∈tk,∃ j k n,i<j/\es[j]?=some (k,some (n,s.1,s.2))
 nd:(tk.map (·.1)).Nodup
def JeP (H:Hp)(x pc pt:Addr)(st gl:Nat)(as:List Arc)(fl:List Int)(es:List Ent)(μ:Nat)(σ:St)(H':Hp):Prop:=∃ (nd:Nat) (o:Option (Nat×Nat×Int)) (zs:List V) (tk:List (Nat×Int)),σ=[some (V.ref x),some (V.int (st:Int)),some (V.int (gl:Int)),some (V.ref pc),some (V.ref pt),some (V.int (nd:Int))]/\Same H H'/\H' pt=some (.lst zs)/\StpsV H' zs tk/\es[μ]?=some (nd,o)/\tk.length+μ<=es.length/\BackP as fl es st gl μ tk
theorem ok_Stream_way (T:Txt K mg f fd):FnOk P w K mg base CX0 3 (f 8003) (fd 8003) ["self","start","goal"] (J5V K f):=by
 walk_at "ok wX J0Q"
 ·obtain ⟨x,st,gl,m,as,fl,rfl,_⟩:=h
  rfl
 ·obtain ⟨x,st,gl,m,as,fl,rfl,S,hst,hgl,k⟩:=h
  refine ⟨_,(Jc (psl 3 J0Q.nd (J2U (pvl 0) T.wf.cls T.w5 (ok_Stream_reach T) (hr.mono (by decide)) T.wE.b .nil J4k (pal rfl (pvl 1) Ja) rfl rfl rfl))
   (Jc (psl 4 J0Q.nd (J0l Ja))
   (Jc (psl 5 J0Q.nd (J5n (Jbd (JdE (J7W hr) (pvl 2) (pvl 3))) (pvl 2) (pvl 1)))
   (Jc (J5g PassesOwn.never (Jw Jbr (pvl 5) (pvl 1) (JB _))
   (Jc (J05 (J1m rfl y9 PySem.F.slot_list_append PySem.F.type_list_append J08 rfl rfl rfl rfl (pvl 4) (pal rfl (J2D (Jer rfl) (J9j (J7W hr) (pvl 3) (pvl 5) (fun _ _=>rfl)) (J29 Je) J6X) Ja)))
   (Jg (psl 5 J0Q.nd (JT (J2p rfl) (J9j (J7W hr) (pvl 3) (pvl 5) (fun _ _=>rfl)) Je (fun _ _=>rfl))))))
   (Jg (Jx (pvl 4))))))),?_⟩
  walk_at "dl";obtain ⟨dx,la,lb,ls,xs,sa,h1,_⟩:=S.ex;refine ⟨dx,_,h1,rfl,x,st,m,as,fl,rfl,S,hst,fun H1 pc kvs es s1 hpc he hcm=>⟨yw _,fun pt hpt=>?_⟩⟩;have hptH:=s1.free hpt;have u2:=Same.upd_new hpt (HO.lst []);have g2:upd H1 pt (HO.lst []) pt=some (.lst []):=J1;have hpc2:=u2 _ _ hpc;have he2:=he.mono u2;have s2:=s1.trans u2;generalize upd H1 pt (HO.lst [])=H2 at *;generalize hW:J8l _ _=W;generalize hD:Ends.mk _ _ _ _=D1;have far:gl∉Jv es->W D1 [some (V.ref x),some (V.int (st:Int)),some (V.int (gl:Int)),some (V.ref pc),some (V.ref pt),some (V.int (st:Int))] H2:=by
   intro hno;subst hW;subst hD;refine J3j (fun μ σ H'=>σ=[some (V.ref x),some (V.int (st:Int)),some (V.int (gl:Int)),some (V.ref pc),some (V.ref pt),some (V.int (st:Int))]/\H'=H2) ⟨0,rfl,rfl⟩ ?_;rintro μ σ H3 ⟨rfl,rfl⟩;walk_at "dl";exact k H3 pt [] [] s2 g2 All2.nil ⟨fun z=>absurd rfl z,(fun _ z=>nomatch z),(fun _ z=>nomatch z),(fun _ z=>nomatch z),by simp,fun _ _ r=>hno ((hcm.iff gl).mpr r)⟩
  have near:gl∈Jv es->W D1 [some (V.ref x),some (V.int (st:Int)),some (V.int (gl:Int)),some (V.ref pc),some (V.ref pt),some (V.int (gl:Int))] H2:=by
   intro hin;subst hW;subst hD;obtain ⟨e0,he0,heq⟩:=yU.mp hin;obtain ⟨i0,hi0⟩:=yT.mp he0;obtain ⟨k0,o0⟩:=e0;simp only at heq;subst heq;have hlt:=(yB.mp hi0).1;refine J3j (JeP H1 x pc pt st k0 as fl es) ⟨i0,k0,o0,[],[],rfl,u2,g2,All2.nil,hi0,by simp;omega,⟨fun r nd ⟨o,ho⟩ hb=>?_,(fun _ z=>nomatch z),by simp⟩⟩ ?_
   ·rw [hi0] at ho
    cases ho;exact hb
   rintro μ σ H3 ⟨nd,o,zs,tk,rfl,s3,hzs,htk,hμ,hln,B⟩;walk_at "dl";by_cases ce:nd=st
   ·rw [yh (by simp [ce])]
    have hbk:J8X as st tk k0:=by
     have:=B.join [] nd ⟨o,hμ⟩ ce;rwa [append_nil] at this
    refine k H3 pt zs tk (s1.trans s3) hzs htk ⟨fun _=>hbk,fun s' hs'=>?_,fun s' hs'=>?_,fun s' hs'=>?_,B.nd,fun z ne=>?_⟩
    ·obtain ⟨j,k',n,_,hj⟩:=B.src s' hs'
     exact (hcm.tree j k' n _ _ hj).2.2
    ·obtain ⟨j,k',n,_,hj⟩:=B.src s' hs'
     obtain ⟨A0,_,hc⟩:=(hcm.tree j k' n _ _ hj).2.1;rcases hc with ⟨e,_⟩ | ⟨e,_⟩
     ·exact .inl e
     ·exact .inr e
    ·obtain ⟨j,k',n,_,hj⟩:=B.src s' hs'
     obtain ⟨A0,hA0,_⟩:=(hcm.tree j k' n _ _ hj).2.1;exact (yB.mp hA0).1
    ·rw [z] at hbk
     exact absurd hbk.symm ne
   rw [yi (by simp;omega)];refine WGo.of ?_;walk_at "dl";obtain ⟨n,pl,sg,rfl⟩:∃ n pl sg,o=some (n,pl,sg):=by
    cases o with
    | some z=>exact ⟨z.1,z.2.1,z.2.2,rfl⟩
    | none =>
      cases μ with
      | zero =>
        obtain ⟨r,er⟩:=hcm.hd;rw [er] at hμ;simp at hμ;exact absurd hμ.symm ce
      | succ μ=>exact absurd rfl (hcm.some_ μ _ hμ)
   obtain ⟨hnk,so,hroom⟩:=hcm.tree μ nd n pl sg hμ;obtain ⟨j,e',hjm,hj,rfl⟩:=J5w hnk;obtain ⟨kv,hkv,⟨_,q,eq,hq⟩,hval⟩:=J7j he hcm.nd hμ;have hq3:=s3 _ _ hq;rw [eq] at hval;refine ⟨.inl ⟨rfl,_,.of hzs⟩,.ref q,?_,q,_,rfl,.of hq3,(by show ¬ (HT.sIx 3 0 (some 1)=0/\HT.sIx 3 3 none=3);decide),fun p4 hp4=>?_⟩
   ·have:=DGet.k (k:=Sum.inl (nd:Int)) (s3 _ _ hpc)
    rw [hval] at this;exact this
   have ec:J4B [V.int (e'.1:Int),V.int (pl:Int),V.int sg] (some 1) none=[V.int (pl:Int),V.int sg]:=rfl;rw [ec];have u4:=Same.upd_new hp4 (HO.tup [V.int (pl:Int),V.int sg]);have g4:upd H3 p4 (HO.tup [V.int (pl:Int),V.int sg]) p4=some (.tup [V.int (pl:Int),V.int sg]):=J1;have s4:=s3.trans u4;have hzs4:=u4 _ _ hzs;have htk4:=htk.mono u4;generalize upd H3 p4 (HO.tup [V.int (pl:Int),V.int sg])=H4 at *;have hlz:=htk.1;have hel:=hcm.toCInv.len;have hm:=S.small.2;refine ⟨pt,zs,.ref p4,rfl,rfl,hzs4,by rw [sizeLine_eq];omega,?_⟩;have s5:=s4.set hpt (HO.lst (zs++[V.ref p4]));have g5:upd H4 pt (HO.lst (zs++[V.ref p4])) pt=some (.lst (zs++[V.ref p4])):=J1;have ts5:TSame H4 (upd H4 pt (HO.lst (zs++[V.ref p4]))):=(TSame.refl _).set hzs4 (fun _ z=>by cases z);have htk5:=htk4.monoT ts5;have g45:=ts5 _ _ g4;generalize upd H4 pt (HO.lst (zs++[V.ref p4]))=H5 at *;refine ⟨.ref q,?_,q,_,_,_,rfl,rfl,.of (s5 _ _ hq),Jt (j:=0) rfl,j,hjm,e'.1,e'.2,_,tk++[(pl,sg)],rfl,s5,g5,All2.snoc htk5 ⟨p4,rfl,g45⟩,hj,by simp;omega,⟨fun r nd' ⟨o',ho'⟩ hb=>?_,fun s' hs'=>?_,?_⟩⟩
   ·have:=DGet.k (k:=Sum.inl (nd:Int)) (s5 _ _ hpc)
    rw [hval] at this;exact this
   ·rw [hj] at ho'
    have e1:e'.1=nd':=by
     have:=yq ho';rw [this]
    rw [<- e1] at hb;have:=B.join ((pl,sg)::r) nd ⟨_,hμ⟩ ⟨e'.1,so,hb⟩;rw [yY];exact this
   ·rcases yQ.mp hs' with z | z
    ·obtain ⟨j',k',n',l',h'⟩:=B.src s' z
     exact ⟨j',k',n',by omega,h'⟩
    ·rw [yD.mp z]
     exact ⟨μ,nd,e'.1,hjm,hμ⟩
   ·rw [yP]
    refine nodup_append.mpr ⟨B.nd,by simp,fun a ha b hb' e=>?_⟩;have hbp:b=pl:=by simpa using hb'
    obtain ⟨s',hs',rfl⟩:=yU.mp ha;obtain ⟨j',k',n',l',h'⟩:=B.src s' hs';rw [e,hbp] at h';exact hcm.toCInv.places h' hμ l'
  refine ⟨pc,rfl,_,DGet.k (k:=Sum.inl (gl:Int)) hpc2,?_⟩;rw [J3V he2];by_cases ck:gl∈Jv es
  ·rw [yi (by simp [ck])]
   exact near ck
  ·rw [yh (by simp [ck])]
   exact far ck
structure Pushed (as:List Arc)(fl fl':List Int)(st gl:Nat)(d:Int):Prop where
 bnd:Bnd as fl'
 ex:∀ v,exF as fl' v=exF as fl v+(if (gl:Int)=v then d else 0) - (if (st:Int)=v then d else 0)
 same:d=0->fl'=fl
 rch:0<d->Reach (J4q as fl) st gl
theorem J5R {as:List Arc}{fl:List Int}{st:Nat}:∀ (tks:List (Nat×Int)) (gl:Nat),J8X as st tks gl->(∀ s∈tks,0<J0M as fl s.1 s.2)->Reach (J4q as fl) st gl
 | [],gl,hb,_=>by
   have e:gl=st:=hb;rw [e];exact .here
 | (pl,sg)::r,gl,hb,hr=>by
   obtain ⟨n,so,hb'⟩:=hb;exact (J5R r n hb' fun s hs=>hr s (yJ _ hs)).step ⟨pl,sg,so,hr _ yK⟩
def J53 (K:Frag)(f:Nat->Addr):Sp:=fun vs H Q _=>∃ (x lb:Addr) (st gl m:Nat) (lim:Int) (as:List Arc) (fl:List Int),vs=[.ref x,.int st,.int gl,.int lim]/\StrmAt H (f 7) x lb m as fl/\Bnd as fl/\st<m/\gl<m/\st≠gl/\0<=lim /\
 ∀ H' fl' d,SameBut lb H H'->StrmAt H' (f 7) x lb m as fl'->Pushed as fl fl' st gl d->0<=d->d<=lim->(d=lim\/¬ Reach (J4q as fl') st gl)->Q (.int d) H'
def JeU (H:Hp)(C x lb:Addr)(st gl m:Nat)(lim:Int)(as:List Arc)(fl:List Int)(μ:Nat)(σ:St)(H':Hp):Prop:=∃ (d:Int) (fl':List Int),(∃ v5 v6 v7 v8,σ=[some (V.ref x),some (V.int (st:Int)),some (V.int (gl:Int)),some (V.int lim),some (V.int d),v5,v6,v7,v8])/\SameBut lb H H'/\StrmAt H' C x lb m as fl'/\Pushed as fl fl' st gl d/\0<=d/\d<=lim/\μ=(lim - d).toNat
theorem ok_Stream_push (T:Txt K mg f fd):FnOk P w K mg base CX0 4 (f 8004) (fd 8004) ["self","start","goal","limit"] (J53 K f):=by
 walk_at "ok wY J0k"
 ·obtain ⟨x,lb,st,gl,m,lim,as,fl,rfl,_⟩:=h
  rfl
 ·obtain ⟨x,lb,st,gl,m,lim,as,fl,rfl,S,hB,hst,hgl,hne,hlim,k⟩:=h
  refine ⟨_,(Jc (psl 4 J0k.nd Je)
   (Jc (J5g PassesOwn.never (Jw J3B (pvl 4) (pvl 3) (JB _))
   (Jc (psl 5 J0k.nd (J2U (pvc 0) T.wf.cls T.w6 (ok_Stream_way T) (hr.mono (by decide)) T.wX.b .nil J4k (pal rfl (pvl 1) (pal rfl (pvl 2) Ja)) rfl rfl rfl))
   (Jc (J0n (J2C (J1R (pvl 5) (fun _=>rfl)))
   (Jg Jbf)
   JC)
   (Jc (psl 6 J0k.nd (JA (JdU rfl rfl) T.wG J8S rfl (by decide) (by decide) rfl (pal rfl (Jl J1A (J0l (pal rfl (Jl J6Y (pvl 3) (pvl 4)) Ja)) (JY ["place","sign"] ["self","start","goal","limit","pushed","way","through","#7","#8"] rfl (show CompSc _ (Jf J1f) ["self","start","goal","limit","pushed","way","through","place","sign"] ["self","start","goal","limit","pushed","way","through","#7","#8"] from Jr (by decide +kernel)) (J00 rfl (pvl 5)) (fun _ _ _ _ _=>(JdB K 0 1 (show (["place","sign","self","start","goal","limit","pushed","way","through","#7","#8"]:List Str).Nodup by decide +kernel))) (fun _ _ _ _ _=>JR) (fun _ _ _ _ _=>(J2U (pvc 2) T.wf.cls T.wZ (J2E T) (hr.mono (by decide)) T.wD.b .nil J4k (pal rfl (pvl 0) (pal rfl (pvl 1) Ja)) rfl rfl rfl)))) Ja)))
   (Jc (J0a PassesOwn.never rfl (J00 rfl (pvl 5)) (J1C rfl rfl (Jq (pgl 7 J0k.nd) (Jq (pgl 8 J0k.nd) J0w)))
   (Jg (J6V (J2a (pvc 0) rfl) (pvl 7) (J8E rfl) (Jl J2c (pvl 8) (pvl 6)) J8H J3q)))
   (Jg (ps_aug J0k.nd (i:=4) rfl (.inl rfl) (pvl 6) J8H)))))))
   (Jg (Jx (pvl 4))))),?_⟩
  walk_at "dl";refine J3j (JeU H (f 7) x lb st gl m lim as fl) ⟨_,0,fl,⟨none,none,none,none,rfl⟩,SameBut.refl _ _,S,⟨hB,(fun v=>by split<;>split<;>omega),(fun _=>rfl),(fun z=>absurd z (by decide))⟩,Int.le_refl _,hlim,rfl⟩ ?_;rintro μ σ H1 ⟨d,fl1,⟨v5,v6,v7,v8,rfl⟩,s1,S1,P1,d0,dl,hμ⟩;walk_at "dl";by_cases cl:d<lim
  ·rw [yi cl]
   refine WGo.of ?_;walk_at "dl";obtain ⟨dx,la,ls,xs,sa,hx1,_,_,hb1,_⟩:=S1.ex;refine ⟨dx,_,hx1,rfl,x,st,gl,m,as,fl1,rfl,S1.stream,hst,hgl,fun H2 pw zs tks s2 hpw hz W=>?_⟩;have S2:=S1.mono s2;dsimp only;by_cases ct:tks=[]
   ·subst ct
    obtain rfl:zs=[]:=eq_nil_of_length_eq_zero hz.1;refine ⟨false,Jd1 hpw rfl,?_⟩;rw [yi (by decide)];exact k H2 fl1 d (s1.same s2) S2 P1 d0 dl (.inr (W.none_ rfl hne))
   have hzl:=hz.1;have hzne:zs≠[]:=fun z=>ct (by rw [z] at hzl;exact eq_nil_of_length_eq_zero hzl.symm);refine ⟨true,Jd1 hpw (by cases zs with | nil=>exact absurd rfl hzne | cons=>rfl),?_⟩;rw [yh (by decide)];have htl:tks.length<=1000:=by
    have h1:(tks.map (·.1)).length<=as.length:=nodup_le as.length _ W.nd fun a ha=>by
     obtain ⟨s',hs',rfl⟩:=yU.mp ha;exact W.lt s' hs'
    rw [yC] at h1;have:=S1.small.1;omega
   refine ⟨Jb (by decide),fun p3 hp3=>?_⟩;have u3:=Same.upd_new hp3 (HO.lst [V.int (lim - d)]);have g3:upd H2 p3 (HO.lst [V.int (lim - d)]) p3=some (.lst [V.int (lim - d)]):=J1;have s13:=s2.trans u3;have hpw3:=u3 _ _ hpw;have hz3:=hz.mono u3;have S3:=S2.mono u3;generalize upd H2 p3 (HO.lst [V.int (lim - d)])=H3 at *;refine ⟨pw,rfl,⟨_,.of hpw3⟩,?_⟩;refine J5K Jm (by rw [hzl];exact Jb (by omega)) (fun i ys σ H'=>(∃ v0 v1,σ=[v0,v1,some (V.ref x),some (V.int (st:Int)),some (V.int (gl:Int)),some (V.int lim),some (V.int d),some (V.ref pw),v6,v7,v8])/\Same H3 H'/\ys=((tks.take i).map fun s'=>J0M as fl1 s'.1 s'.2).map V.int) ⟨⟨none,none,rfl⟩,Same.refl _,rfl⟩ (fun i ys σ H' q=>⟨.of (q.2.1 _ _ hpw3),by rw [q.2.2,yC,yC,yI];omega⟩) ?_ ?_
   ·rintro i y ys σ H4 hy ⟨⟨v0,v1,rfl⟩,s4,rfl⟩
    obtain ⟨s',hs',q,rfl,hq⟩:=All2.at hz3 hy;refine ⟨q,_,rfl,.of (s4 _ _ hq),rfl,?_⟩;simp only [J0O,J2g,J01];walk_at "dl";obtain ⟨dx4,_,_,_,_,hx4,_⟩:=(S3.mono s4).ex;refine ⟨dx4,_,hx4,rfl,s'.1,rfl,m,as,fl1,(S3.mono s4).stream,W.lt s' (yG hs'),⟨_,rfl⟩,s4,?_⟩;rw [take_succ,hs',yP,yP];rfl
   ·rintro ys σ H4 ⟨⟨v0,v1,rfl⟩,s4,rfl⟩ D hD
    rw [take_of_length_le (by rw [hzl];exact yj _)];generalize hrs:(tks.map fun s'=>J0M as fl1 s'.1 s'.2)=rs;have hrl:rs.length<=1000:=by rw [<- hrs,yC];exact htl
    have u5:=Same.upd_new hD (HO.lst (rs.map V.int));have g5:upd H4 D (HO.lst (rs.map V.int)) D=some (.lst (rs.map V.int)):=J1;have s35:=s4.trans u5;generalize upd H4 D (HO.lst (rs.map V.int))=H5 at *;refine ⟨p3,D,_,_,rfl,rfl,s35 _ _ g3,g5,by rw [yC];exact Jb (by simp;omega),fun p6 hp6=>?_⟩;have u6:=Same.upd_new hp6 (HO.lst ([V.int (lim - d)]++rs.map V.int));have g6:upd H5 p6 (HO.lst ([V.int (lim - d)]++rs.map V.int)) p6=some (.lst (((lim - d)::rs).map V.int)):=J1;have s36:=s35.trans u6;generalize upd H5 p6 (HO.lst ([V.int (lim - d)]++rs.map V.int))=H6 at *;refine ⟨p6,(lim - d)::rs,rfl,.of g6,by simp,fun t ht hle=>?_⟩;have t1:t<=lim - d:=hle _ yK;have t2:∀ s'∈tks,t<=J0M as fl1 s'.1 s'.2:=fun s' hs'=>hle _ (yJ _ (by rw [<- hrs];exact mem_map_of_mem hs'));have t0:0<t:=by
     rcases yL.mp ht with e | e
     ·omega
     ·rw [<- hrs] at e
      obtain ⟨s',hs',rfl⟩:=yU.mp e;exact W.room s' hs'
    have S6:=S3.mono s36;have hpw6:=s36 _ _ hpw3;have hz6:=hz3.mono s36;have B6:SameBut lb H H6:=(s1.same s13).same s36;dsimp only;refine J0b ?_;walk_at "dl";refine ⟨⟨_,.of hpw6⟩,?_⟩;obtain ⟨dx6,la6,ls6,xs6,sa6,hx6,hla6,_,hb6,hls6,_⟩:=S6.ex;have npw:pw≠lb:=by
     intro e;subst e;rw [hb6] at hpw6;have e2:zs=fl1.map V.int:=by injection hpw6 with h;injection h with h;exact h.symm
     cases zs with
     | nil=>exact hzne rfl
     | cons z zs =>
       obtain ⟨_,_,q,rfl,_⟩:=All2.at hz (i:=0) rfl;cases hf:fl1 with
       | nil=>rw [hf] at e2;cases e2
       | cons a b=>rw [hf] at e2;simp at e2
    refine ForW.of Jm (fun i σ H'=>(∃ v7 v8,σ=[some (V.ref x),some (V.int (st:Int)),some (V.int (gl:Int)),some (V.int lim),some (V.int d),some (V.ref pw),some (V.int t),v7,v8])/\SameBut lb H6 H'/\StrmAt H' (f 7) x lb m as ((tks.take i).foldl (J32 t) fl1)) ⟨⟨v7,v8,rfl⟩,SameBut.refl _ _,S6⟩ (fun i σ H' _ q=>.of (q.2.1 _ _ npw hpw6)) ?_ ?_
    ·rintro i y σ H7 hy ⟨⟨v7,v8,rfl⟩,B7,S7⟩
     obtain ⟨s',hs',q,rfl,hq⟩:=All2.at hz6 hy;have hq7:=B7 _ _ (J2F hq hb6 (by intro z;cases z)) hq;refine ⟨q,_,rfl,.of hq7,rfl,?_⟩;simp only [J0O,J2g,J01];walk_at "dl";obtain ⟨dx7,la7,ls7,xs7,sa7,hx7,_,_,hb7,_⟩:=S7.ex;rw [take_succ,hs',foldl_append];generalize hf7:(tks.take i).foldl (J32 t) fl1=fl7 at *;have hl7:s'.1<fl7.length:=by rw [S7.len];exact W.lt s' (yG hs')
     have e7:=yA hl7;have hsg:=W.sgn s' (yG hs');refine ⟨_,_,_,hx7,T.wf.cls,T.wn,_,rfl,lb,_,s'.1,V.int fl7[s'.1],rfl,rfl,.of hb7,by rw [yN,e7];rfl,.inl ⟨by omega,by omega⟩,_,rfl,lb,_,_,s'.1,rfl,rfl,hb7,J4G (by rw [yC];exact hl7),⟨_,rfl⟩,B7.at,?_⟩;have ep:(fl7.map V.int).set s'.1 (V.int (fl7[s'.1]+s'.2 * t))=(J32 t fl7 s').map V.int:=by
      unfold J32;rw [map_set,JN e7]
     refine S7.turn (SameBut.refl _ _).at ?_ (J5f t fl7 s');rw [J1,ep];rfl
    ·rintro σ H7 ⟨⟨v7,v8,rfl⟩,B7,S7⟩
     rw [hzl,yO] at S7;walk_at "dl";have hwb:=W.back ct;refine ⟨_,?_,d+t,_,⟨_,_,_,_,rfl⟩,B6.trans B7,S7,⟨J6o (by omega) tks fl1 P1.bnd W.nd t2 W.sgn W.lt,fun v=>?_,fun z=>by omega,fun _=>?_⟩,by omega,by omega,rfl⟩
     ·omega
     ·rw [J9y tks fl1 gl S1.len hwb v,P1.ex v]
      split<;>split<;>omega
     ·by_cases cz:d=0
      ·have e:=P1.same cz
       subst e;exact J5R tks gl hwb W.room
      ·exact P1.rch (by omega)
  ·rw [yh cl]
   exact k H1 fl1 d s1 S1 P1 d0 dl (.inl (by omega))
def JaT (K:Frag):Sp:=fun vs H Q _=>∃ (m:Nat) (la lf:Addr) (xs:List V) (as:List Arc) (fl:List Int),vs=[.int m,.ref la,.ref lf]/\m<=250/\H la=some (.lst xs)/\ArcsV H xs as/\H lf=some (.lst (fl.map V.int))/\fl.length=as.length/\as.length<=1000/\(∀ A∈as,InN m A) /\
 ∀ H' p,Same H H'->H' p=some (.lst ((J1D m as fl as.length).map V.int))->Q (.ref p) H'
theorem ok_gains (T:Txt K mg f fd):FnOk P w K mg base CX0 1 (f 5) (fd 5) ["many","arcs","flow"] (JaT K):=by
 walk_at "ok wH J3r"
 ·obtain ⟨m,la,lf,xs,as,fl,rfl,_⟩:=h
  rfl
 ·obtain ⟨m,la,lf,xs,as,fl,rfl,hm,hla,hA,hlf,J06,h1000,hin,k⟩:=h
  refine ⟨_,(Jc (psl 3 J3r.nd (Jl Jbp (J0l (pal rfl Je Ja)) (pvl 0)))
   (Jc (J0a PassesOwn.never rfl (Jeq rfl rfl T.yd (pal rfl (pvl 1) (pal rfl (pvl 2) Ja)) rfl rfl) (J1C rfl rfl (Jq (pgl 4 J3r.nd) (Jq (pgl 5 J3r.nd) J0w)))
   (Jc (J6V (pvl 3) (JT (J2p rfl) (pvl 4) Je (fun _ _=>rfl)) (J8E rfl) (pvl 5) JdX J3q)
   (Jg (J6V (pvl 3) (JT (J2p rfl) (pvl 4) Je (fun _ _=>rfl)) (J8E rfl) (pvl 5) J8H J3q))))
   (Jg (Jx (pvl 3))))),?_⟩
  walk_at "dl";refine ⟨Jb (by decide),fun p0 hp0=>?_⟩;have u0:=Same.upd_new hp0 (HO.lst [V.int 0]);have g0:upd H p0 (HO.lst [V.int 0]) p0=some (.lst [V.int 0]):=J1;generalize upd H p0 (HO.lst [V.int 0])=H0 at *;refine ⟨p0,(m:Int),[V.int 0],rfl,rfl,g0,by omega,by omega,by rw [Int.toNat_natCast];exact Jb (by simp;omega),fun p hp=>?_⟩;rw [Int.toNat_natCast,J7y];have hpH:H p=none:=by
   cases e:H p with
   | none=>rfl
   | some o=>rw [u0 _ _ e] at hp;cases hp
  have s1:=u0.new hp (HO.lst ((List.replicate m (0:Int)).map V.int));have g1:upd H0 p (HO.lst ((List.replicate m (0:Int)).map V.int)) p=some (.lst ((List.replicate m (0:Int)).map V.int)):=J1;generalize upd H0 p (HO.lst ((List.replicate m (0:Int)).map V.int))=H1 at *;refine J0b ?_;walk_at "dl";refine ⟨⟨_,.of (s1 _ _ hla)⟩,⟨_,.of (s1 _ _ hlf)⟩,?_⟩;have hxl:=hA.1;refine ForW.zip (xs:=xs) (ys:=fl.map V.int) (fun i σ H'=>(∃ v4 v5,σ=[some (V.int (m:Int)),some (V.ref la),some (V.ref lf),some (V.ref p),v4,v5])/\Same H H'/\H' p=some (.lst ((J1D m as fl i).map V.int))) ⟨⟨none,none,rfl⟩,s1,g1⟩ (fun _ _ H' q=>⟨.of (q.2.1 _ _ hla),.of (q.2.1 _ _ hlf)⟩) ?_ ?_
  ·rintro i x y σ H2 q hx hy ⟨⟨v4,v5,rfl⟩,s2,g2⟩ hq
   obtain ⟨A,hAi,pa,rfl,hpa⟩:=All2.at hA hx;rw [yN] at hy;obtain ⟨n,hn,rfl⟩:=Option.map_eq_some_iff.mp hy;have u3:=Same.upd_new hq (HO.tup [V.ref pa,V.int n]);refine ⟨q,_,rfl,.of J1,rfl,?_⟩;have g3:=u3 _ _ g2;have s3:=s2.trans u3;have hpa3:=s3 _ _ hpa;generalize upd H2 q (HO.tup [V.ref pa,V.int n])=H3 at *;unfold Arc.vs at hpa3;simp only [J0O,J2g,J01];walk_at "dl";obtain ⟨i1,i2,i3,i4⟩:=hin A (yG hAi);have eG:J1D m as fl (i+1)=J4i (J1D m as fl i) A n:=by
    show J4i (J1D m as fl i) (as.getD i default) (fl.getD i 0)=_;rw [JN hAi,JN hn]
   have lG:=J5D m as fl i;rw [eG];generalize J1D m as fl i=G at *;obtain ⟨aa,ab,al,au⟩:=A;simp only at i1 i2 i3 i4 hpa3;obtain ⟨na,rfl⟩:∃ na:Nat,aa=(na:Int):=⟨aa.toNat,by omega⟩;obtain ⟨nb,rfl⟩:∃ nb:Nat,ab=(nb:Int):=⟨ab.toNat,by omega⟩;have ha:na<G.length:=by omega
   have ea:G.getD na 0=G[na]:=JN (yA ha);have hb:nb<(G.set na (G[na] - n)).length:=by rw [length_set];omega
   have eb:(G.set na (G[na] - n)).getD nb 0=(G.set na (G[na] - n))[nb]:=JN (yA hb);have npa:pa≠p:=fun e=>by rw [e,g3] at hpa3;cases hpa3
   refine ⟨pa,_,_,_,rfl,rfl,.of hpa3,Jt (j:=0) rfl,p,_,na,_,rfl,rfl,.of g3,by rw [yN,yA ha];rfl,_,rfl,p,_,_,na,rfl,rfl,g3,J4G (by rw [yC];exact ha),?_⟩;rw [J4l];refine ⟨pa,_,_,_,rfl,rfl,.of (by rw [Jd npa];exact hpa3),Jt (j:=1) rfl,p,_,nb,_,rfl,rfl,.of J1,by rw [yN,yA hb];rfl,_,rfl,p,_,_,nb,rfl,rfl,J1,J4G (by rw [yC];exact hb),⟨_,rfl⟩,?_,?_⟩
   ·rw [J90]
    exact s3.set hpH _
   ·rw [J1,J4l]
    unfold J4i;simp only [Int.toNat_natCast,ea,eb]
  ·rintro σ H2 ⟨⟨v4,v5,rfl⟩,s2,g2⟩
   rw [yC,hxl,J06,Nat.min_self] at g2;walk_at "dl";exact k _ p s2 g2
structure ArcOk (m:Nat)(A:Arc):Prop where
 inn:InN m A
 ne:A.a≠A.b
 lo:0<=A.l
 hi:A.l<=A.u
theorem JbT {k:Nat}(h:k<=xs.length):J4B xs none (some (k:Int))=xs.take k:=by
 unfold J4B HT.sIx;dsimp only;rw [yh (by omega),Int.toNat_natCast,Nat.min_eq_left h];simp
theorem J4e {α β:Type}{R:α->β->Prop}{xs:List α}{ys:List β}(h:All2 R xs ys)(k:Nat):All2 R (xs.take k) (ys.take k):=by
 refine ⟨by rw [yI,yI,h.1],fun i x y hx hy=>?_⟩;have hi:i<k:=by
  have:=(yB.mp hx).1;rw [yI] at this;omega
 rw [List.getElem?_take_of_lt hi] at hx hy;exact h.2 i x y hx hy
theorem J6C {α β:Type}{R:α->β->Prop}{xs:List α}{ys:List β}(h:All2 R xs ys)(k:Nat):All2 R (xs.drop k) (ys.drop k):=by
 refine ⟨by rw [length_drop,length_drop,h.1],fun i x y hx hy=>?_⟩;rw [List.getElem?_drop] at hx hy;exact h.2 _ x y hx hy
def exS (as:List Arc)(fl:List Int):List Int->Int
 | []=>0
 | v::vs=>exF as fl v+exS as fl vs
def ind (vs:List Int)(v:Int):Int:=if v∈vs then 1 else 0
theorem J7R {v:Int}{vs:List Int}(h1:v∉vs)(z y:Int):ind (v::vs) z * y=(if z=v then y else 0)+ind vs z * y:=by
 unfold ind;by_cases e:z=v
 ·subst e
  rw [yi yK,yi rfl,yh h1];omega
 ·by_cases m:z∈vs
  ·rw [yi (yJ _ m),yh e,yi m];omega
  ·rw [yh (fun q=>by rcases yL.mp q with q | q;exact e q;exact m q),yh e,yh m];omega
theorem J3J {A:Arc}{as:List Arc}{y:Int}{fl:List Int}:∀ {vs:List Int},vs.Nodup->exS (A::as) (y::fl) vs=ind vs A.b * y - ind vs A.a * y+exS as fl vs
 | [],_=>by simp [exS,ind]
 | v::vs,h=>by
   obtain ⟨h1,h2⟩:=nodup_cons.mp h;show (if A.b=v then y else 0) - (if A.a=v then y else 0)+exF as fl v+exS (A::as) (y::fl) vs=_;rw [J3J h2,J7R h1,J7R h1];show _=_+(exF as fl v+exS as fl vs);omega
theorem J3K {v:Int}:∀ (as:List Arc) (fl:List Int) (A:Arc) (y:Int),fl.length=as.length->exF (as++[A]) (fl++[y]) v=exF as fl v+((if A.b=v then y else 0) - (if A.a=v then y else 0))
 | [],[],A,y,_=>by simp [exF]
 | [],_::_,_,_,h=>by simp at h
 | _::_,[],_,_,h=>by simp at h
 | B::as,x::fl,A,y,h=>by
   show _ - _+exF (as++[A]) (fl++[y]) v=_ - _+exF as fl v+_;rw [J3K as fl A y (by simpa using h)];omega
structure Flow (as:List Arc)(fl:List Int):Prop where
 bnd:Bnd as fl
 ex:∀ v,exF as fl v=0
theorem Flow.len {as:List Arc}(h:Flow as fl):fl.length=as.length:=h.bnd.1.symm
theorem J35 {a:Nat}{x:Int}:((List.range m).map G).set a x=(List.range m).map fun n=>if n=a then x else G n:=by
 refine ext_getElem? fun i=>?_;by_cases hi:i<m
 ·by_cases e:i=a
  ·subst e
   rw [List.getElem?_set_self (by simpa using hi),yN,List.getElem?_range hi];simp
  ·rw [List.getElem?_set_ne (Ne.symm e),yN,yN,List.getElem?_range hi]
   simp [e]
 ·rw [List.getElem?_eq_none (by simp;omega),List.getElem?_eq_none (by simp;omega)]
theorem J2G {a:Nat}(h:a<m):((List.range m).map G).getD a 0=G a:=JN (by rw [yN,List.getElem?_range h];rfl)
theorem J7X {m:Nat}{as:List Arc}{fl:List Int}(hin:∀ A∈as,InN m A)(hl:fl.length=as.length):∀ i,i<=as.length->J1D m as fl i=(List.range m).map fun n:Nat=>exF (as.take i) (fl.take i) (n:Int)
 | 0,_=>by
   show List.replicate m 0=(List.range m).map fun n:Nat=>(0:Int);rw [map_const',yX]
 | i + 1,h=>by
   obtain ⟨A,hA⟩:∃ A,as[i]?=some A:=⟨_,yA (by omega)⟩;obtain ⟨y,hy⟩:∃ y,fl[i]?=some y:=⟨_,yA (by omega)⟩;obtain ⟨a0,a1,b0,b1⟩:=hin A (yG hA);obtain ⟨a,ea⟩:=Int.eq_ofNat_of_zero_le a0;obtain ⟨b,eb⟩:=Int.eq_ofNat_of_zero_le b0;show J4i (J1D m as fl i) (as.getD i default) (fl.getD i 0)=_;rw [J7X hin hl i (by omega),JN hA,JN hy];unfold J4i;rw [ea,eb,Int.toNat_natCast,Int.toNat_natCast,J2G (by omega),J35,J2G (by omega),J35];refine map_congr_left fun n hn=>?_;rw [take_succ,take_succ,hA,hy,show (some A).toList=[A] from rfl,show (some y).toList=[y] from rfl,J3K _ _ _ _ (by rw [yI,yI];omega),ea,eb];by_cases e1:n=b<;>by_cases e2:n=a
   ·subst e1 e2
    simp
   ·subst e1
    rw [yi rfl,yh e2,yi rfl,yh (by omega)];omega
   ·subst e2
    rw [yh e1,yi rfl,yh (by omega),yi rfl];omega
   ·rw [yh e1,yh e2,yh (by omega),yh (by omega)];omega
abbrev J2o (zs:List Nat):List Int:=zs.map fun z:Nat=>(z:Int)
theorem Jab (zs:List Nat):zs.map J19=(J2o zs).map V.int:=by rw [map_map];rfl
theorem J6h {zs:List Nat}:(n:Int)∈J2o zs↔n∈zs:=by
 rw [yU]
 exact ⟨fun ⟨u,hu,e⟩=>by have e':u=n:=by omega
                         exact e' ▸ hu,fun h=>⟨n,h,rfl⟩⟩
theorem J80 {A:Arc}{y:Int}{vs:List Int}(hn:vs.Nodup):∀ {as:List Arc} {fl:List Int},fl.length=as.length->exS (as++[A]) (fl++[y]) vs=exS as fl vs+(ind vs A.b * y - ind vs A.a * y)
 | [],[],_=>by
   show exS [A] [y] vs=_;rw [J3J hn];omega
 | [],_::_,h=>by simp at h
 | _::_,[],h=>by simp at h
 | B::as,x::fl,h=>by
   rw [cons_append,cons_append,J3J hn,J3J hn,J80 hn (by simpa using h)];omega
def eA (vs:List Int)(A:Arc)(y:Int):Int:=ind vs A.b * y - ind vs A.a * y
def eN (as:List Arc)(fl:List Int)(vs:List Int)(k:Nat):Nat->Int
 | 0=>0
 | n+1=>eN as fl vs k n+(if n=k then 0 else eA vs (as.getD n default) (fl.getD n 0))
def cA (vs:List Int)(A:Arc):Int:=if A.a∈vs then (if A.b∈vs then 0 else -A.u) else (if A.b∈vs then A.l else 0)
def cN (as:List Arc)(vs:List Int)(k:Nat):Nat->Int
 | 0=>0
 | n+1=>cN as vs k n+(if n=k then 0 else cA vs (as.getD n default))
theorem J8N {as:List Arc}{fl vs:List Int}{k:Nat}(hn:vs.Nodup)(hl:fl.length=as.length):∀ n,n<=as.length->exS (as.take n) (fl.take n) vs=eN as fl vs k n+(if k<n then eA vs (as.getD k default) (fl.getD k 0) else 0)
 | 0,_=>by
   have:∀ vs:List Int,exS [] [] vs=0:=fun vs=>by
    induction vs with
    | nil=>rfl
    | cons v vs ih=>show exF [] [] v+exS [] [] vs=0;rw [ih];rfl
   rw [yh (by omega)];show exS [] [] vs=0+0;rw [this];rfl
 | n + 1,h=>by
   obtain ⟨A,hA⟩:∃ A,as[n]?=some A:=⟨_,yA (by omega)⟩;obtain ⟨y,hy⟩:∃ y,fl[n]?=some y:=⟨_,yA (by omega)⟩;rw [take_succ,take_succ,hA,hy,show (some A).toList=[A] from rfl,show (some y).toList=[y] from rfl,J80 hn (by rw [yI,yI];omega),J8N (k:=k) hn hl n (by omega)];show _=eN as fl vs k n+(if n=k then 0 else eA vs (as.getD n default) (fl.getD n 0))+_;rw [JN hA,JN hy];by_cases e:n=k
   ·subst e
    rw [yh (by omega),yi rfl,yi (by omega),JN hA,JN hy];unfold eA;omega
   ·rw [yh e]
    by_cases c:k<n
    ·rw [yi c,yi (by omega)];unfold eA;omega
    ·rw [yh c,yh (by omega)];unfold eA;omega
theorem Jeu {vs:List Int}{A:Arc}{y:Int}(h1:A.l<=y)(h2:y<=A.u):cA vs A<=eA vs A y:=by
 unfold cA eA ind;by_cases a:A.a∈vs<;>by_cases b:A.b∈vs
 ·rw [yi a,yi b,yi b,yi a];omega
 ·rw [yi a,yh b,yh b,yi a];omega
 ·rw [yh a,yi b,yi b,yh a];omega
 ·rw [yh a,yh b,yh b,yh a];omega
theorem Jev {vs:List Int}{A:Arc}{y:Int}(h1:A.a∈vs->A.b∉vs->y=A.u)(h2:A.a∉vs->A.b∈vs->y=A.l):eA vs A y=cA vs A:=by
 unfold cA eA ind;by_cases a:A.a∈vs<;>by_cases b:A.b∈vs
 ·simp only [a,b,if_true];omega
 ·rw [h1 a b];simp only [a,b,if_true,if_false];omega
 ·rw [h2 a b];simp only [a,b,if_true,if_false];omega
 ·simp only [a,b,if_false];omega
theorem Jdd {as:List Arc}{fl vs:List Int}{k:Nat}(h:Bnd as fl):∀ n,n<=as.length->cN as vs k n<=eN as fl vs k n
 | 0,_=>Int.le_refl _
 | n+1,hn=>by
   have ih:=Jdd (vs:=vs) (k:=k) h n (by omega);obtain ⟨A,hA⟩:∃ A,as[n]?=some A:=⟨_,yA (by omega)⟩;obtain ⟨y,hy,h1,h2⟩:=All2.at h hA;show cN as vs k n+(if n=k then 0 else cA vs (as.getD n default))<=eN as fl vs k n+(if n=k then 0 else eA vs (as.getD n default) (fl.getD n 0));rw [JN hA,JN hy];have:=Jeu (vs:=vs) h1 h2
   split<;>omega
theorem Jde {as:List Arc}{fl vs:List Int}{k:Nat}(hl:fl.length=as.length)(h:∀ (n:Nat) A y,n≠k->as[n]?=some A->fl[n]?=some y->(A.a∈vs->A.b∉vs->y=A.u)/\(A.a∉vs->A.b∈vs->y=A.l)):∀ n,n<=as.length->eN as fl vs k n=cN as vs k n
 | 0,_=>rfl
 | n+1,hn=>by
   have ih:=Jde (vs:=vs) (k:=k) hl h n (by omega);obtain ⟨A,hA⟩:∃ A,as[n]?=some A:=⟨_,yA (by omega)⟩;obtain ⟨y,hy⟩:∃ y,fl[n]?=some y:=⟨_,yA (by omega)⟩;show eN as fl vs k n+(if n=k then 0 else eA vs (as.getD n default) (fl.getD n 0))=cN as vs k n+(if n=k then 0 else cA vs (as.getD n default));rw [JN hA,JN hy,ih];by_cases e:n=k
   ·rw [yi e,yi e]
   ·rw [yh e,yh e,Jev (h n A y e hA hy).1 (h n A y e hA hy).2]
theorem J7Y {as:List Arc}{fl:List Int}(h:∀ v,exF as fl v=0):∀ vs:List Int,exS as fl vs=0
 | []=>rfl
 | v::vs=>by show exF as fl v+exS as fl vs=0;rw [h v,J7Y h vs];rfl
def Ji (F:Nat->Int):Nat->Int
 | 0=>0
 | n+1=>Ji F n+F n
theorem J6I {F G:Nat->Int}:∀ n,(∀ v,v<n->F v<=G v)->Ji F n<=Ji G n
 | 0,_=>Int.le_refl _
 | n+1,h=>by
   have h1:=J6I n fun v hv=>h v (by omega);have h2:=h n (by omega);show Ji F n+F n<=Ji G n+G n;omega
theorem J6J {F G:Nat->Int}:∀ n,(∀ v,v<n->F v<=G v)->Ji F n=Ji G n->∀ v,v<n->F v=G v
 | 0,_,_,_,h=>absurd h (Nat.not_lt_zero _)
 | n+1,h,e,v,hv=>by
   have h1:=J6I n fun v hv=>h v (by omega);have h2:=h n (by omega);have e':Ji F n+F n=Ji G n+G n:=e;by_cases c:v=n
   ·subst c;omega
   ·exact J6J n (fun v hv=>h v (by omega)) (by omega) v (by omega)
theorem J1a {F G:Nat->Int}:∀ n,(∀ v,v<n->F v=G v)->Ji F n=Ji G n
 | 0,_=>rfl
 | n+1,h=>by
   show Ji F n+F n=Ji G n+G n;rw [J1a n fun v hv=>h v (by omega),h n (by omega)]
theorem J2v {F G:Nat->Int}:∀ n,Ji (fun v=>F v - G v) n=Ji F n - Ji G n
 | 0=>rfl
 | n+1=>by
   show Ji (fun v=>F v - G v) n+(F n - G n)=Ji F n+F n - (Ji G n+G n);rw [J2v n];omega
theorem J3n {F G:Nat->Int}:∀ n,Ji (fun v=>F v+G v) n=Ji F n+Ji G n
 | 0=>rfl
 | n+1=>by
   show Ji (fun v=>F v+G v) n+(F n+G n)=Ji F n+F n+(Ji G n+G n);rw [J3n n];omega
theorem JQ:∀ {F:Nat->Int} n,(∀ v,v<n->F v=0)->Ji F n=0
 | _,0,_=>rfl
 | F,n+1,h=>by
   show Ji F n+F n=0;rw [JQ n fun v hv=>h v (by omega),h n (by omega)];rfl
theorem JZ {F:Nat->Int}{a:Nat}:∀ m,a<m->(∀ v,v<m->v≠a->F v=0)->Ji F m=F a
 | 0,h,_=>absurd h (Nat.not_lt_zero _)
 | m + 1,h,z=>by
   show Ji F m+F m=F a;by_cases c:a=m
   ·subst c
    rw [JQ a fun v hv=>z v (by omega) (by omega)];omega
   ·rw [JZ m (by omega) fun v hv hn=>z v (by omega) hn,z m (by omega) (Ne.symm c)];omega
def J4t (F:Nat->Int):List Nat->Int
 | []=>0
 | v::vs=>F v+J4t F vs
theorem J4X {F G:Nat->Int}:∀ {ns:List Nat},(∀ v∈ns,F v=G v)->J4t F ns=J4t G ns
 | [],_=>rfl
 | v::vs,h=>by
   show F v+J4t F vs=G v+J4t G vs;rw [h v yK,J4X fun v hv=>h v (yJ _ hv)]
theorem JaQ {m:Nat}:∀ {ns:List Nat} {F:Nat->Int},ns.Nodup->(∀ v∈ns,v<m)->(∀ v,v<m->v∉ns->F v=0)->J4t F ns=Ji F m
 | [],F,_,_,z=>(JQ m fun v hv=>z v hv (by simp)).symm
 | a :: ns,F,hn,hl,z=>by
   obtain ⟨h1,h2⟩:=nodup_cons.mp hn;have ih:=JaQ (m:=m) (ns:=ns) (F:=fun v=>if v=a then 0 else F v) h2 (fun v hv=>hl v (yJ _ hv)) fun v hv hn=>by
    by_cases c:v=a
    ·rw [yi c]
    ·rw [yh c];exact z v hv (fun q=>by rcases yL.mp q with q | q;exact c q;exact hn q)
   have e1:J4t (fun v=>if v=a then 0 else F v) ns=J4t F ns:=J4X fun v hv=>by
    rw [yh (fun q:v=a=>h1 (q ▸ hv))]
   have e2:Ji F m=Ji (fun v=>if v=a then F v else 0) m+Ji (fun v=>if v=a then 0 else F v) m:=by
    rw [<- J3n];refine J1a m fun v _=>?_
    split<;>omega
   have e3:Ji (fun v=>if v=a then F v else 0) m=F a:=by
    rw [JZ m (hl a yK) fun v _ hn=>yh hn];exact yi rfl
   show F a+J4t F ns=Ji F m;omega
theorem J7Z {as:List Arc}{fl:List Int}{F:Nat->Int}:∀ {ns:List Nat},(∀ v∈ns,exF as fl (v:Nat)=F v)->exS as fl (J2o ns)=J4t F ns
 | [],_=>rfl
 | v::vs,h=>by
   show exF as fl (v:Nat)+exS as fl (J2o vs)=F v+J4t F vs;rw [h v yK,J7Z fun v hv=>h v (yJ _ hv)]
theorem J2i {v:Int}{bs:List Arc}{g:List Int}:∀ {as:List Arc} {f:List Int},as.length=f.length->exF (as++bs) (f++g) v=exF as f v+exF bs g v
 | [],[],_=>by show exF bs g v=0+exF bs g v;omega
 | [],_::_,h=>by simp at h
 | _::_,[],h=>by simp at h
 | A::as,y::f,h=>by
   show _ - _+exF (as++bs) (f++g) v=_ - _+exF as f v+_;rw [J2i (by simpa using h)];omega
theorem J9A {v:Int}:∀ (as:List Arc) (n:Nat),exF as (List.replicate n 0) v=0
 | [],n=>by cases n<;>rfl
 | A::as,0=>rfl
 | A::as,n+1=>by
   show (if A.b=v then (0:Int) else 0) - (if A.a=v then (0:Int) else 0)+exF as (List.replicate n 0) v=0;rw [J9A as n]
   split<;>split<;>omega
theorem J2W {m:Nat}{v:Int}(hv:(m:Int)<=v):∀ {as:List Arc} {f:List Int},(∀ A∈as,InN m A)->exF as f v=0
 | [],f,_=>by cases f<;>rfl
 | A::as,[],_=>rfl
 | A::as,y::f,h=>by
   obtain ⟨a0,a1,b0,b1⟩:=h A yK;show _ - _+exF as f v=0;rw [J2W hv fun B hB=>h B (yJ _ hB),yh (by omega),yh (by omega)];rfl
theorem J9C {m:Nat}:∀ {as:List Arc} {f:List Int},(∀ A∈as,InN m A)->Ji (fun v=>exF as f (v:Nat)) m=0
 | [],f,_=>JQ m fun v _=>by cases f<;>rfl
 | A::as,[],_=>JQ m fun v _=>rfl
 | A::as,y::f,h=>by
   obtain ⟨a0,a1,b0,b1⟩:=h A yK;obtain ⟨a,ea⟩:=Int.eq_ofNat_of_zero_le a0;obtain ⟨b,eb⟩:=Int.eq_ofNat_of_zero_le b0;show Ji (fun v:Nat=>(if A.b=(v:Int) then y else 0) - (if A.a=(v:Int) then y else 0)+exF as f (v:Nat)) m=0;rw [J3n (F:=fun v:Nat=>(if A.b=(v:Int) then y else 0) - (if A.a=(v:Int) then y else 0)),J9C fun B hB=>h B (yJ _ hB),J2v (F:=fun v:Nat=>if A.b=(v:Int) then y else 0),JZ (a:=b) m (by omega) fun v _ hn=>yh (by omega),JZ (a:=a) m (by omega) fun v _ hn=>yh (by omega),yi (by omega),yi (by omega)];omega
def J1z (x:Int):Int:=if 0<x then x else 0
def J5Y (x:Int):Int:=if x<0 then -x else 0
theorem J5i {x:Int}(h:0<x):J1z x=x:=yi h
theorem J9f {x:Int}(h:¬ 0<x):J1z x=0:=yh h
theorem J7H {x:Int}(h:x<0):J5Y x=-x:=yi h
theorem JcJ {x:Int}(h:¬ x<0):J5Y x=0:=yh h
theorem J6W (x:Int):J1z x - J5Y x=x:=by
 unfold J1z J5Y
 split<;>split<;>omega
def drN (m:Nat)(G:Nat->Int):Nat->List Arc
 | 0=>[]
 | n+1=>drN m G n++(if 0<G n then [⟨(m:Int),(n:Int),0,G n⟩] else [])
def gvN (m:Nat)(G:Nat->Int):Nat->List Arc
 | 0=>[]
 | n+1=>gvN m G n++(if G n<0 then [⟨(n:Int),(m:Int)+1,0,-G n⟩] else [])
theorem J8O (m:Nat)(G:Nat->Int):∀ n,(drN m G n).length<=n
 | 0=>yj _
 | n+1=>by
   have:=J8O m G n;show (drN m G n++_).length<=n+1;rw [yH]
   split
   ·rw [length_singleton];omega
   ·rw [length_nil];omega
theorem J8J (m:Nat)(G:Nat->Int):∀ n,(gvN m G n).length<=n
 | 0=>yj _
 | n+1=>by
   have:=J8J m G n;show (gvN m G n++_).length<=n+1;rw [yH]
   split
   ·rw [length_singleton];omega
   ·rw [length_nil];omega
theorem dr_in {m:Nat}{G:Nat->Int}:∀ {n:Nat},n<=m->∀ A∈drN m G n,InN (m+2) A/\A.l=0/\0<=A.u
 | 0,_,A,h=>by cases h
 | n + 1,hn,A,h=>by
   rcases yQ.mp (show A∈drN m G n++(if 0<G n then [⟨(m:Int),(n:Int),0,G n⟩] else []) from h) with q | q
   ·exact dr_in (by omega) A q
   ·split at q
    ·rw [yD.mp q]
     exact ⟨⟨by show (0:Int)<=m;omega,by show (m:Int)<((m+2:Nat):Int);omega,by show (0:Int)<=n;omega,by show (n:Int)<((m+2:Nat):Int);omega⟩,rfl,by show 0<=G n;omega⟩
    ·cases q
theorem gv_in {m:Nat}{G:Nat->Int}:∀ {n:Nat},n<=m->∀ A∈gvN m G n,InN (m+2) A/\A.l=0/\0<=A.u
 | 0,_,A,h=>by cases h
 | n + 1,hn,A,h=>by
   rcases yQ.mp (show A∈gvN m G n++(if G n<0 then [⟨(n:Int),(m:Int)+1,0,-G n⟩] else []) from h) with q | q
   ·exact gv_in (by omega) A q
   ·split at q
    ·rw [yD.mp q]
     exact ⟨⟨by show (0:Int)<=n;omega,by show (n:Int)<((m+2:Nat):Int);omega,by show (0:Int)<=(m:Int)+1;omega,by show (m:Int)+1<((m+2:Nat):Int);omega⟩,rfl,by show 0<=-G n;omega⟩
    ·cases q
theorem J3g {α β:Type}{R:α->β->Prop}{xs zs:List α}{ys:List β}(h:All2 R (xs++zs) ys):All2 R xs (ys.take xs.length)/\All2 R zs (ys.drop xs.length):=by
 have h1:=J4e h xs.length;have h2:=J6C h xs.length;rw [take_left] at h1;rw [drop_left] at h2;exact ⟨h1,h2⟩
theorem J8c {as:List Arc}{A:Arc}{f:List Int}(h:Bnd (as++[A]) f):∃ f' y,f=f'++[y]/\Bnd as f'/\A.l<=y/\y<=A.u:=by
 obtain ⟨h1,h2⟩:=J3g h;obtain ⟨y,hy,q⟩:=All2.at h2 (i:=0) (x:=A) rfl;refine ⟨_,y,?_,h1,q⟩;have e:f.drop as.length=[y]:=by
  have hl:=h2.1;rw [length_singleton] at hl
  match hd:f.drop as.length,hl,hy with
  | [z],_,hy=>simpa using hy
 rw [<- e,take_append_drop]
theorem dr_ex {m:Nat}{G:Nat->Int}:∀ {n:Nat} {f:List Int},n<=m->Bnd (drN m G n) f->∃ D:Nat->Int,(∀ v,0<=D v/\D v<=J1z (G v))/\(∀ v,n<=v->D v=0)/\(∀ v:Nat,v<m->exF (drN m G n) f v=D v)/\exF (drN m G n) f m=-Ji D n/\exF (drN m G n) f ((m:Int)+1)=0/\∀ v,v<n->0<G v->∃ k:Nat,(drN m G n)[k]?=some ⟨(m:Int),(v:Int),0,G v⟩/\f[k]?=some (D v)
 | 0,f,_,_=>⟨fun _=>0,fun v=>⟨Int.le_refl _,by show (0:Int)<=J1z (G v);unfold J1z;split<;>omega⟩,fun _ _=>rfl,fun v _=>by cases f<;>rfl,by cases f<;>rfl,by cases f<;>rfl,fun v hv=>absurd hv (Nat.not_lt_zero _)⟩
 | n + 1,f,hn,hb=>by
   by_cases c:0<G n
   ·have e:drN m G (n+1)=drN m G n++[⟨(m:Int),(n:Int),0,G n⟩]:=by show drN m G n++_=_;rw [yi c]
    rw [e] at hb ⊢;obtain ⟨f',y,rfl,hb',y0,y1⟩:=J8c hb;obtain ⟨D,d1,d2,d3,d4,d5,d6⟩:=dr_ex (by omega) hb';have sn:∀ v:Int,exF (drN m G n++[⟨(m:Int),(n:Int),0,G n⟩]) (f'++[y]) v=exF (drN m G n) f' v+((if (n:Int)=v then y else 0) - (if (m:Int)=v then y else 0)):=fun v=>J3K _ _ _ _ hb'.1.symm;have dn:=d2 n (yj _);have y0':0<=y:=y0;have y1':y<=G n:=y1;refine ⟨fun v=>if v=n then y else D v,fun v=>?_,fun v hv=>?_,fun v hv=>?_,?_,?_,fun v hv hg=>?_⟩
    ·dsimp only
     by_cases q:v=n
     ·rw [yi q,q,J5i c];exact ⟨y0',y1'⟩
     ·rw [yh q];exact d1 v
    ·dsimp only
     rw [yh (by omega)];exact d2 v (by omega)
    ·dsimp only
     rw [sn,d3 v hv];by_cases q:v=n
     ·subst q
      rw [yi rfl,yh (by omega),yi rfl];omega
     ·rw [yh (by omega),yh (by omega),yh q];omega
    ·rw [sn,d4,yh (by omega),yi rfl]
     show _=-(Ji (fun v=>if v=n then y else D v) n+(if n=n then y else D n));rw [yi rfl,J1a n fun v hv=>yh (by omega)];omega
    ·rw [sn,d5,yh (by omega),yh (by omega)];rfl
    ·dsimp only
     by_cases q:v=n
     ·subst q
      refine ⟨(drN m G v).length,?_,?_⟩
      ·rw [yV (yj _),Nat.sub_self];rfl
      ·rw [yi rfl,show (drN m G v).length=f'.length from hb'.1,yV (yj _),Nat.sub_self];rfl
     ·obtain ⟨k,k1,k2⟩:=d6 v (by omega) hg
      refine ⟨k,?_,?_⟩
      ·rw [yW (yB.mp k1).1];exact k1
      ·rw [yh q,yW (yB.mp k2).1];exact k2
   ·have e:drN m G (n+1)=drN m G n:=by show drN m G n++_=_;rw [yh c,append_nil]
    rw [e] at hb ⊢;obtain ⟨D,d1,d2,d3,d4,d5,d6⟩:=dr_ex (by omega) hb;refine ⟨D,d1,fun v hv=>d2 v (by omega),d3,?_,d5,fun v hv hg=>?_⟩
    ·rw [d4]
     show _=-(Ji D n+D n);rw [d2 n (yj _)];omega
    ·by_cases q:v=n
     ·exact absurd (q ▸ hg) c
     ·exact d6 v (by omega) hg
theorem gv_ex {m:Nat}{G:Nat->Int}:∀ {n:Nat} {f:List Int},n<=m->Bnd (gvN m G n) f->∃ D:Nat->Int,(∀ v,0<=D v/\D v<=J5Y (G v))/\(∀ v,n<=v->D v=0)/\(∀ v:Nat,v<m->exF (gvN m G n) f v=-D v)/\exF (gvN m G n) f m=0/\exF (gvN m G n) f ((m:Int)+1)=Ji D n/\∀ v,v<n->G v<0->∃ k:Nat,(gvN m G n)[k]?=some ⟨(v:Int),(m:Int)+1,0,-G v⟩/\f[k]?=some (D v)
 | 0,f,_,_=>⟨fun _=>0,fun v=>⟨Int.le_refl _,by show (0:Int)<=J5Y (G v);unfold J5Y;split<;>omega⟩,fun _ _=>rfl,fun v _=>by cases f<;>rfl,by cases f<;>rfl,by cases f<;>rfl,fun v hv=>absurd hv (Nat.not_lt_zero _)⟩
 | n + 1,f,hn,hb=>by
   by_cases c:G n<0
   ·have e:gvN m G (n+1)=gvN m G n++[⟨(n:Int),(m:Int)+1,0,-G n⟩]:=by show gvN m G n++_=_;rw [yi c]
    rw [e] at hb ⊢;obtain ⟨f',y,rfl,hb',y0,y1⟩:=J8c hb;obtain ⟨D,d1,d2,d3,d4,d5,d6⟩:=gv_ex (by omega) hb';have sn:∀ v:Int,exF (gvN m G n++[⟨(n:Int),(m:Int)+1,0,-G n⟩]) (f'++[y]) v=exF (gvN m G n) f' v+((if (m:Int)+1=v then y else 0) - (if (n:Int)=v then y else 0)):=fun v=>J3K _ _ _ _ hb'.1.symm;have dn:=d2 n (yj _);have y0':0<=y:=y0;have y1':y<=-G n:=y1;refine ⟨fun v=>if v=n then y else D v,fun v=>?_,fun v hv=>?_,fun v hv=>?_,?_,?_,fun v hv hg=>?_⟩
    ·dsimp only
     by_cases q:v=n
     ·rw [yi q,q,J7H c];exact ⟨y0',y1'⟩
     ·rw [yh q];exact d1 v
    ·dsimp only
     rw [yh (by omega)];exact d2 v (by omega)
    ·dsimp only
     rw [sn,d3 v hv];by_cases q:v=n
     ·subst q
      rw [yh (by omega),yi rfl,yi rfl];omega
     ·rw [yh (by omega),yh (by omega),yh q];omega
    ·rw [sn,d4,yh (by omega),yh (by omega)];rfl
    ·rw [sn,d5,yi rfl,yh (by omega)]
     show _=Ji (fun v=>if v=n then y else D v) n+(if n=n then y else D n);rw [yi rfl,J1a n fun v hv=>yh (by omega)];omega
    ·dsimp only
     by_cases q:v=n
     ·subst q
      refine ⟨(gvN m G v).length,?_,?_⟩
      ·rw [yV (yj _),Nat.sub_self];rfl
      ·rw [yi rfl,show (gvN m G v).length=f'.length from hb'.1,yV (yj _),Nat.sub_self];rfl
     ·obtain ⟨k,k1,k2⟩:=d6 v (by omega) hg
      refine ⟨k,?_,?_⟩
      ·rw [yW (yB.mp k1).1];exact k1
      ·rw [yh q,yW (yB.mp k2).1];exact k2
   ·have e:gvN m G (n+1)=gvN m G n:=by show gvN m G n++_=_;rw [yh c,append_nil]
    rw [e] at hb ⊢;obtain ⟨D,d1,d2,d3,d4,d5,d6⟩:=gv_ex (by omega) hb;refine ⟨D,d1,fun v hv=>d2 v (by omega),d3,d4,?_,fun v hv hg=>?_⟩
    ·rw [d5]
     show _=Ji D n+D n;rw [d2 n (yj _)];omega
    ·by_cases q:v=n
     ·exact absurd (q ▸ hg) c
     ·exact d6 v (by omega) hg
structure CutOk (m:Nat)(as:List Arc)(ns:List Nat):Prop where
 so:ns.Pairwise (·<·)
 lt:∀ x∈ns,x<m
 pos:0<cN as (J2o ns) as.length as.length
theorem J5s (h:ns.Pairwise (·<·)):(J2o ns).Nodup:=pairwise_map.mpr (h.imp fun h=>by omega)
theorem JdN {as:List Arc}(F:Flow as fl)(h:CutOk m as ns):False:=by
 have h1:=J8N (k:=as.length) (J5s h.so) F.len as.length (yj _);rw [take_of_length_le (yj _),take_of_length_le (Nat.le_of_eq F.len),J7Y F.ex,yh (by omega)] at h1;have h2:=Jdd (vs:=J2o ns) (k:=as.length) F.bnd as.length (yj _);have:=h.pos;omega
def J1O (m:Nat)(G:Nat->Int)(as:List Arc):List Arc:=as++drN m G m++gvN m G m
def low (as:List Arc):List Int:=as.map (·.l)
structure Psh (m:Nat)(as:List Arc)(G:Nat->Int)(fl':List Int)(d:Int) where
 f1:List Int
 D:Nat->Int
 E:Nat->Int
 e:f1=fl'.take as.length
 bnd:Bnd as f1
 hD:∀ v,0<=D v/\D v<=J1z (G v)
 hE:∀ v,0<=E v/\E v<=J5Y (G v)
 ex:∀ v:Nat,v<m->exF as f1 v+D v - E v=G v
 sD:Ji D m=d
 sE:Ji E m=d
 atD:∀ v,v<m->0<G v->∃ k:Nat,(J1O m G as)[k]?=some ⟨(m:Int),(v:Int),0,G v⟩/\fl'[k]?=some (D v)
 atE:∀ v,v<m->G v<0->∃ k:Nat,(J1O m G as)[k]?=some ⟨(v:Int),(m:Int)+1,0,-G v⟩/\fl'[k]?=some (E v)
theorem Jdx {as:List Arc}{n0:Nat}(hin:∀ A∈as,InN m A)(hG:∀ v:Nat,v<m->exF as (low as) v=G v)(hP:Pushed (J1O m G as) (low as++List.replicate n0 0) fl' m (m+1) d):Nonempty (Psh m as G fl' d):=by
 have hb:Bnd (as++drN m G m++gvN m G m) fl':=hP.bnd;obtain ⟨b12,b3⟩:=J3g hb;obtain ⟨b1,b2⟩:=J3g b12;have l0:as.length=(low as).length:=(yC ..).symm;rw [take_take,Nat.min_eq_left (by rw [yH];omega)] at b1;obtain ⟨D,d1,d2,d3,d4,d5,d6⟩:=dr_ex (yj _) b2;obtain ⟨E,e1,e2,e3,e4,e5,e6⟩:=gv_ex (yj _) b3;have spl:fl'=fl'.take as.length++(fl'.take (as++drN m G m).length).drop as.length++fl'.drop (as++drN m G m).length:=by
  have h1:=take_append_drop as.length (fl'.take (as++drN m G m).length);rw [take_take,Nat.min_eq_left (by rw [yH];omega)] at h1;rw [h1,take_append_drop]
 have ex0:∀ v,exF (J1O m G as) (low as++List.replicate n0 0) v=exF as (low as) v:=fun v=>by
  unfold J1O;rw [yY,J2i l0,J9A];omega
 have ex1:∀ v,exF (J1O m G as) fl' v=exF as (fl'.take as.length) v+exF (drN m G m) ((fl'.take (as++drN m G m).length).drop as.length) v+exF (gvN m G m) (fl'.drop (as++drN m G m).length) v:=fun v=>by
  unfold J1O;rw [<- J2i b1.1,<- J2i (by have h1:=b1.1;have h2:=b2.1;rw [yH] at h2 ⊢;rw [yH];omega),<- spl]
 have ex2:∀ v:Int,exF as (fl'.take as.length) v+exF (drN m G m) ((fl'.take (as++drN m G m).length).drop as.length) v+exF (gvN m G m) (fl'.drop (as++drN m G m).length) v=exF as (low as) v+(if ((m+1:Nat):Int)=v then d else 0) - (if (m:Int)=v then d else 0):=fun v=>by
  rw [<- ex1,<- ex0];exact hP.ex v
 refine ⟨⟨_,D,E,rfl,b1,d1,e1,fun v hv=>?_,?_,?_,fun v hv hg=>?_,fun v hv hg=>?_⟩⟩
 ·have:=ex2 v
  rw [d3 v hv,e3 v hv,hG v hv,yh (by omega),yh (by omega)] at this;omega
 ·have:=ex2 m
  rw [d4,e4,J2W (Int.le_refl _) hin,J2W (Int.le_refl _) hin,yh (by omega),yi rfl] at this;omega
 ·have:=ex2 ((m:Int)+1)
  rw [d5,e5,J2W (by omega) hin,J2W (by omega) hin,yi (by omega),yh (by omega)] at this;omega
 ·obtain ⟨k,k1,k2⟩:=d6 v hv hg
  have kl:=(yB.mp k1).1;refine ⟨as.length+k,?_,?_⟩
  ·unfold J1O
   rw [yW (by rw [yH];omega),yV (by omega),Nat.add_sub_cancel_left];exact k1
  ·rw [List.getElem?_drop,List.getElem?_take_of_lt (by rw [yH];omega)] at k2
   exact k2
 ·obtain ⟨k,k1,k2⟩:=e6 v hv hg
  refine ⟨(as++drN m G m).length+k,?_,?_⟩
  ·unfold J1O
   rw [yV (by omega),Nat.add_sub_cancel_left];exact k1
  ·rw [List.getElem?_drop] at k2
   exact k2
theorem flow_of_psh {as:List Arc}(hin:∀ A∈as,InN m A)(hG:∀ v:Nat,v<m->exF as (low as) v=G v)(h:Psh m as G fl' d)(hd:d=Ji (fun v=>J1z (G v)) m):Flow as (fl'.take as.length):=by
 rw [<- h.e];have s0:Ji G m=0:=by rw [<- J1a m hG];exact J9C hin
 have s1:Ji G m=Ji (fun v=>J1z (G v)) m - Ji (fun v=>J5Y (G v)) m:=by rw [<- J2v];exact J1a m fun v _=>(J6W (G v)).symm
 have q1:=J6J m (fun v _=>(h.hD v).2) (h.sD.trans hd);have q2:=J6J m (fun v _=>(h.hE v).2) (h.sE.trans (by omega));refine ⟨h.bnd,fun v=>?_⟩;by_cases c:(m:Int)<=v
 ·exact J2W c hin
 ·by_cases n:v<0
  ·have:∀ {as:List Arc} {f:List Int},(∀ A∈as,InN m A)->exF as f v=0:=by
    intro as
    induction as with
    | nil=>intro f _;cases f<;>rfl
    | cons A as ih =>
      intro f h;cases f with
      | nil=>rfl
      | cons y f =>
        obtain ⟨a0,a1,b0,b1⟩:=h A yK;show _ - _+exF as f v=0;rw [ih fun B hB=>h B (yJ _ hB),yh (by omega),yh (by omega)];rfl
   exact this hin
  ·obtain ⟨z,rfl⟩:=Int.eq_ofNat_of_zero_le (by omega:0<=v)
   have hz:z<m:=by omega
   have a1:=h.ex z hz;have a2:=q1 z hz;have a3:=q2 z hz;have a4:=J6W (G z);omega
theorem J8P {as:List Arc}(hin:∀ A∈as,InN m A)(h:Psh m as G fl' d)(hd:d<Ji (fun v=>J1z (G v)) m)
 (hr:¬ Reach (J4q (J1O m G as) fl') m (m+1)) (hso:ns.Pairwise (·<·)) (hns:∀ x,x∈ns↔Reach (J4q (J1O m G as) fl') m x/\x<m):CutOk m as ns:=by
 have hD:∀ v,v<m->v∉ns->h.D v=J1z (G v):=fun v hv hn=>by
  skip
  have b:=h.hD v;by_cases g:0<G v
  ·obtain ⟨k,k1,k2⟩:=h.atD v hv g
   rw [J5i g] at b ⊢;by_cases c:h.D v<G v
   ·exact absurd ((hns v).mpr ⟨.step .here ⟨k,1,⟨_,k1,.inl ⟨rfl,rfl,rfl⟩⟩,by unfold J0M;rw [yi rfl,JN k1,JN k2];show 0<G v - h.D v;omega⟩,hv⟩) hn
   ·omega
  ·rw [J9f g] at b ⊢
   omega
 have hE:∀ v,v∈ns->h.E v=J5Y (G v):=fun v hv=>by
  obtain ⟨r,hvm⟩:=(hns v).mp hv;have b:=h.hE v;by_cases g:G v<0
  ·obtain ⟨k,k1,k2⟩:=h.atE v hvm g
   rw [J7H g] at b ⊢;by_cases c:h.E v < -G v
   ·exact absurd (r.step ⟨k,1,⟨_,k1,.inl ⟨rfl,rfl,rfl⟩⟩,by unfold J0M;rw [yi rfl,JN k1,JN k2];show 0 < -G v - h.E v;omega⟩) hr
   ·omega
  ·rw [JcJ g] at b ⊢
   omega
 have lt:∀ x∈ns,x<m:=fun x hx=>((hns x).mp hx).2;have hl:h.f1.length=as.length:=h.bnd.1.symm;have cu:eN as h.f1 (J2o ns) as.length as.length=cN as (J2o ns) as.length as.length:=by
  refine Jde hl (fun i B z _ hB hz=>?_) _ (yj _);obtain ⟨zl,zu⟩:=h.bnd.2 i B z hB hz;obtain ⟨p0,p1,q0,q1⟩:=hin B (yG hB);obtain ⟨p,ep⟩:=Int.eq_ofNat_of_zero_le p0;obtain ⟨q,eq⟩:=Int.eq_ofNat_of_zero_le q0;have hi:=(yB.mp hB).1;have hB':(J1O m G as)[i]?=some B:=by
   unfold J1O;rw [yY,yW hi];exact hB
  have hz':fl'[i]?=some z:=by
   have:=hz;rw [h.e,List.getElem?_take_of_lt hi] at this;exact this
  rw [ep,eq,J6h,J6h,hns,hns];constructor
  ·intro r1 r2
   by_cases c:z<B.u
   ·exact absurd ⟨r1.1.step ⟨i,1,⟨B,hB',.inl ⟨rfl,ep,eq⟩⟩,by unfold J0M;rw [yi rfl,JN hB',JN hz'];omega⟩,by omega⟩ r2
   ·omega
  ·intro r1 r2
   by_cases c:B.l<z
   ·exact absurd ⟨r2.1.step ⟨i,-1,⟨B,hB',.inr ⟨rfl,eq,ep⟩⟩,by unfold J0M;rw [yh (by decide),JN hB',JN hz'];omega⟩,by omega⟩ r1
   ·omega
 have h1:=J8N (k:=as.length) (J5s hso) hl as.length (yj _);rw [take_of_length_le (yj _),take_of_length_le (Nat.le_of_eq hl),yh (by omega),cu] at h1;have h2:exS as h.f1 (J2o ns)=J4t (fun v=>J1z (G v) - h.D v) ns:=J7Z fun v hv=>by
  have a1:=h.ex v (lt v hv);have a2:=hE v hv;have a3:=J6W (G v);omega
 have h3:=JaQ (m:=m) (ns:=ns) (F:=fun v=>J1z (G v) - h.D v) (hso.imp fun h=>yr h) lt fun v hv hn=>by
  have:h.D v=J1z (G v):=hD v hv hn;omega
 rw [J2v,h.sD] at h3;refine ⟨hso,lt,?_⟩;omega
theorem J6q {H:Hp}:∀ {kvs:List (Key×V)} {es:List Ent},EntsV H kvs es->kvs.map (·.1)=((Jv es).map fun n:Nat=>(n:Int)).map Sum.inl
 | [],[],_=>rfl
 | [],_::_,h=>by have:=h.1;simp at this
 | _::_,[],h=>by have:=h.1;simp at this
 | kv::kvs,e::es,h=>by
   obtain ⟨h1,h2⟩:=All2.tail h;have ih:=J6q h2;unfold Jv at *;rw [yM,yM,yM,yM,ih,h1.1]
theorem J7u {ks:List Nat}{ms:List Int}(hp:ms.Perm (ks.map fun n:Nat=>(n:Int)))(hs:ms.Pairwise (·<=·))(hd:ks.Nodup):∃ ns:List Nat,ms.map V.int=ns.map J19/\ns.Perm ks/\ns.Pairwise (·<·):=by
 have hpos:∀ m∈ms,∃ n:Nat,m=(n:Int):=fun m hm=>by
  obtain ⟨n,_,e⟩:=yU.mp (hp.mem_iff.mp hm);exact ⟨n,e.symm⟩
 have hpm:(ms.map Int.toNat).Perm ks:=by
  have:=hp.map Int.toNat;rw [map_map] at this;have e:(Int.toNat∘fun n:Nat=>(n:Int))=id:=by funext n;simp
  rwa [e,map_id] at this
 have hle:(ms.map Int.toNat).Pairwise (·<=·):=by
  rw [pairwise_map];refine List.Pairwise.imp_of_mem (fun {a b} ha hb hab=>?_) hs;obtain ⟨n,rfl⟩:=hpos a ha;obtain ⟨m,rfl⟩:=hpos b hb;simp only [Int.toNat_natCast];omega
 refine ⟨ms.map Int.toNat,?_,hpm,(hle.and (hpm.nodup_iff.mpr hd)).imp fun ⟨x,y⟩=>by omega⟩;rw [map_map];refine map_congr_left fun m hm=>?_;obtain ⟨n,rfl⟩:=hpos m hm;rfl
structure NetA (H:Hp)(la:Addr)(xs:List V)(m:Nat)(as:List Arc):Prop where
 la:H la=some (.lst xs)
 arcs:ArcsV H xs as
 m1:1<=m
 m2:m<=250
 len:as.length<=300
 ok:∀ A∈as,ArcOk m A
theorem NetA.mono {la:Addr}{as:List Arc}(s:Same H H')(h:NetA H la xs m as):NetA H' la xs m as:=⟨s _ _ h.la,h.arcs.mono s,h.m1,h.m2,h.len,h.ok⟩
def fcS (g:Bool):Str:=if g then "flow" else "cut"
structure FcR (m:Nat)(as:List Arc)(g:Bool)(zs:List Int):Prop where
 flow:g=true->Flow as zs
 cut:g=false->∃ ns,zs=J2o ns/\CutOk m as ns
def JeK (f:Nat->Addr):Sp:=fun vs H Q _=>∃ (m:Nat) (la:Addr) (xs:List V) (as:List Arc),vs=[.int m,.ref la]/\NetA H la xs m as /\
 ∀ H' t pl g zs,Same H H'->H' t=some (.tup [.str (fcS g),.ref pl])->H pl=none->H' pl=some (.lst (zs.map V.int))->FcR m as g zs->Q (.ref t) H'
theorem J9D {m:Nat}{G:Nat->Int}:∀ n,((drN m G n).map Arc.u).foldl (·+·) 0=Ji (fun v=>J1z (G v)) n
 | 0=>rfl
 | n + 1=>by
   show ((drN m G n++(if 0<G n then [(⟨(m:Int),(n:Int),0,G n⟩:Arc)] else [])).map Arc.u).foldl (·+·) 0=Ji (fun v=>J1z (G v)) n+J1z (G n);rw [yP,foldl_append,J9D n];by_cases c:0<G n
   ·rw [yi c,J5i c];rfl
   ·rw [yh c,J9f c]
    show Ji _ n=_+0;omega
def J4Z (K:Frag)(f:Nat->Addr):Sp:=JeK f
theorem ok_flow_or_cut (T:Txt K mg f fd):FnOk P w K mg base CX0 5 (f 8) (fd 8) ["many","arcs"] (J4Z K f):=by
 walk_at "ok wI J0j"
 ·obtain ⟨m,la,xs,as,rfl,_⟩:=h
  rfl
 ·obtain ⟨m,la,xs,as,rfl,N,k⟩:=h
  refine ⟨_,(Jc (J2T ["arc"] ["many","arcs","leasts","over","drawn","given","due","stream"] rfl (show CompSc _ (Jf J0f) ["many","arcs","leasts","over","drawn","given","due","stream"] ["many","arcs","leasts","over","drawn","given","due","stream"] from Jr (by decide +kernel)) J0j.nd (i:=2) rfl rfl (J00 rfl (pvl 1)) (fun _ _ _ _ _=>(pgl 0 (show (["arc","many","arcs","leasts","over","drawn","given","due","stream"]:List Str).Nodup by decide +kernel))) (fun _ _ _ _ _=>JR) (fun _ _ _ _ _=>(JT (J2p rfl) (pvl 0) Je (fun _ _=>rfl))))
   (Jc (psl 3 J0j.nd (Jj T.wH (ok_gains T) (hr.mono (by decide)) rfl (by decide) rfl (pal rfl (pvc 0) (pal rfl (pvl 1) (pal rfl (pvl 2) Ja)))))
   (Jc (J2T ["node","number"] ["many","arcs","leasts","over","drawn","given","due","stream"] rfl (show CompSc _ (Jf J0f) ["many","arcs","leasts","over","drawn","given","due","stream"] ["many","arcs","leasts","over","drawn","given","due","stream"] from Jr (by decide +kernel)) J0j.nd (i:=4) rfl rfl (J1q rfl T.wk (pal rfl (pvl 3) Ja) rfl) (fun _ _ _ _ _=>(JdB K 0 1 (show (["node","number","many","arcs","leasts","over","drawn","given","due","stream"]:List Str).Nodup by decide +kernel))) (fun _ _ _ _ _=>(J2S (Jw J5o (pvl 1) Je (JB _)))) (fun _ _ _ _ _=>(JD (pal rfl (pvc 2) (pal rfl (pvl 0) (pal rfl Je (pal rfl (pvl 1) Ja)))))))
   (Jc (J2T ["node","number"] ["many","arcs","leasts","over","drawn","given","due","stream"] rfl (show CompSc _ (Jf J0f) ["many","arcs","leasts","over","drawn","given","due","stream"] ["many","arcs","leasts","over","drawn","given","due","stream"] from Jr (by decide +kernel)) J0j.nd (i:=5) rfl rfl (J1q rfl T.wk (pal rfl (pvl 3) Ja) rfl) (fun _ _ _ _ _=>(JdB K 0 1 (show (["node","number","many","arcs","leasts","over","drawn","given","due","stream"]:List Str).Nodup by decide +kernel))) (fun _ _ _ _ _=>(J2S (Jw J3B (pvl 1) Je (JB _)))) (fun _ _ _ _ _=>(JD (pal rfl (pvl 0) (pal rfl (Jl J0d (pvc 2) Je) (pal rfl Je (pal rfl (J5l J39 (pvl 1)) Ja)))))))
   (Jc (psl 6 J0j.nd (JA (J1c rfl rfl) T.wg J1d rfl (by decide) (by decide) rfl (pal rfl (JY ["arc"] ["many","arcs","leasts","over","drawn","given","due","stream"] rfl (show CompSc _ (Jf J0f) ["many","arcs","leasts","over","drawn","given","due","stream"] ["many","arcs","leasts","over","drawn","given","due","stream"] from Jr (by decide +kernel)) (J00 rfl (pvl 4)) (fun _ _ _ _ _=>(pgl 0 (show (["arc","many","arcs","leasts","over","drawn","given","due","stream"]:List Str).Nodup by decide +kernel))) (fun _ _ _ _ _=>JR) (fun _ _ _ _ _=>(JT (J2p rfl) (pvl 0) Je (fun _ _=>rfl)))) Ja)))
   (Jc (psl 7 J0j.nd (JcB T.wf.mkr (ok_Stream___init__ T) (hr.mono (by decide)) rfl T.wf.m T.wW.b .nil J4k (pal rfl (Jl J0d (pvc 0) Je) (pal rfl (Jl J1A (Jl J1A (pvl 1) (pvl 4)) (pvl 5)) (pal rfl (Jl J1A (pvl 2) (Jl Jbp (J0l (pal rfl Je Ja)) (JA (J0v rfl) T.wa JX rfl (by decide) (by decide) rfl (pal rfl (Jl J1A (pvl 4) (pvl 5)) Ja)))) Ja))) (by decide) rfl rfl))
   (Jc (J0n (Jw J1H (J2U (pvl 7) T.wf.cls T.w8 (ok_Stream_push T) (hr.mono (by decide)) T.wY.b .nil J4k (pal rfl (pvc 0) (pal rfl (Jl J0d (pvc 0) Je) (pal rfl (pvl 6) Ja))) rfl rfl rfl) (pvl 6) (JB _))
   (Jg (Jx (JD (pal rfl J0p (pal rfl (J2D (J9p rfl) (J2a (pvl 7) rfl) J6X (J29 (JA (J0v rfl) T.wa JX rfl (by decide) (by decide) rfl (pal rfl (pvl 1) Ja)))) Ja)))))
   JC)
   (Jg (Jx (JD (pal rfl J0p (pal rfl (JY ["node"] ["many","arcs","leasts","over","drawn","given","due","stream"] rfl (show CompSc _ (Jf J0f) ["many","arcs","leasts","over","drawn","given","due","stream"] ["many","arcs","leasts","over","drawn","given","due","stream"] from Jr (by decide +kernel)) (J00 rfl (JA (J61 rfl) T.wq J6w rfl (by decide) (by decide) rfl (pal rfl (J2U (pvl 7) T.wf.cls T.w5 (ok_Stream_reach T) (hr.mono (by decide)) T.wE.b .nil J4k (pal rfl (pvc 0) Ja) rfl rfl rfl) Ja))) (fun _ _ _ _ _=>(pgl 0 (show (["node","many","arcs","leasts","over","drawn","given","due","stream"]:List Str).Nodup by decide +kernel))) (fun _ _ _ _ _=>(J2S (Jw J3B (pvl 0) (pvc 1) (JB _)))) (fun _ _ _ _ _=>(pvl 0))) Ja)))))))))))),?_⟩
  generalize hB:J0r (J2q _ (J01 7)) _=B;generalize hB6:J0r _ B=B6;generalize hB5:J0r _ B6=B5;generalize hB4:J0r _ B5=B4;generalize hB3:J0r _ B4=B3;walk_at "dl";have hxl:=N.arcs.1;have J06:=N.len;have hm2:=N.m2;have hin:∀ A∈as,InN m A:=fun A hA=>(N.ok A hA).inn;refine ⟨⟨_,.of N.la⟩,?_⟩;refine JE Jm (by rw [hxl];exact Jb (by omega)) (fun i ys H'=>Same H H'/\ys=(low (as.take i)).map V.int) ⟨Same.refl _,rfl⟩ (fun _ _ _ _ q=>.of (q.1 _ _ N.la)) (fun i ys H' q=>by rw [q.2];unfold low;rw [yC,yC,yI];omega) ?_ ?_
  ·rintro i x ys H1 hx ⟨s1,rfl⟩
   obtain ⟨A,hAi,pa,rfl,hpa⟩:=All2.at N.arcs hx;walk_at "dl";unfold Arc.vs at hpa;refine ⟨pa,_,_,_,rfl,rfl,.of (s1 _ _ hpa),Jt (j:=2) rfl,⟨_,rfl⟩,s1,?_⟩;unfold low;rw [take_succ,hAi,yP,yP];rfl
  rintro ys H1 ⟨s1,rfl⟩ p1 hp1;rw [take_of_length_le (by omega)];have u1:=s1.new hp1 (HO.lst ((low as).map V.int));have g1:upd H1 p1 (HO.lst ((low as).map V.int)) p1=some (.lst ((low as).map V.int)):=J1;generalize upd H1 p1 (HO.lst ((low as).map V.int))=H2 at *;have ll:(low as).length=as.length:=yC ..;subst hB3;walk_at "dl";refine ⟨m,la,p1,xs,as,low as,rfl,hm2,u1 _ _ N.la,N.arcs.mono u1,g1,ll,by omega,hin,fun H3 p3 s3 g3=>?_⟩;rw [J7X hin ll _ (yj _),take_of_length_le (yj _),take_of_length_le (Nat.le_of_eq ll)] at g3;obtain ⟨G,hG⟩:∃ G:Nat->Int,(fun n:Nat=>exF as (low as) (n:Int))=G:=⟨_,rfl⟩;rw [hG] at g3;have hGv:∀ v:Nat,v<m->exF as (low as) v=G v:=fun v _=>congrFun hG v;have s03:=u1.trans s3;have g13:=s3 _ _ g1;clear s1 hp1 u1 g1 s3 hG;subst hB4;walk_at "dl";refine ⟨⟨_,.of g3⟩,?_⟩;have lG:(((List.range m).map G).map V.int).length=m:=by rw [yC,yC,yX]
  have atG:∀ (i:Nat) x,(((List.range m).map G).map V.int)[i]?=some x->i<m/\x=V.int (G i):=fun i x hx=>by
   have hi:=(yB.mp hx).1;rw [lG] at hi;rw [yN,yN,List.getElem?_range hi] at hx;exact ⟨hi,(yq hx).symm⟩
  refine J6s (by rw [lG];exact Jb (by omega)) (fun i zs σ H'=>(∃ o0 o1,σ=[o0,o1,some (V.int (m:Int)),some (V.ref la),some (V.ref p1),some (V.ref p3),none,none,none,none])/\Same H3 H'/\ArcsV H' zs (drN m G i)) ⟨⟨none,none,rfl⟩,Same.refl _,All2.nil⟩ (fun i zs σ H' q=>⟨.of (q.2.1 _ _ g3),by rw [q.2.2.1];exact J8O m G i⟩) ?_ ?_
  ·rintro i x zs σ H4 q hx ⟨⟨o0,o1,rfl⟩,s4,A4⟩ hq
   obtain ⟨hi,rfl⟩:=atG i x hx;refine ⟨q,_,rfl,.of J1,rfl,?_⟩;simp only [J0O,J2g,J01];walk_at "dl";have s5:=s4.new hq (HO.tup [V.int (i:Int),V.int (G i)]);have A5:=A4.mono (Same.upd_new hq (HO.tup [V.int (i:Int),V.int (G i)]));generalize upd H4 q (HO.tup [V.int (i:Int),V.int (G i)])=H5 at *;have e:drN m G (i+1)=drN m G i++(if 0<G i then [⟨(m:Int),(i:Int),0,G i⟩] else []):=rfl;by_cases c:0<G i
   ·rw [yi c]
    rw [yi c] at e;refine ⟨Jb (by decide),fun p hp=>⟨⟨_,rfl⟩,s5.new hp _,?_⟩⟩;rw [e];exact All2.snoc (A5.mono (Same.upd_new hp _)) ⟨p,rfl,J1⟩
   ·rw [yh c]
    rw [yh c,append_nil] at e;rw [e];exact ⟨⟨_,rfl⟩,s5,A5⟩
  rintro zs1 σ1 H4 ⟨_,s4,A4⟩ p4 hp4;rw [lG] at A4;have A5:=A4.mono (Same.upd_new hp4 (HO.lst zs1));have s5:=s4.new hp4 (HO.lst zs1);have g5:upd H4 p4 (HO.lst zs1) p4=some (.lst zs1):=J1;generalize upd H4 p4 (HO.lst zs1)=H5 at *;clear A4 s4 hp4;subst hB5;walk_at "dl";refine ⟨⟨_,.of (s5 _ _ g3)⟩,?_⟩;refine J6s (by rw [lG];exact Jb (by omega)) (fun i zs σ H'=>(∃ o0 o1,σ=[o0,o1,some (V.int (m:Int)),some (V.ref la),some (V.ref p1),some (V.ref p3),some (V.ref p4),none,none,none])/\Same H5 H'/\ArcsV H' zs (gvN m G i)) ⟨⟨none,none,rfl⟩,Same.refl _,All2.nil⟩ (fun i zs σ H' q=>⟨.of (q.2.1 _ _ (s5 _ _ g3)),by rw [q.2.2.1];exact J8J m G i⟩) ?_ ?_
  ·rintro i x zs σ H6 q hx ⟨⟨o0,o1,rfl⟩,s6,A6⟩ hq
   obtain ⟨hi,rfl⟩:=atG i x hx;refine ⟨q,_,rfl,.of J1,rfl,?_⟩;simp only [J0O,J2g,J01];walk_at "dl";have s7:=s6.new hq (HO.tup [V.int (i:Int),V.int (G i)]);have A7:=A6.mono (Same.upd_new hq (HO.tup [V.int (i:Int),V.int (G i)]));generalize upd H6 q (HO.tup [V.int (i:Int),V.int (G i)])=H7 at *;have e:gvN m G (i+1)=gvN m G i++(if G i<0 then [⟨(i:Int),(m:Int)+1,0,-G i⟩] else []):=rfl;by_cases c:G i<0
   ·rw [yi c]
    rw [yi c] at e;refine ⟨Jb (by decide),fun p hp=>⟨⟨_,rfl⟩,s7.new hp _,?_⟩⟩;rw [e];exact All2.snoc (A7.mono (Same.upd_new hp _)) ⟨p,rfl,J1⟩
   ·rw [yh c]
    rw [yh c,append_nil] at e;rw [e];exact ⟨⟨_,rfl⟩,s7,A7⟩
  rintro zs2 σ2 H6 ⟨_,s6,A6⟩ p6 hp6;rw [lG] at A6;have A7:=A6.mono (Same.upd_new hp6 (HO.lst zs2));have s57:=s6.new hp6 (HO.lst zs2);have g7:upd H6 p6 (HO.lst zs2) p6=some (.lst zs2):=J1;generalize upd H6 p6 (HO.lst zs2)=H7 at *;clear A6 s6 hp6;have g57:=s57 _ _ g5;have A57:=A5.mono s57;have s37:=s5.trans s57;subst hB6;walk_at "dl";refine ⟨⟨_,.of g57⟩,?_⟩;have hzl:=A5.1;have hz2:=A7.1;have hd1:=J8O m G m;have hd2:=J8J m G m;refine JE Jm (by rw [hzl];exact Jb (by omega)) (fun i ys H'=>Same H7 H'/\ys=(((drN m G m).take i).map Arc.u).map V.int) ⟨Same.refl _,rfl⟩ (fun _ _ _ _ q=>.of (q.1 _ _ g57)) (fun i ys H' q=>by rw [q.2,yC,yC,yI];omega) ?_ ?_
  ·rintro i x ys H8 hx ⟨s8,rfl⟩
   obtain ⟨A,hAi,pa,rfl,hpa⟩:=All2.at A57 hx;walk_at "dl";unfold Arc.vs at hpa;refine ⟨pa,_,_,_,rfl,rfl,.of (s8 _ _ hpa),Jt (j:=3) rfl,⟨_,rfl⟩,s8,?_⟩;rw [take_succ,hAi,yP,yP];rfl
  rintro ys H8 ⟨s8,rfl⟩ p8 hp8;rw [take_of_length_le (by omega)];refine ⟨_,.of J1,?_⟩;rw [J9D];have s79:=s8.new hp8 (HO.lst (((drN m G m).map Arc.u).map V.int));generalize upd H8 p8 (HO.lst (((drN m G m).map Arc.u).map V.int))=H9 at *;have s09:=(s03.trans s37).trans s79;have g19:=s79 _ _ (s37 _ _ g13);have g49:=s79 _ _ g57;have g69:=s79 _ _ g7;have A49:=A57.mono s79;have A69:=A7.mono s79;have A09:=N.arcs.mono s09;have g09:=s09 _ _ N.la;clear s79 s37 s57 g57 g7 A57 A7 A5 g5 s5 hp8 s8 g3 g13 s03 atG lG;have fin:∀ (H':Hp) (t pl:Addr) (g:Bool) (zs:List Int),Same H9 H'->H' t=some (.tup [.str (fcS g),.ref pl])->H9 pl=none->H' pl=some (.lst (zs.map V.int))->FcR m as g zs->Q (.ref t) H':=fun H' t pl g zs s ht hp hl R=>k H' t pl g zs (s09.trans s) ht (s09.free hp) hl R;clear k;subst hB;generalize hB:J0r (J4s _ _ _) _=B;walk_at "dl";have l0:=hxl;refine ⟨la,p4,_,_,rfl,rfl,g09,g49,Jb (by omega),fun q1 hq1=>?_⟩;have u1:=Same.upd_new hq1 (HO.lst (xs++zs1));have k1:upd H9 q1 (HO.lst (xs++zs1)) q1=some (.lst (xs++zs1)):=J1;generalize upd H9 q1 (HO.lst (xs++zs1))=H10 at *;refine ⟨q1,p6,_,_,rfl,rfl,k1,u1 _ _ g69,by rw [yH];exact Jb (by omega),fun q2 hq2=>?_⟩;have u2:=u1.new hq2 (HO.lst (xs++zs1++zs2));have k2:upd H10 q2 (HO.lst (xs++zs1++zs2)) q2=some (.lst (xs++zs1++zs2)):=J1;generalize upd H10 q2 (HO.lst (xs++zs1++zs2))=H11 at *;refine ⟨Jb (by decide),fun q3 hq3=>?_⟩;have u3:=Same.upd_new hq3 (HO.lst [V.int 0]);have k3:upd H11 q3 (HO.lst [V.int 0]) q3=some (.lst [V.int 0]):=J1;have v3:=u2.trans u3;generalize upd H11 q3 (HO.lst [V.int 0])=H12 at *;refine ⟨p4,p6,_,_,rfl,rfl,v3 _ _ g49,v3 _ _ g69,Jb (by omega),fun q4 hq4=>?_⟩;have u4:=Same.upd_new hq4 (HO.lst (zs1++zs2));have k4:upd H12 q4 (HO.lst (zs1++zs2)) q4=some (.lst (zs1++zs2)):=J1;have v4:=v3.trans u4;generalize upd H12 q4 (HO.lst (zs1++zs2))=H13 at *;have l12:(zs1++zs2).length=(drN m G m).length+(gvN m G m).length:=by rw [yH];omega
  refine ⟨q4,rfl,_,.inl (.of k4),q3,((zs1++zs2).length:Nat),[V.int 0],rfl,rfl,u4 _ _ k3,by omega,by omega,by rw [Int.toNat_natCast];exact Jb (by simp;omega),fun q5 hq5=>?_⟩;rw [Int.toNat_natCast,J7y];have u5:=Same.upd_new hq5 (HO.lst ((List.replicate (zs1++zs2).length (0:Int)).map V.int));have k5:upd H13 q5 (HO.lst ((List.replicate (zs1++zs2).length (0:Int)).map V.int)) q5=some (.lst ((List.replicate (zs1++zs2).length (0:Int)).map V.int)):=J1;have v5:=v4.trans u5;generalize upd H13 q5 (HO.lst ((List.replicate (zs1++zs2).length (0:Int)).map V.int))=H14 at *;refine ⟨p1,q5,_,_,rfl,rfl,v5 _ _ g19,k5,by rw [yC,yC,yZ,ll];exact Jb (by omega),fun q6 hq6=>?_⟩;rw [<- yP];generalize hn0:(zs1++zs2).length=n0 at *;have u6:=Same.upd_new hq6 (HO.lst ((low as++List.replicate n0 0).map V.int));have k6:upd H14 q6 (HO.lst ((low as++List.replicate n0 0).map V.int)) q6=some (.lst ((low as++List.replicate n0 0).map V.int)):=J1;have v6:=v5.trans u6;have k26:=u6 _ _ (u5 _ _ (u4 _ _ (u3 _ _ k2)));generalize upd H14 q6 (HO.lst ((low as++List.replicate n0 0).map V.int))=H15 at *;have AW:ArcsV H15 (xs++zs1++zs2) (J1O m G as):=All2.append (All2.append (A09.mono v6) (A49.mono v6)) (A69.mono v6);clear u1 u2 u3 u4 u5 u6 k1 k2 k3 k4 k5 v3 v4 v5 hq1 hq2 hq3 hq4 hq5 hq6 A49 A69 A09 g49 g69;intro x dx hx hdx hne;have u7:=(Same.upd_new hdx (HO.own x)).new (show upd H15 dx (HO.own x) x=none by rw [Jd (Ne.symm hne)];exact hx) (HO.ins (f 7) dx []);have hwl:(J1O m G as).length=as.length+n0:=by unfold J1O;rw [yH,yH];omega
  have hinW:∀ A∈J1O m G as,InN (m+2) A:=fun A hA=>by
   rcases yQ.mp hA with hA | hA
   ·rcases yQ.mp hA with hA | hA
    ·obtain ⟨a0,a1,b0,b1⟩:=hin A hA
     exact ⟨a0,by omega,b0,by omega⟩
    ·exact (dr_in (yj _) A hA).1
   ·exact (gv_in (yj _) A hA).1
  have hbW:Bnd (J1O m G as) (low as++List.replicate n0 0):=by
   refine ⟨by rw [hwl,yH,yZ,ll],fun i A y hA hy=>?_⟩;have hi:=(yB.mp hA).1;unfold J1O at hA;rw [yY] at hA;by_cases c:i<as.length
   ·rw [yW c] at hA
    rw [yW (by omega)] at hy;unfold low at hy;rw [yN,hA] at hy;cases hy;exact ⟨Int.le_refl _,(N.ok A (yG hA)).hi⟩
   ·rw [yV (by omega)] at hA hy
    rw [List.getElem?_replicate,yi (by omega)] at hy;cases hy;rcases yQ.mp (yG hA) with hA | hA
    ·have:=(dr_in (yj _) A hA).2
     omega
    ·have:=(gv_in (yj _) A hA).2
     omega
  have due0:0<=Ji (fun v=>J1z (G v)) m:=by
   have:=J6I (F:=fun _=>0) (G:=fun v=>J1z (G v)) m fun v _=>by
    show (0:Int)<=J1z (G v);unfold J1z
    split<;>omega
   rw [JQ m fun _ _=>rfl] at this;exact this
  refine ⟨x,dx,q2,q6,m+2,xs++zs1++zs2,J1O m G as,low as++List.replicate n0 0,by simp,J1,by omega,u7 _ _ k26,AW.mono u7,by omega,hinW,u7 _ _ k6,by rw [hwl,yH,yZ,ll],fun H16 lb B16 hlb S16=>⟨rfl,?_⟩⟩;have s16:Same H9 H16:=fun b o hbo=>by
   have h5:=v6 _ _ hbo;exact B16 b o (fun e=>by subst e;rw [hx] at h5;cases h5) (u7 _ _ h5)
  have fl0:H9 lb=none:=v6.free (u7.free hlb);generalize hdue:Ji (fun v=>J1z (G v)) m=due at *;clear B16 u7 k6 k26 AW hx hdx hne v6 hlb;subst hB;walk_at "dl";obtain ⟨dx0,la',ls',xs',sa',hx0,_⟩:=S16.ex;refine ⟨dx0,_,hx0,rfl,x,lb,m,m+1,m+2,due,_,_,rfl,S16,hbW,by omega,by omega,by omega,due0,fun H17 fl2 d B17 S17 P17 d0 dl hor=>⟨rfl,?_⟩⟩;have s17:Same H9 H17:=fun b o e=>B17 b o (fun z=>by subst z;rw [fl0] at e;cases e) (s16 _ _ e);obtain ⟨dx3,la3,ls3,xs3,sa3,hx3,_,_,hb3,_⟩:=S17.ex;have hl2:=S17.len;obtain ⟨PS⟩:=Jdx hin hGv P17;by_cases c0:V.int d=V.int due
  ·rw [yi c0]
   refine ⟨_,_,_,hx3,T.wf.cls,T.wn,_,rfl,_,.inl (.of (s17 _ _ g09)),lb,rfl,_,.of hb3,fun p hp=>⟨Jb (by decide),fun t ht=>?_⟩⟩;rw [hxl,JbT (by rw [yC];omega),<- map_take] at *;refine fin _ t p true (fl2.take as.length) ((s17.new hp _).new ht _) J1 (s17.free hp) (Same.upd_new ht _ _ _ J1) ⟨fun _=>flow_of_psh hin hGv PS (by rw [hdue];injection c0),fun z=>by cases z⟩
  ·rw [yh c0]
   refine ⟨dx3,_,hx3,rfl,x,m,m+2,_,_,rfl,S17.stream,by omega,fun H18 pd kvs es s18 hpd he hcm=>⟨pd,rfl,kvs,hpd,_,J6q he,?_,fun p5 ms hp5 hperm hsort=>?_⟩⟩
   ·have h1:=hcm.toCInv.len
    rw [he.1];omega
   ·obtain ⟨ns,e1,e2,e3⟩:=J7u hperm hsort hcm.nd
    rw [e1];have ln:ns.length<=m+2:=by rw [e2.length_eq];have h1:=hcm.toCInv.len;unfold Jv;rw [yC];omega
    have s19:=(s17.trans s18).new hp5 (HO.lst (ns.map J19));have g20:upd H18 p5 (HO.lst (ns.map J19)) p5=some (.lst (ns.map J19)):=J1;generalize upd H18 p5 (HO.lst (ns.map J19))=H19 at *;refine ⟨⟨_,.of g20⟩,?_⟩;refine JE (xs:=ns.map J19) Jm (by rw [yC];exact Jb (by omega)) (fun i ys H'=>H'=H19/\ys=((ns.take i).filter (·<m)).map J19) ⟨rfl,rfl⟩ (fun _ _ _ _ q=>by rw [q.1];exact .of g20) (fun i ys H' q=>by rw [q.2,yC];exact yx (length_filter_le _ _) (by rw [yI];omega)) ?_ ?_
    ·rintro i y ys H20 hy ⟨rfl,rfl⟩
     rw [yN] at hy;obtain ⟨n,hn,rfl⟩:=Option.map_eq_some_iff.mp hy;unfold J19;walk_at "dl";rw [take_succ,hn,filter_append,yP];by_cases c:n<m
     ·rw [yi (by omega)]
      refine ⟨⟨_,rfl⟩,?_⟩;simp [c,J19]
     ·rw [yh (by omega)]
      refine ⟨⟨_,rfl⟩,?_⟩;simp [c]
    ·rintro ys H20 ⟨rfl,rfl⟩ p6' hp6'
     rw [yC,take_of_length_le (yj _),Jab];refine ⟨Jb (by decide),fun t ht=>?_⟩;refine fin _ t p6' false (J2o (ns.filter (·<m))) ((s19.new hp6' _).new ht _) J1 (s19.free hp6') (Same.upd_new ht _ _ _ J1) ⟨(fun z=>by cases z),fun _=>⟨_,rfl,J8P hin PS ?_ ?_ (e3.filter _) fun y=>?_⟩⟩
     ·have:d≠due:=fun z=>c0 (by rw [z])
      rw [hdue];omega
     ·exact hor.resolve_left fun z=>c0 (by rw [z])
     ·rw [mem_filter,e2.mem_iff,decide_eq_true_iff]
      exact and_congr (hcm.iff y) Iff.rfl
abbrev sm (zs:List Int):Int:=zs.foldl (·+·) 0
theorem JaU:∀ (zs:List Int) (a:Int),zs.foldl (·+·) a=a+sm zs
 | [],a=>by simp [sm]
 | z::zs,a=>by
   show zs.foldl (·+·) (a+z)=a+zs.foldl (·+·) (0+z);rw [JaU zs (a+z),JaU zs (0+z)];omega
theorem J23 (z:Int)(zs:List Int):sm (z::zs)=z+sm zs:=by
 show zs.foldl (·+·) (0+z)=_;rw [JaU];omega
theorem J3Y:∀ (xs ys:List Int),sm (xs++ys)=sm xs+sm ys
 | [],ys=>by simp [sm]
 | x::xs,ys=>by rw [cons_append,J23,J23,J3Y xs ys];omega
theorem J0h:∀ {zs:List Int},(∀ z∈zs,0<=z)->0<=sm zs
 | [],_=>by simp [sm]
 | z::zs,h=>by
   have:=h z yK;have:=J0h (zs:=zs) fun y hy=>h y (yJ _ hy);rw [J23];omega
def Js (g:List (List Int))(j:Nat):List Int:=g.map fun r=>r.getD j 0
def J50 (K:Frag):Sp:=fun vs H Q _=>∃ (lg:Addr) (xs:List V) (g:List (List Int)) (R C:Nat),vs=[.ref lg]/\H lg=some (.lst xs)/\GridV H xs g/\GOk g R C/\R<=100/\C<=100 /\
 ∀ H' p,Same H H'->H p=none->H' p=some (.lst (((List.range (if R=0 then 0 else C)).map fun j=>sm (Js g j)).map V.int))->Q (.ref p) H'
theorem ok_column_sums (T:Txt K mg f fd):FnOk P w K mg base CX0 1 (f 10) (fd 10) ["grid"] (J50 K):=by
 walk_at "ok wu J2x"
 ·obtain ⟨lg,xs,g,R,C,rfl,_⟩:=h
  rfl
 ·obtain ⟨lg,xs,g,R,C,rfl,hlg,hg,ok,hR,hC,k⟩:=h
  refine ⟨_,(Jc (psl 1 J2x.nd (J5n (J1R (pvc 0) (fun _=>rfl)) (JA (J0v rfl) T.wa JX rfl (by decide) (by decide) rfl (pal rfl (JT (J0q rfl) (pvc 0) Je (fun _ _=>rfl)) Ja)) Je))
   (Jg (Jx (J7D ["at"] ["grid","width"] rfl (show CompScC _ (Jf J0R) ["grid","width"] ["grid","width"] from J5L (by decide +kernel)) (J0Z rfl T.wj (pal rfl (pvl 1) Ja)) (fun _ _ _ _ _=>(pgc 0 (show (["at","grid","width"]:List Str).Nodup by decide +kernel))) (fun _ _ _ _ _=>JR) (fun _ _ _ _ _=>(JA (J1c rfl rfl) T.wg J1d rfl (by decide) (by decide) rfl (pal rfl (JY ["row"] ["at","grid","width"] rfl (J7T (osc:=Jf J0R) (N:=["at","grid","width"]) rfl rfl (Jr (by decide +kernel))) (J00 (K:=K) rfl (pvc 1)) (fun _ _ _ _ _=>(pgl 0 (show (["row","at","grid","width"]:List Str).Nodup by decide +kernel))) (fun _ _ _ _ _=>JR) (fun _ _ _ _ _=>(JT (J0q rfl) (pvl 0) (pvc 1) (fun _ _=>rfl)))) Ja))))))),?_⟩
  generalize hB:J3m _=B;walk_at "dl";have hgl:=hg.1;have hrl:=ok.rows;refine ⟨!xs.isEmpty,.inl ⟨xs,.of hlg,rfl⟩,?_⟩;have fin:∀ n:Nat,n<=100->(n=if R=0 then 0 else C)->B { nx:=fun _ H'=>Q .non H',rt:=Q } [some (V.ref lg),some (V.int n)] H:=by
   intro n hn en;subst hB;walk_at "dl";refine ⟨by omega,by omega,?_⟩;rw [Int.toNat_natCast];refine JE J0D (by rw [JK];exact Jb (by omega)) (fun i zs H'=>Same H H'/\zs=((List.range i).map fun j=>sm (Js g j)).map V.int) ⟨Same.refl _,rfl⟩ (fun _ _ _ _ _=>trivial) (fun i zs H' q=>by rw [q.2];simp) ?_ ?_
   ·rintro i x zs H1 hx ⟨s1,rfl⟩
    obtain ⟨hi,rfl⟩:=J0W hx;have hiC:i<C:=by split at en<;>omega
    walk_at "dl";refine ⟨⟨_,.of (s1 _ _ hlg)⟩,?_⟩;refine JE Jm (by rw [hgl];exact Jb (by omega)) (fun m ys H'=>Same H1 H'/\ys=((g.take m).map fun r=>r.getD i 0).map V.int) ⟨Same.refl _,rfl⟩ (fun _ _ _ _ q=>.of (q.1 _ _ (s1 _ _ hlg))) (fun m ys H' q=>by rw [q.2];simp;omega) ?_ ?_
    ·rintro m y ys H2 hy ⟨s2,rfl⟩
     obtain ⟨r,hr1,pr,rfl,hpr⟩:=All2.at hg hy;have hrl2:=ok.cols r (yG hr1);have er:r[i]?=some (r.getD i 0):=by
      have:i<r.length:=by omega
      rw [yF,yA this];rfl
     walk_at "dl";refine ⟨pr,_,_,V.int (r.getD i 0),rfl,rfl,.of (s2 _ _ (s1 _ _ hpr)),?_,⟨_,rfl⟩,s2,?_⟩
     ·rw [Int.zero_add];exact Jt (by rw [yN,er];rfl)
     ·rw [take_succ,hr1,yP,yP];rfl
    ·rintro ys H2 ⟨s2,rfl⟩ D hD
     rw [hgl,yO];refine ⟨_,.of J1,⟨_,rfl⟩,(s1.trans s2).new hD _,?_⟩;rw [range_succ,yP,yP];rfl
   ·rintro zs H1 ⟨s1,rfl⟩ D hD
    rw [JK,en] at *;exact k _ D (s1.new hD _) (s1.free hD) J1
  cases xs with
  | nil =>
    have h0:R=0:=by rw [<- hrl,<- hgl];rfl
    rw [yh (by simp)];exact fin 0 (by omega) (by rw [yi h0])
  | cons x0 xs0 =>
    obtain ⟨r0,hr0,p0,rfl,hp0⟩:=All2.at hg (i:=0) (x:=x0) rfl;have hR0:R≠0:=by rw [<- hrl,<- hgl];simp
    have l0:=ok.cols r0 (yG hr0);rw [yi (by simp)];refine ⟨lg,_,_,_,rfl,rfl,.of hlg,Jt (j:=0) rfl,p0,rfl,_,.inl (.of hp0),?_⟩;rw [yC,l0];exact fin C hC (by rw [yh hR0])
theorem rise_eq:∀ {a b:List Int},a.Pairwise (·<·)->b.Pairwise (·<·)->(∀ k,k∈a↔k∈b)->a=b
 | [],[],_,_,_=>rfl
 | [],y::b,_,_,h=>absurd ((h y).mpr yK) (by simp)
 | x::a,[],_,_,h=>absurd ((h x).mp yK) (by simp)
 | x :: a,y::b,ha,hb,h=>by
   obtain ⟨a1,a2⟩:=pairwise_cons.mp ha;obtain ⟨b1,b2⟩:=pairwise_cons.mp hb;have e:x=y:=by
    rcases yL.mp ((h x).mp yK) with z | z
    ·exact z
    ·rcases yL.mp ((h y).mpr yK) with w | w
     ·exact w.symm
     ·have:=b1 x z
      have:=a1 y w;omega
   subst e;rw [rise_eq a2 b2 fun k=>⟨fun hk=>?_,fun hk=>?_⟩]
   ·rcases yL.mp ((h k).mp (yJ _ hk)) with z | z
    ·have:=a1 k hk;omega
    ·exact z
   ·rcases yL.mp ((h k).mpr (yJ _ hk)) with z | z
    ·have:=b1 k hk;omega
    ·exact z
def J3U (n:Nat)(r:List Int):Prop:=r≠[]/\r.Pairwise (·<·)/\∀ z∈r,0<=z/\z<(n:Int)
def J51 (K:Frag):Sp:=fun vs H Q _=>∃ (p:Addr) (r:List Int) (n:Nat),vs=[.ref p,.int n]/\H p=some (.lst (r.map V.int))/\r.length<=1000/\J3U n r/\∀ H',Same H H'->Q (.bl true) H'
theorem J5q (T:Txt K mg f fd):FnOk P w K mg base CX0 1 (f 13) (fd 13) ["group","many"] (J51 K):=by
 walk_at "ok wJ J57"
 ·obtain ⟨p,r,n,rfl,_⟩:=h
  rfl
 ·obtain ⟨p,r,n,rfl,hp,hl,ok,k1⟩:=h
  refine ⟨_,(Jc (J0n (J2C (J1R (pvl 0) (fun _=>rfl)))
   (Jg J1S)
   JC)
   (Jc (J0n (Jw (Jdc rfl hr.units) (pvl 0) (J7C rfl rfl T.wq T.yc rfl rfl rfl (pvl 0)) (JB _))
   (Jg J1S)
   JC)
   (Jc (J0n (PW.pt (J7B (Jw J3B (JT (J0q rfl) (pvl 0) Je (fun _ _=>rfl)) Je (JB _)) (J5d (Jw Jej (JT (J0q rfl) (pvl 0) (J5l J39 Je) (fun _ _=>rfl)) (pvl 1) (JB _)))))
   (Jg J1S)
   JC)
   (Jg (Jx J1T))))),?_⟩
  walk_at "dl";refine ⟨!(r.map V.int).isEmpty,.inl ⟨_,.of hp,rfl⟩,?_⟩;rcases r with _ | ⟨a,r0⟩
  ·exact absurd rfl ok.1
  rw [yh (by simp)];refine ⟨a::r0,.of hp,hl,fun D ms hD hms hmem _=>?_⟩;have u1:=Same.upd_new hD (HO.lst (ms.map V.int));have g1:upd H D (HO.lst (ms.map V.int)) D=some (.lst (ms.map V.int)):=J1;generalize upd H D (HO.lst (ms.map V.int))=H1 at *;refine Je1 (u1 _ _ hp) g1 ⟨_,rfl,?_⟩;have c:a::r0=ms:=rise_eq ok.2.1 hms fun k=>(hmem k).symm;rw [yh (by simp [c])];refine ⟨p,_,_,_,rfl,rfl,.of (u1 _ _ hp),Jt (j:=0) rfl,a,rfl,?_⟩;have c1:=ok.2.2 a yK;rw [yh (by omega)];obtain ⟨ys,b,e⟩:∃ ys b,a::r0=ys++[b]:=⟨_,_,(dropLast_concat_getLast (l:=a::r0) (by simp)).symm⟩;refine ⟨p,_,_,.int b,rfl,rfl,.of (u1 _ _ hp),?_,b,rfl,?_⟩
  ·rw [e,yP]
   exact J8h _ _
  have c2:=ok.2.2 b (by rw [e];simp);rw [yh (by omega)];exact k1 H1 u1
theorem intIn_of {K:Frag}{i:Int}{neg:Bool}(ha:H a=some (.lst (zs.map V.int)))(q:Q (.bl (if neg then !decide (i∈zs) else decide (i∈zs))) H):Jdv K neg (.int i) (.ref a) H Q:=by
 obtain ⟨r1,r2,r3⟩:=J1s (K:=K) (H:=H) zs;refine ⟨.int i,zs.map .int,by simp [Rep],by rw [Rep];exact ⟨a,_,rfl,.of ha,r1⟩,by simp [SeqAt.shaped,PyData.canLay0,PyData.depth],?_,?_⟩
 ·unfold SeqAt.shaped
  simp only [PyData.canLay0,PyData.depth,r2,Bool.true_and];exact ym (by omega)
 ·have e:(zs.map PyData.int).any (fun e=>PyData.eqv e (.int i))=decide (i∈zs):=by
   rw [any_map,Bool.eq_iff_iff,any_eq_true,decide_eq_true_iff];constructor
   ·rintro ⟨z,hz,e⟩
    have e':z=i:=by simpa [PyData.eqv] using e
    exact e' ▸ hz
   ·intro h
    exact ⟨i,h,by simp [PyData.eqv]⟩
  rw [e];exact q
def J12 (x y:List Int):List Int:=x.filter fun z=>decide (z∈y)
def J3h (x y:List Int):Prop:=J12 x y=[]\/x.length<=(J12 x y).length\/y.length<=(J12 x y).length
def J5U (K:Frag):Sp:=fun vs H Q _=>∃ (p q:Addr) (x y:List Int),vs=[.ref p,.ref q]/\H p=some (.lst (x.map V.int))/\H q=some (.lst (y.map V.int))/\x.length<=1000/\y.length<=1000/\J3h x y/\∀ H',Same H H'->Q (.bl true) H'
theorem ok_asked_pair (T:Txt K mg f fd):FnOk P w K mg base CX0 1 (f 14) (fd 14) ["one","other"] (J5U K):=by
 walk_at "ok wK J33"
 ·obtain ⟨p,q,x,y,rfl,_⟩:=h
  rfl
 ·obtain ⟨p,q,x,y,rfl,hp,hq,hx,hy,ok,k1⟩:=h
  refine ⟨_,(Jc (J2T ["place"] ["one","other","shared"] rfl (show CompSc _ (Jf J1o) ["one","other","shared"] ["one","other","shared"] from Jr (by decide +kernel)) J33.nd (i:=2) rfl rfl (J00 rfl (pvl 0)) (fun _ _ _ _ _=>(pgl 0 (show (["place","one","other","shared"]:List Str).Nodup by decide +kernel))) (fun _ _ _ _ _=>(J2S (Jw (Jbz rfl hr.units) (pvl 0) (pvc 2) rfl))) (fun _ _ _ _ _=>(pvl 0)))
   (Jc (J0n (PW.pt (J5e (J1R (pvl 2) (fun _=>rfl)) (J3y (Jw J3B (JA (J0v rfl) T.wa JX rfl (by decide) (by decide) rfl (pal rfl (pvl 2) Ja)) (JA (J6u rfl) T.wG J8S rfl (by decide) (by decide) rfl (pal rfl (JA (J0v rfl) T.wa JX rfl (by decide) (by decide) rfl (pal rfl (pvl 0) Ja)) (pal rfl (JA (J0v rfl) T.wa JX rfl (by decide) (by decide) rfl (pal rfl (pvc 1) Ja)) Ja))) (JB _)))))
   (Jg J1S)
   JC)
   (Jg (Jx J1T)))),?_⟩
  generalize hB:J0r (J4s _ _ _) _=B;walk_at "dl";have hm:∀ zs:List Int,(zs.map V.int).length=zs.length:=fun zs=>yC ..;refine ⟨⟨_,.of hp⟩,?_⟩;refine JE (xs:=x.map V.int) Jm (by rw [hm];exact Jb (by omega)) (fun i ys H'=>H'=H/\ys=(J12 (x.take i) y).map V.int) ⟨rfl,rfl⟩ (fun _ _ _ _ q=>by rw [q.1];exact .of hp) (fun i ys H' q=>by rw [q.2,hm];unfold J12;exact yx (length_filter_le _ _) (by rw [yI];omega)) ?_ ?_
  ·rintro i v ys H1 hv ⟨rfl,rfl⟩
   rw [yN] at hv;obtain ⟨z,hz,rfl⟩:=Option.map_eq_some_iff.mp hv;walk_at "dl";refine intIn_of hq ⟨_,rfl,?_⟩;unfold J12;rw [take_succ,hz,filter_append,yP];by_cases c:z∈y
   ·rw [yi (by simp [c])]
    refine ⟨⟨_,rfl⟩,rfl,?_⟩;simp [c]
   ·rw [yh (by simp [c])]
    refine ⟨⟨_,rfl⟩,rfl,?_⟩;simp [c]
  ·rintro ys H1 ⟨rfl,rfl⟩ D hD
   rw [hm,yO];have u1:=Same.upd_new hD (HO.lst ((J12 x y).map V.int));have g1:upd H1 D (HO.lst ((J12 x y).map V.int)) D=some (.lst ((J12 x y).map V.int)):=J1;generalize upd H1 D (HO.lst ((J12 x y).map V.int))=H2 at *;subst hB;walk_at "dl";refine ⟨!((J12 x y).map V.int).isEmpty,.inl ⟨_,.of g1,rfl⟩,?_⟩;by_cases c0:J12 x y=[]
   ·rw [yh (by simp [c0])]
    exact k1 H2 u1
   rw [yi (by simp [c0])];refine ⟨_,.inl (.of g1),_,.inl (.of (u1 _ _ hp)),_,.inl (.of (u1 _ _ hq)),?_⟩;rw [hm,hm,hm];have c1:=ok.resolve_left c0;rw [yh (by split<;>omega)];exact k1 H2 u1
def J3i (n:Nat)(gs:List (List Int)):Prop:=gs.length<=8/\(∀ r∈gs,J3U n r)/\gs.Pairwise fun a b=>J3h b a
def J4x (K:Frag):Sp:=fun vs H Q _=>∃ (l:Addr) (xs:List V) (gs:List (List Int)) (n:Nat),vs=[.ref l,.int n]/\H l=some (.lst xs)/\GridV H xs gs/\gs.length<=1000/\(∀ r∈gs,r.length<=1000)/\J3i n gs/\∀ H',Same H H'->Q (.bl true) H'
theorem ok_asked_groups (T:Txt K mg f fd):FnOk P w K mg base CX0 2 (f 15) (fd 15) ["groups","many"] (J4x K):=by
 walk_at "ok wv J0T"
 ·obtain ⟨l,xs,gs,n,rfl,_⟩:=h
  rfl
 ·obtain ⟨l,xs,gs,n,rfl,hl,hg,h1000,hr1000,ok0,k1⟩:=h
  refine ⟨_,(Jc (J0n (Jw J5o (JA (J0v rfl) T.wa JX rfl (by decide) (by decide) rfl (pal rfl (pvl 0) Ja)) (pgi T.ye) (JB _))
   (Jg J1S)
   JC)
   (Jc (J0a PassesOwn.never rfl (J1q rfl T.wk (pal rfl (pvl 0) Ja) rfl) (J1C rfl rfl (Jq (pgl 2 J0T.nd) (Jq (pgl 3 J0T.nd) J0w)))
   (Jc (J05 (Jj T.wJ (J5q T) (hr.mono (by decide)) rfl (by decide) rfl (pal rfl (pvl 3) (pal rfl (pvl 1) Ja))))
   (Jg (J0a PassesOwn.never rfl (J00 rfl (J2D (J9p rfl) (pvl 0) J6X (J29 (pvl 2)))) (pgl 4 J0T.nd)
   (Jg (J05 (Jj T.wK (ok_asked_pair T) (hr.mono (by decide)) rfl (by decide) rfl (pal rfl (pvl 3) (pal rfl (pvl 4) Ja)))))))))
   (Jg (Jx J1T)))),?_⟩
  walk_at "dl";have hgl:=hg.1;refine ⟨_,.inl (.of hl),?_⟩;have c1:=ok0.1;rw [yh (by omega)];refine J0b ?_;unfold J6k;walk_at "dl";refine ⟨⟨xs,.of hl⟩,ForW.enum (xs:=xs) (fun j σ H'=>(∃ v2 v3 v4,σ=[some (V.ref l),some (V.int (n:Int)),v2,v3,v4])/\Same H H') ⟨⟨none,none,none,rfl⟩,Same.refl _⟩ (fun _ _ _ q=>q.2.seq (.of hl)) ?_ ?_⟩
  ·rintro j x σ H1 p hx ⟨⟨v2,v3,v4,rfl⟩,s1⟩ hp
   have s2:=s1.new hp (HO.tup [V.int (j:Int),x]);refine ⟨p,_,rfl,.of J1,rfl,?_⟩;generalize upd H1 p (HO.tup [V.int (j:Int),x])=H2 at *;obtain ⟨r,hr,pr,rfl,hpr⟩:=All2.at hg hx;simp only [J0O,J2g,J01];walk_at "dl";have hmem:=yG hr;have hj:=(yB.mp hr).1;refine ⟨pr,r,n,rfl,s2 _ _ hpr,hr1000 r hmem,ok0.2.1 r hmem,fun H3 s3=>?_⟩;have S3:=s2.trans s3;refine J0b ?_;walk_at "dl";refine ⟨xs,.of (S3 _ _ hl),fun p2 hp2=>?_⟩;rw [JbT (by omega)];have u4:=S3.new hp2 (HO.lst (xs.take j));have g4:upd H3 p2 (HO.lst (xs.take j)) p2=some (.lst (xs.take j)):=J1;generalize upd H3 p2 (HO.lst (xs.take j))=H4 at *;refine ⟨⟨_,.of g4⟩,?_⟩;have hgt:=J4e hg j;refine ForW.of (Jm (xs:=xs.take j)) (fun i σ H'=>(∃ v4,σ=[some (V.ref l),some (V.int (n:Int)),some (V.int (j:Int)),some (V.ref pr),v4])/\Same H4 H') ⟨⟨_,rfl⟩,Same.refl _⟩ (fun _ _ _ _ q=>.of (q.2 _ _ g4)) ?_ ?_
   ·rintro i y σ H5 hy ⟨⟨v4',rfl⟩,s5⟩
    obtain ⟨ry,hry,py,rfl,hpy⟩:=All2.at hgt hy;have hm2:ry∈gs.take j:=yG hry;have S5:=u4.trans s5;walk_at "dl";refine ⟨pr,py,r,ry,rfl,S5 _ _ hpr,S5 _ _ hpy,hr1000 r hmem,hr1000 ry (mem_of_mem_take hm2),?_,fun H6 s6=>⟨⟨_,rfl⟩,s5.trans s6⟩⟩;obtain ⟨e1,e2⟩:=yB.mp hr;have hpw:=ok0.2.2;rw [<- take_append_drop j gs,pairwise_append] at hpw;refine hpw.2.2 ry hm2 r ?_;rw [drop_eq_getElem_cons e1,e2];exact yK
   ·rintro σ H5 ⟨⟨v4',rfl⟩,s5⟩
    exact ⟨⟨_,_,_,rfl⟩,u4.trans s5⟩
  ·rintro σ H1 ⟨⟨v2,v3,v4,rfl⟩,s1⟩
   walk_at "dl";exact k1 H1 s1
theorem Jbx (hg:GridV H xs gs):∀ (i:Nat) x k,xs[i]?=some x->(gs.map fun r=>(r.length:Int))[i]?=some k->Jeb H x k:=fun i x k hx hk=>by
 obtain ⟨r,hr,p,rfl,hp⟩:=All2.at hg hx;rw [yN,hr] at hk;cases hk;exact ⟨p,_,rfl,hp,by rw [yC]⟩
def J38 (gs ws:List (List Int)):Prop:=ws.Perm gs/\ws.Pairwise fun a b=>b.length<=a.length
theorem perm_map {α β:Type}{f:α->β}{ps M:List β}(h:ps.Perm M):∀ {L:List α},M=L.map f->∃ L':List α,L'.Perm L/\ps=L'.map f:=by
 induction h with
 | nil=>intro L e;exact ⟨[],by rw [map_eq_nil_iff.mp e.symm],rfl⟩
 | cons x _ ih =>
   intro L e;cases L with
   | nil=>cases e
   | cons a L =>
     rw [yM] at e;injection e with e1 e2
     obtain ⟨L',h1,h2⟩:=ih e2;exact ⟨a::L',h1.cons a,by rw [yM,e1,h2]⟩
 | swap x y l =>
   intro L e;cases L with
   | nil=>cases e
   | cons a L =>
     cases L with
     | nil=>injection e with _ e;cases e
     | cons b L =>
       rw [yM,yM] at e;injection e with e1 e
       injection e with e2 e3
       exact ⟨b::a::L,List.Perm.swap a b L,by rw [yM,yM,e1,e2,e3]⟩
 | trans _ _ ih1 ih2 =>
   intro L e;obtain ⟨L1,h1,h2⟩:=ih2 e;obtain ⟨Mz,h3,h4⟩:=ih1 h2;exact ⟨Mz,h3.trans h1,h4⟩
theorem Jch (hg:GridV H xs gs)(h:Je7 (gs.map fun r=>(r.length:Int)) xs out):∃ ws,GridV H out ws/\J38 gs ws:=by
 obtain ⟨ps,hp,rfl,hw⟩:=h;obtain ⟨L,h1,rfl⟩:=perm_map (f:=fun p:List Int×V=>((p.1.length:Int),p.2)) (L:=gs.zip xs) hp (by rw [zip_map_left];rfl);refine ⟨L.map Prod.fst,⟨by simp,fun i x r hx hr=>?_⟩,?_,?_⟩
 ·rw [map_map,yN] at hx
  rw [yN] at hr;obtain ⟨p,hp1,rfl⟩:=Option.map_eq_some_iff.mp hx;rw [hp1] at hr;cases hr;obtain ⟨j,hj⟩:=yT.mp (h1.mem_iff.mp (yG hp1));obtain ⟨e1,e2⟩:=List.getElem?_zip_eq_some.mp hj;exact hg.2 j _ _ e2 e1
 ·have:=h1.map Prod.fst
  rw [map_fst_zip (Nat.le_of_eq hg.1.symm)] at this;exact this
 ·rw [pairwise_map] at hw ⊢
  exact hw.imp fun h=>by simpa using h
def J4u (K:Frag):Sp:=fun vs H Q _=>∃ (l:Addr) (xs:List V) (gs:List (List Int)),vs=[.ref l]/\H l=some (.lst xs)/\GridV H xs gs/\gs.length<64/\∀ H' D out ws,Same H H'->H' D=some (.lst out)->GridV H' out ws->J38 gs ws->Q (.ref D) H'
theorem J2n (T:Txt K mg f fd):FnOk P w K mg base CX0 1 (f 16) (fd 16) ["groups"] (J4u K):=by
 walk_at "ok ww J4z"
 ·obtain ⟨l,xs,gs,rfl,_⟩:=h
  rfl
 ·obtain ⟨l,xs,gs,rfl,hl,hg,h64,k⟩:=h
  refine ⟨_,(Jg (Jx (Jbk rfl rfl rfl T.wq rfl T.wa rfl (pal rfl (pvl 0) Ja)))),?_⟩;walk_at "dl";have hgl:=hg.1;refine ⟨xs,.of hl,by omega,gs.map fun r=>(r.length:Int),by rw [yC,hgl],Jbx hg,fun D out hD ho=>?_⟩;obtain ⟨ws,h1,h2⟩:=Jch hg ho;exact k _ D out ws (Same.upd_new hD _) J1 (h1.mono (Same.upd_new hD _)) h2
def clo (gs:List (List Int)):Nat->Int->Option Nat
 | 0,_=>none
 | n+1,z=>if z∈gs.getD n [] then some n else clo gs n z
def JbZ (o:Option Nat):V:=match o with
 | none=>.non
 | some n=>.int n
def J1W (gs:List (List Int))(n:Nat)(z:Int):List Nat:=(List.range n).filter fun i=>decide (z∈gs.getD i [])
theorem J6l (gs:List (List Int))(z:Int):∀ n,(J1W gs n z=[]/\clo gs n z=none)\/∃ ys m,J1W gs n z=ys++[m]/\clo gs n z=some m
 | 0=>.inl ⟨rfl,rfl⟩
 | n + 1=>by
   have e:J1W gs (n+1) z=J1W gs n z++(if z∈gs.getD n [] then [n] else []):=by
    unfold J1W;rw [range_succ,filter_append];by_cases c:z∈gs.getD n []
    ·rw [yi c,filter_cons,yi (ym c)];rfl
    ·rw [yh c,filter_cons,yh fun h=>c (of_decide_eq_true h)];rfl
   unfold clo;rw [e];by_cases c:z∈gs.getD n []
   ·rw [yi c,yi c]
    exact .inr ⟨_,n,rfl,rfl⟩
   ·rw [yh c,yh c,append_nil]
    exact J6l gs z n
def J8p (K:Frag):Sp:=fun vs H Q _=>∃ (l:Addr) (xs:List V) (gs:List (List Int)) (n:Nat) (z:Int),vs=[.ref l,.int n,.int z]/\H l=some (.lst xs)/\GridV H xs gs/\n<=gs.length/\gs.length<=1000/\∀ H',Same H H'->Q (JbZ (clo gs n z)) H'
theorem ok_closest (T:Txt K mg f fd):FnOk P w K mg base CX0 1 (f 17) (fd 17) ["groups","upto","place"] (J8p K):=by
 walk_at "ok wx J56"
 ·obtain ⟨l,xs,gs,n,z,rfl,_⟩:=h
  rfl
 ·obtain ⟨l,xs,gs,n,z,rfl,hl,hg,hn,h1000,k⟩:=h
  refine ⟨_,(Jc (J2T ["at"] ["groups","upto","place","held"] rfl (show CompSc _ (Jf J2Q) ["groups","upto","place","held"] ["groups","upto","place","held"] from Jr (by decide +kernel)) J56.nd (i:=3) rfl rfl (J0Z rfl T.wj (pal rfl (pvl 1) Ja)) (fun _ _ _ _ _=>(pgl 0 (show (["at","groups","upto","place","held"]:List Str).Nodup by decide +kernel))) (fun _ _ _ _ _=>(J2S (Jw (Jbz rfl hr.units) (pvc 3) (JT (J0q rfl) (pvc 1) (pvl 0) (fun _ _=>rfl)) rfl))) (fun _ _ _ _ _=>(pvl 0)))
   (Jg (Jx (J5n (J1R (pvl 3) (fun _=>rfl)) (JT (J0q rfl) (pvl 3) (J5l J39 Je) (fun _ _=>rfl)) J5m)))),?_⟩
  generalize hB:J3m _=B;walk_at "dl";have hgl:=hg.1;refine ⟨by omega,by omega,?_⟩;rw [Int.toNat_natCast];refine JE J0D (by rw [JK];exact Jb (by omega)) (fun i ys H'=>H'=H/\ys=(J1W gs i z).map J19) ⟨rfl,rfl⟩ (fun _ _ _ _ _=>trivial) (fun i ys H' q=>by rw [q.2,yC];unfold J1W;exact yx (length_filter_le _ _) (by simp)) ?_ ?_
  ·rintro i x ys H1 hx ⟨rfl,rfl⟩
   obtain ⟨hi,rfl⟩:=J0W hx;obtain ⟨v,hv⟩:∃ v,xs[i]?=some v:=⟨_,yA (by omega)⟩;obtain ⟨r,hr,pr,rfl,hpr⟩:=All2.at hg hv;have er:gs.getD i []=r:=by rw [yF,hr];rfl
   walk_at "dl";rw [Int.zero_add];refine ⟨l,_,_,_,rfl,rfl,.of hl,Jt hv,?_⟩;refine intIn_of hpr ⟨_,rfl,?_⟩;unfold J1W;rw [range_succ,filter_append,yP];by_cases c:z∈r
   ·rw [yi (by simp [c])]
    refine ⟨⟨_,rfl⟩,rfl,?_⟩;rw [filter_cons,yi (ym (by rw [er];exact c))];rfl
   ·rw [yh (by simp [c])]
    refine ⟨⟨_,rfl⟩,rfl,?_⟩;rw [filter_cons,yh fun h=>c (by have:=of_decide_eq_true h;rw [er] at this;exact this),filter_nil,map_nil,append_nil]
  ·rintro ys H1 ⟨rfl,rfl⟩ D hD
   rw [JK];have u1:=Same.upd_new hD (HO.lst ((J1W gs n z).map J19));have g1:upd H1 D (HO.lst ((J1W gs n z).map J19)) D=some (.lst ((J1W gs n z).map J19)):=J1;generalize upd H1 D (HO.lst ((J1W gs n z).map J19))=H2 at *;subst hB;walk_at "dl";refine ⟨!((J1W gs n z).map J19).isEmpty,.inl ⟨_,.of g1,rfl⟩,?_⟩;rcases J6l gs z n with ⟨e1,e2⟩ | ⟨ys,m,e1,e2⟩
   ·rw [e1]
    rw [e2] at k;exact k H2 u1
   ·rw [e1,yP] at g1 ⊢
    rw [e2] at k;rw [yi (by simp)];exact ⟨D,_,_,_,rfl,rfl,.of g1,J8h _ _,k H2 u1⟩
def kS (z:Str):JJ:=.inl (some (.inr z))
def kN (o:Option Nat):JJ:=.inl (o.map fun n=>.inl (n:Int))
def plK (sd:JJ)(n:Nat):NPK:=[sd,kS "place",kN (some n)]
def grK (sd:JJ)(o:Option Nat):NPK:=[sd,kS "group",kN o]
structure Lk where
 s:NPK
 g:NPK
 n:Int
def LkAt (H:Hp)(x:V)(L:Lk):Prop:=∃ p a b,x=.ref p/\H p=some (.tup [.ref a,.ref b,.int L.n])/\NKeyAt H a L.s/\NKeyAt H b L.g
theorem LkAt.mono {x:V}{L:Lk}(s:Same H H')(h:LkAt H x L):LkAt H' x L:=by
 obtain ⟨p,a,b,e,h1,h2,h3⟩:=h;exact ⟨p,a,b,e,s _ _ h1,h2.mono fun c ys z=>s _ _ z,h3.mono fun c ys z=>s _ _ z⟩
abbrev J4p (H H':Hp):Prop:=∀ c ys,H c=some (.tup ys)->H' c=some (.tup ys)
theorem LkAt.monoT {x:V}{L:Lk}(t:J4p H H')(h:LkAt H x L):LkAt H' x L:=by
 obtain ⟨p,a,b,e,h1,h2,h3⟩:=h;exact ⟨p,a,b,e,t _ _ h1,h2.mono t,h3.mono t⟩
theorem J8k {o:HO}(h:H D=some (.lst xs)):J4p H (upd H D o):=fun c ys z=>by
 rw [Jd fun e=>by subst e;rw [h] at z;cases z];exact z
theorem J25 (s:Same H H'):J4p H H':=fun _ _ z=>s _ _ z
def LksV (H:Hp)(xs:List V)(ls:List Lk):Prop:=All2 (LkAt H) xs ls
theorem LksV.mono {ls:List Lk}(s:Same H H')(h:LksV H xs ls):LksV H' xs ls:=All2.mono h fun _ _=>LkAt.mono s
theorem JdP (o:Option Nat):nV (o.map fun n=>.inl (n:Int))=JbZ o:=by cases o<;>rfl
theorem Jep {sd:JJ}{z:Str}(h:H p=some (.tup [v,.str z,JbZ o]))(m:MAt H v sd):NKeyAt H p [sd,kS z,kN o] :=
 ⟨_,h,.cons m (.cons rfl (.cons (JdP o).symm .nil))⟩
theorem J1V {sd:JJ}(s:Same H H')(m:MAt H v sd):MAt H' v sd:=MAt.mono (fun c ys z=>s _ _ z) m
theorem LksV.monoT {ls:List Lk}(t:J4p H H')(h:LksV H xs ls):LksV H' xs ls:=All2.mono h fun _ _=>LkAt.monoT t
structure Lst (H H':Hp)(D:Addr)(ls:List Lk):Prop where
 ex:∃ out,H' D=some (.lst out)/\LksV H' out ls
 same:Same H H'
 fr:H D=none
theorem Lst.keep {ls:List Lk}(h:Lst H H1 D ls)(s:Same H1 H2):Lst H H2 D ls:=by
 obtain ⟨⟨out,h1,h2⟩,h3,h4⟩:=h;exact ⟨⟨out,s _ _ h1,h2.mono s⟩,h3.trans s,h4⟩
theorem Lst.add {ls:List Lk}{x:V}{L:Lk}(h:Lst H H1 D ls)(s:Same H1 H2)(h1:H1 D=some (.lst out))(hx:LkAt H2 x L):Lst H (upd H2 D (.lst (out++[x]))) D (ls++[L]):=by
 obtain ⟨⟨out',g1,g2⟩,g3,g4⟩:=h;rw [h1] at g1;cases g1;have t:J4p H2 (upd H2 D (.lst (out++[x]))):=J8k (s _ _ h1);exact ⟨⟨_,J1,All2.snoc ((g2.mono s).monoT t) (hx.monoT t)⟩,(g3.trans s).set g4 _,g4⟩
theorem J3F {Ha:Hp}{pa pb pt:Addr}{ls:List Lk}{va vb vx vy:V}{sa sb:JJ}{za zb:Str}{oa ob:Option Nat}{n:Int}(L:Lst H H1 D ls)(ho:H1 D=some (.lst out))(hl:ls.length<=1000)(sA:Same H1 Ha)(ga:Ha pa=some (.tup [va,.str za,vx]))(ea:vx=JbZ oa)(ma:MAt Ha va sa)
 (hpb:Ha pb=none) (eb:vy=JbZ ob) (mb:MAt Ha vb sb) (hpt:upd Ha pb (.tup [vb,.str zb,vy]) pt=none)
 (q:∀ H',Lst H H' D (ls++[⟨[sa,kS za,kN oa],[sb,kS zb,kN ob],n⟩])->SameBut D H1 H'->Q .non H'):J9e (.ref D) [.ref pt] (upd (upd Ha pb (.tup [vb,.str zb,vy])) pt (.tup [.ref pa,.ref pb,.int n])) Q:=by
 have u1:=Same.upd_new hpb (HO.tup [vb,.str zb,vy]);have g1:upd Ha pb (HO.tup [vb,.str zb,vy]) pb=some (.tup [vb,.str zb,vy]):=J1;generalize upd Ha pb (HO.tup [vb,.str zb,vy])=Hb at *;have u2:=u1.new hpt (HO.tup [.ref pa,.ref pb,.int n]);have u2':=Same.upd_new hpt (HO.tup [.ref pa,.ref pb,.int n]);have g2:upd Hb pt (HO.tup [.ref pa,.ref pb,.int n]) pt=some (.tup [.ref pa,.ref pb,.int n]):=J1;generalize upd Hb pt (HO.tup [.ref pa,.ref pb,.int n])=Hc at *;subst ea eb;have hol:out.length=ls.length:=by
  obtain ⟨o',h1,h2⟩:=L.ex;rw [ho] at h1;cases h1;exact h2.1
 exact ⟨D,out,_,rfl,rfl,(sA.trans u2) _ _ ho,by have:=Jb (n:=2000) (by decide);omega,q _ (L.add (sA.trans u2) ho ⟨pt,pa,pb,rfl,g2,Jep (u2 _ _ ga) (J1V u2 ma),Jep (u2' _ _ g1) (J1V u2 mb)⟩) (SameBut.at fun b o _ z=>(sA.trans u2) _ _ z)⟩
def upP (sd:JJ)(gs:List (List Int))(sums:List Int)(n:Nat):List Lk:=(List.range n).map fun i=>⟨plK sd i,grK sd (clo gs gs.length i),sums.getD i 0⟩
def upG (sd:JJ)(gs:List (List Int))(sums:List Int)(n:Nat):List Lk:=(List.range n).map fun i=>⟨grK sd (some i),grK sd (clo gs i ((gs.getD i []).getD 0 0)),sm ((gs.getD i []).map fun z=>sums.getD z.toNat 0)⟩
def upL (sd:JJ)(gs:List (List Int))(sums:List Int):List Lk:=upP sd gs sums sums.length++upG sd gs sums gs.length
def J7q (K:Frag):Sp:=fun vs H Q _=>∃ (v:V) (sd:JJ) (lg ls:Addr) (xs:List V) (gs:List (List Int)) (sums:List Int),vs=[v,.ref lg,.ref ls]/\MAt H v sd/\H lg=some (.lst xs)/\GridV H xs gs/\H ls=some (.lst (sums.map V.int))/\gs.length<=8/\sums.length<=100/\(∀ r∈gs,J3U sums.length r)/\(∀ r∈gs,r.length<=100) /\
 ∀ H' D out,Same H H'->H D=none->H' D=some (.lst out)->LksV H' out (upL sd gs sums)->Q (.ref D) H'
theorem ok_links_up (T:Txt K mg f fd):FnOk P w K mg base CX0 2 (f 18) (fd 18) ["side","groups","sums"] (J7q K):=by
 walk_at "ok wy J0F"
 ·obtain ⟨v,sd,lg,ls,xs,gs,sums,rfl,_⟩:=h
  rfl
 ·obtain ⟨v,sd,lg,ls,xs,gs,sums,rfl,hm,hl,hg,hs,hg8,hs1,hok,hr1,k⟩:=h
  refine ⟨_,(Jc (psl 3 J0F.nd (J0l Ja))
   (Jc (J0a PassesOwn.never rfl (J1q rfl T.wk (pal rfl (pvc 2) Ja) rfl) (J1C rfl rfl (Jq (pgl 4 J0F.nd) (Jq (pgl 5 J0F.nd) J0w)))
   (Jg (J05 (J1m rfl y9 PySem.F.slot_list_append PySem.F.type_list_append J08 rfl rfl rfl rfl (pvl 3) (pal rfl (JD (pal rfl (JD (pal rfl (pvl 0) (pal rfl J0p (pal rfl (pvl 4) Ja)))) (pal rfl (JD (pal rfl (pvl 0) (pal rfl J0p (pal rfl (Jj T.wx (ok_closest T) (hr.mono (by decide)) rfl (by decide) rfl (pal rfl (pvl 1) (pal rfl (JA (J0v rfl) T.wa JX rfl (by decide) (by decide) rfl (pal rfl (pvl 1) Ja)) (pal rfl (pvl 4) Ja)))) Ja)))) (pal rfl (pvl 5) Ja)))) Ja)))))
   (Jc (J0a PassesOwn.never rfl (J1q rfl T.wk (pal rfl (pvl 1) Ja) rfl) (J1C rfl rfl (Jq (pgl 4 J0F.nd) (Jq (pgl 6 J0F.nd) J0w)))
   (Jc (psl 5 J0F.nd (JA (J1c rfl rfl) T.wg J1d rfl (by decide) (by decide) rfl (pal rfl (JY ["place"] ["side","groups","sums","told","at","number","group"] rfl (show CompSc _ (Jf J26) ["side","groups","sums","told","at","number","group"] ["side","groups","sums","told","at","number","group"] from Jr (by decide +kernel)) (J00 rfl (pvl 6)) (fun _ _ _ _ _=>(pgl 0 (show (["place","side","groups","sums","told","at","number","group"]:List Str).Nodup by decide +kernel))) (fun _ _ _ _ _=>JR) (fun _ _ _ _ _=>(JT (J0q rfl) (pvc 3) (pvl 0) (fun _ _=>rfl)))) Ja)))
   (Jg (J05 (J1m rfl y9 PySem.F.slot_list_append PySem.F.type_list_append J08 rfl rfl rfl rfl (pvl 3) (pal rfl (JD (pal rfl (JD (pal rfl (pvl 0) (pal rfl J0p (pal rfl (pvl 4) Ja)))) (pal rfl (JD (pal rfl (pvl 0) (pal rfl J0p (pal rfl (Jj T.wx (ok_closest T) (hr.mono (by decide)) rfl (by decide) rfl (pal rfl (pvl 1) (pal rfl (pvl 4) (pal rfl (JT (J0q rfl) (pvl 6) Je (fun _ _=>rfl)) Ja)))) Ja)))) (pal rfl (pvl 5) Ja)))) Ja))))))
   (Jg (Jx (pvl 3)))))),?_⟩
  generalize hB3:J3m _=B3;generalize hB2:J0r (J3W _ _ _) B3=B2;generalize hB1:J0r (J3W _ _ _) B2=B1;walk_at "dl";refine ⟨yw _,fun D hD=>?_⟩;have hgl:=hg.1;have L0:Lst H (upd H D (HO.lst [])) D []:=⟨⟨[],J1,All2.nil⟩,Same.upd_new hD _,hD⟩;generalize upd H D (HO.lst [])=H1 at *;have hsl:(sums.map V.int).length=sums.length:=yC ..;subst hB1;walk_at "dl";refine J0b ?_;unfold J6k;walk_at "dl";refine ⟨⟨_,.of (L0.same _ _ hs)⟩,ForW.enum (xs:=sums.map V.int) (fun j σ H'=>(∃ v4 v5,σ=[some v,some (V.ref lg),some (V.ref ls),some (V.ref D),v4,v5,none])/\Lst H H' D (upP sd gs sums j)) ⟨⟨none,none,rfl⟩,L0⟩ (fun _ _ _ q=>.of (q.2.same _ _ hs)) ?_ ?_⟩
  ·rintro j x σ H2 p hx ⟨⟨v4,v5,rfl⟩,Mz⟩ hp
   rw [yN] at hx;obtain ⟨z,hz,rfl⟩:=Option.map_eq_some_iff.mp hx;have hzD:sums.getD j 0=z:=by rw [yF,hz];rfl
   have u2:=Same.upd_new hp (HO.tup [V.int (j:Int),V.int z]);refine ⟨p,_,rfl,.of J1,rfl,?_⟩;obtain ⟨out,ho,_⟩:=Mz.ex;generalize upd H2 p (HO.tup [V.int (j:Int),V.int z])=H3 at *;simp only [J0O,J2g,J01];walk_at "dl";have S3:=Mz.same.trans u2;refine ⟨.inl ⟨rfl,_,.of (u2 _ _ ho)⟩,Jb (by decide),fun pa hpa=>?_⟩;have u4:=Same.upd_new hpa (HO.tup [v,V.str (Str.ofString "place"),V.int (j:Int)]);have g4:upd H3 pa (HO.tup [v,V.str (Str.ofString "place"),V.int (j:Int)]) pa=some (.tup [v,V.str (Str.ofString "place"),V.int (j:Int)]):=J1;generalize upd H3 pa (HO.tup [v,V.str (Str.ofString "place"),V.int (j:Int)])=H4 at *;have S4:=S3.trans u4;refine ⟨xs,.inl (.of (S4 _ _ hl)),lg,xs,gs,gs.length,(j:Int),by rw [hgl],S4 _ _ hl,hg.mono S4,yj _,by omega,fun H5 s5=>⟨Jb (by decide),fun pb hpb=>⟨Jb (by decide),fun pt hpt=>?_⟩⟩⟩;have ll:(upP sd gs sums j).length=j:=by unfold upP;rw [yC,yX]
   have hj:j<sums.length:=(yB.mp hz).1;refine J3F Mz ho (by omega) ((u2.trans u4).trans s5) (s5 _ _ g4) (oa:=some j) rfl (J1V (S4.trans s5) hm) hpb rfl (J1V (S4.trans s5) hm) hpt fun H6 L6 _=>⟨⟨_,rfl⟩,?_⟩;have e:upP sd gs sums (j+1)=upP sd gs sums j++[⟨plK sd j,grK sd (clo gs gs.length j),z⟩]:=by unfold upP;rw [range_succ,yP];simp only [yM,map_nil,hzD]
   rw [e];exact L6
  ·rintro σ H2 ⟨⟨v4,v5,rfl⟩,Mz⟩
   rw [hsl] at Mz;subst hB2;walk_at "dl";refine J0b ?_;unfold J6k;walk_at "dl";refine ⟨⟨_,.of (Mz.same _ _ hl)⟩,ForW.enum (xs:=xs) (fun j σ H'=>(∃ v4 v5 v6,σ=[some v,some (V.ref lg),some (V.ref ls),some (V.ref D),v4,v5,v6])/\Lst H H' D (upP sd gs sums sums.length++upG sd gs sums j)) ⟨⟨v4,v5,none,rfl⟩,by unfold upG;simpa using Mz⟩ (fun _ _ _ q=>.of (q.2.same _ _ hl)) ?_ ?_⟩
   ·rintro j x σ H3 p hx ⟨⟨v4',v5',v6,rfl⟩,L3⟩ hp
    obtain ⟨r,hr,pr,rfl,hpr⟩:=All2.at hg hx;have erD:gs.getD j []=r:=by rw [yF,hr];rfl
    have u2:=Same.upd_new hp (HO.tup [V.int (j:Int),V.ref pr]);refine ⟨p,_,rfl,.of J1,rfl,?_⟩;obtain ⟨out,ho,_⟩:=L3.ex;generalize upd H3 p (HO.tup [V.int (j:Int),V.ref pr])=H4 at *;have S4:=L3.same.trans u2;have hmem:=yG hr;simp only [J0O,J2g,J01];generalize hB4:J4h _=B4;walk_at "dl";have hrl:=hr1 r hmem;have hrm:(r.map V.int).length=r.length:=yC ..;refine ⟨⟨_,.of (S4 _ _ hpr)⟩,?_⟩;refine JE (xs:=r.map V.int) Jm (by rw [hrm];exact Jb (by omega)) (fun i ys H'=>H'=H4/\ys=((r.take i).map fun z=>sums.getD z.toNat 0).map V.int) ⟨rfl,rfl⟩ (fun _ _ _ _ q=>by rw [q.1];exact .of (S4 _ _ hpr)) (fun i ys H' q=>by rw [q.2];simp;omega) ?_ ?_
    ·rintro i y ys H5 hy ⟨rfl,rfl⟩
     rw [yN] at hy;obtain ⟨z,hz,rfl⟩:=Option.map_eq_some_iff.mp hy;have hzr:=(hok r hmem).2.2 z (yG hz);obtain ⟨t,rfl⟩:∃ t:Nat,z=(t:Int):=⟨z.toNat,by omega⟩;have ht:t<sums.length:=by omega
     walk_at "dl";refine ⟨ls,_,_,V.int (sums.getD t 0),rfl,rfl,.of (S4 _ _ hs),Jt (by rw [yN,yF,yA ht];rfl),⟨_,rfl⟩,rfl,?_⟩;rw [take_succ,hz,yP,yP];rfl
    ·rintro ys H5 ⟨rfl,rfl⟩ D2 hD2
     rw [hrm,yO];refine ⟨_,.of J1,?_⟩;have u5:=Same.upd_new hD2 (HO.lst ((r.map fun z=>sums.getD z.toNat 0).map V.int));generalize upd H5 D2 (HO.lst ((r.map fun z=>sums.getD z.toNat 0).map V.int))=H6 at *;have S6:=S4.trans u5;have u6:=u2.trans u5;obtain ⟨z0,r0,e0⟩:∃ z0 r0,r=z0::r0:=by
      cases r with
      | nil=>exact absurd rfl (hok [] hmem).1
      | cons z0 r0=>exact ⟨z0,r0,rfl⟩
     subst hB4;walk_at "dl";refine ⟨.inl ⟨rfl,_,.of (u6 _ _ ho)⟩,Jb (by decide),fun pa hpa=>?_⟩;have u7:=Same.upd_new hpa (HO.tup [v,V.str (Str.ofString "group"),V.int (j:Int)]);have g7:upd H6 pa (HO.tup [v,V.str (Str.ofString "group"),V.int (j:Int)]) pa=some (.tup [v,V.str (Str.ofString "group"),V.int (j:Int)]):=J1;generalize upd H6 pa (HO.tup [v,V.str (Str.ofString "group"),V.int (j:Int)])=H7 at *;have S7:=S6.trans u7;have hj:j<gs.length:=(yB.mp hr).1;refine ⟨pr,_,_,V.int z0,rfl,rfl,.of (S7 _ _ hpr),by rw [e0];exact Jt (j:=0) rfl,lg,xs,gs,j,z0,rfl,S7 _ _ hl,hg.mono S7,by omega,by omega,fun H8 s8=>⟨Jb (by decide),fun pb hpb=>⟨Jb (by decide),fun pt hpt=>?_⟩⟩⟩;have ll:(upP sd gs sums sums.length++upG sd gs sums j).length=sums.length+j:=by unfold upP upG;rw [yH,yC,yX,yC,yX]
     refine J3F L3 ho (by omega) ((u6.trans u7).trans s8) (s8 _ _ g7) (oa:=some j) rfl (J1V (S7.trans s8) hm) hpb rfl (J1V (S7.trans s8) hm) hpt fun H9 L9 _=>⟨⟨_,rfl⟩,?_⟩;have e:upG sd gs sums (j+1)=upG sd gs sums j++[⟨grK sd (some j),grK sd (clo gs j z0),sm (r.map fun z=>sums.getD z.toNat 0)⟩]:=by
      unfold upG;rw [range_succ,yP];simp only [yM,map_nil,erD];rw [show r.getD 0 0=z0 by rw [e0];rfl]
     rw [e,<- yY];exact L9
   ·rintro σ H3 ⟨⟨v4',v5',v6,rfl⟩,L3⟩
    rw [hgl] at L3;subst hB3;walk_at "dl";obtain ⟨out,h1,h2⟩:=L3.ex;exact k H3 D out L3.same hD h1 h2
def J0H (L:Lk):Lk:=⟨L.g,L.s,L.n⟩
def J5T (K:Frag):Sp:=fun vs H Q _=>∃ (v:V) (sd:JJ) (lg ls:Addr) (xs:List V) (gs:List (List Int)) (sums:List Int),vs=[v,.ref lg,.ref ls]/\MAt H v sd/\H lg=some (.lst xs)/\GridV H xs gs/\H ls=some (.lst (sums.map V.int))/\gs.length<=8/\sums.length<=100/\(∀ r∈gs,J3U sums.length r)/\(∀ r∈gs,r.length<=100) /\
 ∀ H' D out,Same H H'->H D=none->H' D=some (.lst out)->LksV H' out ((upL sd gs sums).map J0H)->Q (.ref D) H'
theorem J1j (sd:JJ)(gs:List (List Int))(sums:List Int):(upL sd gs sums).length=sums.length+gs.length:=by unfold upL upP upG;rw [yH,yC,yX,yC,yX]
theorem J34 (T:Txt K mg f fd):FnOk P w K mg base CX0 3 (f 19) (fd 19) ["side","groups","sums"] (J5T K):=by
 walk_at "ok wz J5X"
 ·obtain ⟨v,sd,lg,ls,xs,gs,sums,rfl,_⟩:=h
  rfl
 ·obtain ⟨v,sd,lg,ls,xs,gs,sums,rfl,hm,hl,hg,hs,hg8,hs1,hok,hr1,k⟩:=h
  refine ⟨_,(Jg (Jx (JY ["below","above","number"] ["side","groups","sums"] rfl (show CompSc _ (Jf J1n) ["side","groups","sums"] ["side","groups","sums"] from Jr (by decide +kernel)) (J00 rfl (Jj T.wy (ok_links_up T) (hr.mono (by decide)) rfl (by decide) rfl (pal rfl (pvl 0) (pal rfl (pvl 1) (pal rfl (pvl 2) Ja))))) (fun _ _ _ _ _=>(JeG K 0 1 2 (show (["below","above","number","side","groups","sums"]:List Str).Nodup by decide +kernel))) (fun _ _ _ _ _=>JR) (fun _ _ _ _ _=>(JD (pal rfl (pvl 1) (pal rfl (pvl 0) (pal rfl (pvl 2) Ja)))))))),?_⟩;walk_at "dl";refine ⟨v,sd,lg,ls,xs,gs,sums,rfl,hm,hl,hg,hs,hg8,hs1,hok,hr1,fun H1 D out s1 hD h1 h2=>?_⟩;have ul:=J1j sd gs sums;have hol:=h2.1;refine ⟨D,rfl,⟨_,.of h1⟩,?_⟩;have tkl:∀ i,(((upL sd gs sums).take i).map J0H).length<=i:=fun i=>by rw [yC,yI];omega
  refine J5K Jm (by rw [hol,ul];exact Jb (by omega)) (fun i ys σ H'=>(∃ o0 o1 o2,σ=[o0,o1,o2,some v,some (V.ref lg),some (V.ref ls)])/\Same H1 H'/\LksV H' ys (((upL sd gs sums).take i).map J0H)) ⟨⟨none,none,none,rfl⟩,Same.refl _,All2.nil⟩ (fun i ys σ H' q=>⟨.of (q.2.1 _ _ h1),by rw [q.2.2.1];exact tkl i⟩) ?_ ?_
  ·rintro i x ys σ H2 hx ⟨⟨o0,o1,o2,rfl⟩,s2,A2⟩
   obtain ⟨L,hL,p,a,b,rfl,hp,ka,kb⟩:=All2.at h2 hx;refine ⟨p,_,rfl,.of (s2 _ _ hp),rfl,?_⟩;simp only [J0O,J2g,J01];walk_at "dl";refine ⟨Jb (by decide),fun q hq=>⟨⟨_,rfl⟩,s2.new hq _,?_⟩⟩;have u3:=s2.new hq (HO.tup [V.ref b,V.ref a,V.int L.n]);rw [take_add_one,hL,yP];exact All2.snoc (A2.mono (Same.upd_new hq _)) ⟨q,b,a,rfl,J1,kb.mono (J25 u3),ka.mono (J25 u3)⟩
  ·rintro ys σ H2 ⟨_,s2,A2⟩ D2 hD2
   rw [hol,yO] at A2;exact k _ D2 ys ((s1.trans s2).new hD2 _) ((s1.trans s2).free hD2) J1 (A2.mono (Same.upd_new hD2 _))
def J0e (c:Nat):JJ:=.inr [some (.inr "column"),some (.inl (c:Int))]
def J0g:JJ:=kS "rows"
def JV:JJ:=kS "columns"
theorem J72 (h:H p=some (.tup [.str (Str.ofString "column"),.int (c:Int)])):MAt H (.ref p) (J0e c):=⟨p,rfl,h⟩
def J2j (r:List Int)(i m:Nat):List Lk:=(List.range m).map fun c=>⟨plK (J0e c) i,plK J0g i,r.getD c 0⟩
def J1l (g:List (List Int))(C n:Nat):List Lk:=(List.range n).flatMap fun i=>J2j (g.getD i []) i C
def J6N (K:Frag):Sp:=fun vs H Q _=>∃ (lg:Addr) (xs:List V) (g:List (List Int)) (R C:Nat),vs=[.ref lg]/\H lg=some (.lst xs)/\GridV H xs g/\GOk g R C/\R<=8/\C<=8 /\
 ∀ H' D out,Same H H'->H D=none->H' D=some (.lst out)->LksV H' out (J1l g C R)->Q (.ref D) H'
theorem J2Z (g:List (List Int))(C:Nat):∀ n,(J1l g C n).length=n * C
 | 0=>by simp [J1l]
 | n+1=>by
   have:=J2Z g C n;unfold J1l at *;rw [range_succ,flatMap_append,yH,this];simp [J2j,Nat.succ_mul]
theorem ok_box_links (T:Txt K mg f fd):FnOk P w K mg base CX0 1 (f 20) (fd 20) ["grid"] (J6N K):=by
 walk_at "ok wL J0J"
 ·obtain ⟨lg,xs,g,R,C,rfl,_⟩:=h
  rfl
 ·obtain ⟨lg,xs,g,R,C,rfl,hl,hg,ok,hR,hC,k⟩:=h
  refine ⟨_,(Jc (psl 1 J0J.nd (J0l Ja))
   (Jc (J0a PassesOwn.never rfl (J1q rfl T.wk (pal rfl (pvl 0) Ja) rfl) (J1C rfl rfl (Jq (pgl 2 J0J.nd) (Jq (pgl 3 J0J.nd) J0w)))
   (Jg (J0a PassesOwn.never rfl (J1q rfl T.wk (pal rfl (pvl 3) Ja) rfl) (J1C rfl rfl (Jq (pgl 4 J0J.nd) (Jq (pgl 5 J0J.nd) J0w)))
   (Jg (J05 (J1m rfl y9 PySem.F.slot_list_append PySem.F.type_list_append J08 rfl rfl rfl rfl (pvl 1) (pal rfl (JD (pal rfl (JD (pal rfl (JD (pal rfl J0p (pal rfl (pvl 4) Ja))) (pal rfl J0p (pal rfl (pvl 2) Ja)))) (pal rfl (JD (pal rfl J0p (pal rfl J0p (pal rfl (pvl 2) Ja)))) (pal rfl (pvl 5) Ja)))) Ja)))))))
   (Jg (Jx (pvl 1))))),?_⟩
  generalize hB2:J3m _=B2;generalize hB1:J0r (J3W _ _ _) B2=B1;walk_at "dl";refine ⟨yw _,fun D hD=>?_⟩;have hgl:=hg.1;have hrl:=ok.rows;have L0:Lst H (upd H D (HO.lst [])) D []:=⟨⟨[],J1,All2.nil⟩,Same.upd_new hD _,hD⟩;generalize upd H D (HO.lst [])=H1 at *;subst hB1;walk_at "dl";refine J0b ?_;unfold J6k;walk_at "dl";refine ⟨⟨_,.of (L0.same _ _ hl)⟩,ForW.enum (xs:=xs) (fun j σ H'=>(∃ v2 v3 v4 v5,σ=[some (V.ref lg),some (V.ref D),v2,v3,v4,v5])/\Lst H H' D (J1l g C j)) ⟨⟨none,none,none,none,rfl⟩,L0⟩ (fun _ _ _ q=>.of (q.2.same _ _ hl)) ?_ ?_⟩
  ·rintro j x σ H2 p hx ⟨⟨v2,v3,v4,v5,rfl⟩,Mz⟩ hp
   obtain ⟨r,hr,pr,rfl,hpr⟩:=All2.at hg hx;have erD:g.getD j []=r:=by rw [yF,hr];rfl
   have hrc:=ok.cols r (yG hr);have hj:j<R:=by rw [<- hrl];exact (yB.mp hr).1
   have bl:=J2Z g C j;have hjc:j * C<=64:=yx (Nat.mul_le_mul (show j<=8 by omega) hC) (by decide);have u2:=Same.upd_new hp (HO.tup [V.int (j:Int),V.ref pr]);refine ⟨p,_,rfl,.of J1,rfl,?_⟩
   replace Mz:=Mz.keep u2
   generalize upd H2 p (HO.tup [V.int (j:Int),V.ref pr])=H3 at *;simp only [J0O,J2g,J01];walk_at "dl";refine J0b ?_;walk_at "dl";have hrm:(r.map V.int).length=C:=by rw [yC];exact hrc
   refine ⟨⟨_,.of (Mz.same _ _ hpr)⟩,ForW.enum (xs:=r.map V.int) (fun m σ H'=>(∃ v4 v5,σ=[some (V.ref lg),some (V.ref D),some (V.int (j:Int)),some (V.ref pr),v4,v5])/\Lst H H' D (J1l g C j++J2j r j m)) ⟨⟨v4,v5,rfl⟩,by unfold J2j;simpa using Mz⟩ (fun _ _ _ q=>.of (q.2.same _ _ hpr)) ?_ ?_⟩
   ·rintro m y σ H4 q hy ⟨⟨v4',v5',rfl⟩,L4⟩ hq
    rw [yN] at hy;obtain ⟨z,hz,rfl⟩:=Option.map_eq_some_iff.mp hy;have hm:m<C:=by rw [<- hrc];exact (yB.mp hz).1
    have hzD:r.getD m 0=z:=by rw [yF,hz];rfl
    have u5:=Same.upd_new hq (HO.tup [V.int (m:Int),V.int z]);refine ⟨q,_,rfl,.of J1,rfl,?_⟩;obtain ⟨out,ho,_⟩:=L4.ex;generalize upd H4 q (HO.tup [V.int (m:Int),V.int z])=H5 at *;simp only [J0O,J2g,J01];walk_at "dl";refine ⟨.inl ⟨rfl,_,.of (u5 _ _ ho)⟩,Jb (by decide),fun pc hpc=>?_⟩;have u6:=Same.upd_new hpc (HO.tup [V.str (Str.ofString "column"),V.int (m:Int)]);have g6:upd H5 pc (HO.tup [V.str (Str.ofString "column"),V.int (m:Int)]) pc=some (.tup [V.str (Str.ofString "column"),V.int (m:Int)]):=J1;generalize upd H5 pc (HO.tup [V.str (Str.ofString "column"),V.int (m:Int)])=H6 at *;refine ⟨Jb (by decide),fun pa hpa=>?_⟩;have u7:=Same.upd_new hpa (HO.tup [V.ref pc,V.str (Str.ofString "place"),V.int (j:Int)]);have g7:upd H6 pa (HO.tup [V.ref pc,V.str (Str.ofString "place"),V.int (j:Int)]) pa=some (.tup [V.ref pc,V.str (Str.ofString "place"),V.int (j:Int)]):=J1;generalize upd H6 pa (HO.tup [V.ref pc,V.str (Str.ofString "place"),V.int (j:Int)])=H7 at *;refine ⟨Jb (by decide),fun pb hpb=>⟨Jb (by decide),fun pt hpt=>?_⟩⟩;have ll:(J1l g C j++J2j r j m).length=j * C+m:=by rw [yH,bl];simp [J2j]
    refine J3F L4 ho (by omega) ((u5.trans u6).trans u7) g7 (oa:=some j) rfl (J72 (u7 _ _ g6)) hpb (ob:=some j) rfl (show MAt _ (.str (Str.ofString "rows")) J0g from rfl) hpt fun H8 L8 _=>⟨⟨_,rfl⟩,?_⟩;have e:J2j r j (m+1)=J2j r j m++[⟨plK (J0e m) j,plK J0g j,z⟩]:=by unfold J2j;rw [range_succ,yP];simp only [yM,map_nil,hzD]
    rw [e,<- yY];exact L8
   ·rintro σ H4 ⟨⟨v4',v5',rfl⟩,L4⟩
    rw [hrm] at L4;refine ⟨⟨_,_,_,_,rfl⟩,?_⟩;have e:J1l g C (j+1)=J1l g C j++J2j r j C:=by unfold J1l;rw [range_succ,flatMap_append];simp only [flatMap_cons,flatMap_nil,append_nil,erD]
    rw [e];exact L4
  ·rintro σ H2 ⟨⟨v2,v3,v4,v5,rfl⟩,Mz⟩
   rw [hgl,hrl] at Mz;subst hB2;walk_at "dl";obtain ⟨out,h1,h2⟩:=Mz.ex;exact k H2 D out Mz.same hD h1 h2
theorem Lst.cat {ls ms:List Lk}(h:Lst H H1 D ls)(s:Same H1 H2)(h1:H1 D=some (.lst out))(hy:LksV H2 ys ms):Lst H (upd H2 D (.lst (out++ys))) D (ls++ms):=by
 obtain ⟨⟨out',g1,g2⟩,g3,g4⟩:=h;rw [h1] at g1;cases g1;have t:J4p H2 (upd H2 D (.lst (out++ys))):=J8k (s _ _ h1);exact ⟨⟨_,J1,All2.append ((g2.mono s).monoT t) (hy.monoT t)⟩,(g3.trans s).set g4 _,g4⟩
def J4C (g gs:List (List Int))(c:Nat):List Lk:=[⟨plK JV c,grK (J0e c) none,sm (Js g c)⟩]++(upL (J0e c) gs (Js g c)).map J0H
def J1k (g gs:List (List Int))(n:Nat):List Lk:=(List.range n).flatMap fun c=>J4C g gs c
theorem J87 (g gs:List (List Int))(n:Nat):J1k g gs (n+1)=J1k g gs n++J4C g gs n:=by unfold J1k;rw [range_succ,flatMap_append];simp only [flatMap_cons,flatMap_nil,append_nil]
theorem J5M (g gs:List (List Int))(c:Nat):(J4C g gs c).length=1+(g.length+gs.length):=by unfold J4C;rw [yH,yC,J1j];unfold Js;simp
theorem J3M (g gs:List (List Int)):∀ n,(J1k g gs n).length=n * (1+(g.length+gs.length))
 | 0=>by simp [J1k]
 | n+1=>by rw [J87,yH,J3M g gs n,J5M,Nat.succ_mul]
def J4w (K:Frag):Sp:=fun vs H Q _=>∃ (lg lr:Addr) (xs ys:List V) (g gs:List (List Int)) (R C:Nat),vs=[.ref lg,.ref lr]/\H lg=some (.lst xs)/\GridV H xs g/\GOk g R C/\1<=R/\R<=8/\C<=8/\H lr=some (.lst ys)/\GridV H ys gs/\gs.length<=8/\(∀ r∈gs,J3U R r)/\(∀ r∈gs,r.length<=100) /\
 ∀ H' D out,Same H H'->H D=none->H' D=some (.lst out)->LksV H' out (J1k g gs C)->Q (.ref D) H'
theorem ok_column_links (T:Txt K mg f fd):FnOk P w K mg base CX0 4 (f 21) (fd 21) ["grid","row_groups"] (J4w K):=by
 walk_at "ok wM J0x"
 ·obtain ⟨lg,lr,xs,ys,g,gs,R,C,rfl,_⟩:=h
  rfl
 ·obtain ⟨lg,lr,xs,ys,g,gs,R,C,rfl,hl,hg,ok,hR1,hR,hC,hlr,hgs,hg8,hgok,hgl100,k⟩:=h
  refine ⟨_,(Jc (psl 2 J0x.nd (J0l Ja))
   (Jc (J0a PassesOwn.never rfl (J1q rfl T.wk (pal rfl (Jj T.wu (ok_column_sums T) (hr.mono (by decide)) rfl (by decide) rfl (pal rfl (pvl 0) Ja)) Ja) rfl) (J1C rfl rfl (Jq (pgc 3 J0x.nd) (Jq (pgl 4 J0x.nd) J0w)))
   (Jc (J05 (J1m rfl y9 PySem.F.slot_list_append PySem.F.type_list_append J08 rfl rfl rfl rfl (pvl 2) (pal rfl (JD (pal rfl (JD (pal rfl J0p (pal rfl J0p (pal rfl (pvc 3) Ja)))) (pal rfl (JD (pal rfl (JD (pal rfl J0p (pal rfl (pvc 3) Ja))) (pal rfl J0p (pal rfl J5m Ja)))) (pal rfl (pvl 4) Ja)))) Ja)))
   (Jg (ps_aug J0x.nd (i:=2) rfl (.inl rfl) (Jj T.wz (J34 T) (hr.mono (by decide)) rfl (by decide) rfl (pal rfl (JD (pal rfl J0p (pal rfl (pvc 3) Ja))) (pal rfl (pvl 1) (pal rfl (JY ["row"] ["grid","row_groups","told","column","number"] rfl (show CompSc _ (Jf J16) ["grid","row_groups","told","column","number"] ["grid","row_groups","told","column","number"] from Jr (by decide +kernel)) (J00 rfl (pvl 0)) (fun _ _ _ _ _=>(pgl 0 (show (["row","grid","row_groups","told","column","number"]:List Str).Nodup by decide +kernel))) (fun _ _ _ _ _=>JR) (fun _ _ _ _ _=>(JT (J0q rfl) (pvl 0) (pvc 4) (fun _ _=>rfl)))) Ja)))) J77))))
   (Jg (Jx (pvl 2))))),?_⟩
  generalize hB2:J3m _=B2;generalize hB1:J0r (J3W _ _ _) B2=B1;walk_at "dl";refine ⟨yw _,fun D hD=>?_⟩;have hgl:=hg.1;have hrl:=ok.rows;have L0:Lst H (upd H D (HO.lst [])) D []:=⟨⟨[],J1,All2.nil⟩,Same.upd_new hD _,hD⟩;generalize upd H D (HO.lst [])=H1 at *;subst hB1;walk_at "dl";refine J0b ?_;walk_at "dl";refine ⟨lg,xs,g,R,C,rfl,L0.same _ _ hl,hg.mono L0.same,ok,by omega,by omega,fun H2 ps s2 hfr hps=>?_⟩;have nps:ps≠D:=fun e=>by
   obtain ⟨o,z,_⟩:=L0.ex;rw [e,z] at hfr;cases hfr
  rw [yh (by omega)] at hps
  replace L0:=L0.keep s2
  walk_at "dl";refine ⟨⟨_,.of hps⟩,ForW.enum (xs:=((List.range C).map fun j=>sm (Js g j)).map V.int) (fun j σ H'=>(∃ v3 v4,σ=[some (V.ref lg),some (V.ref lr),some (V.ref D),v3,v4])/\Lst H H' D (J1k g gs j)/\H' ps=some (.lst (((List.range C).map fun j=>sm (Js g j)).map V.int))) ⟨⟨none,none,rfl⟩,L0,hps⟩ (fun _ _ _ q=>.of q.2.2) ?_ ?_⟩
  ·rintro j x σ H3 p hx ⟨⟨v3,v4,rfl⟩,L3,hp3⟩ hp
   rw [yN,yN] at hx;obtain ⟨z,hz,rfl⟩:=Option.map_eq_some_iff.mp hx;obtain ⟨j',hj',rfl⟩:=Option.map_eq_some_iff.mp hz;have hj:j<C:=by have:=(yB.mp hj').1;simpa using this
   rw [List.getElem?_range hj] at hj';cases hj';have u4:=Same.upd_new hp (HO.tup [V.int (j:Int),V.int (sm (Js g j))]);refine ⟨p,_,rfl,.of J1,rfl,?_⟩;obtain ⟨out,ho,_⟩:=L3.ex;generalize upd H3 p (HO.tup [V.int (j:Int),V.int (sm (Js g j))])=H4 at *;simp only [J0O,J2g,J01];generalize hB3:JaO _ _ _=B3;walk_at "dl";refine ⟨.inl ⟨rfl,_,.of (u4 _ _ ho)⟩,Jb (by decide),fun pa hpa=>?_⟩;have u5:=Same.upd_new hpa (HO.tup [V.str (Str.ofString "columns"),V.str (Str.ofString "place"),V.int (j:Int)]);have g5:upd H4 pa (HO.tup [V.str (Str.ofString "columns"),V.str (Str.ofString "place"),V.int (j:Int)]) pa=some (.tup [V.str (Str.ofString "columns"),V.str (Str.ofString "place"),V.int (j:Int)]):=J1;generalize upd H4 pa (HO.tup [V.str (Str.ofString "columns"),V.str (Str.ofString "place"),V.int (j:Int)])=H5 at *;refine ⟨Jb (by decide),fun pc hpc=>?_⟩;have u6:=Same.upd_new hpc (HO.tup [V.str (Str.ofString "column"),V.int (j:Int)]);have g6:upd H5 pc (HO.tup [V.str (Str.ofString "column"),V.int (j:Int)]) pc=some (.tup [V.str (Str.ofString "column"),V.int (j:Int)]):=J1;generalize upd H5 pc (HO.tup [V.str (Str.ofString "column"),V.int (j:Int)])=H6 at *;refine ⟨Jb (by decide),fun pb hpb=>⟨Jb (by decide),fun pt hpt=>?_⟩⟩;have cl:=J3M g gs j;have cm:j * (1+(g.length+gs.length))<=200:=yx (Nat.mul_le_mul (show j<=8 by omega) (show 1+(g.length+gs.length)<=17 by omega)) (by decide);refine J3F L3 ho (by omega) ((u4.trans u5).trans u6) (u6 _ _ g5) (oa:=some j) rfl (show MAt _ (.str (Str.ofString "columns")) JV from rfl) hpb (ob:=none) rfl (J72 g6) hpt fun H7 L7 B7=>?_;have hp7:=B7 _ _ nps hp3;obtain ⟨out7,ho7,_⟩:=L7.ex;subst hB3;walk_at "dl";refine ⟨Jb (by decide),fun pd hpd=>?_⟩;have u8:=Same.upd_new hpd (HO.tup [V.str (Str.ofString "column"),V.int (j:Int)]);have g8:upd H7 pd (HO.tup [V.str (Str.ofString "column"),V.int (j:Int)]) pd=some (.tup [V.str (Str.ofString "column"),V.int (j:Int)]):=J1;generalize upd H7 pd (HO.tup [V.str (Str.ofString "column"),V.int (j:Int)])=H8 at *;have S8:=L7.same.trans u8;refine ⟨⟨_,.of (S8 _ _ hl)⟩,?_⟩;refine JE (xs:=xs) Jm (by rw [hgl];exact Jb (by omega)) (fun i ys H'=>H'=H8/\ys=((Js g j).take i).map V.int) ⟨rfl,rfl⟩ (fun _ _ _ _ q=>by rw [q.1];exact .of (S8 _ _ hl)) (fun i ys H' q=>by rw [q.2];simp;omega) ?_ ?_
   ·rintro i x ys H9 hx ⟨rfl,rfl⟩
    obtain ⟨r,hr,pr,rfl,hpr⟩:=All2.at hg hx;have hrc:=ok.cols r (yG hr);walk_at "dl";refine ⟨pr,_,_,V.int (r.getD j 0),rfl,rfl,.of (S8 _ _ hpr),Jt (by rw [yN,yF,yA (by omega)];rfl),⟨_,rfl⟩,rfl,?_⟩;have ec:(Js g j)[i]?=some (r.getD j 0):=by unfold Js;rw [yN,hr];rfl
    rw [take_add_one,ec,yP];rfl
   ·rintro zs H9 ⟨rfl,rfl⟩ D2 hD2
    have ecl:(Js g j).length=R:=by unfold Js;rw [yC,hrl]
    rw [hgl,hrl,<- ecl,yO];have u9:=Same.upd_new hD2 (HO.lst ((Js g j).map V.int));have g9:upd H9 D2 (HO.lst ((Js g j).map V.int)) D2=some (.lst ((Js g j).map V.int)):=J1;generalize upd H9 D2 (HO.lst ((Js g j).map V.int))=H10 at *;have S10:=S8.trans u9;refine ⟨V.ref pd,J0e j,lr,D2,_,gs,Js g j,rfl,J72 (u9 _ _ g8),S10 _ _ hlr,hgs.mono S10,g9,hg8,by omega,by rw [ecl];exact hgok,hgl100,fun H11 D3 out3 s11 hD3 h3 hL3=>?_⟩;have u11:=(u8.trans u9).trans s11;have hol3:=hL3.1;rw [yC,J1j,ecl] at hol3;have hol7:out7.length=(J1k g gs j).length+1:=by
     obtain ⟨o',h1,h2⟩:=L7.ex;rw [ho7] at h1;cases h1;rw [h2.1,yH];rfl
    refine ⟨D,D3,out7,out3,rfl,rfl,u11 _ _ ho7,h3,by have:=Jb (n:=2000) (by decide);omega,rfl,⟨_,rfl⟩,?_,?_⟩
    ·rw [J87]
     unfold J4C;rw [<- yY];exact L7.cat u11 ho7 hL3
    ·rw [Jd nps]
     exact u11 _ _ hp7
  ·rintro σ H3 ⟨⟨v3,v4,rfl⟩,L3,_⟩
   rw [yC,yC,yX] at L3;subst hB2;walk_at "dl";obtain ⟨out,h1,h2⟩:=L3.ex;exact k H3 D out L3.same hD h1 h2
def J0P (g:List (List Int))(C:Nat):List Int:=(List.range C).map fun j=>sm (Js g j)
def J20 (g rgs cgs:List (List Int))(R C:Nat):List Lk:=((J1l g C R++J1k g rgs C)++(upL JV cgs (J0P g C)).map J0H)++upL J0g rgs (g.map sm)++[⟨grK J0g none,grK JV none,sm (g.map sm)⟩]
def J6O (K:Frag):Sp:=fun vs H Q _=>∃ (lg lr lc:Addr) (xs ys zs:List V) (g rgs cgs:List (List Int)) (R C:Nat),vs=[.ref lg,.ref lr,.ref lc]/\H lg=some (.lst xs)/\GridV H xs g/\GOk g R C/\1<=R/\R<=8/\C<=8/\H lr=some (.lst ys)/\GridV H ys rgs/\rgs.length<=8/\(∀ r∈rgs,J3U R r)/\(∀ r∈rgs,r.length<=100)/\H lc=some (.lst zs)/\GridV H zs cgs/\cgs.length<=8/\(∀ r∈cgs,J3U C r)/\(∀ r∈cgs,r.length<=100) /\
 ∀ H' D out,Same H H'->H' D=some (.lst out)->LksV H' out (J20 g rgs cgs R C)->Q (.ref D) H'
theorem ok_all_links (T:Txt K mg f fd):FnOk P w K mg base CX0 5 (f 22) (fd 22) ["grid","row_groups","column_groups"] (J6O K):=by
 walk_at "ok wN J15"
 ·obtain ⟨lg,lr,lc,xs,ys,zs,g,rgs,cgs,R,C,rfl,_⟩:=h
  rfl
 ·obtain ⟨lg,lr,lc,xs,ys,zs,g,rgs,cgs,R,C,rfl,hl,hg,ok,hR1,hR,hC,hlr,hrg,hr8,hrok,hr100,hlc,hcg,hc8,hcok,hc100,k⟩:=h
  refine ⟨_,(Jc (J2T ["row"] ["grid","row_groups","column_groups","row_sums","told"] rfl (show CompSc _ (Jf J1G) ["grid","row_groups","column_groups","row_sums","told"] ["grid","row_groups","column_groups","row_sums","told"] from Jr (by decide +kernel)) J15.nd (i:=3) rfl rfl (J00 rfl (pvl 0)) (fun _ _ _ _ _=>(pgl 0 (show (["row","grid","row_groups","column_groups","row_sums","told"]:List Str).Nodup by decide +kernel))) (fun _ _ _ _ _=>JR) (fun _ _ _ _ _=>(JA (J1c rfl rfl) T.wg J1d rfl (by decide) (by decide) rfl (pal rfl (pvl 0) Ja))))
   (Jc (psl 4 J15.nd (Jl J1A (Jj T.wL (ok_box_links T) (hr.mono (by decide)) rfl (by decide) rfl (pal rfl (pvl 0) Ja)) (Jj T.wM (ok_column_links T) (hr.mono (by decide)) rfl (by decide) rfl (pal rfl (pvl 0) (pal rfl (pvl 1) Ja)))))
   (Jc (ps_aug J15.nd (i:=4) rfl (.inl rfl) (Jj T.wz (J34 T) (hr.mono (by decide)) rfl (by decide) rfl (pal rfl J0p (pal rfl (pvl 2) (pal rfl (Jj T.wu (ok_column_sums T) (hr.mono (by decide)) rfl (by decide) rfl (pal rfl (pvl 0) Ja)) Ja)))) J77)
   (Jc (ps_aug J15.nd (i:=4) rfl (.inl rfl) (Jj T.wy (ok_links_up T) (hr.mono (by decide)) rfl (by decide) rfl (pal rfl J0p (pal rfl (pvl 1) (pal rfl (pvl 3) Ja)))) J77)
   (Jc (J05 (J1m rfl y9 PySem.F.slot_list_append PySem.F.type_list_append J08 rfl rfl rfl rfl (pvl 4) (pal rfl (JD (pal rfl (JD (pal rfl J0p (pal rfl J0p (pal rfl J5m Ja)))) (pal rfl (JD (pal rfl J0p (pal rfl J0p (pal rfl J5m Ja)))) (pal rfl (JA (J1c rfl rfl) T.wg J1d rfl (by decide) (by decide) rfl (pal rfl (pvl 3) Ja)) Ja)))) Ja)))
   (Jg (Jx (pvl 4)))))))),?_⟩
  generalize hB4:J0r (J4h _) _=B4;generalize hB3:J0r (JaO _ _ _) B4=B3;generalize hB2:J0r (JaO _ _ _) B3=B2;generalize hB1:J0r (J2q _ _) B2=B1;walk_at "dl";have hgl:=hg.1;have hrl:=ok.rows;have hgsm:(g.map sm).length=R:=by rw [yC,hrl]
  refine ⟨⟨_,.of hl⟩,?_⟩;refine JE (xs:=xs) Jm (by rw [hgl];exact Jb (by omega)) (fun i ys H'=>H'=H/\ys=((g.map sm).take i).map V.int) ⟨rfl,rfl⟩ (fun _ _ _ _ q=>by rw [q.1];exact .of hl) (fun i ys H' q=>by rw [q.2];simp;omega) ?_ ?_
  ·rintro i x ys H1 hx ⟨rfl,rfl⟩
   obtain ⟨r,hr,pr,rfl,hpr⟩:=All2.at hg hx;walk_at "dl";refine ⟨r,.of hpr,⟨_,rfl⟩,?_⟩;rw [take_add_one,yN,hr,yP];rfl
  ·rintro zs0 H1 ⟨rfl,rfl⟩ p1 hp1
   rw [hgl,hrl,<- hgsm,yO];have u1:=Same.upd_new hp1 (HO.lst ((g.map sm).map V.int));have g1:upd H1 p1 (HO.lst ((g.map sm).map V.int)) p1=some (.lst ((g.map sm).map V.int)):=J1;generalize upd H1 p1 (HO.lst ((g.map sm).map V.int))=H2 at *;subst hB1;walk_at "dl";refine ⟨lg,xs,g,R,C,rfl,u1 _ _ hl,hg.mono u1,ok,hR,hC,fun H3 D3 o3 s3 f3 h3 L3=>?_⟩;have S3:=u1.trans s3;refine ⟨lg,lr,xs,_,g,rgs,R,C,rfl,S3 _ _ hl,hg.mono S3,ok,hR1,hR,hC,S3 _ _ hlr,hrg.mono S3,hr8,hrok,hr100,fun H4 D4 o4 s4 f4 h4 L4=>?_⟩;have S4:=S3.trans s4;have bl:=J2Z g C R;have cl:=J3M g rgs C;have hRC:R * C<=64:=yx (Nat.mul_le_mul hR hC) (by decide);have hCc:C * (1+(g.length+rgs.length))<=200:=yx (Nat.mul_le_mul hC (show 1+(g.length+rgs.length)<=17 by omega)) (by decide);have ol3:=L3.1;have ol4:=L4.1;have sl:=Jb (n:=2000) (by decide);refine ⟨D3,D4,o3,o4,rfl,rfl,s4 _ _ h3,h4,by omega,fun D hD=>?_⟩;have Hn:H1 D=none:=S4.free hD;have L5:Lst H1 (upd H4 D (HO.lst (o3++o4))) D (J1l g C R++J1k g rgs C):=⟨⟨_,J1,All2.append (L3.mono (s4.trans (Same.upd_new hD _))) (L4.mono (Same.upd_new hD _))⟩,S4.new hD _,Hn⟩;have g5:upd H4 D (HO.lst (o3++o4)) p1=some (.lst ((g.map sm).map V.int)):=(Same.upd_new hD _) _ _ ((s3.trans s4) _ _ g1);have n1:p1≠D:=fun e=>by rw [<- e] at hD;rw [(s3.trans s4) _ _ g1] at hD;cases hD
   have d5:upd H4 D (HO.lst (o3++o4)) D=some (.lst (o3++o4)):=J1;generalize upd H4 D (HO.lst (o3++o4))=H5 at *;subst hB2;walk_at "dl";have S5:=L5.same;refine ⟨lg,xs,g,R,C,rfl,S5 _ _ hl,hg.mono S5,ok,by omega,by omega,fun H6 ps s6 _ hps=>?_⟩;rw [yh (by omega)] at hps;have S6:=S5.trans s6;have cln:(J0P g C).length=C:=by unfold J0P;rw [yC,yX]
   refine ⟨V.str (Str.ofString "columns"),JV,lc,ps,_,cgs,J0P g C,rfl,rfl,S6 _ _ hlc,hcg.mono S6,hps,hc8,by omega,by rw [cln];exact hcok,hc100,fun H7 D7 o7 s7 _ h7 L7=>?_⟩;have u7:=s6.trans s7;have ol7:=L7.1;rw [yC,J1j,cln] at ol7;refine ⟨D,D7,o3++o4,o7,rfl,rfl,u7 _ _ d5,h7,by rw [yH];omega,?_⟩;have L8:=L5.cat u7 d5 L7;have g8:upd H7 D (HO.lst (o3++o4++o7)) p1=some (.lst ((g.map sm).map V.int)):=by rw [Jd n1];exact u7 _ _ g5
   have d8:upd H7 D (HO.lst (o3++o4++o7)) D=some (.lst (o3++o4++o7)):=J1;generalize upd H7 D (HO.lst (o3++o4++o7))=H8 at *;subst hB3;walk_at "dl";have S8:=L8.same;refine ⟨V.str (Str.ofString "rows"),J0g,lr,p1,_,rgs,g.map sm,rfl,rfl,S8 _ _ hlr,hrg.mono S8,g8,hr8,by omega,by rw [hgsm];exact hrok,hr100,fun H9 D9 o9 s9 _ h9 L9=>?_⟩;have ol9:=L9.1;rw [J1j,hgsm] at ol9;refine ⟨D,D9,_,o9,rfl,rfl,s9 _ _ d8,h9,by rw [yH,yH];omega,?_⟩;have L10:=L8.cat s9 d8 L9;have g10:upd H9 D (HO.lst (o3++o4++o7++o9)) p1=some (.lst ((g.map sm).map V.int)):=by rw [Jd n1];exact s9 _ _ g8
   have d10:upd H9 D (HO.lst (o3++o4++o7++o9)) D=some (.lst (o3++o4++o7++o9)):=J1;generalize upd H9 D (HO.lst (o3++o4++o7++o9))=H10 at *;subst hB4;walk_at "dl";refine ⟨.inl ⟨rfl,_,.of d10⟩,Jb (by decide),fun pa hpa=>?_⟩;have u11:=Same.upd_new hpa (HO.tup [V.str (Str.ofString "rows"),V.str (Str.ofString "group"),V.non]);have g11:upd H10 pa (HO.tup [V.str (Str.ofString "rows"),V.str (Str.ofString "group"),V.non]) pa=some (.tup [V.str (Str.ofString "rows"),V.str (Str.ofString "group"),V.non]):=J1;generalize upd H10 pa (HO.tup [V.str (Str.ofString "rows"),V.str (Str.ofString "group"),V.non])=H11 at *;refine ⟨Jb (by decide),fun pb hpb=>⟨g.map sm,.of ((u11.new hpb _) _ _ g10),Jb (by decide),fun pt hpt=>?_⟩⟩;refine J3F L10 d10 ?_ u11 g11 (oa:=none) rfl (show MAt _ (.str (Str.ofString "rows")) J0g from rfl) hpb (ob:=none) rfl (show MAt _ (.str (Str.ofString "columns")) JV from rfl) hpt fun H12 L12 _=>?_
   ·rw [yH,yH,yH,yC,J1j,J1j,cln,hgsm,bl,cl]
    omega
   ·obtain ⟨out,h1,h2⟩:=L12.ex
    exact k H12 D out L12.same h1 h2
def J4a (ks:List NPK):List (NPK×V):=ks.zipIdx.map fun p=>(p.1,V.int (p.2:Int))
theorem J4J (ks:List NPK):(J4a ks).length=ks.length:=by unfold J4a;rw [yC,length_zipIdx]
theorem JbB (ks:List NPK)(k:NPK):J4a (ks++[k])=J4a ks++[(k,V.int (ks.length:Int))]:=by unfold J4a;rw [zipIdx_append,yP];simp
def ixK (k:NPK):List NPK->Option Nat
 | []=>none
 | a::ks=>if a=k then some 0 else (ixK k ks).map (·+1)
theorem J7V (k:NPK):∀ (ks:List NPK) (m:Nat),((ks.zipIdx m).map fun p=>(p.1,V.int (p.2:Int))).find? (fun x=>decide (x.1=k))=(ixK k ks).map fun i=>(k,V.int ((i+m:Nat):Int))
 | [],m=>rfl
 | a :: ks,m=>by
   rw [zipIdx_cons,yM,List.find?_cons];unfold ixK;by_cases c:a=k
   ·subst c
    rw [yi rfl];simp
   ·rw [yo (show ¬ ((a,m).1=k) from c),yh c]
    show List.find? _ _=_;rw [J7V k ks (m+1),Option.map_map];congr 1;funext i;show (k,V.int ((i+(m+1):Nat):Int))=(k,V.int ((i+1+m:Nat):Int));rw [show i+(m+1)=i+1+m by omega]
theorem J9u (ks:List NPK)(k:NPK):J11 (J4a ks) k=(ixK k ks).map fun (i:Nat)=>V.int (i:Int):=by
 unfold J11 J4a;rw [J7V k ks 0,Option.map_map];rfl
theorem J2e {k:NPK}:∀ {ks:List NPK} {i:Nat},ixK k ks=some i->ks[i]?=some k
 | [],i,h=>by cases h
 | a :: ks,i,h=>by
   unfold ixK at h;by_cases c:a=k
   ·rw [yi c] at h
    cases h;rw [c];rfl
   ·rw [yh c] at h
    obtain ⟨j,hj,rfl⟩:=Option.map_eq_some_iff.mp h;show ks[j]?=some k;exact J2e hj
theorem J76 {k:NPK}:∀ {ks:List NPK},ixK k ks=none->k∉ks
 | [],_=>by simp
 | a :: ks,h=>by
   unfold ixK at h;by_cases c:a=k
   ·rw [yi c] at h;cases h
   ·rw [yh c,Option.map_eq_none_iff] at h
    intro z;rcases yL.mp z with z | z
    ·exact c z.symm
    ·exact J76 h z
theorem Jba {kvs:List (NPK×V)}{k:NPK}(h:J11 kvs k=none):J1p kvs k v=kvs++[(k,v)]:=by
 unfold J1p;rw [yh];intro z;rw [any_eq_true] at z;obtain ⟨x,hx,hd⟩:=z;unfold J11 at h;rw [Option.map_eq_none_iff,List.find?_eq_none] at h;exact h x hx hd
def J7p (P:Program)(w:World)(K:Frag):Sp:=fun vs H Q _=>∃ (l:Addr) (xs:List V) (ls:List Lk),vs=[.ref l]/\H l=some (.lst xs)/\LksV H xs ls/\ls.length<=1000 /\
 ∀ H' a ks,Same H H'->ND P w H' a (J4a ks)->ks.Nodup->(∀ L∈ls,L.s∈ks)->(∀ k∈ks,∃ L∈ls,k=L.s)->ks.length<=ls.length->Q (.ref a) H'
theorem ok_nodes_of (T:Txt K mg f fd):FnOk P w K mg base CX0 1 (f 23) (fd 23) ["links"] (J7p P w K):=by
 walk_at "ok wO J1i"
 ·obtain ⟨l,xs,ls,rfl,_⟩:=h
  rfl
 ·obtain ⟨l,xs,ls,rfl,hl,hL,h1000,k⟩:=h
  refine ⟨_,(Jc (psl 1 J1i.nd Jbl)
   (Jc (J0a PassesOwn.never rfl (J00 rfl (pvl 0)) (J1C rfl rfl (Jq (pgl 2 J1i.nd) (Jq (pgl 3 J1i.nd) (Jq (pgl 4 J1i.nd) J0w))))
   (Jg (J05 (J8y hr.units (pvl 1) (pvl 2) (JA J6v T.wa JX rfl (by decide) (by decide) rfl (pal rfl (pvl 1) Ja)) ⟨rfl,rfl,rfl,rfl⟩))))
   (Jg (Jx (pvl 1))))),?_⟩
  generalize hB2:J3m _=B2;generalize hB1:J0r (J3W _ _ _) B2=B1;walk_at "dl";have hxl:=hL.1;intro a ds ha hN;have u1:=Same.upd_new ha (dN P w a ds);generalize upd H a (dN P w a ds)=H1 at *;subst hB1;walk_at "dl";refine J0b ?_;walk_at "dl";refine ⟨⟨_,.of (u1 _ _ hl)⟩,?_⟩;refine ForW.of (Jm (xs:=xs)) (fun i σ H'=>(∃ v2 v3 v4,σ=[some (V.ref l),some (V.ref a),v2,v3,v4])/\Same H H'/\∃ ks,ND P w H' a (J4a ks)/\ks.Nodup/\(∀ L∈ls.take i,L.s∈ks)/\(∀ k∈ks,∃ L∈ls,k=L.s)/\ks.length<=i) ⟨⟨none,none,none,rfl⟩,u1,[],hN,nodup_nil,by simp,by simp,yj _⟩ (fun _ _ _ _ q=>.of (q.2.1 _ _ hl)) ?_ ?_
  ·rintro i x σ H2 hx ⟨⟨v2,v3,v4,rfl⟩,s2,ks,N2,nd,h1,h2,h3⟩
   obtain ⟨L,hLi,p,sa,sb,rfl,hp,ka,kb⟩:=All2.at hL hx;have hi:=(yB.mp hLi).1;refine ⟨p,_,rfl,.of (s2 _ _ hp),rfl,?_⟩;simp only [J0O,J2g,J01];walk_at "dl";have sz:(J4a ks).length<=sizeLine:=by rw [J4J];exact Jb (by omega)
   have hv:=J9u ks L.s;refine ⟨⟨_,N2⟩,_,N2,sz,_,N2,L.s,ka.mono (J25 s2),sz,fun v hv2=>⟨⟨_,rfl⟩,s2,ks,N2,nd,fun L' hL'=>?_,h2,by omega⟩,fun hn ds2 N3=>⟨⟨_,rfl⟩,s2.set ha _,ks++[L.s],?_,?_,fun L' hL'=>?_,fun k' hk'=>?_,by rw [yH];exact Nat.succ_le_succ h3⟩⟩
   ·rw [take_add_one,hLi] at hL'
    rcases yQ.mp hL' with hL' | hL'
    ·exact h1 L' hL'
    ·cases yD.mp hL'
     cases c:ixK L.s ks with
     | none=>rw [hv,c] at hv2;cases hv2
     | some j=>exact yG (J2e c)
   ·rw [JbB,<- Jba hn,<- J4J]
    exact N3
   ·refine nodup_append.mpr ⟨nd,by simp,fun x hx y hy e=>?_⟩
    cases yD.mp hy;subst e;cases c:ixK L.s ks with
    | none=>exact J76 c hx
    | some j=>rw [hv,c] at hn;cases hn
   ·rw [take_add_one,hLi] at hL'
    rcases yQ.mp hL' with hL' | hL'
    ·exact yS _ (h1 L' hL')
    ·cases yD.mp hL'
     exact yR _ (by simp)
   ·rcases yQ.mp hk' with hk' | hk'
    ·exact h2 k' hk'
    ·exact ⟨L,yG hLi,yD.mp hk'⟩
  ·rintro σ H2 ⟨⟨v2,v3,v4,rfl⟩,s2,ks,N2,nd,h1,h2,h3⟩
   rw [hxl,yO] at h1;subst hB2;walk_at "dl";exact k H2 a ks s2 N2 nd h1 h2 (by omega)
structure LksOk (ls:List Lk):Prop where
 go:∀ L∈ls,∃ L'∈ls,L'.s=L.g
 ne:∀ L∈ls,L.s≠L.g
 nn:∀ L∈ls,0<=L.n/\L.n<BB
 len:ls.length<=240
 one:ls≠[]
def ixI (ks:List NPK)(k:NPK):Int:=((ixK k ks).getD 0:Nat)
def J2m (ks:List NPK)(many whole:Int)(L:Lk):Arc:=⟨ixI ks L.s,ixI ks L.g,L.n * many / whole,-(-L.n * many / whole)⟩
theorem Jd0 {as:List Arc}(t:J4p H H')(h:ArcsV H xs as):ArcsV H' xs as:=All2.mono h fun _ _ ⟨p,e,g⟩=>⟨p,e,t _ _ g⟩
theorem J5y {k:NPK}(h:k∈ks):∃ i,ixK k ks=some i/\i<ks.length:=by
 cases c:ixK k ks with
 | none=>exact absurd h (J76 c)
 | some i=>exact ⟨i,rfl,(yB.mp (J2e c)).1⟩
theorem J9s {k:NPK}(h:k∈ks):J11 (J4a ks) k=some (V.int (ixI ks k)):=by
 obtain ⟨i,e,_⟩:=J5y h;rw [J9u,e];unfold ixI;rw [e];rfl
def J4v (K:Frag)(f:Nat->Addr):Sp:=fun vs H Q _=>∃ (l:Addr) (xs:List V) (ls:List Lk) (many whole:Int),vs=[.ref l,.int many,.int whole]/\H l=some (.lst xs)/\LksV H xs ls/\LksOk ls/\0<=many/\many<BB/\0<whole/\whole<BB /\
 ∀ (H':Hp) (pl:Addr) (zs:List Int) (ks:List NPK) (g:Bool),Same H H'->H pl=none->H' pl=some (.lst (zs.map V.int))->ks.Nodup->(∀ L∈ls,L.s∈ks)->(∀ k∈ks,∃ L∈ls,k=L.s)->FcR ks.length (ls.map (J2m ks many whole)) g zs->Q (.ref pl) H'
theorem ok_rounded_flow (T:Txt K mg f fd):FnOk P w K mg base CX0 6 (f 24) (fd 24) ["links","many","whole"] (J4v K f):=by
 walk_at "ok wP J0m"
 ·obtain ⟨l,xs,ls,many,whole,rfl,_⟩:=h
  rfl
 ·obtain ⟨l,xs,ls,many,whole,rfl,hl,hL,ok,hm0,hm1,hw0,hw1,k⟩:=h
  refine ⟨_,(Jc (psl 3 J0m.nd (Jj T.wO (ok_nodes_of T) (hr.mono (by decide)) rfl (by decide) rfl (pal rfl (pvl 0) Ja)))
   (Jc (psl 4 J0m.nd (J0l Ja))
   (Jc (J0a PassesOwn.never rfl (J00 rfl (pvl 0)) (J1C rfl rfl (Jq (pgl 5 J0m.nd) (Jq (pgl 6 J0m.nd) (Jq (pgl 7 J0m.nd) J0w))))
   (Jg (J05 (J1m rfl y9 PySem.F.slot_list_append PySem.F.type_list_append J08 rfl rfl rfl rfl (pvl 4) (pal rfl (JD (pal rfl (J9i hr.units (pvl 3) (pvl 5) (fun _ _=>rfl)) (pal rfl (J9i hr.units (pvl 3) (pvl 6) (fun _ _=>rfl)) (pal rfl (Jl J5p (Jl J4F (pvl 7) (pvl 1)) (pvl 2)) (pal rfl (J5l J39 (Jl J5p (Jl J4F (J5l J39 (pvl 7)) (pvl 1)) (pvl 2))) Ja))))) Ja)))))
   (Jg (Jx (JT (J2p rfl) (Jj T.wI (ok_flow_or_cut T) (hr.mono (by decide)) rfl (by decide) rfl (pal rfl (JA J6v T.wa JX rfl (by decide) (by decide) rfl (pal rfl (pvl 3) Ja)) (pal rfl (pvl 4) Ja))) Je (fun _ _=>rfl))))))),?_⟩
  generalize hB3:J3m _=B3;generalize hB2:J0r (J3W _ _ _) B3=B2;generalize hB1:J0r (J2q _ _) B2=B1;walk_at "dl";have hxl:=hL.1;have hll:=ok.len;have hB:(0:Int)<BB:=by omega
  refine ⟨l,xs,ls,rfl,hl,hL,by omega,fun H1 a ks s1 N1 nd hs1 hs2 hkl=>?_⟩;subst hB1;walk_at "dl";refine ⟨yw _,fun D hD=>?_⟩;obtain ⟨ds,hda,_⟩:=N1.2;have hDa:a≠D:=fun e=>by rw [e,hD] at hda;cases hda
  have u2:=Same.upd_new hD (HO.lst []);have d2:upd H1 D (HO.lst []) D=some (.lst []):=J1;generalize upd H1 D (HO.lst [])=H2 at *;subst hB2;walk_at "dl";refine J0b ?_;walk_at "dl";refine ⟨⟨_,.of (u2 _ _ (s1 _ _ hl))⟩,?_⟩;refine ForW.of (Jm (xs:=xs)) (fun i σ H'=>(∃ v5 v6 v7,σ=[some (V.ref l),some (V.int many),some (V.int whole),some (V.ref a),some (V.ref D),v5,v6,v7])/\Same H1 H'/\∃ out,H' D=some (.lst out)/\ArcsV H' out ((ls.take i).map (J2m ks many whole))) ⟨⟨none,none,none,rfl⟩,u2,[],d2,All2.nil⟩ (fun _ _ _ _ q=>.of (q.2.1 _ _ (s1 _ _ hl))) ?_ ?_
  ·rintro i x σ H3 hx ⟨⟨v5,v6,v7,rfl⟩,s3,out,ho,hA⟩
   obtain ⟨L,hLi,p,sa,sb,rfl,hp,ka,kb⟩:=All2.at hL hx;have S3:=s1.trans s3;refine ⟨p,_,rfl,.of (S3 _ _ hp),rfl,?_⟩;simp only [J0O,J2g,J01];walk_at "dl";have hmem:=yG hLi;obtain ⟨L',hL',eg⟩:=ok.go L hmem;have N3:ND P w H3 a (J4a ks):=N1.mono (J25 s3) ((s3 _ _ hda).trans hda.symm);have nb:=ok.nn L hmem;have hi:=(yB.mp hLi).1;have hol:out.length=i:=by rw [hA.1,yC,yI];omega
   have mb0:0<=L.n * many:=Int.mul_nonneg nb.1 hm0;have en:-L.n * many=-(L.n * many):=Int.neg_mul ..;refine ⟨.inl ⟨rfl,_,.of ho⟩,_,N3,_,ka.mono (J25 S3),_,J9s (hs1 L hmem),_,N3,_,kb.mono (J25 S3),_,J9s (eg ▸ hs1 L' hL'),by omega,nb.2,by omega,hm1,hw0,hw1,by omega,by omega,by omega,hm1,hw0,hw1,Jb (by decide),fun q hq=>?_⟩
   ·have u4:=Same.upd_new hq (HO.tup (J2m ks many whole L).vs)
    refine ⟨D,out,_,rfl,rfl,(Same.upd_new hq _) _ _ ho,by have:=Jb (n:=2000) (by decide);omega,⟨_,rfl⟩,(s3.new hq _).set hD _,_,J1,?_⟩;have t:∀ o,J4p (upd H3 q (HO.tup (J2m ks many whole L).vs)) (upd (upd H3 q (HO.tup (J2m ks many whole L).vs)) D o):=fun o=>J8k (u4 _ _ ho);rw [take_add_one,hLi,yP];exact All2.snoc (Jd0 (t _) (hA.mono u4)) ⟨q,rfl,t _ _ _ J1⟩
  ·rintro σ H3 ⟨⟨v5,v6,v7,rfl⟩,s3,out,ho,hA⟩
   rw [hxl,yO] at hA;subst hB3;walk_at "dl";have N3:ND P w H3 a (J4a ks):=N1.mono (J25 s3) ((s3 _ _ hda).trans hda.symm);have k1:1<=ks.length:=by
    obtain ⟨L,hLm⟩:∃ L,L∈ls:=exists_mem_of_ne_nil _ ok.one;exact length_pos_of_mem (hs1 L hLm)
   refine ⟨_,N3,by rw [J4J];exact Jb (by omega),ks.length,D,out,_,by rw [J4J],⟨ho,hA,k1,by omega,by rw [yC];omega,fun A hA'=>?_⟩,fun H4 t pl g zs s4 ht hpl hz hF=>?_⟩
   ·obtain ⟨L,hLm,rfl⟩:=yU.mp hA'
    obtain ⟨L',hL',eg⟩:=ok.go L hLm;have nb:=ok.nn L hLm;obtain ⟨i,e1,e2⟩:=J5y (hs1 L hLm);obtain ⟨j,e3,e4⟩:=J5y (eg ▸ hs1 L' hL');have ei:(J2m ks many whole L).a=(i:Int):=by show ixI ks L.s=_;unfold ixI;rw [e1];rfl
    have ej:(J2m ks many whole L).b=(j:Int):=by show ixI ks L.g=_;unfold ixI;rw [e3];rfl
    have mb0:0<=L.n * many:=Int.mul_nonneg nb.1 hm0;refine ⟨⟨by omega,by omega,by omega,by omega⟩,fun e=>?_,?_,?_⟩
    ·rw [ei,ej] at e
     have:i=j:=by omega
     subst this;exact ok.ne L hLm (yq ((J2e e1).symm.trans (J2e e3)))
    ·exact Int.ediv_nonneg mb0 (by omega)
    ·show L.n * many / whole<=-(-L.n * many / whole)
     have h1:=Int.ediv_mul_le (L.n * many) (show whole≠0 by omega);have h2:=Int.ediv_mul_le (-L.n * many) (show whole≠0 by omega);rw [Int.neg_mul] at h2 ⊢;have h3:(L.n * many / whole+-(L.n * many) / whole) * whole<=0:=by rw [Int.add_mul];omega
     have h4:L.n * many / whole+-(L.n * many) / whole<=0:=by
      by_cases c:0<L.n * many / whole+-(L.n * many) / whole
      ·have:=Int.mul_pos c hw0;omega
      ·omega
     omega
   ·exact ⟨t,_,_,_,rfl,rfl,.of ht,Jt (j:=1) rfl,k H4 pl zs ks g (s1.trans (s3.trans s4)) ((s1.trans s3).free hpl) hz nd hs1 hs2 hF⟩
def exL:List Lk->NPK->Int
 | [],_=>0
 | L::ls,k=>(if L.g=k then L.n else 0) - (if L.s=k then L.n else 0)+exL ls k
theorem JH:∀ (xs ys:List Lk) (k:NPK),exL (xs++ys) k=exL xs k+exL ys k
 | [],ys,k=>by show exL ys k=0+exL ys k;omega
 | L::xs,ys,k=>by
   show _ - _+exL (xs++ys) k=_ - _+exL xs k+exL ys k;rw [JH xs ys k];omega
def scA (w:Int)(A:Arc):Arc:=⟨A.a,A.b,A.l * w,A.u * w⟩
theorem J4H {a b:NPK}(ha:a∈ks)(hb:b∈ks)(h:ixI ks a=ixI ks b):a=b:=by
 obtain ⟨i,e1,_⟩:=J5y ha;obtain ⟨j,e2,_⟩:=J5y hb;unfold ixI at h;rw [e1,e2] at h;have:i=j:=by simp at h;omega
 subst this;exact yq ((J2e e1).symm.trans (J2e e2))
theorem JbO {ks:List NPK}{many whole:Int}{k:NPK}(hk:k∈ks):∀ {ls:List Lk},(∀ L∈ls,L.s∈ks/\L.g∈ks)->exF ((ls.map (J2m ks many whole)).map (scA whole)) (ls.map fun L=>L.n * many) (ixI ks k)=exL ls k * many
 | [],_=>by show (0:Int)=0 * many;omega
 | L :: ls,h=>by
   have ih:=JbO (many:=many) (whole:=whole) hk (ls:=ls) fun M hM=>h M (yJ _ hM);obtain ⟨h1,h2⟩:=h L yK;show (if ixI ks L.g=ixI ks k then L.n * many else 0) - (if ixI ks L.s=ixI ks k then L.n * many else 0)+exF _ _ _=((if L.g=k then L.n else 0) - (if L.s=k then L.n else 0)+exL ls k) * many;rw [ih,Int.add_mul,Int.sub_mul];have e1:(if ixI ks L.g=ixI ks k then L.n * many else 0)=(if L.g=k then L.n else 0) * many:=by
    by_cases c:L.g=k
    ·rw [yi (by rw [c]),yi c]
    ·rw [yh fun e=>c (J4H h2 hk e),yh c];omega
   have e2:(if ixI ks L.s=ixI ks k then L.n * many else 0)=(if L.s=k then L.n else 0) * many:=by
    by_cases c:L.s=k
    ·rw [yi (by rw [c]),yi c]
    ·rw [yh fun e=>c (J4H h1 hk e),yh c];omega
   rw [e1,e2]
theorem J9B {ks:List NPK}{many whole v:Int}(hv:∀ k∈ks,ixI ks k≠v):∀ {ls:List Lk},(∀ L∈ls,L.s∈ks/\L.g∈ks)->exF ((ls.map (J2m ks many whole)).map (scA whole)) (ls.map fun L=>L.n * many) v=0
 | [],_=>rfl
 | L::ls,h=>by
   have ih:=J9B (many:=many) (whole:=whole) hv (ls:=ls) fun M hM=>h M (yJ _ hM);obtain ⟨h1,h2⟩:=h L yK;show (if ixI ks L.g=v then L.n * many else 0) - (if ixI ks L.s=v then L.n * many else 0)+exF _ _ _=0;rw [ih,yh (hv _ h2),yh (hv _ h1)];omega
theorem Jex {vs:List Int}{w:Int}(A:Arc):cA vs (scA w A)=cA vs A * w:=by
 unfold cA scA;dsimp only
 split<;>split<;>simp [Int.neg_mul]
theorem Jdg {as:List Arc}{vs:List Int}{w:Int}{k:Nat}:∀ {n:Nat},n<=as.length->cN (as.map (scA w)) vs k n=cN as vs k n * w
 | 0,_=>by show (0:Int)=0 * w;omega
 | n + 1,h=>by
   show cN (as.map (scA w)) vs k n+(if n=k then 0 else cA vs ((as.map (scA w)).getD n default))=(cN as vs k n+(if n=k then 0 else cA vs (as.getD n default))) * w;have hn:n<as.length:=by omega
   have e:(as.map (scA w)).getD n default=scA w (as.getD n default):=by
    rw [yF,yN,yA hn,yF,yA hn];rfl
   rw [Jdg (by omega),e,Int.add_mul,Jex];by_cases c:n=k
   ·rw [yi c,yi c];omega
   ·rw [yh c,yh c]
theorem flow_of_circ {ls:List Lk}{g:Bool}(ok:LksOk ls)(hm:0<=many)(hw:0<whole)(h1:∀ L∈ls,L.s∈ks)(circ:∀ k∈ks,exL ls k=0)(F:FcR ks.length (ls.map (J2m ks many whole)) g zs):Flow (ls.map (J2m ks many whole)) zs:=by
 have hin:∀ L∈ls,L.s∈ks/\L.g∈ks:=fun L hL=>by
  obtain ⟨L',hL',e⟩:=ok.go L hL;exact ⟨h1 L hL,e ▸ h1 L' hL'⟩
 cases g with
 | true=>exact F.flow rfl
 | false =>
   obtain ⟨ns,_,cut⟩:=F.cut rfl;have FS:Flow ((ls.map (J2m ks many whole)).map (scA whole)) (ls.map fun L=>L.n * many):=by
    refine ⟨⟨by simp,fun i A y hA hy=>?_⟩,fun v=>?_⟩
    ·rw [yN,yN] at hA
     rw [yN] at hy;obtain ⟨L,hL,rfl⟩:=Option.map_eq_some_iff.mp hy;rw [hL] at hA;cases hA;have b1:=Int.ediv_mul_le (L.n * many) (show whole≠0 by omega);have b2:=Int.ediv_mul_le (-L.n * many) (show whole≠0 by omega);refine ⟨b1,?_⟩;show L.n * many<=-(-L.n * many / whole) * whole;rw [Int.neg_mul] at b2 ⊢;rw [Int.neg_mul];omega
    ·by_cases c:∃ k∈ks,ixI ks k=v
     ·obtain ⟨k,hk,rfl⟩:=c
      rw [JbO hk hin,circ k hk];omega
     ·exact J9B (fun k hk e=>c ⟨k,hk,e⟩) hin
   have CS:CutOk ks.length ((ls.map (J2m ks many whole)).map (scA whole)) ns:=⟨cut.so,cut.lt,by
    rw [yC,Jdg (yj _)];exact Int.mul_pos cut.pos hw⟩
   exact (JdN FS CS).elim
theorem J7x {n:Int}:∀ {r:List Int} {lo:Int},r.Pairwise (·<·)->(∀ z∈r,lo<=z/\z<n)->lo<=n->(r.length:Int)<=n - lo
 | [],lo,_,_,h=>by simp;omega
 | a::t,lo,hp,hb,_=>by
   obtain ⟨h1,h2⟩:=pairwise_cons.mp hp;have ha:=hb a yK;have:=J7x (n:=n) (lo:=a+1) h2 (fun z hz=>⟨by have:=h1 z hz;omega,(hb z (yJ _ hz)).2⟩) (by omega);rw [length_cons];omega
theorem J2K (h:J3U n r):r.length<=n:=by
 have:=J7x (n:=(n:Int)) (lo:=0) h.2.1 h.2.2 (by omega);omega
theorem J4d {gs:List (List Int)}{z:Int}:∀ {n m:Nat},clo gs n z=some m->m<n
 | 0,m,h=>by cases h
 | n+1,m,h=>by
   unfold clo at h
   split at h
   ·cases h;omega
   ·have:=J4d h;omega
theorem JbY (h:z∈gs.getD n []):clo gs (n+1) z=some n:=by
 unfold clo;rw [yi h]
theorem J9w (h:J3U n r):r.getD 0 0∈r/\0<=r.getD 0 0/\r.getD 0 0<n:=by
 obtain ⟨h0,_,h2⟩:=h;cases r with
 | nil=>exact absurd rfl h0
 | cons a t=>exact ⟨yK,h2 a yK⟩
theorem J8F {a b:Option Nat}(h:kN a=kN b):a=b:=by
 unfold kN at h;injection h with h
 cases a<;>cases b<;>simp at h ⊢
 omega
theorem Jk {sd sd':JJ}:plK sd i≠grK sd' o:=fun h=>by
 unfold plK grK at h;injection h with _ h
 injection h with h _
 exact absurd h (by decide)
def upI (n:Nat):List Int:=(List.range n).map fun (i:Nat)=>(i:Int)
theorem JaB (n:Nat):(upI n).Pairwise (·<·):=by
 unfold upI;rw [pairwise_map];exact pairwise_lt_range.imp fun h=>by omega
theorem J71 :z∈upI n↔0<=z/\z<n:=by
 unfold upI;rw [yU];constructor
 ·rintro ⟨i,hi,rfl⟩
  have:=mem_range.mp hi;omega
 ·intro h
  exact ⟨z.toNat,mem_range.mpr (by omega),by omega⟩
theorem J7l (n:Nat):upI (n+1)=upI n++[(n:Int)]:=by unfold upI;rw [range_succ,yP];rfl
structure Lam (n:Nat)(ws:List (List Int)):Prop where
 ok:∀ i,i<ws.length->J3U n (ws.getD i [])
 sub:∀ i j,i<j->j<ws.length->∀ z,z∈ws.getD i []->z∈ws.getD j []->∀ y,y∈ws.getD j []->y∈ws.getD i []
def hdG (ws:List (List Int))(t:Nat):Int:=(ws.getD t []).getD 0 0
theorem J6t {ws:List (List Int)}{y z:Int}:∀ {t:Nat},(∀ i,i<t->(y∈ws.getD i []↔z∈ws.getD i []))->clo ws t y=clo ws t z
 | 0,_=>rfl
 | t + 1,h=>by
   unfold clo;have h1:=h t (by omega);by_cases c:z∈ws.getD t []
   ·rw [yi (h1.mpr c),yi c]
   ·rw [yh fun e=>c (h1.mp e),yh c]
    exact J6t fun i hi=>h i (by omega)
theorem Jbo (l:Lam n ws)(ht:t<ws.length)(hz:z∈ws.getD t []):clo ws t (hdG ws t)=clo ws t z:=by
 have hh:=(J9w (l.ok t ht)).1;exact J6t fun i hi=>⟨fun e=>l.sub i t hi ht _ e hh z hz,fun e=>l.sub i t hi ht _ e hz _ hh⟩
def sP (n:Nat)(P:Nat->Prop)[DecidablePred P](f:Nat->Int):Int:=Ji (fun z=>if P z then f z else 0) n
def inG (ws:List (List Int))(t z:Nat):Prop:=(z:Int)∈ws.getD t []
instance (ws:List (List Int)) (t:Nat):DecidablePred (inG ws t):=fun z=>by unfold inG;infer_instance
def Wg (n:Nat)(ws:List (List Int))(f:Nat->Int)(t:Nat):Int:=sP n (inG ws t) f
def Ao (n:Nat)(ws:List (List Int))(f:Nat->Int)(t:Nat)(o:Option Nat):Int:=sP n (fun z=>clo ws t (z:Int)=o) f
theorem Jp {F G:Nat->Int}:∀ {n:Nat},(∀ z,z<n->F z=G z)->Ji F n=Ji G n
 | 0,_=>rfl
 | n+1,h=>by
   show Ji F n+F n=Ji G n+G n;rw [Jp fun z hz=>h z (by omega),h n (by omega)]
theorem J2O {F G:Nat->Int}:∀ n:Nat,Ji (fun z=>F z+G z) n=Ji F n+Ji G n
 | 0=>rfl
 | n+1=>by
   show Ji (fun z=>F z+G z) n+(F n+G n)=(Ji F n+F n)+(Ji G n+G n);rw [J2O n];omega
theorem J1Q (n:Nat):Ji (fun _=>0) n=0:=JQ n fun _ _=>rfl
theorem Jd4 (l:Lam n ws)(f:Nat->Int)(ht:t<ws.length)(o:Option Nat) :
 Ao n ws f (t+1) o+(if clo ws t (hdG ws t)=o then Wg n ws f t else 0)=Ao n ws f t o+(if some t=o then Wg n ws f t else 0):=by
 have e1:∀ c:Prop,∀ [Decidable c],(if c then Wg n ws f t else 0)=Ji (fun z=>if c/\inG ws t z then f z else 0) n:=fun c _=>by
  unfold Wg sP;by_cases h:c
  ·rw [yi h]
   exact Jp fun z _=>by by_cases g:inG ws t z<;>simp [g,h]
  ·rw [yh h]
   exact ((Jp (G:=fun _=>0) fun z _=>by simp [h]).trans (J1Q n)).symm
 rw [e1,e1];unfold Ao sP;rw [<- J2O,<- J2O];refine Jp fun z _=>?_;dsimp only;by_cases g:inG ws t z
 ·have h1:clo ws (t+1) (z:Int)=some t:=JbY g
  have h2:=Jbo l ht g;have h3:clo ws t (z:Int)≠some t:=fun e=>by have:=J4d e;omega
  simp only [h1,h2];by_cases c1:some t=o
  ·have c2:¬ clo ws t (z:Int)=o:=fun e=>h3 (e.trans c1.symm)
   simp only [c1,c2,g,if_true,if_false,and_true,false_and,Int.add_zero,Int.zero_add,eq_self_iff_true,ite_true,ite_false]
  ·by_cases c2:clo ws t (z:Int)=o<;>simp only [c1,c2,g,if_true,if_false,and_true,false_and,true_and,Int.add_zero,Int.zero_add]
 ·have h1:clo ws (t+1) (z:Int)=clo ws t (z:Int):=by
   show (if (z:Int)∈ws.getD t [] then some t else clo ws t (z:Int))=_;exact yh g
  simp only [h1,g,and_false,if_false]
def ins (n:Nat)(ws:List (List Int))(f:Nat->Int)(F:Nat->Int)(T:Nat)(o:Option Nat):Int:=Ao n ws f ws.length o+Ji (fun t=>if clo ws t (hdG ws t)=o then F t else 0) T
theorem J3k {n:Nat}{ws:List (List Int)}(l:Lam n ws)(f:Nat->Int)(o:Option Nat):∀ T,T<=ws.length ->
 Ao n ws f T o+Ji (fun t=>if clo ws t (hdG ws t)=o then Wg n ws f t else 0) T=(if o=none then Ji f n else 0)+Ji (fun t=>if some t=o then Wg n ws f t else 0) T
 | 0,_=>by
   show Ao n ws f 0 o+0=_+0;unfold Ao sP;cases o with
   | none =>
     rw [yi rfl];exact congrArg (·+0) (Jp fun z _=>yi rfl)
   | some m =>
     rw [yh (by simp)];refine congrArg (·+0) ((Jp (G:=fun _=>0) fun z _=>?_).trans (J1Q n));exact yh (show ¬ (clo ws 0 (z:Int)=some m) from fun e=>by cases e)
 | T+1,h=>by
   have ih:=J3k l f o T (by omega);have st:=Jd4 l f (t:=T) (by omega) o;show Ao n ws f (T+1) o+(Ji (fun t=>if clo ws t (hdG ws t)=o then Wg n ws f t else 0) T+(if clo ws T (hdG ws T)=o then Wg n ws f T else 0))=(if o=none then Ji f n else 0)+(Ji (fun t=>if some t=o then Wg n ws f t else 0) T+(if some T=o then Wg n ws f T else 0));omega
theorem J5j {F:Nat->Int}{m:Nat}:∀ {T:Nat},m<T->Ji (fun t=>if some t=some m then F t else 0) T=F m
 | 0,h=>by omega
 | T + 1,h=>by
   show Ji (fun t=>if some t=some m then F t else 0) T+(if some T=some m then F T else 0)=F m;by_cases c:m=T
   ·subst c
    rw [yi rfl,Jp (G:=fun _=>0) fun z hz=>yh (show ¬ (some z=some m) from fun e=>by injection e;omega),J1Q];omega
   ·rw [yh (show ¬ (some T=some m) from fun e=>by injection e;omega),J5j (by omega)]
    omega
theorem Jal (l:Lam n ws)(f:Nat->Int)(hm:m<ws.length):ins n ws f (Wg n ws f) ws.length (some m)=Wg n ws f m:=by
 have:=J3k l f (some m) ws.length (yj _);rw [yh (by simp),J5j hm] at this;unfold ins;omega
theorem Jak (l:Lam n ws)(f:Nat->Int):ins n ws f (Wg n ws f) ws.length none=Ji f n:=by
 have:=J3k l f none ws.length (yj _);rw [yi rfl,Jp (F:=fun t=>if some t=none then Wg n ws f t else 0) (G:=fun _=>0) fun z _=>yh (by simp),J1Q] at this;unfold ins;omega
theorem group_sum (l:Lam n ws){f:Nat->Int}(h:∀ m,m<ws.length->ins n ws f F ws.length (some m)=F m):∀ k m,ws.length - m=k->m<ws.length->F m=Wg n ws f m:=by
 intro k
 induction k using Nat.strongRecOn with
 | ind k ih =>
   intro m hk hm;have h1:=h m hm;have h2:=Jal l f hm;unfold ins at h1 h2;have e:Ji (fun t=>if clo ws t (hdG ws t)=some m then F t else 0) ws.length=Ji (fun t=>if clo ws t (hdG ws t)=some m then Wg n ws f t else 0) ws.length:=by
    refine Jp fun t ht=>?_;by_cases c:clo ws t (hdG ws t)=some m
    ·have:=J4d c
     rw [yi c,yi c];exact ih (ws.length - t) (by omega) t rfl ht
    ·rw [yh c,yh c]
   omega
theorem J63 (l:Lam n ws){f:Nat->Int}(h:∀ m,m<ws.length->ins n ws f F ws.length (some m)=F m):ins n ws f F ws.length none=Ji f n:=by
 rw [<- Jak l f];unfold ins;congr 1;refine Jp fun t ht=>?_;by_cases c:clo ws t (hdG ws t)=none
 ·rw [yi c,yi c]
  exact group_sum l h _ t rfl ht
 ·rw [yh c,yh c]
theorem lam_cover {n:Nat}{ws:List (List Int)}(l:Lam n ws){o:Option Nat}{z:Int}:∀ {T t0:Nat},t0<=T->T<=ws.length->clo ws t0 z=o->clo ws T z=o\/∃ t,t<T/\clo ws t (hdG ws t)=o
 | 0,t0,h,_,e=>by
   obtain rfl:t0=0:=by omega
   exact .inl e
 | T + 1,t0,h,hT,e=>by
   by_cases c:t0=T+1
   ·subst c;exact .inl e
   ·rcases lam_cover l (T:=T) (t0:=t0) (by omega) (by omega) e with h1 | ⟨t,ht,h1⟩
    ·by_cases g:z∈ws.getD T []
     ·exact .inr ⟨T,by omega,by rw [Jbo l (by omega) g];exact h1⟩
     ·refine .inl ?_
      show (if z∈ws.getD T [] then some T else clo ws T z)=_;rw [yh g];exact h1
    ·exact .inr ⟨t,by omega,h1⟩
theorem Ju {sd sd':JJ}:plK sd i=plK sd' j↔sd=sd'/\i=j:=by
 constructor
 ·intro h
  unfold plK at h;injection h with h1 h
  injection h with _ h
  injection h with h _
  have:=J8F h;exact ⟨h1,by injection this⟩
 ·rintro ⟨rfl,rfl⟩;rfl
theorem Jo {sd sd':JJ}{o':Option Nat}:grK sd o=grK sd' o'↔sd=sd'/\o=o':=by
 constructor
 ·intro h
  unfold grK at h;injection h with h1 h
  injection h with _ h
  injection h with h _
  exact ⟨h1,J8F h⟩
 ·rintro ⟨rfl,rfl⟩;rfl
theorem J0i (F:Nat->Lk)(k:NPK):∀ n,exL ((List.range n).map F) k=Ji (fun i=>(if (F i).g=k then (F i).n else 0) - (if (F i).s=k then (F i).n else 0)) n
 | 0=>rfl
 | n+1=>by
   rw [range_succ,yP,JH,J0i F k n];show _+(_ - _+0)=_+(_ - _);rw [Int.add_zero]
theorem J2M:∀ (ls:List Lk) (k:NPK),exL (ls.map J0H) k=-exL ls k
 | [],_=>rfl
 | L::ls,k=>by
   show (if L.s=k then L.n else 0) - (if L.g=k then L.n else 0)+exL (ls.map J0H) k=-((if L.g=k then L.n else 0) - (if L.s=k then L.n else 0)+exL ls k);rw [J2M ls k];omega
theorem J1X {k:NPK}:∀ {ls:List Lk},(∀ L∈ls,L.s≠k/\L.g≠k)->exL ls k=0
 | [],_=>rfl
 | L::ls,h=>by
   show (if L.g=k then L.n else 0) - (if L.s=k then L.n else 0)+exL ls k=0;obtain ⟨h1,h2⟩:=h L yK;rw [yh h2,yh h1,J1X fun M hM=>h M (yJ _ hM)];omega
theorem J3o (f:Nat->Int):∀ n,sm ((List.range n).map f)=Ji f n
 | 0=>rfl
 | n+1=>by
   rw [range_succ,yP,J3Y,J3o f n];show Ji f n+(0+f n)=Ji f n+f n;omega
theorem J22 (zs:List Int):sm zs=Ji (fun i=>zs.getD i 0) zs.length:=by
 rw [<- J3o];congr 1;refine ext_getElem? fun i=>?_;rw [yN];by_cases h:i<zs.length
 ·rw [List.getElem?_range h,yA h]
  show some zs[i]=some (zs.getD i 0);rw [yF,yA h];rfl
 ·rw [List.getElem?_eq_none (by omega),List.getElem?_eq_none (by rw [yX];omega)];rfl
theorem sm_rise (f:Nat->Int)(h:r.Pairwise (·<·))(hb:∀ z∈r,0<=z/\z<(n:Int)):sm (r.map fun z=>f z.toNat)=Ji (fun z=>if (z:Int)∈r then f z else 0) n:=by
 have e:r=(upI n).filter fun z=>decide (z∈r):=rise_eq h ((JaB n).filter _) fun k=>by
  rw [mem_filter,J71,decide_eq_true_iff];exact ⟨fun z=>⟨hb k z,z⟩,fun z=>z.2⟩
 have key:∀ m,sm (((upI m).filter fun z=>decide (z∈r)).map fun z=>f z.toNat)=Ji (fun z=>if (z:Int)∈r then f z else 0) m:=by
  intro m
  induction m with
  | zero=>rfl
  | succ m ih =>
    rw [J7l,filter_append,yP,J3Y,ih];show _=Ji _ m+(if (m:Int)∈r then f m else 0);by_cases c:(m:Int)∈r
    ·rw [yi c,filter_cons,yi (ym c)]
     show _+(0+f (m:Int).toNat)=_;rw [Int.toNat_natCast];omega
    ·rw [yh c,filter_cons,yh fun h=>c (of_decide_eq_true h)]
     rfl
 rw [<- key n,<- e]
theorem J2u {sd:JJ}{L:Lk}(h:L∈upL sd gs sums):(∃ i,i<sums.length/\L=⟨plK sd i,grK sd (clo gs gs.length i),sums.getD i 0⟩)\/∃ i,i<gs.length/\L=⟨grK sd (some i),grK sd (clo gs i ((gs.getD i []).getD 0 0)),sm ((gs.getD i []).map fun z=>sums.getD z.toNat 0)⟩:=by
 rcases yQ.mp h with h | h
 ·obtain ⟨i,hi,rfl⟩:=yU.mp h
  exact .inl ⟨i,mem_range.mp hi,rfl⟩
 ·obtain ⟨i,hi,rfl⟩:=yU.mp h
  exact .inr ⟨i,mem_range.mp hi,rfl⟩
theorem J6F {sd:JJ}{L:Lk}(h:L∈upL sd gs sums):∃ o,L.g=grK sd o/\∀ m,o=some m->m<gs.length:=by
 rcases J2u h with ⟨i,hi,rfl⟩ | ⟨i,hi,rfl⟩
 ·exact ⟨_,rfl,fun m e=>J4d e⟩
 ·exact ⟨_,rfl,fun m e=>by have:=J4d e;omega⟩
theorem J4P {sd:JJ}{L:Lk}(h:L∈upL sd gs sums):(∃ i,i<sums.length/\L.s=plK sd i)\/∃ m,m<gs.length/\L.s=grK sd (some m):=by
 rcases J2u h with ⟨i,hi,rfl⟩ | ⟨i,hi,rfl⟩
 ·exact .inl ⟨i,hi,rfl⟩
 ·exact .inr ⟨i,hi,rfl⟩
theorem J0K {L:Lk}:L∈J20 g wr wc R C↔(L∈J1l g C R\/L∈J1k g wr C\/L∈(upL JV wc (J0P g C)).map J0H\/L∈upL J0g wr (g.map sm)\/L=⟨grK J0g none,grK JV none,sm (g.map sm)⟩):=by
 unfold J20;simp only [yQ,yD,or_assoc]
theorem J3D {L:Lk}:L∈J1l g C R↔∃ i,i<R/\∃ c,c<C/\L=⟨plK (J0e c) i,plK J0g i,(g.getD i []).getD c 0⟩:=by
 unfold J1l J2j;simp only [mem_flatMap,mem_range,yU];constructor
 ·rintro ⟨i,hi,c,hc,rfl⟩;exact ⟨i,hi,c,hc,rfl⟩
 ·rintro ⟨i,hi,c,hc,rfl⟩;exact ⟨i,hi,c,hc,rfl⟩
theorem J2d {L:Lk}:L∈J1k g gs C↔∃ c,c<C/\(L=⟨plK JV c,grK (J0e c) none,sm (Js g c)⟩\/∃ M∈upL (J0e c) gs (Js g c),L=J0H M):=by
 unfold J1k J4C;simp only [mem_flatMap,mem_range,yQ,yD,yU];constructor
 ·rintro ⟨c,hc,h | ⟨M,hM,rfl⟩⟩
  ·exact ⟨c,hc,.inl h⟩
  ·exact ⟨c,hc,.inr ⟨M,hM,rfl⟩⟩
 ·rintro ⟨c,hc,h | ⟨M,hM,rfl⟩⟩
  ·exact ⟨c,hc,.inl h⟩
  ·exact ⟨c,hc,.inr ⟨M,hM,rfl⟩⟩
theorem J7o (n:Nat):Ji (fun v=>F v - G v) n=Ji F n - Ji G n:=J2v n
theorem Jec (l:Lam sums.length ws)(ht:t<ws.length):sm ((ws.getD t []).map fun z=>sums.getD z.toNat 0)=Wg sums.length ws (fun z=>sums.getD z 0) t:=by
 obtain ⟨_,h1,h2⟩:=l.ok t ht;rw [sm_rise (n:=sums.length) (fun z=>sums.getD z 0) h1 h2];unfold Wg sP inG;exact Jp fun z _=>by
  by_cases c:(z:Int)∈ws.getD t []
  ·rw [yi c]
  ·rw [yh c]
theorem J4R {sd:JJ}(l:Lam sums.length ws)(o:Option Nat):exL (upL sd ws sums) (grK sd o)=if o=none then sm sums else 0:=by
 unfold upL upP upG;rw [JH,J0i,J0i];have e1:Ji (fun i=>(if (⟨plK sd i,grK sd (clo ws ws.length i),sums.getD i 0⟩:Lk).g=grK sd o then (⟨plK sd i,grK sd (clo ws ws.length i),sums.getD i 0⟩:Lk).n else 0) - (if (⟨plK sd i,grK sd (clo ws ws.length i),sums.getD i 0⟩:Lk).s=grK sd o then (⟨plK sd i,grK sd (clo ws ws.length i),sums.getD i 0⟩:Lk).n else 0)) sums.length=Ao sums.length ws (fun z=>sums.getD z 0) ws.length o:=by
  unfold Ao sP;refine Jp fun i _=>?_;dsimp only;rw [yh Jk,Int.sub_zero];by_cases c:clo ws ws.length (i:Int)=o
  ·rw [yi (Jo.mpr ⟨rfl,c⟩),yi c]
  ·rw [yh fun h=>c (Jo.mp h).2,yh c]
 have e2:Ji (fun i=>(if (⟨grK sd (some i),grK sd (clo ws i ((ws.getD i []).getD 0 0)),sm ((ws.getD i []).map fun z=>sums.getD z.toNat 0)⟩:Lk).g=grK sd o then (⟨grK sd (some i),grK sd (clo ws i ((ws.getD i []).getD 0 0)),sm ((ws.getD i []).map fun z=>sums.getD z.toNat 0)⟩:Lk).n else 0) - (if (⟨grK sd (some i),grK sd (clo ws i ((ws.getD i []).getD 0 0)),sm ((ws.getD i []).map fun z=>sums.getD z.toNat 0)⟩:Lk).s=grK sd o then (⟨grK sd (some i),grK sd (clo ws i ((ws.getD i []).getD 0 0)),sm ((ws.getD i []).map fun z=>sums.getD z.toNat 0)⟩:Lk).n else 0)) ws.length
  = Ji (fun t=>if clo ws t (hdG ws t)=o then Wg sums.length ws (fun z=>sums.getD z 0) t else 0) ws.length - Ji (fun t=>if some t=o then Wg sums.length ws (fun z=>sums.getD z 0) t else 0) ws.length:=by
  rw [<- J7o];refine Jp fun t ht=>?_;dsimp only;rw [Jec l ht];congr 1
  ·show (if grK sd (clo ws t (hdG ws t))=grK sd o then _ else _)=_
   by_cases c:clo ws t (hdG ws t)=o
   ·rw [yi (Jo.mpr ⟨rfl,c⟩),yi c]
   ·rw [yh fun h=>c (Jo.mp h).2,yh c]
  ·by_cases c:some t=o
   ·rw [yi (Jo.mpr ⟨rfl,c⟩),yi c]
   ·rw [yh fun h=>c (Jo.mp h).2,yh c]
 rw [e1,e2,J22 sums];have:=J3k l (fun z=>sums.getD z 0) o ws.length (yj _);omega
theorem up_ex_pl {sd:JJ}(hi:i<sums.length):exL (upL sd ws sums) (plK sd i)=-sums.getD i 0:=by
 unfold upL;rw [JH,J1X (ls:=upG sd ws sums ws.length)]
 ·unfold upP
  rw [J0i];have e1:Ji (fun j=>(if (⟨plK sd j,grK sd (clo ws ws.length j),sums.getD j 0⟩:Lk).g=plK sd i then (⟨plK sd j,grK sd (clo ws ws.length j),sums.getD j 0⟩:Lk).n else 0) - (if (⟨plK sd j,grK sd (clo ws ws.length j),sums.getD j 0⟩:Lk).s=plK sd i then (⟨plK sd j,grK sd (clo ws ws.length j),sums.getD j 0⟩:Lk).n else 0)) sums.length=Ji (fun j=>-(if j=i then sums.getD i 0 else 0)) sums.length:=by
   refine Jp fun j _=>?_;dsimp only;rw [yh fun h=>Jk h.symm];by_cases c:j=i
   ·subst c
    rw [yi rfl,yi rfl];omega
   ·rw [yh fun h=>c (Ju.mp h).2,yh c];omega
  rw [e1,JZ (a:=i) sums.length hi fun v _ hv=>by rw [yh hv];rfl,yi rfl];omega
 ·intro L hL
  obtain ⟨t,_,rfl⟩:=yU.mp hL;exact ⟨fun h=>Jk h.symm,fun h=>Jk h.symm⟩
theorem J0t {sd:JJ}{k:NPK}(h1:∀ i,k≠plK sd i)(h2:∀ o,k≠grK sd o):exL (upL sd ws sums) k=0 :=
 J1X fun L hL=>by
  rcases J2u hL with ⟨i,_,rfl⟩ | ⟨i,_,rfl⟩
  ·exact ⟨fun e=>h1 i e.symm,fun e=>h2 _ e.symm⟩
  ·exact ⟨fun e=>h2 _ e.symm,fun e=>h2 _ e.symm⟩
theorem J0y (F:Nat->List Lk)(k:NPK):∀ n,exL ((List.range n).flatMap F) k=Ji (fun i=>exL (F i) k) n
 | 0=>rfl
 | n+1=>by
   rw [range_succ,flatMap_append,JH,J0y F k n];simp only [flatMap_cons,flatMap_nil,append_nil];rfl
theorem J0S {d:Nat}(h:J0e c=J0e d):c=d:=by
 unfold J0e at h;injection h with h
 injection h with _ h
 injection h with h _
 injection h with h
 injection h with h
 omega
theorem Jy :J0e c≠J0g:=fun h=>by cases h
theorem Jz :J0e c≠JV:=fun h=>by cases h
theorem JI:J0g≠JV:=by decide
theorem J3P (r:List Int)(i m:Nat)(k:NPK):exL (J2j r i m) k=Ji (fun c=>(if plK J0g i=k then r.getD c 0 else 0) - (if plK (J0e c) i=k then r.getD c 0 else 0)) m:=by
 unfold J2j;rw [J0i]
theorem J8U (hi:i<R)(hc:c<C):exL (J1l g C R) (plK (J0e c) i)=-(g.getD i []).getD c 0:=by
 unfold J1l;rw [J0y,JZ (a:=i) R hi]
 ·rw [J3P,JZ (a:=c) C hc]
  ·rw [yh fun h=>Jy (Ju.mp h).1.symm,yi rfl];omega
  ·intro v _ hv
   rw [yh fun h=>Jy (Ju.mp h).1.symm,yh fun h=>hv (J0S (Ju.mp h).1)];rfl
 ·intro v _ hv
  rw [J3P];refine JQ C fun d _=>?_;rw [yh fun h=>Jy (Ju.mp h).1.symm,yh fun h=>hv (Ju.mp h).2];rfl
theorem J8T (hi:i<R):exL (J1l g C R) (plK J0g i)=Ji (fun c=>(g.getD i []).getD c 0) C:=by
 unfold J1l;rw [J0y,JZ (a:=i) R hi]
 ·rw [J3P]
  exact Jp fun c _=>by rw [yi rfl,yh fun h=>Jy (Ju.mp h).1];omega
 ·intro v _ hv
  rw [J3P];refine JQ C fun d _=>?_;rw [yh fun h=>hv (Ju.mp h).2,yh fun h=>Jy (Ju.mp h).1];rfl
theorem J30 {k:NPK}(h1:∀ i,k≠plK J0g i)(h2:∀ c i,k≠plK (J0e c) i):exL (J1l g C R) k=0:=by
 unfold J1l;rw [J0y];refine JQ R fun i _=>?_;rw [J3P];refine JQ C fun c _=>?_;rw [yh fun h=>h1 i h.symm,yh fun h=>h2 c i h.symm];rfl
theorem J2X (g gs:List (List Int))(c:Nat)(k:NPK):exL (J4C g gs c) k=((if grK (J0e c) none=k then sm (Js g c) else 0) - (if plK JV c=k then sm (Js g c) else 0)) - exL (upL (J0e c) gs (Js g c)) k:=by
 unfold J4C;rw [JH,J2M];show ((if grK (J0e c) none=k then sm (Js g c) else 0) - (if plK JV c=k then sm (Js g c) else 0)+0)+-exL (upL (J0e c) gs (Js g c)) k=_;generalize (if grK (J0e c) none=k then sm (Js g c) else 0)=a;generalize (if plK JV c=k then sm (Js g c) else 0)=b;generalize exL (upL (J0e c) gs (Js g c)) k=d;omega
theorem Jau (hl:g.length=R)(hi:i<R)(hc:c<C):exL (J1k g gs C) (plK (J0e c) i)=(g.getD i []).getD c 0:=by
 unfold J1k;have ec:∀ d,(Js g d).length=R:=fun d=>by unfold Js;rw [yC,hl]
 rw [J0y,JZ (a:=c) C hc]
 ·rw [J2X,yh fun h=>Jk h.symm,yh fun h=>Jz (Ju.mp h).1.symm,up_ex_pl (by rw [ec];exact hi)]
  have:(Js g c).getD i 0=(g.getD i []).getD c 0:=by
   have hg:i<g.length:=by omega
   unfold Js;rw [yF,yN,yA hg,yF (l:=g),yA hg];rfl
  omega
 ·intro d _ hd
  rw [J2X,yh fun h=>Jk h.symm,yh fun h=>Jz (Ju.mp h).1.symm,J0t (fun j h=>hd (J0S (Ju.mp h).1).symm) fun o h=>Jk h];rfl
theorem Jav (hl:g.length=R)(lam:Lam R gs)(hc:c<C)(o:Option Nat):exL (J1k g gs C) (grK (J0e c) o)=0:=by
 unfold J1k;have ec:∀ d,(Js g d).length=R:=fun d=>by unfold Js;rw [yC,hl]
 rw [J0y];refine JQ C fun d _=>?_;rw [J2X,yh Jk];by_cases c1:d=c
 ·subst c1
  rw [J4R (by rw [ec];exact lam)];by_cases c2:o=none
  ·subst c2
   rw [yi rfl,yi rfl];omega
  ·rw [yh fun h=>c2 (Jo.mp h).2.symm,yh c2];rfl
 ·rw [yh fun h=>c1 (J0S (Jo.mp h).1),J0t (fun j h=>Jk h.symm) fun o' h=>c1 (J0S (Jo.mp h).1).symm];rfl
theorem J88 (hc:c<C):exL (J1k g gs C) (plK JV c)=-sm (Js g c):=by
 unfold J1k;rw [J0y,JZ (a:=c) C hc]
 ·rw [J2X,yh fun h=>Jk h.symm,yi rfl,J0t (fun j h=>Jz (Ju.mp h).1.symm) fun o h=>Jk h];omega
 ·intro d _ hd
  rw [J2X,yh fun h=>Jk h.symm,yh fun h=>hd (Ju.mp h).2,J0t (fun j h=>Jz (Ju.mp h).1.symm) fun o h=>Jk h];rfl
theorem J4c {k:NPK}(h1:∀ c,k≠plK JV c)(h2:∀ c i,k≠plK (J0e c) i)(h3:∀ c o,k≠grK (J0e c) o):exL (J1k g gs C) k=0:=by
 unfold J1k;rw [J0y];refine JQ C fun d _=>?_;rw [J2X,yh fun h=>h3 d none h.symm,yh fun h=>h1 d h.symm,J0t (fun j=>h2 d j) fun o=>h3 d o];rfl
theorem J3X (F:Nat->Nat->Int)(n:Nat):∀ m,Ji (fun i=>Ji (fun j=>F i j) n) m=Ji (fun j=>Ji (fun i=>F i j) m) n
 | 0=>(JQ n fun _ _=>rfl).symm
 | m+1=>by
   show Ji (fun i=>Ji (fun j=>F i j) n) m+Ji (fun j=>F m j) n=Ji (fun j=>Ji (fun i=>F i j) m+F m j) n;rw [J3X F n m,J3n]
theorem J1t (h:i<g.length):g.getD i []=g[i]:=by rw [yF,yA h];rfl
theorem J5N (h:i<g.length):(Js g c).getD i 0=(g.getD i []).getD c 0:=by
 unfold Js;rw [yF,yN,yA h,J1t h];rfl
theorem J2A (hl:g.length=R)(hc:∀ r∈g,r.length=C):sm (g.map sm)=Ji (fun i=>Ji (fun c=>(g.getD i []).getD c 0) C) R:=by
 rw [J22,yC,hl];refine Jp fun i hi=>?_;have h:i<g.length:=by omega
 rw [yF,yN,yA h,J1t h];show sm g[i]=_;rw [J22,hc _ (getElem_mem h)]
theorem J9J (hl:g.length=R)(hcC:c<C):(J0P g C).getD c 0=sm (Js g c):=by
 unfold J0P;rw [yF,yN,List.getElem?_range hcC];rfl
theorem JbW (hl:g.length=R)(hc:∀ r∈g,r.length=C):sm (J0P g C)=sm (g.map sm):=by
 rw [J2A hl hc,J3X];unfold J0P;rw [J3o];refine Jp fun c _=>?_;rw [J22,show (Js g c).length=R by unfold Js;rw [yC,hl]];exact Jp fun i hi=>J5N (by omega)
theorem Jc0 (ok:GOk g R C)(l1:Lam R wr)(l2:Lam C wc){L:Lk}(hL:L∈J20 g wr wc R C):exL (J20 g wr wc R C) L.s=0:=by
 have hl:=ok.rows;have lg:(g.map sm).length=R:=by rw [yC,hl]
 have lc:(J0P g C).length=C:=by unfold J0P;rw [yC,yX]
 have L1:Lam (g.map sm).length wr:=by rw [lg];exact l1
 have L2':Lam (J0P g C).length wc:=by rw [lc];exact l2
 have ex:∀ k,exL (J20 g wr wc R C) k=exL (J1l g C R) k+exL (J1k g wr C) k+-exL (upL JV wc (J0P g C)) k+exL (upL J0g wr (g.map sm)) k+((if grK JV none=k then sm (g.map sm) else 0) - (if grK J0g none=k then sm (g.map sm) else 0)):=fun k=>by
  unfold J20;rw [JH,JH,JH,JH,J2M];show _+(_ - _+0)=_;rw [Int.add_zero]
 have pcol:∀ i c,i<R->c<C->exL (J20 g wr wc R C) (plK (J0e c) i)=0:=fun i c hi hc=>by
  rw [ex,J8U hi hc,Jau hl hi hc,J0t (fun j h=>Jz (Ju.mp h).1) (fun o h=>Jk h),J0t (fun j h=>Jy (Ju.mp h).1) (fun o h=>Jk h),yh fun h=>Jk h.symm,yh fun h=>Jk h.symm];omega
 have pcols:∀ c,c<C->exL (J20 g wr wc R C) (plK JV c)=0:=fun c hc=>by
  rw [ex,J30 (fun i h=>JI (Ju.mp h).1.symm) (fun d i h=>Jz (Ju.mp h).1.symm),J88 hc,up_ex_pl (by rw [lc];exact hc),J9J hl hc,J0t (fun j h=>JI (Ju.mp h).1.symm) (fun o h=>Jk h),yh fun h=>Jk h.symm,yh fun h=>Jk h.symm];omega
 have prow:∀ i,i<R->exL (J20 g wr wc R C) (plK J0g i)=0:=fun i hi=>by
  have h:i<g.length:=by omega
  rw [ex,J8T hi,J4c (fun c h=>JI (Ju.mp h).1) (fun c j h=>Jy (Ju.mp h).1.symm) (fun c o h=>Jk h),J0t (fun j h=>JI (Ju.mp h).1) (fun o h=>Jk h),up_ex_pl (by rw [lg];exact hi),yh fun h=>Jk h.symm,yh fun h=>Jk h.symm];have e:(g.map sm).getD i 0=Ji (fun c=>(g.getD i []).getD c 0) C:=by
   rw [yF,yN,yA h,J1t h];show sm g[i]=_;rw [J22,ok.cols _ (getElem_mem h)]
  omega
 have gcol:∀ c o,c<C->exL (J20 g wr wc R C) (grK (J0e c) o)=0:=fun c o hc=>by
  rw [ex,J30 (fun i h=>Jk h.symm) (fun d i h=>Jk h.symm),Jav hl l1 hc,J0t (fun j h=>Jk h.symm) (fun o' h=>Jz (Jo.mp h).1),J0t (fun j h=>Jk h.symm) (fun o' h=>Jy (Jo.mp h).1),yh fun h=>Jz (Jo.mp h).1.symm,yh fun h=>Jy (Jo.mp h).1.symm];omega
 have gcols:∀ o,exL (J20 g wr wc R C) (grK JV o)=0:=fun o=>by
  rw [ex,J30 (fun i h=>Jk h.symm) (fun d i h=>Jk h.symm),J4c (fun c h=>Jk h.symm) (fun c j h=>Jk h.symm) (fun c o' h=>Jz (Jo.mp h).1.symm),J4R L2',J0t (fun j h=>Jk h.symm) (fun o' h=>JI (Jo.mp h).1.symm),yh fun h=>JI (Jo.mp h).1,JbW hl ok.cols];by_cases c:o=none
  ·subst c
   rw [yi rfl,yi rfl];omega
  ·rw [yh c,yh fun h=>c (Jo.mp h).2.symm];omega
 have grow:∀ o,exL (J20 g wr wc R C) (grK J0g o)=0:=fun o=>by
  rw [ex,J30 (fun i h=>Jk h.symm) (fun d i h=>Jk h.symm),J4c (fun c h=>Jk h.symm) (fun c j h=>Jk h.symm) (fun c o' h=>Jy (Jo.mp h).1.symm),J0t (fun j h=>Jk h.symm) (fun o' h=>JI (Jo.mp h).1),J4R L1,yh fun h=>JI (Jo.mp h).1.symm];by_cases c:o=none
  ·subst c
   rw [yi rfl,yi rfl];omega
  ·rw [yh c,yh fun h=>c (Jo.mp h).2.symm];omega
 rcases J0K.mp hL with h | h | h | h | h
 ·obtain ⟨i,hi,c,hc,rfl⟩:=J3D.mp h
  exact pcol i c hi hc
 ·obtain ⟨c,hc,h⟩:=J2d.mp h
  rcases h with rfl | ⟨M,hM,rfl⟩
  ·exact pcols c hc
  ·obtain ⟨o,e,_⟩:=J6F hM
   show exL _ M.g=0;rw [e];exact gcol c o hc
 ·obtain ⟨M,hM,rfl⟩:=yU.mp h
  obtain ⟨o,e,_⟩:=J6F hM;show exL _ M.g=0;rw [e];exact gcols o
 ·rcases J4P h with ⟨i,hi,e⟩ | ⟨m,_,e⟩
  ·rw [lg] at hi
   rw [e];exact prow i hi
  ·rw [e]
   exact grow _
 ·subst h
  exact grow none
theorem JaW (hx:x.Pairwise (·<·))(hy:y.Pairwise (·<·))(h:∀ z∈y,z∈x):J12 x y=y :=
 rise_eq (hx.filter _) hy fun k=>by
  unfold J12;rw [mem_filter,decide_eq_true_iff];exact ⟨fun z=>z.2,fun z=>⟨h k z,z⟩⟩
theorem Jb9 {α:Type}{R:α->α->Prop}:∀ {l:List α} {x y:α},l.Pairwise R->x∈l->y∈l->x≠y->R x y\/R y x
 | [],_,_,_,h,_,_=>nomatch h
 | a :: l,x,y,hp,hx,hy,hn=>by
   obtain ⟨h1,h2⟩:=pairwise_cons.mp hp;rcases yL.mp hx with ex | hx2
   ·rcases yL.mp hy with ey | hy2
    ·exact absurd (ex.trans ey.symm) hn
    ·exact .inl (ex ▸ h1 y hy2)
   ·rcases yL.mp hy with ey | hy2
    ·exact .inr (ey ▸ h1 x hx2)
    ·exact Jb9 h2 hx2 hy2 hn
theorem J9l {sd:JJ}(h:i<sums.length):(⟨plK sd i,grK sd (clo gs gs.length i),sums.getD i 0⟩:Lk)∈upL sd gs sums :=
 yS _ (yU.mpr ⟨i,mem_range.mpr h,rfl⟩)
theorem J9m {sd:JJ}(h:i<gs.length):(⟨grK sd (some i),grK sd (clo gs i ((gs.getD i []).getD 0 0)),sm ((gs.getD i []).map fun z=>sums.getD z.toNat 0)⟩:Lk)∈upL sd gs sums :=
 yR _ (yU.mpr ⟨i,mem_range.mpr h,rfl⟩)
theorem JaA {sd:JJ}{L:Lk}(h:L∈upL sd gs sums):L.s≠L.g:=by
 rcases J2u h with ⟨i,hi,rfl⟩ | ⟨i,hi,rfl⟩
 ·exact Jk
 ·intro e
  unfold grK at e;injection e with _ e
  injection e with _ e
  injection e with e _
  have:=J4d (J8F e).symm;omega
theorem JaV {b:Int}(hb:0<=b):∀ {zs:List Int},(∀ z∈zs,z<=b)->sm zs<=zs.length * b
 | [],_=>by simp [sm]
 | z::zs,h=>by
   rw [J23];have h1:=h z yK;have h2:=JaV hb (zs:=zs) fun y hy=>h y (yJ _ hy);rw [length_cons,show ((zs.length+1:Nat):Int) * b=zs.length * b+b by rw [show ((zs.length+1:Nat):Int)=(zs.length:Int)+1 by omega,Int.add_mul,Int.one_mul]];omega
theorem J6a {b:Int}(hb:0<=b)(hn:zs.length<=n)(h:∀ z∈zs,z<=b):sm zs<=n * b :=
 Int.le_trans (JaV hb h) (Int.mul_le_mul_of_nonneg_right (by omega) hb)
theorem J2L {b:Int}(hb:0<=b)(h:∀ z∈zs,0<=z/\z<=b)(i:Nat):0<=zs.getD i 0/\zs.getD i 0<=b:=by
 rw [yF];cases c:zs[i]? with
 | none=>exact ⟨by simp,hb⟩
 | some z=>exact h z (yG c)
theorem J6p {a b:List Int}(ha:a.Pairwise (·<·))(hb:b.Pairwise (·<·))(h:∀ z∈a,z∈b)(hl:b.length<=a.length):a=b:=by
 have e:=JaW hb ha h;have e2:J12 b a=b:=by
  refine List.Sublist.eq_of_length_le filter_sublist ?_;show b.length<=(J12 b a).length;rw [e];exact hl
 exact e.symm.trans e2
theorem Jbg (hx:x.Pairwise (·<·))(hy:y.Pairwise (·<·))(zx:z∈x)(zy:z∈y)(h:J3h x y):(∀ w∈x,w∈y)\/∀ w∈y,w∈x:=by
 have ms:∀ w,w∈J12 x y↔w∈x/\w∈y:=fun w=>by unfold J12;rw [mem_filter,decide_eq_true_iff]
 rcases h with h | h | h
 ·have:=(ms z).mpr ⟨zx,zy⟩
  rw [h] at this;cases this
 ·left
  have e:J12 x y=x:=List.Sublist.eq_of_length_le filter_sublist h;intro w hw;rw [<- e] at hw;exact ((ms w).mp hw).2
 ·right
  have e:=J6p (hx.filter _) hy (fun w hw=>((ms w).mp hw).2) h;intro w hw;rw [<- e] at hw;exact ((ms w).mp hw).1
theorem J75 (h:J3i n gs)(w:J38 gs ws):Lam n ws:=by
 have gd:∀ i (hi:i<ws.length),ws.getD i []=ws[i]:=fun i hi=>by rw [yF,yA hi];rfl
 have gm:∀ i (hi:i<ws.length),ws[i]∈gs:=fun i hi=>w.1.mem_iff.mp (getElem_mem hi);refine ⟨fun i hi=>by rw [gd i hi];exact h.2.1 _ (gm i hi),fun i j hij hj z zi zj y hy=>?_⟩;have hi:i<ws.length:=by omega
 rw [gd i hi] at zi ⊢;rw [gd j hj] at zj hy;have oi:=(h.2.1 _ (gm i hi)).2.1;have oj:=(h.2.1 _ (gm j hj)).2.1;by_cases c:ws[i]=ws[j]
 ·rw [c];exact hy
 ·have hs:(∀ w∈ws[i],w∈ws[j])\/∀ w∈ws[j],w∈ws[i]:=by
   rcases Jb9 h.2.2 (gm i hi) (gm j hj) c with p | p
   ·exact (Jbg oj oi zj zi p).symm
   ·exact Jbg oi oj zi zj p
  rcases hs with hs | hs
  ·have hl:=pairwise_iff_getElem.mp w.2 i j hi hj hij
   exact absurd (J6p oi oj hs hl) c
  ·exact hs y hy
theorem J74 {sd:JJ}(l:Lam sums.length ws)(h1:1<=sums.length)(o:Option Nat)(ho:∀ m,o=some m->m<ws.length):∃ L∈upL sd ws sums,L.g=grK sd o:=by
 have fin:∀ z:Nat,z<sums.length->∀ t0,t0<=ws.length->clo ws t0 (z:Int)=o->∃ L∈upL sd ws sums,L.g=grK sd o:=fun z hz t0 ht e=>by
  rcases lam_cover l (T:=ws.length) ht (yj _) e with h | ⟨t,htl,h⟩
  ·exact ⟨_,J9l hz,by show grK sd (clo ws ws.length (z:Int))=_;rw [h]⟩
  ·exact ⟨_,J9m htl,by show grK sd (clo ws t (hdG ws t))=_;rw [h]⟩
 cases o with
 | none=>exact fin 0 (by omega) 0 (yw _) rfl
 | some m =>
   have hm:=ho m rfl;obtain ⟨g1,g2,g3⟩:=J9w (l.ok m hm);obtain ⟨z,hz⟩:∃ z:Nat,(ws.getD m []).getD 0 0=(z:Int):=⟨((ws.getD m []).getD 0 0).toNat,by omega⟩;exact fin z (by omega) (m+1) hm (by rw [<- hz];exact JbY g1)
theorem up_nn' {sd:JJ}{b:Int}(hb:0<=b)(l:Lam sums.length ws)(h8:sums.length<=8)(hs:∀ z∈sums,0<=z/\z<=b){L:Lk}(h:L∈upL sd ws sums):0<=L.n/\L.n<=8 * b:=by
 rcases J2u h with ⟨i,hi,rfl⟩ | ⟨i,hi,rfl⟩
 ·have:=J2L hb hs i
  exact ⟨this.1,by show sums.getD i 0<=8 * b;omega⟩
 ·have gl:=J2K (l.ok i hi)
  refine ⟨J0h fun z hz=>?_,?_⟩
  ·obtain ⟨y,_,rfl⟩:=yU.mp hz
   exact (J2L hb hs _).1
  ·exact J6a (b:=b) (n:=8) hb (zs:=(ws.getD i []).map fun z=>sums.getD z.toNat 0) (by rw [yC];omega) fun z hz=>by
    obtain ⟨y,_,rfl⟩:=yU.mp hz;exact (J2L hb hs _).2
theorem lam_links {b:Int}(ok:GOk g R C)(hR1:1<=R)(hR:R<=8)(hC1:1<=C)(hC:C<=8)(hb0:0<=b)(hb:∀ r∈g,∀ x∈r,x<=b)(hB:64 * b<BB)(l1:Lam R wr)(l2:Lam C wc)(w1:wr.length<=8)(w2:wc.length<=8):LksOk (J20 g wr wc R C):=by
 have hrl:=ok.rows;have lg:(g.map sm).length=R:=by rw [yC,hrl]
 have lc:(J0P g C).length=C:=by unfold J0P;rw [yC,yX]
 have lo:∀ c,(Js g c).length=R:=fun c=>by unfold Js;rw [yC,hrl]
 have D1:Lam (g.map sm).length wr:=by rw [lg];exact l1
 have D2:Lam (J0P g C).length wc:=by rw [lc];exact l2
 have D3:∀ c,Lam (Js g c).length wr:=fun c=>by rw [lo];exact l1
 have rb:∀ z∈g.map sm,0<=z/\z<=8 * b:=fun z hz=>by
  obtain ⟨r,hr,rfl⟩:=yU.mp hz;exact ⟨J0h (ok.pos r hr),J6a (n:=8) (b:=b) hb0 (by rw [ok.cols r hr];exact hC) (hb r hr)⟩
 have cb:∀ c,∀ z∈Js g c,0<=z/\z<=b:=fun c z hz=>by
  obtain ⟨r,hr,rfl⟩:=yU.mp hz;exact J2L hb0 (fun x hx=>⟨ok.pos r hr x hx,hb r hr x hx⟩) c
 have sb:∀ c,0<=sm (Js g c)/\sm (Js g c)<=8 * b:=fun c=>⟨J0h fun y hy=>(cb c y hy).1,J6a (n:=8) (b:=b) hb0 (by rw [lo];exact hR) fun y hy=>(cb c y hy).2⟩;have csb:∀ z∈J0P g C,0<=z/\z<=8 * b:=fun z hz=>by
  obtain ⟨c,hc,rfl⟩:=yU.mp hz;exact sb c
 refine ⟨fun L hL=>?_,fun L hL=>?_,fun L hL=>?_,?_,?_⟩
 ·rcases J0K.mp hL with h | h | h | h | h
  ·obtain ⟨i,hi,c,hc,rfl⟩:=J3D.mp h
   exact ⟨_,J0K.mpr (.inr (.inr (.inr (.inl (J9l (i:=i) (by omega)))))),rfl⟩
  ·obtain ⟨c,hc,h⟩:=J2d.mp h
   rcases h with rfl | ⟨M,hM,rfl⟩
   ·obtain ⟨M,hM,e⟩:=J74 (sd:=J0e c) (D3 c) (by rw [lo];exact hR1) none (fun m z=>by cases z)
    exact ⟨J0H M,J0K.mpr (.inr (.inl (J2d.mpr ⟨c,hc,.inr ⟨M,hM,rfl⟩⟩))),e⟩
   ·rcases J4P hM with ⟨i,hi,e⟩ | ⟨m,hm,e⟩
    ·rw [lo] at hi
     exact ⟨_,J0K.mpr (.inl (J3D.mpr ⟨i,hi,c,hc,rfl⟩)),e.symm⟩
    ·obtain ⟨M',hM',e'⟩:=J74 (sd:=J0e c) (D3 c) (by rw [lo];exact hR1) (some m) (fun m' z=>by cases z;exact hm)
     exact ⟨J0H M',J0K.mpr (.inr (.inl (J2d.mpr ⟨c,hc,.inr ⟨M',hM',rfl⟩⟩))),e'.trans e.symm⟩
  ·obtain ⟨M,hM,rfl⟩:=yU.mp h
   rcases J4P hM with ⟨i,hi,e⟩ | ⟨m,hm,e⟩
   ·rw [lc] at hi
    exact ⟨_,J0K.mpr (.inr (.inl (J2d.mpr ⟨i,hi,.inl rfl⟩))),e.symm⟩
   ·obtain ⟨M',hM',e'⟩:=J74 (sd:=JV) D2 (by rw [lc];exact hC1) (some m) (fun m' z=>by cases z;exact hm)
    exact ⟨J0H M',J0K.mpr (.inr (.inr (.inl (yU.mpr ⟨M',hM',rfl⟩)))),e'.trans e.symm⟩
  ·obtain ⟨o,e,ho⟩:=J6F h
   cases o with
   | none=>exact ⟨_,J0K.mpr (.inr (.inr (.inr (.inr rfl)))),e.symm⟩
   | some m=>exact ⟨_,J0K.mpr (.inr (.inr (.inr (.inl (J9m (ho m rfl)))))),e.symm⟩
  ·subst h
   obtain ⟨M',hM',e'⟩:=J74 (sd:=JV) D2 (by rw [lc];exact hC1) none (fun m' z=>by cases z);exact ⟨J0H M',J0K.mpr (.inr (.inr (.inl (yU.mpr ⟨M',hM',rfl⟩)))),e'⟩
 ·rcases J0K.mp hL with h | h | h | h | h
  ·obtain ⟨i,hi,c,hc,rfl⟩:=J3D.mp h
   exact fun e=>Jy (Ju.mp e).1
  ·obtain ⟨c,hc,h⟩:=J2d.mp h
   rcases h with rfl | ⟨M,hM,rfl⟩
   ·exact Jk
   ·exact fun e=>JaA hM e.symm
  ·obtain ⟨M,hM,rfl⟩:=yU.mp h
   exact fun e=>JaA hM e.symm
  ·exact JaA h
  ·subst h
   exact fun e=>JI (Jo.mp e).1
 ·rcases J0K.mp hL with h | h | h | h | h
  ·obtain ⟨i,hi,c,hc,rfl⟩:=J3D.mp h
   have:∀ x∈g.getD i [],0<=x/\x<=b:=fun x hx=>by
    rw [J1t (by omega)] at hx;exact ⟨ok.pos _ (getElem_mem _) x hx,hb _ (getElem_mem _) x hx⟩
   have:=J2L hb0 this c;exact ⟨this.1,by show (g.getD i []).getD c 0<BB;omega⟩
  ·obtain ⟨c,hc,h⟩:=J2d.mp h
   rcases h with rfl | ⟨M,hM,rfl⟩
   ·have:=sb c
    exact ⟨this.1,by show sm (Js g c)<BB;omega⟩
   ·have:=up_nn' hb0 (D3 c) (by rw [lo];exact hR) (cb c) hM
    exact ⟨this.1,by show M.n<BB;omega⟩
  ·obtain ⟨M,hM,rfl⟩:=yU.mp h
   have:=up_nn' (b:=8 * b) (by omega) D2 (by rw [lc];exact hC) csb hM;exact ⟨this.1,by show M.n<BB;omega⟩
  ·have:=up_nn' (b:=8 * b) (by omega) D1 (by rw [lg];exact hR) rb h
   exact ⟨this.1,by omega⟩
  ·subst h
   have:=J6a (n:=8) (b:=8 * b) (by omega) (zs:=g.map sm) (by rw [lg];exact hR) fun z hz=>(rb z hz).2;exact ⟨J0h fun z hz=>(rb z hz).1,by show sm (g.map sm)<BB;omega⟩
 ·unfold J20
  rw [yH,yH,yH,yH,yC,J1j,J1j,lc,lg,J2Z,J3M,hrl,length_singleton];have e1:R * C<=8 * 8:=Nat.mul_le_mul hR hC;have e2:C * (1+(R+wr.length))<=8 * 17:=Nat.mul_le_mul hC (by omega);omega
 ·unfold J20
  simp
def upX (sd:JJ)(ws:List (List Int))(n:Nat)(f F:Nat->Int):List Lk:=((List.range n).map fun (i:Nat)=>(⟨plK sd i,grK sd (clo ws ws.length (i:Int)),f i⟩:Lk))++(List.range ws.length).map fun t=>(⟨grK sd (some t),grK sd (clo ws t (hdG ws t)),F t⟩:Lk)
theorem JaC {sd:JJ}{f:Nat->Int}(o:Option Nat):exL (upX sd ws n f F) (grK sd o)=ins n ws f F ws.length o - Ji (fun t=>if some t=o then F t else 0) ws.length:=by
 unfold upX;rw [JH,J0i,J0i];have e1:Ji (fun i=>(if (⟨plK sd i,grK sd (clo ws ws.length (i:Int)),f i⟩:Lk).g=grK sd o then (⟨plK sd i,grK sd (clo ws ws.length (i:Int)),f i⟩:Lk).n else 0) - (if (⟨plK sd i,grK sd (clo ws ws.length (i:Int)),f i⟩:Lk).s=grK sd o then (⟨plK sd i,grK sd (clo ws ws.length (i:Int)),f i⟩:Lk).n else 0)) n=Ao n ws f ws.length o:=by
  unfold Ao sP;refine Jp fun i _=>?_;dsimp only;rw [yh Jk,Int.sub_zero];by_cases c:clo ws ws.length (i:Int)=o
  ·rw [yi (Jo.mpr ⟨rfl,c⟩),yi c]
  ·rw [yh fun h=>c (Jo.mp h).2,yh c]
 have e2:Ji (fun t=>(if (⟨grK sd (some t),grK sd (clo ws t (hdG ws t)),F t⟩:Lk).g=grK sd o then (⟨grK sd (some t),grK sd (clo ws t (hdG ws t)),F t⟩:Lk).n else 0) - (if (⟨grK sd (some t),grK sd (clo ws t (hdG ws t)),F t⟩:Lk).s=grK sd o then (⟨grK sd (some t),grK sd (clo ws t (hdG ws t)),F t⟩:Lk).n else 0)) ws.length
  = Ji (fun t=>if clo ws t (hdG ws t)=o then F t else 0) ws.length - Ji (fun t=>if some t=o then F t else 0) ws.length:=by
  rw [<- J7o];refine Jp fun t _=>?_;dsimp only;congr 1
  ·by_cases c:clo ws t (hdG ws t)=o
   ·rw [yi (Jo.mpr ⟨rfl,c⟩),yi c]
   ·rw [yh fun h=>c (Jo.mp h).2,yh c]
  ·by_cases c:some t=o
   ·rw [yi (Jo.mpr ⟨rfl,c⟩),yi c]
   ·rw [yh fun h=>c (Jo.mp h).2,yh c]
 rw [e1,e2];unfold ins;omega
theorem J4S {sd:JJ}{f:Nat->Int}(hm:m<ws.length):exL (upX sd ws n f F) (grK sd (some m))=ins n ws f F ws.length (some m) - F m:=by rw [JaC,J5j hm]
theorem J7k {sd:JJ}{f:Nat->Int}:exL (upX sd ws n f F) (grK sd none)=ins n ws f F ws.length none:=by
 rw [JaC,Jp (G:=fun _=>0) fun z _=>yh (by simp),J1Q];omega
theorem Jci {sd:JJ}{f:Nat->Int}{L:Lk}(h:L∈upX sd ws n f F):(∃ i,L.s=plK sd i/\∃ o,L.g=grK sd o)\/∃ t o,L.s=grK sd (some t)/\L.g=grK sd o:=by
 rcases yQ.mp h with h | h
 ·obtain ⟨i,_,rfl⟩:=yU.mp h
  exact .inl ⟨i,rfl,_,rfl⟩
 ·obtain ⟨t,_,rfl⟩:=yU.mp h
  exact .inr ⟨t,_,rfl,rfl⟩
theorem J0E {sd:JJ}{f:Nat->Int}{k:NPK}(h1:∀ i,k≠plK sd i)(h2:∀ o,k≠grK sd o):exL (upX sd ws n f F) k=0 :=
 J1X fun L hL=>by
  rcases Jci hL with ⟨i,e1,o,e2⟩ | ⟨t,o,e1,e2⟩
  ·exact ⟨fun e=>h1 i (e.symm.trans e1),fun e=>h2 o (e.symm.trans e2)⟩
  ·exact ⟨fun e=>h2 _ (e.symm.trans e1),fun e=>h2 o (e.symm.trans e2)⟩
theorem upX_pl {sd:JJ}{f:Nat->Int}(hi:i<n):exL (upX sd ws n f F) (plK sd i)=-f i:=by
 unfold upX;rw [JH,J1X (ls:=(List.range ws.length).map _)]
 ·rw [J0i]
  have e1:Ji (fun j=>(if (⟨plK sd j,grK sd (clo ws ws.length (j:Int)),f j⟩:Lk).g=plK sd i then (⟨plK sd j,grK sd (clo ws ws.length (j:Int)),f j⟩:Lk).n else 0) - (if (⟨plK sd j,grK sd (clo ws ws.length (j:Int)),f j⟩:Lk).s=plK sd i then (⟨plK sd j,grK sd (clo ws ws.length (j:Int)),f j⟩:Lk).n else 0)) n=Ji (fun j=>-(if j=i then f i else 0)) n:=by
   refine Jp fun j _=>?_;dsimp only;rw [yh fun h=>Jk h.symm];by_cases c:j=i
   ·subst c
    rw [yi rfl,yi rfl];omega
   ·rw [yh fun h=>c (Ju.mp h).2,yh c];omega
  rw [e1,JZ (a:=i) n hi fun v _ hv=>by rw [yh hv];rfl,yi rfl];omega
 ·intro L hL
  obtain ⟨t,_,rfl⟩:=yU.mp hL;exact ⟨fun h=>Jk h.symm,fun h=>Jk h.symm⟩
def J62 (R C:Nat)(b:Nat->Nat->Int):List Lk:=(List.range R).flatMap fun i=>(List.range C).map fun c=>(⟨plK (J0e c) i,plK J0g i,b i c⟩:Lk)
def J8R (wr:List (List Int))(R C:Nat)(h:Nat->Int)(p q:Nat->Nat->Int):List Lk:=(List.range C).flatMap fun c=>[(⟨plK JV c,grK (J0e c) none,h c⟩:Lk)]++(upX (J0e c) wr R (p c) (q c)).map J0H
def Jey (wr wc:List (List Int))(R C:Nat)(b:Nat->Nat->Int)(h:Nat->Int)(p q:Nat->Nat->Int)(u U v W:Nat->Int)(T:Int):List Lk:=((J62 R C b++J8R wr R C h p q)++(upX JV wc C u U).map J0H)++upX J0g wr R v W++[⟨grK J0g none,grK JV none,T⟩]
theorem Jcc (hi:i<R)(hc:c<C):exL (J62 R C b) (plK (J0e c) i)=-b i c:=by
 unfold J62;rw [J0y,JZ (a:=i) R hi]
 ·rw [J0i,JZ (a:=c) C hc]
  ·dsimp only;rw [yh fun h=>Jy (Ju.mp h).1.symm,yi rfl];omega
  ·intro v _ hv
   dsimp only;rw [yh fun h=>Jy (Ju.mp h).1.symm,yh fun h=>hv (J0S (Ju.mp h).1)];rfl
 ·intro v _ hv
  rw [J0i];refine JQ C fun d _=>?_;dsimp only;rw [yh fun h=>Jy (Ju.mp h).1.symm,yh fun h=>hv (Ju.mp h).2];rfl
theorem Jcb (hi:i<R):exL (J62 R C b) (plK J0g i)=Ji (b i) C:=by
 unfold J62;rw [J0y,JZ (a:=i) R hi]
 ·rw [J0i]
  exact Jp fun c _=>by dsimp only;rw [yi rfl,yh fun h=>Jy (Ju.mp h).1];omega
 ·intro v _ hv
  rw [J0i];refine JQ C fun d _=>?_;dsimp only;rw [yh fun h=>hv (Ju.mp h).2,yh fun h=>Jy (Ju.mp h).1];rfl
theorem J31 {k:NPK}(h1:∀ i,k≠plK J0g i)(h2:∀ c i,k≠plK (J0e c) i):exL (J62 R C b) k=0:=by
 unfold J62;rw [J0y];refine JQ R fun i _=>?_;rw [J0i];refine JQ C fun c _=>?_;dsimp only;rw [yh fun h=>h1 i h.symm,yh fun h=>h2 c i h.symm];rfl
theorem J3N (wr:List (List Int))(R C:Nat)(h:Nat->Int)(p q:Nat->Nat->Int)(k:NPK):exL (J8R wr R C h p q) k=Ji (fun c=>((if grK (J0e c) none=k then h c else 0) - (if plK JV c=k then h c else 0)) - exL (upX (J0e c) wr R (p c) (q c)) k) C:=by
 unfold J8R;rw [J0y];refine Jp fun c _=>?_;rw [JH,J2M];show ((if grK (J0e c) none=k then h c else 0) - (if plK JV c=k then h c else 0)+0)+-exL (upX (J0e c) wr R (p c) (q c)) k=_;generalize (if grK (J0e c) none=k then h c else 0)=x;generalize (if plK JV c=k then h c else 0)=y;generalize exL (upX (J0e c) wr R (p c) (q c)) k=z;omega
theorem J4f {f g:Nat->Int}(h:∀ z,z<n->f z=g z)(t:Nat):Wg n ws f t=Wg n ws g t:=by
 unfold Wg sP;refine Jp fun z hz=>?_;by_cases c:inG ws t z
 ·rw [yi c,yi c,h z hz]
 ·rw [yh c,yh c]
structure Eqs (wr wc:List (List Int))(R C:Nat)(b:Nat->Nat->Int)(h:Nat->Int)(q:Nat->Nat->Int)(U v W:Nat->Int)(T:Int):Prop where
 col:∀ c,c<C->h c=Ji (fun i=>b i c) R
 grp:∀ c m,c<C->m<wr.length->q c m=Wg R wr (fun i=>b i c) m
 cgr:∀ m,m<wc.length->U m=Wg C wc (fun c=>Ji (fun i=>b i c) R) m
 row:∀ i,i<R->v i=Ji (b i) C
 rgr:∀ m,m<wr.length->W m=Wg R wr (fun i=>Ji (b i) C) m
 all:T=Ji (fun c=>Ji (fun i=>b i c) R) C
theorem JbL {h:Nat->Int}{p q:Nat->Nat->Int}{u U v W:Nat->Int}{T:Int}(l1:Lam R wr)(l2:Lam C wc)(hz:∀ k,exL (Jey wr wc R C b h p q u U v W T) k=0):Eqs wr wc R C b h q U v W T:=by
 have ex:∀ k,exL (J62 R C b) k+exL (J8R wr R C h p q) k+-exL (upX JV wc C u U) k+exL (upX J0g wr R v W) k+((if grK JV none=k then T else 0) - (if grK J0g none=k then T else 0))=0:=fun k=>by
  have:=hz k;unfold Jey at this;rw [JH,JH,JH,JH,J2M] at this;have e:exL [(⟨grK J0g none,grK JV none,T⟩:Lk)] k=(if grK JV none=k then T else 0) - (if grK J0g none=k then T else 0):=by
   show (if grK JV none=k then T else 0) - (if grK J0g none=k then T else 0)+0=_;rw [Int.add_zero]
  rw [e] at this;exact this
 have hp:∀ c i,c<C->i<R->p c i=b i c:=fun c i hc hi=>by
  have:=ex (plK (J0e c) i);rw [Jcc hi hc,J3N,JZ (a:=c) C hc,yh fun h=>Jk h.symm,yh fun h=>Jz (Ju.mp h).1.symm,upX_pl hi,J0E (fun j h=>Jz (Ju.mp h).1) (fun o h=>Jk h),J0E (fun j h=>Jy (Ju.mp h).1) (fun o h=>Jk h),yh fun h=>Jk h.symm,yh fun h=>Jk h.symm] at this
  ·omega
  ·intro d _ hd
   rw [yh fun h=>Jk h.symm,yh fun h=>Jz (Ju.mp h).1.symm,J0E (fun j h=>hd (J0S (Ju.mp h).1).symm) fun o h=>Jk h];rfl
 have hq:∀ c m,c<C->m<wr.length->ins R wr (p c) (q c) wr.length (some m)=q c m:=fun c m hc hm=>by
  have:=ex (grK (J0e c) (some m));rw [J31 (fun i h=>Jk h.symm) (fun d i h=>Jk h.symm),J3N,JZ (a:=c) C hc,yh (fun h=>by have:=(Jo.mp h).2;cases this),yh Jk,J4S hm,J0E (fun j h=>Jk h.symm) (fun o' h=>Jz (Jo.mp h).1),J0E (fun j h=>Jk h.symm) (fun o' h=>Jy (Jo.mp h).1),yh fun h=>Jz (Jo.mp h).1.symm,yh fun h=>Jy (Jo.mp h).1.symm] at this
  ·omega
  ·intro d _ hd
   rw [yh fun h=>hd (J0S (Jo.mp h).1),yh Jk,J0E (fun j h=>Jk h.symm) fun o' h=>hd (J0S (Jo.mp h).1).symm];rfl
 have hh:∀ c,c<C->h c=ins R wr (p c) (q c) wr.length none:=fun c hc=>by
  have:=ex (grK (J0e c) none);rw [J31 (fun i h=>Jk h.symm) (fun d i h=>Jk h.symm),J3N,JZ (a:=c) C hc,yi rfl,yh Jk,J7k,J0E (fun j h=>Jk h.symm) (fun o' h=>Jz (Jo.mp h).1),J0E (fun j h=>Jk h.symm) (fun o' h=>Jy (Jo.mp h).1),yh fun h=>Jz (Jo.mp h).1.symm,yh fun h=>Jy (Jo.mp h).1.symm] at this
  ·omega
  ·intro d _ hd
   rw [yh fun h=>hd (J0S (Jo.mp h).1),yh Jk,J0E (fun j h=>Jk h.symm) fun o' h=>hd (J0S (Jo.mp h).1).symm];rfl
 have hu:∀ c,c<C->u c=h c:=fun c hc=>by
  have:=ex (plK JV c);rw [J31 (fun i h=>JI (Ju.mp h).1.symm) (fun d i h=>Jz (Ju.mp h).1.symm),J3N,JZ (a:=c) C hc,yh fun h=>Jk h.symm,yi rfl,J0E (fun j h=>Jz (Ju.mp h).1.symm) (fun o h=>Jk h),upX_pl hc,J0E (fun j h=>JI (Ju.mp h).1.symm) (fun o h=>Jk h),yh fun h=>Jk h.symm,yh fun h=>Jk h.symm] at this
  ·omega
  ·intro d _ hd
   rw [yh fun h=>Jk h.symm,yh fun h=>hd (Ju.mp h).2,J0E (fun j h=>Jz (Ju.mp h).1.symm) fun o h=>Jk h];rfl
 have colN:∀ k,(∀ c,k≠plK JV c)->(∀ c i,k≠plK (J0e c) i)->(∀ c o,k≠grK (J0e c) o)->exL (J8R wr R C h p q) k=0:=fun k h1 h2 h3=>by
  rw [J3N];refine JQ C fun d _=>?_;rw [yh fun e=>h3 d none e.symm,yh fun e=>h1 d e.symm,J0E (fun j=>h2 d j) fun o=>h3 d o];rfl
 have hU:∀ m,m<wc.length->ins C wc u U wc.length (some m)=U m:=fun m hm=>by
  have:=ex (grK JV (some m));rw [J31 (fun i h=>Jk h.symm) (fun d i h=>Jk h.symm),colN _ (fun c h=>Jk h.symm) (fun c j h=>Jk h.symm) (fun c o' h=>Jz (Jo.mp h).1.symm),J4S hm,J0E (fun j h=>Jk h.symm) (fun o' h=>JI (Jo.mp h).1.symm),yh (fun h=>by have:=(Jo.mp h).2;cases this),yh fun h=>JI (Jo.mp h).1] at this;omega
 have hT:T=ins C wc u U wc.length none:=by
  have:=ex (grK JV none);rw [J31 (fun i h=>Jk h.symm) (fun d i h=>Jk h.symm),colN _ (fun c h=>Jk h.symm) (fun c j h=>Jk h.symm) (fun c o' h=>Jz (Jo.mp h).1.symm),J7k,J0E (fun j h=>Jk h.symm) (fun o' h=>JI (Jo.mp h).1.symm),yi rfl,yh fun h=>JI (Jo.mp h).1] at this;omega
 have hv:∀ i,i<R->v i=Ji (b i) C:=fun i hi=>by
  have:=ex (plK J0g i);rw [Jcb hi,colN _ (fun c h=>JI (Ju.mp h).1) (fun c j h=>Jy (Ju.mp h).1.symm) (fun c o h=>Jk h),J0E (fun j h=>JI (Ju.mp h).1) (fun o h=>Jk h),upX_pl hi,yh fun h=>Jk h.symm,yh fun h=>Jk h.symm] at this;omega
 have hW:∀ m,m<wr.length->ins R wr v W wr.length (some m)=W m:=fun m hm=>by
  have:=ex (grK J0g (some m));rw [J31 (fun i h=>Jk h.symm) (fun d i h=>Jk h.symm),colN _ (fun c h=>Jk h.symm) (fun c j h=>Jk h.symm) (fun c o' h=>Jy (Jo.mp h).1.symm),J0E (fun j h=>Jk h.symm) (fun o' h=>JI (Jo.mp h).1),J4S hm,yh fun h=>JI (Jo.mp h).1.symm,yh (fun h=>by have:=(Jo.mp h).2;cases this)] at this;omega
 have hcol:∀ c,c<C->h c=Ji (fun i=>b i c) R:=fun c hc=>by
  rw [hh c hc,J63 l1 fun m hm=>hq c m hc hm];exact Jp fun i hi=>hp c i hc hi
 refine ⟨hcol,fun c m hc hm=>?_,fun m hm=>?_,hv,fun m hm=>?_,?_⟩
 ·rw [group_sum l1 (fun m hm=>hq c m hc hm) _ m rfl hm]
  exact J4f (fun i hi=>hp c i hc hi) m
 ·rw [group_sum l2 hU _ m rfl hm]
  exact J4f (fun c hc=>(hu c hc).trans (hcol c hc)) m
 ·rw [group_sum l1 hW _ m rfl hm]
  exact J4f hv m
 ·rw [hT,J63 l2 hU]
  exact Jp fun c hc=>(hu c hc).trans (hcol c hc)
def wt (ls:List Lk)(zs:List Int):List Lk:=List.zipWith (fun L z=>(⟨L.s,L.g,z⟩:Lk)) ls zs
theorem J1N {a b:List Lk}(h:a.length=x.length):wt (a++b) (x++y)=wt a x++wt b y:=zipWith_append h
theorem J4L {a b:List Lk}(h:zs.length=a.length+b.length):wt (a++b) zs=wt a (zs.take a.length)++wt b (zs.drop a.length):=by
 conv=>lhs;rw [<- take_append_drop a.length zs]
 exact J1N (by rw [yI];omega)
theorem J4M (F:Nat->Lk)(n:Nat)(zs:List Int)(h:zs.length=n):wt ((List.range n).map F) zs=(List.range n).map fun i=>(⟨(F i).s,(F i).g,zs.getD i 0⟩:Lk):=by
 unfold wt;refine ext_getElem? fun i=>?_;rw [List.getElem?_zipWith,yN,yN];by_cases hi:i<n
 ·rw [List.getElem?_range hi,yA (by omega)]
  show some (⟨(F i).s,(F i).g,zs[i]⟩:Lk)=some ⟨(F i).s,(F i).g,zs.getD i 0⟩;rw [yF,yA (by omega)];rfl
 ·rw [List.getElem?_eq_none (l:=List.range n) (by rw [yX];omega)]
  rfl
theorem J8Y (ls:List Lk):∀ zs,wt (ls.map J0H) zs=(wt ls zs).map J0H:=by
 induction ls with
 | nil=>intro zs;cases zs<;>rfl
 | cons L ls ih =>
   intro zs;cases zs with
   | nil=>rfl
   | cons z zs =>
     show _::wt (ls.map J0H) zs=_::(wt ls zs).map J0H;rw [ih zs];rfl
theorem J2h {F G:Nat->List Lk}:∀ {n:Nat},(∀ i,i<n->F i=G i)->(List.range n).flatMap F=(List.range n).flatMap G
 | 0,_=>rfl
 | n+1,h=>by
   rw [range_succ,flatMap_append,flatMap_append,J2h fun i hi=>h i (by omega)];simp only [flatMap_cons,flatMap_nil,append_nil,h n (by omega)]
theorem J5F {F:Nat->List Lk}{s:Nat}(hs:∀ i,(F i).length=s):∀ n,((List.range n).flatMap F).length=n * s
 | 0=>by simp
 | n+1=>by
   rw [range_succ,flatMap_append,yH,J5F hs n];simp only [flatMap_cons,flatMap_nil,append_nil,hs,Nat.succ_mul]
theorem J6E (F:Nat->List Lk)(s:Nat)(hs:∀ i,(F i).length=s):∀ (n:Nat) (zs:List Int),zs.length=n * s->wt ((List.range n).flatMap F) zs=(List.range n).flatMap fun i=>wt (F i) ((zs.drop (i * s)).take s)
 | 0,zs,h=>by
   have:zs=[]:=by simpa using h
   subst this;rfl
 | n + 1,zs,h=>by
   rw [Nat.succ_mul] at h;have hl:=J5F hs n;rw [range_succ,flatMap_append,flatMap_append,J4L (by rw [hl];simp [hs,h]),hl,J6E F s hs n (zs.take (n * s)) (by rw [yI];omega)];congr 1
   ·refine J2h fun i hi=>?_
    have:i * s+s<=n * s:=by rw [<- Nat.succ_mul];exact Nat.mul_le_mul_right s hi
    congr 1;refine ext_getElem? fun j=>?_;rw [List.getElem?_take,List.getElem?_take,List.getElem?_drop,List.getElem?_drop,List.getElem?_take];by_cases hj:j<s
    ·rw [yi hj,yi hj,yi (by omega)]
    ·rw [yh hj,yh hj]
   ·simp only [flatMap_cons,flatMap_nil,append_nil]
    congr 1;rw [take_of_length_le (by rw [length_drop];omega)]
theorem JbM {ks:List NPK}{many whole:Int}{k:NPK}(hk:k∈ks):∀ {ls:List Lk} {zs:List Int},(∀ L∈ls,L.s∈ks/\L.g∈ks)->exF (ls.map (J2m ks many whole)) zs (ixI ks k)=exL (wt ls zs) k
 | [],zs,_=>by cases zs<;>rfl
 | L::ls,[],_=>rfl
 | L :: ls,z::zs,h=>by
   have ih:=JbM (many:=many) (whole:=whole) hk (ls:=ls) (zs:=zs) fun M hM=>h M (yJ _ hM);obtain ⟨h1,h2⟩:=h L yK;show (if ixI ks L.g=ixI ks k then z else 0) - (if ixI ks L.s=ixI ks k then z else 0)+exF _ _ _=(if L.g=k then z else 0) - (if L.s=k then z else 0)+exL (wt ls zs) k;rw [ih];have e1:(if ixI ks L.g=ixI ks k then z else 0)=(if L.g=k then z else 0):=by
    by_cases c:L.g=k
    ·rw [yi (by rw [c]),yi c]
    ·rw [yh fun e=>c (J4H h2 hk e),yh c]
   have e2:(if ixI ks L.s=ixI ks k then z else 0)=(if L.s=k then z else 0):=by
    by_cases c:L.s=k
    ·rw [yi (by rw [c]),yi c]
    ·rw [yh fun e=>c (J4H h1 hk e),yh c]
   rw [e1,e2]
theorem Jay:∀ {ls:List Lk} {zs:List Int} {M:Lk},M∈wt ls zs->∃ L∈ls,M.s=L.s/\M.g=L.g
 | [],zs,M,h=>by cases zs<;>cases h
 | L::ls,[],M,h=>by cases h
 | L :: ls,z::zs,M,h=>by
   rcases yL.mp (show M∈(⟨L.s,L.g,z⟩:Lk)::wt ls zs from h) with rfl | h
   ·exact ⟨L,yK,rfl,rfl⟩
   ·obtain ⟨L',h1,h2⟩:=Jay h
    exact ⟨L',yJ _ h1,h2⟩
theorem JcS {ls:List Lk}(hin:∀ L∈ls,L.s∈ks/\L.g∈ks)(F:Flow (ls.map (J2m ks many whole)) zs)(k:NPK):exL (wt ls zs) k=0:=by
 by_cases hk:k∈ks
 ·rw [<- JbM (many:=many) (whole:=whole) hk hin]
  exact F.ex _
 ·refine J1X fun M hM=>?_
  obtain ⟨L,hL,e1,e2⟩:=Jay hM;obtain ⟨h1,h2⟩:=hin L hL;exact ⟨fun e=>hk (by rw [<- e,e1];exact h1),fun e=>hk (by rw [<- e,e2];exact h2)⟩
def Nr (many whole x n:Int):Prop:=n * many / whole<=x/\x<=-(-n * many / whole)
def Nrs (many whole:Int)(ls:List Lk)(zs:List Int):Prop:=∀ (j:Nat) L z,ls[j]?=some L->zs[j]?=some z->Nr many whole z L.n
theorem JdK {ls:List Lk}(F:Flow (ls.map (J2m ks many whole)) zs):Nrs many whole ls zs:=fun j L z hL hz=>show (J2m ks many whole L).l<=z/\z<=(J2m ks many whole L).u from F.bnd.2 j _ z (by rw [yN,hL];rfl) hz
theorem Nrs.fst {a b:List Lk}(h:Nrs many whole (a++b) zs):Nrs many whole a (zs.take a.length):=fun j L z hL hz=>by
 have hj:=(yB.mp hL).1;rw [List.getElem?_take,yi hj] at hz;exact h j L z (by rw [yW hj];exact hL) hz
theorem Nrs.snd {a b:List Lk}(h:Nrs many whole (a++b) zs):Nrs many whole b (zs.drop a.length):=fun j L z hL hz=>by
 rw [List.getElem?_drop] at hz;exact h (a.length+j) L z (by rw [yV (by omega),show a.length+j - a.length=j by omega];exact hL) hz
theorem Nrs.flip {a:List Lk}(h:Nrs many whole (a.map J0H) zs):Nrs many whole a zs:=fun j L z hL hz=>h j (J0H L) z (by rw [yN,hL];rfl) hz
theorem Nrs.range {F:Nat->Lk}(h:Nrs many whole ((List.range n).map F) zs)(hl:zs.length=n)(hi:i<n):Nr many whole (zs.getD i 0) (F i).n:=by
 refine h i (F i) _ (by rw [yN,List.getElem?_range hi];rfl) ?_;rw [yF,yA (by omega)];rfl
theorem Nrs.flat {many whole:Int}{F:Nat->List Lk}{s:Nat}(hs:∀ i,(F i).length=s):∀ {n:Nat} {zs:List Int},Nrs many whole ((List.range n).flatMap F) zs->zs.length=n * s->∀ {i:Nat},i<n->Nrs many whole (F i) ((zs.drop (i * s)).take s)
 | 0,_,_,_,i,hi=>by omega
 | n + 1,zs,h,hl,i,hi=>by
   rw [Nat.succ_mul] at hl;rw [range_succ,flatMap_append] at h;have fl:=J5F hs n;by_cases c:i=n
   ·subst c
    have h2:=h.snd;rw [fl] at h2;simp only [flatMap_cons,flatMap_nil,append_nil] at h2;rw [take_of_length_le (by rw [length_drop];omega)];exact h2
   ·have h1:=h.fst
    rw [fl] at h1;have:=Nrs.flat hs h1 (by rw [yI];omega) (i:=i) (by omega);have e:i * s+s<=n * s:=by rw [<- Nat.succ_mul];exact Nat.mul_le_mul_right s (by omega)
    intro j L z hL hz;refine this j L z hL ?_;rw [List.getElem?_take] at hz ⊢
    split at hz
    ·rename_i hj
     rw [yi hj,List.getElem?_drop,List.getElem?_take,yi (by omega)];rw [List.getElem?_drop] at hz;exact hz
    ·cases hz
theorem J8i {sd:JJ}(hl:zs.length=sums.length+ws.length):wt (upL sd ws sums) zs=upX sd ws sums.length (fun i=>zs.getD i 0) (fun t=>zs.getD (sums.length+t) 0):=by
 have e1:(upP sd ws sums sums.length).length=sums.length:=by unfold upP;rw [yC,yX]
 have e2:(upG sd ws sums ws.length).length=ws.length:=by unfold upG;rw [yC,yX]
 unfold upL;rw [J4L (by omega),e1];unfold upP upG upX;rw [J4M _ _ _ (by rw [yI];omega),J4M _ _ _ (by rw [length_drop];omega)];congr 1
 ·refine map_congr_left fun i hi=>?_
  have:=mem_range.mp hi;have e:(zs.take sums.length).getD i 0=zs.getD i 0:=by rw [yF,List.getElem?_take,yi this,yF]
  rw [e]
 ·refine map_congr_left fun t _=>?_
  have e:(zs.drop sums.length).getD t 0=zs.getD (sums.length+t) 0:=by rw [yF,List.getElem?_drop,yF]
  rw [e];rfl
theorem Jaz {sd:JJ}(h:Nrs many whole (upL sd ws sums) zs)(hl:zs.length=sums.length+ws.length):(∀ i,i<sums.length->Nr many whole (zs.getD i 0) (sums.getD i 0))/\∀ t,t<ws.length->Nr many whole (zs.getD (sums.length+t) 0) (sm ((ws.getD t []).map fun z=>sums.getD z.toNat 0)):=by
 have e1:(upP sd ws sums sums.length).length=sums.length:=by unfold upP;rw [yC,yX]
 unfold upL at h;have h1:=h.fst;have h2:=h.snd;rw [e1] at h1 h2;refine ⟨fun i hi=>?_,fun t ht=>?_⟩
 ·have:=Nrs.range (F:=fun i=>⟨plK sd i,grK sd (clo ws ws.length i),sums.getD i 0⟩) h1 (by rw [yI];omega) hi
  rw [yF,List.getElem?_take,yi hi,<- yF] at this;exact this
 ·have:=Nrs.range (F:=fun i=>⟨grK sd (some i),grK sd (clo ws i ((ws.getD i []).getD 0 0)),sm ((ws.getD i []).map fun z=>sums.getD z.toNat 0)⟩) h2 (by rw [length_drop];omega) ht
  rw [yF,List.getElem?_drop,<- yF] at this;exact this
structure PM (g wr wc:List (List Int))(R C:Nat)(many whole:Int)(b:Nat->Nat->Int):Prop where
 box:∀ i c,i<R->c<C->Nr many whole (b i c) ((g.getD i []).getD c 0)
 col:∀ c,c<C->Nr many whole (Ji (fun i=>b i c) R) (sm (Js g c))
 grp:∀ c m,c<C->m<wr.length->Nr many whole (Wg R wr (fun i=>b i c) m) (sm ((wr.getD m []).map fun z=>(Js g c).getD z.toNat 0))
 cgr:∀ m,m<wc.length->Nr many whole (Wg C wc (fun c=>Ji (fun i=>b i c) R) m) (sm ((wc.getD m []).map fun z=>(J0P g C).getD z.toNat 0))
 row:∀ i,i<R->Nr many whole (Ji (b i) C) ((g.map sm).getD i 0)
 rgr:∀ m,m<wr.length->Nr many whole (Wg R wr (fun i=>Ji (b i) C) m) (sm ((wr.getD m []).map fun z=>(g.map sm).getD z.toNat 0))
 all:Nr many whole (Ji (fun c=>Ji (fun i=>b i c) R) C) (sm (g.map sm))
theorem J2V {o:Nat}(hj:j<s):((zs.drop o).take s).getD j 0=zs.getD (o+j) 0:=by
 rw [yF,List.getElem?_take,yi hj,List.getElem?_drop,<- yF]
theorem JcW (hl:zs.length=R * C):wt (J1l g C R) zs=J62 R C fun i c=>zs.getD (i * C+c) 0:=by
 unfold J1l J62;rw [J6E (fun i=>J2j (g.getD i []) i C) C (fun i=>by unfold J2j;rw [yC,yX]) R zs hl];refine J2h fun i hi=>?_;have h:i * C+C<=R * C:=by rw [<- Nat.succ_mul];exact Nat.mul_le_mul_right C hi
 unfold J2j;rw [J4M _ _ _ (by rw [yI,length_drop];omega)];refine map_congr_left fun c hc=>?_;rw [J2V (mem_range.mp hc)]
theorem colX_wt (hg:g.length=R)(hs:1+(R+wr.length)=s)(hl:zs.length=C * s):wt (J1k g wr C) zs=J8R wr R C (fun c=>zs.getD (c * s) 0) (fun c i=>zs.getD (c * s+1+i) 0) (fun c t=>zs.getD (c * s+1+(R+t)) 0):=by
 have lo:∀ c,(Js g c).length=R:=fun c=>by unfold Js;rw [yC,hg]
 unfold J1k J8R;rw [J6E (fun c=>J4C g wr c) s (fun c=>by rw [J5M,hg,hs]) C zs hl];refine J2h fun c hc=>?_;have h:c * s+s<=C * s:=by rw [<- Nat.succ_mul];exact Nat.mul_le_mul_right s hc
 unfold J4C;have ul:((upL (J0e c) wr (Js g c)).map J0H).length=R+wr.length:=by rw [yC,J1j,lo]
 have ll:((zs.drop (c * s)).take s).length=s:=by rw [yI,length_drop];omega
 have l1:([⟨plK JV c,grK (J0e c) none,sm (Js g c)⟩]:List Lk).length=1:=rfl;rw [J4L (by rw [ll,ul,l1,hs]),l1,J8Y];have dl:(((zs.drop (c * s)).take s).drop 1).length=R+wr.length:=by rw [length_drop,ll];omega
 rw [J8i (by rw [dl,lo])];have at1:∀ j,j<R+wr.length->(((zs.drop (c * s)).take s).drop 1).getD j 0=zs.getD (c * s+1+j) 0:=fun j hj=>by
  rw [yF,List.getElem?_drop,<- yF,J2V (by omega),<- Nat.add_assoc]
 congr 1
 ·have e0:((zs.drop (c * s)).take s).take 1=[zs.getD (c * s) 0]:=by
   have h0:0<((zs.drop (c * s)).take s).length:=by omega
   have e:=J2V (zs:=zs) (o:=c * s) (s:=s) (j:=0) (by omega);rw [Nat.add_zero] at e;cases hq:(zs.drop (c * s)).take s with
   | nil=>rw [hq] at h0;simp at h0
   | cons x xs =>
     rw [hq] at e;show [x]=_;rw [<- e];rfl
  rw [e0];rfl
 ·congr 1
  unfold upX;rw [lo];congr 1
  ·refine map_congr_left fun i hi=>?_
   dsimp only;rw [at1 i (by have:=mem_range.mp hi;omega)]
  ·refine map_congr_left fun t ht=>?_
   dsimp only;rw [at1 (R+t) (by have:=mem_range.mp ht;omega)]
theorem J5I (h:zs.length=n+m):∃ a b,zs=a++b/\a.length=n/\b.length=m:=⟨zs.take n,zs.drop n,(take_append_drop _ _).symm,by rw [yI];omega,by rw [length_drop];omega⟩
theorem Nrs.app {a b:List Lk}(h:Nrs many whole (a++b) (x++y))(e:x.length=a.length):Nrs many whole a x/\Nrs many whole b y:=by
 have h1:=h.fst;have h2:=h.snd;rw [<- e,take_left' rfl] at h1;rw [<- e,drop_left' rfl] at h2;exact ⟨h1,h2⟩
theorem J6m (h:j<x.length):(x++y).getD j 0=x.getD j 0:=by
 rw [yF,yW h,<- yF]
theorem JbX (hg:g.length=R)(hs:1+(R+wr.length)=s)(hl:zs.length=C * s)(h:Nrs many whole (J1k g wr C) zs)(hc:c<C):Nr many whole (zs.getD (c * s) 0) (sm (Js g c))/\∀ t,t<wr.length->Nr many whole (zs.getD (c * s+1+(R+t)) 0) (sm ((wr.getD t []).map fun z=>(Js g c).getD z.toNat 0)):=by
 have lo:(Js g c).length=R:=by unfold Js;rw [yC,hg]
 have h0:=Nrs.flat (F:=fun c=>J4C g wr c) (s:=s) (fun c=>by rw [J5M,hg,hs]) h hl hc;have hh:c * s+s<=C * s:=by rw [<- Nat.succ_mul];exact Nat.mul_le_mul_right s hc
 have ll:((zs.drop (c * s)).take s).length=s:=by rw [yI,length_drop];omega
 obtain ⟨x,y,e,ex,ey⟩:=J5I (n:=1) (m:=R+wr.length) (ll.trans hs.symm);have gt:∀ j,j<s->(x++y).getD j 0=zs.getD (c * s+j) 0:=fun j hj=>by rw [<- e];exact J2V hj
 rw [e] at h0;unfold J4C at h0;obtain ⟨h1,h2⟩:=h0.app ex;have h3:=Jaz h2.flip (by rw [ey,lo]);constructor
 ·have e1:=gt 0 (by omega)
  rw [J6m (by omega),Nat.add_zero] at e1;rw [<- e1];cases x with
  | nil=>simp at ex
  | cons a r=>exact h1 0 _ a rfl rfl
 ·intro t ht
  have e1:=gt (1+(R+t)) (by omega);rw [yF,yV (by omega),<- yF,ex,Nat.add_sub_cancel_left,<- Nat.add_assoc] at e1;rw [<- e1];have:=h3.2 t ht;rw [lo] at this;exact this
theorem Je4 (hl:zs.length=R * C)(h:Nrs many whole (J1l g C R) zs)(hi:i<R)(hc:c<C):Nr many whole (zs.getD (i * C+c) 0) ((g.getD i []).getD c 0):=by
 have h0:=Nrs.flat (F:=fun i=>J2j (g.getD i []) i C) (s:=C) (fun i=>by unfold J2j;rw [yC,yX]) h hl hi;have hh:i * C+C<=R * C:=by rw [<- Nat.succ_mul];exact Nat.mul_le_mul_right C hi
 unfold J2j at h0;have h1:=h0.range (by rw [yI,length_drop];omega) hc;rw [J2V hc] at h1;exact h1
theorem J8z (hg:g.length=R)(l1:Lam R wr)(l2:Lam C wc)(hin:∀ L∈J20 g wr wc R C,L.s∈ks/\L.g∈ks)(F:Flow ((J20 g wr wc R C).map (J2m ks many whole)) zs):PM g wr wc R C many whole fun i c=>zs.getD (i * C+c) 0:=by
 have lg:(g.map sm).length=R:=by rw [yC,hg]
 have lc:(J0P g C).length=C:=by unfold J0P;rw [yC,yX]
 have J06:=F.len;rw [yC] at J06;have hex:=JcS hin F;have hnr:=JdK F;unfold J20 at hex hnr J06;have b1:=J2Z g C R;have b2:=J3M g wr C;rw [hg] at b2;have b3:((upL JV wc (J0P g C)).map J0H).length=C+wc.length:=by rw [yC,J1j,lc]
 have b4:(upL J0g wr (g.map sm)).length=R+wr.length:=by rw [J1j,lg]
 rw [yH,yH,yH,yH,b1,b2,b3,b4,length_singleton] at J06;obtain ⟨s,hs⟩:∃ s,1+(R+wr.length)=s:=⟨_,rfl⟩;rw [hs] at b2 J06;obtain ⟨z4,zl,rfl,e4,el⟩:=J5I J06;obtain ⟨z3,zr,rfl,e3,er⟩:=J5I e4;obtain ⟨z2,zc,rfl,e2,ec⟩:=J5I e3;obtain ⟨zb,zk,rfl,eb,ek⟩:=J5I e2;obtain ⟨hn,nl⟩:=hnr.app (by rw [e4,yH,yH,yH,b1,b2,b3,b4]);obtain ⟨hn,nr⟩:=hn.app (by rw [e3,yH,yH,b1,b2,b3]);obtain ⟨hn,nc⟩:=hn.app (by rw [e2,yH,b1,b2]);obtain ⟨nb,nk⟩:=hn.app (by rw [eb,b1]);have bb:∀ i c,i<R->c<C->((((zb++zk)++zc)++zr)++zl).getD (i * C+c) 0=zb.getD (i * C+c) 0:=fun i c hi hc=>by
  have hh:i * C+C<=R * C:=by rw [<- Nat.succ_mul];exact Nat.mul_le_mul_right C hi
  rw [yY,yY,yY,J6m (by omega)]
 have nr2:=Jaz nr (by rw [er,lg]);have nc2:=Jaz nc.flip (by rw [ec,lc]);obtain ⟨T,rfl⟩:∃ T,zl=[T]:=by
  cases zl with
  | nil=>simp at el
  | cons T r=>cases r with
    | nil=>exact ⟨T,rfl⟩
    | cons _ _=>simp at el
 have nT:Nr many whole T (sm (g.map sm)):=nl 0 _ T rfl rfl;have E:=JbL (wr:=wr) (wc:=wc) (R:=R) (C:=C) (b:=fun i c=>zb.getD (i * C+c) 0) (h:=fun c=>zk.getD (c * s) 0) (p:=fun c i=>zk.getD (c * s+1+i) 0) (q:=fun c t=>zk.getD (c * s+1+(R+t)) 0) (u:=fun i=>zc.getD i 0) (U:=fun t=>zc.getD (C+t) 0) (v:=fun i=>zr.getD i 0) (W:=fun t=>zr.getD (R+t) 0) (T:=T) l1 l2 (fun k=>by
  have h:=hex k;rw [J1N (by rw [e4,yH,yH,yH,b1,b2,b3,b4]),J1N (by rw [e3,yH,yH,b1,b2,b3]),J1N (by rw [e2,yH,b1,b2]),J1N (by rw [eb,b1]),JcW eb,colX_wt hg hs ek,J8Y,J8i (by rw [ec,lc]),J8i (by rw [er,lg]),lg,lc] at h;exact h)
 have cs:∀ c,c<C->Ji (fun i=>((((zb++zk)++zc)++zr)++[T]).getD (i * C+c) 0) R=Ji (fun i=>zb.getD (i * C+c) 0) R:=fun c hc=>Jp fun i hi=>bb i c hi hc;have rs:∀ i,i<R->Ji (fun c=>((((zb++zk)++zc)++zr)++[T]).getD (i * C+c) 0) C=Ji (fun c=>zb.getD (i * C+c) 0) C:=fun i hi=>Jp fun c hc=>bb i c hi hc;refine ⟨?_,?_,?_,?_,?_,?_,?_⟩
 ·intro i c hi hc
  rw [bb i c hi hc];exact Je4 eb nb hi hc
 ·intro c hc
  rw [cs c hc,<- E.col c hc];exact (JbX hg hs ek nk hc).1
 ·intro c m hc hm
  rw [J4f (fun i hi=>bb i c hi hc),<- E.grp c m hc hm];exact (JbX hg hs ek nk hc).2 m hm
 ·intro m hm
  rw [J4f (fun c hc=>cs c hc),<- E.cgr m hm];have:=nc2.2 m hm;rw [lc] at this;exact this
 ·intro i hi
  rw [rs i hi,<- E.row i hi];exact nr2.1 i (by rw [lg];exact hi)
 ·intro m hm
  rw [J4f (fun i hi=>rs i hi),<- E.rgr m hm];have:=nr2.2 m hm;rw [lg] at this;exact this
 ·skip
  rw [Jp (fun c hc=>cs c hc),<- E.all];exact nT
theorem J9I {a:Nat}(h:a+n<=fl.length):J4B (fl.map V.int) (some (a:Int)) (some ((a+n:Nat):Int))=((fl.drop a).take n).map V.int:=by
 unfold J4B HT.sIx;dsimp only;rw [yC,map_take,map_drop,yh (by omega),yh (by omega),Int.toNat_natCast,Int.toNat_natCast,Nat.min_eq_left h,Nat.min_eq_left (by omega),Nat.add_sub_cancel_left]
structure PtI (H:Hp)(lg lr lc:Addr)(xs ys zs:List V)(g rgs cgs:List (List Int))(R C:Nat)(b:Int):Prop where
 hg:H lg=some (.lst xs)
 gr:GridV H xs g
 ok:GOk g R C
 r1:1<=R
 r8:R<=8
 c1:1<=C
 c8:C<=8
 b0:0<=b
 bB:64 * b<BB
 b:∀ r∈g,∀ x∈r,x<=b
 hr:H lr=some (.lst ys)
 rg:GridV H ys rgs
 hc:H lc=some (.lst zs)
 cg:GridV H zs cgs
theorem PtI.mono {zs:List V}{b:Int}(s:Same H H')(h:PtI H lg lr lc xs ys zs g rgs cgs R C b):PtI H' lg lr lc xs ys zs g rgs cgs R C b :=
 ⟨s _ _ h.hg,h.gr.mono s,h.ok,h.r1,h.r8,h.c1,h.c8,h.b0,h.bB,h.b,s _ _ h.hr,h.rg.mono s,s _ _ h.hc,h.cg.mono s⟩
def JaR (K:Frag)(f:Nat->Addr):Sp:=fun vs H Q _=>∃ (lg lr lc:Addr) (xs ys zs:List V) (g rgs cgs:List (List Int)) (R C:Nat) (b many:Int),vs=[.ref lg,.int many,.ref lr,.ref lc]/\PtI H lg lr lc xs ys zs g rgs cgs R C b/\0<=many/\many<BB/\0<sm (g.map sm)/\sm (g.map sm)<BB/\J3i R rgs/\J3i C cgs /\
 ∀ (H':Hp) (D:Addr) (out:List V) (fl:List Int) (wr wc:List (List Int)),Same H H'->H D=none->H' D=some (.lst out)->GridV H' out ((List.range R).map fun i=>(fl.drop (i * C)).take C)->R * C<=fl.length->J38 rgs wr->J38 cgs wc->PM g wr wc R C many (sm (g.map sm)) (fun i c=>fl.getD (i * C+c) 0)->(∀ x∈out,∃ q,x=V.ref q/\H q=none)->Q (.ref D) H'
theorem ok_parts (T:Txt K mg f fd):FnOk P w K mg base CX0 7 (f 25) (fd 25) ["grid","many","row_groups","column_groups"] (JaR K f):=by
 walk_at "ok wA J2w"
 ·obtain ⟨lg,lr,lc,xs,ys,zs,g,rgs,cgs,R,C,b,many,rfl,_⟩:=h
  rfl
 ·obtain ⟨lg,lr,lc,xs,ys,zs,g,rgs,cgs,R,C,b,many,rfl,I,hm0,hm1,hw0,hw1,o1,o2,k⟩:=h
  refine ⟨_,(Jc (psl 4 J2w.nd (JA (J1c rfl rfl) T.wg J1d rfl (by decide) (by decide) rfl (pal rfl (JY ["row"] ["grid","many","row_groups","column_groups","whole","width","links","flow"] rfl (show CompSc _ (Jf J3s) ["grid","many","row_groups","column_groups","whole","width","links","flow"] ["grid","many","row_groups","column_groups","whole","width","links","flow"] from Jr (by decide +kernel)) (J00 rfl (pvl 0)) (fun _ _ _ _ _=>(pgl 0 (show (["row","grid","many","row_groups","column_groups","whole","width","links","flow"]:List Str).Nodup by decide +kernel))) (fun _ _ _ _ _=>JR) (fun _ _ _ _ _=>(JA (J1c rfl rfl) T.wg J1d rfl (by decide) (by decide) rfl (pal rfl (pvl 0) Ja)))) Ja)))
   (Jc (J0n (Jw J1H (pvl 4) Je (JB _))
   (Jg J1S)
   JC)
   (Jc (psc 5 J2w.nd (JA (J0v rfl) T.wa JX rfl (by decide) (by decide) rfl (pal rfl (JT (J0q rfl) (pvl 0) Je (fun _ _=>rfl)) Ja)))
   (Jc (J05 (Jj T.wv (ok_asked_groups T) (hr.mono (by decide)) rfl (by decide) rfl (pal rfl (pvl 2) (pal rfl (JA (J0v rfl) T.wa JX rfl (by decide) (by decide) rfl (pal rfl (pvl 0) Ja)) Ja))))
   (Jc (J05 (Jj T.wv (ok_asked_groups T) (hr.mono (by decide)) rfl (by decide) rfl (pal rfl (pvl 3) (pal rfl (pvc 5) Ja))))
   (Jc (psl 6 J2w.nd (Jj T.wN (ok_all_links T) (hr.mono (by decide)) rfl (by decide) rfl (pal rfl (pvl 0) (pal rfl (Jj T.ww (J2n T) (hr.mono (by decide)) rfl (by decide) rfl (pal rfl (pvl 2) Ja)) (pal rfl (Jj T.ww (J2n T) (hr.mono (by decide)) rfl (by decide) rfl (pal rfl (pvl 3) Ja)) Ja)))))
   (Jc (psc 7 J2w.nd (Jj T.wP (ok_rounded_flow T) (hr.mono (by decide)) rfl (by decide) rfl (pal rfl (pvl 6) (pal rfl (pvl 1) (pal rfl (pvl 4) Ja)))))
   (Jg (Jx (JY ["at"] ["grid","many","row_groups","column_groups","whole","width","links","flow"] rfl (show CompSc _ (Jf J3s) ["grid","many","row_groups","column_groups","whole","width","links","flow"] ["grid","many","row_groups","column_groups","whole","width","links","flow"] from Jr (by decide +kernel)) (J0Z rfl T.wj (pal rfl (JA (J0v rfl) T.wa JX rfl (by decide) (by decide) rfl (pal rfl (pvl 0) Ja)) Ja)) (fun _ _ _ _ _=>(pgl 0 (show (["at","grid","many","row_groups","column_groups","whole","width","links","flow"]:List Str).Nodup by decide +kernel))) (fun _ _ _ _ _=>JR) (fun _ _ _ _ _=>(J2D (J9p rfl) (pvc 8) (J29 (Jl J2c (pvl 0) (pvc 6))) (J29 (Jl J2c (Jl J0d (pvl 0) Je) (pvc 6))))))))))))))),?_⟩
  generalize hB5:J3m _=B5;generalize hB4:J0r (J2q _ _) B5=B4;generalize hB3:J0r (J2q _ _) B4=B3;generalize hB2:J0r (J4h _) B3=B2;generalize hB1:J0r (J4s _ _ _) _=B1;walk_at "dl";have hgl:=I.gr.1;have hrl:=I.ok.rows;have hR:=I.r8;have hC:=I.c8;have hR1:=I.r1;have hC1:=I.c1;have hgsm:(g.map sm).length=R:=by rw [yC,hrl]
  refine ⟨⟨_,.of I.hg⟩,?_⟩;refine JE (xs:=xs) Jm (by rw [hgl];exact Jb (by omega)) (fun i ys H'=>H'=H/\ys=((g.map sm).take i).map V.int) ⟨rfl,rfl⟩ (fun _ _ _ _ q=>by rw [q.1];exact .of I.hg) (fun i ys H' q=>by rw [q.2];simp;omega) ?_ ?_
  ·rintro i x ys H1 hx ⟨rfl,rfl⟩
   obtain ⟨r,hr,pr,rfl,hpr⟩:=All2.at I.gr hx;walk_at "dl";refine ⟨r,.of hpr,⟨_,rfl⟩,?_⟩;rw [take_add_one,yN,hr,yP];rfl
  ·rintro zs0 H1 ⟨rfl,rfl⟩ p1 hp1
   rw [hgl,hrl,<- hgsm,yO];refine ⟨g.map sm,.of J1,?_⟩;have s1:=Same.upd_new hp1 (HO.lst ((g.map sm).map V.int));generalize upd H1 p1 (HO.lst ((g.map sm).map V.int))=H2 at *;have I2:=I.mono s1;subst hB1;walk_at "dl";have c0:¬ sm (g.map sm)=0:=by omega
   rw [yh c0];obtain ⟨x0,hx0⟩:∃ x0,xs[0]?=some x0:=⟨_,yA (by omega)⟩;obtain ⟨r0,hr0,q0,rfl,hq0⟩:=All2.at I2.gr hx0;have hrc:=I.ok.cols r0 (yG hr0);refine ⟨lg,_,_,_,rfl,rfl,.of I2.hg,Jt (j:=0) hx0,q0,rfl,_,.inl (.of hq0),_,.inl (.of I2.hg),?_⟩;rw [yC,hrc];have hxR:xs.length=R:=by rw [hgl,hrl]
   have gl1:∀ r∈rgs,r.length<=8:=fun r hr=>by have:=J2K (o1.2.1 r hr);omega
   have gl2:∀ r∈cgs,r.length<=8:=fun r hr=>by have:=J2K (o2.2.1 r hr);omega
   have n1:=o1.1;have n2:=o2.1;refine ⟨lr,ys,rgs,R,by rw [hxR],I2.hr,I2.rg,by omega,fun r hr=>by have:=gl1 r hr;omega,o1,fun H3 s3=>?_⟩;have S3:=s1.trans s3;have I3:=I.mono S3;subst hB2;walk_at "dl";refine ⟨lc,zs,cgs,C,rfl,I3.hc,I3.cg,by omega,fun r hr=>by have:=gl2 r hr;omega,o2,fun H4 s4=>?_⟩;have S4:=S3.trans s4;have I4:=I.mono S4;subst hB3;walk_at "dl";refine ⟨lr,ys,rgs,rfl,I4.hr,I4.rg,by omega,fun H5 D5 o5 wr s5 h5 G5 W5=>?_⟩;have I5:=I4.mono s5;refine ⟨lc,zs,cgs,rfl,I5.hc,I5.cg,by omega,fun H6 D6 o6 wc s6 h6 G6 W6=>?_⟩;have I6:=I5.mono s6;have lw1:wr.length<=8:=by rw [W5.1.length_eq];exact n1
   have lw2:wc.length<=8:=by rw [W6.1.length_eq];exact n2
   have g1:∀ r∈wr,J3U R r:=fun r hr=>o1.2.1 r (W5.1.mem_iff.mp hr);have g2:∀ r∈wc,J3U C r:=fun r hr=>o2.2.1 r (W6.1.mem_iff.mp hr);have L1:=J75 o1 W5;have L2':=J75 o2 W6;refine ⟨lg,D5,D6,xs,o5,o6,g,wr,wc,R,C,rfl,I6.hg,I6.gr,I.ok,hR1,hR,hC,s6 _ _ h5,G5.mono s6,by omega,g1,fun r hr=>by have:=J2K (g1 r hr);omega,h6,G6,by omega,g2,fun r hr=>by have:=J2K (g2 r hr);omega,fun H7 D7 o7 s7 h7 L7=>?_⟩;have S7:=((S4.trans s5).trans s6).trans s7;subst hB4;walk_at "dl";have lok:=lam_links I.ok hR1 hR hC1 hC I.b0 I.b I.bB L1 L2' lw1 lw2;refine ⟨D7,o7,_,many,_,rfl,h7,L7,lok,hm0,hm1,hw0,hw1,fun H8 pl fl ks gg s8 hpl0 hpl nd ks1 ks2 hF=>?_⟩;have S8:=S7.trans s8;have FL:=flow_of_circ lok hm0 hw0 ks1 (fun k hk=>by obtain ⟨L,hL,rfl⟩:=ks2 k hk;exact Jc0 I.ok L1 L2' hL) hF;have pm:=J8z hrl L1 L2' (fun L hL=>⟨ks1 L hL,by obtain ⟨L',hL',e⟩:=lok.go L hL;exact e ▸ ks1 L' hL'⟩) FL;have fll:R * C<=fl.length:=by
    have:=FL.len;rw [yC] at this;unfold J20 at this;rw [yH,yH,yH,yH,J2Z] at this;omega
   subst hB5;walk_at "dl";refine ⟨xs,.inl (.of (S8 _ _ I.hg)),by omega,by omega,?_⟩;rw [Int.toNat_natCast];refine JE J0D (by rw [JK];exact Jb (by omega)) (fun i ys H'=>Same H8 H'/\GridV H' ys ((List.range i).map fun i=>(fl.drop (i * C)).take C)/\∀ x∈ys,∃ q,x=V.ref q/\H8 q=none) ⟨Same.refl _,All2.nil,fun _ z=>nomatch z⟩ (fun _ _ _ _ _=>trivial) (fun i ys H' q=>Nat.le_of_eq (by rw [q.2.1.1,yC,yX])) ?_ ?_
   ·rintro i x ys H9 hx ⟨s9,hy,fy⟩
    obtain ⟨hi,rfl⟩:=J0W hx;walk_at "dl";refine ⟨.inr ⟨by omega,by omega⟩,.inr ⟨by omega,by omega⟩,_,.of (s9 _ _ hpl),fun p hp=>⟨⟨_,rfl⟩,s9.new hp _,?_,fun x hx=>?_⟩⟩
    rotate_left
    ·rcases yQ.mp hx with e | e
     ·exact fy x e
     ·exact ⟨p,yD.mp e,s9.free hp⟩
    have hh:i * C+C<=R * C:=by rw [<- Nat.succ_mul];exact Nat.mul_le_mul_right C (by omega)
    have ec:J4B (fl.map V.int) (some ((0+(i:Int)) * (C:Int))) (some ((0+(i:Int)+1) * (C:Int)))=((fl.drop (i * C)).take C).map V.int:=by
     have a1:(0+(i:Int)) * (C:Int)=((i * C:Nat):Int):=by rw [Int.zero_add];exact (Int.natCast_mul ..).symm
     have a2:(0+(i:Int)+1) * (C:Int)=((i * C+C:Nat):Int):=by rw [Int.add_mul,a1,Int.one_mul];rfl
     rw [a1,a2];exact J9I (by omega)
    rw [ec];rw [range_succ,yP];exact All2.snoc (hy.mono (Same.upd_new hp _)) ⟨p,rfl,J1⟩
   ·rintro ys H9 ⟨s9,hy,fy⟩ D9 hD9
    rw [JK,hxR] at hy;exact k _ D9 _ fl wr wc ((S8.trans s9).new hD9 _) ((S8.trans s9).free hD9) J1 (hy.mono (Same.upd_new hD9 _)) fll W5 W6 pm fun x hx=>by
     obtain ⟨q,e,z⟩:=fy x hx;exact ⟨q,e,S8.free z⟩
def J9X (K:Frag):Sp:=fun vs H Q _=>∃ (a:Addr) (ns:List Int) (k m:Int),vs=[.ref a,.int k,.int m]/\SqL K H a (ns.map V.int)/\0<=k/\k<1000000/\0<m/\∀ v,0<=v->v<m->Q (.int v) H
theorem ok_l_draw (T:Txt K mg f fd):FnOk P w K mg base CX0 1 (f 27) (fd 27) ["_law_script","_law_k","_law_many_here"] (J9X K):=by
 walk_at "ok we J41"
 ·obtain ⟨a,ns,k,m,rfl,_⟩:=h
  rfl
 ·obtain ⟨a,ns,i,m,rfl,hs,h0,h1,hm,k⟩:=h
  refine ⟨_,(Jc (J0n (Jw J3B (pvl 1) (JA (J0v rfl) T.wa JX rfl (by decide) (by decide) rfl (pal rfl (pvl 0) Ja)) (JB _))
   (Jg (Jx (Jl J1K (JT (J0q rfl) (pvl 0) (pvl 1) (fun _ _=>rfl)) (pvl 2))))
   JC)
   (Jc (psl 3 J41.nd (Jl J0d (Jl J2c (pvl 1) (pvl 1)) Je))
   (Jc (J0n (Jw J5o (JA (J0v rfl) T.wa JX rfl (by decide) (by decide) rfl (pal rfl (pvl 0) Ja)) Je (JB _))
   (Jg (psl 3 J41.nd (Jl J0d (pvl 3) (Jl J1K (JT (J0q rfl) (pvl 0) (Jl J1K (pvl 1) (JA (J0v rfl) T.wa JX rfl (by decide) (by decide) rfl (pal rfl (pvl 0) Ja))) (fun _ _=>rfl)) Je))))
   JC)
   (Jg (Jx (Jl J1K (Jl J1K (Jl J2c (Jl J0d (Jl J1K (Jl J2c (pvl 3) Je) Je) Je) Je) Je) (pvl 2))))))),?_⟩
  walk_at "dc";have cm:∀ x:Int,0<=x % m/\x % m<m:=fun x=>⟨yu _ (by omega),yt _ hm⟩;have fin:∀ x:Int,Q (V.int (x % m)) H:=fun x=>k _ (cm x).1 (cm x).2;refine ⟨_,.inl hs,?_⟩;rw [yC];by_cases c:i<(ns.length:Int)
  ·rw [yi (ym c)]
   obtain ⟨j,rfl⟩:∃ j:Nat,i=(j:Int):=⟨i.toNat,by omega⟩;have hj:j<ns.length:=by omega
   exact ⟨a,_,_,.int ns[j],rfl,rfl,hs,Jt (by rw [yN,yA hj];rfl),_,rfl,hm,fin _⟩
  ·rw [yh (by simpa using c)]
   refine ⟨.inl ⟨by omega,by omega⟩,_,.inl hs,?_⟩;rw [yC];have c48:∀ x:Int,CMul x 48271:=fun x=>.inr ⟨by decide,by decide⟩;have c40:∀ x:Int,CMul x 40692:=fun x=>.inr ⟨by decide,by decide⟩;by_cases c0:(0:Int)<(ns.length:Int)
   ·rw [yi (ym c0)]
    refine ⟨_,.inl hs,?_⟩;rw [yC];refine ⟨c0,?_⟩;have b1:=yu i (show (ns.length:Int)≠0 by omega);have b2:=yt i c0;obtain ⟨j,hj'⟩:∃ j:Nat,i % (ns.length:Int)=(j:Int):=⟨(i % (ns.length:Int)).toNat,by omega⟩;rw [hj'] at b2 ⊢;have hj:j<ns.length:=by omega
    exact ⟨a,_,_,.int ns[j],rfl,rfl,hs,Jt (by rw [yN,yA hj];rfl),_,rfl,by decide,c48 _,by decide,c40 _,by decide,hm,fin _⟩
   ·rw [yh (by simpa using c0)]
    exact ⟨c48 _,by decide,c40 _,by decide,hm,fin _⟩
structure GridN (H:Hp)(a:Addr)(ps:List Addr)(g:List (List Int)):Prop where
 at_:H a=some (.lst (ps.map V.ref))
 nd:ps.Nodup
 len:ps.length=g.length
 row:∀ (n:Nat) p r,ps[n]?=some p->g[n]?=some r->H p=some (.lst (r.map V.int))
structure DOk (g:List (List Int))(R C:Nat):Prop where
 rows:g.length=R
 cols:∀ r∈g,r.length=C
def J5E (g:List (List Int))(b:Box)(n:Int):List (List Int):=g.set b.1 ((g.getD b.1 []).set b.2 n)
theorem GridN.keep (h:GridN H a ps g)(s:Same H H'):GridN H' a ps g:=⟨s _ _ h.at_,h.nd,h.len,fun n p r hp hr=>s _ _ (h.row n p r hp hr)⟩
theorem GridN.ne (h:GridN H a ps g)(hp:ps[n]?=some p):p≠a:=fun e=>by
 subst e;have hn:n<g.length:=by rw [<- h.len];exact (yB.mp hp).1
 have h1:=h.row n p _ hp (yA hn);rw [h.at_] at h1;have e2:ps.map V.ref=(g[n]).map V.int:=by injection h1 with h1;injection h1
 have h0:0<ps.length:=Nat.lt_of_le_of_lt (yw _) (yB.mp hp).1;cases hps:ps with
 | nil=>rw [hps] at h0;simp at h0
 | cons x xs =>
   rw [hps] at e2;cases hg:g[n] with
   | nil=>rw [hg] at e2;simp at e2
   | cons y ys=>rw [hg] at e2;simp at e2
theorem DOk.set (h:DOk g R C){b:Box}(hi:InG R C b)(n:Int):DOk (J5E g b n) R C:=by
 unfold J5E;have h1:b.1<g.length:=by rw [h.rows];exact hi.1
 refine ⟨by rw [length_set];exact h.rows,fun r hr=>?_⟩;rcases mem_or_eq_of_mem_set hr with e | e
 ·exact h.cols r e
 ·rw [e,length_set,yF,yA h1]
  exact h.cols _ (getElem_mem h1)
theorem GridN.put (h:GridN H a ps g)(d:DOk g R C){b:Box}(hi:InG R C b)(n:Int) :
 ∃ (p:Addr) (r:List Int),ps[b.1]?=some p/\H p=some (.lst (r.map V.int))/\b.2<r.length/\GridN (upd H p (.lst ((r.map V.int).set b.2 (.int n)))) a ps (J5E g b n):=by
 have h1:b.1<g.length:=by rw [d.rows];exact hi.1
 have h2:b.1<ps.length:=by rw [h.len];exact h1
 have ep:=yA h2;have er:=yA h1;have hrow:=h.row b.1 _ _ ep er;have hl:b.2<(g[b.1]).length:=by rw [d.cols _ (getElem_mem h1)];exact hi.2
 refine ⟨_,_,ep,hrow,hl,⟨?_,h.nd,?_,fun m q r hq hr=>?_⟩⟩
 ·rw [Jd (Ne.symm (h.ne ep))];exact h.at_
 ·unfold J5E;rw [length_set];exact h.len
 ·unfold J5E at hr
  by_cases e:m=b.1
  ·subst e
   rw [ep] at hq;cases hq;rw [List.getElem?_set_self h1] at hr;cases hr;rw [J1,yF,er,<- map_set];rfl
  ·rw [List.getElem?_set_ne (Ne.symm e)] at hr
   have:q≠ps[b.1]:=fun z=>by
    rw [<- z] at ep;exact e ((List.getElem?_inj (yB.mp hq).1 h.nd).mp (hq.trans ep.symm))
   rw [Jd this];exact h.row m q r hq hr
theorem GridN.at_row (h:GridN H a ps g)(hq:q∈ps):∃ r∈g,H q=some (.lst (r.map V.int)):=by
 obtain ⟨m,hm⟩:=yT.mp hq;have hl:m<g.length:=by rw [<- h.len];exact (yB.mp hm).1
 exact ⟨_,getElem_mem hl,h.row m q _ hm (yA hl)⟩
theorem GridN.rowsV (h:GridN H a ps g):GridV H (ps.map V.ref) g:=by
 refine ⟨by rw [yC];exact h.len,fun i x r hx hr=>?_⟩;rw [yN] at hx;obtain ⟨p,hp,rfl⟩:=Option.map_eq_some_iff.mp hx;exact ⟨p,rfl,h.row i p r hp hr⟩
def J0N (g:List (List Int)):List PyData:=g.map fun r=>.list (r.map .int)
theorem J0z {H:Hp}:∀ {xs:List V} {g:List (List Int)},GridV H xs g->Reps K H (J0N g) xs/\PyData.canLayAll0 (J0N g)=true/\PyData.depthAll (J0N g)<=1/\PyData.eqvAll (J0N g) (J0N g)=true
 | [],[],_=>by simp [J0N,Reps,PyData.canLayAll0,PyData.depthAll,PyData.eqvAll]
 | [],_::_,h=>by have:=h.1;simp at this
 | _::_,[],h=>by have:=h.1;simp at this
 | x :: xs,r::g,h=>by
   obtain ⟨⟨p,rfl,hp⟩,h2⟩:=All2.tail h;obtain ⟨r1,r2,r3,r4⟩:=J0z h2;obtain ⟨i1,i2,i3⟩:=J1s (K:=K) (H:=H) r;unfold J0N at *;refine ⟨?_,?_,?_,?_⟩
   ·rw [yM,Reps]
    exact ⟨_,_,rfl,by rw [Rep];exact ⟨p,_,rfl,.of hp,i1⟩,r1⟩
   ·simp only [yM,PyData.canLayAll0,PyData.canLay0,i2,r2,Bool.and_self]
   ·simp only [yM,PyData.depthAll,PyData.depth,i3]
    omega
   ·rw [yM,PyData.eqvAll,PyData.eqv,J5A,r4]
    simp
theorem GridN.more (h:GridN H a ps g)(hq:H q=none):GridN (upd (upd H q (.lst [])) a (.lst (ps.map V.ref++[.ref q]))) a (ps++[q]) (g++[[]]):=by
 have nq:q∉ps:=fun z=>by
  obtain ⟨r,_,e⟩:=h.at_row z;rw [hq] at e;cases e
 have na:q≠a:=fun e=>by have:=h.at_;rw [<- e,hq] at this;cases this
 refine ⟨by rw [J1,yP];rfl,?_,by simp [h.len],fun n p r hp hr=>?_⟩
 ·refine nodup_append.mpr ⟨h.nd,by simp,fun x hx y hy e=>?_⟩
  rw [yD.mp hy] at e;exact nq (e ▸ hx)
 ·by_cases c:n<ps.length
  ·rw [yW c] at hp
   rw [yW (by rw [<- h.len];exact c)] at hr;have h1:=h.row n p r hp hr;rw [Jd (h.ne hp),Jd (Jh h1 hq)];exact h1
  ·have e1:n=ps.length:=by
    have:=(yB.mp hp).1;rw [yH,length_singleton] at this;omega
   subst e1;rw [yV (yj _),Nat.sub_self] at hp;rw [h.len,yV (yj _),Nat.sub_self] at hr;simp at hp hr;subst hp hr;rw [Jd na,J1];rfl
theorem GridN.app (h:GridN H a (ps++[q]) (g++[r]))(n:Int):H q=some (.lst (r.map V.int))/\(ps++[q])[g.length]?=some q/\GridN (upd H q (.lst (r.map V.int++[.int n]))) a (ps++[q]) (g++[r++[n]]):=by
 have hl:ps.length=g.length:=by have:=h.len;simp at this;exact this
 have hq:(ps++[q])[g.length]?=some q:=by rw [<- hl,yV (yj _),Nat.sub_self];rfl
 have hr:(g++[r])[g.length]?=some r:=by rw [yV (yj _),Nat.sub_self];rfl
 have h0:=h.row _ _ _ hq hr;refine ⟨h0,hq,⟨by rw [Jd (Ne.symm (h.ne hq))];exact h.at_,h.nd,by have:=h.len;simp at this ⊢;exact this,fun m p r' hp hr'=>?_⟩⟩;by_cases c:m<g.length
 ·rw [yW c] at hr'
  have h1:=h.row m p r' hp (by rw [yW c];exact hr');rw [Jd (fun e=>by
   rw [e] at hp;have:=(List.getElem?_inj (yB.mp hp).1 h.nd).mp (hp.trans hq.symm);omega)]
  exact h1
 ·have e1:m=g.length:=by
   have:=(yB.mp hr').1;rw [yH,length_singleton] at this;omega
  subst e1;rw [hq] at hp;cases hp;rw [yV (yj _),Nat.sub_self] at hr';simp at hr';subst hr';rw [J1,yP];rfl
theorem J8r:∀ {zs:List Int} {x:Int},(∀ z∈zs,0<=z)->x∈zs->x<=sm zs
 | z :: zs,x,h,hx=>by
   have h0:=h z yK;have h1:∀ y∈zs,0<=y:=fun y hy=>h y (yJ _ hy);have h2:=J0h h1;rw [J23];rcases yL.mp hx with e | e
   ·omega
   ·have:=J8r h1 e
    omega
def BM:Int:=10 ^ 57
def GB (g:List (List Int)):Prop:=∀ r∈g,∀ x∈r,x<=BM
structure RwB (r:List Int)(n:Nat):Prop where
 len:r.length=n
 pos:∀ x∈r,0<=x/\x<=BM
theorem RwB.snoc (h:RwB r n){x:Int}(hx:0<=x/\x<=BM):RwB (r++[x]) (n+1):=⟨by simp [h.len],fun y hy=>by
 rcases yQ.mp hy with e | e
 ·exact h.pos y e
 ·rw [yD.mp e];exact hx⟩
structure GbK (g:List (List Int))(R C:Nat):Prop where
 ok:GOk g R C
 b:GB g
theorem JbJ (h:GbK g i C)(w:RwB r C):GbK (g++[r]) (i+1) C:=⟨⟨by simp [h.ok.rows],fun r' hr'=>by
 rcases yQ.mp hr' with e | e
 ·exact h.ok.cols r' e
 ·rw [yD.mp e];exact w.len,fun r' hr'=>by
 rcases yQ.mp hr' with e | e
 ·exact h.ok.pos r' e
 ·rw [yD.mp e];exact fun x hx=>(w.pos x hx).1⟩,fun r' hr'=>by
 rcases yQ.mp hr' with e | e
 ·exact h.b r' e
 ·rw [yD.mp e];exact fun x hx=>(w.pos x hx).2⟩
theorem J5B {n:Int}(h:g.length=R)(hi:i<R)(hr:r∈J5E g (i,c) n){x:Int}(hx:x∈r):x=n\/∃ r'∈g,x∈r':=by
 rcases mem_or_eq_of_mem_set hr with e | e
 ·exact .inr ⟨r,e,hx⟩
 ·rw [e] at hx
  rcases mem_or_eq_of_mem_set hx with e | e
  ·have h':i<g.length:=by omega
   rw [show g.getD (i,c).1 []=g[i] by rw [yF,yA h'];rfl] at e;exact .inr ⟨_,getElem_mem h',e⟩
  ·exact .inl e
theorem JbF {n:Int}(ok:GOk g R C)(hi:i<R)(hc:c<C)(hn:0<n):0<sm ((J5E g (i,c) n).map sm):=by
 have pos:∀ r∈J5E g (i,c) n,∀ x∈r,0<=x:=fun r hr x hx=>by
  rcases J5B ok.rows hi hr hx with e | ⟨r',h1,h2⟩
  ·omega
  ·exact ok.pos r' h1 x h2
 have h':i<g.length:=by rw [ok.rows];exact hi
 have hr:(g[i]).set c n∈J5E g (i,c) n:=by
  unfold J5E;rw [show g.getD (i,c).1 []=g[i] by rw [yF,yA h'];rfl];exact mem_set h' _
 have hl:c<(g[i]).length:=by rw [ok.cols _ (getElem_mem h')];exact hc
 have h1:=J8r (pos _ hr) (mem_set hl n);have h2:=J8r (zs:=(J5E g (i,c) n).map sm) (fun z hz=>by
  obtain ⟨r,hr,rfl⟩:=yU.mp hz;exact J0h (pos r hr)) (mem_map_of_mem hr)
 omega
def J9V (K:Frag):Sp:=fun vs H Q _=>∃ (a:Addr) (ns:List Int) (R C:Nat),vs=[.ref a,.int R,.int C]/\SqL K H a (ns.map V.int)/\1<=R/\R<=8/\1<=C/\C<=8 /\
 ∀ H' D xs g,Same H H'->H' D=some (.lst xs)->GridV H' xs g->GbK g R C->0<sm (g.map sm)->Q (.ref D) H'
theorem ok_l_grid (T:Txt K mg f fd):FnOk P w K mg base CX0 2 (f 28) (fd 28) ["_law_script","_law_rows","_law_columns"] (J9V K):=by
 walk_at "ok wQ J0X"
 ·obtain ⟨a,ns,R,C,rfl,_⟩:=h
  rfl
 ·obtain ⟨a,ns,R,C,rfl,hs,hR1,hR,hC1,hC,k⟩:=h
  refine ⟨_,(Jc (psl 3 J0X.nd (J0l Ja))
   (Jc (J0a PassesOwn.never rfl (J0Z rfl T.wj (pal rfl (pvl 1) Ja)) (pgl 4 J0X.nd)
   (Jc (J05 (J1m rfl y9 PySem.F.slot_list_append PySem.F.type_list_append J08 rfl rfl rfl rfl (pvl 3) (pal rfl (J0l Ja) Ja)))
   (Jg (J0a PassesOwn.never rfl (J0Z rfl T.wj (pal rfl (pvl 2) Ja)) (pgl 5 J0X.nd)
   (Jc (psl 6 J0X.nd (Jl J0d (Jl J0d Je (Jl J2c (pvl 4) (pvl 2))) (pvl 5)))
   (Jc (psl 7 J0X.nd (Jl J3C (Jj T.we (ok_l_draw T) (hr.mono (by decide)) rfl (by decide) rfl (pal rfl (pvl 0) (pal rfl (pvl 6) (pal rfl Je Ja)))) Je))
   (Jc (J0n (Jw J1H (Jj T.we (ok_l_draw T) (hr.mono (by decide)) rfl (by decide) rfl (pal rfl (pvl 0) (pal rfl (pvl 6) (pal rfl Je Ja)))) Je (JB _))
   (Jg (psl 7 J0X.nd Je))
   JC)
   (Jc (J0n (PW.pt (J5e (Jw J1H (Jj T.we (ok_l_draw T) (hr.mono (by decide)) rfl (by decide) rfl (pal rfl (pvl 0) (pal rfl (pvl 6) (pal rfl Je Ja)))) Je (JB _)) (J3y (Jw J3B (pvl 6) (JA (J0v rfl) T.wa JX rfl (by decide) (by decide) rfl (pal rfl (pvl 0) Ja)) (JB _)))))
   (Jg (psl 7 J0X.nd (Jl J1K (JT (J0q rfl) (pvl 0) (pvl 6) (fun _ _=>rfl)) (Jl Jbq Je Je))))
   JC)
   (Jg (J05 (J1m rfl y9 PySem.F.slot_list_append PySem.F.type_list_append J08 rfl rfl rfl rfl (JT (J0q rfl) (pvl 3) (pvl 4) (fun _ _=>rfl)) (pal rfl (pvl 7) Ja))))))))))))
   (Jc (J0n (Jw J1H (JA (J1c rfl rfl) T.wg J1d rfl (by decide) (by decide) rfl (pal rfl (JY ["_law_row"] ["_law_script","_law_rows","_law_columns","_law_grid_here","#4","_law_column","_law_k","_law_number"] rfl (show CompSc _ (Jf J3v) ["_law_script","_law_rows","_law_columns","_law_grid_here","_law_row","_law_column","_law_k","_law_number"] ["_law_script","_law_rows","_law_columns","_law_grid_here","#4","_law_column","_law_k","_law_number"] from Jr (by decide +kernel)) (J00 rfl (pvl 3)) (fun _ _ _ _ _=>(pgl 0 (show (["_law_row","_law_script","_law_rows","_law_columns","_law_grid_here","#4","_law_column","_law_k","_law_number"]:List Str).Nodup by decide +kernel))) (fun _ _ _ _ _=>JR) (fun _ _ _ _ _=>(JA (J1c rfl rfl) T.wg J1d rfl (by decide) (by decide) rfl (pal rfl (pvl 0) Ja)))) Ja)) Je (JB _))
   (Jg (Jdy (Jl J0d Je (Jj T.we (ok_l_draw T) (hr.mono (by decide)) rfl (by decide) rfl (pal rfl (pvl 0) (pal rfl Je (pal rfl Je Ja))))) (JdD (JT (J0q rfl) (pvl 3) (Jj T.we (ok_l_draw T) (hr.mono (by decide)) rfl (by decide) rfl (pal rfl (pvl 0) (pal rfl Je (pal rfl (pvl 1) Ja)))) (fun _ _=>rfl)) (Jj T.we (ok_l_draw T) (hr.mono (by decide)) rfl (by decide) rfl (pal rfl (pvl 0) (pal rfl Je (pal rfl (pvl 2) Ja)))) J3q)))
   JC)
   (Jg (Jx (pvl 3)))))),?_⟩
  generalize hB:J4h (tBM _ _ _ (tOp _ _ _) _)=B;generalize hBE:J0r (J4s _ _ _) (J3m _)=BE;walk_at "dl";refine ⟨yw _,fun p hp=>?_⟩;have s1:=Same.upd_new hp (HO.lst []);have G1:GridN (upd H p (HO.lst [])) p [] []:=⟨J1,nodup_nil,rfl,fun n p r h=>by simp at h⟩;generalize upd H p (HO.lst [])=H1 at *;refine J0b ?_;walk_at "dl";refine ⟨by omega,by omega,?_⟩;rw [Int.toNat_natCast];refine ForW.of J0D (fun i σ H'=>(∃ v4 v5 v6 v7,σ=[some (V.ref a),some (V.int (R:Int)),some (V.int (C:Int)),some (V.ref p),v4,v5,v6,v7])/\Same H H'/\∃ ps g,GridN H' p ps g/\GbK g i C/\∀ q∈ps,H q=none) ⟨⟨none,none,none,none,rfl⟩,s1,[],[],G1,⟨⟨rfl,(fun _ z=>nomatch z),fun _ z=>nomatch z⟩,fun _ z=>nomatch z⟩,fun _ z=>nomatch z⟩ (fun _ _ _ _ _=>trivial) ?_ ?_
  ·rintro i x σ H2 hx ⟨⟨v4,v5,v6,v7,rfl⟩,s2,ps,g,G2,ok2,f2⟩
   obtain ⟨hi,rfl⟩:=J0W hx;walk_at "dl";refine ⟨.inl ⟨rfl,_,.of G2.at_⟩,yw _,fun q hq=>?_⟩;have hl2:=G2.len;have hr2:=ok2.ok.rows;have G3:=G2.more hq;refine ⟨p,ps.map V.ref,V.ref q,rfl,rfl,Same.upd_new hq _ _ _ G2.at_,by rw [yC,sizeLine_eq];omega,?_⟩;have s3:Same H (upd (upd H2 q (HO.lst [])) p (HO.lst (ps.map V.ref++[V.ref q]))):=(s2.new hq _).set hp _;have fq:H q=none:=s2.free hq;generalize upd (upd H2 q (HO.lst [])) p (HO.lst (ps.map V.ref++[V.ref q]))=H3 at *;refine J0b ?_;walk_at "dl";refine ⟨by omega,by omega,?_⟩;rw [Int.toNat_natCast];have lic:i * C<=8 * 8:=Nat.mul_le_mul (by omega) hC;have eic:(0+(i:Int)) * (C:Int)=((i * C:Nat):Int):=by rw [Int.zero_add];exact (Int.natCast_mul i C).symm
   refine ForW.of J0D (fun j σ H'=>(∃ v5 v6 v7,σ=[some (V.ref a),some (V.int (R:Int)),some (V.int (C:Int)),some (V.ref p),some (V.int (0+(i:Int))),v5,v6,v7])/\Same H H'/\∃ r,GridN H' p (ps++[q]) (g++[r])/\RwB r j) ⟨⟨_,_,_,rfl⟩,s3,[],G3,⟨rfl,fun _ z=>nomatch z⟩⟩ (fun _ _ _ _ _=>trivial) ?_ ?_
   ·rintro j x σ H4 hx ⟨⟨v5,v6,v7,rfl⟩,s4,r,G4,w4⟩
    obtain ⟨hj,rfl⟩:=J0W hx;generalize hD:Ends.mk _ _ _ _=D1;generalize i * C=ic at *;have last:∀ kk v:Int,0<=v/\v<=BM->B D1 [some (V.ref a),some (V.int (R:Int)),some (V.int (C:Int)),some (V.ref p),some (V.int (0+(i:Int))),some (V.int (0+(j:Int))),some (V.int kk),some (V.int v)] H4:=by
     intro kk v hv;obtain ⟨h5,h6,G5⟩:=G4.app v;subst hB;walk_at "dl";refine ⟨p,_,_,V.ref q,rfl,rfl,.of G4.at_,by rw [Int.zero_add];exact Jt (by rw [yN,<- hr2,h6];rfl),.inl ⟨rfl,_,.of h5⟩,q,_,_,rfl,rfl,h5,by rw [yC,w4.len,sizeLine_eq];omega,?_⟩;rw [<- hD];exact ⟨⟨_,_,_,rfl⟩,s4.set fq _,_,G5,w4.snoc hv⟩
    clear hB;have hs4:=s4.seq hs;generalize hE:J0r (J4s (Jcl _ _) _ _) B=B2;have bm9:(9:Int)<=BM:=by unfold BM;decide
    have mid:∀ (kk:Nat) (v:Int),kk<1000000->0<=v/\v<=BM->B2 D1 [some (V.ref a),some (V.int (R:Int)),some (V.int (C:Int)),some (V.ref p),some (V.int (0+(i:Int))),some (V.int (0+(j:Int))),some (V.int kk),some (V.int v)] H4:=by
     intro kk v hkk hv;subst hE;walk_at "dl";refine ⟨a,ns,_,_,rfl,hs4,by omega,by omega,by decide,fun d d1 d2=>⟨rfl,?_⟩⟩
     split
     ·refine ⟨_,.inl hs4,?_⟩
      rw [yC]
      split
      ·rename_i hk2
       have hk3:kk<ns.length:=by omega
       have n57:(0:Int)<10 ^ Int.toNat 57:=by decide
       exact ⟨a,_,_,.int ns[kk],rfl,rfl,hs4,Jt (by rw [yN,yA hk3];rfl),⟨by decide,by decide,by decide⟩,_,rfl,n57,last _ _ ⟨yu _ (Int.ne_of_gt n57),Int.le_of_lt (yt _ n57)⟩⟩
      ·exact last _ _ hv
     ·exact last _ _ hv
    clear hE last;walk_at "dl";refine ⟨.inl ⟨by omega,by omega⟩,?_⟩;obtain ⟨kk,ek⟩:∃ kk:Nat,30+(0+(i:Int)) * (C:Int)+(0+(j:Int))=(kk:Int):=⟨30+(ic+j),by rw [eic];omega⟩;have hkk:kk<1000000:=by rw [eic] at ek;omega
    rw [ek];refine ⟨a,ns,_,_,rfl,hs4,by omega,by omega,by decide,fun d d1 d2=>⟨d,rfl,⟨by decide,by decide⟩,a,ns,_,_,rfl,hs4,by omega,by omega,by decide,fun e e1 e2=>⟨rfl,?_⟩⟩⟩
    split
    ·exact mid kk 0 hkk ⟨by decide,by omega⟩
    ·exact mid kk _ hkk ⟨by omega,by omega⟩
   ·rintro σ H4 ⟨⟨v5,v6,v7,rfl⟩,s4,r,G4,w4⟩
    rw [JK] at w4;refine ⟨⟨_,_,_,_,rfl⟩,s4,_,_,G4,JbJ ok2 w4,fun q' hq'=>?_⟩;rcases yQ.mp hq' with e | e
    ·exact f2 q' e
    ·rw [yD.mp e];exact fq
  ·rintro σ H2 ⟨⟨v4,v5,v6,v7,rfl⟩,s2,ps,g,G2,ok2,f2⟩
   rw [JK] at ok2;have hl2:=G2.len;have hr2:=ok2.ok.rows;have hpl:(ps.map V.ref).length=R:=by rw [yC,hl2,hr2]
   subst hBE;walk_at "dl";refine ⟨⟨_,.of G2.at_⟩,?_⟩;refine JE (xs:=ps.map V.ref) Jm (by rw [hpl];exact Jb (by omega)) (fun i ys H'=>H'=H2/\ys=((g.map sm).take i).map V.int) ⟨rfl,rfl⟩ (fun _ _ _ _ q=>by rw [q.1];exact .of G2.at_) (fun i ys H' q=>by rw [q.2];simp;omega) ?_ ?_
   ·rintro i x ys H3 hx ⟨rfl,rfl⟩
    obtain ⟨r,hr,pr,rfl,hpr⟩:=All2.at G2.rowsV hx;walk_at "dl";refine ⟨r,.of hpr,⟨_,rfl⟩,?_⟩;rw [take_add_one,yN,hr,yP];rfl
   ·rintro ys H3 ⟨rfl,rfl⟩ p1 hp1
    have et:(g.map sm).take (ps.map V.ref).length=g.map sm:=take_of_length_le (by rw [hpl,yC,hr2];exact yj _);rw [et];refine ⟨g.map sm,.of J1,?_⟩;have u1:=Same.upd_new hp1 (HO.lst ((g.map sm).map V.int));generalize upd H3 p1 (HO.lst ((g.map sm).map V.int))=H4 at *;have G4:=G2.keep u1;have s4:=s2.trans u1;have hs4:=s4.seq hs;have nn:0<=sm (g.map sm):=J0h fun z hz=>by
     obtain ⟨r,hr,rfl⟩:=yU.mp hz;exact J0h (ok2.ok.pos r hr)
    by_cases c:List.foldl (fun x1 x2=>x1+x2) 0 (g.map sm)=0
    ·rw [yi c]
     refine ⟨a,ns,_,_,rfl,hs4,by decide,by decide,by decide,fun v v0 v1=>⟨v,rfl,a,ns,_,_,rfl,hs4,by decide,by decide,by omega,fun y y0 y1=>?_⟩⟩;obtain ⟨i,rfl⟩:∃ i:Nat,y=(i:Int):=⟨y.toNat,by omega⟩;have hiR:i<R:=by omega
     have hi2:i<ps.length:=by omega
     refine ⟨p,_,_,V.ref ps[i],rfl,rfl,.of G4.at_,Jt (by rw [yN,yA hi2];rfl),a,ns,_,_,rfl,hs4,by decide,by decide,by omega,fun z z0 z1=>?_⟩;obtain ⟨j,rfl⟩:∃ j:Nat,z=(j:Int):=⟨z.toNat,by omega⟩;have hjC:j<C:=by omega
     obtain ⟨pr,r,h1,h2,h3,G5⟩:=G4.put (R:=R) (C:=C) (b:=(i,j)) ⟨hr2,ok2.ok.cols⟩ ⟨hiR,hjC⟩ (1+v);have e1:ps[i]=pr:=yq ((yA hi2).symm.trans h1);have fr:=f2 pr (yG h1);have hs1:=DOk.set (R:=R) (C:=C) (b:=(i,j)) ⟨hr2,ok2.ok.cols⟩ ⟨hiR,hjC⟩ (1+v);have bm9:(9:Int)<=BM:=by unfold BM;decide
     rw [e1];refine ⟨pr,_,_,j,rfl,rfl,h2,by rw [yC];exact J4G h3,?_⟩;refine k _ p _ _ (s4.set fr _) G5.at_ G5.rowsV ⟨⟨hs1.rows,hs1.cols,fun r' hr' x hx=>?_⟩,fun r' hr' x hx=>?_⟩ (JbF ok2.ok hiR hjC (by omega))
     ·rcases J5B hr2 hiR hr' hx with e | ⟨r'',q1,q2⟩
      ·omega
      ·exact ok2.ok.pos r'' q1 x q2
     ·rcases J5B hr2 hiR hr' hx with e | ⟨r'',q1,q2⟩
      ·omega
      ·exact ok2.b r'' q1 x q2
    ·rw [yh c]
     exact k H4 p _ g s4 G4.at_ G4.rowsV ok2 (by show 0<List.foldl (fun x1 x2=>x1+x2) 0 (g.map sm);have:0<=List.foldl (fun x1 x2=>x1+x2) 0 (g.map sm):=nn;omega)
def J9W (K:Frag):Sp:=fun vs H Q _=>∃ (p l:Addr) (r:List Int) (xs:List V) (gs:List (List Int)),vs=[.ref p,.ref l]/\H p=some (.lst (r.map V.int))/\H l=some (.lst xs)/\GridV H xs gs/\gs.length<=100/\r.length<=100 /\
 ∀ H' (b:Bool),Same H H'->(b=true->∀ o∈gs,J3h r o)->Q (.bl b) H'
theorem ok_l_fits (T:Txt K mg f fd):FnOk P w K mg base CX0 1 (f 29) (fd 29) ["_law_group","_law_groups_here"] (J9W K):=by
 walk_at "ok wR J40"
 ·obtain ⟨p,l,r,xs,gs,rfl,_⟩:=h
  rfl
 ·obtain ⟨p,l,r,xs,gs,rfl,hp,hl,hg,hg1,hr1,k⟩:=h
  refine ⟨_,(Jc (J0a PassesOwn.never rfl (J00 rfl (pvl 1)) (pgc 2 J40.nd)
   (Jc (psl 3 J40.nd (JA (J0v rfl) T.wa JX rfl (by decide) (by decide) rfl (pal rfl (JY ["_law_place"] ["_law_group","_law_groups_here","_law_other","_law_both"] rfl (show CompSc _ (Jf J3w) ["_law_group","_law_groups_here","_law_other","_law_both"] ["_law_group","_law_groups_here","_law_other","_law_both"] from Jr (by decide +kernel)) (J00 rfl (pvl 0)) (fun _ _ _ _ _=>(pgl 0 (show (["_law_place","_law_group","_law_groups_here","_law_other","_law_both"]:List Str).Nodup by decide +kernel))) (fun _ _ _ _ _=>(J2S (Jw (Jbz rfl hr.units) (pvl 0) (pvc 3) rfl))) (fun _ _ _ _ _=>(pvl 0))) Ja)))
   (Jg (J0n (PW.pt (J5e (Jw J5o (pvl 3) Je (JB _)) (J3y (Jw J3B (pvl 3) (JA (J6u rfl) T.wG J8S rfl (by decide) (by decide) rfl (pal rfl (JA (J0v rfl) T.wa JX rfl (by decide) (by decide) rfl (pal rfl (pvl 0) Ja)) (pal rfl (JA (J0v rfl) T.wa JX rfl (by decide) (by decide) rfl (pal rfl (pvc 2) Ja)) Ja))) (JB _)))))
   (Jg (Jx J1T))
   JC))))
   (Jg (Jx J1T))),?_⟩
  generalize hB:J4s _ _ _=B;walk_at "dl";have hm:∀ zs:List Int,(zs.map V.int).length=zs.length:=fun zs=>yC ..;have hgl:=hg.1;refine J0b ?_;walk_at "dl";refine ⟨⟨_,.of hl⟩,?_⟩;refine ForW.of Jm (fun i σ H'=>(∃ v2 v3,σ=[some (V.ref p),some (V.ref l),v2,v3])/\Same H H'/\∀ o∈gs.take i,J3h r o) ⟨⟨none,none,rfl⟩,Same.refl _,fun _ z=>by simp at z⟩ (fun i σ H' _ q=>.of (q.2.1 _ _ hl)) ?_ ?_
  ·rintro i x σ H1 hx ⟨⟨v2,v3,rfl⟩,s1,ok1⟩
   obtain ⟨o,ho,q,rfl,hq0⟩:=All2.at hg hx;have hp1:=s1 _ _ hp;have hq:=s1 _ _ hq0;walk_at "dl";refine ⟨⟨_,.of hp1⟩,?_⟩;refine JE (xs:=r.map V.int) Jm (by rw [hm];exact Jb (by omega)) (fun i ys H'=>H'=H1/\ys=(J12 (r.take i) o).map V.int) ⟨rfl,rfl⟩ (fun _ _ _ _ q=>by rw [q.1];exact .of hp1) (fun i ys H' q=>by rw [q.2,hm];unfold J12;exact yx (length_filter_le _ _) (by rw [yI];omega)) ?_ ?_
   ·rintro i v ys H2 hv ⟨rfl,rfl⟩
    rw [yN] at hv;obtain ⟨z,hz,rfl⟩:=Option.map_eq_some_iff.mp hv;walk_at "dl";refine intIn_of hq ⟨_,rfl,?_⟩;unfold J12;rw [take_succ,hz,filter_append,yP];by_cases c:z∈o
    ·rw [yi (by simp [c])]
     refine ⟨⟨_,rfl⟩,rfl,?_⟩;simp [c]
    ·rw [yh (by simp [c])]
     refine ⟨⟨_,rfl⟩,rfl,?_⟩;simp [c]
   ·rintro ys H2 ⟨rfl,rfl⟩ D hD
    rw [hm,yO];have u1:=Same.upd_new hD (HO.lst ((J12 r o).map V.int));have g1:upd H2 D (HO.lst ((J12 r o).map V.int)) D=some (.lst ((J12 r o).map V.int)):=J1;generalize upd H2 D (HO.lst ((J12 r o).map V.int))=H3 at *;have s3:=s1.trans u1;refine ⟨_,.inl (.of g1),?_⟩;rw [hm];have more:J3h r o->∀ o'∈gs.take (i+1),J3h r o':=fun z o' ho'=>by
     rw [take_succ,ho] at ho';rcases yQ.mp ho' with e | e
     ·exact ok1 o' e
     ·rw [show o'=o by simpa using e];exact z
    subst hB;walk_at "dl";by_cases c:0<((J12 r o).length:Int)
    ·rw [yi c]
     refine ⟨_,.inl (.of (u1 _ _ hp1)),_,.inl (.of (u1 _ _ hq)),?_⟩;rw [hm,hm]
     split
     ·split
      ·exact k H3 false s3 fun z=>nomatch z
      ·exact ⟨⟨_,rfl⟩,s3,more (.inr (by omega))⟩
     ·split
      ·exact k H3 false s3 fun z=>nomatch z
      ·exact ⟨⟨_,rfl⟩,s3,more (.inr (by omega))⟩
    ·rw [yh c]
     exact ⟨⟨_,rfl⟩,s3,more (.inl (eq_nil_of_length_eq_zero (by omega)))⟩
  ·rintro σ H1 ⟨⟨v2,v3,rfl⟩,s1,ok1⟩
   walk_at "dl";rw [hgl,yO] at ok1;exact k H1 true s1 fun _=>ok1
theorem J9Z (hx:x.Pairwise (·<·))(hy:y.Pairwise (·<·)):J12 x y=J12 y x :=
 rise_eq (hx.filter _) (hy.filter _) fun k=>by
  unfold J12;rw [mem_filter,mem_filter,decide_eq_true_iff,decide_eq_true_iff];exact ⟨fun z=>⟨z.2,z.1⟩,fun z=>⟨z.2,z.1⟩⟩
theorem Jcx (hx:x.Pairwise (·<·))(hy:y.Pairwise (·<·))(h:J3h x y):J3h y x:=by
 unfold J3h at *;rw [J9Z hy hx];rcases h with h | h | h
 ·exact .inl h
 ·exact .inr (.inr h)
 ·exact .inr (.inl h)
theorem Jao {o:HO}(h:GridV H xs gs)(n:∀ x∈xs,x≠V.ref D):GridV (upd H D o) xs gs :=
 ⟨h.1,fun i x r hx hr=>by
  obtain ⟨p,e,g⟩:=h.2 i x r hx hr;exact ⟨p,e,by rw [Jd fun z=>n x (yG hx) (by rw [e,z])];exact g⟩⟩
theorem J9n {α:Type}{xs:List α}{k:Nat}{y x:α}(h:x∈xs.take k++y::xs.drop k):x=y\/x∈xs:=by
 rcases yQ.mp h with h | h
 ·exact .inr (mem_of_mem_take h)
 ·rcases yL.mp h with h | h
  ·exact .inl h
  ·exact .inr (mem_of_mem_drop h)
theorem Jap {k:Nat}{x:V}(h:GridV H xs gs)(hx:RowAt H x r):GridV H (xs.take k++x::xs.drop k) (gs.take k++r::gs.drop k):=by
 have h1:GridV H (xs.take k) (gs.take k):=J4e h k;have h2:GridV H (xs.drop k) (gs.drop k):=J6C h k;have h3:=All2.append (All2.snoc h1 hx) h2;rw [yY,yY] at h3;exact h3
theorem Jdw {k:Nat}(h:gs.Pairwise fun a b=>J3h b a)(h1:∀ o∈gs,J3h r o)(h2:∀ o∈gs,J3h o r):(gs.take k++r::gs.drop k).Pairwise fun a b=>J3h b a:=by
 have e:=h;rw [<- take_append_drop k gs,pairwise_append] at e;refine pairwise_append.mpr ⟨e.1,pairwise_cons.mpr ⟨fun o ho=>h2 o (mem_of_mem_drop ho),e.2.1⟩,fun a ha b hb=>?_⟩;rcases yL.mp hb with z | z
 ·rw [z];exact h1 a (mem_of_mem_take ha)
 ·exact e.2.2 a ha b z
structure GrI (n m:Nat)(gs:List (List Int)):Prop where
 len:gs.length<=m
 ok:∀ r∈gs,J3U n r
 pw:gs.Pairwise fun a b=>J3h b a
structure GrS (H H':Hp)(D:Addr)(gs:List (List Int)):Prop where
 same:Same H H'
 d:∃ xs,H' D=some (.lst xs)/\GridV H' xs gs/\∀ x∈xs,x≠V.ref D
def J7r (K:Frag):Sp:=fun vs H Q _=>∃ (a:Addr) (ns:List Int) (at_ n most:Nat),vs=[.ref a,.int at_,.int n,.int most]/\SqL K H a (ns.map V.int)/\at_<=100/\1<=n/\n<=8/\most<=8 /\
 ∀ H' D xs gs,Same H H'->H' D=some (.lst xs)->GridV H' xs gs->J3i n gs->Q (.ref D) H'
theorem ok_l_groups (T:Txt K mg f fd):FnOk P w K mg base CX0 2 (f 30) (fd 30) ["_law_script","_law_at","_law_size","_law_most"] (J7r K):=by
 walk_at "ok wB J0G"
 ·obtain ⟨a,ns,at_,n,most,rfl,_⟩:=h
  rfl
 ·obtain ⟨a,ns,at_,n,most,rfl,hs,hat,hn1,hn,hmo,k⟩:=h
  refine ⟨_,(Jc (psl 4 J0G.nd (J0l Ja))
   (Jc (J0a PassesOwn.never rfl (J0Z rfl T.wj (pal rfl (pvl 2) Ja)) (pgl 5 J0G.nd)
   (Jg (J05 (J1m rfl y9 PySem.F.slot_list_insert PySem.F.type_list_insert J6g rfl rfl rfl rfl (pvl 4) (pal rfl (Jj T.we (ok_l_draw T) (hr.mono (by decide)) rfl (by decide) rfl (pal rfl (pvl 0) (pal rfl (Jl J0d (pvl 1) (pvl 5)) (pal rfl (Jl J0d (pvl 5) Je) Ja)))) (pal rfl (pvl 5) Ja))))))
   (Jc (psl 6 J0G.nd (J0l Ja))
   (Jc (J0a PassesOwn.never rfl (J0Z rfl T.wj (pal rfl (pvl 3) Ja)) (pgl 7 J0G.nd)
   (Jc (psl 8 J0G.nd (Jj T.we (ok_l_draw T) (hr.mono (by decide)) rfl (by decide) rfl (pal rfl (pvl 0) (pal rfl (Jl J0d (pvl 1) (Jl J2c Je (pvl 7))) (pal rfl (pvl 2) Ja)))))
   (Jc (psl 9 J0G.nd (JA (JcL rfl rfl) T.wq J6w rfl (by decide) (by decide) rfl (pal rfl (J2D (J9p rfl) (pvl 4) (J29 (pvl 8)) (J29 (Jl J0d (Jl J0d (pvl 8) Je) (Jj T.we (ok_l_draw T) (hr.mono (by decide)) rfl (by decide) rfl (pal rfl (pvl 0) (pal rfl (Jl J0d (Jl J0d (pvl 1) (Jl J2c Je (pvl 7))) Je) (pal rfl (Jl J6Y (pvl 2) (pvl 8)) Ja))))))) Ja)))
   (Jg (J0n (J2B (Jj T.wR (ok_l_fits T) (hr.mono (by decide)) rfl (by decide) rfl (pal rfl (pvl 9) (pal rfl (pvl 6) Ja))))
   (Jg (J05 (J1m rfl y9 PySem.F.slot_list_insert PySem.F.type_list_insert J6g rfl rfl rfl rfl (pvl 6) (pal rfl (Jj T.we (ok_l_draw T) (hr.mono (by decide)) rfl (by decide) rfl (pal rfl (pvl 0) (pal rfl (Jl J0d (pvl 1) (pvl 7)) (pal rfl (Jl J0d (JA (J0v rfl) T.wa JX rfl (by decide) (by decide) rfl (pal rfl (pvl 6) Ja)) Je) Ja)))) (pal rfl (pvl 9) Ja)))))
   JC)))))
   (Jg (Jx (pvl 6))))))),?_⟩
  generalize hB3:J3m _=B3;generalize hB2:J0r (J3W _ _ _) B3=B2;generalize hB1:J0r (J2q _ _) B2=B1;walk_at "dl";refine ⟨yw _,fun O hO=>?_⟩;have s1:=Same.upd_new hO (HO.lst []);have d1:upd H O (HO.lst []) O=some (.lst []):=J1;generalize upd H O (HO.lst [])=H1 at *;refine J0b ?_;walk_at "dl";refine ⟨by omega,by omega,?_⟩;rw [Int.toNat_natCast];refine ForW.of J0D (fun i σ H'=>(∃ v5,σ=[some (V.ref a),some (V.int (at_:Int)),some (V.int (n:Int)),some (V.int (most:Int)),some (V.ref O),v5,none,none,none,none])/\Same H H'/\∃ os:List Int,H' O=some (.lst (os.map V.int))/\os.Perm (upI i)) ⟨⟨none,rfl⟩,s1,[],d1,List.Perm.refl _⟩ (fun _ _ _ _ _=>trivial) ?_ ?_
  ·rintro i x σ H2 hx ⟨⟨v5,rfl⟩,s2,os,h2,p2⟩
   obtain ⟨hi,rfl⟩:=J0W hx;have ol:os.length=i:=by rw [p2.length_eq];unfold upI;rw [yC,yX]
   walk_at "dl";refine ⟨.inl ⟨rfl,_,.of h2⟩,a,ns,_,_,rfl,s2.seq hs,by omega,by omega,by omega,fun u u0 u1=>?_⟩;obtain ⟨q,rfl⟩:∃ q:Nat,u=(q:Int):=⟨u.toNat,by omega⟩;refine ⟨O,_,q,_,rfl,rfl,h2,by rw [yC];omega,by rw [yC];omega,⟨_,rfl⟩,s2.set hO _,os.take q++(i:Int)::os.drop q,?_,?_⟩
   ·rw [J1,yP,yM,map_take,map_drop,Int.zero_add]
   ·rw [J7l]
    refine perm_middle.trans ?_;rw [take_append_drop];exact (perm_append_singleton _ _).symm.trans (p2.append_right _)
  ·rintro σ H2 ⟨⟨v5,rfl⟩,s2,os,h2,p2⟩
   rw [JK] at p2;have ol:os.length=n:=by rw [p2.length_eq];unfold upI;rw [yC,yX]
   have hs2:=s2.seq hs
   replace k:=fun H' D xs gs (s':Same H2 H')=>k H' D xs gs (s2.trans s')
   clear s1 d1 hO hs s2;subst hB1;walk_at "dl";refine ⟨yw _,fun D hD=>?_⟩;have G0:GrS H2 (upd H2 D (HO.lst [])) D []:=⟨Same.upd_new hD _,[],J1,All2.nil,fun _ z=>nomatch z⟩;generalize upd H2 D (HO.lst [])=H3 at *;subst hB2;walk_at "dl";refine J0b ?_;walk_at "dl";refine ⟨by omega,by omega,?_⟩;rw [Int.toNat_natCast];refine ForW.of J0D (fun i σ H'=>(∃ v7 v8 v9,σ=[some (V.ref a),some (V.int (at_:Int)),some (V.int (n:Int)),some (V.int (most:Int)),some (V.ref O),v5,some (V.ref D),v7,v8,v9])/\∃ gs,GrS H2 H' D gs/\GrI n i gs) ⟨⟨none,none,none,rfl⟩,[],G0,⟨yj _,(fun _ z=>nomatch z),List.Pairwise.nil⟩⟩ (fun _ _ _ _ _=>trivial) ?_ ?_
   ·rintro i x σ H4 hx ⟨⟨v7,v8,v9,rfl⟩,gs,S4,I4⟩
    obtain ⟨hi,rfl⟩:=J0W hx;have hs4:=S4.same.seq hs2;have gl:=I4.len;walk_at "dl";refine ⟨.inl ⟨by decide,by decide⟩,a,ns,_,_,rfl,hs4,by omega,by omega,by omega,fun u u0 u1=>?_⟩;obtain ⟨q,rfl⟩:∃ q:Nat,u=(q:Int):=⟨u.toNat,by omega⟩;refine ⟨_,rfl,_,rfl,.inl ⟨by decide,by decide⟩,_,rfl,a,ns,_,_,rfl,hs4,by omega,by omega,by omega,fun y y0 y1=>?_⟩;obtain ⟨e,rfl⟩:∃ e:Nat,y=(e:Int):=⟨y.toNat,by omega⟩;have hqe:q+(1+e)<=os.length:=by omega
    refine ⟨_,rfl,_,.of (S4.same _ _ h2),fun c hc=>?_⟩;rw [show (q:Int)+1+(e:Int)=((q+(1+e):Nat):Int) by omega,J9I hqe];refine ⟨_,.of J1,by rw [yI,length_drop];omega,fun p ms hp pm pw=>?_⟩;have ond:os.Nodup:=p2.nodup_iff.mpr ((JaB n).imp fun z=>by omega);have cnd:((os.drop q).take (1+e)).Nodup:=ond.sublist ((take_sublist _ _).trans (drop_sublist _ _));have mnd:ms.Nodup:=pm.nodup_iff.mpr cnd;have mgr:J3U n ms:=by
     refine ⟨fun z=>?_,?_,fun z hz=>?_⟩
     ·have:=pm.length_eq
      rw [z,yI,length_drop] at this;simp at this;omega
     ·exact (pw.and mnd).imp fun z=>by omega
     ·have h1:=pm.mem_iff.mp hz
      have h2:=(p2.mem_iff (a:=z)).mp (mem_of_mem_drop (mem_of_mem_take h1));exact J71.mp h2
    have s5:=(Same.upd_new hc (HO.lst (((os.drop q).take (1+e)).map V.int))).new hp (HO.lst (ms.map V.int));have d5:upd (upd H4 c (HO.lst (((os.drop q).take (1+e)).map V.int))) p (HO.lst (ms.map V.int)) p=some (.lst (ms.map V.int)):=J1;generalize upd (upd H4 c (HO.lst (((os.drop q).take (1+e)).map V.int))) p (HO.lst (ms.map V.int))=H5 at *;obtain ⟨xs,hd,hV,hne⟩:=S4.d;have ml:=J2K mgr;have hpD:p≠D:=fun z=>by
     rw [z] at hp;rw [(Same.upd_new hc _) _ _ hd] at hp;cases hp
    refine ⟨p,D,ms,xs,gs,rfl,d5,s5 _ _ hd,hV.mono s5,by omega,by omega,fun H6 b s6 fit=>⟨b,rfl,?_⟩⟩;have S6:=s5.trans s6;cases b with
    | false =>
      rw [yh (by decide)];exact ⟨⟨_,rfl⟩,gs,⟨S4.same.trans S6,xs,S6 _ _ hd,hV.mono S6,hne⟩,⟨by omega,I4.ok,I4.pw⟩⟩
    | true =>
      rw [yi rfl];have hxl:=hV.1;refine ⟨.inl ⟨rfl,_,.of (S6 _ _ hd)⟩,_,.inl (.of (S6 _ _ hd)),a,ns,_,_,rfl,S6.seq hs4,by omega,by omega,by omega,fun w w0 w1=>?_⟩;obtain ⟨t,rfl⟩:∃ t:Nat,w=(t:Int):=⟨w.toNat,by omega⟩;have hne':∀ x∈xs.take t++V.ref p::xs.drop t,x≠V.ref D:=fun x hx=>by
       rcases J9n hx with rfl | hx
       ·exact fun e=>hpD (by injection e)
       ·exact hne x hx
      have f1:=fit rfl;refine ⟨D,xs,t,V.ref p,rfl,rfl,S6 _ _ hd,by omega,by omega,⟨_,rfl⟩,gs.take t++ms::gs.drop t,⟨(S4.same.trans S6).set hD _,_,J1,Jao (Jap (hV.mono S6) ⟨p,rfl,s6 _ _ d5⟩) hne',hne'⟩,⟨?_,fun r hr=>?_,Jdw I4.pw f1 fun o ho=>Jcx mgr.2.1 (I4.ok o ho).2.1 (f1 o ho)⟩⟩
      ·rw [yH,length_cons,yI,length_drop];omega
      ·rcases J9n hr with rfl | hr
       ·exact mgr
       ·exact I4.ok r hr
   ·rintro σ H4 ⟨⟨v7,v8,v9,rfl⟩,gs,S4,I4⟩
    rw [JK] at I4;obtain ⟨xs,hd,hV,hne⟩:=S4.d;have:=I4.len;subst hB3;walk_at "dl";exact k H4 D xs gs S4.same hd hV ⟨by omega,I4.ok,I4.pw⟩
theorem JdL {x n:Int}(hw:0<whole)(h:Nr many whole x n):x=n * many / whole\/(x=n * many / whole+1/\0<n * many % whole):=by
 obtain ⟨h1,h2⟩:=h;rw [Int.neg_mul] at h2;generalize n * many=p at *;have a1:=Int.mul_ediv_add_emod p whole;have a2:=Int.mul_ediv_add_emod (-p) whole;have b1:=yu p (Int.ne_of_gt hw);have b2:=yt p hw;have b3:=yu (-p) (Int.ne_of_gt hw);have b4:=yt (-p) hw;generalize p / whole=q at *;generalize p % whole=r at *;generalize -p / whole=q' at *;generalize -p % whole=r' at *;have e:whole * (q+q')=-(r+r'):=by rw [Int.mul_add];omega
 by_cases c:x=q
 ·exact .inl c
 ·have hs:q+q'<=-1:=by omega
  have hs2:-2<q+q':=by
   apply Int.lt_of_not_ge;intro z;have:=Int.mul_le_mul_of_nonneg_left z (Int.le_of_lt hw);omega
  have e3:q+q'=-1:=by omega
  rw [e3] at e;exact .inr ⟨by omega,by omega⟩
theorem JdM {x:Int}(hw:0<whole)(h:Nr many whole x whole):x=many:=by
 obtain ⟨h1,h2⟩:=h;rw [Int.mul_ediv_cancel_left _ (Int.ne_of_gt hw)] at h1;rw [Int.neg_mul,<- Int.mul_neg,Int.mul_ediv_cancel_left _ (Int.ne_of_gt hw)] at h2;omega
def J9T (K:Frag):Sp:=fun vs H Q _=>∃ (x n many whole:Int),vs=[.int x,.int n,.int many,.int whole]/\-BB<n/\n<BB/\0<=many/\many<BB/\0<whole/\whole<BB/\Nr many whole x n/\Q (.bl true) H
theorem Ja8 (T:Txt K mg f fd):FnOk P w K mg base CX0 1 (f 31) (fd 31) ["_law_found","_law_number","_law_many_here","_law_whole"] (J9T K):=by
 walk_at "ok wS J6b"
 ·obtain ⟨x,n,many,whole,rfl,_⟩:=h
  rfl
 ·obtain ⟨x,n,many,whole,rfl,n0,n1,m0,m1,w0,w1,nr,k⟩:=h
  refine ⟨_,(Jc (psl 4 J6b.nd (Jl J5p (Jl J4F (pvl 1) (pvl 2)) (pvl 3)))
   (Jg (Jx (Jeh (J3A J1H (pvl 0) (pvl 4) (JB _)) (J8x (Jbn (J3A J1H (pvl 0) (Jl J0d (pvl 4) Je) (JB _)) (J8x (J3A J5o (Jl J1K (Jl J4F (pvl 1) (pvl 2)) (pvl 3)) Je (JB _))))))))),?_⟩
  walk_at "dl";have e:=JdL w0 nr;refine ⟨by omega,by omega,by omega,by omega,by omega,by omega,?_⟩;rcases e with e | ⟨e,e2⟩
  ·rw [yi e]
   exact k
  ·rw [yh (by omega),yi e,ym e2]
   exact ⟨by omega,by omega,by omega,by omega,by omega,k⟩
def J6M (K:Frag):Sp:=fun vs H Q _=>∃ (lt la:Addr) (ts xs:List V) (t g:List (List Int)) (R C:Nat),vs=[.ref lt,.ref la]/\H lt=some (.lst ts)/\GridV H ts t/\H la=some (.lst xs)/\GridV H xs g/\DOk t R C/\DOk g R C/\1<=R/\Q (.bl true) H
theorem ok_l_is_grid (T:Txt K mg f fd):FnOk P w K mg base CX0 1 (f 32) (fd 32) ["_law_told","_law_grid_here"] (J6M K):=by
 walk_at "ok wT J24"
 ·obtain ⟨lt,la,ts,xs,t,g,R,C,rfl,_⟩:=h
  rfl
 ·obtain ⟨lt,la,ts,xs,t,g,R,C,rfl,hlt,ht,hla,hg,dt,dg,hR,k⟩:=h
  refine ⟨_,(Jc (J0n (PW.pt (J7B (J2C (J2B (JA (J9q rfl) T.wp J1h rfl (by decide) (by decide) rfl (pal rfl (pvl 0) (pal rfl (pty T.wl J1r) Ja))))) (J5d (Jw Jbr (JA (J0v rfl) T.wa JX rfl (by decide) (by decide) rfl (pal rfl (pvl 0) Ja)) (JA (J0v rfl) T.wa JX rfl (by decide) (by decide) rfl (pal rfl (pvl 1) Ja)) (JB _)))))
   (Jg (Jx J1T))
   JC)
   (Jc (J0a PassesOwn.never rfl (J00 rfl (pvl 0)) (pgl 2 J24.nd)
   (Jc (J0n (PW.pt (J7B (J2C (J2B (JA (J9q rfl) T.wp J1h rfl (by decide) (by decide) rfl (pal rfl (pvl 2) (pal rfl (pty T.wl J1r) Ja))))) (J5d (Jw Jbr (JA (J0v rfl) T.wa JX rfl (by decide) (by decide) rfl (pal rfl (pvl 2) Ja)) (JA (J0v rfl) T.wa JX rfl (by decide) (by decide) rfl (pal rfl (JT (J0q rfl) (pvl 1) Je (fun _ _=>rfl)) Ja)) (JB _)))))
   (Jg (Jx J1T))
   JC)
   (Jg (J0a PassesOwn.never rfl (J00 rfl (pvl 2)) (pgl 3 J24.nd)
   (Jg (J0n (PW.pt (J7B (J2C (J2B (JA (J9q rfl) T.wp J1h rfl (by decide) (by decide) rfl (pal rfl (pvl 3) (pal rfl (pty T.yb Je3) Ja))))) (J5d (J2B (JA (J9q rfl) T.wp J1h rfl (by decide) (by decide) rfl (pal rfl (pvl 3) (pal rfl (pty T.w9 JcV) Ja)))))))
   (Jg (Jx J1T))
   JC))))))
   (Jg (Jx J1T)))),?_⟩
  walk_at "dl";have htl:=ht.1;have hgl:=hg.1;have h1:=dt.rows;have h2:=dg.rows;obtain ⟨r0,hr0⟩:∃ r0,g[0]?=some r0:=⟨_,yA (by omega)⟩;obtain ⟨x0,hx0,p0,rfl,hp0⟩:=All2.at' hg hr0;have l0:=dg.cols r0 (yG hr0);refine ⟨_,Pl.of_lst hlt,by decide,?_⟩;rw [show Jaj "list" "list"=true from rfl,yh (by decide)];refine ⟨_,.inl (.of hlt),_,.inl (.of hla),?_⟩;rw [yh (by simp;omega)];refine J0b ?_;walk_at "dl";refine ⟨⟨_,.of hlt⟩,?_⟩;refine ForW.of Jm (fun i σ H'=>(∃ v2 v3,σ=[some (V.ref lt),some (V.ref la),v2,v3])/\H'=H) ⟨⟨none,none,rfl⟩,rfl⟩ (fun i σ H' _ q=>by rw [q.2];exact .of hlt) ?_ ?_
  ·rintro i x σ H1 hx ⟨⟨v2,v3,rfl⟩,rfl⟩
   obtain ⟨r,hr,pr,rfl,hpr⟩:=All2.at ht hx;have lr:=dt.cols r (yG hr);walk_at "dl";refine ⟨_,Pl.of_lst hpr,by decide,?_⟩;rw [show Jaj "list" "list"=true from rfl,yh (by decide)];refine ⟨_,.inl (.of hpr),la,_,_,V.ref p0,rfl,rfl,.of hla,Jt (j:=0) hx0,p0,rfl,_,.inl (.of hp0),?_⟩;rw [yC,yC,lr,l0,yh (by simp)];refine J0b ?_;walk_at "dl";refine ⟨⟨_,.of hpr⟩,?_⟩;refine ForW.of Jm (fun j σ H'=>(∃ v3,σ=[some (V.ref lt),some (V.ref la),some (V.ref pr),v3])/\H'=H1) ⟨⟨_,rfl⟩,rfl⟩ (fun i σ H' _ q=>by rw [q.2];exact .of hpr) ?_ ?_
   ·rintro j y σ H2 hy ⟨⟨v3,rfl⟩,rfl⟩
    rw [yN] at hy;obtain ⟨z,hz,rfl⟩:=Option.map_eq_some_iff.mp hy;walk_at "dl";refine ⟨_,Pl.of_int,by decide,?_⟩;rw [show Jaj "int" "int"=true from rfl,yh (by decide)];refine ⟨_,Pl.of_int,by decide,?_⟩;rw [show Jaj "int" "bool"=false from rfl,yh (by decide)];exact ⟨_,rfl⟩
   ·rintro σ H2 ⟨⟨v3,rfl⟩,rfl⟩
    exact ⟨⟨_,_,rfl⟩,rfl⟩
  ·rintro σ H1 ⟨⟨v2,v3,rfl⟩,rfl⟩
   walk_at "dl";exact k
def bs (b:Nat->Nat->Int)(rs cs:List Int):Int:=sm (rs.map fun i=>sm (cs.map fun c=>b i.toNat c.toNat))
def tAt (t:List (List Int))(i c:Nat):Int:=(t.getD i []).getD c 0
def InR (n:Nat)(r:List Int):Prop:=∀ z∈r,0<=z/\z<(n:Int)
def JaS (K:Frag):Sp:=fun vs H Q _=>∃ (lt lr lc:Addr) (ts:List V) (t:List (List Int)) (rs cs:List Int) (R C:Nat),vs=[.ref lt,.ref lr,.ref lc]/\H lt=some (.lst ts)/\GridV H ts t/\DOk t R C/\H lr=some (.lst (rs.map V.int))/\H lc=some (.lst (cs.map V.int))/\InR R rs/\InR C cs/\rs.length<=100/\cs.length<=100 /\
 ∀ H',Same H H'->Q (.int (bs (tAt t) rs cs)) H'
theorem ok_l_sum (T:Txt K mg f fd):FnOk P w K mg base CX0 1 (f 33) (fd 33) ["_law_grid_here","_law_rows","_law_columns"] (JaS K):=by
 walk_at "ok wm JaZ"
 ·obtain ⟨lt,lr,lc,ts,t,rs,cs,R,C,rfl,_⟩:=h
  rfl
 ·obtain ⟨lt,lr,lc,ts,t,rs,cs,R,C,rfl,hlt,ht,dt,hlr,hlc,ir,ic,hrs,hcs,k⟩:=h
  refine ⟨_,(Jg (Jx (JA (J1c rfl rfl) T.wg J1d rfl (by decide) (by decide) rfl (pal rfl (J7D ["_law_row"] ["_law_grid_here","_law_rows","_law_columns"] rfl (show CompScC _ (Jf J3t) ["_law_grid_here","_law_rows","_law_columns"] ["_law_grid_here","_law_rows","_law_columns"] from J5L (by decide +kernel)) (J00 rfl (pvl 1)) (fun _ _ _ _ _=>(pgc 0 (show (["_law_row","_law_grid_here","_law_rows","_law_columns"]:List Str).Nodup by decide +kernel))) (fun _ _ _ _ _=>JR) (fun _ _ _ _ _=>(JA (J1c rfl rfl) T.wg J1d rfl (by decide) (by decide) rfl (pal rfl (JY ["_law_column"] ["_law_row","_law_grid_here","_law_rows","_law_columns"] rfl (J7T (osc:=Jf J3t) (N:=["_law_row","_law_grid_here","_law_rows","_law_columns"]) rfl rfl (Jr (by decide +kernel))) (J00 (K:=K) rfl (pvc 3)) (fun _ _ _ _ _=>(pgl 0 (show (["_law_column","_law_row","_law_grid_here","_law_rows","_law_columns"]:List Str).Nodup by decide +kernel))) (fun _ _ _ _ _=>JR) (fun _ _ _ _ _=>(JT (J0q rfl) (JT (J0q rfl) (pvc 2) (pvc 1) (fun _ _=>rfl)) (pvl 0) (fun _ _=>rfl)))) Ja)))) Ja)))),?_⟩;walk_at "dl";have hm:∀ zs:List Int,(zs.map V.int).length=zs.length:=fun zs=>yC ..;have htl:=ht.1;have hdr:=dt.rows;refine ⟨⟨_,.of hlr⟩,?_⟩;refine JE (xs:=rs.map V.int) Jm (by rw [hm];exact Jb (by omega)) (fun i ys H'=>Same H H'/\ys=((rs.take i).map fun i=>sm (cs.map fun c=>tAt t i.toNat c.toNat)).map V.int) ⟨Same.refl _,rfl⟩ (fun _ _ _ _ q=>.of (q.1 _ _ hlr)) (fun i ys H' q=>by rw [q.2,hm,yC,yI];omega) ?_ ?_
  ·rintro i x ys H1 hx ⟨s1,rfl⟩
   rw [yN] at hx;obtain ⟨z,hz,rfl⟩:=Option.map_eq_some_iff.mp hx;have iz:=ir z (yG hz);obtain ⟨m,rfl⟩:∃ m:Nat,z=(m:Int):=⟨z.toNat,by omega⟩;obtain ⟨r,hr⟩:∃ r,t[m]?=some r:=⟨_,yA (by omega)⟩;obtain ⟨x0,hx0,p0,rfl,hp0⟩:=All2.at' ht hr;have rl:=dt.cols r (yG hr);walk_at "dl";have hlc1:=s1 _ _ hlc;refine ⟨⟨_,.of hlc1⟩,?_⟩;refine JE (xs:=cs.map V.int) Jm (by rw [hm];exact Jb (by omega)) (fun j zs H'=>H'=H1/\zs=((cs.take j).map fun c=>tAt t m c.toNat).map V.int) ⟨rfl,rfl⟩ (fun _ _ _ _ q=>by rw [q.1];exact .of hlc1) (fun j zs H' q=>by rw [q.2,hm,yC,yI];omega) ?_ ?_
   ·rintro j y zs H2 hy ⟨rfl,rfl⟩
    rw [yN] at hy;obtain ⟨w,hw,rfl⟩:=Option.map_eq_some_iff.mp hy;have iw:=ic w (yG hw);obtain ⟨c,rfl⟩:∃ c:Nat,w=(c:Int):=⟨w.toNat,by omega⟩;have hcl:c<r.length:=by omega
    have e1:tAt t m c=r[c]:=by
     unfold tAt;rw [yF,yF,hr];show (r[c]?).getD 0=_;rw [yA hcl];rfl
    walk_at "dl";refine ⟨lt,_,_,V.ref p0,rfl,rfl,.of (s1 _ _ hlt),Jt hx0,p0,_,_,V.int r[c],rfl,rfl,.of (s1 _ _ hp0),Jt (by rw [yN,yA hcl];rfl),⟨_,rfl⟩,rfl,?_⟩;rw [take_add_one,hw,yP,yP];show _=_++[V.int (tAt t m (c:Int).toNat)];rw [Int.toNat_natCast,e1]
   ·rintro zs H2 ⟨rfl,rfl⟩ D hD
    rw [hm,yO];refine ⟨_,.of J1,⟨_,rfl⟩,s1.new hD _,?_⟩;rw [take_add_one,hz,yP,yP];rfl
  ·rintro ys H1 ⟨s1,rfl⟩ D hD
   rw [hm,yO];exact ⟨_,.of J1,k _ (s1.new hD _)⟩
theorem J8q (x:Int):sm [x]=x:=by show 0+x=x;omega
theorem J7v (f:Nat->Int)(n:Nat):sm ((upI n).map fun z=>f z.toNat)=Ji f n:=by
 unfold upI;rw [map_map,<- J3o];rfl
theorem J1u {f f':Int->Int}{l:List Int}(h:∀ z∈l,f z=f' z):sm (l.map f)=sm (l.map f'):=by rw [map_congr_left h]
theorem J98 (F:Nat->Int->Int)(n:Nat):∀ l:List Int,Ji (fun i=>sm (l.map (F i))) n=sm (l.map fun z=>Ji (fun i=>F i z) n)
 | []=>JQ n fun _ _=>rfl
 | z::l=>by
   rw [yM,J23,<- J98 F n l,<- J2O];exact Jp fun i _=>by rw [yM,J23]
theorem Jdj (l:Lam n ws)(f:Nat->Int)(ht:t<ws.length):Wg n ws f t=sm ((ws.getD t []).map fun z=>f z.toNat):=by
 obtain ⟨_,h1,h2⟩:=l.ok t ht;rw [sm_rise (n:=n) f h1 h2];unfold Wg sP inG;exact Jp fun z _=>by
  by_cases c:(z:Int)∈ws.getD t []
  ·rw [yi c];exact yi c
  ·rw [yh c];exact yh c
theorem Jc8 {b':Nat->Nat->Int}(hr:InR R rs)(hc:InR C cs)(h:∀ i c,i<R->c<C->b i c=b' i c):bs b rs cs=bs b' rs cs :=
 J1u fun i hi=>J1u fun c hc'=>h _ _ (by have:=hr i hi;omega) (by have:=hc c hc';omega)
theorem Jc7 (b:Nat->Nat->Int)(i:Nat)(cs:List Int):bs b [(i:Int)] cs=sm (cs.map fun c=>b i c.toNat):=J8q _
theorem Jc5 (b:Nat->Nat->Int)(i C:Nat):bs b [(i:Int)] (upI C)=Ji (b i) C:=by rw [Jc7,J7v (b i)]
theorem Jca (b:Nat->Nat->Int)(i c:Nat):bs b [(i:Int)] [(c:Int)]=b i c:=by rw [Jc7];exact J8q _
theorem Jc4 (b:Nat->Nat->Int)(rs:List Int)(C:Nat):bs b rs (upI C)=sm (rs.map fun i=>Ji (b i.toNat) C):=J1u fun i _=>J7v (b i.toNat) C
theorem Jc6 (b:Nat->Nat->Int)(rs:List Int)(c:Nat):bs b rs [(c:Int)]=sm (rs.map fun i=>b i.toNat c):=J1u fun i _=>J8q _
theorem Jc9 (b:Nat->Nat->Int)(R c:Nat):bs b (upI R) [(c:Int)]=Ji (fun i=>b i c) R:=by rw [Jc6,J7v fun i=>b i c]
theorem J5Q (b:Nat->Nat->Int)(R C:Nat):bs b (upI R) (upI C)=Ji (fun i=>Ji (b i) C) R:=by rw [Jc4,J7v fun i=>Ji (b i) C]
theorem Jdh (b:Nat->Nat->Int)(R:Nat)(cs:List Int):bs b (upI R) cs=sm (cs.map fun c=>Ji (fun i=>b i c.toNat) R):=by
 show sm ((upI R).map fun i=>(fun n=>sm (cs.map fun c=>b n c.toNat)) i.toNat)=_;rw [J7v fun n=>sm (cs.map fun c=>b n c.toNat)];exact J98 (fun i c=>b i c.toNat) R cs
def Blk (rgs cgs:List (List Int))(R C:Nat)(rs cs:List Int):Prop:=((rs=upI R\/rs∈rgs\/∃ i:Nat,i<R/\rs=[(i:Int)])/\(cs=upI C\/∃ c:Nat,c<C/\cs=[(c:Int)]))\/(rs=upI R/\cs∈cgs)
theorem J3I (n:Nat):InR n (upI n):=fun _ h=>J71.mp h
theorem JbA (h:i<n):InR n [(i:Int)]:=fun z hz=>by rw [yD.mp hz];omega
theorem J21 (n:Nat):(upI n).length=n:=by unfold upI;rw [yC,yX]
theorem Blk.inr (h:Blk rgs cgs R C rs cs)(o1:J3i R rgs)(o2:J3i C cgs):InR R rs/\InR C cs:=by
 rcases h with ⟨h1,h2⟩ | ⟨h1,h2⟩
 ·constructor
  ·rcases h1 with rfl | h | ⟨i,hi,rfl⟩
   ·exact J3I R
   ·exact (o1.2.1 rs h).2.2
   ·exact JbA hi
  ·rcases h2 with rfl | ⟨i,hi,rfl⟩
   ·exact J3I C
   ·exact JbA hi
 ·exact ⟨by rw [h1];exact J3I R,(o2.2.1 cs h2).2.2⟩
theorem JbG (w:J38 gs ws)(h:r∈gs):∃ m,m<ws.length/\ws.getD m []=r:=by
 obtain ⟨m,hm⟩:=yT.mp (w.1.mem_iff.mpr h);exact ⟨m,(yB.mp hm).1,by rw [yF,hm];rfl⟩
theorem pm_blk (ok:GOk g R C)(o1:J3i R rgs)(o2:J3i C cgs)(W1:J38 rgs wr)(W2:J38 cgs wc)(pm:PM g wr wc R C many whole b)(h:Blk rgs cgs R C rs cs) :
 Nr many whole (bs b rs cs) (bs (tAt g) rs cs):=by
 have l1:=J75 o1 W1;have l2:=J75 o2 W2;have hl:=ok.rows;have row:∀ i,i<R->(g.map sm).getD i 0=Ji (tAt g i) C:=fun i hi=>by
  have h':i<g.length:=by omega
  rw [yF,yN,yA h'];show sm g[i]=_;rw [J22,ok.cols _ (getElem_mem h')];exact Jp fun c _=>by unfold tAt;rw [J1t h']
 have col:∀ c,sm (Js g c)=Ji (fun i=>tAt g i c) R:=fun c=>by
  rw [J22,show (Js g c).length=R by unfold Js;rw [yC,hl]];exact Jp fun i hi=>J5N (by omega)
 rcases h with ⟨h1,h2⟩ | ⟨h1,h2⟩
 ·rcases h1 with rfl | h1 | ⟨i,hi,rfl⟩
  ·rcases h2 with rfl | ⟨c,hc,rfl⟩
   ·have:=pm.all
    rw [J2A hl ok.cols,<- J3X] at this;rw [J5Q,J5Q];exact this
   ·have:=pm.col c hc
    rw [col c] at this;rw [Jc9,Jc9];exact this
  ·obtain ⟨m,hm,e⟩:=JbG W1 h1
   have ir:=(o1.2.1 rs h1).2.2;rcases h2 with rfl | ⟨c,hc,rfl⟩
   ·have:=pm.rgr m hm
    rw [Jdj l1 _ hm,e] at this;rw [Jc4,Jc4,show sm (rs.map fun i=>Ji (tAt g i.toNat) C)=sm (rs.map fun z=>(g.map sm).getD z.toNat 0) from J1u fun z hz=>(row _ (by have:=ir z hz;omega)).symm];exact this
   ·have:=pm.grp c m hc hm
    rw [Jdj l1 _ hm,e] at this;rw [Jc6,Jc6,show sm (rs.map fun i=>tAt g i.toNat c)=sm (rs.map fun z=>(Js g c).getD z.toNat 0) from J1u fun z hz=>(J5N (by have:=ir z hz;omega)).symm];exact this
  ·rcases h2 with rfl | ⟨c,hc,rfl⟩
   ·have:=pm.row i hi
    rw [row i hi] at this;rw [Jc5,Jc5];exact this
   ·rw [Jca,Jca]
    exact pm.box i c hi hc
 ·subst h1
  obtain ⟨m,hm,e⟩:=JbG W2 h2;have ir:=(o2.2.1 cs h2).2.2;have:=pm.cgr m hm;rw [Jdj l2 _ hm,e] at this;rw [Jdh,Jdh,show sm (cs.map fun c=>Ji (fun i=>tAt g i c.toNat) R)=sm (cs.map fun z=>(J0P g C).getD z.toNat 0) from J1u fun z hz=>((J9J hl (by have:=ir z hz;omega)).trans (col _)).symm];exact this
theorem bs_bnd {b:Int}(ok:GOk g R C)(hR:R<=8)(hC:C<=8)(hb:0<=b)(h:∀ r∈g,∀ x∈r,x<=b)(ir:InR R rs)(ic:InR C cs)(lr:rs.length<=8)(lc:cs.length<=8):0<=bs (tAt g) rs cs/\bs (tAt g) rs cs<=64 * b:=by
 have at_:∀ i∈rs,∀ c∈cs,0<=tAt g i.toNat c.toNat/\tAt g i.toNat c.toNat<=b:=fun i hi c hc=>by
  have h1:=ir i hi;have h2:=ic c hc;have h3:i.toNat<g.length:=by rw [ok.rows];omega
  have h4:=getElem_mem h3;have h5:c.toNat<(g[i.toNat]).length:=by rw [ok.cols _ h4];omega
  unfold tAt;rw [J1t h3,yF,yA h5];exact ⟨ok.pos _ h4 _ (getElem_mem h5),h _ h4 _ (getElem_mem h5)⟩
 have row:∀ i∈rs,0<=sm (cs.map fun c=>tAt g i.toNat c.toNat)/\sm (cs.map fun c=>tAt g i.toNat c.toNat)<=8 * b:=fun i hi=>by
  constructor
  ·exact J0h fun z hz=>by
    obtain ⟨c,hc,rfl⟩:=yU.mp hz;exact (at_ i hi c hc).1
  ·exact J6a (n:=8) hb (by rw [yC];exact lc) fun z hz=>by
    obtain ⟨c,hc,rfl⟩:=yU.mp hz;exact (at_ i hi c hc).2
 constructor
 ·exact J0h fun z hz=>by
   obtain ⟨i,hi,rfl⟩:=yU.mp hz;exact (row i hi).1
 ·have:=J6a (n:=8) (b:=8 * b) (zs:=rs.map fun i=>sm (cs.map fun c=>tAt g i.toNat c.toNat)) (by omega) (by rw [yC];exact lr) fun z hz=>by
   obtain ⟨i,hi,rfl⟩:=yU.mp hz;exact (row i hi).2
  unfold bs;omega
theorem Blk.len8 (h:Blk rgs cgs R C rs cs)(o1:J3i R rgs)(o2:J3i C cgs)(hR:R<=8)(hC:C<=8):rs.length<=8/\cs.length<=8:=by
 have u1:=J21 R;have u2:=J21 C;rcases h with ⟨h1,h2⟩ | ⟨h1,h2⟩
 ·constructor
  ·rcases h1 with rfl | h | ⟨i,hi,rfl⟩
   ·omega
   ·have:=J2K (o1.2.1 rs h);omega
   ·show 1<=8;decide
  ·rcases h2 with rfl | ⟨i,hi,rfl⟩
   ·omega
   ·show 1<=8;decide
 ·have:=J2K (o2.2.1 cs h2)
  exact ⟨by rw [h1];omega,by omega⟩
def BkV (P:List Int->List Int->Prop)(H:Hp)(x:V):Prop:=∃ (t p q:Addr) (rs cs:List Int),x=.ref t/\H t=some (.tup [.ref p,.ref q])/\H p=some (.lst (rs.map V.int))/\H q=some (.lst (cs.map V.int))/\P rs cs
theorem BkV.mono {P:List Int->List Int->Prop}{x:V}(h:BkV P H x)(s:Same H H'):BkV P H' x:=by
 obtain ⟨t,p,q,rs,cs,e,h1,h2,h3,h4⟩:=h;exact ⟨t,p,q,rs,cs,e,s _ _ h1,s _ _ h2,s _ _ h3,h4⟩
structure BkL (P:List Int->List Int->Prop)(H:Hp)(xs:List V)(n:Nat):Prop where
 len:xs.length<=n
 at_:∀ x∈xs,BkV P H x
theorem BkL.nil {P:List Int->List Int->Prop}:BkL P H [] 0:=⟨yj _,fun _ z=>nomatch z⟩
theorem BkL.mono {P:List Int->List Int->Prop}(h:BkL P H xs n)(s:Same H H'):BkL P H' xs n:=⟨h.len,fun x hx=>(h.at_ x hx).mono s⟩
theorem BkL.app {P:List Int->List Int->Prop}(h:BkL P H xs n)(h':BkL P H ys m):BkL P H (xs++ys) (n+m):=⟨by have:=h.len;have:=h'.len;rw [yH];omega,fun x hx=>by
 rcases yQ.mp hx with e | e
 ·exact h.at_ x e
 ·exact h'.at_ x e⟩
theorem BkL.snoc {P:List Int->List Int->Prop}{x:V}(h:BkL P H xs n)(s:Same H H')(hx:BkV P H' x):BkL P H' (xs++[x]) (n+1):=(h.mono s).app ⟨yj _,fun y hy=>by rw [yD.mp hy];exact hx⟩
theorem J3Q {K:Frag}{S:Addr}{l:List V}{P:List Int->List Int->Prop}{σ:St}{te:TE}{fin:List V->Hp->Prop}(hS:H S=some (.lst l))(hl:l.length<=1000)
 (turn:∀ x∈l,∀ (H':Hp) (Q:VK),Same H H'->(∀ H'' v,Same H' H''->BkV P H'' v->Q v H'')->te (some x::σ) H' Q)
 (h:∀ ys H',Same H H'->BkL P H' ys l.length->fin ys H'):J4r (Itl K S) (J01 0) J9R te fin (none::σ) H:=by
 refine JE (σ:=σ) (xs:=l) Jm (Jb (by omega)) (fun i ys H'=>Same H H'/\BkL P H' ys i) ⟨Same.refl _,BkL.nil⟩ (fun _ _ _ _ q=>.of (q.1 _ _ hS)) (fun i ys H' q=>q.2.len) ?_ ?_
 ·rintro i x ys H1 hx ⟨s1,B1⟩
  unfold J9R;dsimp only;rw [yi rfl];exact turn x (yG hx) H1 _ s1 fun H2 v s2 hv=>⟨⟨_,rfl⟩,s1.trans s2,B1.snoc s2 hv⟩
 ·exact fun ys H1 q=>h ys H1 q.1 q.2
theorem JcY {P:List Int->List Int->Prop}{t:Addr}{i:Int}(hp:H p=none)(ht:(upd H p (.lst [.int i])) t=none)(hq:H q=some (.lst (cs.map V.int)))(h:P [i] cs):BkV P (upd (upd H p (.lst [.int i])) t (.tup [.ref p,.ref q])) (.ref t) :=
 ⟨t,p,q,[i],cs,rfl,J1,(Same.upd_new ht _) _ _ J1,((Same.upd_new hp _).new ht _) _ _ hq,h⟩
theorem J9M {P:List Int->List Int->Prop}{t:Addr}{i:Int}(hp:H p=none)(ht:(upd H p (.lst [.int i])) t=none)(hq:H q=some (.lst (cs.map V.int)))(h:P cs [i]):BkV P (upd (upd H p (.lst [.int i])) t (.tup [.ref q,.ref p])) (.ref t) :=
 ⟨t,q,p,cs,[i],rfl,J1,((Same.upd_new hp _).new ht _) _ _ hq,(Same.upd_new ht _) _ _ J1,h⟩
theorem JcX {P:List Int->List Int->Prop}{t:Addr}{i j:Int}(hp:H p=none)(hq:(upd H p (.lst [.int i])) q=none)(ht:(upd (upd H p (.lst [.int i])) q (.lst [.int j])) t=none)(h:P [i] [j]):BkV P (upd (upd (upd H p (.lst [.int i])) q (.lst [.int j])) t (.tup [.ref p,.ref q])) (.ref t) :=
 ⟨t,p,q,[i],[j],rfl,J1,((Same.upd_new hq _).new ht _) _ _ J1,(Same.upd_new ht _) _ _ J1,h⟩
theorem J4Q {x:V}(h:x∈(upI n).map V.int):∃ i:Nat,i<n/\x=.int (i:Int):=by
 obtain ⟨z,hz,rfl⟩:=yU.mp h;have:=J71.mp hz;exact ⟨z.toNat,by omega,by rw [Int.toNat_of_nonneg this.1]⟩
theorem J6R {x:V}(h:GridV H xs gs)(hx:x∈xs):∃ r∈gs,∃ p,x=.ref p/\H p=some (.lst (r.map V.int)):=by
 obtain ⟨i,hi⟩:=yT.mp hx;obtain ⟨r,hr,p,e,hp⟩:=All2.at h hi;exact ⟨r,yG hr,p,e,hp⟩
structure RtI (H:Hp)(lg lr lc lt:Addr)(xs ys zs ts:List V)(g rgs cgs t:List (List Int))(R C:Nat)(b many:Int):Prop where
 i:PtI H lg lr lc xs ys zs g rgs cgs R C b
 ht:H lt=some (.lst ts)
 tv:GridV H ts t
 dt:DOk t R C
 o1:J3i R rgs
 o2:J3i C cgs
 m0:0<=many
 m1:many<BB
 w0:0<sm (g.map sm)
 w1:sm (g.map sm)<BB
 nr:∀ rs cs,Blk rgs cgs R C rs cs->Nr many (sm (g.map sm)) (bs (tAt t) rs cs) (bs (tAt g) rs cs)
theorem RtI.mono {lt:Addr}{zs ts:List V}{t:List (List Int)}{b:Int}(s:Same H H')(h:RtI H lg lr lc lt xs ys zs ts g rgs cgs t R C b many):RtI H' lg lr lc lt xs ys zs ts g rgs cgs t R C b many:=⟨h.i.mono s,s _ _ h.ht,h.tv.mono s,h.dt,h.o1,h.o2,h.m0,h.m1,h.w0,h.w1,h.nr⟩
def J8o (K:Frag):Sp:=fun vs H Q _=>∃ (lg lr lc lt:Addr) (xs ys zs ts:List V) (g rgs cgs t:List (List Int)) (R C:Nat) (b many:Int),vs=[.ref lg,.int many,.ref lr,.ref lc,.ref lt]/\RtI H lg lr lc lt xs ys zs ts g rgs cgs t R C b many/\∀ H',Same H H'->Q (.bl true) H'
theorem ok_l_right (T:Txt K mg f fd):FnOk P w K mg base CX0 2 (f 34) (fd 34) ["_law_grid_here","_law_many_here","_law_by_rows","_law_by_columns","_law_told"] (J8o K):=by
 walk_at "ok wC J09"
 ·obtain ⟨lg,lr,lc,lt,xs,ys,zs,ts,g,rgs,cgs,t,R,C,b,many,rfl,_⟩:=h
  rfl
 ·obtain ⟨lg,lr,lc,lt,xs,ys,zs,ts,g,rgs,cgs,t,R,C,b,many,rfl,I,k⟩:=h
  refine ⟨_,(Jc (J0n (J2C (J2B (Jj T.wT (ok_l_is_grid T) (hr.mono (by decide)) rfl (by decide) rfl (pal rfl (pvl 4) (pal rfl (pvl 0) Ja)))))
   (Jg (Jx J1T))
   JC)
   (Jc (psc 5 J09.nd (J2b (J3O rfl) T.wl J1r rfl (by decide) (by decide) rfl (pal rfl (J2b J8a T.wj J8b rfl (by decide) (by decide) rfl (pal rfl (JA (J0v rfl) T.wa JX rfl (by decide) (by decide) rfl (pal rfl (pvl 0) Ja)) Ja)) Ja)))
   (Jc (psc 6 J09.nd (J2b (J3O rfl) T.wl J1r rfl (by decide) (by decide) rfl (pal rfl (J2b J8a T.wj J8b rfl (by decide) (by decide) rfl (pal rfl (JA (J0v rfl) T.wa JX rfl (by decide) (by decide) rfl (pal rfl (JT (J0q rfl) (pvl 0) Je (fun _ _=>rfl)) Ja)) Ja)) Ja)))
   (Jc (psl 7 J09.nd (Jj T.wm (ok_l_sum T) (hr.mono (by decide)) rfl (by decide) rfl (pal rfl (pvl 0) (pal rfl (pvc 5) (pal rfl (pvc 6) Ja)))))
   (Jc (psl 8 J09.nd (Jl J1A (JY ["_law_row"] ["_law_grid_here","_law_many_here","_law_by_rows","_law_by_columns","_law_told","_law_rows","_law_columns","_law_whole","_law_blocks","#9","_law_group","_law_some","_law_others"] rfl (show CompSc _ (Jf J0Y) ["_law_grid_here","_law_many_here","_law_by_rows","_law_by_columns","_law_told","_law_rows","_law_columns","_law_whole","_law_blocks","_law_row","_law_group","_law_some","_law_others"] ["_law_grid_here","_law_many_here","_law_by_rows","_law_by_columns","_law_told","_law_rows","_law_columns","_law_whole","_law_blocks","#9","_law_group","_law_some","_law_others"] from Jr (by decide +kernel)) (J00 rfl (pvc 5)) (fun _ _ _ _ _=>(pgl 0 (show (["_law_row","_law_grid_here","_law_many_here","_law_by_rows","_law_by_columns","_law_told","_law_rows","_law_columns","_law_whole","_law_blocks","#9","_law_group","_law_some","_law_others"]:List Str).Nodup by decide +kernel))) (fun _ _ _ _ _=>JR) (fun _ _ _ _ _=>(JD (pal rfl (J0l (pal rfl (pvl 0) Ja)) (pal rfl (pvc 7) Ja))))) (JY ["_law_column"] ["_law_grid_here","_law_many_here","_law_by_rows","_law_by_columns","_law_told","_law_rows","_law_columns","_law_whole","_law_blocks","_law_row","_law_group","_law_some","_law_others"] rfl (show CompSc _ (Jf J0Y) ["_law_grid_here","_law_many_here","_law_by_rows","_law_by_columns","_law_told","_law_rows","_law_columns","_law_whole","_law_blocks","_law_row","_law_group","_law_some","_law_others"] ["_law_grid_here","_law_many_here","_law_by_rows","_law_by_columns","_law_told","_law_rows","_law_columns","_law_whole","_law_blocks","_law_row","_law_group","_law_some","_law_others"] from Jr (by decide +kernel)) (J00 rfl (pvc 6)) (fun _ _ _ _ _=>(pgl 0 (show (["_law_column","_law_grid_here","_law_many_here","_law_by_rows","_law_by_columns","_law_told","_law_rows","_law_columns","_law_whole","_law_blocks","_law_row","_law_group","_law_some","_law_others"]:List Str).Nodup by decide +kernel))) (fun _ _ _ _ _=>JR) (fun _ _ _ _ _=>(JD (pal rfl (pvc 6) (pal rfl (J0l (pal rfl (pvl 0) Ja)) Ja)))))))
   (Jc (J0a PassesOwn.never rfl (J00 rfl (pvc 5)) (pgc 9 J09.nd)
   (Jg (psl 8 J09.nd (Jl J1A (pvl 8) (JY ["_law_column"] ["_law_grid_here","_law_many_here","_law_by_rows","_law_by_columns","_law_told","_law_rows","_law_columns","_law_whole","_law_blocks","_law_row","_law_group","_law_some","_law_others"] rfl (show CompSc _ (Jf J0Y) ["_law_grid_here","_law_many_here","_law_by_rows","_law_by_columns","_law_told","_law_rows","_law_columns","_law_whole","_law_blocks","_law_row","_law_group","_law_some","_law_others"] ["_law_grid_here","_law_many_here","_law_by_rows","_law_by_columns","_law_told","_law_rows","_law_columns","_law_whole","_law_blocks","_law_row","_law_group","_law_some","_law_others"] from Jr (by decide +kernel)) (J00 rfl (pvc 6)) (fun _ _ _ _ _=>(pgl 0 (show (["_law_column","_law_grid_here","_law_many_here","_law_by_rows","_law_by_columns","_law_told","_law_rows","_law_columns","_law_whole","_law_blocks","_law_row","_law_group","_law_some","_law_others"]:List Str).Nodup by decide +kernel))) (fun _ _ _ _ _=>JR) (fun _ _ _ _ _=>(JD (pal rfl (J0l (pal rfl (pvc 10) Ja)) (pal rfl (J0l (pal rfl (pvl 0) Ja)) Ja)))))))))
   (Jc (J0a PassesOwn.never rfl (J00 rfl (pvl 2)) (pgc 10 J09.nd)
   (Jg (psl 8 J09.nd (Jl J1A (Jl J1A (pvl 8) (J0l (pal rfl (JD (pal rfl (pvc 10) (pal rfl (pvc 6) Ja))) Ja))) (JY ["_law_column"] ["_law_grid_here","_law_many_here","_law_by_rows","_law_by_columns","_law_told","_law_rows","_law_columns","_law_whole","_law_blocks","_law_row","_law_group","_law_some","_law_others"] rfl (show CompSc _ (Jf J0Y) ["_law_grid_here","_law_many_here","_law_by_rows","_law_by_columns","_law_told","_law_rows","_law_columns","_law_whole","_law_blocks","_law_row","_law_group","_law_some","_law_others"] ["_law_grid_here","_law_many_here","_law_by_rows","_law_by_columns","_law_told","_law_rows","_law_columns","_law_whole","_law_blocks","_law_row","_law_group","_law_some","_law_others"] from Jr (by decide +kernel)) (J00 rfl (pvc 6)) (fun _ _ _ _ _=>(pgl 0 (show (["_law_column","_law_grid_here","_law_many_here","_law_by_rows","_law_by_columns","_law_told","_law_rows","_law_columns","_law_whole","_law_blocks","_law_row","_law_group","_law_some","_law_others"]:List Str).Nodup by decide +kernel))) (fun _ _ _ _ _=>JR) (fun _ _ _ _ _=>(JD (pal rfl (pvc 11) (pal rfl (J0l (pal rfl (pvl 0) Ja)) Ja)))))))))
   (Jc (psl 8 J09.nd (Jl J1A (pvl 8) (JY ["_law_group"] ["_law_grid_here","_law_many_here","_law_by_rows","_law_by_columns","_law_told","_law_rows","_law_columns","_law_whole","_law_blocks","_law_row","#10","_law_some","_law_others"] rfl (show CompSc _ (Jf J0Y) ["_law_grid_here","_law_many_here","_law_by_rows","_law_by_columns","_law_told","_law_rows","_law_columns","_law_whole","_law_blocks","_law_row","_law_group","_law_some","_law_others"] ["_law_grid_here","_law_many_here","_law_by_rows","_law_by_columns","_law_told","_law_rows","_law_columns","_law_whole","_law_blocks","_law_row","#10","_law_some","_law_others"] from Jr (by decide +kernel)) (J00 rfl (pvl 3)) (fun _ _ _ _ _=>(pgl 0 (show (["_law_group","_law_grid_here","_law_many_here","_law_by_rows","_law_by_columns","_law_told","_law_rows","_law_columns","_law_whole","_law_blocks","_law_row","#10","_law_some","_law_others"]:List Str).Nodup by decide +kernel))) (fun _ _ _ _ _=>JR) (fun _ _ _ _ _=>(JD (pal rfl (pvc 6) (pal rfl (pvl 0) Ja)))))))
   (Jc (J0a PassesOwn.never rfl (J00 rfl (pvl 8)) (J1C rfl rfl (Jq (pgl 11 J09.nd) (Jq (pgl 12 J09.nd) J0w)))
   (Jg (J0n (J2C (J2B (Jj T.wS (Ja8 T) (hr.mono (by decide)) rfl (by decide) rfl (pal rfl (Jj T.wm (ok_l_sum T) (hr.mono (by decide)) rfl (by decide) rfl (pal rfl (pvl 4) (pal rfl (pvl 11) (pal rfl (pvl 12) Ja)))) (pal rfl (Jj T.wm (ok_l_sum T) (hr.mono (by decide)) rfl (by decide) rfl (pal rfl (pvl 0) (pal rfl (pvl 11) (pal rfl (pvl 12) Ja)))) (pal rfl (pvl 1) (pal rfl (pvl 7) Ja)))))))
   (Jg (Jx J1T))
   JC)))
   (Jg (Jx (J3A J1H (Jj T.wm (ok_l_sum T) (hr.mono (by decide)) rfl (by decide) rfl (pal rfl (pvl 4) (pal rfl (pvc 5) (pal rfl (pvc 6) Ja)))) (pvl 1) (JB _))))))))))))),?_⟩
  generalize hB8:J0r (J3W _ _ _) (J3m _)=B8;generalize hB7:J0r (J2q _ _) B8=B7;generalize hB6:J0r (J3W _ _ _) B7=B6;generalize hB5:J0r (J3W _ _ _) B6=B5;generalize hB4:J0r (J2q _ _) B5=B4;walk_at "dl";have hxl:=I.i.gr.1;have hgl:=I.i.ok.rows;have hR1:=I.i.r1;have hR:=I.i.r8;have hC1:=I.i.c1;have hC:=I.i.c8;obtain ⟨r0,hr0⟩:∃ r0,g[0]?=some r0:=⟨_,yA (by omega)⟩;obtain ⟨x0,hx0,p0,rfl,hp0⟩:=All2.at' I.i.gr hr0;have l0:=I.i.ok.cols r0 (yG hr0);refine ⟨lt,lg,ts,xs,t,g,R,C,rfl,I.ht,I.tv,I.i.hg,I.i.gr,I.dt,⟨I.i.ok.rows,I.i.ok.cols⟩,hR1,true,rfl,?_⟩;rw [yh (by decide)];have eU:∀ n:Nat,((List.range n).map fun (i:Nat)=>V.int (i:Int))=(upI n).map V.int:=fun n=>by unfold upI;rw [map_map];rfl
  refine ⟨_,.inl (.of I.i.hg),R,by rw [hxl,hgl],by omega,by omega,fun p1 hp1=>⟨p1,R,rfl,J1,by omega,fun S1 hS1=>?_⟩⟩;rw [eU R];have u1:=(Same.upd_new hp1 (HO.rng 0 (R:Int))).new hS1 (HO.lst ((upI R).map V.int));have d1:upd (upd H p1 (HO.rng 0 (R:Int))) S1 (HO.lst ((upI R).map V.int)) S1=some (.lst ((upI R).map V.int)):=J1;generalize upd (upd H p1 (HO.rng 0 (R:Int))) S1 (HO.lst ((upI R).map V.int))=H1 at *;refine ⟨lg,_,_,_,rfl,rfl,.of (u1 _ _ I.i.hg),Jt (j:=0) hx0,p0,rfl,_,.inl (.of (u1 _ _ hp0)),C,by rw [yC,l0],by omega,by omega,fun p2 hp2=>⟨p2,C,rfl,J1,by omega,fun S2 hS2=>?_⟩⟩;rw [eU C];have u2:=(Same.upd_new hp2 (HO.rng 0 (C:Int))).new hS2 (HO.lst ((upI C).map V.int));have d2:upd (upd H1 p2 (HO.rng 0 (C:Int))) S2 (HO.lst ((upI C).map V.int)) S2=some (.lst ((upI C).map V.int)):=J1;generalize upd (upd H1 p2 (HO.rng 0 (C:Int))) S2 (HO.lst ((upI C).map V.int))=H2 at *;have s2:=u1.trans u2;have I2:=I.mono s2;have uR:=J21 R;have uC:=J21 C;have ew:bs (tAt g) (upI R) (upI C)=sm (g.map sm):=by rw [J5Q,J2A hgl I.i.ok.cols];rfl
  refine ⟨lg,S1,S2,xs,g,upI R,upI C,R,C,rfl,I2.i.hg,I2.i.gr,⟨I.i.ok.rows,I.i.ok.cols⟩,u2 _ _ d1,d2,J3I R,J3I C,by omega,by omega,fun H3 s3=>?_⟩;rw [ew];have I3:=I2.mono s3;have e1:=s3 _ _ (u2 _ _ d1);have e2:=s3 _ _ d2
  replace k:=fun H' (s':Same H3 H')=>k H' ((s2.trans s3).trans s')
  clear d1 d2 u1 u2 s2 s3 hp0 I I2 hp1 hS1 hp2 hS2 ew;have um:∀ n:Nat,((upI n).map V.int).length=n:=fun n=>by rw [yC,J21]
  subst hB4;walk_at "dl";refine ⟨⟨_,.of e1⟩,J3Q (P:=Blk rgs cgs R C) e1 (by rw [um];omega) (fun x hx H' Q' s' q=>?_) fun ys4 H4 s4 b4 D4 hD4=>?_⟩
  ·obtain ⟨i,hi,rfl⟩:=J4Q hx
   walk_at "dl";exact ⟨Jb (by decide),fun p hp=>⟨Jb (by decide),fun t' ht'=>q _ _ ((Same.upd_new hp _).new ht' _) (JcY hp ht' (s' _ _ e2) (.inl ⟨.inr (.inr ⟨i,hi,rfl⟩),.inl rfl⟩))⟩⟩
  have s5:=s4.new hD4 (HO.lst ys4);have b5:=b4.mono (Same.upd_new hD4 (HO.lst ys4));have d5:upd H4 D4 (HO.lst ys4) D4=some (.lst ys4):=J1;generalize upd H4 D4 (HO.lst ys4)=H5 at *;refine ⟨⟨_,.of (s5 _ _ e2)⟩,J3Q (P:=Blk rgs cgs R C) (s5 _ _ e2) (by rw [um];omega) (fun x hx H' Q' s' q=>?_) fun ys6 H6 s6 b6 D6 hD6=>?_⟩
  ·obtain ⟨i,hi,rfl⟩:=J4Q hx
   walk_at "dl";exact ⟨Jb (by decide),fun p hp=>⟨Jb (by decide),fun t' ht'=>q _ _ ((Same.upd_new hp _).new ht' _) (J9M hp ht' ((s5.trans s') _ _ e1) (.inl ⟨.inl rfl,.inr ⟨i,hi,rfl⟩⟩))⟩⟩
  have s7:=s6.new hD6 (HO.lst ys6);have b7:=b6.mono (Same.upd_new hD6 (HO.lst ys6));have d7:upd H6 D6 (HO.lst ys6) D6=some (.lst ys6):=J1;generalize upd H6 D6 (HO.lst ys6)=H7 at *;have l4:=b5.len;have l6:=b7.len;rw [um] at l4 l6;refine ⟨D4,D6,_,_,rfl,rfl,s7 _ _ d5,d7,Jb (by omega),fun D8 hD8=>?_⟩;have s8:=(s5.trans s7).new hD8 (HO.lst (ys4++ys6));have b8:BkL (Blk rgs cgs R C) (upd H7 D8 (HO.lst (ys4++ys6))) (ys4++ys6) 16:=⟨by rw [yH];omega,(((b5.mono s7).app b7).mono (Same.upd_new hD8 _)).at_⟩;have d8:upd H7 D8 (HO.lst (ys4++ys6)) D8=some (.lst (ys4++ys6)):=J1;generalize upd H7 D8 (HO.lst (ys4++ys6))=H8 at *;generalize ys4++ys6=bl8 at *;clear s4 b4 hD4 s5 b5 d5 s6 b6 hD6 s7 b7 d7 l4 l6 hD8;have I8:=I3.mono s8;have e1:=s8 _ _ e1;have e2:=s8 _ _ e2
  replace k:=fun H' (s':Same H8 H')=>k H' (s8.trans s')
  clear I3 s8;subst hB5;refine J0b ?_;walk_at "dl";refine ⟨⟨_,.of e1⟩,?_⟩;refine ForW.of Jm (fun i σ H'=>(∃ (D:Addr) (bl:List V) (v9:Option V),σ=[some (V.ref lg),some (V.int many),some (V.ref lr),some (V.ref lc),some (V.ref lt),some (V.ref S1),some (V.ref S2),some (V.int (sm (g.map sm))),some (V.ref D),v9,none,none,none]/\H' D=some (.lst bl)/\BkL (Blk rgs cgs R C) H' bl (16+8 * i))/\Same H8 H') ⟨⟨D8,bl8,none,rfl,d8,b8⟩,Same.refl _⟩ (fun i σ H' _ q=>.of (q.2 _ _ e1)) ?_ ?_
  ·rintro i x σ H9 hx ⟨⟨D9,bl9,v9,rfl,d9,b9⟩,s9⟩
   obtain ⟨j,hj,rfl⟩:=J4Q (yG hx);walk_at "dl";refine ⟨⟨_,.of (s9 _ _ e2)⟩,J3Q (P:=Blk rgs cgs R C) (s9 _ _ e2) (by rw [um];omega) (fun x hx H' Q' s' q=>?_) fun ys6 H6 s6 b6 D6 hD6=>?_⟩
   ·obtain ⟨c,hc,rfl⟩:=J4Q hx
    walk_at "dl";exact ⟨Jb (by decide),fun p hp=>⟨Jb (by decide),fun p' hp'=>⟨Jb (by decide),fun t' ht'=>q _ _ (((Same.upd_new hp _).new hp' _).new ht' _) (JcX hp hp' ht' (.inl ⟨.inr (.inr ⟨j,hj,rfl⟩),.inr ⟨c,hc,rfl⟩⟩))⟩⟩⟩
   have s7:=s6.new hD6 (HO.lst ys6);have b7:=b6.mono (Same.upd_new hD6 (HO.lst ys6));have d7:upd H6 D6 (HO.lst ys6) D6=some (.lst ys6):=J1;generalize upd H6 D6 (HO.lst ys6)=H7 at *;have l4:=b9.len;have l6:=b7.len;have li:=(yB.mp hx).1;rw [um] at l6 li;exact ⟨D9,D6,_,_,rfl,rfl,s7 _ _ d9,d7,Jb (by omega),fun D8 hD8=>⟨⟨D8,rfl,_,J1,by rw [yH];omega,(((b9.mono s7).app b7).mono (Same.upd_new hD8 _)).at_⟩,(s9.trans s7).new hD8 _⟩⟩
  rintro σ H9 ⟨⟨D9,bl9,v9,rfl,d9,b9⟩,s9⟩;rw [um] at b9;have I9:=I8.mono s9;have e1:=s9 _ _ e1;have e2:=s9 _ _ e2
  replace k:=fun H' (s':Same H9 H')=>k H' (s9.trans s')
  clear I8 s9 d8 b8;have gl1:=I9.o1.1;have gl2:=I9.o2.1;have yl:=I9.i.rg.1;have zl:=I9.i.cg.1;subst hB6;dsimp only;refine J0b ?_;walk_at "dl";refine ⟨⟨_,.of I9.i.hr⟩,?_⟩;refine ForW.of Jm (fun i σ H'=>(∃ (D:Addr) (bl:List V) (v10:Option V),σ=[some (V.ref lg),some (V.int many),some (V.ref lr),some (V.ref lc),some (V.ref lt),some (V.ref S1),some (V.ref S2),some (V.int (sm (g.map sm))),some (V.ref D),v9,v10,none,none]/\H' D=some (.lst bl)/\BkL (Blk rgs cgs R C) H' bl (80+9 * i))/\Same H9 H') ⟨⟨D9,bl9,none,rfl,d9,⟨by have:=b9.len;omega,b9.at_⟩⟩,Same.refl _⟩ (fun i σ H' _ q=>.of (q.2 _ _ I9.i.hr)) ?_ ?_
  ·rintro i x σ H10 hx ⟨⟨D10,bl10,v10,rfl,d10,b10⟩,s10⟩
   obtain ⟨r,hr,pr,rfl,hpr⟩:=J6R I9.i.rg (yG hx);walk_at "dl";have l10:=b10.len;have li:=(yB.mp hx).1;refine ⟨Jb (by decide),fun pt hpt=>⟨Jb (by decide),fun pl hpl=>?_⟩⟩;have u1:=(Same.upd_new hpt (HO.tup [V.ref pr,V.ref S2])).new hpl (HO.lst [V.ref pt]);have b1:BkL (Blk rgs cgs R C) (upd (upd H10 pt (HO.tup [V.ref pr,V.ref S2])) pl (HO.lst [V.ref pt])) [V.ref pt] 1:=⟨yj _,fun y hy=>by
    rw [yD.mp hy];exact ⟨pt,pr,S2,r,upI C,rfl,(Same.upd_new hpl _) _ _ J1,u1 _ _ (s10 _ _ hpr),u1 _ _ (s10 _ _ e2),.inl ⟨.inr (.inl hr),.inl rfl⟩⟩⟩
   have d1:upd (upd H10 pt (HO.tup [V.ref pr,V.ref S2])) pl (HO.lst [V.ref pt]) pl=some (.lst [V.ref pt]):=J1;generalize upd (upd H10 pt (HO.tup [V.ref pr,V.ref S2])) pl (HO.lst [V.ref pt])=H11 at *;refine ⟨D10,pl,_,_,rfl,rfl,u1 _ _ d10,d1,Jb (by show _+1<=_;omega),fun D12 hD12=>?_⟩;have s12:=(s10.trans u1).new hD12 (HO.lst (bl10++[V.ref pt]));have b12:=((b10.mono u1).app b1).mono (Same.upd_new hD12 (HO.lst (bl10++[V.ref pt])));have d12:upd H11 D12 (HO.lst (bl10++[V.ref pt])) D12=some (.lst (bl10++[V.ref pt])):=J1;generalize upd H11 D12 (HO.lst (bl10++[V.ref pt]))=H12 at *;refine ⟨⟨_,.of (s12 _ _ e2)⟩,J3Q (P:=Blk rgs cgs R C) (s12 _ _ e2) (by rw [um];omega) (fun x hx H' Q' s' q=>?_) fun ys6 H6 s6 b6 D6 hD6=>?_⟩
   ·obtain ⟨c,hc,rfl⟩:=J4Q hx
    walk_at "dl";exact ⟨Jb (by decide),fun p hp=>⟨Jb (by decide),fun t' ht'=>q _ _ ((Same.upd_new hp _).new ht' _) (J9M hp ht' ((s12.trans s') _ _ hpr) (.inl ⟨.inr (.inl hr),.inr ⟨c,hc,rfl⟩⟩))⟩⟩
   have s7:=s6.new hD6 (HO.lst ys6);have b7:=b6.mono (Same.upd_new hD6 (HO.lst ys6));have d7:upd H6 D6 (HO.lst ys6) D6=some (.lst ys6):=J1;generalize upd H6 D6 (HO.lst ys6)=H7 at *;have l12:=b12.len;have l6:=b7.len;rw [um] at l6;exact ⟨D12,D6,_,_,rfl,rfl,s7 _ _ d12,d7,Jb (by omega),fun D8 hD8=>⟨⟨D8,rfl,_,J1,by rw [yH];omega,(((b12.mono s7).app b7).mono (Same.upd_new hD8 _)).at_⟩,(s12.trans s7).new hD8 _⟩⟩
  rintro σ H10 ⟨⟨D10,bl10,v10,rfl,d10,b10⟩,s10⟩;have I10:=I9.mono s10;have e1:=s10 _ _ e1;have e2:=s10 _ _ e2
  replace k:=fun H' (s':Same H10 H')=>k H' (s10.trans s')
  clear I9 s10 d9 b9;have l10:=b10.len;subst hB7;walk_at "dl";refine ⟨⟨_,.of I10.i.hc⟩,J3Q (P:=Blk rgs cgs R C) I10.i.hc (by omega) (fun x hx H' Q' s' q=>?_) fun ys6 H6 s6 b6 D6 hD6=>?_⟩
  ·obtain ⟨r,hr,pr,rfl,hpr⟩:=J6R I10.i.cg hx
   walk_at "dl";exact ⟨Jb (by decide),fun t' ht'=>q _ _ (Same.upd_new ht' _) ⟨t',S1,pr,upI R,r,rfl,J1,(s'.new ht' _) _ _ e1,(s'.new ht' _) _ _ hpr,Or.inr ⟨rfl,hr⟩⟩⟩
  have s7:=s6.new hD6 (HO.lst ys6);have b7:=b6.mono (Same.upd_new hD6 (HO.lst ys6));have d7:upd H6 D6 (HO.lst ys6) D6=some (.lst ys6):=J1;generalize upd H6 D6 (HO.lst ys6)=H7 at *;have l6:=b7.len;refine ⟨D10,D6,_,_,rfl,rfl,s7 _ _ d10,d7,Jb (by omega),fun D8 hD8=>?_⟩;have s8:=s7.new hD8 (HO.lst (bl10++ys6));have b8:=((b10.mono s7).app b7).mono (Same.upd_new hD8 (HO.lst (bl10++ys6)));have d8:upd H7 D8 (HO.lst (bl10++ys6)) D8=some (.lst (bl10++ys6)):=J1;generalize upd H7 D8 (HO.lst (bl10++ys6))=H8 at *;generalize bl10++ys6=bl at *;have I8:=I10.mono s8;have e1:=s8 _ _ e1;have e2:=s8 _ _ e2
  replace k:=fun H' (s':Same H8 H')=>k H' (s8.trans s')
  have bB:=I8.i.bB;have b0:=I8.i.b0;clear I10 s8 s7 s6 b6 b7 d7 hD6 hD8 d10 b10;subst hB8;refine J0b ?_;walk_at "dl";refine ⟨⟨_,.of d8⟩,?_⟩;refine ForW.of Jm (fun i σ H'=>(∃ v11 v12:Option V,σ=[some (V.ref lg),some (V.int many),some (V.ref lr),some (V.ref lc),some (V.ref lt),some (V.ref S1),some (V.ref S2),some (V.int (sm (g.map sm))),some (V.ref D8),v9,v10,v11,v12])/\Same H8 H') ⟨⟨none,none,rfl⟩,Same.refl _⟩ (fun i σ H' _ q=>.of (q.2 _ _ d8)) ?_ ?_
  ·rintro i x σ H9 hx ⟨⟨v11,v12,rfl⟩,s9⟩
   obtain ⟨t1,p1,q1,rs,cs,rfl,ht1,hp1,hq1,B⟩:=b8.at_ x (yG hx);walk_at "dl";refine ⟨t1,_,rfl,.of (s9 _ _ ht1),rfl,V.ref p1,_,rfl,V.ref q1,_,rfl,rfl,?_⟩;dsimp only [List.set];have ib:=B.inr I8.o1 I8.o2;have I9:=I8.mono s9;have hp9:=s9 _ _ hp1;have hq9:=s9 _ _ hq1;have lb:=B.len8 I8.o1 I8.o2 hR hC;have bd:=bs_bnd I8.i.ok hR hC I8.i.b0 I8.i.b ib.1 ib.2 lb.1 lb.2;refine ⟨lt,p1,q1,ts,t,rs,cs,R,C,rfl,I9.ht,I9.tv,I9.dt,hp9,hq9,ib.1,ib.2,by omega,by omega,fun H10 s10=>?_⟩;have I10:=I9.mono s10;refine ⟨lg,p1,q1,xs,g,rs,cs,R,C,rfl,I10.i.hg,I10.i.gr,⟨I10.i.ok.rows,I10.i.ok.cols⟩,s10 _ _ hp9,s10 _ _ hq9,ib.1,ib.2,by omega,by omega,fun H11 s11=>?_⟩;refine ⟨_,_,many,_,rfl,by omega,by omega,I8.m0,I8.m1,I8.w0,I8.w1,I8.nr rs cs B,true,rfl,?_⟩;rw [yh (by decide)];exact ⟨⟨_,_,rfl⟩,(s9.trans s10).trans s11⟩
  ·rintro σ H9 ⟨⟨v11,v12,rfl⟩,s9⟩
   walk_at "dl";have I9:=I8.mono s9;refine ⟨lt,S1,S2,ts,t,upI R,upI C,R,C,rfl,I9.ht,I9.tv,I9.dt,s9 _ _ e1,s9 _ _ e2,J3I R,J3I C,by omega,by omega,fun H10 s10=>⟨rfl,?_⟩⟩;have nr:=I8.nr (upI R) (upI C) (.inl ⟨.inl rfl,.inl rfl⟩);rw [show bs (tAt g) (upI R) (upI C)=sm (g.map sm) by rw [J5Q,J2A hgl I8.i.ok.cols];rfl] at nr;rw [JdM I8.w0 nr,ym rfl];exact k H10 (s9.trans s10)
theorem J64 (h:GbK g R C)(hR:R<=8)(hC:C<=8):sm (g.map sm)<=64 * BM:=by
 have u1:=J21 R;have u2:=J21 C;have:=(bs_bnd h.ok hR hC (b:=BM) (by unfold BM;decide) h.b (J3I R) (J3I C) (by omega) (by omega)).2;rw [J5Q] at this;rw [J2A h.ok.rows h.ok.cols];exact this
theorem Jdi:64 * BM<BB:=by unfold BM BB;decide
def J9U (K:Frag):Sp:=fun vs H Q _=>∃ (a la:Addr) (ns:List Int) (xs:List V) (g:List (List Int)) (R C:Nat),vs=[.ref a,.ref la]/\SqL K H a (ns.map V.int)/\H la=some (.lst xs)/\GridV H xs g/\GbK g R C/\R<=8/\C<=8 /\
 ∀ H' m,Same H H'->0<=m->m<BB->Q (.int m) H'
theorem ok_l_many (T:Txt K mg f fd):FnOk P w K mg base CX0 2 (f 35) (fd 35) ["_law_script","_law_grid_here"] (J9U K):=by
 walk_at "ok wU J6c"
 ·obtain ⟨a,la,ns,xs,g,R,C,rfl,_⟩:=h
  rfl
 ·obtain ⟨a,la,ns,xs,g,R,C,rfl,hs,hla,hg,gb,hR,hC,k⟩:=h
  refine ⟨_,(Jc (psl 2 J6c.nd (Jj T.we (ok_l_draw T) (hr.mono (by decide)) rfl (by decide) rfl (pal rfl (pvl 0) (pal rfl Je (pal rfl Je Ja)))))
   (Jc (J0n (Jw J3B (pvl 2) Je (JB _))
   (Jg (Jx (Jj T.we (ok_l_draw T) (hr.mono (by decide)) rfl (by decide) rfl (pal rfl (pvl 0) (pal rfl Je (pal rfl Je Ja))))))
   JC)
   (Jc (J0n (Jw J1H (pvl 2) Je (JB _))
   (Jg (Jx (JA (J1c rfl rfl) T.wg J1d rfl (by decide) (by decide) rfl (pal rfl (JY ["_law_row"] ["_law_script","_law_grid_here","_law_way"] rfl (show CompSc _ (Jf J3u) ["_law_script","_law_grid_here","_law_way"] ["_law_script","_law_grid_here","_law_way"] from Jr (by decide +kernel)) (J00 rfl (pvl 1)) (fun _ _ _ _ _=>(pgl 0 (show (["_law_row","_law_script","_law_grid_here","_law_way"]:List Str).Nodup by decide +kernel))) (fun _ _ _ _ _=>JR) (fun _ _ _ _ _=>(JA (J1c rfl rfl) T.wg J1d rfl (by decide) (by decide) rfl (pal rfl (pvl 0) Ja)))) Ja))))
   JC)
   (Jc (J0n (PW.pt (J5e (Jw J1H (pvl 2) Je (JB _)) (J3y (Jw J5o (JA (J0v rfl) T.wa JX rfl (by decide) (by decide) rfl (pal rfl (pvl 0) Ja)) Je (JB _)))))
   (Jg (Jx (Jl J1K (JT (J0q rfl) (pvl 0) Je (fun _ _=>rfl)) (Jl Jbq Je Je))))
   JC)
   (Jg (Jx (JT (J0q rfl) (J0l (pal rfl Je (pal rfl Je Ja))) (Jl J1K (pvl 2) Je) (fun _ _=>rfl)))))))),?_⟩
  walk_at "dl";have hgl:=hg.1;have hrl:=gb.ok.rows;have wb:=J64 gb hR hC;have bb:=Jdi;have bk:(10:Int) ^ Int.toNat 50<BB/\(1000:Int)<BB:=by unfold BB;decide
  refine ⟨a,ns,_,_,rfl,hs,by decide,by decide,by decide,fun v v0 v1=>?_⟩;refine ⟨v,rfl,?_⟩;have two:2<=sizeLine/\∀ (p:Addr),H p=none->∃ i,V.int v=V.int i/\Jct K (V.ref p) (V.int (i % 2)) (upd H p (HO.lst [V.int 100,V.int 1000])) Q:=by
   refine ⟨Jb (by decide),fun p hp=>⟨v,rfl,JdW (.of J1) (yu _ (by decide)) (yt _ (by decide)) fun y hy=>?_⟩⟩;rcases (show v % 2=0\/v % 2=1 by omega) with z | z
   ·rw [z] at hy
    rw [<- yq hy];exact k _ _ (Same.upd_new hp _) (by decide) (by omega)
   ·rw [z] at hy
    rw [<- yq hy];exact k _ _ (Same.upd_new hp _) (by decide) (by omega)
  by_cases c1:v<2
  ·rw [yi c1]
   exact ⟨a,ns,_,_,rfl,hs,by decide,by decide,by decide,fun u u0 u1=>k _ _ (Same.refl _) u0 (by omega)⟩
  rw [yh c1];refine ⟨rfl,?_⟩
  split
  ·refine ⟨⟨_,.of hla⟩,?_⟩
   refine JE (xs:=xs) Jm (by rw [hgl];exact Jb (by omega)) (fun i ys H'=>H'=H/\ys=((g.map sm).take i).map V.int) ⟨rfl,rfl⟩ (fun _ _ _ _ q=>by rw [q.1];exact .of hla) (fun i ys H' q=>by rw [q.2];simp;omega) ?_ ?_
   ·rintro i x ys H3 hx ⟨rfl,rfl⟩
    obtain ⟨r,hr,pr,rfl,hpr⟩:=All2.at hg hx;walk_at "dl";refine ⟨r,.of hpr,⟨_,rfl⟩,?_⟩;rw [take_add_one,yN,hr,yP];rfl
   ·rintro ys H3 ⟨rfl,rfl⟩ D hD
    have et:(g.map sm).take xs.length=g.map sm:=take_of_length_le (by rw [yC];omega);rw [et];have nn:0<=sm (g.map sm):=J0h fun z hz=>by
     obtain ⟨r,hr,rfl⟩:=yU.mp hz;exact J0h (gb.ok.pos r hr)
    exact ⟨g.map sm,.of J1,k _ _ (Same.upd_new hD _) nn (Int.lt_of_le_of_lt wb bb)⟩
  ·refine ⟨rfl,?_⟩
   split
   ·refine ⟨_,.inl hs,?_⟩
    rw [yC]
    split
    ·rename_i hk
     have h7:7<ns.length:=by omega
     have n50:(0:Int)<10 ^ Int.toNat 50:=by decide
     exact ⟨a,_,_,.int ns[7],rfl,rfl,hs,Jt (j:=7) (by rw [yN,yA h7];rfl),⟨by decide,by decide,by decide⟩,_,rfl,n50,k _ _ (Same.refl _) (yu _ (Int.ne_of_gt n50)) (Int.lt_trans (yt _ n50) bk.1)⟩
    ·exact two
   ·exact two
theorem J5C {t b c:Addr}{zs:List V}{g1 g2 g3:List (List Int)}(ht:H t=some (.tup [.ref a,.ref b,.ref c]))(ha:H a=some (.lst xs))(hg1:GridV H xs g1)(hb:H b=some (.lst ys))(hg2:GridV H ys g2)(hc:H c=some (.lst zs))(hg3:GridV H zs g3) :
 Rep K H (.tuple [.list (J0N g1),.list (J0N g2),.list (J0N g3)]) (.ref t):=by
 rw [Rep];refine ⟨t,_,rfl,.of ht,?_⟩;rw [Reps];refine ⟨_,_,rfl,by rw [Rep];exact ⟨a,_,rfl,.of ha,(J0z (K:=K) hg1).1⟩,?_⟩;rw [Reps];refine ⟨_,_,rfl,by rw [Rep];exact ⟨b,_,rfl,.of hb,(J0z (K:=K) hg2).1⟩,?_⟩;rw [Reps];exact ⟨_,_,rfl,by rw [Rep];exact ⟨c,_,rfl,.of hc,(J0z (K:=K) hg3).1⟩,by rw [Reps]⟩
theorem J4b {K:Frag}{l:Addr}{σ:St}{fin:List V->Hp->Prop}(hl:H l=some (.lst xs))(hg:GridV H xs g)(hz:xs.length<=1000)(h:∀ ys H',Same H H'->GridV H' ys g->fin ys H') :
 J4r (Itl K l) (J01 0) J9R (tCB (J4E K) (J68 (J7m 0) JaG)) fin (none::σ) H:=by
 have hgl:=hg.1;refine JE (σ:=σ) (xs:=xs) Jm (Jb (by omega)) (fun i ys H'=>Same H H'/\GridV H' ys (g.take i)) ⟨Same.refl _,All2.nil⟩ (fun _ _ _ _ q=>.of (q.1 _ _ hl)) (fun i ys H' q=>by rw [q.2.1,yI];omega) ?_ ?_
 ·rintro i x ys H1 hx ⟨s1,V1⟩
  obtain ⟨r,hr,p,rfl,hp⟩:=All2.at hg hx;walk_at "dl";refine ⟨_,.inl (.of (s1 _ _ hp)),fun q hq=>⟨⟨_,rfl⟩,s1.new hq _,?_⟩⟩;rw [take_add_one,hr];exact All2.snoc (V1.mono (Same.upd_new hq _)) ⟨q,rfl,J1⟩
 ·rintro ys H1 ⟨s1,V1⟩
  rw [hgl,yO] at V1;exact h ys H1 s1 V1
theorem J91 {zs:List V}{b:Int}(I:PtI H lg lr lc xs ys zs g rgs cgs R C b)(o1:J3i R rgs)(o2:J3i C cgs)(m0:0<=many)(m1:many<BB)(w0:0<sm (g.map sm))(w1:sm (g.map sm)<BB)
 (hD:H D=some (.lst out)) (GV:GridV H out ((List.range R).map fun i=>(fl.drop (i * C)).take C)) (fll:R * C<=fl.length) (W1:J38 rgs wr) (W2:J38 cgs wc) (pm:PM g wr wc R C many (sm (g.map sm)) (fun i c=>fl.getD (i * C+c) 0)) :
 RtI H lg lr lc D xs ys zs out g rgs cgs ((List.range R).map fun i=>(fl.drop (i * C)).take C) R C b many:=by
 refine ⟨I,hD,GV,⟨by rw [yC,yX],fun r hr=>?_⟩,o1,o2,m0,m1,w0,w1,fun rs cs B=>?_⟩
 ·obtain ⟨i,hi,rfl⟩:=yU.mp hr
  have hi':=mem_range.mp hi;have hh:i * C+C<=R * C:=by rw [<- Nat.succ_mul];exact Nat.mul_le_mul_right C (by omega)
  rw [yI,length_drop];omega
 ·have ib:=B.inr o1 o2
  rw [Jc8 (b':=fun i c=>fl.getD (i * C+c) 0) ib.1 ib.2 fun i c hi hc=>?_]
  ·exact pm_blk I.ok o1 o2 W1 W2 pm B
  ·unfold tAt
   rw [yF (l:=(List.range R).map _),yN,List.getElem?_range hi];exact J2V hc
structure TdS (H0 H':Hp)(D:Addr)(out:List V)(n:Nat):Prop where
 same:Same H0 H'
 d:H' D=some (.lst out)
 at_:∀ x∈out,∃ q,x=V.ref q/\H0 q=none/\q≠D/\∃ zs,H' q=some (.lst zs)/\zs.length<=n
theorem TdS.put {H0:Hp}{zs:List V}{z:V}(h:TdS H0 H' D out n)(hq0:H0 q=none)(hqD:q≠D)(hl:zs.length<=n):TdS H0 (upd H' q (.lst (zs++[z]))) D out (n+1) :=
 ⟨h.same.set hq0 _,by rw [Jd (Ne.symm hqD)];exact h.d,fun x hx=>by
  obtain ⟨p,e,p0,pD,ws,hp,hw⟩:=h.at_ x hx;refine ⟨p,e,p0,pD,?_⟩;by_cases c:p=q
  ·exact ⟨zs++[z],by rw [c,J1],by rw [yH];show _+1<=_;omega⟩
  ·exact ⟨ws,by rw [Jd c];exact hp,by omega⟩⟩
def J6L (K:Frag):Sp:=fun vs H Q _=>∃ (a:Addr) (ns:List Int),vs=[.ref a]/\SqL K H a (ns.map V.int)/\ns.length<=63/\∀ H',Q (.bl true) H'
theorem ok_law (T:Txt K mg f fd):FnOk P w K mg base CX0 8 (f 36) (fd 36) ["_law_script"] (J6L K):=by
 walk_at "ok wV J0U"
 ·obtain ⟨a,ns,rfl,_⟩:=h
  rfl
 ·obtain ⟨a,ns,rfl,hs,_,k⟩:=h
  refine ⟨_,(Jc (psl 1 J0U.nd (Jl J0d Je (Jj T.we (ok_l_draw T) (hr.mono (by decide)) rfl (by decide) rfl (pal rfl (pvl 0) (pal rfl Je (pal rfl Je Ja))))))
   (Jc (psl 2 J0U.nd (Jl J0d Je (Jj T.we (ok_l_draw T) (hr.mono (by decide)) rfl (by decide) rfl (pal rfl (pvl 0) (pal rfl Je (pal rfl Je Ja))))))
   (Jc (J0n (Jw J1H (Jl J3C (Jj T.we (ok_l_draw T) (hr.mono (by decide)) rfl (by decide) rfl (pal rfl (pvl 0) (pal rfl Je (pal rfl Je Ja)))) Je) Je (JB _))
   (Jc (psl 1 J0U.nd Je)
   (Jg (psl 2 J0U.nd Je)))
   JC)
   (Jc (J0n (Jw J1H (Jl J3C (Jj T.we (ok_l_draw T) (hr.mono (by decide)) rfl (by decide) rfl (pal rfl (pvl 0) (pal rfl Je (pal rfl Je Ja)))) Je) Je (JB _))
   (Jg (psl 1 J0U.nd (Jl J0d Je (Jj T.we (ok_l_draw T) (hr.mono (by decide)) rfl (by decide) rfl (pal rfl (pvl 0) (pal rfl Je (pal rfl Je Ja)))))))
   JC)
   (Jc (J0n (Jw J1H (Jl J3C (Jj T.we (ok_l_draw T) (hr.mono (by decide)) rfl (by decide) rfl (pal rfl (pvl 0) (pal rfl Je (pal rfl Je Ja)))) Je) Je (JB _))
   (Jg (psl 2 J0U.nd (Jl J0d Je (Jj T.we (ok_l_draw T) (hr.mono (by decide)) rfl (by decide) rfl (pal rfl (pvl 0) (pal rfl Je (pal rfl Je Ja)))))))
   JC)
   (Jc (psl 3 J0U.nd (Jj T.wQ (ok_l_grid T) (hr.mono (by decide)) rfl (by decide) rfl (pal rfl (pvl 0) (pal rfl (pvl 1) (pal rfl (pvl 2) Ja)))))
   (Jc (psl 4 J0U.nd (Jj T.wU (ok_l_many T) (hr.mono (by decide)) rfl (by decide) rfl (pal rfl (pvl 0) (pal rfl (pvl 3) Ja))))
   (Jc (psl 5 J0U.nd (Jj T.wB (ok_l_groups T) (hr.mono (by decide)) rfl (by decide) rfl (pal rfl (pvl 0) (pal rfl Je (pal rfl (pvl 1) (pal rfl (Jj T.we (ok_l_draw T) (hr.mono (by decide)) rfl (by decide) rfl (pal rfl (pvl 0) (pal rfl Je (pal rfl Je Ja)))) Ja))))))
   (Jc (psl 6 J0U.nd (Jj T.wB (ok_l_groups T) (hr.mono (by decide)) rfl (by decide) rfl (pal rfl (pvl 0) (pal rfl Je (pal rfl (pvl 2) (pal rfl (Jl J3C (Jj T.we (ok_l_draw T) (hr.mono (by decide)) rfl (by decide) rfl (pal rfl (pvl 0) (pal rfl Je (pal rfl Je Ja)))) Je) Ja))))))
   (Jc (psl 7 J0U.nd (JD (pal rfl (JY ["_law_row"] ["_law_script","_law_rows","_law_columns","_law_grid_here","_law_many_here","_law_by_rows","_law_by_columns","_law_kept","_law_told","#9","_law_again"] rfl (show CompSc _ (Jf s_law) ["_law_script","_law_rows","_law_columns","_law_grid_here","_law_many_here","_law_by_rows","_law_by_columns","_law_kept","_law_told","_law_row","_law_again"] ["_law_script","_law_rows","_law_columns","_law_grid_here","_law_many_here","_law_by_rows","_law_by_columns","_law_kept","_law_told","#9","_law_again"] from Jr (by decide +kernel)) (J00 rfl (pvl 3)) (fun _ _ _ _ _=>(pgl 0 (show (["_law_row","_law_script","_law_rows","_law_columns","_law_grid_here","_law_many_here","_law_by_rows","_law_by_columns","_law_kept","_law_told","#9","_law_again"]:List Str).Nodup by decide +kernel))) (fun _ _ _ _ _=>JR) (fun _ _ _ _ _=>(J2b (J5x rfl) T.wl J1r rfl (by decide) (by decide) rfl (pal rfl (pvl 0) Ja)))) (pal rfl (JY ["_law_group"] ["_law_script","_law_rows","_law_columns","_law_grid_here","_law_many_here","_law_by_rows","_law_by_columns","_law_kept","_law_told","_law_row","_law_again"] rfl (show CompSc _ (Jf s_law) ["_law_script","_law_rows","_law_columns","_law_grid_here","_law_many_here","_law_by_rows","_law_by_columns","_law_kept","_law_told","_law_row","_law_again"] ["_law_script","_law_rows","_law_columns","_law_grid_here","_law_many_here","_law_by_rows","_law_by_columns","_law_kept","_law_told","_law_row","_law_again"] from Jr (by decide +kernel)) (J00 rfl (pvl 5)) (fun _ _ _ _ _=>(pgl 0 (show (["_law_group","_law_script","_law_rows","_law_columns","_law_grid_here","_law_many_here","_law_by_rows","_law_by_columns","_law_kept","_law_told","_law_row","_law_again"]:List Str).Nodup by decide +kernel))) (fun _ _ _ _ _=>JR) (fun _ _ _ _ _=>(J2b (J5x rfl) T.wl J1r rfl (by decide) (by decide) rfl (pal rfl (pvl 0) Ja)))) (pal rfl (JY ["_law_group"] ["_law_script","_law_rows","_law_columns","_law_grid_here","_law_many_here","_law_by_rows","_law_by_columns","_law_kept","_law_told","_law_row","_law_again"] rfl (show CompSc _ (Jf s_law) ["_law_script","_law_rows","_law_columns","_law_grid_here","_law_many_here","_law_by_rows","_law_by_columns","_law_kept","_law_told","_law_row","_law_again"] ["_law_script","_law_rows","_law_columns","_law_grid_here","_law_many_here","_law_by_rows","_law_by_columns","_law_kept","_law_told","_law_row","_law_again"] from Jr (by decide +kernel)) (J00 rfl (pvl 6)) (fun _ _ _ _ _=>(pgl 0 (show (["_law_group","_law_script","_law_rows","_law_columns","_law_grid_here","_law_many_here","_law_by_rows","_law_by_columns","_law_kept","_law_told","_law_row","_law_again"]:List Str).Nodup by decide +kernel))) (fun _ _ _ _ _=>JR) (fun _ _ _ _ _=>(J2b (J5x rfl) T.wl J1r rfl (by decide) (by decide) rfl (pal rfl (pvl 0) Ja)))) Ja)))))
   (Jc (psl 8 J0U.nd (Jj T.wA (ok_parts T) (hr.mono (by decide)) rfl (by decide) rfl (pal rfl (pvl 3) (pal rfl (pvl 4) (pal rfl (pvl 5) (pal rfl (pvl 6) Ja))))))
   (Jc (J0n (PW.pt (J7B (Jw (Jdc rfl hr.units) (JD (pal rfl (pvl 3) (pal rfl (pvl 5) (pal rfl (pvl 6) Ja)))) (pvl 7) (JB _)) (J5d (J2C (J2B (Jj T.wC (ok_l_right T) (hr.mono (by decide)) rfl (by decide) rfl (pal rfl (pvl 3) (pal rfl (pvl 4) (pal rfl (pvl 5) (pal rfl (pvl 6) (pal rfl (pvl 8) Ja)))))))))))
   (Jg (Jx J1T))
   JC)
   (Jc (J0a PassesOwn.never rfl (J00 rfl (pvl 8)) (pgl 9 J0U.nd)
   (Jg (J05 (J1m rfl y9 PySem.F.slot_list_append PySem.F.type_list_append J08 rfl rfl rfl rfl (pvl 9) (pal rfl (J5l J39 Je) Ja)))))
   (Jc (J05 (J1m rfl y9 PySem.F.slot_list_append PySem.F.type_list_append J08 rfl rfl rfl rfl (pvl 8) (pal rfl (J0l Ja) Ja)))
   (Jc (psl 10 J0U.nd (Jj T.wA (ok_parts T) (hr.mono (by decide)) rfl (by decide) rfl (pal rfl (pvl 3) (pal rfl (pvl 4) (pal rfl (pvl 5) (pal rfl (pvl 6) Ja))))))
   (Jg (Jx (Jbn (J3A (Jes rfl hr.units) (JD (pal rfl (pvl 3) (pal rfl (pvl 5) (pal rfl (pvl 6) Ja)))) (pvl 7) (JB _)) (J8x (Jj T.wC (ok_l_right T) (hr.mono (by decide)) rfl (by decide) rfl (pal rfl (pvl 3) (pal rfl (pvl 4) (pal rfl (pvl 5) (pal rfl (pvl 6) (pal rfl (pvl 10) Ja))))))))))))))))))))))))),?_⟩
  generalize hB6:J0r (J2q _ (J01 3)) _=B6;generalize hB5:J0r (J4s _ _ _) B6=B5;generalize hB4:J0r (J4s _ _ _) B5=B4;generalize hB3:J0r (J4s _ _ _) B4=B3;have F6:∀ R C:Nat,1<=R/\R<=8->1<=C/\C<=8->B6 { nx:=fun x H'=>Q V.non H',rt:=Q } [some (V.ref a),some (V.int (R:Int)),some (V.int (C:Int)),none,none,none,none,none,none,none,none] H:=by
   intro R C hR hC;clear hB5 hB4 hB3;generalize hB9:J0r (J2q _ (J01 7)) _=B9 at hB6;subst hB6;walk_at "dl";refine ⟨a,ns,R,C,rfl,hs,hR.1,hR.2,hC.1,hC.2,fun H1 lg xs g s1 h1 V1 gb pos=>⟨a,lg,ns,xs,g,R,C,rfl,s1.seq hs,h1,V1,gb,hR.2,hC.2,fun H2 many s2 m0 m1=>?_⟩⟩;have S2:=s1.trans s2;refine ⟨a,ns,_,_,rfl,S2.seq hs,by decide,by decide,by decide,fun v v0 v1=>?_⟩;obtain ⟨n1,rfl⟩:∃ n1:Nat,v=(n1:Int):=⟨v.toNat,by omega⟩;refine ⟨a,ns,10,R,n1,rfl,S2.seq hs,by decide,hR.1,hR.2,by omega,fun H3 lr ys rgs s3 h3 V3 o1=>?_⟩;have S3:=S2.trans s3;refine ⟨a,ns,_,_,rfl,S3.seq hs,by decide,by decide,by decide,fun u u0 u1=>?_⟩;obtain ⟨n2,hn2⟩:∃ n2:Nat,u / 9=(n2:Int):=⟨(u / 9).toNat,by omega⟩;refine ⟨u,rfl,⟨by decide,by decide⟩,?_⟩;rw [hn2];refine ⟨a,ns,20,C,n2,rfl,S3.seq hs,by decide,hC.1,hC.2,by omega,fun H4 lc zs cgs s4 h4 V4 o2=>?_⟩;have S24:=(s2.trans s3).trans s4;have bb:=Jdi;have wb:=J64 gb hR.2 hC.2;have w1:sm (g.map sm)<BB:=by omega
   have I4:PtI H4 lg lr lc xs ys zs g rgs cgs R C BM:=⟨S24 _ _ h1,V1.mono S24,gb.ok,hR.1,hR.2,hC.1,hC.2,by unfold BM;decide,bb,gb.b,s4 _ _ h3,V3.mono s4,h4,V4⟩;have hxl:=V1.1;have hyl:=V3.1;have hzl:=V4.1;have hgl:=gb.ok.rows;have gl1:=o1.1;have gl2:=o2.1;clear s1 s2 s3 s4 S2 S3 S24 h1 V1 h3 V3 h4 V4 hs v0 v1 u0 u1 hn2;generalize hB10:J0r (J2q _ (J01 8)) _=B10 at hB9;subst hB9;walk_at "dl";refine ⟨⟨_,.of I4.hg⟩,J4b I4.hg I4.gr (by omega) fun y1 G1 t1 W1 D1 hD1=>?_⟩;have w1':=t1.new hD1 (HO.lst y1);have e1:upd G1 D1 (HO.lst y1) D1=some (.lst y1):=J1;have X1:=W1.mono (Same.upd_new hD1 (HO.lst y1));generalize upd G1 D1 (HO.lst y1)=G2 at *;refine ⟨⟨_,.of (w1' _ _ I4.hr)⟩,J4b (w1' _ _ I4.hr) (I4.rg.mono w1') (by omega) fun y2 G3 t2 W2 D2 hD2=>?_⟩;have w2:=t2.new hD2 (HO.lst y2);have e2:upd G3 D2 (HO.lst y2) D2=some (.lst y2):=J1;have X2:=W2.mono (Same.upd_new hD2 (HO.lst y2));generalize upd G3 D2 (HO.lst y2)=G4 at *;have w12:=w1'.trans w2;refine ⟨⟨_,.of (w12 _ _ I4.hc)⟩,J4b (w12 _ _ I4.hc) (I4.cg.mono w12) (by omega) fun y3 G5 t3 W3 D3 hD3=>?_⟩;have w3:=t3.new hD3 (HO.lst y3);have e3:upd G5 D3 (HO.lst y3) D3=some (.lst y3):=J1;have X3:=W3.mono (Same.upd_new hD3 (HO.lst y3));generalize upd G5 D3 (HO.lst y3)=G6 at *;refine ⟨Jb (by decide),fun kp hkp=>?_⟩;have w4:=Same.upd_new hkp (HO.tup [V.ref D1,V.ref D2,V.ref D3]);have e4:upd G6 kp (HO.tup [V.ref D1,V.ref D2,V.ref D3]) kp=some (.tup [V.ref D1,V.ref D2,V.ref D3]):=J1;generalize upd G6 kp (HO.tup [V.ref D1,V.ref D2,V.ref D3])=G7 at *;have I7:=I4.mono (w12.trans (w3.trans w4));have kept:∀ H',Same G7 H'->Rep K H' (.tuple [.list (J0N g),.list (J0N rgs),.list (J0N cgs)]) (.ref kp):=fun H' s'=>by
    have q2:=(w3.trans w4).trans s';have q3:=w4.trans s';exact J5C (s' _ _ e4) ((w2.trans q2) _ _ e1) (X1.mono (w2.trans q2)) (q2 _ _ e2) (X2.mono q2) (q3 _ _ e3) (X3.mono q3)
   have same3:∀ (H':Hp) (t:Addr),Same G7 H'->H' t=some (.tup [.ref lg,.ref lr,.ref lc])->∀ neg (Q':VK),Q' (.bl (!neg)) H'->Ja1 K neg (.ref t) (.ref kp) H' Q':=fun H' t s' ht neg Q' q=>by
    have I':=I7.mono s';have sh:SeqAt.shaped (.tuple [.list (J0N g),.list (J0N rgs),.list (J0N cgs)])=true:=by
     obtain ⟨_,r2,r3,_⟩:=J0z (K:=K) I'.gr;obtain ⟨_,r5,r6,_⟩:=J0z (K:=K) I'.rg;obtain ⟨_,r8,r9,_⟩:=J0z (K:=K) I'.cg;simp only [SeqAt.shaped,PyData.canLay0,PyData.canLayAll0,PyData.depth,PyData.depthAll,r2,r5,r8,Bool.true_and,Bool.and_true];exact ym (by omega)
    refine ⟨_,_,J5C ht I'.hg I'.gr I'.hr I'.rg I'.hc I'.cg,kept H' s',sh,sh,?_⟩;have e:PyData.eqv (.tuple [.list (J0N g),.list (J0N rgs),.list (J0N cgs)]) (.tuple [.list (J0N g),.list (J0N rgs),.list (J0N cgs)])=true:=by
     obtain ⟨_,_,_,r4⟩:=J0z (K:=K) I'.gr;obtain ⟨_,_,_,r7⟩:=J0z (K:=K) I'.rg;obtain ⟨_,_,_,r10⟩:=J0z (K:=K) I'.cg;simp only [PyData.eqv,PyData.eqvAll,r4,r7,r10,Bool.and_true]
    rw [e];cases neg<;>exact q
   clear kept e1 e2 e3 e4 X1 X2 X3 W1 W2 W3 w1' w2 w3 w4 w12 t1 t2 t3 hD1 hD2 hD3 hkp I4;generalize hB12:J0r (J3W _ _ _) _=B12 at hB10;subst hB10;walk_at "dl";refine ⟨lg,lr,lc,xs,ys,zs,g,rgs,cgs,R,C,BM,many,rfl,I7,m0,m1,pos,w1,o1,o2,fun H8 D out fl wr wc s8 hD0 hD GV fll W1 W2 pm fr=>?_⟩;have T8:=J91 (I7.mono s8) o1 o2 m0 m1 pos w1 hD GV fll W1 W2 pm;refine ⟨Jb (by decide),fun t ht=>same3 _ t (s8.new ht _) J1 true _ ⟨false,rfl,?_⟩⟩;rw [yh (by decide)];refine ⟨lg,lr,lc,D,xs,ys,zs,out,g,rgs,cgs,_,R,C,BM,many,rfl,T8.mono (Same.upd_new ht _),fun H9 s9=>⟨true,rfl,?_⟩⟩;rw [yh (by decide)];have s89:=(Same.upd_new ht (HO.tup [V.ref lg,V.ref lr,V.ref lc])).trans s9;have hol:=GV.1;rw [yC,yX] at hol;have TD:TdS G7 H9 D out C:=⟨s8.trans s89,s89 _ _ hD,fun x hx=>by
    obtain ⟨q,rfl,q0⟩:=fr x hx;obtain ⟨r,hr,p',e,hp'⟩:=J6R GV hx;injection e with e
    subst e;refine ⟨q,rfl,q0,fun e=>?_,r.map V.int,s89 _ _ hp',by rw [yC,T8.dt.cols r hr];exact yj _⟩;subst e;rw [hD] at hp';injection hp' with e2
    injection e2 with e2
    rw [e2] at hx;obtain ⟨z,_,e3⟩:=yU.mp hx;cases e3⟩
   clear s89 s9 T8 ht GV fll W1 W2 pm fr hD s8;generalize hB13:J0r (J4h _) _=B13 at hB12;subst hB12;refine J0b ?_;walk_at "dl";refine ⟨⟨_,.of TD.d⟩,?_⟩;refine ForW.of Jm (fun i σ H'=>(∃ v9:Option V,σ=[some (V.ref a),some (V.int (R:Int)),some (V.int (C:Int)),some (V.ref lg),some (V.int many),some (V.ref lr),some (V.ref lc),some (V.ref kp),some (V.ref D),v9,none])/\TdS G7 H' D out (C+i)) ⟨⟨none,rfl⟩,TD⟩ (fun i σ H' _ q=>.of q.2.d) ?_ ?_
   ·rintro i x σ H10 hx ⟨⟨v9,rfl⟩,T10⟩
    obtain ⟨q,rfl,q0,qD,ws,hq,hw⟩:=T10.at_ x (yG hx);have li:=(yB.mp hx).1;walk_at "dl";refine ⟨.inl ⟨rfl,_,.of hq⟩,q,_,_,rfl,rfl,hq,by rw [sizeLine_eq];omega,⟨_,rfl⟩,T10.put q0 qD hw⟩
   ·rintro σ H10 ⟨⟨v9,rfl⟩,T10⟩
    subst hB13;walk_at "dl";refine ⟨.inl ⟨rfl,_,.of T10.d⟩,yw _,fun p hp=>⟨D,_,_,rfl,rfl,(Same.upd_new hp _) _ _ T10.d,by rw [sizeLine_eq];omega,?_⟩⟩;have s11:=(T10.same.new hp (HO.lst [])).set hD0 (HO.lst (out++[V.ref p]));generalize upd (upd H10 p (HO.lst [])) D (HO.lst (out++[V.ref p]))=H11 at *;refine ⟨lg,lr,lc,xs,ys,zs,g,rgs,cgs,R,C,BM,many,rfl,I7.mono s11,m0,m1,pos,w1,o1,o2,fun H12 D' out' fl' wr' wc' s12 hD0' hD' GV' fll' W1' W2' pm' _=>?_⟩;have T12:=J91 (I7.mono (s11.trans s12)) o1 o2 m0 m1 pos w1 hD' GV' fll' W1' W2' pm';refine ⟨Jb (by decide),fun t ht=>same3 _ t ((s11.trans s12).new ht _) J1 false _ ⟨true,rfl,?_⟩⟩;rw [yi rfl];exact ⟨lg,lr,lc,D',xs,ys,zs,out',g,rgs,cgs,_,R,C,BM,many,rfl,T12.mono (Same.upd_new ht _),fun H13 _=>k _⟩
  clear hB6;have F5:∀ R C:Nat,1<=R/\R<=8->1<=C/\C<=8->B5 { nx:=fun x H'=>Q V.non H',rt:=Q } [some (V.ref a),some (V.int (R:Int)),some (V.int (C:Int)),none,none,none,none,none,none,none,none] H:=by
   intro R C hR hC;clear hB4 hB3;subst hB5;walk_at "dl";refine ⟨a,ns,_,_,rfl,hs,by decide,by decide,by decide,fun v v0 v1=>⟨v,rfl,⟨by decide,by decide⟩,?_⟩⟩
   split
   ·refine ⟨a,ns,_,_,rfl,hs,by decide,by decide,by decide,fun u u0 u1=>⟨u,rfl,?_⟩⟩
    obtain ⟨n,hn⟩:∃ n:Nat,6+u=(n:Int):=⟨(6+u).toNat,by omega⟩;rw [hn];exact F6 R n hR (by omega)
   ·exact F6 R C hR hC
  clear hB5 F6;have F4:∀ R C:Nat,1<=R/\R<=8->1<=C/\C<=8->B4 { nx:=fun x H'=>Q V.non H',rt:=Q } [some (V.ref a),some (V.int (R:Int)),some (V.int (C:Int)),none,none,none,none,none,none,none,none] H:=by
   intro R C hR hC;clear hB3;subst hB4;walk_at "dl";refine ⟨a,ns,_,_,rfl,hs,by decide,by decide,by decide,fun v v0 v1=>⟨v,rfl,⟨by decide,by decide⟩,?_⟩⟩
   split
   ·refine ⟨a,ns,_,_,rfl,hs,by decide,by decide,by decide,fun u u0 u1=>⟨u,rfl,?_⟩⟩
    obtain ⟨n,hn⟩:∃ n:Nat,6+u=(n:Int):=⟨(6+u).toNat,by omega⟩;rw [hn];exact F5 n C (by omega) hC
   ·exact F5 R C hR hC
  clear hB4 F5;subst hB3;walk_at "dl";refine ⟨a,ns,_,_,rfl,hs,by decide,by decide,by decide,fun r' r0 r1=>⟨r',rfl,a,ns,_,_,rfl,hs,by decide,by decide,by decide,fun c' c0 c1=>⟨c',rfl,?_⟩⟩⟩;obtain ⟨R,hR⟩:∃ R:Nat,1+r'=(R:Int):=⟨(1+r').toNat,by omega⟩;obtain ⟨C,hC⟩:∃ C:Nat,1+c'=(C:Int):=⟨(1+c').toNat,by omega⟩;rw [hR,hC];refine ⟨a,ns,_,_,rfl,hs,by decide,by decide,by decide,fun v v0 v1=>⟨v,rfl,⟨by decide,by decide⟩,?_⟩⟩
  split
  ·exact F4 8 8 (by omega) (by omega)
  ·exact F4 R C (by omega) (by omega)
end
theorem walk {l:PySem.W.OpenLaw}{q:Program}{loose:List Str}{XP:(Str->Option Value)->Heap->Prop}{YP:World->Heap->Prop}{d:DefRec}{K:Params->Frag}(hn:l.most=some 63)(hdf:d.params.defaults=[])
 (hY:∀ (w:World) (h:Heap),YP w h->(K w.params).In h)
 (F:∀ (w:World) (mg:Str->Option Value) (fa:Addr) (h:Heap),(K w.params).In h->h.Ns mainGlobals mg->mg d.name=some (.ref fa) ->
  ∃ fd:FuncData,(∀ (s:Shared) (u:Value),BindsTo s fd ⟨[u],[]⟩ [("_law_script",u)])/\∀ base:Heap,(K w.params).In base->base.Ns mainGlobals mg->FnOk l.prog w (K w.params) mg base CX0 8 fa fd ["_law_script"] (J6L (K w.params))) :
 PySem.W.WalkO q loose XP YP l.row.toRowW d [] (fun f vs=>PySem.call f vs) :=
 L2.walk_of (n:=63) (k:=8) (x:="_law_script") (CX:=fun _=>CX0) (sp:=fun w=>J6L (K w.params)) hn (by decide) hdf ⟨rfl,by decide,by decide⟩ hY F (fun _ _ a ns hl _ hS=>⟨a,ns,rfl,hS,hl,fun _=>rfl⟩) fun _ _ _ _ _ z=>z
theorem all_mk {l:PySem.W.OpenLaw}{w:World}{K:Frag}{h:Heap}{mg:Str->Option Value}{fa:Addr}(X:K.In h)(G:h.Ns mainGlobals mg)(hfa:mg "law"=some (.ref fa))(T:∃ f fd,Txt K mg f fd/\f 36=f 36/\∃ kV dc pm an cd ct,fd 36=PySem.W.fnOf "law" "law" (J1g s_law) (J18 s_law) (Jf s_law) .none kV dc pm an cd ct) :
 ∃ fd:FuncData,(∀ (s:Shared) (v:Value),BindsTo s fd ⟨[v],[]⟩ [("_law_script",v)])/\∀ base:Heap,K.In base->base.Ns mainGlobals mg->FnOk l.prog w K mg base CX0 8 fa fd ["_law_script"] (J6L K):=by
 obtain ⟨f,fd,T,_,kV,dc,pm,an,cd,ct,e⟩:=T;have e2:=hfa.symm.trans T.wV.m;cases e2;exact ⟨fd 36,fun s v=>by rw [e];exact .of_eq rfl,fun base _ _=>ok_law T⟩
end NS
namespace PySem.W.Fast
def tw5921378862033968411:=0
def tw730480877674211423:=0
def tw11449156141314519582:=0
def tw4733171886599851662:=0
def tw3071900179741970296:=0
def tw6088266324113647520:=0
def tw8607839954710810318:=0
def tw8015601762999005916:=0
def tw5951509826519301031:=0
def tw9639917499713763314:=0
def tw16761726234032213742:=0
def tw15773128725844947549:=0
def tw14348668759799904818:=0
def tw17162985812203509531:=0
def tw6570686348833642687:=0
def tw9802795655938280458:=0
def tw1152018216641408562:=0
def tw5240163910045680340:=0
def tw5882194628907800065:=0
def tw1929153478699443177:=0
def tw4266036861106713812:=0
def tw2212927959526277316:=0
def tw2299589274291427725:=0
def tw2571874465002420868:=0
def tw13897176972120608894:=0
def tw5026156946590500351:=0
def tw17071820666619793875:=0
def tw11500614328996936531:=0
def tw1986102146801001603:=0
def tw1000982512617251263:=0
def tw14870782315553467201:=0
def tw16090180272696121120:=0
def tw5523166523025327768:=0
def tw14283627991326248262:=0
def tw12586847429048688803:=0
def tw11595487942002534745:=0
def tw11909370666206493286:=0
def tw17799433673080830127:=0
def tw2001287352693375647:=0
def tw14538139400230215019:=0
def tw6554495819476955603:=0
def tw13642535604524906598:=0
def tw14060402516279803497:=0
def tw1560099052659890165:=0
def tw10830393162401056505:=0
def tw1610689943271514491:=0
def tw18276915124240307360:=0
def tw8427622893556944528:=0
def tw10051193106114043697:=0
def tw8604448276020256003:=0
def tw8845644875744403315:=0
def tw16340232342062474632:=0
def tw10791927730811966334:=0
def tw12831466927699064126:=0
def tw5752034631579927787:=0
def tw3586755641722993176:=0
def tw14121612798699897510:=0
def tw1695919783212313060:=0
def tw13398961488771412638:=0
def tw11978554960026198638:=0
def tw16326321624263908214:=0
def tw15566367741834479570:=0
def tw7006807253890594664:=0
def tw4783098030156058164:=0
def tw15746443167539149614:=0
def tw6590455721774188359:=0
def tw5279428111825251052:=0
def tw14530364951988262680:=0
def tw8384055912946992565:=0
def tw18334175732739639000:=0
def tw17170681107433239157:=0
def tw9661708414040901085:=0
def tw14188412744267584517:=0
def tw412007848235610599:=0
def tw14783170100105711517:=0
def tw216920007110417158:=0
def tw16194490371037003102:=0
def tw8723692906361276768:=0
def tw11628710683414425239:=0
def tw5257455236811999521:=0
def tw8777222479369754443:=0
def tw6434924801847414195:=0
def tw16480337405773516996:=0
def tw11278774086699192619:=0
def tw11834272248639354397:=0
def tw14490424932395820699:=0
def tw18392866004151996664:=0
def tw12681652034695981621:=0
def tw5496346464857217489:=0
def tw15072941761967873334:=0
def tw5388929923426545501:=0
def tw17186861231082340885:=0
def tw15115268646638139366:=0
def tw11297400932250467293:=0
def tw17400966705763061962:=0
def tw13527192094866419492:=0
def tw4125559923602090721:=0
def tw13478405394250974850:=0
def tw8815218898645653083:=0
def tw2116412379570485151:=0
def tw12527206167035692592:=0
def tw1673757206099091643:=0
def tw4466436868982275538:=0
def tw9857062913353194369:=0
def tw1222533115769292655:=0
def tw8726430408976175396:=0
def tw9356661019493853852:=0
def tw6154484905449353277:=0
def tw9889224507773488304:=0
def tw4830372994077500839:=0
def tw6800431985204580771:=0
def tw15333193697453742460:=0
def tw9935427497888668160:=0
def tw2048775141530980341:=0
def tw544702099298831532:=0
def tw9158159831663331687:=0
def tw4769461914607578487:=0
def tw2106438080463363223:=0
def tw6176739370183162417:=0
def tw7682780892317343865:=0
def tw11443203059909005928:=0
def tw17272237646180080142:=0
def tw8018548890059756389:=0
def tw18021507821024670675:=0
def tw4833106193286339051:=0
def tw12673391723726159041:=0
def tw7540994289158192829:=0
def tw8433168038714944331:=0
def tw16283845459007132149:=0
def tw6836419643269842150:=0
def tw17032893757075533442:=0
def tw3459539239596111743:=0
def tw586723740524004049:=0
def tw4436978784183664518:=0
def tw14490182029523452337:=0
def tw15116936923485850703:=0
def tw8236278559625193498:=0
def tw317827820407126950:=0
def tw16626780315187234808:=0
def tw17555834550680500534:=0
def tw10838088854282732980:=0
def tw12956217717715723518:=0
def tw3291939126240313010:=0
def tw18146136921832766398:=0
def tw16936189081560194921:=0
def tw17269389379180052641:=0
def tw7863045141676113290:=0
def tw12672137244466495884:=0
def tw2792084537667594917:=0
def tw14995702455328099211:=0
def tw15672845854586674196:=0
def tw334985091306528920:=0
def tw12757126768636666363:=0
def tw5388096870883386361:=0
def tw8961101234506140211:=0
def tw13186269138478767190:=0
def tw10222227805799291568:=0
def tw10792249499286376751:=0
def tw15864945235899087684:=0
def tw5867500190795286136:=0
def tw11416024931039642970:=0
def tw9119773322191688533:=0
def tw4358693322257306891:=0
def tw5948578628511524324:=0
def tw15172088827698816558:=0
def tw12665888634028661068:=0
def tw12461370660831086992:=0
def tw7850117876045186684:=0
def tw6297951012750897156:=0
def tw17087234888018216543:=0
def tw3629596054218627995:=0
def tw96364334276780966:=0
def tw13554843623702182160:=0
def tw16126031805278613854:=0
def tw5617056849427571230:=0
def tw5051915532703960486:=0
def tw9046988165093734344:=0
def tw12031850685570678453:=0
def tw16966272332884875650:=0
def tw14797777471966386242:=0
def tw11711900547051256791:=0
def tw9848300321059669323:=0
def tw16830675108458964811:=0
def tw4917610558125396157:=0
def tw6417196786848528086:=0
def tw4486449548011412598:=0
def tw16246619374297480399:=0
def tw4080908946146693485:=0
def tw2956875972047727335:=0
def tw14555941133991740817:=0
def tw17585260886621160751:=0
def tw8424278139493656699:=0
def tw10004944373655286754:=0
def tw4801120476958714959:=0
def tw13429657327687036678:=0
def tw18402089078199582191:=0
def tw14863166593065783936:=0
def tw13487510640149611289:=0
def tw8887351593089652046:=0
def tw6492589666116099945:=0
def tw14374462783340479448:=0
def tw4511394849537213485:=0
def tw14563392996950484102:=0
def tw18133184061757492114:=0
def tw15366699139021161370:=0
def tw7430890392343463177:=0
def tw1782965835732273231:=0
def tw12499141828292594557:=0
def tw17349193250859345126:=0
def tw17059151602627761176:=0
def tw11341960405320122733:=0
def tw5149947872267338932:=0
def tw15261125377416288324:=0
def tw13969898703395775379:=0
def tw14942887489963754216:=0
def tw3805393694445985824:=0
def tw2132052274098924237:=0
def tw7204919478187751627:=0
def tw2574855656352825749:=0
def tw10620319223410878002:=0
def tw14949142151752191592:=0
def tw10556806847737441933:=0
def tw6525579002531952980:=0
def tw17177913620418375349:=0
def tw7010036621380233330:=0
def tw12429420967779766876:=0
def tw16335895977229979342:=0
def tw13045581990443569388:=0
def tw6871562463976429255:=0
def tw18263726171968655463:=0
end PySem.W.Fast
open PySem PySem.W PyProof.Rows
set_option maxRecDepth 100000 in
set_option maxHeartbeats 0 in
theorem PySem.Challenge.cw_crosshall_k36_whole_parts_add_up_holds : PySem.Challenge.rw_crosshall_k36_whole_parts_add_up.Holds := by
 w_on;o_law;k_head;(case hw=>w_witness2)
 k_fill
 refine NS.walk (l:=PySem.Challenge.rw_crosshall_k36_whole_parts_add_up) rfl rfl (fun w h Y=>by first | exact PySem.W.kIn_of Y | exact PySem.W.km_in_of Y) ?F
 case F =>
  intro w mg fa h KX G hmg;refine NS.all_mk KX G hmg ?_
  suffices TT:∃ f fd,NS.Txt (L2.KOf KX) mg f fd/\f 36=f 36/\∃ kV dc pm an cd ct,fd 36=PySem.W.fnOf "law" "law" (L2.J1g NS.s_law) (L2.J18 NS.s_law) (L2.Jf NS.s_law) .none kV dc pm an cd ct from TT
  dsimp only [L2.KOf];obtain ⟨f,fd,T,_,z⟩:∃ f fd,NS.Txt _ mg f fd/\f 36=_/\∃ kV dc pm an cd ct,fd 36=PySem.W.fnOf "law" "law" (L2.J1g NS.s_law) (L2.J18 NS.s_law) (L2.Jf NS.s_law) .none kV dc pm an cd ct:=by
   refine' NS.txt_mk KX G ?a7 ?a5 ?l5 ?a8 ?l8 ?a10 ?l10 ?a13 ?l13 ?a14 ?l14 ?a15 ?l15 ?a16 ?l16 ?a17 ?l17 ?a18 ?l18 ?a19 ?l19 ?a20 ?l20 ?a21 ?l21 ?a22 ?l22 ?a23 ?l23 ?a24 ?l24 ?a25 ?l25 ?a27 ?l27 ?a28 ?l28 ?a29 ?l29 ?a30 ?l30 ?a31 ?l31 ?a32 ?l32 ?a33 ?l33 ?a34 ?l34 ?a35 ?l35 ?a36 ?l36 ?a8000 ?l8000 ?b8000 ?a8001 ?l8001 ?b8001 ?a8002 ?l8002 ?b8002 ?a8003 ?l8003 ?b8003 ?a8004 ?l8004 ?b8004 ?o_Stream_pg ?o_Stream_hd ?o_Stream_po ?o_Stream_sa ?o_Stream_ma ?o_Stream_kp ?v_na_Stream_arcs ?v_na_Stream_borne ?v_na_Stream_steps ?z_bool ?z_enumerate ?z_int ?z_isinstance ?z_len ?z_list ?z_min ?z_range ?z_set ?z_sorted ?z_sum ?z_zip ?y_MOST_GROUPS
   (case a7 | a5 | a8 | a10 | a13 | a14 | a15 | a16 | a17 | a18 | a19 | a20 | a21 | a22 | a23 | a24 | a25 | a27 | a28 | a29 | a30 | a31 | a32 | a33 | a34 | a35 | a36 | a8000 | b8000 | a8001 | b8001 | a8002 | b8002 | a8003 | b8003 | a8004 | b8004 | o_Stream_pg | o_Stream_hd | o_Stream_po | o_Stream_sa | o_Stream_ma | o_Stream_kp | v_na_Stream_arcs | v_na_Stream_borne | v_na_Stream_steps | z_bool | z_enumerate | z_int | z_isinstance | z_len | z_list | z_min | z_range | z_set | z_sorted | z_sum | z_zip | y_MOST_GROUPS=>k_is)
   (case l5 | l8 | l10 | l13 | l14 | l15 | l16 | l17 | l18 | l19 | l20 | l21 | l22 | l23 | l24 | l25 | l27 | l28 | l29 | l30 | l31 | l32 | l33 | l34 | l35 | l36 | l8000 | l8001 | l8002 | l8003 | l8004=>refine' L2.JdZ ?l ?c ?k;(case l=>k_is);(case c | k=>k_is))
  exact ⟨f,fd,T,rfl,z⟩