import PyProof.Rows.All
import Wide.All
import OpenK.AllK
import Wide.FinOn
import Lean
import PyProof.EqAt
import PyProof.EqKinds
import PyProof.TupleCall
import OpenK.KOwn
import PyProof.InstStoreFacts
import PyProof.EnumFor
import PyProof.EnumMake
import PyProof.EnumStmt
import KE.KDictList
import PyProof.ListRange
import PyProof.Rows.SetFrom
import PyProof.WalksMore
import PyProof.ZipIter
import PyProof.AttrMissSeq
import KE.KDictOf
import PyProof.MinMaxWalk
import PyProof.Rows.CallKwBuiltin
import KE.KMinKey
import KE.KRevSl
import PyProof.SumAny
import PyProof.P3In
import PyProof.SeqI3
import PyProof.MaxThree
import PyProof.SetKind
import PyProof.Rows.SortRunsK
import PyProof.Rows.SortShellK
import PyProof.DictRoadsH
import PyProof.MeetsDict
import PyProof.DictTruth
import KE.KSortTup
import KE.KSortKey
import PySem.Challenge.RW_crosshall_k37_parts_refused
set_option compiler.extract_closed false
set_option Elab.async false
set_option linter.all false
set_option maxHeartbeats 4000000
set_option maxRecDepth 100000
local macro_rules | `(tactic|omega)=>`(tactic|first | lia | omega (config:={}))
noncomputable section
def yF:=@PySem.wpAny_bind
def yG:=@PySem.wpAny_pure
def yH:=@if_neg
def yI:=@if_pos
def yJ:=@Nat.le_refl
def yK:=@Bool.false_ne_true
def yL:=@decide_eq_true
def yM:=@decide_eq_false
def yN:=@Option.some.inj
def yO:=@Nat.ne_of_lt
def yP:=@Nat.lt_of_lt_of_le
def yQ:=@Nat.zero_le
def yR:=@Nat.le_trans
def yS:=@False.elim
def yT:=@Array.length_toList
def yU:=@List.getElem?_eq_getElem
def yV:=@List.getElem?_eq_some_iff
def yW:=@List.length_map
def yX:=@List.mem_singleton
def yY:=@List.size_toArray
def yZ:=@List.getD_eq_getElem?_getD
def y4:=@List.mem_of_getElem?
def y6:=@List.length_append
def y7:=@List.length_take
def y8:=@List.mem_cons_of_mem
def y9:=@List.mem_cons_self
def zc:=@List.mem_cons
def zd:=@List.map_cons
def ze:=@List.getElem?_map
def zf:=@List.take_length
def zg:=@List.map_append
def zh:=@List.mem_append
def zi:=@List.mem_append_right
def zj:=@List.mem_append_left
def zk:=@List.mem_iff_getElem?
def zl:=@List.mem_map
def zm:=@List.getElem?_append_right
def zn:=@List.getElem?_append_left
def zo:=@List.length_range
def zp:=@List.append_assoc
def zq:=@List.length_replicate
def zr:=@PySem.Heap.get?_push_of_some
def zt:=@PySem.Heap.get?_push_size
def zu:=@PySem.Heap.lt_size
def zw:=@PySem.Heap.get?_update_other
def zx:=@PySem.F.plainAttrs_list
def zy:=@PySem.W.mg_none_of
def zA:=@PySem.Around.under_plainId
open List (mem_filter mem_range filterMap_cons getElem_inj mem_filterMap any_eq_false length_cons append_nil nodup_cons of_mem_zip take_sublist filterMap_map length_drop length_set replicate_succ flatten_cons foldl_cons length_singleton eraseIdxIfInBounds_toArray nil_append any_cons length_nil map_nil forIn_cons lookup_cons all_eq_true all_cons any_map contains_cons map_map not_mem_nil take_of_length_le take_add_one foldl_append mem_of_mem_erase length_erase_of_mem length_pos_of_mem take_append_of_le_length nodup_append any_eq_true mem_map_of_mem forIn_nil length_pos_iff getElem_mem set_cons_zero set_cons_succ foldl_nil pairwise_iff_getElem pairwise_append pairwise_cons drop_sublist pairwise_lt_range pairwise_map filterMap_cons_none filterMap_cons_some getElem_cons_succ eraseIdx_cons_succ eq_nil_of_length_eq_zero length_eraseIdx_of_lt range_succ ext_getElem? drop_drop take_append_drop mem_of_mem_take perm_append_comm drop_eq_nil_of_le mem_of_mem_drop drop_eq_getElem_cons extract_eq_drop_take take_take take_succ_eq_append_getElem drop_append_of_le_length drop_take zipIdx_cons getElem_set_self take_set_of_le drop_set_of_lt set_append_right eraseIdx_append_of_length_le drop_left take_left' drop_left' take_append drop_append countP_cons pairwise_singleton zip_cons_cons map_snd_zip cons_append nodup_nil length_zip reverse_perm forIn_toArray zip_map_right length_eq_zero_iff map_set cons_ne_nil take_succ drop_length length_reverse map_const' map_congr_left map_id map_take length_filter_le filter_append dropLast_concat_getLast map_eq_nil_iff zip_map_left map_fst_zip filter_cons filter_nil flatMap_append flatMap_cons flatMap_nil length_zipIdx zipIdx_append exists_mem_of_ne_nil filter_eq_self filter_sublist mem_flatMap replicate_zero mem_or_eq_of_mem_set replicate_succ' eq_of_mem_replicate eraseIdx_sublist length_eraseIdx map_drop filter_eq_nil_iff)
open PySem.W (Frag nsIn findIn)
namespace L2
open PySem PySem.Spec PyProof.Rows
abbrev Key:=Sum Int Str
def J2F:Key->Value->Bool
 | .inl k,v=>Value.isInt k v
 | .inr x,v=>Value.isStrOf x v
def JcC (w:World):Key->Int
 | .inl k=>hashInt k
 | .inr x=>hashStr w x
theorem JF:∀ {k:Key} {v:Value},J2F k v=true->(∃ i t,k=Sum.inl i/\v=Value.int i t)\/(∃ x t,k=Sum.inr x/\v=Value.str x t)
 | .inl i,v,h=>by
   obtain ⟨t,e⟩:=Value.isInt_shape (k:=i) (v:=v) h;exact .inl ⟨i,t,rfl,e⟩
 | .inr x,v,h=>by
   obtain ⟨t,e⟩:=Value.isStrOf_shape (x:=x) (v:=v) h;exact .inr ⟨x,t,rfl,e⟩
theorem J8M (i:Int)(t:Tok):J2F (.inl i) (.int i t)=true:=by simp [J2F,Value.isInt]
theorem J8L (x:Str)(t:Tok):J2F (.inr x) (.str x t)=true:=by simp [J2F,Value.isStrOf]
theorem Jc5 (a b:Int):decide ((Sum.inl a:Key)=Sum.inl b)=(a == b):=by
 by_cases e:a=b
 ·subst e;simp
 ·have h:¬ (Sum.inl a:Key)=Sum.inl b:=fun q=>e (Sum.inl.inj q)
  rw [yM h];exact (beq_eq_false_iff_ne.mpr e).symm
theorem Jc2 (a b:Str):decide ((Sum.inr a:Key)=Sum.inr b)=decide (a=b):=by
 by_cases e:a=b
 ·subst e;simp
 ·have h:¬ (Sum.inr a:Key)=Sum.inr b:=fun q=>e (Sum.inr.inj q)
  rw [yM h,yM e]
theorem Jc4 (a:Int)(b:Str):decide ((Sum.inl a:Key)=Sum.inr b)=false:=yM (fun q=>nomatch q)
theorem Jc3 (a:Str)(b:Int):decide ((Sum.inr a:Key)=Sum.inl b)=false:=yM (fun q=>nomatch q)
def J09 (prog:Program)(w:World):PySem.KeyKind prog w Key where
 is:=J2F
 hash:=JcC w
 inj := fun v a b ha hb=>by
  rcases JF ha with ⟨i,t,rfl,rfl⟩ | ⟨x,t,rfl,rfl⟩
  ·rcases JF hb with ⟨j,u,rfl,e⟩ | ⟨y,u,rfl,e⟩
   ·injection e with e1 _;rw [e1]
   ·exact nomatch e
  ·rcases JF hb with ⟨j,u,rfl,e⟩ | ⟨y,u,rfl,e⟩
   ·exact nomatch e
   ·injection e with e1 _;rw [e1]
 byValue:=fun k v h=>by
  rcases JF h with ⟨i,t,rfl,rfl⟩ | ⟨x,t,rfl,rfl⟩<;>rfl
 pyHash:=fun hv h=>by
  rcases JF hv with ⟨i,t,rfl,rfl⟩ | ⟨x,t,rfl,rfl⟩
  ·exact wpAny_pyHash_int h
  ·exact wpAny_pyHash_str h
 eqBool:=fun hu hv h=>by
  rcases JF hu with ⟨i,t,rfl,rfl⟩ | ⟨x,t,rfl,rfl⟩
  ·rcases JF hv with ⟨j,u,rfl,rfl⟩ | ⟨y,u,rfl,rfl⟩
   ·rw [Jc5] at h;exact wpAny_eqBool_int h
   ·rw [Jc4] at h;exact SeqAt.EqAt.int_str i t y u _ _ _ _ h
  ·rcases JF hv with ⟨j,u,rfl,rfl⟩ | ⟨y,u,rfl,rfl⟩
   ·rw [Jc3] at h;exact SeqAt.EqAt.str_int x t j u _ _ _ _ h
   ·rw [Jc2] at h;exact wpAny_eqBool_str h
 «strs»:=fun k x t v h=>by
  rcases JF h with ⟨i,u,rfl,e⟩ | ⟨y,u,rfl,e⟩
  ·exact nomatch e
  ·injection e with e1 _
   subst e1;cases v<;>rfl
theorem J6y (prog:Program)(w:World)(i:Int)(t:Tok):(J09 prog w).is (.inl i) (.int i t)=true:=J8M i t
theorem J6x (prog:Program)(w:World)(x:Str)(t:Tok):(J09 prog w).is (.inr x) (.str x t)=true:=J8L x t
abbrev J0l:=Option Key
def nIs:J0l->Value->Bool
 | none,.none=>true
 | none,_=>false
 | some k,v=>J2F k v
def nH (w:World):J0l->Int
 | none=>reduceHash 0xFCA86420
 | some k=>JcC w k
theorem J0a:∀ {k:J0l} {v:Value},nIs k v=true->(k=none/\v=Value.none)\/∃ q,k=some q/\J2F q v=true
 | none,v,h=>by cases v<;>first | exact .inl ⟨rfl,rfl⟩ | exact nomatch h
 | some k,v,h=>.inr ⟨k,rfl,h⟩
theorem J33 {q:Key}(h:J2F q Value.none=true):False:=by
 rcases JF h with ⟨_,_,_,e⟩ | ⟨_,_,_,e⟩<;>exact nomatch e
theorem J6q {prog:Program}{w:World}{A:Around}{E:Value->Shared->Prop}{s:Shared}{Q:Int->Shared->Prop}(h:Q (reduceHash 0xFCA86420) { s with toks:=s.toks+1 }):wpAny (model prog w) A (pyHash .none) Q E s :=
 PySem.W.pyHash_slot (T:="NoneType") rfl F.slot_NoneType_hash F.entry_NoneType_hash (F.args_NoneType_hash_1 _) (beq_builtin_none _) (.inl rfl) (yF (yG (yF (wpAny_mkInt (yG ⟨_,_,rfl,h⟩)))))
theorem J6P {prog:Program}{w:World}{A:Around}{E:Value->Shared->Prop}{s:Shared}{Q:Bool->Shared->Prop}(h:Q true s):wpAny (model prog w) A (eqBool .none .none) Q E s:=by
 unfold eqBool
 try with_reducible refine wpAny_holding ?_
 show wpAny _ _ (if (Value.none == Value.none)=true then _ else _) Q E s;rw [yI (by decide)];exact yF (wpAny_rule (yG h))
def JZ (prog:Program)(w:World):PySem.KeyKind prog w J0l where
 is:=nIs
 hash:=nH w
 inj := fun v a b ha hb=>by
  rcases J0a ha with ⟨rfl,rfl⟩ | ⟨q,rfl,hq⟩
  ·rcases J0a hb with ⟨rfl,_⟩ | ⟨q',rfl,hq'⟩
   ·rfl
   ·exact (J33 hq').elim
  ·rcases J0a hb with ⟨rfl,rfl⟩ | ⟨q',rfl,hq'⟩
   ·exact (J33 hq).elim
   ·rw [(J09 prog w).inj v q q' hq hq']
 byValue:=fun k v h=>by
  rcases J0a h with ⟨rfl,rfl⟩ | ⟨q,rfl,hq⟩
  ·rfl
  ·exact (J09 prog w).byValue q v hq
 pyHash:=fun hv h=>by
  rcases J0a hv with ⟨rfl,rfl⟩ | ⟨q,rfl,hq⟩
  ·exact J6q h
  ·exact (J09 prog w).pyHash hq h
 eqBool:=fun {A E s a b u v Q} hu hv h=>by
  rcases J0a hu with ⟨rfl,rfl⟩ | ⟨q,rfl,hq⟩
  ·rcases J0a hv with ⟨rfl,rfl⟩ | ⟨q',rfl,hq'⟩
   ·exact J6P (by simpa using h)
   ·have h':Q false s:=by simpa using h
    rcases JF hq' with ⟨i,t,rfl,rfl⟩ | ⟨x,t,rfl,rfl⟩
    ·exact SeqAt.EqAt.none_int i t _ _ _ _ h'
    ·exact SeqAt.EqAt.none_str x t _ _ _ _ h'
  ·rcases J0a hv with ⟨rfl,rfl⟩ | ⟨q',rfl,hq'⟩
   ·have h':Q false s:=by simpa using h
    rcases JF hq with ⟨i,t,rfl,rfl⟩ | ⟨x,t,rfl,rfl⟩
    ·exact SeqAt.EqAt.int_none i t _ _ _ _ h'
    ·exact SeqAt.EqAt.str_none x t _ _ _ _ h'
   ·refine (J09 prog w).eqBool hq hq' ?_
    have e:decide ((some q:J0l)=some q')=decide (q=q'):=by simp
    rw [<- e];exact h
 «strs»:=fun k x t v h=>by
  rcases J0a h with ⟨rfl,e⟩ | ⟨q,rfl,hq⟩
  ·exact nomatch e
  ·exact (J09 prog w).strs q x t v hq
inductive V where
 | non | bl (b:Bool) | int (i:Int) | str (x:Str) | byt (b:Array UInt8) | flt (b:UInt64) | ref (a:Addr) | ty (n:String)
 deriving DecidableEq
def RelV:V->Value->Prop
 | .non,u=>u=Value.none
 | .bl b,u=>u=Value.bool b
 | .int i,u=>∃ t,u=Value.int i t
 | .str x,u=>∃ t,u=Value.str x t
 | .byt b,u=>∃ t,u=Value.bytes b t
 | .flt b,u=>∃ t,u=Value.float b t
 | .ref a,u=>u=Value.ref a
 | .ty n,u=>u=Value.type n
abbrev Vals:List V->List Value->Prop:=Paired RelV
theorem Vals.length {xs:List V}{us:List Value}(r:Vals xs us):xs.length=us.length:=Paired.length r
theorem Vals.get:∀ {xs:List V} {us:List Value} {i:Nat} {x:V},Vals xs us->xs[i]?=some x->∃ u,us[i]?=some u/\RelV x u
 | _,_,_,_,.nil,e=>by simp at e
 | _,_,0,_,.cons r _,e=>by simp at e;subst e;exact ⟨_,rfl,r⟩
 | _,_,i+1,x,.cons _ t,e=>by
   obtain ⟨u,h1,h2⟩:=Vals.get (i:=i) (x:=x) t (by simpa using e);exact ⟨u,by simpa using h1,h2⟩
theorem Vals.set {x:V}{u:Value}(r:RelV x u):∀ {xs:List V} {us:List Value} (i:Nat),Vals xs us->Vals (xs.set i x) (us.set i u)
 | _,_,_,.nil=>.nil
 | _,_,0,.cons _ t=>.cons r t
 | _,_,i+1,.cons q t=>.cons q (Vals.set r i t)
theorem Vals.append:∀ {xs ys:List V} {us ws:List Value},Vals xs us->Vals ys ws->Vals (xs++ys) (us++ws)
 | _,_,_,_,.nil,s=>s
 | _,_,_,_,.cons r t,s=>.cons r (Vals.append t s)
theorem Vals.take:∀ {xs:List V} {us:List Value} (n:Nat),Vals xs us->Vals (xs.take n) (us.take n)
 | _,_,0,_=>.nil
 | _,_,_+1,.nil=>.nil
 | _,_,n+1,.cons r t=>.cons r (Vals.take n t)
theorem Vals.drop:∀ {xs:List V} {us:List Value} (n:Nat),Vals xs us->Vals (xs.drop n) (us.drop n)
 | _,_,0,r=>r
 | _,_,_+1,.nil=>.nil
 | _,_,n+1,.cons _ t=>Vals.drop n t
def RelO:Option V->Option Value->Prop
 | some v,some u=>RelV v u
 | none,none=>True
 | _,_=>False
def KV {κ:Type}:List (κ×V)->List (κ×Value)->Prop:=Paired fun (p:κ×V) (q:κ×Value)=>p.1=q.1/\RelV p.2 q.2
def kV:Key->V
 | .inl i=>.int i
 | .inr x=>.str x
def nV:J0l->V
 | none=>.non
 | some k=>kV k
inductive HO where
 | lst (xs:List V)
 | tup (xs:List V)
 | dK (kvs:List (Key×V)) | dT (kvs:List (List J0l×V))
 | set (S:Int->Bool) (n:Nat)
 | ins (C dx:Addr) (fs:List (Str×V))
 | own (x:Addr)
 | xd (fs:List (Str×V))
 | met (f x:Addr)
 | rng (lo hi:Int)
 | frz (o:Obj) (u:HO)
 | tbl (ps:Array Value)
 | ext (φ:Heap->Prop)
abbrev Hp:=Addr->Option HO
def upd (H:Hp)(a:Addr)(o:HO):Hp:=fun b=>if b=a then some o else H b
theorem Ja {H:Hp}{a:Addr}{o:HO}:upd H a o a=some o:=by unfold upd;rw [yI rfl]
theorem Jf {H:Hp}{a b:Addr}{o:HO}(h:b≠a):upd H a o b=H b:=by unfold upd;rw [yH h]
theorem J7H {H:Hp}{a:Addr}{o u:HO}:upd (upd H a o) a u=upd H a u:=by
 funext b;unfold upd;split<;>rfl
theorem J2b {H:Hp}{a b:Addr}{o u:HO}(h:H a=some o)(h':H b=some u)(d:o≠u):a≠b:=by
 intro e;subst e;rw [h] at h';exact d (yN h')
theorem Ji {H:Hp}{a b:Addr}{o:HO}(h:H a=some o)(h':H b=none):a≠b:=by
 intro e;subst e;rw [h] at h';cases h'
section
variable (P:Program)(w:World)
def ObjOk (H:Hp)(h:Heap)(a:Addr):HO->Prop
 | .lst xs=>xs.length<=sizeLine/\∃ (its:List Value) (n:Nat),Vals xs its/\h.get? a=some { cls:=.type "list",data:=.seq its.toArray n }
 | .tup xs=>xs.length<=sizeLine/\∃ its:List Value,Vals xs its/\IsTup h a its.toArray
 | .dK kvs=>kvs.length<=sizeLine/\(a == sysModules)=false/\∃ vs,KV kvs vs/\h.DictOf (J09 P w) a vs
 | .dT kvs=>kvs.length<=sizeLine/\(a == sysModules)=false/\∃ xs:List (List J0l×Addr×Value),
  Paired (fun (p:List J0l×V) (q:List J0l×Addr×Value)=>p.1=q.1/\H q.2.1=some (.tup (p.1.map nV))/\RelV p.2 q.2.2) kvs xs /\
  ∃ o es ep,h.get? a=some o/\o.ExactDict/\o.data=.dict es ep/\es.toList=xs.map (entryOfKey (tupleKind (JZ P w)))/\(xs.map (·.1)).Nodup
 | .set S n=>h.SetOf (intKind P w) a S n
 | .ins C dx fs=>H dx=some (.own a)/\fs.length<=1000/\dx≠a/\h.get? a=some (PySem.W.instObj C dx) /\
  ∃ mA,h.Ns1 dx mA/\(∀ f,RelO (fs.lookup f) (mA f))/\PySem.Within mA (fs.map (·.1))
 | .own _=>∃ o,h.get? a=some o
 | .xd fs=>∃ mA,h.Ns1 a mA/\∀ f,RelO (fs.lookup f) (mA f)
 | .rng lo hi=>∃ t u v,h.get? a=some { cls:=.type "range",data:=.fields #[.int lo t,.int hi u,.int 1 v] }
 | .frz o u=>h.get? a=some o/\ObjOk H h a u
 | .tbl ps=>h.get? a=some { cls:=.none,data:=.fields ps }
 | .met f x=>h.get? a=some (PySem.W.methodObj (.ref f) (.ref x))
 | .ext φ=>φ h/\(∃ o,h.get? a=some o)/\∀ h1 h2:Heap,φ h1->(∀ o,h1.get? a=some o->h2.get? a=some o)->φ h2
def HOk (H:Hp)(h:Heap):Prop:=∀ a o,H a=some o->ObjOk P w H h a o
end
section
variable {P:Program}{w:World}{H H':Hp}{h h':Heap}{a:Addr}{o:HO}
theorem ObjOk.lt (x:ObjOk P w H h a o):a<h.objs.size:=by
 cases o with
 | lst xs=>obtain ⟨_,_,_,_,e⟩:=x;exact zu e
 | tup xs=>obtain ⟨_,_,_,p⟩:=x;exact p.lt
 | dK kvs=>obtain ⟨_,_,_,_,o,_,_,e,_⟩:=x;exact zu e
 | dT kvs=>obtain ⟨_,_,_,_,o,_,_,e,_⟩:=x;exact zu e
 | set S n=>obtain ⟨o,_,_,_,e,_⟩:=x;exact zu e
 | ins C dx fs=>obtain ⟨_,_,_,e,_⟩:=x;exact zu e
 | own y=>obtain ⟨_,e⟩:=x;exact zu e
 | xd fs=>obtain ⟨_,⟨_,_,_,e,_⟩,_⟩:=x;exact zu e
 | rng lo hi=>obtain ⟨_,_,_,e⟩:=x;exact zu e
 | frz ob u=>obtain ⟨e,_⟩:=x;exact zu e
 | tbl ps=>exact zu (show h.get? a=some _ from x)
 | met f y=>exact zu (show h.get? a=some _ from x)
 | ext φ=>obtain ⟨_,⟨_,e⟩,_⟩:=x;exact zu e
theorem Paired.mapP {α β:Type}{F G:α->β->Prop}:∀ {l₁:List α} {l₂:List β},Paired F l₁ l₂->(∀ a b,F a b->G a b)->Paired G l₁ l₂
 | _,_,.nil,_=>.nil
 | _,_,.cons r t,f=>.cons (f _ _ r) (Paired.mapP t f)
theorem ObjOk.stay (x:ObjOk P w H h a o)(k:∀ b u,(b=a\/H b=some (.own a))->h.get? b=some u->h'.get? b=some u)
 (ho:∀ b,H b=some (.own a)->H' b=some (.own a)) (ht:∀ b xs,H b=some (.tup xs)->H' b=some (.tup xs)):ObjOk P w H' h' a o:=by
 induction o with
 | lst xs=>obtain ⟨z,its,n,r,e⟩:=x;exact ⟨z,its,n,r,k _ _ (.inl rfl) e⟩
 | tup xs=>obtain ⟨z,its,r,ob,e,c⟩:=x;exact ⟨z,its,r,ob,k _ _ (.inl rfl) e,c⟩
 | dK kvs=>obtain ⟨z,y,vs,r,ob,es,ep,e,c⟩:=x;exact ⟨z,y,vs,r,ob,es,ep,k _ _ (.inl rfl) e,c⟩
 | dT kvs =>
   obtain ⟨z,y,xs,r,ob,es,ep,e,c⟩:=x;exact ⟨z,y,xs,Paired.mapP r fun p q z=>⟨z.1,ht _ _ z.2.1,z.2.2⟩,ob,es,ep,k _ _ (.inl rfl) e,c⟩
 | set S n=>obtain ⟨ob,es,ep,t,e,c⟩:=x;exact ⟨ob,es,ep,t,k _ _ (.inl rfl) e,c⟩
 | ins C dx fs =>
   obtain ⟨d,z,ne,e,mA,⟨od,es,ep,e2,c⟩,r⟩:=x;exact ⟨ho _ d,z,ne,k _ _ (.inl rfl) e,mA,⟨od,es,ep,k _ _ (.inr d) e2,c⟩,r⟩
 | own y=>obtain ⟨ob,e⟩:=x;exact ⟨ob,k _ _ (.inl rfl) e⟩
 | xd fs=>obtain ⟨mA,⟨od,es,ep,e,c⟩,r⟩:=x;exact ⟨mA,⟨od,es,ep,k _ _ (.inl rfl) e,c⟩,r⟩
 | rng lo hi=>obtain ⟨t,u,v,e⟩:=x;exact ⟨t,u,v,k _ _ (.inl rfl) e⟩
 | frz ob u ih=>obtain ⟨e,q⟩:=x;exact ⟨k _ _ (.inl rfl) e,ih q⟩
 | tbl ps =>
   have e:h.get? a=some { cls:=.none,data:=.fields ps }:=x;show h'.get? a=some { cls:=.none,data:=.fields ps };exact k a _ (.inl rfl) e
 | met f y =>
   have e:h.get? a=some (PySem.W.methodObj (.ref f) (.ref y)):=x;show h'.get? a=some (PySem.W.methodObj (.ref f) (.ref y));exact k a _ (.inl rfl) e
 | ext φ=>obtain ⟨p,⟨o,e⟩,st⟩:=x;exact ⟨st _ _ p fun o q=>k _ _ (.inl rfl) q,⟨o,k _ _ (.inl rfl) e⟩,st⟩
theorem HOk.lt (x:HOk P w H h)(e:H a=some o):a<h.objs.size:=(x a o e).lt
theorem HOk.fresh (x:HOk P w H h)(e:h.objs.size<=a):H a=none:=by
 cases q:H a with
 | none=>rfl
 | some u=>exact absurd (yP (x.lt q) e) (Nat.lt_irrefl _)
theorem HOk.kept (x:HOk P w H h)(k:∀ b u,h.get? b=some u->h'.get? b=some u):HOk P w H h':=fun a o e =>
 (x a o e).stay (fun b u _ q=>k b u q) (fun _ q=>q) fun _ _ q=>q
theorem HOk.laid (x:HOk P w H h)(k:∀ b u,h.get? b=some u->h'.get? b=some u)(hp:h.objs.size<=a)(new:ObjOk P w (upd H a o) h' a o):HOk P w (upd H a o) h':=fun b u e=>by
 have hn:=x.fresh hp;by_cases hb:b=a
 ·subst hb;rw [Ja] at e;cases e;exact new
 ·rw [Jf hb] at e
  exact (x b u e).stay (fun c v _ q=>k c v q) (fun c q=>by rw [Jf (Ji q hn)];exact q) fun c xs q=>by rw [Jf (Ji q hn)];exact q
end
def Rd (H:Hp)(a:Addr)(u:HO):Prop:=H a=some u\/∃ o,H a=some (.frz o u)
theorem Rd.ok {P:Program}{w:World}{H:Hp}{h:Heap}{a:Addr}{u:HO}(r:Rd H a u)(x:HOk P w H h):ObjOk P w H h a u:=by
 rcases r with r | ⟨o,r⟩
 ·exact x a u r
 ·obtain ⟨_,q⟩:=x a _ r
  exact q
def Mut:Option HO->Prop
 | some (.lst _)=>True
 | some (.dK _)=>True
 | some (.dT _)=>True
 | some (.set _ _)=>True
 | some (.ins _ _ _)=>True
 | some (.ext _)=>True
 | _=>False
section
variable {P:Program}{w:World}{H:Hp}{h h':Heap}{x e:Addr}{o':HO}
theorem HOk.write (ok:HOk P w H h)(mu:Mut (H x))(he:e=x\/H e=some (.own x))(k:∀ b u,b≠e->h.get? b=some u->h'.get? b=some u)(heo:∃ u,h'.get? e=some u)
 (new:ObjOk P w (upd H x o') h' x o'):HOk P w (upd H x o') h':=fun b u q=>by
 have nown:∀ c y,H c=some (.own y)->c≠x:=fun c y r z=>by subst z;rw [r] at mu;exact mu
 have ntup:∀ c xs,H c=some (.tup xs)->c≠x:=fun c xs r z=>by subst z;rw [r] at mu;exact mu
 by_cases hb:b=x
 ·subst hb;rw [Ja] at q;cases q;exact new
 ·rw [Jf hb] at q
  by_cases hbe:b=e
  ·have q':H b=some (.own x):=by
    rcases he with z | z
    ·exact absurd (hbe.trans z) hb
    ·rw [hbe];exact z
   rw [q] at q';cases q';obtain ⟨v,hv⟩:=heo;exact ⟨v,by rw [hbe];exact hv⟩
  ·refine (ok b u q).stay (fun c v hc r=>k c v ?_ r) (fun c r=>by rw [Jf (nown c b r)];exact r) fun c xs r=>by rw [Jf (ntup c xs r)];exact r
   rcases hc with rfl | hc
   ·exact hbe
   ·rintro rfl
    rcases he with z | z
    ·exact nown c b hc z
    ·rw [hc] at z;cases z;exact hb rfl
end
structure Un (fs ex:List Addr)(H H':Hp)(h h':Heap):Prop where
 keep:∀ b o,h.get? b=some o->H b=none->b∉fs->b∉ex->h'.get? b=some o
 slot:∀ b o,h.get? b=some o->H b=none->b∈fs->b∉ex->∃ sl,h'.get? b=some { o with slots:=sl }
 free:∀ b o,h.get? b=some o->H b=none->b∉ex->H' b=none
 there:∀ b o,h.get? b=some o->b∉ex->∃ o',h'.get? b=some o'
 tups:∀ b xs,H b=some (.tup xs)->H' b=some (.tup xs)
 frzs:∀ b o u,H b=some (.frz o u)->H' b=some (.frz o u)
 tbls:∀ b ps,H b=some (.tbl ps)->∃ more,H' b=some (.tbl (ps++more))
section
variable {fs fs' ex ex':List Addr}{H H1 H2:Hp}{h h1 h2 h':Heap}{a x e:Addr}{o:HO}
theorem Un.any (u:Un fs ex H H1 h h1){b:Addr}{ob:Obj}(q:h.get? b=some ob)(n:H b=none)(hx:b∉ex):∃ sl,h1.get? b=some { ob with slots:=sl }:=by
 by_cases hb:b∈fs
 ·exact u.slot b ob q n hb hx
 ·exact ⟨ob.slots,u.keep b ob q n hb hx⟩
theorem Un.kept (k:∀ b u,h.get? b=some u->h'.get? b=some u):Un fs ex H H h h' :=
 ⟨fun b ob q _ _ _=>k b ob q,fun b ob q _ _ _=>⟨ob.slots,k b ob q⟩,fun _ _ _ n _=>n,fun b ob q _=>⟨ob,k b ob q⟩,fun _ _ q=>q,fun _ _ _ q=>q,fun _ ps q=>⟨#[],by rw [q];simp⟩⟩
theorem Un.refl:Un fs ex H H h h:=Un.kept fun _ _ q=>q
theorem Un.laid (k:∀ b u,h.get? b=some u->h'.get? b=some u)(hp:h.objs.size<=a)(hn:H a=none):Un fs ex H (upd H a o) h h' where
 keep:=fun b u q _ _ _=>k b u q
 slot:=fun b u q _ _ _=>⟨u.slots,k b u q⟩
 free:=fun b u q n _=>by rw [Jf (yO (yP (zu q) hp))];exact n
 there:=fun b u q _=>⟨u,k b u q⟩
 tups:=fun b xs q=>by rw [Jf (Ji q hn)];exact q
 frzs:=fun b u xs q=>by rw [Jf (Ji q hn)];exact q
 tbls:=fun b ps q=>⟨#[],by rw [Jf (Ji q hn),q];simp⟩
theorem Un.write (mu:Mut (H x))(he:e=x\/H e=some (.own x))(k:∀ b u,b≠e->h.get? b=some u->h'.get? b=some u)(heo:∃ u,h'.get? e=some u):Un fs ex H (upd H x o) h h':=by
 have hx:∀ b,H b=none->b≠x:=fun b n z=>by subst z;rw [n] at mu;exact mu
 have hb:∀ b,H b=none->b≠e:=fun b n z=>by
  subst z;rcases he with r | r
  ·exact hx b n r
  ·rw [n] at r;cases r
 have hm:∀ b u,H b=some u->¬ Mut (some u)->b≠x:=fun b u q nm z=>by subst z;rw [q] at mu;exact nm mu
 refine ⟨fun b u q n _ _=>k b u (hb b n) q,fun b u q n _ _=>⟨u.slots,k b u (hb b n) q⟩,fun b u q n _=>by rw [Jf (hx b n)];exact n,fun b u q _=>?_,
  fun b xs q=>by rw [Jf (hm b _ q fun z=>z)];exact q,fun b u xs q=>by rw [Jf (hm b _ q fun z=>z)];exact q,fun b ps q=>⟨#[],by rw [Jf (hm b _ q fun z=>z),q];simp⟩⟩
 by_cases hbe:b=e
 ·subst hbe;exact heo
 ·exact ⟨u,k b u hbe q⟩
end
def trk (h:Heap)(H:Hp):List Addr:=(List.range h.objs.size).filter fun a=>(H a).isSome
def J5W (h:Heap)(H:Hp):Heap:=PySem.W.hideAll h (trk h H)
theorem J8O (h:Heap)(H:Hp):(J5W h H).objs.size=h.objs.size:=PySem.W.hideAll_size _ _
theorem Ja8 {h:Heap}{H:Hp}{b:Addr}{o:Obj}(e:h.get? b=some o)(n:H b=none):(J5W h H).get? b=some o :=
 PySem.W.hideAll_get _ e fun hm=>by
  have q:(H b).isSome=true:=(mem_filter.mp hm).2;rw [n] at q;simp at q
theorem JaZ {h:Heap}{H:Hp}{b:Addr}{o:Obj}(e:(J5W h H).get? b=some o):h.get? b=some o/\H b=none:=by
 have e':h.get? b=some o:=PySem.W.of_hideAll (trk h H) e;refine ⟨e',?_⟩;cases q:H b with
 | none=>rfl
 | some x =>
   have hm:b∈trk h H:=mem_filter.mpr ⟨mem_range.mpr (zu e'),by simp [q]⟩;have z:(J5W h H).get? b=none:=PySem.W.hideAll_none (trk h H) hm;rw [z] at e;cases e
structure Mod (K:Frag)(mg:Str->Option Value)(base:Heap):Prop where
 kin:K.In base
 glob:base.Ns mainGlobals mg
 blt:∃ mb,base.Ns builtinsNs mb/\∀ x:Str,x≠"__name__"->mb x=bootBuiltins x
 nolimit:base.NoLimit
structure Cx where
 prog:Program
 w:World
 K:Frag
 mg:Str->Option Value
 base:Heap
 A:Around
 N:List Str
 s₀:Shared
 H₀:Hp
 env:Env
 outer:List Env
 stack:List Env
 ex:List Addr
 fn:Str->Bool
 calm:Bool
 pn:List (Addr×Obj)
 xe:Value->Shared->Prop
def frs (l:List Env):List Addr:=l.filterMap (·.frame)
abbrev Cx.fs (X:Cx):List Addr:=frs X.outer
def Vis (sc:Scope)(x:Str):Prop:=sc.names.lookup x=some .local\/sc.names.lookup x=some .cell\/sc.names.lookup x=some .free
def Loc (sc:Scope)(x:Str):Prop:=sc.names.lookup x=some .local\/sc.names.lookup x=some .cell
def Jdf (env:Env)(h:Heap)(m:Str->Option Value)(x:Str)(u:Value):Prop :=
 (env.kindOf x=some .local/\m x=some u)\/((env.kindOf x=some .cell\/env.kindOf x=some .free)/\∃ c,env.cells.lookup x=some c/\h.IsCell c (some u))
structure Cx.Ok (X:Cx):Prop where
 mod:Mod X.K X.mg X.base
 kind:X.env.scope.kind=.function
 glob:X.env.globals=mainGlobals
 blt:X.env.builtins=builtinsNs
 above:X.s₀.heap.objs.size<=X.env.locals
 inj:∀ x y c,X.env.cells.lookup x=some c->X.env.cells.lookup y=some c->x=y
 has:∀ x,(X.env.kindOf x=some .cell\/X.env.kindOf x=some .free)->∃ c,X.env.cells.lookup x=some c
 cab:∀ x c,X.fn x=true->X.env.cells.lookup x=some c->X.s₀.heap.objs.size<=c
 hd:X.calm=true->X.A.handled=none
 frames:X.A.frames=some X.stack
 stk:X.stack=X.outer\/(X.stack=X.env::X.outer/\X.env.frame=some X.env.locals)
 exf:∀ b∈X.ex,b≠X.env.locals/\∀ x c,X.env.cells.lookup x=some c->c≠b
 bs:∀ b o,X.base.get? b=some o->X.s₀.heap.get? b=some o/\X.H₀ b=none
 bsz:X.base.objs.size<=X.s₀.heap.objs.size
 noex:∀ b o,X.base.get? b=some o->b∉X.ex
 exfs:∀ b∈X.ex,b∉X.fs
 funs:X.s₀.heap.FunFrames X.base X.outer
 frf:∀ b∈X.fs,X.H₀ b=none
structure Inv (X:Cx)(pins:List (Addr×Obj))(σ:List (Option V))(H:Hp)(s:Shared):Prop where
 ok:X.Ok
 os:s.os=X.s₀.os
 bare:AllBare s.gens
 base:Un X.fs X.ex X.H₀ H X.s₀.heap s.heap
 loc:∃ m,s.heap.Ns X.env.locals m/\∀ (i:Nat) (x:Str) (v:V),X.N[i]?=some x->σ[i]?=some (some v)->Vis X.env.scope x->∃ u,RelV v u/\Jdf X.env s.heap m x u
 cell:∀ x c,X.env.cells.lookup x=some c->∃ v,s.heap.IsCell c v
 free:H X.env.locals=none
 freeC:∀ x c,X.env.cells.lookup x=some c->H c=none
 pin:∀ p∈X.pn++pins,s.heap.get? p.1=some p.2/\H p.1=none/\p.1≠X.env.locals/\p.1∉X.fs/\∀ v,p.2.data≠.cell v
 hok:HOk X.prog X.w H s.heap
 len:σ.length=X.N.length
section
variable {X:Cx}{pins:List (Addr×Obj)}{σ:List (Option V)}{H H':Hp}{s:Shared}{h':Heap}
theorem Cx.Ok.nofr (ok:X.Ok){b:Addr}{o:Obj}(e:X.base.get? b=some o):b∉X.fs:=fun hb=>by
 have:=(ok.funs.mem hb).1;rw [e] at this;cases this
theorem Inv.bs (I:Inv X pins σ H s):∀ b o,X.base.get? b=some o->s.heap.get? b=some o/\H b=none:=fun b o e =>
 ⟨I.base.keep b o (I.ok.bs b o e).1 (I.ok.bs b o e).2 (I.ok.nofr e) (I.ok.noex b o e),I.base.free b o (I.ok.bs b o e).1 (I.ok.bs b o e).2 (I.ok.noex b o e)⟩
theorem Inv.bk (I:Inv X pins σ H s):∀ b o,X.base.get? b=some o->s.heap.get? b=some o:=fun b o e=>(I.bs b o e).1
theorem Inv.mod (I:Inv X pins σ H s):Mod X.K X.mg X.base:=I.ok.mod
theorem Inv.kIn (I:Inv X pins σ H s):X.K.In s.heap:=I.ok.mod.kin.keeps I.bk
theorem Inv.lt (I:Inv X pins σ H s):X.env.locals<s.heap.objs.size:=let ⟨_,hn,_⟩:=I.loc;hn.lt
theorem Inv.sz (I:Inv X pins σ H s):X.s₀.heap.objs.size<=s.heap.objs.size:=yR I.ok.above (Nat.le_of_lt I.lt)
theorem Inv.nofs (I:Inv X pins σ H s){a:Addr}(h:s.heap.objs.size<=a):a∉X.fs:=fun hb=>by
 obtain ⟨_,o,ho,_⟩:=I.ok.funs.mem hb;exact absurd (yP (zu ho) (yR I.sz h)) (Nat.lt_irrefl _)
theorem Inv.cne (I:Inv X pins σ H s):∀ x c,X.env.cells.lookup x=some c->c≠X.env.locals:=fun x c e z=>by
 obtain ⟨v,o,ho,hd⟩:=I.cell x c e;obtain ⟨m,⟨o',es,ep,ho',hd',_⟩,_⟩:=I.loc;rw [z,ho'] at ho;cases ho;rw [hd'] at hd;cases hd
theorem Inv.funs (I:Inv X pins σ H s):s.heap.FunFrames X.base X.outer:=by
 have all:∀ (l:List Env),(∀ b∈frs l,b∈X.fs)->X.s₀.heap.FunFrames X.base l->s.heap.FunFrames X.base l:=by
  intro l
  induction l with
  | nil=>intro _ _;trivial
  | cons env r ih =>
    intro hs hl;obtain ⟨hk,⟨L,o,hf,hn,ho,hd⟩,hr⟩:=hl;have hL:L∈X.fs:=hs L (by unfold frs;rw [filterMap_cons,hf];exact y9);obtain ⟨sl,e⟩:=I.base.slot L o ho (I.ok.frf L hL) hL fun z=>I.ok.exfs L z hL;exact ⟨hk,⟨L,_,hf,hn,e,hd⟩,ih (fun b hb=>hs b (by unfold frs;rw [filterMap_cons,hf];exact y8 _ hb)) hr⟩
 exact all X.outer (fun _ hb=>hb) I.ok.funs
theorem Inv.stack (I:Inv X pins σ H s):s.heap.FunFrames X.base X.stack:=by
 rcases I.ok.stk with e | ⟨e,hf⟩
 ·rw [e];exact I.funs
 ·rw [e]
  obtain ⟨m,hn,_⟩:=I.loc;refine .cons (by rw [I.ok.kind];decide) hf hn ?_ I.funs;exact Heap.get?_none_of_le (yR I.ok.bsz I.ok.above)
theorem Inv.stkSub (I:Inv X pins σ H s):∀ b∈frs X.stack,b∈X.env.locals::X.fs:=fun b hb=>by
 rcases I.ok.stk with e | ⟨e,hf⟩
 ·rw [e] at hb;exact y8 _ hb
 ·rw [e] at hb
  unfold frs at hb;rw [filterMap_cons,hf] at hb;exact hb
theorem Inv.stkFree (I:Inv X pins σ H s):∀ b∈frs X.stack,H b=none:=fun b hb=>by
 rcases zc.mp (I.stkSub b hb) with e | hb
 ·rw [e];exact I.free
 ·obtain ⟨_,o,ho,_⟩:=I.ok.funs.mem hb
  exact I.base.free b o ho (I.ok.frf b hb) fun z=>I.ok.exfs b z hb
theorem Inv.step {g':Array GenState}{t':Nat}{d':Drawn}{ch:List Addr}(I:Inv X pins σ H s)
 (hch:∀ b∈ch,(b∈X.ex\/X.s₀.heap.objs.size<=b)/\b≠X.env.locals/\(∀ x c,X.env.cells.lookup x=some c->c≠b)/\∀ p∈X.pn++pins,p.1≠b)
 (keep:∀ b o,b≠X.env.locals->b∉X.fs->b∉ch->s.heap.get? b=some o->H b=none->h'.get? b=some o)
 (slot:∀ b o,b≠X.env.locals->b∈X.fs->b∉ch->s.heap.get? b=some o->H b=none->∃ sl,h'.get? b=some { o with slots:=sl }) (free:∀ b o,b∉ch->s.heap.get? b=some o->H b=none->H' b=none)
 (there:∀ b o,b∉ch->s.heap.get? b=some o->∃ o',h'.get? b=some o')
 (tups:∀ b xs,H b=some (.tup xs)->H' b=some (.tup xs)) (frzs:∀ b o u,H b=some (.frz o u)->H' b=some (.frz o u)) (tbls:∀ b ps,H b=some (.tbl ps)->∃ more,H' b=some (.tbl (ps++more)))
 (ns:∀ m,s.heap.Ns X.env.locals m->h'.Ns X.env.locals m) (hok:HOk X.prog X.w H' h') (hg:AllBare g') :
 Inv X pins σ H' { s with heap:=h',gens:=g',drawn:=d',toks:=t' }:=by
 have neL:∀ b o,X.s₀.heap.get? b=some o->b≠X.env.locals:=fun b o e=>yO (yP (zu e) I.ok.above);have neC:∀ b o,X.s₀.heap.get? b=some o->b∉X.ex->b∉ch:=fun b o e hx hb=>by
  rcases (hch b hb).1 with z | z
  ·exact hx z
  ·exact absurd (yP (zu e) z) (Nat.lt_irrefl _)
 have cellK:∀ x c,X.env.cells.lookup x=some c->∀ v,s.heap.IsCell c v->h'.IsCell c v:=fun x c e v ⟨o,ho,hd⟩=>by
  have nch:c∉ch:=fun z=>(hch c z).2.2.1 x c e rfl;by_cases hc:c∈X.fs
  ·obtain ⟨sl,q⟩:=slot c o (I.cne x c e) hc nch ho (I.freeC x c e)
   exact ⟨_,q,hd⟩
  ·exact ⟨o,keep c o (I.cne x c e) hc nch ho (I.freeC x c e),hd⟩
 refine ⟨I.ok,I.os,hg,⟨fun b o e n hb hx=>?_,fun b o e n hb hx=>?_,fun b o e n hx=>?_,fun b o e hx=>?_,fun b xs e=>tups b xs (I.base.tups b xs e),fun b o xs e=>frzs b o xs (I.base.frzs b o xs e),fun b ps e=>?_⟩,?_,fun x c e=>?_,?_,fun x c e=>?_,fun p hp=>?_,hok,I.len⟩
 ·exact keep b o (neL b o e) hb (neC b o e hx) (I.base.keep b o e n hb hx) (I.base.free b o e n hx)
 ·obtain ⟨sl,e1⟩:=I.base.slot b o e n hb hx
  obtain ⟨sl',e2⟩:=slot b _ (neL b o e) hb (neC b o e hx) e1 (I.base.free b o e n hx);exact ⟨sl',e2⟩
 ·obtain ⟨o',e1⟩:=I.base.there b o e hx
  exact free b o' (neC b o e hx) e1 (I.base.free b o e n hx)
 ·obtain ⟨o',e1⟩:=I.base.there b o e hx
  exact there b o' (neC b o e hx) e1
 ·obtain ⟨m1,e1⟩:=I.base.tbls b ps e
  obtain ⟨m2,e2⟩:=tbls b _ e1;exact ⟨m1++m2,by rw [e2,Array.append_assoc]⟩
 ·obtain ⟨m,hn,hl⟩:=I.loc
  refine ⟨m,ns m hn,fun i x v e1 e2 e3=>?_⟩;obtain ⟨u,r,l⟩:=hl i x v e1 e2 e3;refine ⟨u,r,?_⟩;rcases l with l | ⟨k,c,e,z⟩
  ·exact .inl l
  ·exact .inr ⟨k,c,e,cellK x c e _ z⟩
 ·obtain ⟨v,z⟩:=I.cell x c e
  exact ⟨v,cellK x c e v z⟩
 ·obtain ⟨m,⟨o,_,_,ho,_⟩,_⟩:=I.loc
  exact free _ o (fun z=>(hch _ z).2.1 rfl) ho I.free
 ·obtain ⟨v,o,ho,hd⟩:=I.cell x c e
  exact free c o (fun z=>(hch c z).2.2.1 x c e rfl) ho (I.freeC x c e)
 ·obtain ⟨e,n,ne,nf,d⟩:=I.pin p hp
  have nch:p.1∉ch:=fun z=>(hch p.1 z).2.2.2 p hp rfl;exact ⟨keep p.1 p.2 ne nf nch e n,free p.1 p.2 nch e n,ne,nf,d⟩
theorem Inv.un {t':Nat}(I:Inv X pins σ H s)(u:Un X.fs [] H H' s.heap h')(hok:HOk X.prog X.w H' h'):Inv X pins σ H' { s with heap:=h',toks:=t' }:=by
 obtain ⟨m,⟨o,es,ep,ho,r⟩,_⟩:=id I.loc;obtain ⟨sl,hL⟩:=u.any ho I.free (by simp);exact I.step (g':=s.gens) (d':=s.drawn) (ch:=[]) (fun _ z=>nomatch z) (fun b o _ hb _ e n=>u.keep b o e n hb (by simp)) (fun b o _ hb _ e n=>u.slot b o e n hb (by simp)) (fun b o _ e n=>u.free b o e n (by simp)) (fun b o _ e=>u.there b o e (by simp)) u.tups u.frzs u.tbls (fun m' hm=>by
  obtain ⟨o',es',ep',ho',r'⟩:=hm;rw [ho] at ho';cases ho';exact ⟨_,es',ep',hL,r'⟩) hok I.bare
theorem Inv.call {g':Array GenState}{t':Nat}{d':Drawn}{ch:List Addr}(I:Inv X pins σ H s)(u:Un (frs X.stack) ch H H' s.heap h')(hok:HOk X.prog X.w H' h')(hg:AllBare g')
 (hch:∀ b∈ch,(b∈X.ex\/X.s₀.heap.objs.size<=b)/\b≠X.env.locals/\(∀ x c,X.env.cells.lookup x=some c->c≠b)/\∀ p∈X.pn++pins,p.1≠b) :
 Inv X pins σ H' { s with heap:=h',gens:=g',drawn:=d',toks:=t' }:=by
 obtain ⟨m,⟨o,es,ep,ho,r⟩,_⟩:=id I.loc;obtain ⟨sl,hL⟩:=u.any ho I.free fun z=>(hch _ z).2.1 rfl;exact I.step (ch:=ch) hch (fun b o hL hb hc e n=>u.keep b o e n (fun z=>(zc.mp (I.stkSub b z)).elim hL hb) hc) (fun b o _ _ hc e n=>u.any e n hc) (fun b o hc e n=>u.free b o e n hc) (fun b o hc e=>u.there b o e hc) u.tups u.frzs u.tbls (fun m' hm=>by
  obtain ⟨o',es',ep',ho',r'⟩:=hm;rw [ho] at ho';cases ho';exact ⟨_,es',ep',hL,r'⟩) hok hg
theorem Inv.turned {t':Nat}{it:Addr}(I:Inv X pins σ H s)(k:∀ b o,b≠it->s.heap.get? b=some o->h'.get? b=some o)(hn:H it=none)(hL:it≠X.env.locals)
 (h1:it∈X.ex\/X.s₀.heap.objs.size<=it) (h2:∀ x c,X.env.cells.lookup x=some c->c≠it) (h3:∀ p∈X.pn++pins,p.1≠it):Inv X pins σ H { s with heap:=h',toks:=t' }:=by
 have nit:∀ b u,H b=some u->b≠it:=fun b u e z=>by rw [z,hn] at e;cases e
 refine I.step (g':=s.gens) (d':=s.drawn) (ch:=[it]) (fun b hb=>?_) (fun b o _ _ hc e _=>k b o (fun z=>hc (by simp [z])) e) (fun b o _ _ hc e _=>⟨o.slots,k b o (fun z=>hc (by simp [z])) e⟩) (fun _ _ _ _ n=>n)
  (fun b o hc e=>⟨o,k b o (fun z=>hc (by simp [z])) e⟩) (fun _ _ e=>e) (fun _ _ _ e=>e) (fun b ps e=>⟨#[],by rw [e];simp⟩) (fun m hm=>?_) (fun b u e=>?_) I.bare
 ·have e:b=it:=by simpa using hb
  subst e;exact ⟨h1,hL,h2,h3⟩
 ·obtain ⟨o,es,ep,ho,r⟩:=hm
  exact ⟨o,es,ep,k _ o (Ne.symm hL) ho,r⟩
 ·refine (I.hok b u e).stay (fun c v hc q=>k c v ?_ q) (fun _ q=>q) fun _ _ q=>q
  rcases hc with z | z
  ·rw [z];exact nit b u e
  ·exact nit c _ z
theorem Inv.tok (I:Inv X pins σ H s)(t:Nat):Inv X pins σ H { s with toks:=t }:=I.un (h':=s.heap) (t':=t) Un.refl I.hok
theorem Inv.kept {t':Nat}(I:Inv X pins σ H s)(k:∀ b u,s.heap.get? b=some u->h'.get? b=some u):Inv X pins σ H { s with heap:=h',toks:=t' }:=I.un (Un.kept k) (I.hok.kept k)
theorem Inv.laid {a:Addr}{o:HO}{t':Nat}(I:Inv X pins σ H s)(k:∀ b u,s.heap.get? b=some u->h'.get? b=some u)(hp:s.heap.objs.size<=a)(new:ObjOk X.prog X.w (upd H a o) h' a o) :
 Inv X pins σ (upd H a o) { s with heap:=h',toks:=t' }:=I.un (Un.laid k hp (I.hok.fresh hp)) (I.hok.laid k hp new)
theorem Inv.write {x e:Addr}{o:HO}{t':Nat}(I:Inv X pins σ H s)(mu:Mut (H x))(he:e=x\/H e=some (.own x))(k:∀ b u,b≠e->s.heap.get? b=some u->h'.get? b=some u)(heo:∃ u,h'.get? e=some u)
 (new:ObjOk X.prog X.w (upd H x o) h' x o):Inv X pins σ (upd H x o) { s with heap:=h',toks:=t' }:=I.un (Un.write mu he k heo) (I.hok.write mu he k heo new)
theorem Inv.pins_of {pins':List (Addr×Obj)}(I:Inv X pins σ H s)(h:∀ p∈pins',s.heap.get? p.1=some p.2/\H p.1=none/\p.1≠X.env.locals/\p.1∉X.fs/\∀ v,p.2.data≠.cell v):Inv X pins' σ H s :=
 ⟨I.ok,I.os,I.bare,I.base,I.loc,I.cell,I.free,I.freeC,fun p hp=>(zh.mp hp).elim (fun z=>I.pin p (zj _ z)) (h p),I.hok,I.len⟩
theorem J4o {N:List Str}(hN:N.Nodup){i j:Nat}{x:Str}(a:N[i]?=some x)(b:N[j]?=some x):i=j:=by
 obtain ⟨h1,e1⟩:=yV.mp a;obtain ⟨h2,e2⟩:=yV.mp b;exact (getElem_inj hN).mp (e1.trans e2.symm)
theorem store_ok2 {M:Model}{A:Around}{E:Value->Shared->Prop}{i:Nat}{x:Str}{v:V}{u:Value}{Q:Unit->Shared->Prop}(I:Inv X pins σ H s)(hN:X.N.Nodup)(hi:X.N[i]?=some x)(hx:Loc X.env.scope x)(r:RelV v u)
 (h:∀ s',Inv X pins (σ.set i (some v)) H s'->(∃ a,Heap.SameBut a s.heap s'.heap/\(a=X.env.locals\/X.env.cells.lookup x=some a))->Q () s') (hf:X.fn x=true\/X.env.scope.names.lookup x=some .local:=by first | exact .inl rfl | exact .inr rfl | assumption):wpAny M A (storeName X.env x u) Q E s:=by
 obtain ⟨m,hn,hl⟩:=id I.loc;have hcls:(X.env.scope.kind == .class||(X.env.scope.kind == .module&&X.env.locals != X.env.globals))=false:=by rw [I.ok.kind];rfl
 have hiσ:i<σ.length:=by rw [I.len];exact (yV.mp hi).1
 have cne:=I.cne;have tracked:∀ {a:Addr} {h':Heap},(∃ o,s.heap.get? a=some o/\H a=none)->Heap.SameBut a s.heap h'->HOk X.prog X.w H h':=fun {a h'} ha hs b ob e=>by
  obtain ⟨_,_,hfree⟩:=ha;refine (I.hok b ob e).stay (fun c w' hc q=>(hs.2 c ?_).trans q) (fun _ q=>q) fun _ _ q=>q;rintro rfl;rcases hc with rfl | hc
  ·rw [hfree] at e;cases e
  ·rw [hfree] at hc;cases hc
 rcases hx with hk | hk
 ·refine wpAny_storeName_local hk hn (fun h' hn' hs=>?_) hcls
  obtain ⟨oL,_,_,hoL,_⟩:=id hn;refine h _ ⟨I.ok,I.os,I.bare,⟨fun b o e n hb hx=>?_,fun b o e n hb hx=>?_,I.base.free,fun b o e hx=>?_,I.base.tups,I.base.frzs,I.base.tbls⟩,⟨_,hn',fun j y v' e1 e2 e3=>?_⟩,fun y c e=>?_,I.free,I.freeC,fun p hp=>?_,tracked ⟨oL,hoL,I.free⟩ hs,by simpa using I.len⟩ ⟨_,hs,.inl rfl⟩
  ·exact (hs.2 b (yO (yP (zu e) I.ok.above))).trans (I.base.keep b o e n hb hx)
  ·obtain ⟨sl,e1⟩:=I.base.slot b o e n hb hx
   exact ⟨sl,(hs.2 b (yO (yP (zu e) I.ok.above))).trans e1⟩
  ·obtain ⟨o',e1⟩:=I.base.there b o e hx
   exact ⟨o',(hs.2 b (yO (yP (zu e) I.ok.above))).trans e1⟩
  ·by_cases hj:j=i
   ·subst hj
    rw [hi] at e1;cases e1;rw [List.getElem?_set_self hiσ] at e2;cases e2;exact ⟨u,r,.inl ⟨hk,by simp⟩⟩
   ·rw [List.getElem?_set_ne (Ne.symm hj)] at e2
    obtain ⟨u',r',q⟩:=hl j y v' e1 e2 e3;refine ⟨u',r',?_⟩;rcases q with ⟨k,e⟩ | ⟨k,c,e,z⟩
    ·refine .inl ⟨k,?_⟩
     have:y≠x:=fun e=>hj (J4o hN e1 (e ▸ hi));simp [this,e]
    ·exact .inr ⟨k,c,e,z.sameBut hs (cne y c e)⟩
  ·obtain ⟨w',z⟩:=I.cell y c e
   exact ⟨w',z.sameBut hs (cne y c e)⟩
  ·obtain ⟨e,n,ne,nf,d⟩:=I.pin p hp
   exact ⟨(hs.2 p.1 ne).trans e,n,ne,nf,d⟩
 ·have hfn:X.fn x=true:=by
   rcases hf with z | z
   ·exact z
   ·rw [z] at hk;cases hk
  obtain ⟨c,hc⟩:=I.ok.has x (.inl hk);obtain ⟨w',z⟩:=I.cell x c hc;refine wpAny_storeName_cell I.ok.kind hk hc z (fun h' hc' hs=>?_);obtain ⟨oc,hoc,hocd⟩:=id z;refine h { s with heap:=h' } ⟨I.ok,I.os,I.bare,⟨fun b o e n hb hx=>?_,fun b o e n hb hx=>?_,I.base.free,fun b o e hx=>?_,I.base.tups,I.base.frzs,I.base.tbls⟩,⟨m,hn.sameBut hs (Ne.symm (cne x c hc)),fun j y v' e1 e2 e3=>?_⟩,fun y c' e=>?_,I.free,I.freeC,fun p hp=>?_,tracked ⟨oc,hoc,I.freeC x c hc⟩ hs,by simpa using I.len⟩ ⟨c,hs,.inr hc⟩
  ·exact (hs.2 b (yO (yP (zu e) (I.ok.cab x c hfn hc)))).trans (I.base.keep b o e n hb hx)
  ·obtain ⟨sl,e1⟩:=I.base.slot b o e n hb hx
   exact ⟨sl,(hs.2 b (yO (yP (zu e) (I.ok.cab x c hfn hc)))).trans e1⟩
  ·obtain ⟨o',e1⟩:=I.base.there b o e hx
   exact ⟨o',(hs.2 b (yO (yP (zu e) (I.ok.cab x c hfn hc)))).trans e1⟩
  ·by_cases hj:j=i
   ·subst hj
    rw [hi] at e1;cases e1;rw [List.getElem?_set_self hiσ] at e2;cases e2;exact ⟨u,r,.inr ⟨.inl hk,c,hc,hc'⟩⟩
   ·rw [List.getElem?_set_ne (Ne.symm hj)] at e2
    obtain ⟨u',r',q⟩:=hl j y v' e1 e2 e3;refine ⟨u',r',?_⟩;rcases q with q | ⟨k,c',e,z'⟩
    ·exact .inl q
    ·refine .inr ⟨k,c',e,z'.sameBut hs ?_⟩
     rintro rfl;exact hj (J4o hN e1 (I.ok.inj _ _ _ e hc ▸ hi))
  ·by_cases hcc:c'=c
   ·subst hcc;exact ⟨_,hc'⟩
   ·obtain ⟨w2,z2⟩:=I.cell y c' e
    exact ⟨w2,z2.sameBut hs hcc⟩
  ·obtain ⟨e,n,ne,nf,d⟩:=I.pin p hp
   refine ⟨(hs.2 p.1 ?_).trans e,n,ne,nf,d⟩;intro q;rw [q,hoc] at e;have q':oc=p.2:=yN e;exact d w' (by rw [<- q'];exact hocd)
theorem J24 {M:Model}{A:Around}{E:Value->Shared->Prop}{i:Nat}{x:Str}{v:V}{u:Value}{Q:Unit->Shared->Prop}(I:Inv X pins σ H s)(hN:X.N.Nodup)(hi:X.N[i]?=some x)(hx:Loc X.env.scope x)(r:RelV v u)
 (h:∀ s',Inv X pins (σ.set i (some v)) H s'->Q () s') (hf:X.fn x=true\/X.env.scope.names.lookup x=some .local:=by first | exact .inl rfl | exact .inr rfl | assumption):wpAny M A (storeName X.env x u) Q E s :=
 store_ok2 I hN hi hx r (fun s' I' _=>h s' I') hf
theorem Inv.call' {s':Shared}{ch:List Addr}(I:Inv X pins σ H s)(ho:s'.os=s.os)(u:Un (frs X.stack) ch H H' s.heap s'.heap)(hok:HOk X.prog X.w H' s'.heap)(hg:AllBare s'.gens)
 (hch:∀ b∈ch,(b∈X.ex\/X.s₀.heap.objs.size<=b)/\b≠X.env.locals/\(∀ x c,X.env.cells.lookup x=some c->c≠b)/\∀ p∈X.pn++pins,p.1≠b):Inv X pins σ H' s':=by
 obtain ⟨h',g',d',t',o'⟩:=s';have e:o'=s.os:=ho;subst e;exact I.call (g':=g') (t':=t') (d':=d') u hok hg hch
end
abbrev XK:=Value->Option Addr->Hp->Prop
abbrev St:=List (Option V)
abbrev VK:=V->Hp->Prop
abbrev TE:=St->Hp->VK->Prop
abbrev TT:=St->Hp->(Bool->Hp->Prop)->Prop
abbrev TA:=St->Hp->(List V->Hp->Prop)->Prop
structure Ends where
 nx:St->Hp->Prop
 rt:VK
 bk:St->Hp->Prop:=fun _ _=>False
 ct:St->Hp->Prop:=fun _ _=>False
abbrev TS:=Ends->St->Hp->Prop
def EP (X:Cx)(pins:List (Addr×Obj))(σ:St)(Q:VK)(u:Value)(s':Shared):Prop:=∃ v H',Inv X pins σ H' s'/\RelV v u/\Q v H'
def TP (X:Cx)(pins:List (Addr×Obj))(σ:St)(Q:Bool->Hp->Prop)(b:Bool)(s':Shared):Prop:=∃ H',Inv X pins σ H' s'/\Q b H'
def AP (X:Cx)(pins:List (Addr×Obj))(σ:St)(Q:List V->Hp->Prop)(us:List Value)(s':Shared):Prop:=∃ vs H',Inv X pins σ H' s'/\Vals vs us/\Q vs H'
def SP (X:Cx)(pins:List (Addr×Obj))(D:Ends)(f:Flow)(s':Shared):Prop :=
 match f with
 | .next=>∃ σ' H',Inv X pins σ' H' s'/\D.nx σ' H'
 | .brk=>∃ σ' H',Inv X pins σ' H' s'/\D.bk σ' H'
 | .cont=>∃ σ' H',Inv X pins σ' H' s'/\D.ct σ' H'
 | .ret u=>∃ v σ' H',Inv X pins σ' H' s'/\RelV v u/\D.rt v H'
def PE (X:Cx)(e:Expr)(t:TE):Prop :=
 ∀ (pins:List (Addr×Obj)) (s:Shared) (σ:St) (H:Hp) (Q:VK),Inv X pins σ H s->t σ H Q->wpAny (model X.prog X.w) X.A (eval e X.env) (EP X pins σ Q) X.xe s
def PT (X:Cx)(e:Expr)(t:TT):Prop :=
 ∀ (pins:List (Addr×Obj)) (s:Shared) (σ:St) (H:Hp) (Q:Bool->Hp->Prop),Inv X pins σ H s->t σ H Q->wpAny (model X.prog X.w) X.A (isTrue e X.env (eval e X.env)) (TP X pins σ Q) X.xe s
def PW (X:Cx)(e:Expr)(t:TT):Prop :=
 ∀ (whole:Sem Value) (pins:List (Addr×Obj)) (s:Shared) (σ:St) (H:Hp) (Q:Bool->Hp->Prop),Inv X pins σ H s->t σ H Q->wpAny (model X.prog X.w) X.A (isTrue e X.env whole) (TP X pins σ Q) X.xe s
theorem PW.pt {X:Cx}{e:Expr}{t:TT}(h:PW X e t):PT X e t:=h _
def PA (X:Cx)(es:List Expr)(t:TA):Prop :=
 ∀ (pos:Pos) (pins:List (Addr×Obj)) (s:Shared) (σ:St) (H:Hp) (Q:List V->Hp->Prop),Inv X pins σ H s->t σ H Q->wpAny (model X.prog X.w) X.A (spliced (backTo pos (starEach es X.env))) (AP X pins σ Q) X.xe s
def PS (X:Cx)(st:Stmt)(t:TS):Prop :=
 ∀ (pins:List (Addr×Obj)) (s:Shared) (σ:St) (H:Hp) (D:Ends),Inv X pins σ H s->t D σ H->wpAny (model X.prog X.w) X.A (exec st X.env) (SP X pins D) X.xe s
def PSs (X:Cx)(st:List Stmt)(t:TS):Prop :=
 ∀ (pins:List (Addr×Obj)) (s:Shared) (σ:St) (H:Hp) (D:Ends),Inv X pins σ H s->t D σ H->wpAny (model X.prog X.w) X.A (execs st X.env) (SP X pins D) X.xe s
theorem thn {α:Type}{t:Sem α}{Q Q':α->Shared->Prop}{M:Model}{A:Around}{E:Value->Shared->Prop}{s:Shared}(h:wpAny M A t Q E s)(hQ:∀ a s,Q a s->Q' a s):wpAny M A t Q' E s:=wpAny_mono h hQ fun _ _ x=>x
section
variable {X:Cx}
def J6b (i:Nat):TE:=fun σ H Q=>match σ[i]? with | some (some v)=>Q v H | _=>False
theorem JaC {i:Nat}{σ:St}{H:Hp}{Q:VK}(h:J6b i σ H Q):∃ v,σ[i]?=some (some v)/\Q v H:=by
 unfold J6b at h
 split at h
 ·rename_i v e;exact ⟨v,e,h⟩
 ·exact h.elim
def tC (v:V):TE:=fun _ H Q=>Q v H
theorem J9N {i:Nat}{x:Str}{pos:Pos}(hN:X.N[i]?=some x)(hv:Vis X.env.scope x)(hd:(x == ("__debug__":Str))=false:=by decide)(hcd:(x == ("__classdict__":Str))=false:=by decide):PE X (.Name x pos) (J6b i):=by
 intro pins s σ H Q I h;obtain ⟨v,e,h⟩:=JaC h;obtain ⟨m,hn,hl⟩:=I.loc;obtain ⟨u,r,l⟩:=hl i x v hN e hv;have fin:EP X pins σ Q u s:=⟨v,H,I,r,h⟩;rcases l with ⟨hk,hm⟩ | ⟨hk,c,hc,hcell⟩
 ·exact wpAny_Name (wpAny_loadName_local I.ok.kind hk hn hm fin) hd
 ·rcases hk with hk | hk
  ·exact wpAny_Name (wpAny_loadName_cell I.ok.kind hk hc hcell fin) hd
  ·exact wpAny_Name (wpAny_loadName_free I.ok.kind hk hc hcell fin hcd) hd
theorem Je {i j pos}:PE X (.Constant (.int i) j pos) (tC (.int i)):=fun _ _ _ H _ I h=>wpAny_Constant_int ⟨.int i,H,I.tok _,⟨_,rfl⟩,h⟩
theorem J2B {b j pos}:PE X (.Constant (.bool b) j pos) (tC (.bl b)):=fun _ _ _ H _ I h=>Constant_bool ⟨.bl b,H,I,rfl,h⟩
theorem J4k {j pos}:PE X (.Constant .none j pos) (tC .non):=fun _ _ _ H _ I h=>Constant_none ⟨.non,H,I,rfl,h⟩
theorem Jz {x j pos}:PE X (.Constant (.str x) j pos) (tC (.str x)):=fun _ _ _ H _ I h=>Calls.Constant_str ⟨.str x,H,I.tok _,⟨_,rfl⟩,h⟩
def Gl (X:Cx)(x:Str):Prop:=X.env.kindOf x=some .globalImplicit
theorem J2s {E:Value->Shared->Prop}{pins:List (Addr×Obj)}{s:Shared}{σ:St}{H:Hp}{x:Str}{u:Value}{pos:Pos}{Q:Value->Shared->Prop}(I:Inv X pins σ H s)(hg:Gl X x)(hm:X.mg x=some u)(h:Q u s)
 (hd:(x == ("__debug__":Str))=false:=by decide):wpAny (model X.prog X.w) X.A (eval (.Name x pos) X.env) Q E s :=
 Calls.Name_function_global I.ok.kind hg (Calls.loadGlobal_global (by rw [I.ok.glob];exact I.mod.glob.keeps I.bk) hm h) hd
theorem J1A {E:Value->Shared->Prop}{pins:List (Addr×Obj)}{s:Shared}{σ:St}{H:Hp}{x:Str}{u:Value}{pos:Pos}{Q:Value->Shared->Prop}(I:Inv X pins σ H s)(hg:Gl X x)(hm:X.mg x=none)(hv:bootBuiltins x=some u)(h:Q u s)
 (hn:x≠"__name__":=by decide) (hd:(x == ("__debug__":Str))=false:=by decide):wpAny (model X.prog X.w) X.A (eval (.Name x pos) X.env) Q E s:=by
 obtain ⟨mb,h1,h2⟩:=I.mod.blt;exact Calls.Name_function_global I.ok.kind hg (Calls.loadGlobal_builtin (by rw [I.ok.glob];exact I.mod.glob.keeps I.bk) hm (by rw [I.ok.blt];exact h1.keeps I.bk) ((h2 x hn).trans hv) h) hd
theorem J82 {x:Str}{v:V}{u:Value}{pos:Pos}(hg:Gl X x)(hm:X.mg x=some u)(r:RelV v u)(hd:(x == ("__debug__":Str))=false:=by decide):PE X (.Name x pos) (tC v) :=
 fun _ _ _ H _ I h=>J2s I hg hm ⟨v,H,I,r,h⟩ hd
theorem JaW {x:Str}{v:V}{u:Value}{pos:Pos}(hg:Gl X x)(hm:X.mg x=none)(hv:bootBuiltins x=some u)(r:RelV v u)(hn:x≠"__name__":=by decide)(hd:(x == ("__debug__":Str))=false:=by decide):PE X (.Name x pos) (tC v) :=
 fun _ _ _ H _ I h=>J1A I hg hm hv ⟨v,H,I,r,h⟩ hn hd
variable {a b:Expr}{ta tb:TE}{pos:Pos}
def PC (X:Cx)(op:CmpOp)(a b:Expr)(t:TE):Prop :=
 ∀ (pins:List (Addr×Obj)) (s:Shared) (σ:St) (H:Hp) (Q:VK),Inv X pins σ H s->t σ H Q ->
   wpAny (model X.prog X.w) X.A (eval a X.env) (fun v s₁=>wpAny (model X.prog X.w) X.A (eval b X.env) (fun u s₂=>wpAny (model X.prog X.w) X.A (compareOp op v u) (EP X pins σ Q) X.xe s₂) X.xe s₁) X.xe s
def tB (t:TE):TT:=fun σ H Q=>t σ H fun x H1=>∃ c,x=.bl c/\Q c H1
theorem J9F {op:CmpOp}{t:TE}(h:PC X op a b t)(h1:behindInMarks op b=false:=by first | exact nobehind _ (by decide) (by decide) | rfl):PT X (.Compare a [op] [b] pos) (tB t):=by
 intro pins s σ H Q I hw;refine wpAny_isTrue_Compare1 (thn (h pins s σ H _ I hw) fun v s1 h1=>thn h1 fun u s2 h2=>thn h2 fun c s3 ⟨x,H1,I1,r1,q1⟩=>?_) h1;obtain ⟨d,rfl,q⟩:=q1;cases r1;exact wpAny_truthy_bool ⟨H1,I1,q⟩
variable {tA tB':TT}{rest:List Expr}
def JbB (t u:TT):TT:=fun σ H Q=>t σ H fun c H1=>if c=true then u σ H1 Q else Q false H1
def tOr (t u:TT):TT:=fun σ H Q=>t σ H fun c H1=>if c=true then Q true H1 else u σ H1 Q
def Jbx (t:TT):TT:=fun σ H Q=>t σ H fun c H1=>Q (!c) H1
theorem J1v (ha:PT X a tA):PW X (.BoolOp .And [a] pos) tA:=by
 intro wh pins s σ H Q I h;refine isTrue_and (thn (ha pins s σ H Q I h) fun c s1 e=>?_);cases c with
 | true=>exact isTrue_and_nil e
 | false=>exact e
theorem J4f (ha:PT X a tA):PW X (.BoolOp .Or [a] pos) tA:=by
 intro wh pins s σ H Q I h;refine isTrue_or (thn (ha pins s σ H Q I h) fun c s1 e=>?_);cases c with
 | false=>exact isTrue_or_nil e
 | true=>exact e
theorem J29 (ha:PT X a tA)(hb:PW X (.BoolOp .And (b::rest) pos) tB'):PW X (.BoolOp .And (a::b::rest) pos) (JbB tA tB'):=by
 intro wh pins s σ H Q I h;refine isTrue_and (thn (ha pins s σ H _ I h) fun c s1 ⟨H1,I1,q1⟩=>?_);cases c with
 | true=>exact hb wh pins s1 σ H1 Q I1 q1
 | false=>exact ⟨H1,I1,q1⟩
theorem J6r (ha:PT X a tA)(hb:PW X (.BoolOp .Or (b::rest) pos) tB'):PW X (.BoolOp .Or (a::b::rest) pos) (tOr tA tB'):=by
 intro wh pins s σ H Q I h;refine isTrue_or (thn (ha pins s σ H _ I h) fun c s1 ⟨H1,I1,q1⟩=>?_);cases c with
 | true=>exact ⟨H1,I1,q1⟩
 | false=>exact hb wh pins s1 σ H1 Q I1 q1
theorem J9E (ha:PT X a tA):PT X (.UnaryOp .Not a pos) (Jbx tA):=by
 intro pins s σ H Q I h;exact isTrue_not (ha pins s σ H (fun c H1=>Q (!c) H1) I h)
def J9j (ta tb:TE):TE:=fun σ H Q=>ta σ H fun x H1=>∃ c,x=.bl c/\if c=true then tb σ H1 Q else Q (.bl false) H1
def Jdu (ta tb:TE):TE:=fun σ H Q=>ta σ H fun x H1=>∃ c,x=.bl c/\if c=true then Q (.bl true) H1 else tb σ H1 Q
def Jdl (ta:TE):TE:=fun σ H Q=>ta σ H fun x H1=>∃ c,x=.bl c/\Q (.bl (!c)) H1
theorem JbO {op}{t:TE}(h:PE X a t):PE X (.BoolOp op [a] pos) t:=fun pins s σ H Q I hw=>BoolOp_one (h pins s σ H Q I hw)
theorem JbP (ha:PE X a ta)(hb:PE X (.BoolOp .And (b::rest) pos) tb):PE X (.BoolOp .And (a::b::rest) pos) (J9j ta tb):=by
 intro pins s σ H Q I h;refine BoolOp_and (thn (ha pins s σ H _ I h) fun v s1 ⟨x,H1,I1,r1,q1⟩=>?_);obtain ⟨c,rfl,q1⟩:=q1;cases r1;refine wpAny_truthy_bool ?_;cases c with
 | true=>exact hb pins s1 σ H1 Q I1 q1
 | false=>exact ⟨.bl false,H1,I1,rfl,q1⟩
def tIf (t:TT)(ta tb:TE):TE:=fun σ H Q=>t σ H fun c H1=>if c=true then ta σ H1 Q else tb σ H1 Q
theorem J4l {c:Expr}(hc:PT X c tA)(ha:PE X a ta)(hb:PE X b tb):PE X (.IfExp c a b pos) (tIf tA ta tb):=by
 intro pins s σ H Q I h;refine wpAny_IfExp (thn (hc pins s σ H _ I h) fun d s1 ⟨H1,I1,q1⟩=>?_);cases d with
 | true=>exact ha pins s1 σ H1 Q I1 q1
 | false=>exact hb pins s1 σ H1 Q I1 q1
end
def SqL (K:Frag)(H:Hp)(a:Addr)(xs:List V):Prop :=
 Rd H a (.lst xs) \/
  ∃ (o:Obj) (its:Array Value) (n:Nat),K.lookup a=some o/\o.cls=.type "list"/\o.dict=none/\o.data=.seq its n/\its.size<=sizeLine/\Vals xs its.toList
def SqT (K:Frag)(H:Hp)(a:Addr)(xs:List V):Prop :=
 Rd H a (.tup xs) \/
  ∃ (o:Obj) (its:Array Value) (n:Nat),K.lookup a=some o/\o.cls=.type "tuple"/\o.data=.seq its n/\its.size<=sizeLine/\Vals xs its.toList
def Jd8:Value->Option V
 | .none=>some .non
 | .bool b=>some (.bl b)
 | .int i _=>some (.int i)
 | .str x _=>some (.str x)
 | .bytes b _=>some (.byt b)
 | .float b _=>some (.flt b)
 | .ref a=>some (.ref a)
 | .type n=>some (.ty n)
 | _=>none
theorem RelV.abs {x:V}{u:Value}(r:RelV x u):Jd8 u=some x:=by
 cases x with
 | non=>cases r;rfl
 | bl _=>cases r;rfl
 | int _=>obtain ⟨t,rfl⟩:=r;rfl
 | str _=>obtain ⟨t,rfl⟩:=r;rfl
 | byt _=>obtain ⟨t,rfl⟩:=r;rfl
 | flt _=>obtain ⟨t,rfl⟩:=r;rfl
 | ref _=>cases r;rfl
 | ty _=>cases r;rfl
theorem RelV.inj {x y:V}{u:Value}(r:RelV x u)(q:RelV y u):x=y:=yN (r.abs.symm.trans q.abs)
theorem Vals.inj:∀ {xs ys:List V} {us:List Value},Vals xs us->Vals ys us->xs=ys
 | _,_,_,.nil,.nil=>rfl
 | _,_,_,.cons r t,.cons r' t'=>by rw [r.inj r',Vals.inj t t']
section
variable {X:Cx}{pins:List (Addr×Obj)}{σ:St}{H:Hp}{s:Shared}{a:Addr}{xs ys:List V}
theorem SqL.of {K:Frag}(h:H a=some (.lst xs)):SqL K H a xs:=.inl (.inl h)
theorem SqT.of {K:Frag}(h:H a=some (.tup xs)):SqT K H a xs:=.inl (.inl h)
theorem Inv.list (I:Inv X pins σ H s)(h:SqL X.K H a xs):∃ its:List Value,Vals xs its/\PlainL s.heap a its.toArray/\xs.length<=sizeLine:=by
 rcases h with h | ⟨o,its,n,hk,hc,hd,hs,hz,r⟩
 ·obtain ⟨z,its,n,r,e⟩:=h.ok I.hok
  exact ⟨its,r,⟨_,n,e,rfl,rfl,rfl⟩,z⟩
 ·refine ⟨its.toList,r,⟨o,n,I.kIn a o hk,hc,hd,by simpa using hs⟩,?_⟩
  have e:=r.length;simp only [yT] at e;omega
theorem Inv.tuple (I:Inv X pins σ H s)(h:SqT X.K H a xs):∃ its:List Value,Vals xs its/\IsTup s.heap a its.toArray/\xs.length<=sizeLine:=by
 rcases h with h | ⟨o,its,n,hk,hc,hs,hz,r⟩
 ·obtain ⟨z,its,r,p⟩:=h.ok I.hok
  exact ⟨its,r,p,z⟩
 ·refine ⟨its.toList,r,⟨o,I.kIn a o hk,hc,n,by simpa using hs⟩,?_⟩
  have e:=r.length;simp only [yT] at e;omega
theorem Inv.list_inj (I:Inv X pins σ H s)(h:SqL X.K H a xs)(h':SqL X.K H a ys):xs=ys:=by
 obtain ⟨its,r,⟨o,n,e,_,_,d⟩,_⟩:=I.list h;obtain ⟨its',r',⟨o',n',e',_,_,d'⟩,_⟩:=I.list h';rw [e] at e';cases e';rw [d] at d';injection d' with d1 _
 have:its=its':=by simpa using congrArg Array.toList d1
 subst this;exact r.inj r'
end
abbrev Cx.wish (X:Cx)(E:Value->Shared->Prop):Cx:={ X with xe:=E }
abbrev Cx.nox (X:Cx):Cx:=X.wish fun _ _=>False
theorem Cx.Ok.wish {X:Cx}(ok:X.Ok)(E:Value->Shared->Prop):(X.wish E).Ok :=
 ⟨ok.mod,ok.kind,ok.glob,ok.blt,ok.above,ok.inj,ok.has,ok.cab,ok.hd,ok.frames,ok.stk,ok.exf,ok.bs,ok.bsz,ok.noex,ok.exfs,ok.funs,ok.frf⟩
theorem Cx.Ok.unwish {X:Cx}{E:Value->Shared->Prop}(ok:(X.wish E).Ok):X.Ok :=
 ⟨ok.mod,ok.kind,ok.glob,ok.blt,ok.above,ok.inj,ok.has,ok.cab,ok.hd,ok.frames,ok.stk,ok.exf,ok.bs,ok.bsz,ok.noex,ok.exfs,ok.funs,ok.frf⟩
section
variable {X:Cx}{pins:List (Addr×Obj)}{σ:St}{H:Hp}{s:Shared}{E:Value->Shared->Prop}
theorem Inv.wish (I:Inv X pins σ H s)(E:Value->Shared->Prop):Inv (X.wish E) pins σ H s:=⟨I.ok.wish E,I.os,I.bare,I.base,I.loc,I.cell,I.free,I.freeC,I.pin,I.hok,I.len⟩
theorem Inv.unwish (I:Inv (X.wish E) pins σ H s):Inv X pins σ H s:=⟨I.ok.unwish,I.os,I.bare,I.base,I.loc,I.cell,I.free,I.freeC,I.pin,I.hok,I.len⟩
theorem SP.unwish {D:Ends}{f:Flow}{s':Shared}(h:SP (X.wish E) pins D f s'):SP X pins D f s':=by
 cases f with
 | next=>obtain ⟨σ',H',I,q⟩:=h;exact ⟨σ',H',I.unwish,q⟩
 | brk=>obtain ⟨σ',H',I,q⟩:=h;exact ⟨σ',H',I.unwish,q⟩
 | cont=>obtain ⟨σ',H',I,q⟩:=h;exact ⟨σ',H',I.unwish,q⟩
 | ret u=>obtain ⟨v,σ',H',I,r,q⟩:=h;exact ⟨v,σ',H',I.unwish,r,q⟩
theorem PSs.nox {st:List Stmt}{t:TS}(h:PSs X.nox st t):PSs X st t:=fun pins s σ H D I hw =>
 wpAny_mono (h pins s σ H D (I.wish _) hw) (fun _ _ q=>q.unwish) fun _ _ z=>yS z
end
section
variable {X:Cx}{st:Stmt}{rest:List Stmt}{t u:TS}{e:Expr}{te:TE}{pos:Pos}
def J9b:TS:=fun D σ H=>D.nx σ H
def JI (t u:TS):TS:=fun D σ H=>t { D with nx:=u D } σ H
theorem Js:PSs X [] J9b:=fun _ _ σ H _ I h=>wpAny_execs_nil ⟨σ,H,I,h⟩
theorem Jd (h1:PS X st t)(h2:PSs X rest u):PSs X (st::rest) (JI t u):=by
 intro pins s σ H D I h;refine wpAny_execs_cons (thn (h1 pins s σ H { D with nx:=u D } I h) fun f s1 q=>?_);cases f with
 | next =>
   obtain ⟨σ',H',I',q⟩:=q;exact h2 pins s1 σ' H' D I' q
 | ret v=>exact q
 | brk=>exact q
 | cont=>exact q
theorem Jh (h1:PS X st t):PSs X [st] t:=by
 intro pins s σ H D I h;refine wpAny_execs_cons (thn (h1 pins s σ H D I h) fun f s1 q=>?_);cases f with
 | next=>exact wpAny_execs_nil q
 | ret v=>exact q
 | brk=>exact q
 | cont=>exact q
def J9g:TS:=fun D σ H=>D.bk σ H
theorem J9H:PS X (.Break pos) J9g:=fun _ _ σ H _ I h=>wpAny_Break ⟨σ,H,I,h⟩
theorem Inv.quiet {pins:List (Addr×Obj)}{σ:St}{H:Hp}{s:Shared}(I:Inv X pins σ H s):interactive X.env=false:=by simp [interactive,I.ok.kind]
def J2V (te:TE):TS:=fun D σ H=>te σ H fun _ H1=>D.nx σ H1
theorem JS (he:PE X e te)(hs:swapsWith e none pos.line X.env=pure false:=by rfl):PS X (.Expr e pos) (J2V te):=by
 intro pins s σ H D I h;exact wpAny_Expr_any (thn (he pins s σ H _ I h) fun v s1 ⟨x,H1,I1,r1,q1⟩=>⟨σ,H1,I1,q1⟩) I.quiet hs
def J2x (te:TE):TS:=fun D σ H=>te σ H D.rt
theorem Jy (he:PE X e te):PS X (.Return (some e) pos) (J2x te):=by
 intro pins s σ H D I h;exact wpAny_Return_some (thn (he pins s σ H _ I h) fun v s1 ⟨x,H1,I1,r1,q1⟩=>⟨x,σ,H1,I1,r1,q1⟩)
def Jdk:TS:=fun D _ H=>D.rt .non H
def J17 (c:TT)(t u:TS):TS:=fun D σ H=>c σ H fun b H1=>if b=true then t D σ H1 else u D σ H1
theorem JY {c:Expr}{a b:List Stmt}{tc:TT}(hc:PT X c tc)(ha:PSs X a t)(hb:PSs X b u):PS X (.If c a b pos) (J17 tc t u):=by
 intro pins s σ H D I h;refine wpAny_If (thn (hc pins s σ H _ I h) fun d s1 ⟨H1,I1,q1⟩=>?_);cases d with
 | true=>exact ha pins s1 σ H1 D I1 q1
 | false=>exact hb pins s1 σ H1 D I1 q1
end
abbrev TG:=V->St->Hp->(St->Hp->Prop)->Prop
abbrev TGs:=List V->St->Hp->(St->Hp->Prop)->Prop
def PG (X:Cx)(target:Expr)(t:TG):Prop :=
 ∀ (pins:List (Addr×Obj)) (s:Shared) (σ:St) (H:Hp) (v:V) (u:Value) (Q:St->Hp->Prop),Inv X pins σ H s->RelV v u->t v σ H Q ->
   wpAny (model X.prog X.w) X.A (assign target X.env u) (fun _ s'=>∃ σ' H',Inv X pins σ' H' s'/\Q σ' H') X.xe s
def PGs (X:Cx)(ts:List Expr)(t:TGs):Prop :=
 ∀ (pins:List (Addr×Obj)) (s:Shared) (σ:St) (H:Hp) (vs:List V) (us:List Value) (Q:St->Hp->Prop),Inv X pins σ H s->Vals vs us->t vs σ H Q ->
   wpAny (model X.prog X.w) X.A (assignInOrder ((assignEach ts X.env).map (·.2)) us) (fun _ s'=>∃ σ' H',Inv X pins σ' H' s'/\Q σ' H') X.xe s
abbrev Jaw:=V->V->V->Hp->(Hp->Prop)->Prop
def Jbg (X:Cx)(t:Jaw):Prop :=
 ∀ (pins:List (Addr×Obj)) (s:Shared) (σ:St) (H:Hp) (o i v:V) (ov iv u:Value) (Q:Hp->Prop),Inv X pins σ H s->RelV o ov->RelV i iv->RelV v u->t o i v H Q ->
   wpAny (model X.prog X.w) X.A (setItem ov iv u) (fun _ s'=>∃ H',Inv X pins σ H' s'/\Q H') X.xe s
abbrev TIp:=V->V->Hp->VK->Prop
def PIp (X:Cx)(op:Operator)(t:TIp):Prop :=
 ∀ (pins:List (Addr×Obj)) (s:Shared) (σ:St) (H:Hp) (x y:V) (v u:Value) (Q:VK),Inv X pins σ H s->RelV x v->RelV y u->t x y H Q ->
   wpAny (model X.prog X.w) X.A (inplaceOp op v u) (EP X pins σ Q) X.xe s
section
variable {X:Cx}{pos:Pos}
def JK (i:Nat):TG:=fun v σ H Q=>Q (σ.set i (some v)) H
theorem J80 {i:Nat}{x:Str}(hN:X.N.Nodup)(hi:X.N[i]?=some x)(hx:Loc X.env.scope x)(hf:X.fn x=true\/X.env.scope.names.lookup x=some .local:=by first | exact .inl rfl | exact .inr rfl | assumption):PG X (.Name x pos) (JK i):=by
 intro pins s σ H v u Q I r h;exact wpAny_assign_Name (J24 I hN hi hx r (fun s' I'=>⟨_,H,I',h⟩) hf)
def J1X:TGs:=fun vs σ H Q=>vs=[]/\Q σ H
def J0y (t:TG)(u:TGs):TGs:=fun vs σ H Q=>∃ v r,vs=v::r/\t v σ H fun σ' H'=>u r σ' H' Q
theorem J0o:PGs X [] J1X:=by
 intro pins s σ H vs us Q I r h;obtain ⟨e,h⟩:=h;subst e;cases r;exact assignInOrder_nil ⟨σ,H,I,h⟩
theorem Jq {e:Expr}{es:List Expr}{t:TG}{u:TGs}(h1:PG X e t)(h2:PGs X es u)
 (hs:(assignEach (e::es) X.env).map (·.2)=assign e X.env::(assignEach es X.env).map (·.2):=by rfl):PGs X (e::es) (J0y t u):=by
 intro pins s σ H vs us Q I r h;obtain ⟨v,vr,e1,h⟩:=h;subst e1;cases r with
 | cons r rr =>
   rw [hs];refine assignInOrder_cons (thn (h1 pins s σ H _ _ _ I r h) fun _ s1 ⟨σ1,H1,I1,q1⟩=>?_);exact h2 pins s1 σ1 H1 _ _ Q I1 rr q1
def Jb7 (K:Frag)(n:Nat)(t:TGs):TG:=fun v σ H Q=>∃ a xs,v=.ref a/\SqT K H a xs/\xs.length=n/\t xs σ H Q
theorem JbN {es:List Expr}{k:Nat}{t:TGs}{n:Nat}(hc:X.calm=true)(h:PGs X es t)
 (hn:(assignEach es X.env).length=n:=by rfl) (hst:(assignEach es X.env).findIdx? (·.1)=none:=by rfl):PG X (.Tuple es k pos) (Jb7 X.K n t):=by
 intro pins s σ H v u Q I r hw;obtain ⟨a,xs,e1,hq,hl,hw⟩:=hw;subst e1;cases r;obtain ⟨its,rv,ht,hz⟩:=I.tuple hq;refine assign_Tuple_tuple (I.ok.hd hc) ht (by simp [hn,<- hl,rv.length]) hst fun h' hx=>?_;have I1:Inv X pins σ H { s with heap:=h' }:=I.kept (t':=s.toks) fun b o e=>hx b o (yO (zu e)) e;exact h pins _ σ H xs _ Q I1 (by simpa using rv) hw
def Jca (to ti:TE)(t:Jaw):TG:=fun v σ H Q=>to σ H fun o H1=>ti σ H1 fun i H2=>t o i v H2 fun H3=>Q σ H3
theorem J9M {o i:Expr}{to ti:TE}{t:Jaw}(ho:PE X o to)(hi:PE X i ti)(hs:Jbg X t)
 (ha:∀ v,assign (.Subscript o i pos) X.env v=(do
  let ov <- holding [v] (eval o X.env)
  let iv <- holding [v,ov] (eval i X.env)
  standAt pos
  holding [v,ov,iv] (setItem ov iv v)
  release [v,ov,iv] []):=by intro _;rfl):PG X (.Subscript o i pos) (Jca to ti t):=by
 intro pins s σ H v u Q I r h;rw [ha];refine yF (wpAny_holding (thn (ho pins s σ H _ I h) fun ov s1 ⟨x,H1,I1,r1,q1⟩=>?_));refine yF (wpAny_holding (thn (hi pins s1 σ H1 _ I1 q1) fun iv s2 ⟨y,H2,I2,r2,q2⟩=>?_));refine yF (wpAny_standAt (yF (wpAny_holding (thn (hs pins s2 σ H2 x y v ov iv u _ I2 r1 r2 r q2) fun _ s3 ⟨H3,I3,q3⟩=>?_))));exact wpAny_release ⟨σ,H3,I3,q3⟩
def J14 (te:TE)(g:TG):TS:=fun D σ H=>te σ H fun x H1=>g x σ H1 D.nx
theorem J9I {tg e:Expr}{te:TE}{g:TG}(he:PE X e te)(hg:PG X tg g)(hs:swapsWithSole [tg] e pos.line X.env=pure false:=by rfl)(hw:swappedStores [tg] e X.env=pure none:=by rfl)
 (h1:(assignEach [tg] X.env).map (·.2)=[assign tg X.env]:=by rfl):PS X (.Assign [tg] e pos) (J14 te g):=by
 intro pins s σ H D I h;refine wpAny_Assign_stores (thn (he pins s σ H _ I h) fun v s1 ⟨x,H1,I1,r1,q1⟩=>?_) hs hw;rw [h1];exact thn (hg pins s1 σ H1 x v _ I1 r1 q1) fun _ s2 q=>q
theorem J9G {i:Nat}{x:Str}{e:Expr}{te:TE}{pos':Pos}(hN:X.N.Nodup)(hi:X.N[i]?=some x)(hx:Loc X.env.scope x)(he:PE X e te)(hs:swapsWith e (some (.Name x pos')) pos.line X.env=pure false:=by rfl)(hf:X.fn x=true\/X.env.scope.names.lookup x=some .local:=by first | exact .inl rfl | exact .inr rfl | assumption) :
 PS X (.Assign [.Name x pos'] e pos) (J14 te (JK i)):=by
 intro pins s σ H D I h;refine wpAny_Assign_Name (thn (he pins s σ H _ I h) fun v s1 ⟨y,H1,I1,r1,q1⟩=>?_) hs;exact J24 I1 hN hi hx r1 (fun s2 I2=>⟨_,H1,I2,q1⟩) hf
def Jdt (i j:Nat)(ta:TA):TS:=fun D σ H=>ta σ H fun vs H1=>∃ v w,vs=[v,w]/\D.nx ((σ.set i (some v)).set j (some w)) H1
def J9i (i:Nat)(te:TE)(ti:TIp):TS:=fun D σ H=>∃ x,σ[i]?=some (some x)/\te σ H fun y H1=>ti x y H1 fun z H2=>D.nx (σ.set i (some z)) H2
theorem ps_aug {i:Nat}{x:Str}{e:Expr}{te:TE}{op:Operator}{ti:TIp}{pos':Pos}(hN:X.N.Nodup)(hi:X.N[i]?=some x)(hx:Loc X.env.scope x)(he:PE X e te)(ho:PIp X op ti)(hf:X.fn x=true\/X.env.scope.names.lookup x=some .local:=by first | exact .inl rfl | exact .inr rfl | assumption) :
 PS X (.AugAssign (.Name x pos') op e pos) (J9i i te ti):=by
 intro pins s σ H D I h;obtain ⟨v,e1,h⟩:=h;obtain ⟨m,hn,hl⟩:=I.loc;have vis:Vis X.env.scope x:=by rcases hx with k | k;exact .inl k;exact .inr (.inl k)
 obtain ⟨u,r,l⟩:=hl i x v hi e1 vis;refine wpAny_AugAssign_Name ?_;have go:wpAny (model X.prog X.w) X.A (eval e X.env) (fun w s₂=>wpAny (model X.prog X.w) X.A (inplaceOp op u w) (fun r s₃=>wpAny (model X.prog X.w) X.A (storeName X.env x r) (fun _=>SP X pins D .next) X.xe s₃) X.xe s₂) X.xe s:=by
  refine thn (he pins s σ H _ I h) fun w s1 ⟨y,H1,I1,r1,q1⟩=>?_;refine thn (ho pins s1 σ H1 v y u w _ I1 r r1 q1) fun z s2 ⟨zv,H2,I2,r2,q2⟩=>?_;exact J24 I2 hN hi hx r2 (fun s3 I3=>⟨_,H2,I3,q2⟩) hf
 rcases l with ⟨hk,hm⟩ | ⟨hk,c,hc,hcell⟩
 ·exact wpAny_loadName_local I.ok.kind hk hn hm go
 ·rcases hk with hk | hk
  ·exact wpAny_loadName_cell I.ok.kind hk hc hcell go
  ·rcases hx with k | k
   ·have:X.env.scope.names.lookup x=some .free:=hk
    rw [k] at this;cases this
   ·have:X.env.scope.names.lookup x=some .free:=hk
    rw [k] at this;cases this
def J9h (to ti te:TE)(tget:V->V->Hp->VK->Prop)(tip:TIp)(tset:Jaw):TS:=fun D σ H=>to σ H fun o H1=>ti σ H1 fun i H2=>tget o i H2 fun x H3=>te σ H3 fun y H4=>tip x y H4 fun z H5=>tset o i z H5 fun H6=>D.nx σ H6
def Jcl (X:Cx)(t:V->V->Hp->VK->Prop):Prop :=
 ∀ (pins:List (Addr×Obj)) (s:Shared) (σ:St) (H:Hp) (o i:V) (ov iv:Value) (Q:VK),Inv X pins σ H s->RelV o ov->RelV i iv->t o i H Q ->
   wpAny (model X.prog X.w) X.A (getItem ov iv) (EP X pins σ Q) X.xe s
theorem J5G {o i e:Expr}{to ti te:TE}{tget:V->V->Hp->VK->Prop}{tip:TIp}{tset:Jaw}{op:Operator}{tpos:Pos}(ho:PE X o to)(hi:PE X i ti)(hg:Jcl X tget)(he:PE X e te)(hp:PIp X op tip)(hs:Jbg X tset)
 (ha:∀ ov iv new,augStore i ov iv new=(do holding [new,ov,iv] (setItem ov iv new);release [new,ov,iv] [];pure .next):=by intros;rfl):PS X (.AugAssign (.Subscript o i tpos) op e pos) (J9h to ti te tget tip tset):=by
 intro pins s σ H D I h;refine wpAny_AugAssign_SubscriptAny (thn (ho pins s σ H _ I h) fun ov s1 ⟨x1,H1,I1,r1,q1⟩=>?_) ha;refine thn (hi pins s1 σ H1 _ I1 q1) fun iv s2 ⟨x2,H2,I2,r2,q2⟩=>?_;refine thn (hg pins s2 σ H2 x1 x2 ov iv _ I2 r1 r2 q2) fun old s3 ⟨x3,H3,I3,r3,q3⟩=>?_;refine thn (he pins s3 σ H3 _ I3 q3) fun v s4 ⟨x4,H4,I4,r4,q4⟩=>?_;refine thn (hp pins s4 σ H4 x3 x4 old v _ I4 r3 r4 q4) fun new s5 ⟨x5,H5,I5,r5,q5⟩=>?_;exact thn (hs pins s5 σ H5 x1 x2 x5 ov iv new _ I5 r1 r2 r5 q5) fun _ s6 ⟨H6,I6,q6⟩=>⟨σ,H6,I6,q6⟩
def ipI (f:Int->Int->Int):TIp:=fun x y H Q=>∃ i j,x=.int i/\y=.int j/\Q (.int (f i j)) H
theorem J7s:PIp X .Add (ipI fun i j=>i+j):=by
 intro pins s σ H x y v u Q I r1 r2 h;obtain ⟨i,j,e1,e2,q⟩:=h;subst e1;subst e2;obtain ⟨t,rfl⟩:=r1;obtain ⟨t',rfl⟩:=r2;exact iadd_int ⟨.int _,H,I.tok _,⟨_,rfl⟩,q⟩
theorem Jc9:PIp X .Sub (ipI fun i j=>i - j):=by
 intro pins s σ H x y v u Q I r1 r2 h;obtain ⟨i,j,e1,e2,q⟩:=h;subst e1;subst e2;obtain ⟨t,rfl⟩:=r1;obtain ⟨t',rfl⟩:=r2;exact isub_int ⟨.int _,H,I.tok _,⟨_,rfl⟩,q⟩
end
section
variable {X:Cx}{pos:Pos}
def J78 (c:TT)(tb:TS):TS:=fun D σ H=>∃ W:Nat->St->Hp->Prop,(∃ m,W m σ H)/\∀ m σ H,W m σ H ->
 c σ H fun b H1=>if b=true then ∃ N:St->Hp->Prop,(∀ σ' H',N σ' H'->∃ m',m'<m/\W m' σ' H')/\tb { D with nx:=N,ct:=N,bk:=D.nx } σ H1 else D.nx σ H1
theorem J4h {c:Expr}{body:List Stmt}{tc:TT}{tb:TS}(hp:PassesOwn (model X.prog X.w) X.A X.env X.xe)(hc:PT X c tc)(hb:PSs X body tb):PS X (.While c body [] pos) (J78 tc tb):=by
 intro pins s σ H D I h;obtain ⟨W,⟨m0,w0⟩,turn⟩:=h;refine wpAny_While (codeAny_whileLoop (fun n s'=>∃ σ' H',Inv X pins σ' H' s'/\W n σ' H') ?_ m0 ⟨σ,H,I,w0⟩);rintro n s1 ⟨σ1,H1,I1,w1⟩;refine wpAny_passesOwn hp (thn (hc pins s1 σ1 H1 _ I1 (turn n σ1 H1 w1)) fun b s2 ⟨H2,I2,q2⟩=>?_);cases b with
 | true =>
   obtain ⟨N,hN,q2⟩:=q2;rw [yI rfl];refine wpAny_passesOwn hp (thn (hb pins s2 σ1 H2 _ I2 q2) fun f s3 q3=>?_);cases f with
   | next =>
     obtain ⟨σ3,H3,I3,n3⟩:=q3;obtain ⟨m',hm,w3⟩:=hN σ3 H3 n3;exact ⟨m',hm,σ3,H3,I3,w3⟩
   | cont =>
     obtain ⟨σ3,H3,I3,n3⟩:=q3;obtain ⟨m',hm,w3⟩:=hN σ3 H3 n3;exact ⟨m',hm,σ3,H3,I3,w3⟩
   | brk=>exact q3
   | ret v=>exact q3
 | false =>
   rw [yH yK];exact wpAny_execs_nil ⟨σ1,H2,I2,q2⟩
end
structure It where
 go:Nat->Hp->Prop
 yld:Nat->Hp->V->Hp->Prop
 stop:Nat->Hp->Prop
def J1B (X:Cx)(pins:List (Addr×Obj))(H:Hp)(b:Addr):Prop :=
 H b=none/\b≠X.env.locals/\b∉X.fs/\(b∈X.ex\/X.s₀.heap.objs.size<=b)/\(∀ x c,X.env.cells.lookup x=some c->c≠b)/\∀ p∈X.pn++pins,p.1≠b
theorem Inv.fpOk {X:Cx}{pins:List (Addr×Obj)}{σ:St}{H H':Hp}{s:Shared}{b:Addr}(I:Inv X pins σ H s)(hb:s.heap.objs.size<=b)(hn:H' b=none):J1B X pins H' b:=by
 refine ⟨hn,Nat.ne_of_gt (yP I.lt hb),I.nofs hb,.inr (yR I.sz hb),fun x c e z=>?_,fun p hp z=>?_⟩
 ·obtain ⟨v,q⟩:=I.cell x c e
  exact absurd (yP q.lt (by rw [z];exact hb)) (Nat.lt_irrefl _)
 ·exact absurd (yP (zu (I.pin p hp).1) (by rw [z];exact hb)) (Nat.lt_irrefl _)
structure Turn (P:Program)(w:World)(K:Frag)(tg:Expr)(J:It)(fp:List Addr)(it:Addr)(tn:Nat->Heap->Prop):Prop where
 mem:it∈fp
 obj:∀ i h,tn i h->∀ b∈fp,∃ o,h.get? b=some o/\∀ v,o.data≠.cell v
 keep:∀ i h h',tn i h->(∀ b∈fp,∀ o,h.get? b=some o->h'.get? b=some o)->tn i h'
 item:∀ (X:Cx),X.prog=P->X.w=w->X.K=K->X.calm=true->∀ (i:Nat) (pins:List (Addr×Obj)) (s:Shared) (σ:St) (H:Hp) (E:Value->Shared->Prop),Inv X pins σ H s->(∀ b∈fp,J1B X pins H b)->tn i s.heap->J.go i H ->
  wpAny (model P w) X.A (pyNext (.ref it)) (fun r s1=>∃ u,r=some u /\
   wpAny (model P w) X.A (letOwnedTupleGo tg (.ref it) u) (fun _ s2=>∃ x H',Inv X pins σ H' s2/\RelV x u/\J.yld i H x H'/\tn (i+1) s2.heap/\∀ b∈fp,H' b=none) E s1) E s
 done:∀ (X:Cx),X.prog=P->X.w=w->X.K=K->X.calm=true->∀ (i:Nat) (pins:List (Addr×Obj)) (s:Shared) (σ:St) (H:Hp) (E:Value->Shared->Prop),Inv X pins σ H s->(∀ b∈fp,J1B X pins H b)->tn i s.heap->J.stop i H ->
  wpAny (model P w) X.A (pyNext (.ref it)) (fun r s1=>r=none/\Inv X pins σ H s1) E s
 self:∀ (A:Around) (i:Nat) (s:Shared) (Q:Value->Shared->Prop) (E:Value->Shared->Prop),tn i s.heap->Q (.ref it) s->wpAny (model P w) A (pyIter (.ref it)) Q E s
abbrev TI:=St->Hp->(It->Hp->Prop)->Prop
def PIE (X:Cx)(pins:List (Addr×Obj))(σ:St)(tg:Expr)(R:It->Hp->Prop)(itv:Value)(s2:Shared):Prop :=
 ∃ (it:Addr) (fp:List Addr) (tn:Nat->Heap->Prop) (J:It) (H':Hp),itv=.ref it/\Inv X pins σ H' s2/\Turn X.prog X.w X.K tg J fp it tn/\tn 0 s2.heap/\(∀ b∈fp,J1B X pins H' b)/\R J H'
def PI (X:Cx)(tg iter:Expr)(wi:TI):Prop :=
 ∀ (pins:List (Addr×Obj)) (s:Shared) (σ:St) (H:Hp) (R:It->Hp->Prop),Inv X pins σ H s->wi σ H R ->
   wpAny (model X.prog X.w) X.A (eval iter X.env) (fun v s1=>wpAny (model X.prog X.w) X.A (pyIter v) (PIE X pins σ tg R) X.xe s1) X.xe s
theorem go_of {M:Model}{A:Around}{E:Value->Shared->Prop}{s:Shared}{tg:Expr}{it:Addr}{u:Value}{o:Obj}{n:String}{vs:Array Value}{Q:Unit->Shared->Prop}(ho:s.heap.get? it=some o)(hc:o.cls=.type n)(hd:o.data=.fields vs)
 (hn:["enumerate","zip","dict_itemiterator","dict_reverseitemiterator","odict_iterator","itertools.zip_longest","itertools.pairwise"].contains n=false) (hQ:Q () s):wpAny M A (letOwnedTupleGo tg (.ref it) u) Q E s:=by
 unfold letOwnedTupleGo
 cases tg <;> first
  | exact yG hQ
  | (cases u<;>first
   | exact yG hQ
   | (refine yF (wpAny_load ho ?_)
      rw [hc,hd];show wpAny M A (if (["enumerate","zip","dict_itemiterator","dict_reverseitemiterator","odict_iterator","itertools.zip_longest","itertools.pairwise"].contains n&&vs[0]? == some (rawInt _))=true then _ else _) Q E s;rw [yH (by intro h;rw [hn,Bool.false_and] at h;cases h)];exact yG hQ))
def Itl (K:Frag)(a:Addr):It :=
 ⟨fun i H=>∃ xs x,SqL K H a xs/\xs[i]?=some x,fun i H x H'=>H'=H/\∀ xs,SqL K H a xs->xs[i]?=some x,fun i H=>∃ xs,SqL K H a xs/\xs.length<=i⟩
def Itt (K:Frag)(a:Addr):It :=
 ⟨fun i H=>∃ xs x,SqT K H a xs/\xs[i]?=some x,fun i H x H'=>H'=H/\∀ xs,SqT K H a xs->xs[i]?=some x,fun i H=>∃ xs,SqT K H a xs/\xs.length<=i⟩
def Itr (lo:Int)(n:Nat):It:=⟨fun i _=>i<n,fun i H x H'=>H'=H/\x=.int (lo+i),fun i _=>n<=i⟩
theorem J8s {P:Program}{w:World}{K:Frag}{tg:Expr}(a it:Addr):Turn P w K tg (Itl K a) [it] it (fun i h=>h.IsListIter it a i) where
 mem:=by simp
 obj:=fun i h st b hb=>by
  have e:b=it:=by simpa using hb
  subst e;obtain ⟨o,e,c,d⟩:=st;exact ⟨o,e,fun v z=>by rw [d] at z;cases z⟩
 keep:=fun i h h' st k=>st.at fun o e=>k it (by simp) o e
 item:=by
  intro X hP hw hK hc i pins s σ H E I hf st hg;subst hP hw hK;obtain ⟨xs,x,hq,hx⟩:=hg;obtain ⟨its,rv,p,hz⟩:=I.list hq;obtain ⟨u,hu,ru⟩:=rv.get hx;obtain ⟨f0,f1,f2,f3,f4,f5⟩:=hf it (by simp);refine wpAny_pyNext_list_item st p.isList (x:=u) (by simpa using hu) fun h' st' sb=>?_;have I1:Inv X pins σ H { s with heap:=h' }:=I.turned (t':=s.toks) (fun b o hb e=>(sb.2 b hb).trans e) f0 f1 f3 f4 f5;obtain ⟨o,e,c,d⟩:=id st';exact ⟨u,rfl,go_of (s:={ s with heap:=h' }) e c d (by decide) ⟨x,H,I1,ru,⟨rfl,fun ys hy=>by rw [I.list_inj hy hq];exact hx⟩,st',fun b hb=>(hf b hb).1⟩⟩
 done:=by
  intro X hP hw hK hc i pins s σ H E I hf st hg;subst hP hw hK;obtain ⟨xs,hq,hx⟩:=hg;obtain ⟨its,rv,p,hz⟩:=I.list hq;obtain ⟨f0,f1,f2,f3,f4,f5⟩:=hf it (by simp);have hl:=rv.length;exact wpAny_pyNext_list_end (I.ok.hd hc) st p.isList (by simp;omega) fun h' eb=>⟨rfl,I.turned (t':=s.toks) (fun b o hb e=>eb b o hb e) f0 f1 f3 f4 f5⟩
 self:=fun _ _ _ _ _ st h=>wpAny_pyIter_listiter st h
theorem J76 {P:Program}{w:World}{K:Frag}{tg:Expr}(it:Addr)(lo:Int)(n:Nat):Turn P w K tg (Itr lo n) [it] it (fun i h=>IsRangeIter h it (lo+(i:Nat) * 1) ((n:Int) - (i:Nat)) 1) where
 mem:=by simp
 obj := fun i h st b hb=>by
  have e:b=it:=by simpa using hb
  subst e;exact ⟨_,st,fun v z=>by
   have z':Data.fields _=Data.cell v:=z;cases z'⟩
 keep:=fun i h h' st k=>k it (by simp) _ st
 item:=by
  intro X hP hw hK hc i pins s σ H E I hf st hg;subst hP hw hK;obtain ⟨f0,f1,f2,f3,f4,f5⟩:=hf it (by simp);have W:=Walks.range (prog:=X.prog) (w:=X.w) (I.ok.hd hc) it lo 1 n;refine W.item i s _ _ hg st fun v h' tk hv st' kk=>?_;obtain ⟨t,rfl⟩:=hv;have I1:Inv X pins σ H { s with heap:=h',toks:=tk }:=I.turned (fun b o hb e=>kk b o (by simpa using hb) e) f0 f1 f3 f4 f5;refine ⟨_,rfl,go_of (s:={ s with heap:=h',toks:=tk }) (n:="range_iterator") st' rfl rfl (by decide) ⟨.int (lo+i),H,I1,⟨t,?_⟩,⟨rfl,rfl⟩,st',fun b hb=>(hf b hb).1⟩⟩;rw [Int.mul_one]
 done:=by
  intro X hP hw hK hc i pins s σ H E I hf st hg;subst hP hw hK;obtain ⟨f0,f1,f2,f3,f4,f5⟩:=hf it (by simp);exact wpAny_pyNext_range_end (I.ok.hd hc) st (by have:n<=i:=hg;omega) fun h' eb=>⟨rfl,I.turned (t':=s.toks) (fun b o hb e=>eb b o hb e) f0 f1 f3 f4 f5⟩
 self:=fun _ _ _ _ _ st h=>wpAny_pyIter_rangeiter st h
section
variable {X:Cx}{tg:Expr}
def J8d (K:Frag)(tl:TE):TI:=fun σ H R=>tl σ H fun x H1=>∃ a,x=.ref a/\(∃ xs,SqL K H1 a xs)/\R (Itl K a) H1
def JdA (K:Frag)(tl:TE):TI:=fun σ H R=>tl σ H fun x H1=>∃ a,x=.ref a/\(∃ xs,SqT K H1 a xs)/\R (Itt K a) H1
theorem JaS {l:Expr}{tl:TE}(hl:PE X l tl):PI X tg l (J8d X.K tl):=by
 intro pins s σ H R I h;refine thn (hl pins s σ H _ I h) fun v s1 ⟨x,H1,I1,r1,q1⟩=>?_;obtain ⟨a,e,⟨xs,hq⟩,q⟩:=q1;subst e;cases r1;obtain ⟨its,rv,p,hz⟩:=I1.list hq;refine wpAny_pyIter_list p.isList ?_;refine ⟨s1.heap.objs.size,[s1.heap.objs.size],_,_,H1,rfl,I1.kept (t':=s1.toks) fun b o e=>zr _ e,J8s a _,⟨_,zt _ rfl,rfl,rfl⟩,fun b hb=>?_,q⟩;have e:b=s1.heap.objs.size:=by simpa using hb
 subst e;exact I1.fpOk (yJ _) (I1.hok.fresh (yJ _))
theorem J9w {pins:List (Addr×Obj)}{σ:St}{H:Hp}{s:Shared}{R:It->Hp->Prop}{E:Value->Shared->Prop}{lo hi:Int}{t u v:Tok}{tk:Nat}(I:Inv X pins σ H s)(h1:-(2 ^ 62)<=lo)(h2:lo<2 ^ 62)(h3:-(2 ^ 62)<=hi)(h4:hi<2 ^ 62)
 (q:R (Itr lo (hi - lo).toNat) H):wpAny (model X.prog X.w) X.A (pyIter (.ref s.heap.objs.size)) (PIE X pins σ tg R) E { s with heap:=s.heap.push { cls:=.type "range",data:=.fields #[.int lo t,.int hi u,.int 1 v] },toks:=tk }:=by
 refine wpAny_pyIter_range (IsRange.new ..) (small_one h1 h2 h3 h4) ?_;have I1:Inv X pins σ H { s with heap:=s.heap.push { cls:=.type "range",data:=.fields #[.int lo t,.int hi u,.int 1 v] },toks:=tk }:=I.kept fun b o e=>zr _ e;refine ⟨(s.heap.push { cls:=.type "range",data:=.fields #[.int lo t,.int hi u,.int 1 v] }).objs.size,[(s.heap.push { cls:=.type "range",data:=.fields #[.int lo t,.int hi u,.int 1 v] }).objs.size],_,_,H,rfl,
  I1.kept (t':=tk) fun b o e=>zr _ e,J76 _ lo (hi - lo).toNat,?_,fun b hb=>?_,q⟩
 ·have e1:lo+((0:Nat):Int) * 1=lo:=by simp
  have e2:(((hi - lo).toNat:Nat):Int) - ((0:Nat):Int)=Builtin.Range.rangeSize lo hi 1:=by rw [rangeSize_one];split<;>omega
  show IsRangeIter _ _ (lo+((0:Nat):Int) * 1) ((((hi - lo).toNat:Nat):Int) - ((0:Nat):Int)) 1;rw [e1,e2];exact zt _ rfl
 ·have e:b=(s.heap.push { cls:=.type "range",data:=.fields #[.int lo t,.int hi u,.int 1 v] }).objs.size:=by simpa using hb
  subst e;exact I1.fpOk (yJ _) (I1.hok.fresh (yJ _))
def Ja6 (ta:TA):TI:=fun σ H R=>ta σ H fun vs H1=>∃ j:Int,vs=[.int j]/\-(2 ^ 62)<=j/\j<2 ^ 62/\R (Itr 0 j.toNat) H1
def Jds (ta:TA):TI:=fun σ H R=>ta σ H fun vs H1=>∃ i j:Int,vs=[.int i,.int j]/\(-(2 ^ 62)<=i/\i<2 ^ 62/\-(2 ^ 62)<=j/\j<2 ^ 62)/\R (Itr i (j - i).toNat) H1
theorem J0u {a:Expr}{ta:TA}{p pos:Pos}(hg:Gl X "range")(hm:X.mg "range"=none)(ha:PA X [a] ta)(hs:starEach [a] X.env=[(false,eval a X.env)]:=by rfl):PI X tg (.Call (.Name "range" p) [a] [] pos) (Ja6 ta):=by
 intro pins s σ H R I h;refine Call_ (J1A I hg hm boot_range (PyProof.Rows.callWith_type1 (thn (ha pos pins s σ H _ I h) fun us s1 ⟨vs,H1,I1,r1,q1⟩=>?_) hs rfl));obtain ⟨j,e,q1,q2,q⟩:=q1;subst e;cases r1 with
 | cons r rr =>
   cases rr;obtain ⟨t,rfl⟩:=r;exact call_range_1 (J9w I1 (by omega) (by omega) q1 q2 (by simpa using q))
def J4O (wi:TI)(g:TG)(tb:TS):TS:=fun D σ H=>wi σ H fun J H1=>∃ W:Nat->Nat->St->Hp->Prop,(∃ m,W 0 m σ H1)/\∀ i m σ H,W i m σ H ->
 (J.stop i H/\D.nx σ H)\/(J.go i H/\∃ N:St->Hp->Prop,(∀ σ' H',N σ' H'->∃ m',m'<m/\W (i+1) m' σ' H')/\∀ x H',J.yld i H x H'->g x σ H' fun σ2 H2=>tb { D with nx:=N,ct:=N,bk:=D.nx } σ2 H2)
def J3h (fp:List Addr)(h:Heap):List (Addr×Obj):=fp.filterMap fun b=>(h.get? b).map fun o=>(b,o)
theorem J0Y {fp:List Addr}{h:Heap}{b:Addr}{o:Obj}(hb:b∈fp)(e:h.get? b=some o):(b,o)∈J3h fp h:=mem_filterMap.mpr ⟨b,hb,by rw [e];rfl⟩
theorem J8F {fp:List Addr}{h:Heap}{p:Addr×Obj}(hp:p∈J3h fp h):p.1∈fp/\h.get? p.1=some p.2:=by
 obtain ⟨b,hb,e⟩:=mem_filterMap.mp hp;cases q:h.get? b with
 | none=>rw [q] at e;cases e
 | some o =>
   rw [q] at e;have e':(b,o)=p:=yN e;subst e';exact ⟨hb,q⟩
theorem Inv.pinned {pins:List (Addr×Obj)}{σ:St}{H:Hp}{s:Shared}{fp:List Addr}(I:Inv X pins σ H s)(hf:∀ b∈fp,J1B X pins H b)(ho:∀ b∈fp,∃ o,s.heap.get? b=some o/\∀ v,o.data≠.cell v):Inv X (pins++J3h fp s.heap) σ H s :=
 I.pins_of fun p hp=>(zh.mp hp).elim (fun z=>I.pin p (zi _ z)) fun z=>by
  obtain ⟨hb,e⟩:=J8F z;obtain ⟨f0,f1,f2,_⟩:=hf p.1 hb;obtain ⟨o,e',d⟩:=ho p.1 hb;rw [e] at e';cases e';exact ⟨e,f0,f1,f2,d⟩
theorem Inv.unpinned {pins pl:List (Addr×Obj)}{σ:St}{H:Hp}{s:Shared}(I:Inv X (pins++pl) σ H s):Inv X pins σ H s:=I.pins_of fun p hp=>I.pin p (zi _ (zj _ hp))
theorem J0z {iter:Expr}{body:List Stmt}{wi:TI}{g:TG}{tb:TS}{pos:Pos}(hp:PassesOwn (model X.prog X.w) X.A X.env X.xe)(hc:X.calm=true)(hi:PI X tg iter wi)(hg:PG X tg g)(hb:PSs X body tb)
 (hs:∀ x,foldedSetIterable iter X.env x=pure x:=by intro _;rfl):PS X (.For tg iter body [] pos) (J4O wi g tb):=by
 intro pins s σ H D I h;refine wpAny_For (thn (hi pins s σ H _ I h) fun v s1 h1=>thn h1 fun itv s2 h2=>?_) hs;obtain ⟨it,fp,tn,J,H2,e,I2,T,st2,f2,W,⟨m0,w0⟩,turn⟩:=h2;subst e;have stat:∀ {H':Hp},(∀ b∈fp,H' b=none)->∀ b∈fp,J1B X pins H' b:=fun hn b hb=>⟨hn b hb,(f2 b hb).2⟩;refine codeAny_forLoop_any (fun n s'=>∃ i σ' H',Inv X pins σ' H' s'/\tn i s'.heap/\(∀ b∈fp,H' b=none)/\W i n σ' H') ?_ m0 ⟨0,σ,H2,I2,st2,fun b hb=>(f2 b hb).1,w0⟩;rintro n s3 ⟨i,σ3,H3,I3,st3,fr3,w3⟩;rcases turn i n σ3 H3 w3 with ⟨stop,qn⟩ | ⟨go,N,hN,step⟩
 ·refine wpAny_passesOwn hp (thn (T.done X rfl rfl rfl hc i pins s3 σ3 H3 X.xe I3 (stat fr3) st3 stop) fun r s4 ⟨hr,I4⟩=>?_)
  subst hr;exact wpAny_execs_nil ⟨σ3,H3,I4,qn⟩
 ·refine wpAny_passesOwn hp (thn (T.item X rfl rfl rfl hc i pins s3 σ3 H3 X.xe I3 (stat fr3) st3 go) fun r s4 ⟨u,hr,h4⟩=>?_)
  subst hr;refine wpAny_passesOwn hp (thn h4 fun _ s5 ⟨x,H5,I5,r5,y5,st5,fr5⟩=>?_);have I5':=I5.pinned (stat fr5) (T.obj _ _ st5);refine wpAny_passesOwn hp (thn (hg _ s5 σ3 H5 x u _ I5' r5 (step x H5 y5)) fun _ s6 ⟨σ6,H6,I6,q6⟩=>?_);refine wpAny_passesOwn hp (thn (hb _ s6 σ6 H6 _ I6 q6) fun f s7 q7=>?_);have again:∀ {σ7:St} {H7:Hp},Inv X (pins++J3h fp s5.heap) σ7 H7 s7->N σ7 H7->∃ m,m<n/\∃ i σ' H',Inv X pins σ' H' s7/\tn i s7.heap/\(∀ b∈fp,H' b=none)/\W i m σ' H':=fun {σ7 H7} I7 n7=>by
   obtain ⟨m',hm,w7⟩:=hN σ7 H7 n7;refine ⟨m',hm,i+1,σ7,H7,I7.unpinned,T.keep _ _ _ st5 fun b hb o e=>(I7.pin (b,o) (zi _ (zi _ (J0Y hb e)))).1,fun b hb=>?_,w7⟩;obtain ⟨o,e,d⟩:=T.obj _ _ st5 b hb;exact (I7.pin (b,o) (zi _ (zi _ (J0Y hb e)))).2.1
  cases f with
  | next=>obtain ⟨σ7,H7,I7,n7⟩:=q7;exact again I7 n7
  | cont=>obtain ⟨σ7,H7,I7,n7⟩:=q7;exact again I7 n7
  | brk=>obtain ⟨σ7,H7,I7,q7⟩:=q7;exact ⟨σ7,H7,I7.unpinned,q7⟩
  | ret v=>obtain ⟨x7,σ7,H7,I7,r7,q7⟩:=q7;exact ⟨x7,σ7,H7,I7.unpinned,r7,q7⟩
end
abbrev R2:=V->V->Hp->VK->Prop
def OpR (X:Cx)(f:Value->Value->Sem Value)(r:R2):Prop :=
 ∀ (pins:List (Addr×Obj)) (s:Shared) (σ:St) (H:Hp) (x y:V) (v u:Value) (Q:VK),Inv X pins σ H s->RelV x v->RelV y u->r x y H Q ->
   wpAny (model X.prog X.w) X.A (f v u) (EP X pins σ Q) X.xe s
def UnR (X:Cx)(f:Value->Sem Value)(r:V->Hp->VK->Prop):Prop :=
 ∀ (pins:List (Addr×Obj)) (s:Shared) (σ:St) (H:Hp) (x:V) (v:Value) (Q:VK),Inv X pins σ H s->RelV x v->r x H Q ->
   wpAny (model X.prog X.w) X.A (f v) (EP X pins σ Q) X.xe s
def J0i (X:Cx)(f:Value)(r:List V->Hp->VK->Prop):Prop :=
 ∀ (pins:List (Addr×Obj)) (s:Shared) (σ:St) (H:Hp) (xs:List V) (us:List Value) (Q:VK),Inv X pins σ H s->Vals xs us->r xs H Q ->
   wpAny (model X.prog X.w) X.A (call f us) (EP X pins σ Q) X.xe s
def Jda (X:Cx)(r:V->Hp->(Bool->Hp->Prop)->Prop):Prop :=
 ∀ (pins:List (Addr×Obj)) (s:Shared) (σ:St) (H:Hp) (x:V) (v:Value) (Q:Bool->Hp->Prop),Inv X pins σ H s->RelV x v->r x H Q ->
   wpAny (model X.prog X.w) X.A (truthy v) (TP X pins σ Q) X.xe s
def tOp (r:R2)(ta tb:TE):TE:=fun σ H Q=>ta σ H fun x H1=>tb σ H1 fun y H2=>r x y H2 Q
def tUn (r:V->Hp->VK->Prop)(ta:TE):TE:=fun σ H Q=>ta σ H fun x H1=>r x H1 Q
def rI (C:Int->Int->Prop)(g:Int->Int->V):R2:=fun x y H Q=>∃ i j,x=.int i/\y=.int j/\C i j/\Q (g i j) H
def rI0 (g:Int->Int->V):R2:=fun x y H Q=>∃ i j,x=.int i/\y=.int j/\Q (g i j) H
def rU (g:Int->V):V->Hp->VK->Prop:=fun x H Q=>∃ i,x=.int i/\Q (g i) H
section
variable {X:Cx}{a b c:Expr}{ta tb tc:TE}{pos:Pos}
theorem Jch (ha:PE X a ta)(hb:PE X b tb){pins:List (Addr×Obj)}{s:Shared}{σ:St}{H:Hp}{R:V->V->Hp->Prop}(I:Inv X pins σ H s)
 (h:ta σ H fun x H1=>tb σ H1 fun y H2=>R x y H2) {Q:Value->Shared->Prop} {f:Value->Value->Sem Value}
 (hf:∀ v u s2 x y H2,Inv X pins σ H2 s2->RelV x v->RelV y u->R x y H2->wpAny (model X.prog X.w) X.A (f v u) Q X.xe s2) :
 wpAny (model X.prog X.w) X.A (eval a X.env) (fun v s₁=>wpAny (model X.prog X.w) X.A (eval b X.env) (fun u s₂=>wpAny (model X.prog X.w) X.A (f v u) Q X.xe s₂) X.xe s₁) X.xe s:=by
 refine thn (ha pins s σ H _ I h) fun v s1 ⟨x,H1,I1,r1,q1⟩=>?_;refine thn (hb pins s1 σ H1 _ I1 q1) fun u s2 ⟨y,H2,I2,r2,q2⟩=>?_;exact hf v u s2 x y H2 I2 r1 r2 q2
theorem Jm {op:Operator}{r:R2}(ho:OpR X (binaryOp op) r)(ha:PE X a ta)(hb:PE X b tb):PE X (.BinOp a op b pos) (tOp r ta tb):=by
 intro pins s σ H Q I h;exact wpAny_BinOp (Jch ha hb I h fun v u s2 x y H2 I2 rx ry q=>ho pins s2 σ H2 x y v u Q I2 rx ry q)
theorem J3v {op:UnaryOp}{r:V->Hp->VK->Prop}(ho:UnR X (unaryOp op) r)(ha:PE X a ta):PE X (.UnaryOp op a pos) (tUn r ta):=by
 intro pins s σ H Q I h;exact UnaryOp_ (thn (ha pins s σ H _ I h) fun v s1 ⟨x,H1,I1,r1,q1⟩=>ho pins s1 σ H1 x v Q I1 r1 q1)
theorem opI {f:Value->Value->Sem Value}{C:Int->Int->Prop}{g:Int->Int->Int}
 (rule:∀ (i j:Int) (t u:Tok) (s:Shared) (Q:Value->Shared->Prop) (E:Value->Shared->Prop),C i j->Q (.int (g i j) s.toks) { s with toks:=s.toks+1 }->wpAny (model X.prog X.w) X.A (f (.int i t) (.int j u)) Q E s) :
 OpR X f (rI C fun i j=>.int (g i j)):=by
 intro pins s σ H x y v u Q I rx ry h;obtain ⟨i,j,rfl,rfl,hc,q⟩:=h;obtain ⟨t,rfl⟩:=rx;obtain ⟨t',rfl⟩:=ry;exact rule i j t t' s _ _ hc ⟨.int (g i j),H,I.tok _,⟨_,rfl⟩,q⟩
theorem JcA {f:Value->Value->Sem Value}{g:Int->Int->Int}
 (rule:∀ (i j:Int) (t u:Tok) (s:Shared) (Q:Value->Shared->Prop) (E:Value->Shared->Prop),Q (.int (g i j) s.toks) { s with toks:=s.toks+1 }->wpAny (model X.prog X.w) X.A (f (.int i t) (.int j u)) Q E s) :
 OpR X f (rI0 fun i j=>.int (g i j)):=by
 intro pins s σ H x y v u Q I rx ry h;obtain ⟨i,j,rfl,rfl,q⟩:=h;obtain ⟨t,rfl⟩:=rx;obtain ⟨t',rfl⟩:=ry;exact rule i j t t' s _ _ ⟨.int (g i j),H,I.tok _,⟨_,rfl⟩,q⟩
theorem JbW {f:Value->Value->Sem Value}{g:Int->Int->Bool}
 (rule:∀ (i j:Int) (t u:Tok) (s:Shared) (Q:Value->Shared->Prop) (E:Value->Shared->Prop),Q (.bool (g i j)) s->wpAny (model X.prog X.w) X.A (f (.int i t) (.int j u)) Q E s) :
 OpR X f (rI0 fun i j=>.bl (g i j)):=by
 intro pins s σ H x y v u Q I rx ry h;obtain ⟨i,j,rfl,rfl,q⟩:=h;obtain ⟨t,rfl⟩:=rx;obtain ⟨t',rfl⟩:=ry;exact rule i j t t' s _ _ ⟨.bl (g i j),H,I,rfl,q⟩
def Jdi (i j:Int):Prop:=0<j/\j<1073741824
def Jdh (i j:Int):Prop:=0<=j/\j<=1000000/\i.natAbs<2 ^ 64
def CMul (i j:Int):Prop:=(-(2 ^ 64)<i/\i<2 ^ 64)\/(-(2 ^ 64)<j/\j<2 ^ 64)
theorem CMul.ok {i j:Int}(h:CMul i j):IntMulOk i j:=by
 rcases h with ⟨h1,h2⟩ | ⟨h1,h2⟩
 ·exact .of_left (intBits_le_64 h1 h2)
 ·exact .of_right (intBits_le_64 h1 h2)
theorem JO:OpR X (binaryOp .Add) (rI0 fun i j=>.int (i+j)):=JcA fun _ _ _ _ _ _ _ q=>add_int q
theorem J2K:OpR X (binaryOp .Sub) (rI0 fun i j=>.int (i - j)):=JcA fun _ _ _ _ _ _ _ q=>sub_int q
theorem J0W:OpR X (binaryOp .Mult) (rI CMul fun i j=>.int (i * j)):=opI fun _ _ _ _ _ _ _ hc q=>mul_int q hc.ok
theorem J5J:OpR X (binaryOp .FloorDiv) (rI Jdi fun i j=>.int (i / j)):=opI fun i j _ _ _ _ _ hc q=>by
 have h1:(0:Int)<j:=hc.1;have h2:j<1073741824:=hc.2;exact floordiv_int (by omega) (by rw [Int.fdiv_eq_ediv_of_nonneg i (by omega)];exact q) (.inl (PyProof.noPylong_small (by omega)))
theorem J2L:OpR X (binaryOp .Mod) (rI (fun _ j=>0<j) fun i j=>.int (i % j)):=opI fun i j _ _ _ _ _ hc q=>by
 have h1:(0:Int)<j:=hc;exact mod_int' (by omega) (by rw [Int.fmod_eq_emod_of_nonneg i (by omega)];exact q)
theorem JbS:OpR X (binaryOp .Pow) (rI Jdh fun i j=>.int (i ^ j.toNat)):=opI fun _ _ _ _ _ _ _ hc q=>pow_int_small hc.1 hc.2.1 hc.2.2 q
theorem unI {f:Value->Sem Value}{g:Int->Int}
 (rule:∀ (i:Int) (t:Tok) (s:Shared) (Q:Value->Shared->Prop) (E:Value->Shared->Prop),Q (.int (g i) s.toks) { s with toks:=s.toks+1 }->wpAny (model X.prog X.w) X.A (f (.int i t)) Q E s) :
 UnR X f (rU fun i=>.int (g i)):=by
 intro pins s σ H x v Q I rx h;obtain ⟨i,rfl,q⟩:=h;obtain ⟨t,rfl⟩:=rx;exact rule i t s _ _ ⟨.int (g i),H,I.tok _,⟨_,rfl⟩,q⟩
theorem J23:UnR X (unaryOp .USub) (rU fun i=>.int (-i)):=unI fun _ _ _ _ _ q=>neg_int q
end
def J9q:V->V->Bool
 | .non,.non=>true | .non,.int _=>true | .int _,.non=>true | .non,.bl _=>true | .bl _,.non=>true | .non,.str _=>true | .str _,.non=>true
 | .int _,.int _=>true | .bl _,.bl _=>true | .str _,.str _=>true | .byt _,.byt _=>true
 | .int _,.str _=>true | .str _,.int _=>true | .bl _,.str _=>true | .str _,.bl _=>true
 | _,_=>false
def rEq:R2:=fun x y H Q=>J9q x y=true/\Q (.bl (decide (x=y))) H
def rNe:R2:=fun x y H Q=>J9q x y=true/\Q (.bl (!decide (x=y))) H
theorem J8l {i j:Int}:decide (V.int i=V.int j)=(i == j):=by
 rw [Bool.eq_iff_iff];simp
theorem Jak {i j:Bool}:decide (V.bl i=V.bl j)=(i == j):=by
 rw [Bool.eq_iff_iff];simp
theorem J8k {i j:Str}:decide (V.str i=V.str j)=(i == j):=by
 rw [Bool.eq_iff_iff];simp
theorem J8m {i j:Array UInt8}:decide (V.byt i=V.byt j)=(i.toList == j.toList):=by
 rw [Bool.eq_iff_iff];cases i;cases j;simp
section
variable {X:Cx}{a b c:Expr}{ta tb tc:TE}{pos:Pos}
theorem JE {pins:List (Addr×Obj)}{σ:St}{H:Hp}{s:Shared}{Q:VK}{k k':Bool}(I:Inv X pins σ H s)(q:Q (.bl k) H)(e:k=k'):EP X pins σ Q (.bool k') s:=by
 subst e;exact ⟨.bl k,H,I,rfl,q⟩
theorem J0E:OpR X (compareOp .Eq) rEq:=by
 intro pins s σ H x y v u Q I rx ry h;obtain ⟨hs,q⟩:=h;cases x with
 | non =>
   cases rx;cases y with
   | non=>cases ry;exact PySem.EqNone.eq_none_none (JE I q (by simp))
   | bl j=>cases ry;exact PySem.EqNone.eq_none_bool (JE I q (by simp))
   | int j=>obtain ⟨t',rfl⟩:=ry;exact PySem.EqNone.eq_none_int (JE I q (by simp))
   | str j=>obtain ⟨t',rfl⟩:=ry;exact PySem.EqNone.eq_none_str (JE I q (by simp))
   | _=>exact absurd (show false=true from hs) yK
 | bl i =>
   cases rx;cases y with
   | non=>cases ry;exact PySem.EqNone.eq_bool_none (JE I q (by simp))
   | bl j=>cases ry;exact eq_bool (JE I q Jak)
   | str j=>obtain ⟨t',rfl⟩:=ry;exact PySem.EqMixed.eq_bool_str (JE I q (by simp))
   | _=>exact absurd (show false=true from hs) yK
 | int i =>
   obtain ⟨t,rfl⟩:=rx;cases y with
   | non=>cases ry;exact PySem.EqNone.eq_int_none (JE I q (by simp))
   | int j=>obtain ⟨t',rfl⟩:=ry;exact eq_int (JE I q J8l)
   | str j=>obtain ⟨t',rfl⟩:=ry;exact PySem.EqMixed.eq_int_str (JE I q (by simp))
   | _=>exact absurd (show false=true from hs) yK
 | str i =>
   obtain ⟨t,rfl⟩:=rx;cases y with
   | non=>cases ry;exact PySem.EqNone.eq_str_none (JE I q (by simp))
   | bl j=>cases ry;exact PySem.EqMixed.eq_str_bool (JE I q (by simp))
   | int j=>obtain ⟨t',rfl⟩:=ry;exact PySem.EqMixed.eq_str_int (JE I q (by simp))
   | str j=>obtain ⟨t',rfl⟩:=ry;exact eq_str (JE I q J8k)
   | _=>exact absurd (show false=true from hs) yK
 | byt i =>
   obtain ⟨t,rfl⟩:=rx;cases y with
   | byt j=>obtain ⟨t',rfl⟩:=ry;exact PySem.W.eq_bytes (JE I q J8m)
   | _=>exact absurd (show false=true from hs) yK
 | _=>cases y<;>exact absurd (show false=true from hs) yK
theorem J3x:OpR X (compareOp .NotEq) rNe:=by
 intro pins s σ H x y v u Q I rx ry h;obtain ⟨hs,q⟩:=h;cases x with
 | non =>
   cases rx;cases y with
   | non=>cases ry;exact PySem.EqNone.ne_none_none (JE I q (by simp))
   | bl j=>cases ry;exact PySem.EqNone.ne_none_bool (JE I q (by simp))
   | int j=>obtain ⟨t',rfl⟩:=ry;exact PySem.EqNone.ne_none_int (JE I q (by simp))
   | str j=>obtain ⟨t',rfl⟩:=ry;exact PySem.EqNone.ne_none_str (JE I q (by simp))
   | _=>exact absurd (show false=true from hs) yK
 | bl i =>
   cases rx;cases y with
   | non=>cases ry;exact PySem.EqNone.ne_bool_none (JE I q (by simp))
   | bl j=>cases ry;exact ne_bool (JE I q (congrArg not Jak))
   | str j=>obtain ⟨t',rfl⟩:=ry;exact PySem.EqMixed.ne_bool_str (JE I q (by simp))
   | _=>exact absurd (show false=true from hs) yK
 | int i =>
   obtain ⟨t,rfl⟩:=rx;cases y with
   | non=>cases ry;exact PySem.EqNone.ne_int_none (JE I q (by simp))
   | int j=>obtain ⟨t',rfl⟩:=ry;exact ne_int (JE I q (congrArg not J8l))
   | str j=>obtain ⟨t',rfl⟩:=ry;exact PySem.EqMixed.ne_int_str (JE I q (by simp))
   | _=>exact absurd (show false=true from hs) yK
 | str i =>
   obtain ⟨t,rfl⟩:=rx;cases y with
   | non=>cases ry;exact PySem.EqNone.ne_str_none (JE I q (by simp))
   | bl j=>cases ry;exact PySem.EqMixed.ne_str_bool (JE I q (by simp))
   | int j=>obtain ⟨t',rfl⟩:=ry;exact PySem.EqMixed.ne_str_int (JE I q (by simp))
   | str j=>obtain ⟨t',rfl⟩:=ry;exact ne_str (JE I q (congrArg not J8k))
   | _=>exact absurd (show false=true from hs) yK
 | byt i =>
   obtain ⟨t,rfl⟩:=rx;cases y with
   | byt j=>obtain ⟨t',rfl⟩:=ry;exact PySem.W.ne_bytes (JE I q (congrArg not J8m))
   | _=>exact absurd (show false=true from hs) yK
 | _=>cases y<;>exact absurd (show false=true from hs) yK
theorem J4m:OpR X (compareOp .Lt) (rI0 fun i j=>.bl (decide (i<j))):=JbW fun _ _ _ _ _ _ _ q=>lt_int q
theorem J30:OpR X (compareOp .Gt) (rI0 fun i j=>.bl (decide (j<i))):=JbW fun _ _ _ _ _ _ _ q=>gt_int q
theorem Jcz:OpR X (compareOp .GtE) (rI0 fun i j=>.bl (decide (j<=i))):=JbW fun _ _ _ _ _ _ _ q=>ge_int q
theorem Jo (b:Expr){op:CmpOp}(h:op≠.In:=by decide)(h2:op≠.NotIn:=by decide):behindInMarks op b=false:=by
 have e1:(op == CmpOp.In)=false:=by cases op<;>first | rfl | exact absurd rfl h
 have e2:(op == CmpOp.NotIn)=false:=by cases op<;>first | rfl | exact absurd rfl h2
 cases b<;>simp [behindInMarks,e1,e2]
theorem J5I {op:CmpOp}{r:R2}(ho:OpR X (compareOp op) r)(ha:PE X a ta)(hb:PE X b tb)(hm:behindInMarks op b=false):PE X (.Compare a [op] [b] pos) (tOp r ta tb):=by
 intro pins s σ H Q I h;exact wpAny_Compare1 (Jch ha hb I h fun v u s2 x y H2 I2 rx ry q=>ho pins s2 σ H2 x y v u Q I2 rx ry q) hm
def J98 (t:TE):TT:=fun σ H Q=>t σ H fun x H'=>∃ k,x=.bl k/\Q k H'
theorem Jj {op:CmpOp}{r:R2}(ho:OpR X (compareOp op) r)(ha:PE X a ta)(hb:PE X b tb)(hm:behindInMarks op b=false):PT X (.Compare a [op] [b] pos) (J98 (tOp r ta tb)):=by
 intro pins s σ H Q I h;refine wpAny_isTrue_Compare1 (thn (ha pins s σ H _ I h) fun v s1 ⟨x,H1,I1,r1,q1⟩=>thn (hb pins s1 σ H1 _ I1 q1) fun u s2 ⟨y,H2,I2,r2,q2⟩ =>
  thn (ho pins s2 σ H2 x y v u _ I2 r1 r2 q2) fun c s3 ⟨z,H3,I3,r3,k,e,q3⟩=>?_) hm
 subst e;cases r3;exact wpAny_truthy_bool ⟨H3,I3,q3⟩
def JcU (r r':R2)(ta tb tc:TE):TE:=fun σ H Q=>ta σ H fun x H1=>tb σ H1 fun y H2=>r x y H2 fun z H3=>∃ k,z=.bl k /\
 (if k=true then tc σ H3 fun w' H4=>r' y w' H4 Q else Q (.bl false) H3)
def Jcj (K:Frag)(x:V)(H:Hp)(k:Bool):Prop :=
 match x with
 | .non=>k=false
 | .bl b=>k=b
 | .int i=>k=(i != 0)
 | .str y=>y.length<=sizeLine/\k=((y.length:Int) != 0)
 | .byt y=>y.size<=sizeLine/\k=((y.size:Int) != 0)
 | .ref p=>(∃ xs,SqL K H p xs/\k = !xs.isEmpty)\/(∃ xs,SqT K H p xs/\k = !xs.isEmpty)\/∃ kvs,H p=some (.dK kvs)/\k = !kvs.isEmpty
 | _=>False
theorem J7r {κ:Type}{kvs:List (κ×V)}{vs:List (κ×Value)}(r:KV kvs vs):(!vs.isEmpty) = !kvs.isEmpty:=by
 cases r<;>rfl
theorem J4x {xs:List V}{its:List Value}(r:Vals xs its):(!its.toArray.isEmpty) = !xs.isEmpty:=by
 cases r<;>simp
theorem J3l:(sizeLine:Nat)<2 ^ 63:=by rw [sizeLine_eq];decide
theorem Jbv:Jda X (fun x H Q=>∃ k,Jcj X.K x H k/\Q k H):=by
 intro pins s σ H x v Q I rx h;obtain ⟨k,e,q⟩:=h;have hl:=J3l;have hs:sizeLine=16777216:=sizeLine_eq;cases x with
 | non =>
   cases rx;have e':k=false:=e;subst e';exact truthy_none ⟨H,I,q⟩
 | bl b =>
   cases rx;have e':k=b:=e;subst e';exact wpAny_truthy_bool ⟨H,I,q⟩
 | int i =>
   obtain ⟨t,rfl⟩:=rx;have e':k=(i != 0):=e;subst e';exact PySem.P.truthy_int ⟨H,I,q⟩
 | str y =>
   obtain ⟨t,rfl⟩:=rx;obtain ⟨hy,e'⟩:y.length<=sizeLine/\k=((y.length:Int) != 0):=e;subst e';exact PySem.P.truthy_str (by omega) ⟨H,I.tok _,q⟩
 | byt y =>
   obtain ⟨t,rfl⟩:=rx;obtain ⟨hy,e'⟩:y.size<=sizeLine/\k=((y.size:Int) != 0):=e;subst e';exact PySem.W.truthy_bytes (by omega) ⟨H,I.tok _,q⟩
 | ref p =>
   cases rx;have e':(∃ xs,SqL X.K H p xs/\k = !xs.isEmpty)\/(∃ xs,SqT X.K H p xs/\k = !xs.isEmpty)\/∃ kvs,H p=some (.dK kvs)/\k = !kvs.isEmpty:=e;rcases e' with ⟨xs,hx,e'⟩ | ⟨xs,hx,e'⟩ | ⟨kvs,hx,e'⟩
   ·subst e'
    obtain ⟨its,r,pl,hz⟩:=I.list hx;have J05:=r.length;exact wpAny_truthy_list pl.isList (by simp only [yY];omega) ⟨H,I.tok _,by rw [J4x r];exact q⟩
   ·subst e'
    obtain ⟨its,r,pl,hz⟩:=I.tuple hx;have J05:=r.length;exact truthy_tuple pl (by simp only [yY];omega) ⟨H,I.tok _,by rw [J4x r];exact q⟩
   ·subst e'
    obtain ⟨hz,hS,vs,r,m⟩:kvs.length<=sizeLine/\(p == sysModules)=false/\∃ vs,KV kvs vs/\s.heap.DictOf (J09 X.prog X.w) p vs:=I.hok p _ hx;have J05:kvs.length=vs.length:=Paired.length r;exact wpAny_truthy_dict hS m (by omega) ⟨H,I.tok _,by rw [J7r r];exact q⟩
 | _=>exact (show False from e).elim
theorem J1F (ha:PE X a ta)(he:∀ whole,isTrue a X.env whole=(do let v <- whole;standAt a.pos;holding [v] (truthy v))) :
 PT X a (fun σ H Q=>ta σ H fun x H'=>∃ k,Jcj X.K x H' k/\Q k H'):=by
 intro pins s σ H Q I h;exact isTrue_plain (thn (ha pins s σ H _ I h) fun v s1 ⟨x,H1,I1,r1,q1⟩=>Jbv pins s1 σ H1 x v Q I1 r1 q1) (he _)
theorem J1C {x:V}{us:List Value}(r:Vals [x] us):∃ u,us=[u]/\RelV x u:=by
 cases r with
 | cons r1 r2=>cases r2;exact ⟨_,rfl,r1⟩
theorem J50 {x y:V}{us:List Value}(r:Vals [x,y] us):∃ u w',us=[u,w']/\RelV x u/\RelV y w':=by
 cases r with
 | cons r1 r2 =>
   cases r2 with
   | cons r3 r4=>cases r4;exact ⟨_,_,rfl,r1,r3⟩
theorem J8W (hc:X.calm=true):J0i X (.builtin "min") (fun xs H Q=>∃ i j,xs=[.int i,.int j]/\Q (.int (if j<i then j else i)) H):=by
 intro pins s σ H xs us Q I r h;obtain ⟨i,j,rfl,q⟩:=h;obtain ⟨u,w',rfl,⟨t,rfl⟩,⟨t',rfl⟩⟩:=J50 r;refine min_two_ints (I.ok.hd hc) fun h' tk k=>⟨_,H,I.kept k,?_,q⟩;by_cases hj:j<i
 ·rw [yI hj,yI hj];exact ⟨_,rfl⟩
 ·rw [yH hj,yH hj];exact ⟨_,rfl⟩
theorem J8Y:J0i X (.type "int") (fun xs H Q=>(∃ i,xs=[.int i]/\Q (.int i) H)\/∃ k,xs=[.bl k]/\Q (.int (if k then 1 else 0)) H):=by
 intro pins s σ H xs us Q I r h;rcases h with ⟨i,rfl,q⟩ | ⟨k,rfl,q⟩
 ·obtain ⟨u,rfl,t,rfl⟩:=J1C r
  exact call_int_int ⟨.int i,H,I,⟨_,rfl⟩,q⟩
 ·obtain ⟨u,rfl,r1⟩:=J1C r
  cases r1;exact call_int_bool ⟨.int (if k then 1 else 0),H,I.tok _,⟨_,rfl⟩,q⟩
def Jdg (K:Frag)(x:V)(H:Hp)(n:Nat):Prop :=
 match x with
 | .str y=>y.length<=sizeLine/\n=y.length
 | .byt y=>y.size<=sizeLine/\n=y.size
 | .ref p=>(∃ xs,SqL K H p xs/\n=xs.length)\/∃ xs,SqT K H p xs/\n=xs.length
 | _=>False
end
structure ObjM (h:Heap)(x dx C:Addr)(mA:Str->Option Value):Prop where
 obj:h.get? x=some (PySem.W.instObj C dx)
 ns:h.Ns1 dx mA
 ne:dx≠x
theorem J59 {h:Heap}{dx:Addr}{mA:Str->Option Value}(n:h.Ns1 dx mA):∃ od,h.get? dx=some od/\∀ name,PySem.W.lookIn name od=some (mA name):=by
 obtain ⟨o,es,ep,ho,hd,hk,_,hm⟩:=n;refine ⟨o,ho,fun name=>?_⟩;have e:=hm name;unfold nsFind findBy at e;rw [<- Array.find?_toList] at e;unfold PySem.W.lookIn;rw [hd];dsimp only
 split
 ·rename_i y q
  rw [q] at e;exact congrArg some e
 ·rename_i q
  rw [q] at e;have a:es.toList.any (·.refKey)=false:=by
   rw [any_eq_false];intro y hy;obtain ⟨z,t,hkey⟩:=hk y (Array.mem_toList_iff.mp hy);simp [DictEntry.refKey,hkey]
  have a':¬ es.toList.any (·.refKey)=true:=by rw [a];exact yK
  rw [yH a'];exact congrArg some e
theorem ObjM.look {h:Heap}{x dx C:Addr}{mA:Str->Option Value}(I:ObjM h x dx C mA):∃ od,PySem.W.InstAt h x (PySem.W.instObj C dx) C (some od)/\∀ name,PySem.W.lookIn name od=some (mA name) :=
 let ⟨od,ho,hl⟩:=J59 I.ns
 ⟨od,⟨I.obj,rfl,rfl,ho⟩,hl⟩
section
variable {prog:Program}{w:World}{A:Around}{E:Value->Shared->Prop}{s:Shared}{K:Frag}{x dx C f:Addr}{mA:Str->Option Value}{name:Str}{v:Value}
theorem Jb6 {expr:Bool}{Q:Value->Shared->Prop}(X:K.In s.heap)(I:ObjM s.heap x dx C mA)(hg:PySem.W.plainGet K C name=true)(hh:PySem.W.hasDictIn K C=true)
 (ha:findIn K (.ref C) name=some none) (hv:mA name=some v) (hv':PySem.W.handedIn v=true) (h:Q v { s with toks:=s.toks+1 }) :
 wpAny (model prog w) A (getAttr (.ref x) name expr) Q E s:=by
 obtain ⟨od,J,hl⟩:=I.look;exact PySem.W.get_value X J (PySem.W.plainGet_of hg).1 (PySem.W.findObj_own hh ha rfl (by rw [hl,hv])) hv' h
theorem Jaa {pl:Sem Bool}{Q:Value×List Value->Shared->Prop}(X:K.In s.heap)(I:ObjM s.heap x dx C mA)(hg:PySem.W.plainGet K C name=true)
 (hf:findIn K (.ref C) name=some (some (.ref f))) (ht:PySem.W.isFn K (.ref f)=true) (hv:mA name=none) (h:Q (.ref f,[.ref x]) s) :
 wpAny (model prog w) A (getMethod (.ref x) name pl) Q E s:=by
 obtain ⟨od,J,hl⟩:=I.look;exact PySem.W.method_fn X J (PySem.W.plainGet_of hg).1 (PySem.W.plainGet_of hg).2 hf (beq_iff_eq.mp ht) (by show (PySem.W.lookIn name od).map (·.isSome)=some false;rw [hl,hv];rfl) h
theorem JaG {ns:List Str}{Q:Unit->Shared->Prop}(X:K.In s.heap)(I:ObjM s.heap x dx C mA)
 (hs:findIn K (.ref C) "__setattr__"=some (some (.builtin "object.__setattr__"))) (hp:PySem.W.plainOver K C=true) (ht:PySem.W.takerIn K C name=some none) (hh:PySem.W.hasDictIn K C=true)
 (hw:PySem.Within mA ns) (hsz:ns.length<=sizeLine)
 (h:∀ h',ObjM h' x dx C (fun y=>if y=name then some v else mA y)->Heap.SameBut dx s.heap h'->Q () { s with heap:=h',toks:=s.toks+2 }) :
 wpAny (model prog w) A (setAttr (.ref x) name v) Q E s:=by
 obtain ⟨od,J,hl⟩:=I.look;refine PySem.W.set_plain X J hs (PySem.W.osa_open (s:={ s with toks:=s.toks+1 }) (r:=none) X J hp ht fun b=>?_);obtain ⟨cd,hc,hd'⟩:=PySem.W.any_some hh;have hx:s.heap.get? x=some ⟨.ref C,some dx,.plain,#[]⟩:=I.obj;refine yF (yG (yF (yF (wpAny_loadPart hx (yF (PySem.W.Looks.here (s:={ s with toks:=s.toks+1 }) (PySem.W.looks_clsIn X hc) ?_))))));rw [hd'];refine yG (a:=some dx) (yF (yG (yF ?_)));refine wpAny_nsSet1 (s:={ s with toks:=s.toks+1 }) I.ns fun h' hn2 hs2=>?_;obtain ⟨oD,esD,epD,hoD,hdD,hcD⟩:=hn2.count (PySem.Within.cons name v hw);refine yF (wpAny_lookBehind hoD (by rw [hdD];exact pastItsLine_dict (yR hcD (by rw [length_cons];omega))) ?_);exact yG (h _ ⟨(hs2.2 _ (Ne.symm I.ne)).trans I.obj,hn2,I.ne⟩ hs2)
theorem J9Z {R:Result->Shared->Prop}{vs:List Value}{kw:List (Str×Value)}(X:K.In s.heap)(hm:PySem.W.makesIn K C=true)
 (hi:findIn K (.ref C) "__init__"=some (some (.ref f))) (hf:PySem.W.typeIn K (.ref f)=some (.type "function"))
 (h:codeAny (model prog w) (A.under (.builtin "type.__call__" ⟨.ref C::vs,kw⟩)) (.call (.ref f) ⟨.ref (s.heap.objs.size+1)::vs,kw⟩) (PySem.W.InitBack (s.heap.objs.size+1) R)
  { s with heap:=(s.heap.push PySem.W.emptyDict).push (PySem.W.instObj C s.heap.objs.size) }) :
 codeAny (model prog w) A (.call (.ref C) ⟨vs,kw⟩) R s:=by
 obtain ⟨hh,g,d,t,os⟩:=s;exact PySem.W.make_core (PySem.W.makes_of X hm) (PySem.W.looks_findIn X hi) (fun self=>PySem.W.bind_fn X self hf) (.inl rfl) h
end
def J1q (f:Str)(v:V):List (Str×V)->List (Str×V)
 | []=>[(f,v)]
 | (g,x)::r=>if g=f then (g,v)::r else (g,x)::J1q f v r
theorem lookup_putF (f g:Str)(v:V):∀ fs:List (Str×V),(J1q f v fs).lookup g=if g=f then some v else fs.lookup g
 | []=>by
   show List.lookup g [(f,v)]=_;by_cases h:g=f
   ·have hb:(g == f)=true:=beq_iff_eq.mpr h
    simp only [List.lookup,hb,yI h]
   ·have hb:(g == f)=false:=beq_eq_false_iff_ne.mpr h
    simp only [List.lookup,hb,yH h]
 | (k,x)::r=>by
   have ih:=lookup_putF f g v r;rw [show J1q f v ((k,x)::r)=(if k=f then (k,v)::r else (k,x)::J1q f v r) from rfl];by_cases hk:k=f
   ·rw [yI hk]
    by_cases h:g=k
    ·have hb:(g == k)=true:=beq_iff_eq.mpr h
     simp only [List.lookup,hb,yI (h.trans hk)]
    ·have hb:(g == k)=false:=beq_eq_false_iff_ne.mpr h
     simp only [List.lookup,hb,yH (fun e:g=f=>h (e.trans hk.symm))]
   ·rw [yH hk]
    by_cases h:g=k
    ·have hb:(g == k)=true:=beq_iff_eq.mpr h
     simp only [List.lookup,hb,yH (fun e:g=f=>hk (h.symm.trans e))]
    ·have hb:(g == k)=false:=beq_eq_false_iff_ne.mpr h
     simp only [List.lookup,hb];exact ih
theorem keys_putF (f:Str)(v:V):∀ fs:List (Str×V),f∈(J1q f v fs).map (·.1)/\∀ g,g∈fs.map (·.1)->g∈(J1q f v fs).map (·.1)
 | []=>⟨by simp [J1q],fun g h=>by simp at h⟩
 | (k,x)::r=>by
   obtain ⟨i1,i2⟩:=keys_putF f v r;rw [show J1q f v ((k,x)::r)=(if k=f then (k,v)::r else (k,x)::J1q f v r) from rfl];by_cases hk:k=f
   ·rw [yI hk]
    subst hk;exact ⟨by simp,fun g h=>by simpa using h⟩
   ·rw [yH hk]
    refine ⟨?_,fun g h=>?_⟩
    ·rw [zd]
     exact y8 _ i1
    ·rw [zd] at h ⊢
     rcases zc.mp h with e | e
     ·exact zc.mpr (.inl e)
     ·exact y8 _ (i2 g e)
theorem J3z (f:Str)(v:V):∀ fs:List (Str×V),(J1q f v fs).length<=fs.length+1
 | []=>by simp [J1q]
 | (k,x)::r=>by
   have ih:=J3z f v r;rw [show J1q f v ((k,x)::r)=(if k=f then (k,v)::r else (k,x)::J1q f v r) from rfl];by_cases hk:k=f
   ·rw [yI hk,length_cons,length_cons];omega
   ·rw [yH hk,length_cons,length_cons];omega
theorem RelO.some_of {v:V}{o:Option Value}(r:RelO (some v) o):∃ u,o=some u/\RelV v u:=by
 cases o with
 | none=>exact (show False from r).elim
 | some u=>exact ⟨u,rfl,r⟩
theorem RelO.none_of {o:Option Value}(r:RelO none o):o=none:=by
 cases o with
 | none=>rfl
 | some u=>exact (show False from r).elim
theorem J8P {v:V}{u:Value}(r:RelV v u):PySem.W.handedIn u=true:=by
 cases v with
 | non=>cases (show u=Value.none from r);rfl
 | bl b=>cases (show u=Value.bool b from r);rfl
 | int i=>obtain ⟨t,e⟩:=(show ∃ t,u=Value.int i t from r);cases e;rfl
 | str x=>obtain ⟨t,e⟩:=(show ∃ t,u=Value.str x t from r);cases e;rfl
 | byt b=>obtain ⟨t,e⟩:=(show ∃ t,u=Value.bytes b t from r);cases e;rfl
 | flt b=>obtain ⟨t,e⟩:=(show ∃ t,u=Value.float b t from r);cases e;rfl
 | ref a=>cases (show u=Value.ref a from r);rfl
 | ty n=>cases (show u=Value.type n from r);rfl
section
variable {P:Program}{w:World}{H H':Hp}{h h':Heap}{a C dx:Addr}{fs fs':List (Str×V)}
theorem J5U (hok:HOk P w H h)(e:H a=some (.ins C dx fs)):∃ mA,ObjM h a dx C mA/\(∀ f,RelO (fs.lookup f) (mA f))/\PySem.Within mA (fs.map (·.1))/\fs.length<=1000/\H dx=some (.own a):=by
 obtain ⟨d,z,ne,ob,mA,n,r,q⟩:=(show ObjOk P w H h a (.ins C dx fs) from hok a _ e);exact ⟨mA,⟨ob,n,ne⟩,r,q,z,d⟩
end
structure Cls (K:Frag)(C:Addr):Prop where
 pg:PySem.W.plainGet K C Str.empty=true
 hd:PySem.W.hasDictIn K C=true
 po:PySem.W.plainOver K C=true
 sa:findIn K (.ref C) "__setattr__"=some (some (.builtin "object.__setattr__"))
theorem Cls.get {K:Frag}{C:Addr}(c:Cls K C)(f:Str):PySem.W.plainGet K C f=true:=c.pg
def NoAttr (K:Frag)(C:Addr)(f:Str):Prop:=findIn K (.ref C) f=some none
theorem NoAttr.taker {K:Frag}{C:Addr}{f:Str}(n:NoAttr K C f):PySem.W.takerIn K C f=some none:=by
 unfold PySem.W.takerIn;rw [show findIn K (.ref C) f=some none from n];rfl
structure Meth (K:Frag)(C:Addr)(m:Str)(f:Addr):Prop where
 at_:findIn K (.ref C) m=some (some (.ref f))
 fn:PySem.W.isFn K (.ref f)=true
 kp:PySem.W.keepIn K (.ref f)=true
section
variable {X:Cx}{pins:List (Addr×Obj)}{σ:St}{H:Hp}{s:Shared}{a C dx:Addr}{fs:List (Str×V)}{f:Str}{v:V}{A:Around}{E:Value->Shared->Prop}
theorem J7w {b:Bool}{Q:Value->Shared->Prop}(I:Inv X pins σ H s)(e:H a=some (.ins C dx fs))(c:Cls X.K C)(n:NoAttr X.K C f)(l:fs.lookup f=some v)
 (h:∀ u s',Inv X pins σ H s'->RelV v u->Q u s'):wpAny (model X.prog X.w) A (getAttr (.ref a) f b) Q E s:=by
 obtain ⟨mA,O,r,_,_,_⟩:=J5U I.hok e;obtain ⟨u,hu,ru⟩:=RelO.some_of (v:=v) (o:=mA f) (by rw [<- l];exact r f);exact Jb6 I.kIn O (c.get f) c.hd n hu (J8P ru) (h u _ (I.tok _) ru)
theorem J7v {m:Str}{g:Addr}{pl:Sem Bool}{Q:Value×List Value->Shared->Prop}(I:Inv X pins σ H s)(e:H a=some (.ins C dx fs))(c:Cls X.K C)(k:Meth X.K C m g)(l:fs.lookup m=none)
 (h:Q (.ref g,[.ref a]) s):wpAny (model X.prog X.w) A (getMethod (.ref a) m pl) Q E s:=by
 obtain ⟨mA,O,r,_,_,_⟩:=J5U I.hok e;have hn:mA m=none:=RelO.none_of (by rw [<- l];exact r m);exact Jaa I.kIn O (c.get m) k.at_ k.fn hn h
theorem J7e {y:V}{u:Value}{Q:Unit->Shared->Prop}(I:Inv X pins σ H s)(e:H a=some (.ins C dx fs))(c:Cls X.K C)(n:NoAttr X.K C f)(hl:fs.length<1000)(ry:RelV y u)
 (h:∀ s',Inv X pins σ (upd H a (.ins C dx (J1q f y fs))) s'->Q () s'):wpAny (model X.prog X.w) A (setAttr (.ref a) f u) Q E s:=by
 obtain ⟨mA,O,r,wi,_,ho⟩:=J5U I.hok e;have hz:(fs.map (·.1)).length<=sizeLine:=by rw [yW,sizeLine_eq];omega
 refine JaG I.kIn O c.sa c.po n.taker c.hd wi hz fun h' O' sb=>h _ ?_;have hd:∃ o,h'.get? dx=some o:=let ⟨o,_,_,e',_⟩:=O'.ns;⟨o,e'⟩;refine I.write (x:=a) (e:=dx) (by rw [e];exact True.intro) (.inr ho) (fun b q hb z=>(sb.2 b hb).trans z) hd ?_;refine ⟨by rw [Jf O.ne];exact ho,?_,O.ne,O'.obj,_,O'.ns,fun g=>?_,fun g hg=>?_⟩
 ·have:=J3z f y fs;omega
 ·show RelO ((J1q f y fs).lookup g) (if g=f then some u else mA g)
  rw [lookup_putF];by_cases q:g=f
  ·rw [yI q,yI q];exact ry
  ·rw [yH q,yH q];exact r g
 ·by_cases q:g=f
  ·rw [q];exact (keys_putF f y fs).1
  ·refine (keys_putF f y fs).2 g (wi g fun z=>hg ?_)
   show (if g=f then some u else mA g)=none;rw [yH q];exact z
theorem Inv.made (I:Inv X pins σ H s):Inv X pins σ (upd (upd H s.heap.objs.size (.own (s.heap.objs.size+1))) (s.heap.objs.size+1) (.ins C s.heap.objs.size []))
 { s with heap:=(s.heap.push PySem.W.emptyDict).push (PySem.W.instObj C s.heap.objs.size) }:=by
 have e1:(s.heap.push PySem.W.emptyDict).get? s.heap.objs.size=some PySem.W.emptyDict:=zt s.heap rfl;have e2:((s.heap.push PySem.W.emptyDict).push (PySem.W.instObj C s.heap.objs.size)).get? (s.heap.objs.size+1)=some (PySem.W.instObj C s.heap.objs.size):=by
  have:=zt (s.heap.push PySem.W.emptyDict) (o:=PySem.W.instObj C s.heap.objs.size) rfl;rwa [Heap.size_push] at this
 have e3:(s.heap.push PySem.W.emptyDict).Ns s.heap.objs.size (fun _=>none):=⟨PySem.W.emptyDict,#[],_,e1,rfl,(fun e he=>absurd he (by simp)),fun _=>rfl⟩;have I1:=I.laid (a:=s.heap.objs.size) (o:=.own (s.heap.objs.size+1)) (h':=s.heap.push PySem.W.emptyDict) (t':=s.toks) (fun b u q=>zr _ q) (yJ _) ⟨_,e1⟩;refine I1.laid (a:=s.heap.objs.size+1) (o:=.ins C s.heap.objs.size []) (t':=s.toks) (fun b u q=>zr _ q) (Nat.le_of_eq (Heap.size_push _ _)) ?_;have ne:s.heap.objs.size≠s.heap.objs.size+1:=yO (Nat.lt_succ_self _);refine ⟨by rw [Jf ne,Ja],yQ _,ne,e2,fun _=>none,(Heap.Ns1.of_empty e3).at fun o q=>zr _ q,fun _=>True.intro,fun y hy=>absurd rfl hy⟩
theorem Jbb {prog:Program}{w:World}{env:Env}{e:Expr}{f:Str}{pos:Pos}{s:Shared}{Q:Value->Shared->Prop}(hb:attributeBase e f env (eval e env)=eval e env)
 (h:wpAny (model prog w) A (eval e env) (fun o s₁=>wpAny (model prog w) A (getAttr o f true) Q E s₁) E s):wpAny (model prog w) A (eval (.Attribute e f pos) env) Q E s :=
 Attribute_any_ h (by rw [arm_eval_Attribute,hb])
end
def Jbz (K:Frag)(ta:TE)(f:Str):TE:=fun σ H Q=>ta σ H fun x H1=>∃ a C dx fs v,x=.ref a/\H1 a=some (.ins C dx fs)/\Cls K C/\NoAttr K C f/\fs.lookup f=some v/\Q v H1
def JbF (K:Frag)(ta tv:TE)(f:Str):TS:=fun D σ H=>tv σ H fun y H1=>ta σ H1 fun x H2=>∃ a C dx fs,x=.ref a/\H2 a=some (.ins C dx fs)/\Cls K C/\NoAttr K C f/\fs.length<1000 /\
 D.nx σ (upd H2 a (.ins C dx (J1q f y fs)))
section
variable {X:Cx}{o e value:Expr}{f:Str}{pos pos' tpos:Pos}{ta tv:TE}
theorem J1U (he:PE X e ta)(hb:attributeBase e f X.env (eval e X.env)=eval e X.env):PE X (.Attribute e f pos) (Jbz X.K ta f):=by
 intro pins s σ H Q I h;refine Jbb hb (thn (he pins s σ H _ I h) fun u s1 ⟨x,H1,I1,rx,a,C,dx,fs,v,ex,ea,c,n,l,q⟩=>?_);subst ex;obtain rfl:u=Value.ref a:=rx;exact J7w I1 ea c n l fun u' s2 I2 ru=>⟨v,H1,I2,ru,q⟩
theorem J7i (ha:PE X o ta)(hv:PE X value tv)(hs:swapsWith value (some (.Attribute o f pos')) pos.line X.env=pure false):PS X (.Assign [.Attribute o f pos'] value pos) (JbF X.K ta tv f):=by
 intro pins s σ H D I h;refine plainObj_wpAny_Assign_Attribute (thn (hv pins s σ H _ I h) fun u s1 ⟨y,H1,I1,ry,q⟩=>thn (ha pins s1 σ H1 _ I1 q) fun ov s2 ⟨x,H2,I2,rx,a,C,dx,fs,ex,ea,c,n,l,q2⟩=>?_) hs;subst ex;obtain rfl:ov=Value.ref a:=rx;exact J7e I2 ea c n l ry fun s3 I3=>⟨σ,_,I3,q2⟩
end
section
variable {X:Cx}{pins:List (Addr×Obj)}{σ:St}{H:Hp}{s:Shared}{A:Around}{E:Value->Shared->Prop}{Q:Value->Shared->Prop}{c:Value}{b:Bool}
inductive TyOf (K:Frag)(H:Hp):V->Value->Prop where
 | non:TyOf K H .non (.type "NoneType")
 | bl (x:Bool):TyOf K H (.bl x) (.type "bool")
 | int (i:Int):TyOf K H (.int i) (.type "int")
 | str (x:Str):TyOf K H (.str x) (.type "str")
 | flt (x:UInt64):TyOf K H (.flt x) (.type "float")
 | lst {a:Addr} {xs:List V} (e:H a=some (.lst xs)):TyOf K H (.ref a) (.type "list")
 | frz {a:Addr} {o:Obj} {xs:List V} (e:H a=some (.frz o (.lst xs))):TyOf K H (.ref a) (.type "list")
 | tup {a:Addr} {xs:List V} (e:H a=some (.tup xs)):TyOf K H (.ref a) (.type "tuple")
 | dK {a:Addr} {kvs:List (Key×V)} (e:H a=some (.dK kvs)):TyOf K H (.ref a) (.type "dict")
 | dT {a:Addr} {kvs:List (List J0l×V)} (e:H a=some (.dT kvs)):TyOf K H (.ref a) (.type "dict")
 | ins {a C dx:Addr} {fs:List (Str×V)} (e:H a=some (.ins C dx fs)) (cl:Cls K C) (ha:findIn K (.ref C) "__class__"=some (some (.builtin "object.__class__")))
  (hn:PySem.W.specialIn K (.builtin "object.__class__") "__get__"=some (some (.builtin "getset_descriptor.__get__"))) (htk:PySem.W.takesIn K (.builtin "object.__class__")=some true)
  (hm:PySem.W.mroIn K C (.type "object")=some true):TyOf K H (.ref a) (.ref C)
end
structure Room (k:Nat)(A:Around):Prop where
 hd:A.handled=none
 dp:A.depth+3 * k+5<recursionLimit
 un:A.units+16 * k+200<cLine
theorem Room.mono {j k:Nat}{A:Around}(r:Room k A)(h:j<=k):Room j A:=⟨r.hd,by have:=r.dp;omega,by have:=r.un;omega⟩
theorem Room.deeper {k:Nat}{A:Around}(r:Room (k+1) A)(env:Env):Room k (A.deeper env) :=
 ⟨r.hd,by have:=r.dp;show A.depth+1+3 * k+5<_;omega,by have:=r.un;show A.units+3+16 * k+200<_;omega⟩
theorem J7n {A:Around}{C:Addr}{us:List Value}{kw:List (Str×Value)}:(A.under (.builtin "type.__call__" ⟨.ref C::us,kw⟩)).depth=A.depth+1:=by
 first | rfl | simp [Around.under,Code.weight,Code.isCreation,Code.isGuard,Code.isCaller,Code.frames,Code.isFrame,guardIds]
theorem J7m {A:Around}{C:Addr}{us:List Value}{kw:List (Str×Value)}:(A.under (.builtin "type.__call__" ⟨.ref C::us,kw⟩)).units=A.units+1:=by
 first | rfl | simp [Around.under,Code.cUnits,Code.frames,Code.isFrame]
theorem Room.make {k:Nat}{A:Around}(r:Room (k+1) A)(C:Addr)(us:List Value)(kw:List (Str×Value)):Room k (A.under (.builtin "type.__call__" ⟨.ref C::us,kw⟩)) :=
 ⟨r.hd,by have:=r.dp;rw [J7n];omega,by have:=r.un;rw [J7m];omega⟩
theorem Room.depth {k:Nat}{A:Around}(r:Room k A):A.depth<recursionLimit:=by have:=r.dp;omega
theorem Room.units {k:Nat}{A:Around}(r:Room k A):A.units+64<cLine:=by have:=r.un;omega
def J9a:TA:=fun _ H Q=>Q [] H
def J53 (ta:TE)(tr:TA):TA:=fun σ H Q=>ta σ H fun x H1=>tr σ H1 fun xs H2=>Q (x::xs) H2
section
variable {X:Cx}{e:Expr}{es:List Expr}{te:TE}{t:TA}{pos:Pos}
theorem Jb:PA X [] J9a:=fun _ _ _ _ H Q I h=>Calls.spliced_nil ⟨[],H,I,.nil,h⟩
theorem JaY (ha:PE X e te)(hr:PA X es t)(hs:starEach (e::es) X.env=(false,eval e X.env)::starEach es X.env:=by rfl):PA X (e::es) (J53 te t):=by
 intro pos pins s σ H Q I h;rw [hs];show wpAny _ _ (spliced ((false,eval e X.env)::backTo pos (starEach es X.env))) _ _ s;refine Calls.spliced_cons (thn (ha pins s σ H _ I h) fun u s1 ⟨x,H1,I1,r1,q1⟩=>?_);exact thn (hr pos pins s1 σ H1 _ I1 q1) fun us s2 ⟨xs,H2,I2,r2,q2⟩=>⟨x::xs,H2,I2,.cons r1 r2,q2⟩
def Jbw (t:TA):TE:=fun σ H Q=>t σ H fun xs H1=>xs.length<=sizeLine/\∀ p,H1 p=none->Q (.ref p) (upd H1 p (.tup xs))
def Jby (t:TA):TE:=fun σ H Q=>t σ H fun xs H1=>xs.length<=sizeLine/\∀ p,H1 p=none->Q (.ref p) (upd H1 p (.lst xs))
theorem Jt {x1}(h:PA X es t):PE X (.Tuple es x1 pos) (Jbw t):=by
 intro pins s σ H Q I hq;refine wpAny_Tuple_spliced (thn (h pos pins s σ H _ I hq) fun us s1 ⟨xs,H1,I1,r,z,q⟩=>⟨by rw [<- r.length];exact z,?_⟩);have hf:H1 s1.heap.objs.size=none:=I1.hok.fresh (yJ _);refine ⟨.ref s1.heap.objs.size,upd H1 s1.heap.objs.size (.tup xs),I1.laid (t':=s1.toks) (fun b u e=>zr _ e) (yJ _) ?_,rfl,q _ hf⟩;exact ⟨z,us,r,⟨_,zt _ rfl,rfl,_,rfl⟩⟩
theorem JL (h:PA X es t):PE X (.List es pos) (Jby t):=by
 intro pins s σ H Q I hq;refine wpAny_List_spliced (thn (h pos pins s σ H _ I hq) fun us s1 ⟨xs,H1,I1,r,z,q⟩=>⟨by rw [<- r.length];exact z,?_⟩);have hf:H1 s1.heap.objs.size=none:=I1.hok.fresh (yJ _);refine ⟨.ref s1.heap.objs.size,upd H1 s1.heap.objs.size (.lst xs),I1.laid (t':=s1.toks) (fun b u e=>zr _ e) (yJ _) ?_,rfl,q _ hf⟩;exact ⟨z,us,0,r,zt _ rfl⟩
end
abbrev Sp:=List V->Hp->VK->XK->Prop
abbrev CXT:=List Env->Hp->Shared->XK->Value->Shared->Prop
structure Env0 (P:Program)(w:World)(K:Frag)(mg:Str->Option Value)(base:Heap)(A:Around)(outer:List Env)(s:Shared)(H:Hp):Prop where
 frames:A.frames=some outer
 mod:Mod K mg base
 bs:∀ b o,base.get? b=some o->s.heap.get? b=some o/\H b=none
 bsz:base.objs.size<=s.heap.objs.size
 funs:s.heap.FunFrames base outer
 frf:∀ b∈frs outer,H b=none
 hok:HOk P w H s.heap
 bare:AllBare s.gens
def CE (outer:List Env)(P:Program)(w:World)(H:Hp)(s:Shared)(Q:VK)(u:Value)(s':Shared):Prop :=
 ∃ v H',s'.os=s.os/\AllBare s'.gens/\Un (frs outer) [] H H' s.heap s'.heap/\HOk P w H' s'.heap/\RelV v u/\Q v H'
def CR (CX:CXT)(outer:List Env)(P:Program)(w:World)(H:Hp)(s:Shared)(Q:VK)(E:XK)(r:Result)(s':Shared):Prop :=
 match r with
 | .ok (.ret u)=>CE outer P w H s Q u s'
 | .ok _=>False
 | .error e=>CX outer H s E e s'
structure FnOk (P:Program)(w:World)(K:Frag)(mg:Str->Option Value)(base:Heap)(CX:CXT)(k:Nat)(f:Addr)(fd:FuncData)(ps:List Str)(sp:Sp):Prop where
 len:∀ vs H Q E,sp vs H Q E->vs.length=ps.length
 run:∀ (A:Around) (outer:List Env) (s:Shared) (H:Hp) (args:Args) (us:List Value) (vs:List V) (Q:VK) (E:XK),Room k A->Env0 P w K mg base A outer s H->BindsTo s fd args (ps.zip us)->Vals vs us->sp vs H Q E ->
  codeAny (model P w) A (.call (.ref f) args) (CR CX outer P w H s Q E) s
theorem Env0.make {P:Program}{w:World}{K:Frag}{mg:Str->Option Value}{base:Heap}{A:Around}{outer:List Env}{s:Shared}{H:Hp}(e:Env0 P w K mg base A outer s H)(C:Addr)(us:List Value)(kw:List (Str×Value)) :
 Env0 P w K mg base (A.under (.builtin "type.__call__" ⟨.ref C::us,kw⟩)) outer s H:=⟨by first | exact e.frames | (simpa [Around.under,Code.envs,Code.isFrame,pushEnvs] using e.frames),e.mod,e.bs,e.bsz,e.funs,e.frf,e.hok,e.bare⟩
section
variable {X:Cx}{pins:List (Addr×Obj)}{σ:St}{H:Hp}{s s':Shared}
theorem Inv.env0 (I:Inv X pins σ H s):Env0 X.prog X.w X.K X.mg X.base X.A X.stack s H :=
 ⟨I.ok.frames,I.ok.mod,I.bs,yR I.ok.bsz I.sz,I.stack,I.stkFree,I.hok,I.bare⟩
theorem Inv.after {Q:VK}{u:Value}(I:Inv X pins σ H s)(h:CE X.stack X.prog X.w H s Q u s'):EP X pins σ Q u s':=by
 obtain ⟨v,H',os,bare,un,hok,r,q⟩:=h;obtain ⟨hh,g,d,t,os'⟩:=s';obtain rfl:os'=s.os:=os;exact ⟨v,H',I.call (h':=hh) (g':=g) (d':=d) (t':=t) (ch:=[]) un hok bare (fun b z=>absurd z (by simp)),r,q⟩
end
def J7K (sp:Sp)(dvs:List V)(E:XK)(t:TA):TE:=fun σ H Q=>t σ H fun vs H1=>sp (vs++dvs) H1 Q E
def J9d (C:Addr)(m:Str)(sp:Sp)(dvs:List V)(E:XK)(ta:TE)(t:TA):TE:=fun σ H Q=>ta σ H fun x H1=>∃ a dx fs,x=.ref a/\H1 a=some (.ins C dx fs)/\fs.lookup m=none /\
 t σ H1 fun vs H2=>sp (x::(vs++dvs)) H2 Q E
def Jbi (C:Addr)(sp:Sp)(dvs:List V)(E:XK)(t:TA):TE:=fun σ H Q=>t σ H fun vs H1=>∀ x dx,H1 x=none->H1 dx=none->dx≠x ->
 sp (.ref x::(vs++dvs)) (upd (upd H1 dx (.own x)) x (.ins C dx [])) (fun v H2=>v=.non/\Q (.ref x) H2) E
def Binds (K:Frag)(fd:FuncData)(ps:List Str)(ds:List Value):Prop :=
 ∀ (s:Shared) (us:List Value),K.In s.heap->(us++ds).length=ps.length->BindsTo s fd ⟨us,[]⟩ (ps.zip (us++ds))
theorem Binds.all {K:Frag}{fd:FuncData}{ps:List Str}(h:∀ us:List Value,us.length=ps.length->bindArgs fd ⟨us,[]⟩=pure (ps.zip us)):Binds K fd ps []:=fun s us _ hl=>by
 rw [append_nil] at hl ⊢;exact .of_eq (h us hl)
def J3s (CX:CXT)(X:Cx)(E:XK):Prop:=∀ (pins:List (Addr×Obj)) (σ:St) (H:Hp) (s:Shared) (e:Value) (s':Shared),Inv X pins σ H s->CX X.stack H s E e s'->X.xe e s'
section
variable {X:Cx}{CX:CXT}{k:Nat}{f C:Addr}{fd:FuncData}{ps:List Str}{sp:Sp}{dvs:List V}{ds:List Value}{E:XK}{x m:Str}{p pos apos:Pos}{e o:Expr}{es:List Expr}{ta:TE}{t:TA}
theorem J9t {pins:List (Addr×Obj)}{σ:St}{H:Hp}{s:Shared}{Q:VK}{us:List Value}{vs:List V}(F:FnOk X.prog X.w X.K X.mg X.base CX k f fd ps sp)(hr:Room k X.A)(hb:Binds X.K fd ps ds)(hd:Vals dvs ds)(hx:J3s CX X E)
 (I:Inv X pins σ H s) (r:Vals vs us) (h:sp (vs++dvs) H Q E):wpAny (model X.prog X.w) X.A (call (.ref f) us) (EP X pins σ Q) X.xe s:=by
 have r2:Vals (vs++dvs) (us++ds):=r.append hd;have hl:(us++ds).length=ps.length:=by rw [<- r2.length];exact F.len _ _ _ _ h
 refine wpAny_call (codeAny_mono (F.run X.A X.stack s H ⟨us,[]⟩ (us++ds) (vs++dvs) Q E hr I.env0 (hb s us I.kIn hl) r2 h) fun r s' hq=>?_);cases r with
 | error e=>exact hx pins σ H s e s' I hq
 | ok fl =>
   cases fl with
   | ret u=>exact I.after hq
   | next=>exact yS hq
   | brk=>exact yS hq
   | cont=>exact yS hq
theorem JaV (F:FnOk X.prog X.w X.K X.mg X.base CX k f fd ps sp)(hr:Room k X.A)(hg:Gl X x)(hm:X.mg x=some (.ref f))(hk:PySem.W.keepIn X.K (.ref f)=true)(hb:Binds X.K fd ps ds)(hd:Vals dvs ds)(hx:J3s CX X E)
 (ha:PA X (e::es) t) (hdb:(x == ("__debug__":Str))=false:=by decide) (he:starEach (e::es) X.env=(false,eval e X.env)::starEach es X.env:=by rfl) (hpl:(backTo pos (starEach es X.env)).any (·.1)=false:=by rfl) :
 PE X (.Call (.Name x p) (e::es) [] pos) (J7K sp dvs E t):=by
 intro pins s σ H Q I h;refine wpAny_Call_Name_kw (J2s I hg hm ?_ hdb);refine PySem.W.callWith_K (h₀:=X.base) I.ok.mod.kin hk (thn (ha pos pins s σ H _ I h) fun us s1 ⟨vs,H1,I1,r,q⟩=>⟨I1.kIn,?_⟩) he hpl;exact J9t F hr hb hd hx I1 r q
theorem J2q {pl:Sem Bool}(he:PE X o ta)(c:Cls X.K C)(hm:Meth X.K C m f)(F:FnOk X.prog X.w X.K X.mg X.base CX k f fd ps sp)(hr:Room k X.A)(hb:Binds X.K fd ps ds)(hd:Vals dvs ds)(hx:J3s CX X E)(ha:PA X (e::es) t)
 (hst:starEach (e::es) X.env=(false,eval e X.env)::starEach es X.env:=by rfl) (hpl:(backTo pos (starEach es X.env)).any (·.1)=false:=by rfl)
 (ht:eval (.Call (.Attribute o m apos) (e::es) [] pos) X.env=(do
  let ov <- eval o X.env
  standAt apos.atName
  let (f,first) <- holding [ov] (getMethod ov m pl)
  callWith pos f first (backTo pos (starEach (e::es) X.env)) (backToKw pos (keywordEach [] X.env))):=by rfl) :
 PE X (.Call (.Attribute o m apos) (e::es) [] pos) (J9d C m sp dvs E ta t):=by
 intro pins s σ H Q I h;refine PySem.W.methodCall_KW (pl:=pl) (thn (he pins s σ H _ I h) fun u s1 ⟨x,H1,I1,rx,a,dx,fs,ex,ea,l,q⟩=>?_) ht;subst ex;obtain rfl:u=Value.ref a:=rx;refine J7v I1 ea c hm l ?_;refine PySem.W.callWith_K (first:=[.ref a]) (h₀:=X.base) I.ok.mod.kin hm.kp (thn (ha pos pins s1 σ H1 _ I1 q) fun us s2 ⟨vs,H2,I2,r,q2⟩=>⟨I2.kIn,?_⟩) hst hpl;exact J9t (us:=.ref a::us) (vs:=.ref a::vs) F hr hb hd hx I2 (.cons rfl r) q2
structure Mk (K:Frag)(C f:Addr):Prop where
 makes:PySem.W.makesIn K C=true
 init:findIn K (.ref C) "__init__"=some (some (.ref f))
 fn:PySem.W.isFn K (.ref f)=true
 kp:PySem.W.keepIn K (.ref C)=true
theorem J9s {pins:List (Addr×Obj)}{σ:St}{H:Hp}{s:Shared}{Q:VK}{us:List Value}{vs:List V}(M:Mk X.K C f)(F:FnOk X.prog X.w X.K X.mg X.base CX k f fd ps sp)(hr:Room (k+1) X.A)(hb:Binds X.K fd ps ds)(hd:Vals dvs ds)
 (hx:J3s CX X E) (I:Inv X pins σ H s) (r:Vals vs us)
 (h:∀ x dx,H x=none->H dx=none->dx≠x->sp (.ref x::(vs++dvs)) (upd (upd H dx (.own x)) x (.ins C dx [])) (fun v H2=>v=.non/\Q (.ref x) H2) E) :
 wpAny (model X.prog X.w) X.A (call (.ref C) us) (EP X pins σ Q) X.xe s:=by
 have hq:=h (s.heap.objs.size+1) s.heap.objs.size (I.hok.fresh (Nat.le_succ _)) (I.hok.fresh (yJ _)) (yO (Nat.lt_succ_self _));have I2:=Inv.made (C:=C) I;have r2:Vals (V.ref (s.heap.objs.size+1)::(vs++dvs)) (Value.ref (s.heap.objs.size+1)::(us++ds)):=.cons rfl (r.append hd);have hl:(Value.ref (s.heap.objs.size+1)::us++ds).length=ps.length:=by
  have e:=r2.length;rw [F.len _ _ _ _ hq] at e;exact e.symm
 refine wpAny_call (J9Z (f:=f) I.kIn M.makes M.init (beq_iff_eq.mp M.fn) (codeAny_mono (F.run _ X.stack _ _ ⟨Value.ref (s.heap.objs.size+1)::us,[]⟩ (Value.ref (s.heap.objs.size+1)::(us++ds)) _ _ E (hr.make C us [])
  (I2.env0.make C us []) (hb _ (Value.ref (s.heap.objs.size+1)::us) I2.kIn hl) r2 hq) fun r s' hq'=>?_))
 cases r with
 | error e=>exact hx pins σ _ _ e s' I2 hq'
 | ok fl =>
   cases fl with
   | ret u =>
     obtain ⟨v,H',I3,rv,ev,q3⟩:=I2.after hq';subst ev;exact ⟨rv,⟨V.ref (s.heap.objs.size+1),H',I3,rfl,q3⟩⟩
   | next=>exact yS hq'
   | brk=>exact yS hq'
   | cont=>exact yS hq'
theorem JaT (M:Mk X.K C f)(F:FnOk X.prog X.w X.K X.mg X.base CX k f fd ps sp)(hr:Room (k+1) X.A)(hg:Gl X x)(hm:X.mg x=some (.ref C))(hb:Binds X.K fd ps ds)(hd:Vals dvs ds)(hx:J3s CX X E)
 (ha:PA X (e::es) t) (hdb:(x == ("__debug__":Str))=false:=by decide) (he:starEach (e::es) X.env=(false,eval e X.env)::starEach es X.env:=by rfl) (hpl:(backTo pos (starEach es X.env)).any (·.1)=false:=by rfl) :
 PE X (.Call (.Name x p) (e::es) [] pos) (Jbi C sp dvs E t):=by
 intro pins s σ H Q I h;refine wpAny_Call_Name_kw (J2s I hg hm ?_ hdb);refine PySem.W.callWith_K (h₀:=X.base) I.ok.mod.kin M.kp (thn (ha pos pins s σ H _ I h) fun us s1 ⟨vs,H1,I1,r,q⟩=>⟨I1.kIn,?_⟩) he hpl;exact J9s M F hr hb hd hx I1 r q
end
def PK (X:Cx)(kws:List Keyword)(t:TA):Prop :=
 ∀ (pos:Pos) (pins:List (Addr×Obj)) (s:Shared) (σ:St) (H:Hp) (Q:List V->Hp->Prop),Inv X pins σ H s->t σ H Q->wpAny (model X.prog X.w) X.A (evalAll ((backToKw pos (keywordEach kws X.env)).map (·.2))) (AP X pins σ Q) X.xe s
section
variable {X:Cx}{CX:CXT}{k:Nat}{f C:Addr}{fd:FuncData}{ps ks:List Str}{sp:Sp}{E:XK}{x m:Str}{p pos apos kpos:Pos}{e o:Expr}{es:List Expr}{kws:List Keyword}{te ta:TE}{t tk:TA}{nm:Option Str}
theorem JbJ:PK X [] J9a:=fun _ _ _ _ H Q I h=>wpAny_evalAll_nil ⟨[],H,I,.nil,h⟩
theorem JaR (ha:PE X e te)(hr:PK X kws t):PK X (⟨nm,e,kpos⟩::kws) (J53 te t):=by
 intro pos pins s σ H Q I h;show wpAny _ _ (evalAll ((do let v <- eval e X.env;standAt pos;pure v)::(backToKw pos (keywordEach kws X.env)).map (·.2))) _ _ s;refine wpAny_evalAll_cons (yF (thn (ha pins s σ H _ I h) fun u s1 ⟨x,H1,I1,r1,q1⟩=>yF (wpAny_standAt (yG ?_))));exact thn (hr pos pins s1 σ H1 _ I1 q1) fun us s2 ⟨xs,H2,I2,r2,q2⟩=>⟨x::xs,H2,I2,.cons r1 r2,q2⟩
variable {g:List Value->List Value->List Value}{gV:List V->List V->List V}
end
structure FnScope (N P:List Str)(sc:Scope):Prop where
 kind:sc.kind=.function
 co:sc.isCoroutine=false
 gen:sc.isGenerator=false
 nd:N.Nodup
 pre:N.take P.length=P
 par:∀ x∈P,sc.names.lookup x=some .local\/sc.names.lookup x=some .cell
 nofree:∀ y∈sc.names,y.2≠.free
theorem J5n {kindOf:Str->Option NameKind}{x:Str}:∀ {binds:List (Str×Value)} {m:Str->Option Value},(∀ v,(x,v)∉binds)->bindL kindOf binds m x=m x
 | [],_,_=>rfl
 | (n,v)::r,m,h=>by
   unfold bindL;rw [J5n fun w hw=>h w (y8 _ hw)]
   split
   ·have:x≠n:=by rintro rfl;exact h v y9
    simp [this]
   ·rfl
theorem J5p {kindOf:Str->Option NameKind}{x:Str}:∀ {binds:List (Str×Value)} {m:Str->Option Value},(∀ v,(x,v)∉binds)->bindC kindOf binds m x=m x
 | [],_,_=>rfl
 | (n,v)::r,m,h=>by
   unfold bindC;rw [J5p fun w hw=>h w (y8 _ hw)]
   split
   ·rfl
   ·have:x≠n:=by rintro rfl;exact h v y9
    simp [this]
theorem J5o {kindOf:Str->Option NameKind}{x:Str}{v:Value}:∀ {P:List Str} {vs:List Value} {i:Nat} {m:Str->Option Value},P.Nodup->P[i]?=some x->vs[i]?=some v->kindOf x=some .local ->
 bindL kindOf (P.zip vs) m x=some v
 | [],_,_,_,_,h,_,_=>by simp at h
 | _::_,[],_,_,_,_,h,_=>by simp at h
 | p::P,w::vs,0,m,nd,h1,h2,hk=>by
   simp at h1 h2;subst h1;subst h2;show bindL kindOf ((p,w)::P.zip vs) m p=_;unfold bindL;rw [J5n fun v hv=>(nodup_cons.mp nd).1 (of_mem_zip hv).1,yI hk];simp
 | p::P,w::vs,i+1,m,nd,h1,h2,hk=>by
   show bindL kindOf ((p,w)::P.zip vs) m x=_;unfold bindL;exact J5o (i:=i) (nodup_cons.mp nd).2 (by simpa using h1) (by simpa using h2) hk
theorem J5q {kindOf:Str->Option NameKind}{x:Str}{v:Value}:∀ {P:List Str} {vs:List Value} {i:Nat} {m:Str->Option Value},P.Nodup->P[i]?=some x->vs[i]?=some v->kindOf x≠some .local ->
 bindC kindOf (P.zip vs) m x=some v
 | [],_,_,_,_,h,_,_=>by simp at h
 | _::_,[],_,_,_,_,h,_=>by simp at h
 | p::P,w::vs,0,m,nd,h1,h2,hk=>by
   simp at h1 h2;subst h1;subst h2;show bindC kindOf ((p,w)::P.zip vs) m p=_;unfold bindC;rw [J5p fun v hv=>(nodup_cons.mp nd).1 (of_mem_zip hv).1,yH hk];simp
 | p::P,w::vs,i+1,m,nd,h1,h2,hk=>by
   show bindC kindOf ((p,w)::P.zip vs) m x=_;unfold bindC;exact J5q (i:=i) (nodup_cons.mp nd).2 (by simpa using h1) (by simpa using h2) hk
def start (N:List Str)(vs:List V):St:=vs.map some++List.replicate (N.length - vs.length) none
def J4D (CX:CXT)(P:Program)(w:World)(K:Frag)(mg:Str->Option Value)(base:Heap)(N:List Str)(qual:Str)(scope:Scope)(f:Addr)(cd:Value)(A:Around)(outer:List Env)(s:Shared)(H:Hp)(E:XK):Cx where
 prog:=P
 w:=w
 K:=K
 mg:=mg
 base:=base
 A:=A.deeper (envOfC qual scope s.heap.objs.size f cd)
 N:=N
 s₀:=s
 H₀:=H
 env:=envOfC qual scope s.heap.objs.size f cd
 outer:=outer
 stack:=envOfC qual scope s.heap.objs.size f cd::outer
 ex:=[]
 calm:=true
 fn:=fun _=>true
 pn:=[]
 xe:=fun e s'=>wpAny (model P w) (A.deeper (envOfC qual scope s.heap.objs.size f cd)) (leaving (envOfC qual scope s.heap.objs.size f cd) e) (fun _ s''=>CX outer H s E e s'') (fun e' s''=>CX outer H s E e' s'') s'
theorem J6W {sc:Scope}{n:Nat}{x:Str}(h:sc.names.lookup x=some .cell):∃ c,(cellsFrom n sc.names []).lookup x=some c:=by
 have q:=PySem.W.cellsFrom_some sc.names n [] (.inl h);exact Option.isSome_iff_exists.mp q
theorem inv_start {CX:CXT}{P:Program}{w:World}{K:Frag}{mg:Str->Option Value}{base:Heap}{N ps:List Str}{qual:Str}{scope:Scope}{f:Addr}{cd:Value}{A:Around}{outer:List Env}{s s1:Shared}{H:Hp}{E:XK}{us:List Value}{vs:List V}
 (S:FnScope N ps scope) (hd:A.handled=none) (e0:Env0 P w K mg base A outer s H) (hl:vs.length=ps.length) (r:Vals vs us)
 (x:InCallC s s.heap.objs.size (bindL (envOfC qual scope s.heap.objs.size f cd).kindOf (ps.zip us) fun _=>none) (cellsFrom (s.heap.objs.size+1) scope.names []) (bindC (envOfC qual scope s.heap.objs.size f cd).kindOf (ps.zip us) fun _=>none) s1) :
 Inv (J4D CX P w K mg base N qual scope f cd A outer s H E) [] (start N vs) H s1:=by
 have hpl:ps.length<=N.length:=by have:=congrArg List.length S.pre;rw [y7] at this;omega
 obtain ⟨h1,tk,rfl,hk⟩:=x.done;have noA:∀ b:Addr,b∉(J4D CX P w K mg base N qual scope f cd A outer s H E).ex:=fun b z=>absurd (show b∈([]:List Addr) from z) (by simp);refine ⟨⟨e0.mod,S.kind,rfl,rfl,yJ _,fun y z c h1 h2=>?_,fun y hy=>?_,fun y c _ h=>?_,fun _=>hd,Around.frames_deeper e0.frames,.inr ⟨rfl,rfl⟩,fun b z=>absurd z (noA b),e0.bs,e0.bsz,fun b _ _=>noA b,fun b z=>absurd z (noA b),e0.funs,e0.frf⟩,
  rfl,e0.bare,Un.kept hk,⟨_,x.toInCall.ns,fun i y v h1 h2 h3=>?_⟩,fun y c h=>⟨_,x.cell y c h⟩,e0.hok.fresh (yJ _),fun y c h=>?_,fun p hp=>absurd (show p∈([]:List (Addr×Obj)) from hp) (by simp),e0.hok.kept hk,?_⟩
 ·exact name_of_addr x.apart (PySem.mem_of_lookup h1) (PySem.mem_of_lookup h2)
 ·have hy:scope.names.lookup y=some .cell\/scope.names.lookup y=some .free:=hy
  rcases hy with hy | hy
  ·exact J6W hy
  ·exact absurd rfl (S.nofree _ (PySem.mem_of_lookup hy))
 ·exact Nat.le_of_lt (x.above y c (PySem.mem_of_lookup h))
 ·have hi:i<vs.length:=by
   unfold start at h2;by_cases hi:i<vs.length
   ·exact hi
   ·rw [zm (by simpa using hi)] at h2
    rw [List.getElem?_replicate] at h2
    split at h2<;>cases h2
  have ha:vs[i]?=some v:=by
   unfold start at h2;rw [zn (by simpa using hi),ze] at h2;cases e:vs[i]? with
   | none=>rw [e] at h2;cases h2
   | some a=>rw [e] at h2;cases h2;rfl
  obtain ⟨u,hu,rv⟩:=r.get ha;have hp:ps[i]?=some y:=by
   rw [<- S.pre,List.getElem?_take_of_lt (by omega)];exact h1
  have ndP:ps.Nodup:=by rw [<- S.pre];exact S.nd.sublist (take_sublist _ _)
  refine ⟨u,rv,?_⟩;rcases S.par y (y4 hp) with k | k
  ·exact .inl ⟨k,J5o ndP hp hu k⟩
  ·obtain ⟨c,e⟩:=J6W (n:=s.heap.objs.size+1) k
   refine .inr ⟨.inl k,c,e,?_⟩;have q:=x.cell y c e;rw [J5q ndP hp hu (by show scope.names.lookup y≠_;rw [k];decide)] at q;exact q
 ·exact e0.hok.fresh (Nat.le_of_lt (x.above y c (PySem.mem_of_lookup h)))
 ·unfold start
  show _=N.length;rw [y6,yW,zq];omega
theorem Jbs {CX:CXT}{P:Program}{w:World}{K:Frag}{mg:Str->Option Value}{base:Heap}{k:Nat}{f:Addr}{name qual:Str}{params:Arguments}{body:List Stmt}{scope:Scope}{dV kV doc pm cdv ct oc:Value}{an od:Option Addr}
 {osl:Array (Option Value)} {N ps:List Str} {sp:Sp} (lk:K.lookup f=some ⟨oc,od,.func (PySem.W.fnOf name qual params body scope dV kV doc pm an cdv ct),osl⟩) (hcd:PySem.W.codeIn K cdv qual=true) (S:FnScope N ps scope)
 (len:∀ vs H Q E,sp vs H Q E->vs.length=ps.length)
 (hbody:∀ (A:Around) (outer:List Env) (s:Shared) (H:Hp) (vs:List V) (Q:VK) (E:XK),Room k (A.deeper (envOfC qual scope s.heap.objs.size f cdv))->sp vs H Q E ->
  ∃ t,PSs (J4D CX P w K mg base N qual scope f cdv A outer s H E) body t/\t { nx:=fun _ H'=>Q .non H',rt:=Q } (start N vs) H) :
 FnOk P w K mg base CX (k+1) f (PySem.W.fnOf name qual params body scope dV kV doc pm an cdv ct) ps sp:=by
 refine ⟨len,fun A outer s H args us vs Q E hr e0 hb r hsp=>?_⟩;have hl:=len _ _ _ _ hsp;have KX:K.In s.heap:=e0.mod.kin.keeps fun b o e=>(e0.bs b o e).1;have lim:s.heap.NoLimit:=e0.mod.nolimit.keeps fun b o e=>(e0.bs b o e).1;have hkind:∀ y∈ps.zip us,scope.names.lookup y.1=some .local\/(scope.names.lookup y.1=some .cell/\((cellsFrom (s.heap.objs.size+1) scope.names []).lookup y.1).isSome=true):=fun ⟨n,v⟩ hy=>by
  rcases S.par n (of_mem_zip hy).1 with q | q
  ·exact .inl q
  ·exact .inr ⟨q,PySem.W.cellsFrom_some _ _ _ (.inl q)⟩
 refine codeAny_call_function hr.depth (KX _ _ lk) rfl S.co S.gen rfl (PySem.W.codeRec_of KX hcd) (hb _ _ _ _ ?_);refine wpAny_newFunctionEnv_cells S.kind hkind fun env he s1 x=>?_;subst he;refine ⟨lim.keeps x.toInCall.keep,codeAny_func ?_⟩;obtain ⟨t,ht,hq⟩:=hbody A outer s H vs Q E (hr.deeper _) hsp;have I:Inv (J4D CX P w K mg base N qual scope f cdv A outer s H E) [] (start N vs) H s1:=inv_start S hr.hd e0 hl r x;refine wpAny_mono (ht [] s1 (start N vs) H _ I hq) (fun fl s' hs=>?_) fun e s' hs=>hs;have fin:∀ {σ':St} {H':Hp} {v:V} {u:Value},Inv (J4D CX P w K mg base N qual scope f cdv A outer s H E) [] σ' H' s'->RelV v u->Q v H'->CE outer P w H s Q u s' :=
  fun {σ' H' v u} J rv q=>⟨v,H',J.os,J.bare,J.base,J.hok,rv,q⟩
 cases fl with
 | ret u =>
   obtain ⟨v,σ',H',J,rv,q⟩:=hs;exact fin J rv q
 | next =>
   obtain ⟨σ',H',J,q⟩:=hs;exact fin (v:=V.non) (u:=Value.none) J rfl q
 | brk =>
   obtain ⟨_,_,_,q⟩:=hs;exact yS q
 | cont =>
   obtain ⟨_,_,_,q⟩:=hs;exact yS q
section
variable {X:Cx}{x:Str}{p pos:Pos}{e:Expr}{es:List Expr}{t:TA}{id T:String}{r:List V->Hp->VK->Prop}
def tCB (r:List V->Hp->VK->Prop)(t:TA):TE:=fun σ H Q=>t σ H fun vs H1=>r vs H1 Q
theorem J9R (hc:J0i X (.builtin id) r)(hg:Gl X x)(hm:X.mg x=none)(hv:bootBuiltins x=some (.builtin id))(ha:PA X (e::es) t)(hn:x≠"__name__":=by decide)(hdb:(x == ("__debug__":Str))=false:=by decide)
 (he:starEach (e::es) X.env=(false,eval e X.env)::starEach es X.env:=by rfl) (hpl:(backTo pos (starEach es X.env)).any (·.1)=false:=by rfl):PE X (.Call (.Name x p) (e::es) [] pos) (tCB r t):=by
 intro pins s σ H Q I h;refine wpAny_Call_Name_kw (J1A I hg hm hv ?_ hn hdb);exact PyProof.Rows.callWith_builtin1 (thn (ha pos pins s σ H _ I h) fun us s1 ⟨vs,H1,I1,r1,q1⟩=>hc pins s1 σ H1 vs us Q I1 r1 q1) he hpl
theorem J8D (hc:J0i X (.type T) r)(hg:Gl X x)(hm:X.mg x=none)(hv:bootBuiltins x=some (.type T))(ha:PA X (e::es) t)(hn:x≠"__name__":=by decide)(hdb:(x == ("__debug__":Str))=false:=by decide)
 (he:starEach (e::es) X.env=(false,eval e X.env)::starEach es X.env:=by rfl) (hpl:(backTo pos (starEach es X.env)).any (·.1)=false:=by rfl):PE X (.Call (.Name x p) (e::es) [] pos) (tCB r t):=by
 intro pins s σ H Q I h;refine wpAny_Call_Name_kw (J1A I hg hm hv ?_ hn hdb);exact PyProof.Rows.callWith_type1 (thn (ha pos pins s σ H _ I h) fun us s1 ⟨vs,H1,I1,r1,q1⟩=>hc pins s1 σ H1 vs us Q I1 r1 q1) he hpl
end
end L2
namespace HT
open PySem PyProof.Rows
section
variable {prog:Program}{w:World}{A:Around}{E:Value->Shared->Prop}{s:Shared}
def sIx (n d:Nat):Option Int->Nat
 | none=>d
 | some v=>if v<0 then (v+(n:Int)).toNat else min v.toNat n
theorem JbE (n d:Nat)(hd:d<=n)(o:Option Int):sIx n d o<=n:=by
 cases o with
 | none=>exact hd
 | some v =>
   show (if v<0 then (v+(n:Int)).toNat else min v.toNat n)<=n;by_cases hv:v<0
   ·rw [yI hv];omega
   ·rw [yH hv];exact Nat.min_le_right _ _
theorem J8o (v:Int)(n d:Nat):(if v<0 then max (v+(n:Int)) 0 else min v (n:Int))=((sIx n d (some v):Nat):Int):=by
 show (if v<0 then max (v+(n:Int)) 0 else min v (n:Int))=(((if v<0 then (v+(n:Int)).toNat else min v.toNat n):Nat):Int);by_cases hv:v<0
 ·simp only [yI hv];omega
 ·simp only [yH hv];omega
theorem J7D (lo hi:Option Int)(n:Nat):Builtin.Slice.sliceAdjust lo hi 1 (n:Int)=(((sIx n 0 lo:Nat):Int),((sIx n n hi:Nat):Int)):=by
 have h1:¬ ((1:Int)<0):=by omega
 unfold Builtin.Slice.sliceAdjust;simp only [h1,if_false];refine Prod.ext ?_ ?_
 ·cases lo with
  | none=>rfl
  | some v=>exact J8o v n 0
 ·cases hi with
  | none=>rfl
  | some v=>exact J8o v n n
theorem J7j (i j:Nat):Builtin.Slice.slicePlaces (i:Int) (j:Int) 1=j - i:=by
 unfold Builtin.Slice.slicePlaces;have h1:(1:Int) > 0:=by omega
 simp only [h1,if_true,Int.ediv_one]
 split<;>omega
theorem J46 {v:Value}{o:Option Int}{Q:Option Int->Shared->Prop}(p:IsPart v o)(h:Q o s):wpAny (model prog w) A (Builtin.Slice.slicePartIndex v) Q E s:=by
 cases p with
 | none=>exact slicePart_none h
 | int i t=>exact slicePart_int h
theorem J3d {sl:Addr}{vl vu:Value}{lo hi:Option Int}{n:Nat}{Q:Int×Int×Nat->Shared->Prop}(hs:s.heap.IsSliceOf sl vl vu .none)(pl:IsPart vl lo)(pu:IsPart vu hi)
 (h:Q (((sIx n 0 lo:Nat):Int),1,sIx n n hi - sIx n 0 lo) s):wpAny (model prog w) A (Builtin.Slice.sliceApplied (.ref sl) (pure (n:Int))) Q E s:=by
 obtain ⟨os,hos,hcs,hds⟩:=id hs;unfold Builtin.Slice.sliceApplied Builtin.Slice.sliceFields;refine yF (yF (wpAny_field hos hds (x:=vl) rfl (yF (wpAny_field hos hds (x:=vu) rfl (yF (wpAny_field hos hds (x:=.none) rfl (yG ?_)))))));refine yF (slicePart_none ?_);show wpAny _ _ (if ((1:Int) == 0)=true then _ else _) _ _ s;rw [yH (by decide)];refine yF (J46 pl (yF (J46 pu (yF (yG ?_)))));show wpAny _ _ (match Builtin.Slice.sliceAdjust lo hi 1 (n:Int) with | (lo,hi)=>pure (lo,(1:Int),Builtin.Slice.slicePlaces lo hi 1)) _ _ s;rw [J7D lo hi n];show wpAny _ _ (pure (((sIx n 0 lo:Nat):Int),(1:Int),Builtin.Slice.slicePlaces ((sIx n 0 lo:Nat):Int) ((sIx n n hi:Nat):Int) 1)) _ _ s;rw [J7j];exact yG h
theorem J9L (xs:Array Value)(i k:Nat):((List.range k).filterMap fun (m:Nat)=>xs[((i:Int)+(m:Int) * 1).toNat]?).toArray=((xs.toList.drop i).take k).toArray:=by
 have e:(fun (m:Nat)=>xs[((i:Int)+(m:Int) * 1).toNat]?)=fun m=>xs[i+m]?:=by
  funext m;have:((i:Int)+(m:Int) * 1).toNat=i+m:=by omega
  rw [this]
 rw [e];have:=pick_run xs i k;rw [filterMap_map] at this;have e2:((fun x=>xs[x]?)∘fun x=>i+x)=fun m=>xs[i+m]?:=rfl;rw [e2] at this;rw [this]
theorem getItem_tuple_cut {t sl:Addr}{items:Array Value}{vl vu:Value}{lo hi:Option Int}{Q:Value->Shared->Prop}(ht:IsTup s.heap t items)(hs:s.heap.IsSliceOf sl vl vu .none)(pl:IsPart vl lo)(pu:IsPart vu hi)
 (hw:¬ (sIx items.size 0 lo=0/\sIx items.size items.size hi=items.size))
 (h:Q (.ref s.heap.objs.size) { s with heap:=s.heap.push { cls:=.type "tuple",data:=.seq ((items.toList.drop (sIx items.size 0 lo)).take (sIx items.size items.size hi - sIx items.size 0 lo)).toArray } })
 (hsz:items.size<=sizeLine):wpAny (model prog w) A (getItem (.ref t) (.ref sl)) Q E s:=by
 have htake:sizeOk (.seq ((items.toList.drop (sIx items.size 0 lo)).take (sIx items.size items.size hi - sIx items.size 0 lo)).toArray):=by
  show ((items.toList.drop (sIx items.size 0 lo)).take (sIx items.size items.size hi - sIx items.size 0 lo)).toArray.size<=sizeLine;rw [yY,y7,length_drop,yT];omega
 have hj:sIx items.size items.size hi<=items.size:=JbE _ _ (yJ _) hi;obtain ⟨os,hos,hcs,hds⟩:=id hs;have hTs:s.TypeIs (.ref sl) "slice":=⟨os,hos,hcs⟩;unfold getItem
 try with_reducible refine wpAny_holding ?_
 first | refine yF (yG ?_) | skip
 refine yF (wpAny_sequenceKey ht.typeIs (by decide) ?_);refine yF (wpAny_callSpecial?_slot (name:=Str.ofString "__getitem__") ht.typeIs PyProof.Rows.slot_tuple_getitem
  (wpAny_call_entry PyProof.Rows.slot_tuple_getitem ht.typeIs entry_tuple_getitem ?_ (args_tuple_getitem _ _)))
 show wpAny _ _ (Builtin.Tuple.tupleItemsOf (.ref t) >>= _) _ _ s;refine yF (tupleItemsOf_ ht ?_);refine yF (wpAny_typeOf hTs ?_);rw [yI (by decide)];refine yF (J3d hs pl pu ?_);have hno:¬ ((((sIx items.size 0 lo:Nat):Int) == 0&&(1:Int) == 1&&(sIx items.size items.size hi - sIx items.size 0 lo) == items.size)=true):=by
  intro q;rw [Bool.and_eq_true,Bool.and_eq_true] at q;have q1:((sIx items.size 0 lo:Nat):Int)=0:=eq_of_beq q.1.1;have q2:sIx items.size items.size hi - sIx items.size 0 lo=items.size:=eq_of_beq q.2;exact hw ⟨by omega,by omega⟩
 show wpAny _ _ (if (((sIx items.size 0 lo:Nat):Int) == 0&&(1:Int) == 1&&(sIx items.size items.size hi - sIx items.size 0 lo) == items.size)=true then _ else _) _ _ s;rw [yH hno,J9L]
 first
  | exact yF (m:=Builtin.Tuple.tupleExact _) (wpAny_newObj_type (yG ⟨_,rfl,yG h⟩) htake)
  | exact yF (m:=Builtin.Tuple.tupleExact _) (wpAny_newObj_type (yF (yG (yG ⟨_,rfl,yG h⟩))) htake)
  | exact yF (yF (m:=Builtin.Tuple.tupleExact _) (wpAny_newObj_type (yG (yG ⟨_,rfl,yG h⟩)) htake))
  | exact yF (yF (m:=Builtin.Tuple.tupleExact _) (wpAny_newObj_type (yG ⟨_,rfl,yG h⟩) htake))
end
end HT
namespace L2
open PySem PySem.Spec PyProof.Rows
abbrev TO:=St->Hp->(Option Int->Hp->Prop)->Prop
def PO (X:Cx)(e:Option Expr)(t:TO):Prop :=
 ∀ (pins:List (Addr×Obj)) (s:Shared) (σ:St) (H:Hp) (Q:Option Int->Hp->Prop),Inv X pins σ H s->t σ H Q ->
   wpAny (model X.prog X.w) X.A (evalPart e X.env) (fun u s'=>∃ o H',Inv X pins σ H' s'/\IsPart u o/\Q o H') X.xe s
def J5u:TO:=fun _ H Q=>Q none H
def J99 (t:TE):TO:=fun σ H Q=>t σ H fun x H1=>∃ i,x=.int i/\Q (some i) H1
section
variable {X:Cx}{e:Expr}{te:TE}{lo hi:Option Expr}{tl th:TO}{pos p2:Pos}
theorem J0O:PO X none J5u:=by
 intro pins s σ H Q I h;rw [evalPart_none];exact yG ⟨none,H,I,.none,h⟩
theorem J0t (h:PE X e te):PO X (some e) (J99 te):=by
 intro pins s σ H Q I hw;rw [evalPart_some];refine thn (h pins s σ H _ I hw) fun u s1 ⟨x,H1,I1,r1,q1⟩=>?_;obtain ⟨i,rfl,q⟩:=q1;obtain ⟨t,rfl⟩:=r1;exact ⟨some i,H1,I1,.int i t,q⟩
def SlR (X:Cx)(r:V->Option Int->Option Int->Hp->VK->Prop):Prop :=
 ∀ (pins:List (Addr×Obj)) (s:Shared) (σ:St) (H:Hp) (x:V) (v vl vu:Value) (lo hi:Option Int) (sl:Addr) (Q:VK),Inv X pins σ H s->RelV x v->s.heap.IsSliceOf sl vl vu .none->IsPart vl lo->IsPart vu hi->r x lo hi H Q ->
   ∃ T id,typeLookup (.type T) "__getitem__"=pure (some (.builtin id))/\s.TypeIs v T/\wpAny (model X.prog X.w) X.A (getItem v (.ref sl)) (EP X pins σ Q) X.xe s
def tSl (r:V->Option Int->Option Int->Hp->VK->Prop)(te:TE)(tl th:TO):TE:=fun σ H Q=>te σ H fun x H1=>tl σ H1 fun l H2=>th σ H2 fun u H3=>r x l u H3 Q
theorem J0h {r:V->Option Int->Option Int->Hp->VK->Prop}(hr:SlR X r)(he:PE X e te)(hl:PO X lo tl)(hu:PO X hi th):PE X (.Subscript e (.Slice lo hi none p2) pos) (tSl r te tl th):=by
 intro pins s σ H Q I h;refine Subscript_ (thn (he pins s σ H _ I h) fun v s1 ⟨x,H1,I1,r1,q1⟩=>?_);refine wpAny_Slice (thn (hl pins s1 σ H1 _ I1 q1) fun vl s2 ⟨l,H2,I2,pl,q2⟩=>thn (hu pins s2 σ H2 _ I2 q2) fun vu s3 ⟨u,H3,I3,pu,q3⟩=>?_);rw [evalPart_none];refine yG ?_;have I4:Inv X pins σ H3 { s3 with heap:=s3.heap.push { cls:=.type "slice",data:=.fields #[vl,vu,.none] } }:=I3.kept (t':=s3.toks) fun b ob q=>zr _ q;obtain ⟨T,id,hT,ht,hg⟩:=hr pins { s3 with heap:=s3.heap.push { cls:=.type "slice",data:=.fields #[vl,vu,.none] } } σ H3 x v vl vu l u s3.heap.objs.size Q I4 r1 (Heap.IsSliceOf.new ..) pl pu q3;show wpAny (model X.prog X.w) X.A (subscriptTail e (.Slice lo hi none p2) v (.ref s3.heap.objs.size)) (EP X pins σ Q) X.xe { s3 with heap:=s3.heap.push { cls:=.type "slice",data:=.fields #[vl,vu,.none] } };exact tail_any (ops:=[.ref s3.heap.objs.size,v]) ht hT hg (by with_unfolding_all rfl)
def J2i (xs:List V)(lo hi:Option Int):List V:=(xs.drop (HT.sIx xs.length 0 lo)).take (HT.sIx xs.length xs.length hi - HT.sIx xs.length 0 lo)
theorem J3A (xs:List V)(lo hi:Option Int):(J2i xs lo hi).length<=xs.length:=by
 unfold J2i;rw [y7,length_drop];omega
def Jct (K:Frag):V->Option Int->Option Int->Hp->VK->Prop:=fun x lo hi H Q=>∃ a xs,x=.ref a/\SqT K H a xs /\
 ¬ (HT.sIx xs.length 0 lo=0/\HT.sIx xs.length xs.length hi=xs.length)/\∀ p,H p=none->Q (.ref p) (upd H p (.tup (J2i xs lo hi)))
theorem JbD:SlR X (Jct X.K):=by
 intro pins s σ H x v vl vu lo hi sl Q I rx hs pl pu h;obtain ⟨a,xs,rfl,hx,hw,q⟩:=h;cases rx;obtain ⟨its,r,ht,hz⟩:=I.tuple hx;have J05:its.toArray.size=xs.length:=by rw [yY];exact r.length.symm
 refine ⟨"tuple",_,PyProof.Rows.slot_tuple_getitem.lookup,ht.typeIs,?_⟩;refine HT.getItem_tuple_cut ht hs pl pu (by rw [J05];exact hw) ?_ (by rw [J05];exact hz);rw [J05];refine ⟨.ref s.heap.objs.size,_,I.laid (t':=s.toks) (o:=.tup (J2i xs lo hi)) (fun b ob q=>zr _ q) (yJ _) ?_,rfl,q _ (I.hok.fresh (yJ _))⟩;exact ⟨yR (J3A xs lo hi) hz,_,(r.drop (HT.sIx xs.length 0 lo)).take (HT.sIx xs.length xs.length hi - HT.sIx xs.length 0 lo),IsTup.new _ _⟩
end
def ixN (n:Nat)(i:Int):Option Nat:=if 0<=i then (if i<n then some i.toNat else none) else if -(n:Int)<=i then some (i+n).toNat else none
def atI {α:Type}(xs:List α)(i:Int):Option α:=(ixN xs.length i).bind fun j=>xs[j]?
theorem J89 {n:Nat}{i:Int}{j:Nat}(h:ixN n i=some j):seqIndex? i n=some j/\j<n/\-(n:Int)<=i/\i<n:=by
 unfold ixN at h;by_cases h0:0<=i
 ·rw [yI h0] at h
  by_cases h1:i<n
  ·rw [yI h1] at h
   have e:i.toNat=j:=yN h;exact ⟨by rw [seqIndex_of h0 h1,e],by omega,by omega,h1⟩
  ·rw [yH h1] at h;cases h
 ·rw [yH h0] at h
  by_cases h1:-(n:Int)<=i
  ·rw [yI h1] at h
   have e:(i+n).toNat=j:=yN h;exact ⟨by rw [seqIndex_neg (by omega) h1,e],by omega,h1,by omega⟩
  ·rw [yH h1] at h;cases h
theorem J8p {α:Type}{xs:List α}{i:Int}{v:α}(h:atI xs i=some v):∃ j,seqIndex? i xs.length=some j/\xs[j]?=some v/\j<xs.length/\-(xs.length:Int)<=i/\i<xs.length:=by
 unfold atI at h;cases e:ixN xs.length i with
 | none=>rw [e] at h;cases h
 | some j =>
   rw [e] at h;obtain ⟨h1,h2,h3,h4⟩:=J89 e;exact ⟨j,h1,h,h2,h3,h4⟩
theorem Jn {α:Type}{xs:List α}{j:Nat}{v:α}(h:xs[j]?=some v):atI xs (j:Int)=some v:=by
 have hj:j<xs.length:=(yV.mp h).1;have e:ixN xs.length (j:Int)=some j:=by
  unfold ixN;rw [yI (by omega),yI (by omega)];simp
 unfold atI;rw [e];exact h
theorem J73 {α:Type}(xs:List α)(v:α):atI (xs++[v]) (-1)=some v:=by
 have hl:(xs++[v]).length=xs.length+1:=by simp
 have e:ixN (xs++[v]).length (-1)=some xs.length:=by
  unfold ixN;rw [hl,yH (by decide),yI (by omega)];congr 1;omega
 unfold atI;rw [e];show (xs++[v])[xs.length]?=some v;simp
def Jbf (b:Expr):Prop:=∀ o i,subscripted b false o i=operate [o,i] (getItem o i)
def IxR (X:Cx)(r:R2):Prop :=
 ∀ (value slice:Expr) (pins:List (Addr×Obj)) (s:Shared) (σ:St) (H:Hp) (x y:V) (v u:Value) (Q:VK),Inv X pins σ H s->RelV x v->RelV y u->r x y H Q ->
   subscripted slice false v u=operate [v,u] (getItem v u)->wpAny (model X.prog X.w) X.A (subscriptTail value slice v u) (EP X pins σ Q) X.xe s
def MtR (X:Cx)(id:String)(r:V->List V->Hp->VK->Prop):Prop :=
 ∀ (pins:List (Addr×Obj)) (s:Shared) (σ:St) (H:Hp) (x:V) (xs:List V) (v:Value) (us:List Value) (Q:VK),Inv X pins σ H s->RelV x v->Vals xs us->r x xs H Q ->
   wpAny (model X.prog X.w) X.A (call (.builtin id) (v::us)) (EP X pins σ Q) X.xe s
section
variable {X:Cx}{a b:Expr}{ta tb:TE}{pos:Pos}
theorem JD {r:R2}(hr:IxR X r)(ha:PE X a ta)(hb:PE X b tb)(hs:Jbf b):PE X (.Subscript a b pos) (tOp r ta tb):=by
 intro pins s σ H Q I h;exact Subscript_ (Jch ha hb I h fun v u s2 x y H2 I2 rx ry q=>hr a b pins s2 σ H2 x y v u Q I2 rx ry q (hs _ _))
def JbH (K:Frag):R2:=fun x y H Q=>∃ p xs i v,x=.ref p/\y=.int i/\SqL K H p xs/\atI xs i=some v/\Q v H
def Jcw (K:Frag):R2:=fun x y H Q=>∃ p xs i v,x=.ref p/\y=.int i/\SqT K H p xs/\atI xs i=some v/\Q v H
theorem Jb3:IxR X (JbH X.K):=by
 intro value slice pins s σ H x y v u Q I rx ry h hs;obtain ⟨p,xs,i,z,rfl,rfl,hq,he,q⟩:=h;cases rx;obtain ⟨t,rfl⟩:=ry;obtain ⟨its,r,pl,hz⟩:=I.list hq;obtain ⟨j,h1,h2,h3,h4,h5⟩:=J8p he;obtain ⟨w,ew,rw'⟩:=r.get h2;have hl:=r.length;have hn:=J3l;have fin:EP X pins σ Q w s:=⟨z,H,I,rw',q⟩;by_cases h0:0<=i
 ·have hj:i.toNat=j:=by
   rw [seqIndex_of h0 h5] at h1;exact yN h1
  exact item_listR pl.isList h0 (by omega) (by rw [hj];simpa using ew) fin hs
 ·have hj:(i+(its.toArray.size:Int)).toNat=j:=by
   rw [seqIndex_neg (by omega) h4] at h1;rw [yY,<- hl];exact yN h1
  exact subscriptTail_builtinR (x:=w) pl.isList.typeIs slot_list_getitem.lookup
   (wpAny_getItem_list_neg (Q:=fun r s'=>r=w/\EP X pins σ Q r s') pl.isList (by omega) (by rw [yY]<;>omega) (by omega) (by rw [hj];simpa using ew) ⟨rfl,fin⟩) hs
theorem Jc8:IxR X (Jcw X.K):=by
 intro value slice pins s σ H x y v u Q I rx ry h hs;obtain ⟨p,xs,i,z,rfl,rfl,hq,he,q⟩:=h;cases rx;obtain ⟨t,rfl⟩:=ry;obtain ⟨its,r,pl,hz⟩:=I.tuple hq;obtain ⟨j,h1,h2,h3,h4,h5⟩:=J8p he;obtain ⟨w,ew,rw'⟩:=r.get h2;have hl:=r.length;have hn:=J3l;have fin:EP X pins σ Q w s:=⟨z,H,I,rw',q⟩;exact subscriptTail_builtinR (x:=w) pl.typeIs slot_tuple_getitem.lookup
  (getItem_tuple (j:=j) (Q:=fun r s'=>r=w/\EP X pins σ Q r s') pl (by omega) (by omega) (by rw [yY,<- hl];exact h1) (by simpa using ew) ⟨rfl,fin⟩) hs
theorem J7l (its:List Value)(n j:Nat)(u:Value):Obj.mapSeq (·.setIfInBounds j u) { cls:=.type "list",data:=.seq its.toArray n }={ cls:=.type "list",data:=.seq (its.set j u).toArray n }:=by
 simp [Obj.mapSeq]
theorem Inv.lst {pins:List (Addr×Obj)}{σ:St}{H:Hp}{s:Shared}{p:Addr}{xs:List V}(I:Inv X pins σ H s)(h:H p=some (.lst xs)) :
 ∃ (its:List Value) (n:Nat),Vals xs its/\s.heap.get? p=some { cls:=.type "list",data:=.seq its.toArray n }/\xs.length<=sizeLine:=by
 obtain ⟨z,its,n,r,e⟩:=I.hok p _ h;exact ⟨its,n,r,e,z⟩
theorem Inv.lstUpd {pins:List (Addr×Obj)}{σ:St}{H:Hp}{s:Shared}{p:Addr}{xs ys:List V}{its its':List Value}{n n':Nat}{f:Obj->Obj}(I:Inv X pins σ H s)(h:H p=some (.lst xs))
 (ho:s.heap.get? p=some { cls:=.type "list",data:=.seq its.toArray n }) (hf:f { cls:=.type "list",data:=.seq its.toArray n }={ cls:=.type "list",data:=.seq its'.toArray n' }) (r:Vals ys its') (hz:ys.length<=sizeLine) (t:Nat) :
 Inv X pins σ (upd H p (.lst ys)) { s with heap:=s.heap.update p f,toks:=t }:=by
 have e:(s.heap.update p f).get? p=some { cls:=.type "list",data:=.seq its'.toArray n' }:=by
  rw [Heap.get?_update_self f ho (by rw [hf]<;>rfl),hf]
 refine I.write (x:=p) (e:=p) (by rw [h];trivial) (.inl rfl) (fun b u hb q=>(zw _ _ (Ne.symm hb)).trans q) ⟨_,e⟩ ?_;exact ⟨hz,its',n',r,e⟩
def Jcu:V->V->V->Hp->(Hp->Prop)->Prop:=fun o i v H Q=>∃ p xs k j,o=.ref p/\i=.int k/\H p=some (.lst xs)/\ixN xs.length k=some j/\Q (upd H p (.lst (xs.set j v)))
theorem J25:Jbg X Jcu:=by
 intro pins s σ H o i v ov iv u Q I ro ri rv h;obtain ⟨p,xs,k,j,rfl,rfl,hp,hj,q⟩:=h;cases ro;obtain ⟨t,rfl⟩:=ri;obtain ⟨its,n,r,ho,hz⟩:=I.lst hp;obtain ⟨h1,h2,h3,h4⟩:=J89 hj;have hl:=r.length;have hn:=J3l;have I':Inv X pins σ (upd H p (.lst (xs.set j v))) { s with heap:=s.heap.update p (Obj.mapSeq (·.setIfInBounds j u)) } :=
  I.lstUpd hp ho (J7l its n j u) (r.set rv j) (by rw [length_set];exact hz) s.toks
 by_cases h0:0<=k
 ·have hk:k.toNat=j:=by
   rw [seqIndex_of h0 h4] at h1;exact yN h1
  exact PySem.W.ki_setAt ho h0 (by omega) (by rw [yY,<- hl];exact h4) (by rw [hk];exact ⟨_,I',q⟩)
 ·have hk:(k+(its.toArray.size:Int)).toNat=j:=by
   rw [seqIndex_neg (by omega) h3] at h1;rw [yY,<- hl];exact yN h1
  exact PySem.W.ki_setBack ho (by omega) (by rw [yY,<- hl];exact h3) (by omega) (by rw [hk];exact ⟨_,I',q⟩)
theorem J5B (lo hi:Option Int)(n:Nat):(sliceBounds lo hi none n).1=((HT.sIx n 0 lo:Nat):Int)/\(sliceBounds lo hi none n).2.1=((HT.sIx n n hi:Nat):Int)/\(sliceBounds lo hi none n).2.2=1:=by
 refine ⟨?_,?_,rfl⟩
 ·cases lo with
  | none=>simp [sliceBounds,HT.sIx]
  | some i =>
    simp only [sliceBounds,HT.sIx,Option.getD_none,show (1:Int) > 0 by decide,if_true];by_cases h:i<0
    ·simp only [h,if_true]<;>omega
    ·simp only [h,if_false]<;>omega
 ·cases hi with
  | none=>simp [sliceBounds,HT.sIx]
  | some i =>
    simp only [sliceBounds,HT.sIx,Option.getD_none,show (1:Int) > 0 by decide,if_true];by_cases h:i<0
    ·simp only [h,if_true]<;>omega
    ·simp only [h,if_false]<;>omega
theorem J4S (its:List Value)(lo hi:Option Int):slicePick its.toArray lo hi none=((its.drop (HT.sIx its.length 0 lo)).take (HT.sIx its.length its.length hi - HT.sIx its.length 0 lo)).toArray:=by
 obtain ⟨h1,h2,h3⟩:=J5B lo hi its.toArray.size;unfold slicePick;rw [h1,h2,h3];simp only [sliceRange_one,pick_run,yY]<;>rfl
def JaL (K:Frag):V->Option Int->Option Int->Hp->VK->Prop:=fun x lo hi H Q=>∃ a xs,x=.ref a/\SqL K H a xs/\∀ p,H p=none->Q (.ref p) (upd H p (.lst (J2i xs lo hi)))
theorem JaE:SlR X (JaL X.K):=by
 intro pins s σ H x v vl vu lo hi sl Q I rx hs pl pu h;obtain ⟨a,xs,rfl,hx,q⟩:=h;cases rx;obtain ⟨its,r,ht,hz⟩:=I.list hx;have J05:=r.length;refine ⟨"list",_,slot_list_getitem.lookup,ht.isList.typeIs,?_⟩;refine wpAny_getItem_list_slice ht.isList hs pl pu .none (by simp) ?_ (by rw [yY]<;>omega);rw [J4S,<- J05];refine ⟨.ref s.heap.objs.size,_,I.laid (t':=s.toks) (o:=.lst (J2i xs lo hi)) (fun b ob q=>zr _ q) (yJ _) ?_,rfl,q _ (I.hok.fresh (yJ _))⟩;exact ⟨yR (J3A xs lo hi) hz,_,0,(r.drop (HT.sIx xs.length 0 lo)).take (HT.sIx xs.length xs.length hi - HT.sIx xs.length 0 lo),zt _ rfl⟩
theorem J63:J0i X (.builtin "len") (fun xs H Q=>∃ p ys,xs=[.ref p]/\(SqL X.K H p ys\/SqT X.K H p ys)/\Q (.int ys.length) H):=by
 intro pins s σ H xs us Q I r h;obtain ⟨p,ys,rfl,hq,q⟩:=h;obtain ⟨u,rfl,rx⟩:=J1C r;cases rx;have hn:=J3l;rcases hq with hq | hq
 ·obtain ⟨its,r',pl,hz⟩:=I.list hq
  have J05:=r'.length;exact Calls.call_len_list pl.isList (by simp only [yY]<;>omega) ⟨.int ys.length,H,I.tok _,⟨s.toks+1,by rw [yY,J05]⟩,q⟩
 ·obtain ⟨its,r',pl,hz⟩:=I.tuple hq
  have J05:=r'.length;exact len_tuple pl (by simp only [yY]<;>omega) ⟨.int ys.length,H,I.tok _,⟨s.toks+1,by rw [yY,J05]⟩,q⟩
theorem J62:J0i X (.type "list") (fun xs H Q=>∃ p ys,xs=[.ref p]/\(SqL X.K H p ys\/SqT X.K H p ys)/\∀ l,H l=none->Q (.ref l) (upd H l (.lst ys))):=by
 intro pins s σ H xs us Q I r h;obtain ⟨p,ys,rfl,hq,q⟩:=h;obtain ⟨u,rfl,rx⟩:=J1C r;cases rx;have fin:∀ (its:List Value),Vals ys its->ys.length<=sizeLine->∀ (h':Heap) (c':Nat),(∀ b o',s.heap.get? b=some o'->h'.get? b=some o') ->
  h'.get? s.heap.objs.size=some { cls:=.type "list",dict:=none,data:=.seq its.toArray c',slots:=#[] }->EP X pins σ Q (.ref s.heap.objs.size) { s with heap:=h' }:=fun its r' hz h' c' kp e =>
  ⟨.ref s.heap.objs.size,_,I.laid (t':=s.toks) kp (yJ _) (show ObjOk X.prog X.w _ h' _ (.lst ys) from ⟨hz,its,c',r',e⟩),rfl,q _ (I.hok.fresh (yJ _))⟩
 rcases hq with hq | hq
 ·obtain ⟨its,r',pl,hz⟩:=I.list hq
  have J05:=r'.length;obtain ⟨o,ho,hc,n,hd⟩:=pl.isList;exact call_list_seq p (.inl rfl) ho hc hd (fun h' c' kp e=>fin its r' hz h' c' kp e) (by simp only [yY]<;>omega)
 ·obtain ⟨its,r',pl,hz⟩:=I.tuple hq
  have J05:=r'.length;obtain ⟨o,ho,hc,n,hd⟩:=pl;exact call_list_seq p (.inr rfl) ho hc hd (fun h' c' kp e=>fin its r' hz h' c' kp e) (by simp only [yY]<;>omega)
def tyV (K:Frag)(T:String)(x:V)(H:Hp):Prop:=match x with
 | .str _=>T="str"
 | .int _=>T="int"
 | .ref p=>(T="list"/\∃ xs,SqL K H p xs)\/(T="tuple"/\∃ o,K.lookup p=some o/\o.cls=.type "tuple"/\o.dict=none) \/
  (T="dict"/\((∃ kvs,H p=some (.dK kvs))\/∃ kvs,H p=some (.dT kvs)))\/(T="set"/\∃ S n,H p=some (.set S n))
 | _=>False
theorem tyV_is {pins:List (Addr×Obj)}{σ:St}{H:Hp}{s:Shared}{T:String}{x:V}{v:Value}(I:Inv X pins σ H s)(r:RelV x v)(ty:tyV X.K T x H) :
 s.TypeIs v T/\∀ a,v=.ref a->∃ ob,s.heap.get? a=some ob/\ob.dict=none:=by
 cases x with
 | str z =>
   obtain ⟨t,rfl⟩:=r;cases (show T="str" from ty);exact ⟨typeIs_str s z t,fun _ e=>nomatch e⟩
 | int i =>
   obtain ⟨t,rfl⟩:=r;cases (show T="int" from ty);exact ⟨typeIs_int s i t,fun _ e=>nomatch e⟩
 | ref p =>
   cases r;rcases ty with ⟨rfl,xs,hq⟩ | ⟨rfl,o,hk,hc,hd⟩ | ⟨rfl,hk⟩ | ⟨rfl,S,n,hk⟩
   ·obtain ⟨its,_,pl,_⟩:=I.list hq
    refine ⟨pl.isList.typeIs,fun a e=>?_⟩;cases e;obtain ⟨o,n,e,c,hd,_⟩:=pl;exact ⟨o,e,hd⟩
   ·refine ⟨⟨o,I.kIn p o hk,hc⟩,fun a e=>?_⟩
    cases e;exact ⟨o,I.kIn _ o hk,hd⟩
   ·have z:∃ o,s.heap.get? p=some o/\o.ExactDict:=by
     rcases hk with ⟨kvs,hk⟩ | ⟨kvs,hk⟩
     ·obtain ⟨_,_,_,_,o,_,_,e,ex,_⟩:=I.hok p _ hk
      exact ⟨o,e,ex⟩
     ·obtain ⟨_,_,_,_,o,_,_,e,ex,_⟩:=I.hok p _ hk
      exact ⟨o,e,ex⟩
    obtain ⟨o,e,ex⟩:=z;refine ⟨⟨o,e,ex.1⟩,fun a e2=>?_⟩;cases e2;exact ⟨o,e,ex.2.1⟩
   ·obtain ⟨o,_,_,_,e,ex,_⟩:=I.hok p _ hk
    refine ⟨⟨o,e,ex.1⟩,fun a e2=>?_⟩;cases e2;exact ⟨o,e,ex.2.1⟩
 | _=>exact yS ty
def Jdv (K:Frag)(T:String)(r:V->List V->Hp->VK->Prop)(to:TE):TE:=fun σ H Q=>to σ H fun x H1=>tyV K T x H1/\r x [] H1 Q
def tBM (K:Frag)(T:String)(r:V->List V->Hp->VK->Prop)(to:TE)(t:TA):TE:=fun σ H Q=>to σ H fun x H1=>tyV K T x H1/\t σ H1 fun xs H2=>r x xs H2 Q
variable {o e:Expr}{es:List Expr}{to:TE}{t:TA}{name:Str}{apos cpos:Pos}{T id:String}{r:V->List V->Hp->VK->Prop}
theorem Jcy (pa:PlainAttrs T)(slot:Slot T name id)(hty:typeOf (.builtin id)=pure (.type "method_descriptor"))(hm:MtR X id r)(ho:PE X o to)(ha:PA X (e::es) t)
 (hbase:attributeBase o name X.env (eval o X.env)=eval o X.env:=by rfl)
 (hfew:((backTo cpos (starEach (e::es) X.env)).all (fun x=>!x.1)&&(backToKw cpos (keywordEach [] X.env)).all (fun x=>x.1.isSome)
  && decide ((e::es).length+([]:List Keyword).length+(if ([]:List Keyword).isEmpty then 0 else 1)<30))=true:=by rfl)
 (hline:(apos.endLine == cpos.line)=true:=by rfl) (hs:starEach (e::es) X.env=(false,eval e X.env)::starEach es X.env:=by rfl) (hplain:(backTo cpos (starEach es X.env)).any (·.1)=false:=by rfl) :
 PE X (.Call (.Attribute o name apos) (e::es) [] cpos) (tBM X.K T r to t):=by
 intro pins s σ H Q I h;refine wpAny_Call_method_late hbase hfew hline rfl (thn (ho pins s σ H _ I h) fun v s1 ⟨x,H1,I1,r1,ty,q1⟩=>?_);obtain ⟨h1,h2⟩:=tyV_is I1 r1 ty;refine ⟨T,id,pa,slot,hty,h1,h2,?_⟩;have hA:=ha cpos pins s1 σ H1 _ I1 q1;rw [hs] at hA ⊢;refine Calls.callWith_builtin (by show (false||(backTo cpos (starEach es X.env)).any (·.1))=false;rw [hplain]<;>rfl) (Calls.evalArgs_plain ?_);exact thn hA fun us s2 ⟨vs,H2,I2,r2,q2⟩=>hm pins s2 σ H2 x vs v us Q I2 r1 r2 q2
end
def MtM (X:Cx)(id:String)(r:V->List V->Hp->VK->Prop):Prop :=
 ∀ (pins:List (Addr×Obj)) (s:Shared) (σ:St) (H:Hp) (x:V) (xs:List V) (v:Value) (us:List Value) (Q:VK),Inv X pins σ H s->RelV x v->Vals xs us->r x xs H Q ->
   wpAny (model X.prog X.w) X.A (call (.builtin id) (v::us)) (EP X pins σ Q) X.xe s
theorem Vals.one:∀ {x:V} {us:List Value},Vals [x] us->∃ u,us=[u]/\RelV x u
 | _,_,.cons r .nil=>⟨_,rfl,r⟩
theorem Vals.eraseIdx:∀ {xs:List V} {us:List Value} (i:Nat),Vals xs us->Vals (xs.eraseIdx i) (us.eraseIdx i)
 | _,_,_,.nil=>.nil
 | _,_,0,.cons _ t=>t
 | _,_,i+1,.cons r t=>.cons r (Vals.eraseIdx i t)
theorem Vals.rep {xs:List V}{us:List Value}(h:Vals xs us):∀ k:Nat,Vals (List.replicate k xs).flatten (List.replicate k us).flatten
 | 0=>.nil
 | k+1=>by
   rw [replicate_succ,replicate_succ,flatten_cons,flatten_cons];exact Vals.append h (Vals.rep h k)
theorem J5a {α:Type}:∀ (l:List α) (i:Nat),(l.eraseIdx i).length<=l.length
 | [],_=>yJ _
 | _::_,0=>Nat.le_succ _
 | _::r,i+1=>Nat.succ_le_succ (J5a r i)
theorem J5f (its:List Value):∀ (k:Nat) (acc:List Value),
 List.foldl (fun x1 x2=>x1++x2) acc.toArray (List.replicate k its.toArray)=(acc++(List.replicate k its).flatten).toArray
 | 0,acc=>by simp
 | k + 1,acc=>by
   have e:acc.toArray++its.toArray=(acc++its).toArray:=by simp
   have e2:(acc++its)++(List.replicate k its).flatten=acc++(List.replicate (k+1) its).flatten:=by
    rw [replicate_succ,flatten_cons,zp]
   rw [<- e2,<- J5f its k (acc++its),<- e,replicate_succ,foldl_cons]
section
variable {X:Cx}{pins:List (Addr×Obj)}{σ:St}{H:Hp}{s:Shared}{l b:Addr}{xs ys zs:List V}
theorem Inv.lset {its its':List Value}{n:Nat}{f:Array Value->Array Value}{t':Nat}(I:Inv X pins σ H s)(hH:H l=some (.lst xs))
 (e:s.heap.get? l=some { cls:=.type "list",data:=.seq its.toArray n }) (hf:f its.toArray=its'.toArray) (hv:Vals ys its') (hz:ys.length<=sizeLine) :
 Inv X pins σ (upd H l (.lst ys)) { s with heap:=s.heap.update l (Obj.mapSeq f),toks:=t' }:=by
 have q:=PySem.IsL.update e f;rw [hf] at q;refine I.write (x:=l) (e:=l) (by rw [hH];exact trivial) (.inl rfl) (fun b' u hb hu=>(zw s.heap (Obj.mapSeq f) (Ne.symm hb)).trans hu) ⟨_,q⟩ ?_;exact ⟨hz,its',_,hv,q⟩
theorem Inv.lnew {its:List Value}{t':Nat}(I:Inv X pins σ H s)(hv:Vals ys its)(hz:ys.length<=sizeLine) :
 Inv X pins σ (upd H s.heap.objs.size (.lst ys)) { s with heap:=s.heap.push { cls:=.type "list",data:=.seq its.toArray },toks:=t' } :=
 I.laid (fun _ _ q=>zr _ q) (yJ _) ⟨hz,its,0,hv,zt _ rfl⟩
theorem Inv.fresh (I:Inv X pins σ H s):H s.heap.objs.size=none:=I.hok.fresh (yJ _)
theorem Inv.lstM (I:Inv X pins σ H s)(hH:H l=some (.lst xs)):xs.length<=sizeLine/\∃ (its:List Value) (n:Nat),Vals xs its/\xs.length=its.length/\s.heap.get? l=some { cls:=.type "list",data:=.seq its.toArray n }:=by
 obtain ⟨z,its,n,r,e⟩:=I.hok l _ hH;exact ⟨z,its,n,r,r.length,e⟩
theorem J6u {n:Nat}(h:n<=sizeLine):Builtin.List.listTooLong n=false:=by
 unfold Builtin.List.listTooLong;exact yM (by omega)
end
section
variable {X:Cx}
def J7X:V->List V->Hp->VK->Prop:=fun x vs H Q=>∃ l xs y,x=.ref l/\vs=[y]/\H l=some (.lst xs)/\xs.length<sizeLine/\Q .non (upd H l (.lst (xs++[y])))
theorem J0b:MtM X "list.append" J7X:=by
 intro pins s σ H x vs v us Q I rx rv h;obtain ⟨l,xs,y,rfl,rfl,hH,hz,q⟩:=h;cases rx;obtain ⟨u,rfl,ru⟩:=rv.one;obtain ⟨z,its,n,r,hl,e⟩:=I.lstM hH;refine call_meets F.slot_list_append ⟨_,e,rfl⟩ F.entry_list_append (F.args_list_append_2 _ _) (PySem.list_append l its.toArray n u (by rw [yY];omega)) ⟨e,?_⟩;refine ⟨.non,_,I.lset (its':=its++[u]) hH e (by simp) (r.append (.cons ru .nil)) ?_,rfl,q⟩;rw [y6,length_singleton];omega
def JbG:V->List V->Hp->VK->Prop:=fun x vs H Q=>∃ l xs i k y,x=.ref l/\vs=[.int i]/\H l=some (.lst xs)/\-(2 ^ 63)<=i/\i<2 ^ 63/\seqIndex? i xs.length=some k/\xs[k]?=some y/\Q y (upd H l (.lst (xs.eraseIdx k)))
theorem J9X:MtM X "list.pop" JbG:=by
 intro pins s σ H x vs v us Q I rx rv h;obtain ⟨l,xs,i,k,y,rfl,rfl,hH,h1,h2,hk,hy,q⟩:=h;cases rx;obtain ⟨u,rfl,ru⟩:=rv.one;obtain ⟨t,rfl⟩:=ru;obtain ⟨z,its,n,r,hl,e⟩:=I.lstM hH;obtain ⟨w,hw,rw'⟩:=r.get hy;refine call_meets F.slot_list_pop ⟨_,e,rfl⟩ F.entry_list_pop (F.args_list_pop_2 _ _)
  (MeetsSeq.list_pop_at l its.toArray n i t k w (fitsIndex_both h1 h2) (by rw [yY,<- hl];exact hk) (by rw [<- Array.getElem?_toList];exact hw) (by rw [yY];omega)) ⟨e,?_⟩
 refine ⟨y,_,I.lset (its':=its.eraseIdx k) hH e ?_ (r.eraseIdx k) ?_,rw',q⟩
 ·show its.toArray.eraseIdxIfInBounds k=(its.eraseIdx k).toArray
  rw [eraseIdxIfInBounds_toArray]
 ·have:=J5a xs k
  omega
def Jcx:R2:=fun x y H Q=>∃ l b xs zs,x=.ref l/\y=.ref b/\H l=some (.lst xs)/\H b=some (.lst zs)/\xs.length+zs.length<=sizeLine/\∀ p,H p=none->Q (.ref p) (upd H p (.lst (xs++zs)))
theorem J0X:OpR X (binaryOp .Add) Jcx:=by
 intro pins s σ H x y v u Q I rx ry h;obtain ⟨l,b,xs,zs,rfl,rfl,hH,hB,hz,q⟩:=h;cases rx;cases ry;obtain ⟨z,its,n,r,hl,e⟩:=I.lstM hH;obtain ⟨z2,its2,n2,r2,hl2,e2⟩:=I.lstM hB;refine PySem.P.add_list e e2 ?_ (by rw [yY,yY];omega);have ea:its.toArray++its2.toArray=(its++its2).toArray:=by simp
 rw [ea];exact ⟨.ref _,_,I.lnew (t':=s.toks) (r.append r2) (by rw [y6];omega),rfl,q _ I.fresh⟩
def JcW:R2:=fun x y H Q=>∃ l k xs,x=.ref l/\y=.int k/\H l=some (.lst xs)/\-(2 ^ 63)<=k/\k<2 ^ 63/\xs.length * k.toNat<=sizeLine /\
 ∀ p,H p=none->Q (.ref p) (upd H p (.lst (List.replicate k.toNat xs).flatten))
theorem Jb1 {α:Type}(xs:List α)(k:Nat):(List.replicate k xs).flatten.length=k * xs.length:=by
 induction k with
 | zero=>simp
 | succ k ih=>rw [replicate_succ,flatten_cons,y6,ih,Nat.succ_mul,Nat.add_comm]
theorem J9S:OpR X (binaryOp .Mult) JcW:=by
 intro pins s σ H x y v u Q I rx ry h;obtain ⟨l,k,xs,rfl,rfl,hH,h1,h2,hz,q⟩:=h;cases rx;obtain ⟨t,rfl⟩:=ry;obtain ⟨z,its,n,r,hl,e⟩:=I.lstM hH;have J05:its.toArray.size * k.toNat<=sizeLine:=by rw [yY,<- hl];exact hz
 have hcap:¬ its.toArray.size * k.toNat > (2 ^ 63 - 1) / 8:=by
  have:(sizeLine:Nat)<=(2 ^ 63 - 1) / 8:=by decide
  omega
 have hfit:¬ (!Builtin.List.listFitsIndex k)=true:=by
  rw [fitsIndex_both h1 h2];exact yK
 have hlong:¬ Builtin.List.listTooLong (its.toArray.size * k.toNat)=true:=by
  rw [J6u J05];exact yK
 have hnew:List.foldl (fun x1 x2=>x1++x2) #[] (List.replicate (if its.toArray.isEmpty=true then 0 else k.toNat) its.toArray)=(List.replicate k.toNat its).flatten.toArray:=by
  have f0:∀ m:Nat,List.foldl (fun x1 x2=>x1++x2) #[] (List.replicate m its.toArray)=(List.replicate m its).flatten.toArray:=fun m=>by
   have:=J5f its m [];rw [nil_append] at this;exact this
  rw [f0];cases its with
  | nil=>simp
  | cons a r'=>rw [yH (by simp)]
 refine wpAny_binaryOp_repeat_ref (T:="list") (U:="int") (by decide) ⟨_,e,rfl⟩ (fun s'=>typeIs_int s' k t) noFill_list_mul F.fills_int_mul F.slot_int_rmul repeat_list F.slot_int_index.lookup
  (call_meets F.slot_int_rmul (typeIs_int s k t) F.entry_int_rmul (F.args_int_rmul_2 _ _) (int___rmul___int_list k t l its.toArray n)
   ⟨e,rfl,⟨_,e,rfl⟩,call_meets F.slot_list_mul ⟨_,e,rfl⟩ F.entry_list_mul (F.args_list_mul_2 _ _) (AutoListH.list___mul___list_int_3 l its.toArray n k t hfit hcap hlong) ⟨e,?_⟩⟩)
 rw [hnew];exact ⟨.ref _,_,I.lnew (t':=s.toks) (r.rep k.toNat) (by rw [Jb1,Nat.mul_comm];exact hz),rfl,q _ I.fresh⟩
end
section
variable {κ:Type}[DecidableEq κ]
def J0I (kvs:List (κ×V))(k:κ):Option V:=(kvs.find? fun kv=>decide (kv.1=k)).map (·.2)
def J1b (kvs:List (κ×V))(k:κ)(v:V):List (κ×V) :=
 if (kvs.any fun kv=>decide (kv.1=k))=true then kvs.map (fun kv=>if kv.1=k then (kv.1,v) else kv) else kvs++[(k,v)]
def JcI (kvs:List (κ×V))(k:κ):List (κ×V):=kvs.filter fun kv=>decide (kv.1≠k)
theorem J21 {p:κ×V}{r:List (κ×V)}{k:κ}(e:p.1=k):J0I (p::r) k=some p.2:=by simp [J0I,List.find?_cons,e]
theorem J22 {p:κ×V}{r:List (κ×V)}{k:κ}(e:¬ p.1=k):J0I (p::r) k=J0I r k:=by simp [J0I,List.find?_cons,e]
theorem J67 (k:κ):∀ kvs:List (κ×V),(kvs.any fun kv=>decide (kv.1=k))=(J0I kvs k).isSome
 | []=>rfl
 | p::r=>by
   rw [any_cons];by_cases e:p.1=k
   ·simp only [J21 e,yL e,Bool.true_or,Option.isSome_some]
   ·rw [J22 e,yM e,Bool.false_or];exact J67 k r
theorem J2d (kvs:List (κ×V))(k:κ)(v:V):(J1b kvs k v).length<=kvs.length+1:=by
 unfold J1b
 split
 ·rw [yW];omega
 ·rw [y6,length_cons,length_nil];omega
theorem RelO.isSome_eq {o:Option V}{u:Option Value}(r:RelO o u):o.isSome=u.isSome:=by
 cases o with
 | none=>cases u with
   | none=>rfl
   | some _=>exact (show False from r).elim
 | some _=>cases u with
   | none=>exact (show False from r).elim
   | some _=>rfl
theorem KV.val {kvs:List (κ×V)}{vs:List (κ×Value)}(r:KV kvs vs)(k:κ):RelO (J0I kvs k) (valueAt vs k):=by
 unfold KV at r
 induction r with
 | nil=>exact True.intro
 | @cons p q ps qs h t ih =>
   obtain ⟨h1,h2⟩:=h;by_cases e:p.1=k
   ·have e':q.1=k:=h1.symm.trans e
    have b:valueAt (q::qs) k=some q.2:=by simp [valueAt,List.find?_cons,e']
    rw [J21 e,b];exact h2
   ·have e':¬ q.1=k:=fun z=>e (h1.trans z)
    have b:valueAt (q::qs) k=valueAt qs k:=by simp [valueAt,List.find?_cons,e']
    rw [J22 e,b];exact ih
theorem KV.any {kvs:List (κ×V)}{vs:List (κ×Value)}(r:KV kvs vs)(k:κ):(kvs.any fun kv=>decide (kv.1=k))=vs.any fun kv=>decide (kv.1=k):=by
 unfold KV at r
 induction r with
 | nil=>rfl
 | cons h t ih=>rw [any_cons,any_cons,ih,h.1]
theorem KV.repl {kvs:List (κ×V)}{vs:List (κ×Value)}(r:KV kvs vs)(k:κ){y:V}{u:Value}(ry:RelV y u) :
 KV (kvs.map fun kv=>if kv.1=k then (kv.1,y) else kv) (vs.map fun kv=>if kv.1=k then (kv.1,u) else kv):=by
 unfold KV at r ⊢
 induction r with
 | nil=>exact .nil
 | @cons p q ps qs h t ih =>
   rw [zd,zd];refine .cons ?_ ih;obtain ⟨h1,h2⟩:=h;by_cases e:p.1=k
   ·rw [yI e,yI (h1.symm.trans e)];exact ⟨h1,ry⟩
   ·rw [yH e,yH (fun z=>e (h1.trans z))];exact ⟨h1,h2⟩
theorem KV.put {kvs:List (κ×V)}{vs:List (κ×Value)}(r:KV kvs vs)(k:κ){y:V}{u:Value}(ry:RelV y u):KV (J1b kvs k y) (stored vs k u):=by
 unfold J1b stored;rw [r.any k];by_cases e:(vs.any fun kv=>decide (kv.1=k))=true
 ·rw [yI e,yI e];exact r.repl k ry
 ·rw [yH e,yH e];exact Paired.snoc r ⟨rfl,ry⟩
theorem KV.keys {kvs:List (κ×V)}{vs:List (κ×Value)}(r:KV kvs vs):kvs.map (·.1)=vs.map (·.1):=by
 unfold KV at r
 induction r with
 | nil=>rfl
 | cons h t ih=>rw [zd,zd,ih,h.1]
theorem KV.length {kvs:List (κ×V)}{vs:List (κ×Value)}(r:KV kvs vs):kvs.length=vs.length:=Paired.length r
end
theorem J5b {P:Program}{w:World}{k:Key}{u:Value}(r:RelV (kV k) u):(J09 P w).is k u=true:=by
 cases k with
 | inl i=>obtain ⟨t,e⟩:=(show ∃ t,u=Value.int i t from r);subst e;exact J6y P w i t
 | inr x=>obtain ⟨t,e⟩:=(show ∃ t,u=Value.str x t from r);subst e;exact J6x P w x t
theorem Jbq {P:Program}{w:World}{k:J0l}{u:Value}(r:RelV (nV k) u):(JZ P w).is k u=true:=by
 cases k with
 | none=>cases (show u=Value.none from r);rfl
 | some k=>exact J5b (P:=P) (w:=w) (k:=k) r
theorem J5c {P:Program}{w:World}:∀ {ks:List J0l} {us:List Value},Vals (ks.map nV) us->ItemsAre (JZ P w) ks us
 | [],_,r=>by rw [map_nil] at r;cases r;exact .nil
 | k::ks,_,r=>by
   rw [zd] at r;cases r with
   | cons h t=>exact .cons (Jbq h) (J5c t)
abbrev KT (H:Hp):List (List J0l×V)->List (List J0l×Addr×Value)->Prop:=Paired fun p q=>p.1=q.1/\H q.2.1=some (.tup (p.1.map nV))/\RelV p.2 q.2.2
theorem KT.val {H:Hp}{kvs:List (List J0l×V)}{xs:List (List J0l×Addr×Value)}(r:KT H kvs xs)(k:List J0l):RelO (J0I kvs k) ((atKey xs k).map (·.2)):=by
 induction r with
 | nil=>exact True.intro
 | @cons p q ps qs h t ih =>
   obtain ⟨h1,_,h2⟩:=h;by_cases e:p.1=k
   ·have e':q.1=k:=h1.symm.trans e
    have b:atKey (q::qs) k=some q.2:=by simp [atKey,List.find?_cons,e']
    rw [J21 e,b];exact h2
   ·have e':¬ q.1=k:=fun z=>e (h1.trans z)
    have b:atKey (q::qs) k=atKey qs k:=by simp [atKey,List.find?_cons,e']
    rw [J22 e,b];exact ih
theorem KT.repl {H:Hp}{kvs:List (List J0l×V)}{xs:List (List J0l×Addr×Value)}(r:KT H kvs xs)(k:List J0l){y:V}{u:Value}(ry:RelV y u) :
 KT H (kvs.map fun kv=>if kv.1=k then (kv.1,y) else kv) (xs.map (putAt k u)):=by
 induction r with
 | nil=>exact .nil
 | @cons p q ps qs h t ih =>
   rw [zd,zd];refine .cons ?_ ih;obtain ⟨h1,h2,h3⟩:=h;unfold putAt;by_cases e:p.1=k
   ·rw [yI e,yI (h1.symm.trans e)];exact ⟨h1,h2,ry⟩
   ·rw [yH e,yH (fun z=>e (h1.trans z))];exact ⟨h1,h2,h3⟩
theorem KT.put {H:Hp}{kvs:List (List J0l×V)}{xs:List (List J0l×Addr×Value)}(r:KT H kvs xs)(k:List J0l){b:Addr}{y:V}{u:Value}(hb:H b=some (.tup (k.map nV)))(ry:RelV y u) :
 KT H (J1b kvs k y) (storedH xs k b u):=by
 have e:(kvs.any fun kv=>decide (kv.1=k))=(atKey xs k).isSome:=by
  rw [J67,(r.val k).isSome_eq,Option.isSome_map]
 unfold J1b storedH;rw [e];by_cases q:(atKey xs k).isSome=true
 ·rw [yI q,yI q];exact r.repl k ry
 ·rw [yH q,yH q];exact Paired.snoc r ⟨rfl,hb,ry⟩
theorem KT.keeps {H H':Hp}{kvs:List (List J0l×V)}{xs:List (List J0l×Addr×Value)}(r:KT H kvs xs)(ht:∀ b ys,H b=some (.tup ys)->H' b=some (.tup ys)):KT H' kvs xs :=
 Paired.mapP r fun _ _ z=>⟨z.1,ht _ _ z.2.1,z.2.2⟩
section
variable {P:Program}{w:World}{H:Hp}{h:Heap}{a:Addr}
theorem Jbk {u:HO}(ok:HOk P w H h)(e:Rd H a u):ObjOk P w H h a u:=e.ok ok
theorem J6R {kvs:List (Key×V)}(ok:HOk P w H h)(e:Rd H a (.dK kvs)):kvs.length<=sizeLine/\(a == sysModules)=false/\∃ vs,KV kvs vs/\h.DictOf (J09 P w) a vs :=
 show ObjOk P w H h a (.dK kvs) from Jbk ok e
theorem Jah {kvs:List (Key×V)}(ok:HOk P w H h)(e:H a=some (.dK kvs)):kvs.length<=sizeLine/\(a == sysModules)=false/\∃ vs,KV kvs vs/\h.DictOf (J09 P w) a vs:=J6R ok (.inl e)
theorem J3m {ks:List J0l}(ok:HOk P w H h)(e:H a=some (.tup (ks.map nV))):(tupleKind (JZ P w)).is h ks a:=by
 obtain ⟨_,its,r,o,h1,h2,n,h3⟩:=(show ObjOk P w H h a (.tup (ks.map nV)) from ok a _ e);exact ⟨o,its.toArray,n,h1,h2,h3,by simpa using J5c r⟩
theorem dt_rd {kvs:List (List J0l×V)}(ok:HOk P w H h)(e:Rd H a (.dT kvs)):kvs.length<=sizeLine/\(a == sysModules)=false /\
 ∃ xs,KT H kvs xs/\h.DictOfH (tupleKind (JZ P w)) a xs:=by
 obtain ⟨z,y,xs,r,o,es,ep,h1,h2,h3,h4,h5⟩:=(show ObjOk P w H h a (.dT kvs) from Jbk ok e);refine ⟨z,y,xs,r,o,es,ep,h1,h2,h3,h4,fun x hx=>?_,h5⟩;have all:∀ {l:List (List J0l×V)} {m:List (List J0l×Addr×Value)},KT H l m->∀ x∈m,(tupleKind (JZ P w)).is h x.1 x.2.1:=by
  intro l m q
  induction q with
  | nil=>intro x hx;exact nomatch hx
  | @cons p q ps qs hq t ih =>
    intro x hx;rcases zc.mp hx with e | hx
    ·subst e
     exact J3m ok (by rw [<- hq.1];exact hq.2.1)
    ·exact ih x hx
 exact all r x hx
theorem JcH {kvs:List (List J0l×V)}(ok:HOk P w H h)(e:H a=some (.dT kvs)):kvs.length<=sizeLine/\(a == sysModules)=false /\
 ∃ xs,KT H kvs xs/\h.DictOfH (tupleKind (JZ P w)) a xs:=dt_rd ok (.inl e)
end
def DGet (H:Hp)(a:Addr)(y:V)(r:Option V):Prop :=
 (∃ kvs k,Rd H a (.dK kvs)/\y=kV k/\r=J0I kvs k)\/∃ kvs k b,Rd H a (.dT kvs)/\y=.ref b/\H b=some (.tup (k.map nV))/\r=J0I kvs k
def DPut (H:Hp)(a:Addr)(y v:V)(H':Hp):Prop :=
 (∃ kvs k,H a=some (.dK kvs)/\y=kV k/\kvs.length<sizeLine/\H'=upd H a (.dK (J1b kvs k v))) \/
 ∃ kvs k b,H a=some (.dT kvs)/\y=.ref b/\H b=some (.tup (k.map nV))/\kvs.length<sizeLine/\H'=upd H a (.dT (J1b kvs k v))
theorem DGet.k {H:Hp}{a:Addr}{kvs:List (Key×V)}{k:Key}(e:H a=some (.dK kvs)):DGet H a (kV k) (J0I kvs k):=.inl ⟨kvs,k,.inl e,rfl,rfl⟩
theorem DPut.k {H:Hp}{a:Addr}{kvs:List (Key×V)}{k:Key}{v:V}(e:H a=some (.dK kvs))(hl:kvs.length<sizeLine):DPut H a (kV k) v (upd H a (.dK (J1b kvs k v))):=.inl ⟨kvs,k,e,rfl,hl,rfl⟩
section
variable {X:Cx}{pins:List (Addr×Obj)}{σ:St}{H:Hp}{s:Shared}{a:Addr}{y v:V}{u r:Value}{o:Option V}{A:Around}{E:Value->Shared->Prop}
theorem Inv.big (I:Inv X pins σ H s):sysModules<s.heap.objs.size:=by
 have h:mainGlobals<s.heap.objs.size:=(I.mod.glob.keeps I.bk).lt;exact Nat.lt_trans (by decide) h
theorem J8R {Q:Value->Shared->Prop}(hu:A.units+1<cLine)(I:Inv X pins σ H s)(g:DGet H a y (some v))(ry:RelV y u)(h:∀ w' s',Inv X pins σ H s'->RelV v w'->Q w' s') :
 wpAny (model X.prog X.w) A (getItem (.ref a) u) Q E s:=by
 rcases g with ⟨kvs,k,e,ey,l⟩ | ⟨kvs,k,b,e,ey,eb,l⟩
 ·subst ey
  obtain ⟨z,hd,vs,rel,dd⟩:=J6R I.hok e;obtain ⟨w',hw,rw'⟩:=RelO.some_of (v:=v) (o:=valueAt vs k) (by rw [l];exact rel.val k);exact wpAny_getItem_of (J5b ry) dd.mapOf hw (h w' _ (I.tok _) rw')
 ·subst ey
  cases (show u=Value.ref b from ry);obtain ⟨z,hd,xs,rel,dd⟩:=dt_rd I.hok e;obtain ⟨w',hw,rw'⟩:=RelO.some_of (v:=v) (o:=(atKey xs k).map (·.2)) (by rw [l];exact rel.val k);obtain ⟨p,hp,hp2⟩:=Option.map_eq_some_iff.mp hw;refine wpAny_getItem_heap (tupleKind_room_in1 hu) (J3m I.hok eb) dd hp ?_;rw [hp2];exact h w' _ (I.tok _) rw'
theorem Jd5 {Q:Value->Shared->Prop}(hu:A.units+1<cLine)(I:Inv X pins σ H s)(g:DGet H a y o)(ry:RelV y u)(h:∀ s',Inv X pins σ H s'->Q (.bool o.isSome) s') :
 wpAny (model X.prog X.w) A (compareOp .In u (.ref a)) Q E s:=by
 rcases g with ⟨kvs,k,e,ey,l⟩ | ⟨kvs,k,b,e,ey,eb,l⟩
 ·subst ey
  obtain ⟨z,hd,vs,rel,dd⟩:=J6R I.hok e;refine wpAny_in_of (J5b ry) hd dd.mapOf ?_;rw [<- (rel.val k).isSome_eq,<- l];exact h _ (I.tok _)
 ·subst ey
  cases (show u=Value.ref b from ry);obtain ⟨z,hd,xs,rel,dd⟩:=dt_rd I.hok e;refine wpAny_in_heap (tupleKind_room_in1 hu) (J3m I.hok eb) hd dd ?_;have q:=(rel.val k).isSome_eq;rw [Option.isSome_map] at q;rw [<- q,<- l];exact h _ (I.tok _)
theorem Jba {Q:Value->Shared->Prop}(hu:A.units+1<cLine)(I:Inv X pins σ H s)(g:DGet H a y o)(ry:RelV y u)(h:∀ s',Inv X pins σ H s'->Q (.bool (!o.isSome)) s') :
 wpAny (model X.prog X.w) A (compareOp .NotIn u (.ref a)) Q E s:=by
 rcases g with ⟨kvs,k,e,ey,l⟩ | ⟨kvs,k,b,e,ey,eb,l⟩
 ·subst ey
  obtain ⟨z,hd,vs,rel,dd⟩:=J6R I.hok e;refine wpAny_notIn_of (J5b ry) hd dd.mapOf ?_;rw [<- (rel.val k).isSome_eq,<- l];exact h _ (I.tok _)
 ·subst ey
  cases (show u=Value.ref b from ry);obtain ⟨z,hd,xs,rel,dd⟩:=dt_rd I.hok e;refine wpAny_notIn_heap (tupleKind_room_in1 hu) (J3m I.hok eb) hd dd ?_;have q:=(rel.val k).isSome_eq;rw [Option.isSome_map] at q;rw [<- q,<- l];exact h _ (I.tok _)
theorem J3R {h':Heap}{t':Nat}{ob:HO}(I:Inv X pins σ H s)(mu:Mut (H a))(hs:Heap.SameBut a s.heap h')(he:∃ q,h'.get? a=some q)(new:ObjOk X.prog X.w (upd H a ob) h' a ob) :
 Inv X pins σ (upd H a ob) { s with heap:=h',toks:=t' } :=
 I.write (x:=a) (e:=a) mu (.inl rfl) (fun b q hb z=>(hs.2 b hb).trans z) he new
theorem Jai {P:Program}{w:World}{H':Hp}{h':Heap}{kvs:List (Key×V)}{vs:List (Key×Value)}(z:kvs.length<=sizeLine)(hd:(a == sysModules)=false)(rel:KV kvs vs)(dd:h'.DictOf (J09 P w) a vs) :
 ObjOk P w H' h' a (.dK kvs):=⟨z,hd,vs,rel,dd⟩
theorem J8Q {H':Hp}{Q:Unit->Shared->Prop}(hu:A.units+1<cLine)(I:Inv X pins σ H s)(g:DPut H a y v H')(ry:RelV y u)(rv:RelV v r)(h:∀ s',Inv X pins σ H' s'->Q () s') :
 wpAny (model X.prog X.w) A (setItem (.ref a) u r) Q E s:=by
 rcases g with ⟨kvs,k,e,ey,l,eH⟩ | ⟨kvs,k,b,e,ey,eb,l,eH⟩
 ·subst ey eH
  obtain ⟨z,hd,vs,rel,dd⟩:=Jah I.hok e;have hz:vs.length<=sizeLine:=by rw [<- rel.length];exact z
  have hl:(J1b kvs k v).length<=sizeLine:=by have:=J2d kvs k v;omega
  refine wpAny_setItem_pairs (hsz:=hz) (J5b ry) dd fun h' dd' hs=>h _ ?_;have he:∃ q,h'.get? a=some q:=let ⟨q,_,_,hq,_⟩:=dd';⟨q,hq⟩;exact J3R I (by rw [e];exact True.intro) hs he (Jai hl hd (rel.put k rv) dd')
 ·subst ey eH
  cases (show u=Value.ref b from ry);obtain ⟨z,hd,xs,rel,dd⟩:=JcH I.hok e;have hz:xs.length<=sizeLine:=by rw [<- Paired.length rel];exact z
  have hl:(J1b kvs k v).length<=sizeLine:=by have:=J2d kvs k v;omega
  refine wpAny_setItem_heap (hsz:=hz) (tupleKind_room_in1 hu) (J3m I.hok eb) dd fun h' dd' hs=>h _ ?_;obtain ⟨q,es,ep,hq,h2,h3,h4,_,h5⟩:=dd';refine J3R I (by rw [e];exact True.intro) hs ⟨q,hq⟩ ⟨hl,hd,_,(rel.put k eb rv).keeps fun c ys ec=>?_,q,es,ep,hq,h2,h3,h4,h5⟩;rw [Jf (J2b ec e (fun z=>nomatch z))];exact ec
end
def Jcn (i:Expr):Prop:=∀ ov iv,subscripted i false ov iv=operate [ov,iv] (getItem ov iv)
theorem J7M {prog:Program}{w:World}{A:Around}{E:Value->Shared->Prop}{s:Shared}{env:Env}{value slice:Expr}{pos:Pos}{T id:String}{Q:Value->Shared->Prop}
 (hl:typeLookup (.type T) "__getitem__"=pure (some (.builtin id))) (hs:Jcn slice)
 (h:wpAny (model prog w) A (eval value env) (fun o s₁=>wpAny (model prog w) A (eval slice env) (fun i s₂=>s₂.TypeIs o T/\wpAny (model prog w) A (getItem o i) Q E s₂) E s₁) E s) :
 wpAny (model prog w) A (eval (.Subscript value slice pos) env) Q E s:=by
 refine Subscript_ (wpAny_mono h (fun o s₁ h₁=>wpAny_mono h₁ (fun i s₂ h₂=>?_) fun _ _ x=>x) fun _ _ x=>x);obtain ⟨hT,h₂⟩:=h₂;unfold subscriptTail;refine yF ?_;rw [getitemInPython_of_ne hT.not_modules];refine yF (wpAny_specialOf hT hl ?_);have fin:wpAny (model prog w) A (subscripted slice false o i) (fun r s₃=>wpAny (model prog w) A (letTemporaryGo value o r >>= fun _=>pure r) Q E s₃) E s₂:=by
  rw [hs o i];exact wpAny_operating (wpAny_mono h₂ (fun r s₃ h₃=>yF (wpAny_letTemporaryGo (yG h₃))) fun _ _ x=>x)
 first
  | exact yG (yF fin)
  | exact yF (yG (yF fin))
  | exact yF fin
theorem J6S {X:Cx}{pins:List (Addr×Obj)}{σ:St}{H:Hp}{s:Shared}{a:Addr}{y:V}{o:Option V}(I:Inv X pins σ H s)(g:DGet H a y o):s.TypeIs (.ref a) "dict":=by
 rcases g with ⟨kvs,k,e,_,_⟩ | ⟨kvs,k,b,e,_,_,_⟩
 ·obtain ⟨_,_,vs,_,dd⟩:=J6R I.hok e
  exact dd.typeIs
 ·obtain ⟨_,_,xs,_,dd⟩:=dt_rd I.hok e
  exact dd.typeIs
def J9f (td ty:TE):TE:=fun σ H Q=>td σ H fun x H1=>ty σ H1 fun y H2=>∃ a v,x=.ref a/\DGet H2 a y (some v)/\Q v H2
def JbA (ty td:TE):TE:=fun σ H Q=>ty σ H fun y H1=>td σ H1 fun x H2=>∃ a o,x=.ref a/\DGet H2 a y o/\Q (.bl o.isSome) H2
def J5v (ty td:TE):TE:=fun σ H Q=>ty σ H fun y H1=>td σ H1 fun x H2=>∃ a o,x=.ref a/\DGet H2 a y o/\Q (.bl (!o.isSome)) H2
def J9r (td ty tv:TE):TS:=fun D σ H=>tv σ H fun v H1=>td σ H1 fun x H2=>ty σ H2 fun y H3=>∃ a H4,x=.ref a/\DPut H3 a y v H4/\D.nx σ H4
section
variable {X:Cx}{o i e value:Expr}{pos pos' tpos:Pos}{td ty tv:TE}
theorem J83 (hu:X.A.units+1<cLine)(ho:PE X o td)(hi:PE X i ty)(hs:Jcn i):PE X (.Subscript o i pos) (J9f td ty):=by
 intro pins s σ H Q I h;refine J7M PySem.F.slot_dict_getitem.lookup hs (thn (ho pins s σ H _ I h) fun u s1 ⟨x,H1,I1,rx,q1⟩=>thn (hi pins s1 σ H1 _ I1 q1) fun iv s2 ⟨y,H2,I2,ry,a,v,ex,g,q2⟩=>?_);subst ex;obtain rfl:u=Value.ref a:=rx;exact ⟨J6S I2 g,J8R hu I2 g ry fun w' s3 I3 rw'=>⟨v,H2,I3,rw',q2⟩⟩
theorem JbQ (hu:X.A.units+1<cLine)(hi:PE X i ty)(ho:PE X o td):PC X .In i o (JbA ty td):=by
 intro pins s σ H Q I h;refine thn (hi pins s σ H _ I h) fun iv s1 ⟨y,H1,I1,ry,q1⟩=>thn (ho pins s1 σ H1 _ I1 q1) fun u s2 ⟨x,H2,I2,rx,a,ov,ex,g,q2⟩=>?_;subst ex;obtain rfl:u=Value.ref a:=rx;exact Jd5 hu I2 g ry fun s3 I3=>⟨.bl ov.isSome,H2,I3,rfl,q2⟩
theorem J8E (hu:X.A.units+1<cLine)(hi:PE X i ty)(ho:PE X o td):PC X .NotIn i o (J5v ty td):=by
 intro pins s σ H Q I h;refine thn (hi pins s σ H _ I h) fun iv s1 ⟨y,H1,I1,ry,q1⟩=>thn (ho pins s1 σ H1 _ I1 q1) fun u s2 ⟨x,H2,I2,rx,a,ov,ex,g,q2⟩=>?_;subst ex;obtain rfl:u=Value.ref a:=rx;exact Jba hu I2 g ry fun s3 I3=>⟨.bl (!ov.isSome),H2,I3,rfl,q2⟩
theorem JaO (hu:X.A.units+1<cLine)(ho:PE X o td)(hi:PE X i ty)(hv:PE X value tv)(hs:swapsWith value (some (.Subscript o i pos')) pos.line X.env=pure false) :
 PS X (.Assign [.Subscript o i pos'] value pos) (J9r td ty tv):=by
 intro pins s σ H D I h;refine wpAny_Assign_Subscript (thn (hv pins s σ H _ I h) fun r s1 ⟨v,H1,I1,rv,q1⟩=>thn (ho pins s1 σ H1 _ I1 q1) fun u s2 ⟨x,H2,I2,rx,q2⟩=>thn (hi pins s2 σ H2 _ I2 q2) fun iv s3 ⟨y,H3,I3,ry,a,H4,ex,g,q3⟩=>?_) hs;subst ex;obtain rfl:u=Value.ref a:=rx;exact J8Q hu I3 g ry rv fun s4 I4=>⟨σ,H4,I4,q3⟩
end
theorem Jaj {P:Program}{w:World}{H:Hp}(h:Heap)(hb:sysModules<h.objs.size):ObjOk P w H (h.push { cls:=.type "dict",data:=.dict #[] }) h.objs.size (.dK []) :=
 ⟨yQ _,beq_eq_false_iff_ne.mpr (Ne.symm (yO hb)),[],.nil,Heap.DictOf.new h⟩
def JcT:TE:=fun _ H Q=>∀ p,H p=none->Q (.ref p) (upd H p (.dK []))
def J3Y:List (TE×TE)->St->Hp->(List (V×V)->Hp->Prop)->Prop
 | [],_,H,Q=>Q [] H
 | (tk,tv)::r,σ,H,Q=>tk σ H fun x H1=>tv σ H1 fun y H2=>J3Y r σ H2 fun ps H3=>Q ((x,y)::ps) H3
abbrev VV:List (V×V)->List (Value×Value)->Prop:=Paired fun p q=>RelV p.1 q.1/\RelV p.2 q.2
def PPs (X:Cx)(pos:Pos)(keys:List (Option Expr))(values:List Expr)(trs:List (TE×TE)):Prop :=
 ∀ (pins:List (Addr×Obj)) (s:Shared) (σ:St) (H:Hp) (Q:List (V×V)->Hp->Prop),Inv X pins σ H s->J3Y trs σ H Q ->
   wpAny (model X.prog X.w) X.A (evalPairs (pairTrees keys values X.env pos)) (fun vs s'=>∃ ps H',Inv X pins σ H' s'/\VV ps vs/\Q ps H') X.xe s
theorem JaP {X:Cx}{pos:Pos}:PPs X pos [] [] []:=fun pins s σ H Q I h=>pairTrees_nil_walk ⟨[],H,I,.nil,h⟩
theorem J9J {X:Cx}{pos:Pos}{k v:Expr}{ks:List (Option Expr)}{vs:List Expr}{tk tv:TE}{trs:List (TE×TE)}(hk:PE X k tk)(hv:PE X v tv)(hr:PPs X pos ks vs trs) :
 PPs X pos (some k::ks) (v::vs) ((tk,tv)::trs):=fun pins s σ H Q I h =>
 pairTrees_cons_walk (thn (hk pins s σ H _ I h) fun u s1 ⟨x,H1,I1,rx,q1⟩=>thn (hv pins s1 σ H1 _ I1 q1) fun w2 s2 ⟨y,H2,I2,ry,q2⟩ =>
  thn (hr pins s2 σ H2 _ I2 q2) fun ws s3 ⟨ps,H3,I3,rel,q3⟩=>⟨(x,y)::ps,H3,I3,.cons ⟨rx,ry⟩ rel,q3⟩)
def J3j (kvs more:List (Key×V)):List (Key×V):=more.foldl (fun acc kv=>J1b acc kv.1 kv.2) kvs
theorem KV.merge:∀ {more:List (Key×V)} {rs:List (Key×Value)} {kvs:List (Key×V)} {vs:List (Key×Value)},KV more rs->KV kvs vs->KV (J3j kvs more) (merged vs rs):=by
 intro more rs kvs vs r;unfold KV at r
 induction r generalizing kvs vs with
 | nil=>intro q;exact q
 | @cons p q ps qs h t ih =>
   intro r0;have e:KV (J1b kvs p.1 p.2) (stored vs q.1 q.2):=by
    have:=r0.put p.1 h.2;rw [<- h.1];exact this
   exact ih e
theorem J2E:∀ (more kvs:List (Key×V)),(J3j kvs more).length<=kvs.length+more.length
 | [],kvs=>by show kvs.length<=kvs.length+0;omega
 | p::r,kvs=>by
   have h1:=J2E r (J1b kvs p.1 p.2);have h2:=J2d kvs p.1 p.2;show (J3j (J1b kvs p.1 p.2) r).length<=_;rw [length_cons];omega
theorem J4J {P:Program}{w:World}:∀ {kvs:List (Key×V)} {ws:List (Value×Value)},VV (kvs.map fun kv=>(kV kv.1,kv.2)) ws->∃ rs,Carries (J09 P w) ws rs/\KV kvs rs
 | [],_,r=>by rw [map_nil] at r;cases r;exact ⟨[],True.intro,.nil⟩
 | p :: kvs,_,r=>by
   rw [zd] at r;cases r with
   | @cons a b as bs h t =>
     obtain ⟨rs,c,q⟩:=J4J (P:=P) (w:=w) t;obtain ⟨b1,b2⟩:=b;exact ⟨(p.1,b2)::rs,⟨J5b h.1,rfl,c⟩,.cons ⟨rfl,h.2⟩ q⟩
def J9e (trs:List (TE×TE)):TE:=fun σ H Q=>∀ p,H p=none->J3Y trs σ (upd H p (.dK [])) fun ps H2=>H2 p=some (.dK [])/\∃ kvs:List (Key×V),ps=kvs.map (fun kv=>(kV kv.1,kv.2))/\kvs.length<=15/\Q (.ref p) (upd H2 p (.dK (J3j [] kvs)))
theorem JaU {X:Cx}{pos:Pos}{keys:List (Option Expr)}{values:List Expr}{trs:List (TE×TE)}(h:PPs X pos keys values trs)(hall:keys.all (·.isSome)=true)(hl:keys.length=values.length)(h0:keys≠[])
 (h15:keys.length<=15):PE X (.Dict keys values pos) (J9e trs):=by
 intro pins s σ H Q I q;have hn:=I.hok.fresh (yJ s.heap.objs.size);have I1:=I.laid (a:=s.heap.objs.size) (o:=.dK []) (h':=s.heap.push { cls:=.type "dict",data:=.dict #[] }) (t':=s.toks) (fun _ _ q=>zr _ q) (yJ _) (Jaj s.heap I.big);refine wpAny_Dict_walk (knd:=J09 X.prog X.w) hall hl h0 h15 (thn (h pins _ σ _ _ I1 (q _ hn)) fun ws s2 ⟨ps,H2,I2,rel,e,kvs,ep,lk,q2⟩=>?_);subst ep;obtain ⟨rs,c,rk⟩:=J4J (P:=X.prog) (w:=X.w) rel;obtain ⟨z,hd,vs0,r0,dd⟩:=Jah I2.hok e;cases r0;refine ⟨rs,c,dd,fun h' dd' hs=>⟨.ref s.heap.objs.size,_,?_,rfl,q2⟩⟩;have hz:(J3j [] kvs).length<=sizeLine:=by
  have h1:=J2E kvs [];rw [length_nil] at h1;rw [sizeLine_eq];omega
 have he:∃ q,h'.get? s.heap.objs.size=some q:=let ⟨q,_,_,hq,_⟩:=dd';⟨q,hq⟩;exact J3R I2 (by rw [e];exact True.intro) hs he (Jai hz hd (rk.merge .nil) dd')
structure M2 (X:Cx)(o:Expr)(m:Str)(apos:Pos)(e f:Expr)(cpos:Pos):Prop where
 base:attributeBase o m X.env (eval o X.env)=eval o X.env
 few:((backTo cpos (starEach [e,f] X.env)).all (fun x=>!x.1)&&(backToKw cpos (keywordEach [] X.env)).all (fun x=>x.1.isSome)
  && decide (([e,f]:List Expr).length+([]:List Keyword).length+(if ([]:List Keyword).isEmpty then 0 else 1)<30))=true
 line:(apos.endLine == cpos.line)=true
 trees:backTo cpos (starEach [e,f] X.env)=[(false,eval e X.env),(false,eval f X.env)]
end L2
namespace Att
open PySem PySem.W PySem.Calls PyProof.Rows
theorem J3L {P:Params}{h:Heap}:∀ (ns:List Int) (vs:List Value),WellAll P h vs (ns.map WData.int)->IntsAre vs ns:=by
 intro ns
 induction ns with
 | nil =>
   intro vs w;rw [map_nil] at w;cases w;exact .nil
 | cons n ns ih =>
   intro vs w;rw [zd] at w;cases w with
   | cons a b =>
     cases a;exact .cons _ _ (ih _ b)
theorem J8y {l:OpenLaw}{n:Nat}(hn:l.most=some n){P:Params}{h:Heap}{args:List WData}{vals:List Value}
 (hpre:l.row.toRowW.claim.pre args=true) (hwl:WellAll P h vals args) :
 ∃ a vs ns,vals=[Value.ref a]/\args=[WData.list (ns.map WData.int)]/\h.get? a=some { cls:=.type "list",data:=.seq vs.toArray }/\IntsAre vs ns/\ns.length<=n:=by
 have hsh:WShape.hasAll [] args [.list .int]=true:=(pre_splitW hpre).1;have hc:l.pre.holds [] { args:=args }=true:=(pre_splitW hpre).2;obtain ⟨d,r,rfl,h1,h2⟩:=hasAllW_cons hsh;obtain rfl:=hasAllW_nil h2;obtain ⟨xs,rfl,h3⟩:=hasW_list h1;obtain ⟨ns,rfl⟩:=items_int h3;have J05:ns.length<=n:=by
  unfold OpenLaw.pre at hc;have h4:(WTm.not (.lt (.lit (.int (n:Int))) (.len (.arg 0)))).holds [] { args:=[.list (ns.map .int)] }=true:=by
   have h4:=(holds_andW hc).1;rw [hn] at h4;exact h4
  have h5:=condW_of h4 (w_not (w_lt w_lit (w_len_list (w_arg rfl))));rw [yW] at h5;refine Nat.le_of_not_lt fun q=>?_;have q':(n:Int)<((ns.length:Nat):Int):=by omega
  first
   | (rw [yL q'] at h5;exact absurd h5 (by decide))
   | (simp at h5;omega)
 cases hwl with
 | cons w1 w2 =>
   cases w2;cases w1 with
   | list ho hall=>exact ⟨_,_,ns,rfl,rfl,ho,J3L ns _ hall,J05⟩
theorem J8B (l:OpenLaw)(args:List WData):l.row.toRowW.claim.post args (.bool true) args=true :=
 postW_of (r:=l.row.toRowW) (X:=(true == true))
  (show WShape.has [] (.bool true) .bool=true by first | rfl | decide | simp [WShape.has,WShape.arms,WShape.armsAll])
  (show (WTm.eq .res (.lit (.bool true))).value [] { args:=args,res:=some (.bool true),after:=args }=some (.bool (true == true)) from w_eq_bool (w_res rfl) w_lit) rfl
theorem attach_call {l:OpenLaw}{n:Nat}{q:Program}{loose:List Str}{XP:(Str->Option Value)->Heap->Prop}{YP:World->Heap->Prop}{d:DefRec}
 (hn:l.most=some n) (hdf:d.params.defaults=[])
 (call:∀ (w:World) (s₀ s₁:Shared) (mg mb:Str->Option Value) (fa:Addr) (o:Obj) (pm cd doc:Value) (a:Addr) (vs:List Value) (ns:List Int),
  Ground q loose [] XP w s₀ mg mb s₁.heap->YP w s₁.heap ->
  s₁.heap.get? fa=some o->o.data=.func (docDef d.name d.params d.body d.scope pm cd doc)->s₁.heap.CodeRec cd d.name->mg d.name=some (.ref fa) ->
  s₁.heap.get? a=some { cls:=.type "list",data:=.seq vs.toArray }->IntsAre vs ns->ns.length<=n->s₁.gens=#[] ->
  codeAny (model l.prog w) callerA (.call (.ref fa) ⟨[.ref a],[]⟩) (fun r s'=>r=.ok (.ret (.bool true))/\OldK s₁.heap s'.heap/\s'.os=s₁.os/\AllBare s'.gens) s₁) :
 WalkO q loose XP YP l.row.toRowW d [] (fun f vs=>PySem.call f vs):=by
 intro w s₀ s₁ mg mb G Y fa o pm cd doc dV kV ho hd hcd hD hmg hg args vals as hpre hlay hrd hwl hlo;obtain rfl:dV=.none:=Dflts.none hD hdf;obtain rfl:kV=.none:=Dflts.noKw hD;obtain ⟨a,vs,ns,rfl,rfl,hobj,hints,J05⟩:=J8y hn hpre hwl;refine enter_call (codeAny_mono (call w s₀ s₁ mg mb fa o pm cd doc a vs ns G Y ho (fd_plain hd) hcd hmg hobj hints J05 hg) fun r s' hq=>?_);obtain ⟨rfl,h2,h3,h4⟩:=hq;exact ⟨.inl ⟨.bool true,.bool true,[],rfl,fun _=>rfl,.bool true,J8B l _,fun _=>⟨List.Pairwise.nil,fun _ hm=>(nomatch hm)⟩⟩,h2,h3,h4⟩
end Att
namespace L2
open PySem PySem.Spec PyProof.Rows
theorem J4Z:∀ {vs:List Value} {ns:List Int},IntsAre vs ns->Vals (ns.map V.int) vs
 | _,_,.nil=>.nil
 | _,_,.cons n t h=>.cons ⟨t,rfl⟩ (J4Z h)
def Jcm (H:Hp):Prop:=∀ b,H b=none\/∃ o xs,H b=some (.frz o (.lst xs))
theorem law_call {P:Program}{w:World}{K:Frag}{mg mb:Str->Option Value}{CX:CXT}{k:Nat}{fa a:Addr}{fd:FuncData}{x:Str}{sp:Sp}{s₁:Shared}{vs:List Value}{ns:List Int}
 (KX:K.In s₁.heap) (hns:s₁.heap.Ns mainGlobals mg) (hb:s₁.heap.Ns builtinsNs mb) (hbb:∀ x:Str,x≠"__name__"->mb x=bootBuiltins x) (hlim:s₁.heap.NoLimit) (hg:s₁.gens=#[])
 (ha:s₁.heap.get? a=some { cls:=.type "list",data:=.seq vs.toArray }) (hi:IntsAre vs ns) (hl:ns.length<=sizeLine) (hr:Room k callerA)
 (F:∀ base:Heap,K.In base->base.Ns mainGlobals mg->FnOk P w K mg base CX k fa fd [x] sp) (hbind:∀ (s:Shared) (u:Value),BindsTo s fd ⟨[u],[]⟩ [(x,u)])
 (hsp:∀ H:Hp,Jcm H->SqL K H a (ns.map V.int)->sp [.ref a] H (fun v _=>v=.bl true) fun _ _ _=>False)
 (hCX:∀ H e s',CX [] H s₁ (fun _ _ _=>False) e s'->False) :
 codeAny (model P w) callerA (.call (.ref fa) ⟨[.ref a],[]⟩) (fun r s'=>r=.ok (.ret (.bool true))/\OldK s₁.heap s'.heap/\s'.os=s₁.os/\AllBare s'.gens) s₁:=by
 have rv:=J4Z hi;have lenV:=hi.length
 have core : ∀ H:Hp,Jcm H->SqL K H a (ns.map V.int)->HOk P w H s₁.heap->(∀ b,H b≠none->b=a)->(H a≠none->K.lookup a=none) ->
  codeAny (model P w) callerA (.call (.ref fa) ⟨[.ref a],[]⟩) (fun r s'=>r=.ok (.ret (.bool true))/\OldK s₁.heap s'.heap/\s'.os=s₁.os/\AllBare s'.gens) s₁:=by
  intro H hO hS hok hA hK;have base_of:∀ {b:Addr} {o:Obj},s₁.heap.get? b=some o->H b=none->(J5W s₁.heap H).get? b=some o:=fun e n=>Ja8 e n;have noA:∀ {b:Addr} {o:Obj} {es:Array DictEntry} {ep:Nat},s₁.heap.get? b=some o->o.data=.dict es ep->H b=none:=fun {b o es ep} e d=>by
   cases q:H b with
   | none=>rfl
   | some u =>
     have e':b=a:=hA b (by rw [q];simp);subst e';rw [ha] at e;cases e;have d':Data.seq vs.toArray _=Data.dict es ep:=d;cases d'
  have nsK:∀ {b:Addr} {m:Str->Option Value},s₁.heap.Ns b m->(J5W s₁.heap H).Ns b m:=fun {b m} ⟨o,es,ep,e,d,r⟩=>⟨o,es,ep,base_of e (noA e d),d,r⟩;have hKb:K.In (J5W s₁.heap H):=fun b o e=>base_of (KX b o e) (by
   cases q:H b with
   | none=>rfl
   | some u =>
     have e':b=a:=hA b (by rw [q];simp);subst e';rw [hK (by rw [q];simp)] at e;cases e)
  have hM:Mod K mg (J5W s₁.heap H):=⟨hKb,nsK hns,⟨mb,nsK hb,hbb⟩,let ⟨mc,h1,h2⟩:=hlim;⟨mc,nsK h1,h2⟩⟩;have e0:Env0 P w K mg (J5W s₁.heap H) callerA [] s₁ H:=⟨rfl,hM,fun b o e=>JaZ e,Nat.le_of_eq (J8O _ _),trivial,fun b hb=>absurd (show b∈([]:List Addr) from hb) (by simp),hok,.of_eq hg⟩;refine codeAny_mono ((F _ hKb (nsK hns)).run callerA [] s₁ H ⟨[.ref a],[]⟩ [.ref a] [.ref a] _ _ hr e0 (hbind s₁ (.ref a)) (.cons rfl .nil) (hsp H hO hS)) fun r s' h=>?_;cases r with
  | error e=>exact (hCX H e s' h).elim
  | ok fl =>
    cases fl with
    | next=>exact yS h
    | brk=>exact yS h
    | cont=>exact yS h
    | ret u =>
      obtain ⟨v,H',os,bare,un,hok',r',q⟩:=h;have q':v=.bl true:=q;subst q';obtain rfl:u=Value.bool true:=r';refine ⟨rfl,OldK.of_keep fun b o e=>?_,os,bare⟩;cases q:H b with
      | none=>exact un.keep b o e q (by intro z;exact absurd (show b∈([]:List Addr) from z) (by simp)) (by simp)
      | some u =>
        rcases hO b with z | ⟨ob,xs,z⟩
        ·rw [q] at z;cases z
        ·have z2:=un.frzs b ob _ z
         obtain ⟨e1,_⟩:=hok b _ z;obtain ⟨e2,_⟩:=hok' b _ z2;rw [e] at e1;cases e1;exact e2
 cases hk:K.lookup a with
 | some o =>
   have e:=KX a o hk;rw [ha] at e;cases e;refine core (fun _=>none) (fun _=>.inl rfl) (.inr ⟨_,vs.toArray,_,hk,rfl,rfl,rfl,by rw [yY,lenV];exact hl,by simpa using rv⟩) (fun b u z=>by have z':(none:Option HO)=some u:=z;cases z') (fun b z=>absurd rfl z) fun z=>absurd rfl z
 | none =>
   refine core (fun b=>if b=a then some (.frz { cls:=.type "list",data:=.seq vs.toArray } (.lst (ns.map V.int))) else none) (fun b=>?_) (.inl (.inr ⟨{ cls:=.type "list",data:=.seq vs.toArray },yI rfl⟩)) (fun b u z=>?_) (fun b z=>?_) fun _=>hk
   ·by_cases hb:b=a
    ·exact .inr ⟨_,_,yI hb⟩
    ·exact .inl (yH hb)
   ·by_cases hb:b=a
    ·have z':=(yI hb).symm.trans z
     cases z';subst hb;exact ⟨ha,by rw [yW];exact hl,vs,_,rv,ha⟩
    ·have z':=(yH hb).symm.trans z
     cases z'
   ·by_cases hb:b=a
    ·exact hb
    ·exact absurd (yH hb) z
abbrev KOf {K:Frag}{h:Heap}(_:K.In h):Frag:=K
theorem walk_of {l:PySem.W.OpenLaw}{n k:Nat}{q:Program}{loose:List Str}{XP:(Str->Option Value)->Heap->Prop}{YP:World->Heap->Prop}{d:DefRec}{K:Params->Frag}{CX:World->CXT}{sp:World->Sp}{x:Str}
 (hn:l.most=some n) (hn2:n<=sizeLine) (hdf:d.params.defaults=[]) (hr:Room k callerA)
 (hY:∀ (w:World) (h:Heap),YP w h->(K w.params).In h)
 (F:∀ (w:World) (mg:Str->Option Value) (fa:Addr) (h:Heap),(K w.params).In h->h.Ns mainGlobals mg->mg d.name=some (.ref fa) ->
  ∃ fd:FuncData,(∀ (s:Shared) (u:Value),BindsTo s fd ⟨[u],[]⟩ [(x,u)]) /\
    ∀ base:Heap,(K w.params).In base->base.Ns mainGlobals mg->FnOk l.prog w (K w.params) mg base (CX w) k fa fd [x] (sp w))
 (hsp:∀ (w:World) (H:Hp) (a:Addr) (ns:List Int),ns.length<=n->Jcm H->SqL (K w.params) H a (ns.map V.int)->sp w [.ref a] H (fun v _=>v=.bl true) fun _ _ _=>False)
 (hCX:∀ (w:World) (H:Hp) (s:Shared) (e:Value) (s':Shared),CX w [] H s (fun _ _ _=>False) e s'->False) :
 PySem.W.WalkO q loose XP YP l.row.toRowW d [] (fun f vs=>PySem.call f vs):=by
 refine Att.attach_call hn hdf fun w s₀ s₁ mg mb fa o pm cd doc a vs ns G Y ho hd hcd hmg hobj hints J05 hg=>?_;have KX:=hY w _ Y;obtain ⟨fd,hb,hF⟩:=F w mg fa _ KX G.T.g hmg;exact law_call KX G.T.g G.T.b G.T.builtins G.T.nolimit hg hobj hints (yR J05 hn2) hr hF hb (fun H hO hS=>hsp w H a ns J05 hO hS) fun H e s'=>hCX w H s₁ e s'
def J13 (s:Stmt):Arguments:=match s with
 | .FunctionDef _ a _ _ _ _ _ _ _ _=>a
 | _=>{ posonlyargs:=[],args:=[],vararg:=none,kwonlyargs:=[],kw_defaults:=[],kwarg:=none,defaults:=[] }
def J0H (s:Stmt):List Stmt:=match s with
 | .FunctionDef _ _ b _ _ _ _ _ _ _=>b
 | _=>[]
def Jg (s:Stmt):Scope:=match s with
 | .FunctionDef _ _ _ _ _ _ sc _ _ _=>sc
 | _=>{ kind:=.function,names:=[],isGenerator:=false,isCoroutine:=false }
abbrev CX0:CXT:=fun _ _ _ _ _ _=>False
abbrev E0:XK:=fun _ _ _=>False
theorem J3w {X:Cx}:J3s CX0 X E0:=fun _ _ _ _ _ _ _ h=>h.elim
structure Fun (K:Frag)(x qual:Str)(st:Stmt)(f:Addr)(fd:FuncData):Prop where
 ex:∃ (oc:Value) (od:Option Addr) (kV doc pm:Value) (an:Option Addr) (cdv ct:Value) (osl:Array (Option Value)),
  fd=PySem.W.fnOf x qual (J13 st) (J0H st) (Jg st) .none kV doc pm an cdv ct/\K.lookup f=some ⟨oc,od,.func fd,osl⟩/\PySem.W.codeIn K cdv qual=true
 kp:PySem.W.keepIn K (.ref f)=true
section
variable {P:Program}{w:World}{K:Frag}{mg:Str->Option Value}{base:Heap}
theorem Fun.ok {x qual:Str}{st:Stmt}{f:Addr}{fd:FuncData}{N ps:List Str}{k:Nat}{sp:Sp}(F:Fun K x qual st f fd)(S:FnScope N ps (Jg st))(len:∀ vs H Q E,sp vs H Q E->vs.length=ps.length)
 (hbody:∀ (cdv:Value) (A:Around) (outer:List Env) (s:Shared) (H:Hp) (vs:List V) (Q:VK) (E:XK),Room k (A.deeper (envOfC qual (Jg st) s.heap.objs.size f cdv))->sp vs H Q E ->
  ∃ t,PSs (J4D CX0 P w K mg base N qual (Jg st) f cdv A outer s H E).nox (J0H st) t/\t { nx:=fun _ H'=>Q .non H',rt:=Q } (start N vs) H):FnOk P w K mg base CX0 (k+1) f fd ps sp:=by
 obtain ⟨oc,od,kV,doc,pm,an,cdv,ct,osl,rfl,lk,hcd⟩:=F.ex;refine Jbs lk hcd S len fun A outer s H vs Q E hr hsp=>?_;obtain ⟨t,h,q⟩:=hbody cdv A outer s H vs Q E hr hsp;exact ⟨t,h.nox,q⟩
theorem Fun.binds {x qual:Str}{st:Stmt}{f:Addr}{fd:FuncData}{ps:List Str}(F:Fun K x qual st f fd)
 (h:∀ (kV doc pm:Value) (an:Option Addr) (cdv ct:Value) (us:List Value),us.length=ps.length->bindArgs (PySem.W.fnOf x qual (J13 st) (J0H st) (Jg st) .none kV doc pm an cdv ct) ⟨us,[]⟩=pure (ps.zip us)):Binds K fd ps []:=by
 obtain ⟨oc,od,kV,doc,pm,an,cdv,ct,osl,rfl,lk,hcd⟩:=F.ex;exact .all (h kV doc pm an cdv ct)
theorem Jcb {x qual:Str}{st:Stmt}{f:Addr}{oc:Value}{od an:Option Addr}{osl:Array (Option Value)}{kV doc pm cdv ct:Value}(l:K.lookup f=some ⟨oc,od,.func (PySem.W.fnOf x qual (J13 st) (J0H st) (Jg st) .none kV doc pm an cdv ct),osl⟩)
 (c:PySem.W.codeIn K cdv qual=true) (k:PySem.W.keepIn K (.ref f)=true):Fun K x qual st f (PySem.W.fnOf x qual (J13 st) (J0H st) (Jg st) .none kV doc pm an cdv ct):=⟨⟨oc,od,kV,doc,pm,an,cdv,ct,osl,rfl,l,c⟩,k⟩
end
theorem J6J {A:Around}{k:Nat}(hr:Room k A):A.units+1<cLine:=Nat.lt_of_le_of_lt (Nat.add_le_add_left (by decide:1<=64) _) hr.units
def Same (H H':Hp):Prop:=∀ b o,H b=some o->H' b=some o
theorem Same.refl (H:Hp):Same H H:=fun _ _ h=>h
theorem Same.trans {H H1 H2:Hp}(a:Same H H1)(b:Same H1 H2):Same H H2:=fun c o h=>b c o (a c o h)
theorem Same.free {H H':Hp}(e:Same H H'){l:Addr}(h:H' l=Option.none):H l=Option.none:=by
 cases q:H l with
 | none=>rfl
 | some o =>
   rw [e l o q] at h;cases h
theorem Same.seq {K:Frag}{H H':Hp}{a:Addr}{xs:List V}(e:Same H H')(h:SqL K H a xs):SqL K H' a xs:=by
 rcases h with (h | ⟨o,h⟩) | h
 ·exact .inl (.inl (e _ _ h))
 ·exact .inl (.inr ⟨o,e _ _ h⟩)
 ·exact .inr h
abbrev J9u (ifs:List Expr)(env:Env):Sem Bool :=
 forIn ifs true fun c r=>if r=true then do let ok <- isTrue c env (eval c env);pure (ForInStep.yield ok) else pure (ForInStep.yield r)
theorem J5j {prog:Program}{w:World}{A:Around}{R:Result->Shared->Prop}{s:Shared}{elt tg iter:Expr}{ifs:List Expr}{scope:Scope}{pos:Pos}{it acc:Value}{env:Env}(I:Nat->Shared->Prop)
 (turn : ∀ n s,I n s->wpAny (model prog w) A (pyNext it) (fun r s1=>match r with
  | none=>R (.ok .next) s1
  | some v=>wpAny (model prog w) A (letOwnedTupleGo tg it v) (fun _ s2=>wpAny (model prog w) A (assign tg env v) (fun _ s3=>wpAny (model prog w) A (J9u ifs env) (fun ok s4 =>
   if ok=true then wpAny (model prog w) A (eval elt env) (fun x s5=>wpAny (model prog w) A (call (.builtin "list.append") [acc,x]) (fun _ s6=>∃ m,m<n/\I m s6) (fun _ _=>False) s5) (fun _ _=>False) s4
   else ∃ m,m<n/\I m s4) (fun _ _=>False) s3) (fun _ _=>False) s2) (fun _ _=>False) s1) (fun _ _=>False) s)
 (n:Nat) (h:I n s):codeAny (model prog w) A (.compLoop (.ListComp elt [⟨tg,iter,ifs,0⟩] scope pos) 0 it acc env) R s:=by
 refine codeAny_loop rfl I (fun n s hI=>?_) n h;show wpAny _ A ((compTurn (.ListComp elt [⟨tg,iter,ifs,0⟩] scope pos) 0 it acc env).onRaise (fun x=>do noteFrame x env;theTreesLotGoes x)) _ _ s;refine wpAny_noted (wpAny_noRaise ?_);rw [compTurn_list];refine yF (wpAny_standAt (yF (thn (turn n s hI) fun r s1 h1=>?_)));cases r with
 | none=>exact yG h1
 | some v =>
   refine yF (thn h1 fun _ s2 h2=>yF (thn h2 fun _ s3 h3=>yF (thn h3 fun ok s4 h4=>?_)));cases ok with
   | false=>exact yG ⟨rfl,h4⟩
   | true=>exact yF (yF (thn h4 fun x s5 h5=>yF (thn h5 fun _ s6 h6=>yG (yG ⟨rfl,h6⟩))))
theorem closure_go (env:Env):∀ (names:List (Str×NameKind)) (cs:List (Str×Addr)),(∀ n,(n,NameKind.free)∈names->∃ c,env.cells.lookup n=some c)->(∀ n c,cs.lookup n=some c->env.cells.lookup n=some c) ->
 ∃ cl,(forIn names cs fun (p:Str×NameKind) (r:List (Str×Addr))=>(if p.2 == NameKind.free then do let c <- cellOf env p.1;pure (ForInStep.yield ((p.1,c)::r)) else pure (ForInStep.yield r):Sem (ForInStep (List (Str×Addr)))))=pure cl /\
   (∀ n c,cl.lookup n=some c->env.cells.lookup n=some c)/\(∀ n,((n,NameKind.free)∈names\/∃ c,cs.lookup n=some c)->∃ c,cl.lookup n=some c)
 | [],cs,_,hcs=>⟨cs,rfl,hcs,fun n h=>h.elim (fun z=>nomatch z) id⟩
 | (m,k)::r,cs,hn,hcs=>by
   cases hk:k == NameKind.free with
   | false =>
     obtain ⟨cl,e,h1,h2⟩:=closure_go env r cs (fun n z=>hn n (y8 _ z)) hcs;refine ⟨cl,?_,h1,fun n z=>h2 n ?_⟩
     ·rw [forIn_cons];simp only [hk];exact e
     ·rcases z with z | z
      ·rcases zc.mp z with q | q
       ·cases q;simp at hk
       ·exact .inl q
      ·exact .inr z
   | true =>
     have ek:k=NameKind.free:=by simpa using hk
     subst ek;obtain ⟨c,hc⟩:=hn m y9;obtain ⟨cl,e,h1,h2⟩:=closure_go env r ((m,c)::cs) (fun n z=>hn n (y8 _ z)) (fun n c' z=>by
      by_cases q:n=m
      ·subst q;simp [lookup_cons] at z;subst z;exact hc
      ·rw [lookup_cons,beq_eq_false_iff_ne.mpr q] at z;exact hcs n c' z)
     refine ⟨cl,?_,h1,fun n z=>h2 n ?_⟩
     ·rw [forIn_cons];simp only [cellOf,hc];exact e
     ·rcases z with z | ⟨c',z⟩
      ·rcases zc.mp z with q | q
       ·cases q;exact .inr ⟨c,by simp [lookup_cons]⟩
       ·exact .inl q
      ·by_cases q:n=m
       ·subst q;exact .inr ⟨c,by simp [lookup_cons]⟩
       ·exact .inr ⟨c',by rw [lookup_cons,beq_eq_false_iff_ne.mpr q];exact z⟩
theorem J4I {scope:Scope}{env:Env}(hn:∀ n,(n,NameKind.free)∈scope.names->∃ c,env.cells.lookup n=some c) :
 ∃ cl,closureFor scope env=pure cl/\(∀ n c,cl.lookup n=some c->env.cells.lookup n=some c)/\(∀ n,(n,NameKind.free)∈scope.names->∃ c,cl.lookup n=some c):=by
 obtain ⟨cl,e,h1,h2⟩:=closure_go env scope.names [] hn (fun _ _ z=>nomatch z);refine ⟨cl,?_,h1,fun n z=>h2 n (.inl z)⟩;unfold closureFor;simp only [bind_pure];exact e
def Jl (names onames:List (Str×NameKind)):List (Str×NameKind) :=
 names.map fun (n,k)=>if (k == .free&&onames.lookup n == some .cell) then (n,.cell) else (n,k)
def Jan (sc osc:Scope)(N rest:List Str):Bool :=
 (sc.kind == .function&&osc.kind == .function&&sc.names.all fun y=>y.2 != .cell&&(y.2 != .local||sc.names.lookup y.1 == some .local)&&(y.2 != .free||osc.names.lookup y.1 == some .cell||osc.names.lookup y.1 == some .free))
 && N.length == rest.length&&(N.zip rest).all fun p=>match (Jl sc.names osc.names).lookup p.2 with
  | some .local=>false
  | some .cell=>p.1 == p.2&&(p.2,NameKind.free)∈sc.names&&(osc.names.lookup p.2 == some .cell||osc.names.lookup p.2 == some .free)
  | some .free=>p.1 == p.2&&(p.2,NameKind.free)∈sc.names&&(osc.names.lookup p.2 == some .cell||osc.names.lookup p.2 == some .free)
  | _=>true
structure CompSc (sc osc:Scope)(N rest:List Str):Prop where
 kind:sc.kind=.function
 okind:osc.kind=.function
 cell:∀ y∈sc.names,y.2≠.cell
 loc:∀ y∈sc.names,y.2=.local->sc.names.lookup y.1=some .local
 free:∀ n,(n,NameKind.free)∈sc.names->osc.names.lookup n=some .cell\/osc.names.lookup n=some .free
 len:N.length=rest.length
 look:∀ (i:Nat) x,rest[i]?=some x->((Jl sc.names osc.names).lookup x=some .local\/(Jl sc.names osc.names).lookup x=some .cell\/(Jl sc.names osc.names).lookup x=some .free) ->
  N[i]?=some x/\(x,NameKind.free)∈sc.names/\(osc.names.lookup x=some .cell\/osc.names.lookup x=some .free)/\((Jl sc.names osc.names).lookup x=some .cell\/(Jl sc.names osc.names).lookup x=some .free)
theorem Jp {sc osc:Scope}{N rest:List Str}(h:Jan sc osc N rest=true):CompSc sc osc N rest:=by
 unfold Jan at h;simp only [Bool.and_eq_true,beq_iff_eq,all_eq_true] at h;obtain ⟨⟨⟨⟨hk,hok⟩,hy⟩,hl⟩,hz⟩:=h;refine ⟨hk,hok,fun y z e=>?_,fun y z e=>?_,fun n z=>?_,hl,fun i x e v=>?_⟩
 ·have:=(hy y z).1.1;rw [e] at this;simp at this
 ·have:=(hy y z).1.2;rw [e] at this;simpa using this
 ·have:=(hy _ z).2;simpa using this
 ·have hi:i<rest.length:=(yV.mp e).1
  have hi':i<N.length:=by omega
  have hN:N[i]?=some N[i]:=yU hi';have hm:(N[i],x)∈N.zip rest:=by
   refine y4 (i:=i) ?_;rw [List.getElem?_zip_eq_some];exact ⟨hN,e⟩
  have q:=hz _ hm;dsimp only at q;rcases v with v | v | v
  ·rw [v] at q;simp at q
  ·rw [v] at q;simp only [Bool.and_eq_true,beq_iff_eq,Bool.or_eq_true,decide_eq_true_eq] at q
   obtain ⟨⟨q1,q2⟩,q3⟩:=q;exact ⟨by rw [hN,q1],q2,q3,.inl v⟩
  ·rw [v] at q;simp only [Bool.and_eq_true,beq_iff_eq,Bool.or_eq_true,decide_eq_true_eq] at q
   obtain ⟨⟨q1,q2⟩,q3⟩:=q;exact ⟨by rw [hN,q1],q2,q3,.inr v⟩
theorem J02 {sc:Scope}{env:Env}(hk:env.scope.kind=.function):(relabel sc env).names=Jl sc.names env.scope.names:=by
 unfold relabel Jl Env.kindOf;simp [hk]
theorem J9v {names onames:List (Str×NameKind)}(hc:∀ y∈names,y.2≠.cell){x:Str}(h:(Jl names onames).lookup x=some .cell\/(Jl names onames).lookup x=some .free):(x,NameKind.free)∈names:=by
 have hm:(x,NameKind.cell)∈Jl names onames\/(x,NameKind.free)∈Jl names onames:=h.imp PySem.mem_of_lookup PySem.mem_of_lookup;rcases hm with hm | hm
 ·obtain ⟨⟨n,k⟩,hn,e⟩:=zl.mp hm
  dsimp only at e
  split at e
  ·rename_i hh;cases e;simp at hh;obtain ⟨rfl,_⟩:=hh;exact hn
  ·cases e;exact absurd rfl (hc _ hn)
 ·obtain ⟨⟨n,k⟩,hn,e⟩:=zl.mp hm
  dsimp only at e
  split at e
  ·cases e
  ·cases e;exact hn
def JP (X:Cx)(scope:Scope)(N':List Str)(cl:List (Str×Addr))(s2:Shared)(H2:Hp)(C:Addr)(fp:List Addr):Cx :=
 { X with N:=N',s₀:=s2,H₀:=H2,env:=compEnvC scope cl C X.env,outer:=X.stack,stack:=X.stack,ex:=fp,fn:=fun _=>false,pn:=[],xe:=fun _ _=>False }
section
variable {X:Cx}{pins:List (Addr×Obj)}{σ:St}{H2:Hp}{s2:Shared}{scope:Scope}{own rest:List Str}{cl:List (Str×Addr)}{fp:List Addr}{C:Addr}
theorem J8T (I:Inv X pins σ H2 s2)(S:CompSc scope X.env.scope X.N rest)(h1:∀ n c,cl.lookup n=some c->X.env.cells.lookup n=some c)(h2:∀ n,(n,NameKind.free)∈scope.names->∃ c,cl.lookup n=some c)
 (hC:s2.heap.objs.size<=C) (hf:∀ b∈fp,J1B X pins H2 b) (ho:∀ b∈fp,∃ o,s2.heap.get? b=some o):(JP X scope (own++rest) cl s2 H2 C fp).Ok where
 mod:=I.ok.mod
 kind:=S.kind
 glob:=I.ok.glob
 blt:=I.ok.blt
 above:=hC
 inj:=fun x y c e1 e2=>I.ok.inj x y c (h1 x c e1) (h1 y c e2)
 has:=fun x hx=>h2 x (J9v S.cell (by
  have e:(JP X scope (own++rest) cl s2 H2 C fp).env.kindOf x=(Jl scope.names X.env.scope.names).lookup x:=congrArg (List.lookup x) (J02 (sc:=scope) I.ok.kind);rw [e] at hx;exact hx))
 cab:=fun _ _ z=>nomatch z
 hd:=I.ok.hd
 frames:=I.ok.frames
 stk:=.inl rfl
 exf:=fun b hb=>by
  obtain ⟨o,e⟩:=ho b hb;exact ⟨yO (yP (zu e) hC),fun x c e=>(hf b hb).2.2.2.2.1 x c (h1 x c e)⟩
 bs:=I.bs
 bsz:=yR I.ok.bsz I.sz
 noex:=fun b o e hb=>by
  rcases (hf b hb).2.2.2.1 with z | z
  ·exact I.ok.noex b o e z
  ·exact absurd (yP (zu e) (yR I.ok.bsz z)) (Nat.lt_irrefl _)
 exfs:=fun b hb z=>by
  rcases zc.mp (I.stkSub b z) with q | q
  ·exact (hf b hb).2.1 q
  ·exact (hf b hb).2.2.1 q
 funs:=I.stack
 frf:=I.stkFree
theorem comp_start {h1:Heap}{t1:Nat}(I:Inv X pins σ H2 s2)(S:CompSc scope X.env.scope X.N rest)(hc1:∀ n c,cl.lookup n=some c->X.env.cells.lookup n=some c)(hc2:∀ n,(n,NameKind.free)∈scope.names->∃ c,cl.lookup n=some c)
 (hC:s2.heap.objs.size<=C) (hf:∀ b∈fp,J1B X pins H2 b) (ho:∀ b∈fp,∃ o,s2.heap.get? b=some o)
 (old:∀ b o,s2.heap.get? b=some o->h1.get? b=some o) (ns:h1.Ns C fun _=>none) :
 Inv (JP X scope (own++rest) cl s2 H2 C fp) [] (List.replicate own.length none++σ) H2 { s2 with heap:=h1,toks:=t1 }:=by
 obtain ⟨m,hn,hl⟩:=id I.loc;have hv:∀ x,Vis (JP X scope (own++rest) cl s2 H2 C fp).env.scope x->((Jl scope.names X.env.scope.names).lookup x=some .local\/(Jl scope.names X.env.scope.names).lookup x=some .cell\/(Jl scope.names X.env.scope.names).lookup x=some .free):=fun x z=>by
  have e:(JP X scope (own++rest) cl s2 H2 C fp).env.scope.names=Jl scope.names X.env.scope.names:=J02 (sc:=scope) I.ok.kind;unfold Vis at z;rw [e] at z;exact z
 refine ⟨J8T I S hc1 hc2 hC hf ho,rfl,I.bare,Un.kept old,⟨_,ns,fun i x v e1 e2 e3=>?_⟩,fun x c e=>?_,I.hok.fresh hC,fun x c e=>I.freeC x c (hc1 x c e),fun p hp=>absurd (show p∈([]:List (Addr×Obj)) from hp) (by simp),I.hok.kept old,?_⟩
 ·have e1':(own++rest)[i]?=some x:=e1
  by_cases hi:i<own.length
  ·rw [zn (by simpa using hi),List.getElem?_replicate] at e2
   split at e2<;>cases e2
  ·have hi':own.length<=i:=Nat.le_of_not_lt hi
   rw [zm (by simpa using hi'),zq] at e2;rw [zm hi'] at e1';obtain ⟨q1,q2,q3,q4⟩:=S.look _ x e1' (hv x e3);obtain ⟨u,r,l⟩:=hl (i - own.length) x v q1 e2 (q3.elim (fun z=>.inr (.inl z)) fun z=>.inr (.inr z));refine ⟨u,r,.inr ⟨?_,?_⟩⟩
   ·have e:(JP X scope (own++rest) cl s2 H2 C fp).env.kindOf x=(Jl scope.names X.env.scope.names).lookup x:=congrArg (List.lookup x) (J02 (sc:=scope) I.ok.kind)
    rw [e];exact q4
   ·rcases l with ⟨k,_⟩ | ⟨_,c,e,z⟩
    ·have k':X.env.scope.names.lookup x=some .local:=k
     rcases q3 with q3 | q3<;>(rw [q3] at k';cases k')
    ·obtain ⟨c',e'⟩:=hc2 x q2
     have e2:=hc1 x c' e';rw [e] at e2;cases e2;obtain ⟨o,q,d⟩:=z;exact ⟨c,e',o,old c o q,d⟩
 ·obtain ⟨v,o,q,d⟩:=I.cell x c (hc1 x c e)
  exact ⟨v,o,old c o q,d⟩
 ·show _=(own++rest).length
  have:=I.len;have:=S.len;simp only [y6,zq];omega
theorem Jam {H':Hp}{s':Shared}{σ':St}{D:Addr}{ys:List V}{its:List Value}{n:Nat}{pins':List (Addr×Obj)}(I:Inv X pins σ H2 s2)(J:Inv (JP X scope (own++rest) cl s2 H2 C fp) pins' σ' H' s')(hf:∀ b∈fp,J1B X pins H2 b)
 (hD:s2.heap.objs.size<=D) (hDn:H' D=none) (hDo:s'.heap.get? D=some { cls:=.type "list",data:=.seq its.toArray n }) (r:Vals ys its) (hz:ys.length<=sizeLine) :
 Inv X pins σ (upd H' D (.lst ys)) s':=by
 have u:Un (frs X.stack) fp H2 H' s2.heap s'.heap:=J.base;have nD:∀ b o,s2.heap.get? b=some o->b≠D:=fun b o e=>yO (yP (zu e) hD);refine I.call' (ch:=fp) J.os ⟨u.keep,u.slot,fun b o e n hx=>?_,u.there,fun b xs e=>?_,fun b o v e=>?_,fun b ps e=>?_⟩ (fun b o e=>?_) J.bare fun b hb=>?_
 ·rw [Jf (nD b o e)];exact u.free b o e n hx
 ·rw [Jf (Ji (u.tups b xs e) hDn)];exact u.tups b xs e
 ·rw [Jf (Ji (u.frzs b o v e) hDn)];exact u.frzs b o v e
 ·obtain ⟨more,q⟩:=u.tbls b ps e
  exact ⟨more,by rw [Jf (Ji q hDn)];exact q⟩
 ·by_cases hb:b=D
  ·subst hb;rw [Ja] at e;cases e;exact ⟨hz,its,n,r,hDo⟩
  ·rw [Jf hb] at e
   exact (J.hok b o e).stay (fun c v _ q=>q) (fun c q=>by rw [Jf (Ji q hDn)];exact q) fun c xs q=>by rw [Jf (Ji q hDn)];exact q
 ·obtain ⟨_,f1,_,f3,f4,f5⟩:=hf b hb
  exact ⟨f3,f1,f4,f5⟩
end
def PTs (X:Cx)(ifs:List Expr)(t:TT):Prop :=
 ∀ (pins:List (Addr×Obj)) (s:Shared) (σ:St) (H:Hp) (Q:Bool->Hp->Prop),Inv X pins σ H s->t σ H Q->wpAny (model X.prog X.w) X.A (J9u ifs X.env) (TP X pins σ Q) X.xe s
def JaB:TT:=fun _ H Q=>Q true H
theorem JN {X:Cx}:PTs X [] JaB:=fun _ _ _ H _ I h=>wpAny_tests_nil ⟨H,I,h⟩
theorem J2p {X:Cx}{c:Expr}{t:TT}(h:PT X c t):PTs X [c] t:=fun pins s σ H Q I q=>wpAny_tests_one (h pins s σ H Q I q)
def J4M (J:It)(g:TG)(tt:TT)(te:TE)(fin:List V->Hp->Prop)(σ0:St)(H1:Hp):Prop :=
 ∃ W : Nat->Nat->List V->St->Hp->Prop,(∃ m,W 0 m [] σ0 H1)/\∀ i m ys σ H,W i m ys σ H ->
   (J.stop i H/\fin ys H)\/(J.go i H/\ys.length<sizeLine/\∃ N:List V->St->Hp->Prop,(∀ ys' σ' H',N ys' σ' H'->∃ m',m'<m/\W (i+1) m' ys' σ' H') /\
    ∀ x H',J.yld i H x H'->g x σ H' fun σ2 H2=>tt σ2 H2 fun b H3=>if b=true then te σ2 H3 fun y H4=>N (ys++[y]) σ2 H4 else N ys σ2 H3)
section
variable {X:Cx}{pins:List (Addr×Obj)}{σ:St}{H2:Hp}{s2:Shared}{scope:Scope}{own rest:List Str}{cl:List (Str×Addr)}{fp:List Addr}{E:Value->Shared->Prop}
theorem comp_run {elt tg iter:Expr}{ifs:List Expr}{pos:Pos}{J:It}{it:Addr}{tn:Nat->Heap->Prop}{g:TG}{tt:TT}{te:TE}{fin:List V->Hp->Prop}{RR:Value->Addr->Result->Shared->Prop}{D:Nat}(hD:s2.heap.objs.size=D)(hcalm:X.calm=true)
 (I:Inv X pins σ H2 s2) (S:CompSc scope X.env.scope X.N rest) (hc1:∀ n c,cl.lookup n=some c->X.env.cells.lookup n=some c) (hc2:∀ n,(n,NameKind.free)∈scope.names->∃ c,cl.lookup n=some c)
 (T:Turn X.prog X.w X.K tg J fp it tn) (st:tn 0 s2.heap) (hf:∀ b∈fp,J1B X pins H2 b)
 (hg:PG (JP X scope (own++rest) cl s2 H2 (D+1:Nat) fp) tg g) (ht:PTs (JP X scope (own++rest) cl s2 H2 (D+1:Nat) fp) ifs tt)
 (he:PE (JP X scope (own++rest) cl s2 H2 (D+1:Nat) fp) elt te)
 (hw:J4M J g tt te fin (List.replicate own.length none++σ) H2)
 (hR:∀ (s':Shared) (H':Hp) (ys:List V),Inv X pins σ (upd H' D (.lst ys)) s'->(∃ m,s'.heap.Ns (D+1:Nat) m)->H' D=none->H' (D+1:Nat)=none->fin ys H'->RR (.ref D) (D+1:Nat) (.ok .next) s') :
 wpAny (model X.prog X.w) X.A (newList []) (fun acc s3=>wpAny (model X.prog X.w) X.A (newFunctionEnv scope X.env.globals cl [] X.env.qual none .none (some X.env)) (fun cenv s4 =>
  codeAny (model X.prog X.w) X.A (.compStart (.ListComp elt [⟨tg,iter,ifs,0⟩] scope pos) 0 (.ref it) acc { cenv with scope:=relabel scope X.env }) (RR acc cenv.locals) s4) E s3) E s2:=by
 refine wpAny_newObj_type (wpAny_newFunctionEnv S.cell (by intro y hy;simp at hy) (fun h1 hns hsb=>?_) S.kind);dsimp only at hns hsb ⊢;generalize hHp:s2.heap.push { cls:=.type "list",dict:=none,data:=.seq ([]:List Value).toArray }=Hp2 at hns hsb ⊢;have hC:Hp2.objs.size=s2.heap.objs.size+1:=by rw [<- hHp,Heap.size_push]
 rw [hD] at hC;rw [hC] at hns hsb ⊢;rw [hD];have nDC:D≠D+1:=yO (Nat.lt_succ_self _);have below:∀ b o,s2.heap.get? b=some o->b<D:=fun b o e=>by rw [<- hD];exact zu e
 have old:∀ b o,s2.heap.get? b=some o->h1.get? b=some o:=fun b o e=>by
  exact hsb.extBut b o (yO (Nat.lt_succ_of_lt (below b o e))) (zr _ (hHp ▸ zr _ e))
 have hDo:h1.get? D=some { cls:=.type "list",data:=.seq ([]:List Value).toArray 0 } :=
  hsb.extBut _ _ nDC (zr _ (by rw [<- hHp,<- hD];exact zt _ rfl))
 have hfo:∀ b∈fp,∃ o,s2.heap.get? b=some o:=fun b hb=>let ⟨o,e,_⟩:=T.obj 0 _ st b hb;⟨o,e⟩;have st1:tn 0 h1:=T.keep _ _ _ st fun b hb o e=>old b o e;have J0:Inv (JP X scope (own++rest) cl s2 H2 (D+1:Nat) fp) [] (List.replicate own.length none++σ) H2 { s2 with heap:=h1,toks:=s2.toks } :=
  comp_start I S hc1 hc2 (by omega) hf hfo old hns
 have nfs:D∉(JP X scope (own++rest) cl s2 H2 (D+1:Nat) fp).fs:=fun z=>by
  have z':D∈frs X.stack:=z;rcases zc.mp (I.stkSub D z') with q | q
  ·exact Nat.lt_irrefl D (by have h:=I.lt;rw [<- q,hD] at h;exact h)
  ·exact I.nofs (Nat.le_of_eq hD) q
 have ncl:∀ x c,(JP X scope (own++rest) cl s2 H2 (D+1:Nat) fp).env.cells.lookup x=some c->c≠D:=fun x c e z=>by
  obtain ⟨v,o,q,d⟩:=I.cell x c (hc1 x c e);exact yO (below c o q) z
 have loop:∀ s3:Shared,s3={ s2 with heap:=h1,toks:=s2.toks } ->
  codeAny (model X.prog X.w) X.A (.compLoop (.ListComp elt [⟨tg,iter,ifs,0⟩] scope pos) 0 (.ref it) (.ref D) (compEnvC scope cl (D+1) X.env)) (RR (.ref D) (D+1)) s3:=by
  rintro s3 rfl;obtain ⟨W,⟨m0,w0⟩,turn⟩:=hw;refine J5j (fun m s'=>∃ (i:Nat) (ys:List V) (its:List Value) (n:Nat) (σ':St) (H':Hp),Inv (JP X scope (own++rest) cl s2 H2 (D+1:Nat) fp) [] σ' H' s'/\tn i s'.heap/\(∀ b∈fp,H' b=none) /\
   s'.heap.get? D=some { cls:=.type "list",data:=.seq its.toArray n }/\H' D=none/\Vals ys its/\ys.length<=sizeLine/\W i m ys σ' H') ?_ m0
   ⟨0,[],[],0,_,H2,J0,st1,fun b hb=>(hf b hb).1,hDo,by rw [<- hD];exact I.fresh,.nil,by simp,w0⟩
  rintro m s3 ⟨i,ys,its,n,σ3,H3,J3,st3,fr3,ho3,hn3,r3,z3,w3⟩;have pin:∀ {σ':St} {H':Hp} {s':Shared},Inv (JP X scope (own++rest) cl s2 H2 (D+1:Nat) fp) [] σ' H' s'->s'.heap.get? D=some { cls:=.type "list",data:=.seq its.toArray n }->H' D=none ->
   Inv (JP X scope (own++rest) cl s2 H2 (D+1:Nat) fp) [(D,{ cls:=.type "list",data:=.seq its.toArray n })] σ' H' s':=fun {σ' H' s'} K1 K2 K3 =>
   K1.pins_of fun p hp=>by
    have e:p=(D,{ cls:=.type "list",data:=.seq its.toArray n }):=by simpa using hp
    subst e;exact ⟨K2,K3,nDC,nfs,fun v z=>nomatch z⟩
  have fpk:∀ {H':Hp},(∀ b∈fp,H' b=none)->∀ b∈fp,J1B (JP X scope (own++rest) cl s2 H2 (D+1:Nat) fp) [(D,{ cls:=.type "list",data:=.seq its.toArray n })] H' b:=fun {H'} fr b hb=>by
   obtain ⟨o,e⟩:=hfo b hb;have lt:=below b o e;refine ⟨fr b hb,yO (Nat.lt_succ_of_lt lt),?_,.inl hb,fun x c q=>(hf b hb).2.2.2.2.1 x c (hc1 x c q),fun p hp=>?_⟩
   ·intro z
    have z':b∈frs X.stack:=z;rcases zc.mp (I.stkSub b z') with q | q
    ·exact (hf b hb).2.1 q
    ·exact (hf b hb).2.2.1 q
   ·have e:p=(D,{ cls:=.type "list",data:=.seq its.toArray n }):=by
     have hp':p∈[(D,({ cls:=.type "list",data:=.seq its.toArray n }:Obj))]:=hp;simpa using hp'
    subst e;exact Nat.ne_of_gt lt
  have J3p:=pin J3 ho3 hn3;rcases turn i m ys σ3 H3 w3 with ⟨stop,q⟩ | ⟨go,hlt,N,hN,step⟩
  ·refine thn (T.done (JP X scope (own++rest) cl s2 H2 (D+1:Nat) fp) rfl rfl rfl hcalm i _ s3 σ3 H3 _ J3p (fpk fr3) st3 stop) fun r s4 ⟨hr,J4⟩=>?_
   subst hr;have ho4:=J4.pin _ (zi _ y9);refine hR s4 H3 ys (Jam I J4 hf (by omega) hn3 ho4.1 r3 z3) ?_ hn3 J4.free q;obtain ⟨mm,hmm,_⟩:=J4.loc;exact ⟨mm,hmm⟩
  ·refine thn (T.item (JP X scope (own++rest) cl s2 H2 (D+1:Nat) fp) rfl rfl rfl hcalm i _ s3 σ3 H3 _ J3p (fpk fr3) st3 go) fun r s4 ⟨u,hr,h4⟩=>?_
   subst hr;refine thn h4 fun _ s5 ⟨x,H5,J5,r5,y5,st5,fr5⟩=>?_;have J5':=J5.pinned (fpk fr5) (T.obj _ _ st5);refine thn (hg _ s5 σ3 H5 x u _ J5' r5 (step x H5 y5)) fun _ s6 ⟨σ6,H6,J6,q6⟩=>?_;refine thn (ht _ s6 σ6 H6 _ J6 q6) fun b s7 ⟨H7,J7,q7⟩=>?_;have stay:∀ {σ':St} {H':Hp} {s':Shared},Inv (JP X scope (own++rest) cl s2 H2 (D+1:Nat) fp) ([(D,{ cls:=.type "list",data:=.seq its.toArray n })]++J3h fp s5.heap) σ' H' s' ->
    Inv (JP X scope (own++rest) cl s2 H2 (D+1:Nat) fp) [] σ' H' s'/\tn (i+1) s'.heap/\(∀ b∈fp,H' b=none)/\s'.heap.get? D=some { cls:=.type "list",data:=.seq its.toArray n }/\H' D=none:=fun {σ' H' s'} K1=>by
    refine ⟨K1.pins_of fun p hp=>absurd hp (by simp),T.keep _ _ _ st5 fun b hb o e=>(K1.pin (b,o) (zi _ (zi _ (J0Y hb e)))).1,fun b hb=>?_,?_,?_⟩
    ·obtain ⟨o,e,d⟩:=T.obj _ _ st5 b hb
     exact (K1.pin (b,o) (zi _ (zi _ (J0Y hb e)))).2.1
    ·exact (K1.pin (D,_) (zi _ (zj _ y9))).1
    ·exact (K1.pin (D,_) (zi _ (zj _ y9))).2.1
   cases b with
   | false =>
     rw [yH yK] at q7 ⊢;obtain ⟨k1,k2,k3,k4,k5⟩:=stay J7;obtain ⟨m',hm,w'⟩:=hN _ _ _ q7;exact ⟨m',hm,i+1,ys,its,n,σ6,H7,k1,k2,k3,k4,k5,r3,z3,w'⟩
   | true =>
     rw [yI rfl] at q7 ⊢;refine thn (he _ s7 σ6 H7 _ J7 q7) fun xv s8 ⟨y,H8,J8,r8,q8⟩=>?_;obtain ⟨k1,k2,k3,k4,k5⟩:=stay J8;refine call_meets F.slot_list_append ⟨_,k4,rfl⟩ F.entry_list_append (F.args_list_append_2 _ _) (PySem.list_append D its.toArray n xv (by rw [yY,<- r3.length];omega)) ⟨k4,?_⟩;obtain ⟨m',hm,w'⟩:=hN _ _ _ q8;have ho9:=PySem.IsL.update k4 (fun a=>a.push xv);have ek:∀ b o,b≠D->s8.heap.get? b=some o->(s8.heap.update D (Obj.mapSeq (fun a=>a.push xv))).get? b=some o:=fun b o hb e=>(zw s8.heap (Obj.mapSeq _) (Ne.symm hb)).trans e;refine ⟨m',hm,i+1,ys++[y],its++[xv],(if ((its.toArray.push xv).size == its.toArray.size)=true then n else n+1),σ6,H8,k1.turned (it:=D) (t':=s8.toks) ek k5 nDC (.inr (show s2.heap.objs.size<=D by omega)) ncl (fun p hp=>absurd (show p∈([]:List (Addr×Obj)) from hp) (by simp)),?_,k3,?_,k5,r3.append (.cons r8 .nil),?_,w'⟩
     ·refine T.keep _ _ _ k2 fun b hb o e=>ek b o ?_ e
      obtain ⟨o',e'⟩:=hfo b hb;exact yO (below b o' e')
     ·have e2:its.toArray.push xv=(its++[xv]).toArray:=by simp
      rw [<- e2];exact ho9
     ·simp only [y6,length_cons,length_nil];omega
 exact codeAny_compStart_list (loop _ rfl) (T.self X.A 0 _ _ _ st1 (loop _ rfl))
end
def J6c (k:Nat)(wi:TI)(g:TG)(tt:TT)(te:TE):TE:=fun σ H Q=>wi σ H fun J H1=>J4M J g tt te (fun ys H'=>∀ D,H' D=none->Q (.ref D) (upd H' D (.lst ys))) (List.replicate k none++σ) H1
section
variable {X:Cx}{elt tg iter:Expr}{ifs:List Expr}{scope:Scope}{pos:Pos}{wi:TI}{g:TG}{tt:TT}{te:TE}
theorem Inv.closed {pins:List (Addr×Obj)}{σ:St}{H:Hp}{s:Shared}{N rest:List Str}(I:Inv X pins σ H s)(S:CompSc scope X.env.scope N rest) :
 ∃ cl,closureFor scope X.env=pure cl/\(∀ n c,cl.lookup n=some c->X.env.cells.lookup n=some c)/\(∀ n,(n,NameKind.free)∈scope.names->∃ c,cl.lookup n=some c) :=
 J4I fun n z=>I.ok.has n (S.free n z)
theorem Inv.letgo {pins pins':List (Addr×Obj)}{σ σ':St}{H H':Hp}{s s':Shared}{b:Addr}{h':Heap}(I:Inv X pins σ H s)(J:Inv X pins σ' H' s')(hb:s.heap.objs.size<=b)(hn:H' b=none)(sb:Heap.SameBut b s'.heap h'):Inv X pins σ' H' { s' with heap:=h' }:=by
 obtain ⟨f0,f1,f2,f3,f4,f5⟩:=I.fpOk hb hn;exact J.turned (t':=s'.toks) (fun c o hc e=>(sb.2 c hc).trans e) f0 f1 f3 f4 f5
theorem JW (own rest:List Str)(hcalm:X.calm=true)(S:CompSc scope X.env.scope X.N rest)(hi:PI X tg iter wi)
 (hg:∀ cl s2 H2 C fp,PG (JP X scope (own++rest) cl s2 H2 C fp) tg g) (ht:∀ cl s2 H2 C fp,PTs (JP X scope (own++rest) cl s2 H2 C fp) ifs tt) (he:∀ cl s2 H2 C fp,PE (JP X scope (own++rest) cl s2 H2 C fp) elt te)
 (hs:∀ x,foldedSetIterable iter X.env x=pure x:=by intro _;rfl):PE X (.ListComp elt [⟨tg,iter,ifs,0⟩] scope pos) (J6c own.length wi g tt te):=by
 intro pins s σ H Q I h;obtain ⟨cl,hcl,hc1,hc2⟩:=I.closed S;rw [eval_ListComp];refine wpAny_comprehension_free (use:=none) rfl hs hcl S.kind S.loc (thn (hi pins s σ H _ I h) fun v s1 h1=>thn h1 fun itv s2 h2=>?_);obtain ⟨it,fp,tn,J,H2,e,I2,T,st,hf,hw⟩:=h2;subst e;refine comp_run (RR:=fun acc C=>compPost (model X.prog X.w) X.A X.xe none (EP X pins σ Q) acc C) (D:=s2.heap.objs.size) rfl hcalm I2 S hc1 hc2 T st hf (hg _ _ _ _ _) (ht _ _ _ _ _) (he _ _ _ _ _) hw ?_;intro s' H' ys J' ⟨m,hm⟩ hD hC q;refine ⟨m,hm,fun h' sb=>⟨.ref s2.heap.objs.size,_,I2.letgo (pins':=pins) (b:=(s2.heap.objs.size+1:Nat)) J' (Nat.le_succ _) ?_ sb,rfl,q _ hD⟩⟩;rw [Jf (Nat.ne_of_gt (Nat.lt_succ_self _))];exact hC
theorem J1w {i:Nat}{y:Str}{py spos:Pos}(own rest:List Str)(hcalm:X.calm=true)(S:CompSc scope X.env.scope X.N rest)(hN:X.N.Nodup)(hy:X.N[i]?=some y)(hl:X.env.scope.names.lookup y=some .local)(hi:PI X tg iter wi)
 (hg:∀ cl s2 H2 C fp,PG (JP X scope (own++rest) cl s2 H2 C fp) tg g) (ht:∀ cl s2 H2 C fp,PTs (JP X scope (own++rest) cl s2 H2 C fp) ifs tt) (he:∀ cl s2 H2 C fp,PE (JP X scope (own++rest) cl s2 H2 C fp) elt te)
 (hsw:swapsWith (.ListComp elt [⟨tg,iter,ifs,0⟩] scope pos) (some (.Name y py)) spos.line X.env=pure true:=by rfl)
 (hs:∀ x,foldedSetIterable iter X.env x=pure x:=by intro _;rfl):PS X (.Assign [.Name y py] (.ListComp elt [⟨tg,iter,ifs,0⟩] scope pos) spos) (J14 (J6c own.length wi g tt te) (JK i)):=by
 intro pins s σ H D I h;obtain ⟨cl,hcl,hc1,hc2⟩:=I.closed S;rw [exec_Assign_Name_used _ _ _ _ hsw];refine yF (wpAny_standAt (yF ?_));show wpAny _ X.A (do let _ <- comprehension (.ListComp elt [⟨tg,iter,ifs,0⟩] scope pos) scope X.env _ (newList []) false (eval iter X.env) (some (assign (.Name y py) X.env))) _ _ s;refine yF (wpAny_mono (wpAny_comprehension_free (use:=some (assign (.Name y py) X.env)) (Q:=fun _ s'=>SP X pins D .next s') rfl hs hcl S.kind S.loc (thn (hi pins s σ H _ I h) fun v s1 h1=>thn h1 fun itv s2 h2=>?_)) (fun _ s' hq=>yG (yG hq)) fun _ _ e=>e);obtain ⟨it,fp,tn,J,H2,e,I2,T,st,hf,hw⟩:=h2;subst e;refine comp_run (RR:=fun acc C=>compPost (model X.prog X.w) X.A X.xe (some (assign (.Name y py) X.env)) (fun _ s'=>SP X pins D .next s') acc C) (D:=s2.heap.objs.size) rfl hcalm I2 S hc1 hc2 T st hf (hg _ _ _ _ _) (ht _ _ _ _ _) (he _ _ _ _ _) hw ?_;intro s' H' ys J' ⟨m,hm⟩ hD hC q;show wpAny _ X.A (assign (.Name y py) X.env (.ref s2.heap.objs.size)) _ _ s';refine wpAny_assign_Name (store_ok2 (v:=.ref s2.heap.objs.size) J' hN hy (.inl hl) rfl (fun s3 J3 ⟨a,sb,ha⟩=>?_) (.inr hl));have hne:s2.heap.objs.size+1≠a:=by
  rcases ha with ha | ha
  ·rw [ha];exact Nat.ne_of_gt (Nat.lt_succ_of_lt I2.lt)
  ·obtain ⟨v,o,e,d⟩:=I2.cell y a ha
   exact Nat.ne_of_gt (Nat.lt_succ_of_lt (zu e))
 refine ⟨m,hm.sameBut sb hne,fun h' sb'=>⟨_,_,I2.letgo (pins':=pins) (b:=(s2.heap.objs.size+1:Nat)) J3 (Nat.le_succ _) ?_ sb',q _ hD⟩⟩;rw [Jf (Nat.ne_of_gt (Nat.lt_succ_self _))];exact hC
end
structure Walk (J:It)(xs:List V)(ok:Hp->Prop):Prop where
 go:∀ i H,ok H->i<xs.length->J.go i H
 yld:∀ i H x H',ok H->i<xs.length->J.yld i H x H'->H'=H/\xs[i]?=some x
 stop:∀ H,ok H->J.stop xs.length H
theorem Ju {K:Frag}{a:Addr}{xs:List V}:Walk (Itl K a) xs (fun H=>SqL K H a xs) where
 go:=fun i H q hi=>⟨xs,xs[i],q,by simp [hi]⟩
 yld:=fun i H x H' q _ y=>⟨y.1,y.2 xs q⟩
 stop:=fun H q=>⟨xs,q,yJ _⟩
def J3f (lo:Int)(n:Nat):List V:=(List.range n).map fun (i:Nat)=>V.int (lo+i)
theorem Jv (lo:Int)(n:Nat):(J3f lo n).length=n:=by simp [J3f]
theorem J4e {lo:Int}{n i:Nat}(h:i<n):(J3f lo n)[i]?=some (.int (lo+i)):=by simp [J3f,h]
theorem J0e {lo:Int}{n:Nat}:Walk (Itr lo n) (J3f lo n) (fun _=>True) where
 go:=fun i H _ hi=>by rw [Jv] at hi;exact hi
 yld:=fun i H x H' _ hi y=>⟨y.1,by rw [Jv] at hi;rw [J4e hi,y.2]⟩
 stop:=fun H _=>Nat.le_of_eq (Jv lo n).symm
theorem Jad {J:It}{xs:List V}{ok:Hp->Prop}(w:Walk J xs ok){g:TG}{tb:TS}{D:Ends}{σ:St}{H:Hp}(Pv:Nat->St->Hp->Prop)(h0:Pv 0 σ H)(hl:∀ i σ H,i<=xs.length->Pv i σ H->ok H)
 (hs:∀ i x σ H,xs[i]?=some x->Pv i σ H->g x σ H fun σ2 H2=>tb { D with nx:=Pv (i+1),ct:=Pv (i+1),bk:=D.nx } σ2 H2) (hd:∀ σ H,Pv xs.length σ H->D.nx σ H) :
 ∃ W:Nat->Nat->St->Hp->Prop,(∃ m,W 0 m σ H)/\∀ i m σ H,W i m σ H ->
   (J.stop i H/\D.nx σ H)\/(J.go i H/\∃ N:St->Hp->Prop,(∀ σ' H',N σ' H'->∃ m',m'<m/\W (i+1) m' σ' H')/\∀ x H',J.yld i H x H'->g x σ H' fun σ2 H2=>tb { D with nx:=N,ct:=N,bk:=D.nx } σ2 H2):=by
 refine ⟨fun i m σ H=>m=xs.length - i/\i<=xs.length/\Pv i σ H,⟨xs.length,by simp,yQ _,h0⟩,?_⟩;rintro i m σ H ⟨rfl,hi,p⟩;have q:=hl i σ H hi p;by_cases hlt:i<xs.length
 ·refine .inr ⟨w.go i H q hlt,Pv (i+1),fun σ' H' p'=>⟨xs.length - (i+1),by omega,rfl,hlt,p'⟩,fun x H' y=>?_⟩
  obtain ⟨e,y'⟩:=w.yld i H x H' q hlt y;subst e;exact hs i x σ _ y' p
 ·have e:i=xs.length:=by omega
  subst e;exact .inl ⟨w.stop H q,hd σ H p⟩
theorem Jx {J:It}{xs:List V}{ok:Hp->Prop}(w:Walk J xs ok){tt:TT}{te:TE}{fin:List V->Hp->Prop}{σ:St}{H:Hp}(hz:xs.length<=sizeLine)(Pv:Nat->List V->Hp->Prop)(h0:Pv 0 [] H)(hl:∀ i ys H,i<=xs.length->Pv i ys H->ok H)
 (J05:∀ i ys H,Pv i ys H->ys.length<=i)
 (hs:∀ i x ys H,xs[i]?=some x->Pv i ys H->tt (some x::σ) H fun b H3=>if b=true then te (some x::σ) H3 fun y H4=>(∃ o,some x::σ=o::σ)/\Pv (i+1) (ys++[y]) H4 else (∃ o,some x::σ=o::σ)/\Pv (i+1) ys H3) (hd:∀ ys H,Pv xs.length ys H->fin ys H) :
 J4M J (JK 0) tt te fin (List.replicate 1 none++σ) H:=by
 refine ⟨fun i m ys σ' H=>m=xs.length - i/\i<=xs.length/\(∃ o,σ'=o::σ)/\Pv i ys H,⟨xs.length,by simp,yQ _,⟨none,rfl⟩,h0⟩,?_⟩;rintro i m ys σ' H ⟨rfl,hi,⟨o,rfl⟩,p⟩;have hy:=J05 i ys H p;have q:=hl i ys H hi p;by_cases hlt:i<xs.length
 ·refine .inr ⟨w.go i H q hlt,by omega,fun ys' σ' H'=>(∃ o,σ'=o::σ)/\Pv (i+1) ys' H',fun ys' σ' H' p'=>⟨xs.length - (i+1),by omega,rfl,hlt,p'⟩,fun x H' y=>?_⟩
  obtain ⟨e,y'⟩:=w.yld i H x H' q hlt y;subst e;exact hs i x ys _ y' p
 ·have e:i=xs.length:=by omega
  subst e;exact .inl ⟨w.stop H q,hd ys H p⟩
def sgn (c:Nat):V:=.str ⟨#[c]⟩
def Its (z:Str):It:=⟨fun i _=>i<z.cps.size,fun i H x H'=>H'=H/\∃ c,z.cps[i]?=some c/\x=sgn c,fun i _=>i=z.cps.size⟩
section
variable {X:Cx}{tg:Expr}
def JdB (tl:TE):TI:=fun σ H R=>tl σ H fun x H1=>∃ z,x=.str z/\R (Its z) H1
end
mutual
def Rep (K:Frag)(H:Hp):PyData->V->Prop
 | .none,v=>v=.non
 | .bool b,v=>v=.bl b
 | .int i,v=>v=.int i
 | .str x,v=>v=.str x
 | .list ds,v=>∃ a xs,v=.ref a/\SqL K H a xs/\Reps K H ds xs
 | .tuple ds,v=>∃ a xs,v=.ref a/\SqT K H a xs/\Reps K H ds xs
 | .dict _,_=>False
def Reps (K:Frag)(H:Hp):List PyData->List V->Prop
 | [],vs=>vs=[]
 | d::ds,vs=>∃ v r,vs=v::r/\Rep K H d v/\Reps K H ds r
end
section
variable {X:Cx}{pins:List (Addr×Obj)}{σ:St}{H:Hp}{s:Shared}
mutual
theorem Rep.reads (I:Inv X pins σ H s):∀ (d:PyData) (v:V) (u:Value),Rep X.K H d v->RelV v u->∃ as,Reads s.heap u d as
 | .none,v,u,h,r=>by
   have e:v=.non:=by simpa [Rep] using h
   subst e;cases r;exact ⟨_,.none⟩
 | .bool b,v,u,h,r=>by
   have e:v=.bl b:=by simpa [Rep] using h
   subst e;cases r;exact ⟨_,.bool b⟩
 | .int i,v,u,h,r=>by
   have e:v=.int i:=by simpa [Rep] using h
   subst e;obtain ⟨t,rfl⟩:=r;exact ⟨_,.int i t⟩
 | .str x,v,u,h,r=>by
   have e:v=.str x:=by simpa [Rep] using h
   subst e;obtain ⟨t,rfl⟩:=r;exact ⟨_,.str x t⟩
 | .list ds,v,u,h,r=>by
   obtain ⟨a,xs,rfl,hs,hr⟩:∃ a xs,v=.ref a/\SqL X.K H a xs/\Reps X.K H ds xs:=by simpa only [Rep] using h
   cases r;obtain ⟨its,rv,p,hz⟩:=I.list hs;obtain ⟨o,ho,hc,n,hd⟩:=p.isList;obtain ⟨as,q⟩:=Reps.reads I ds xs its hr rv;exact ⟨_,.list ho hc hd (by simpa using q)⟩
 | .tuple ds,v,u,h,r=>by
   obtain ⟨a,xs,rfl,hs,hr⟩:∃ a xs,v=.ref a/\SqT X.K H a xs/\Reps X.K H ds xs:=by simpa only [Rep] using h
   cases r;obtain ⟨its,rv,p,hz⟩:=I.tuple hs;obtain ⟨o,ho,hc,n,hd⟩:=p;obtain ⟨as,q⟩:=Reps.reads I ds xs its hr rv;exact ⟨_,.tuple ho hc hd (by simpa using q)⟩
 | .dict _,v,u,h,r=>by simp [Rep] at h
theorem Reps.reads (I:Inv X pins σ H s):∀ (ds:List PyData) (vs:List V) (us:List Value),Reps X.K H ds vs->Vals vs us->∃ as,ReadsAll s.heap us ds as
 | [],vs,us,h,r=>by
   have e:vs=[]:=by simpa [Reps] using h
   subst e;cases r;exact ⟨_,.nil⟩
 | d :: ds,vs,us,h,r=>by
   obtain ⟨v,q,rfl,h1,h2⟩:∃ v r,vs=v::r/\Rep X.K H d v/\Reps X.K H ds r:=by simpa only [Reps] using h
   cases r with
   | cons r1 r2 =>
     obtain ⟨as,q1⟩:=Rep.reads I d v _ h1 r1;obtain ⟨bs,q2⟩:=Reps.reads I ds q _ h2 r2;exact ⟨_,.cons q1 q2⟩
end
end
section
variable {X:Cx}
def J7f (K:Frag)(neg:Bool):R2:=fun x y H Q=>∃ d e,Rep K H d x/\Rep K H e y/\SeqAt.shaped d=true/\SeqAt.shaped e=true/\Q (.bl (if neg then !PyData.eqv d e else PyData.eqv d e)) H
theorem JbV (hu:X.A.units+64<cLine):OpR X (compareOp .Eq) (J7f X.K false):=by
 intro pins s σ H x y v u Q I rx ry h;obtain ⟨d,e,h1,h2,h3,h4,q⟩:=h;obtain ⟨as,q1⟩:=Rep.reads I d x v h1 rx;obtain ⟨bs,q2⟩:=Rep.reads I e y u h2 ry;exact eq_dataH q1 q2 h3 h4 hu (JE I q rfl)
theorem JbT (hu:X.A.units+64<cLine):OpR X (compareOp .NotEq) (J7f X.K true):=by
 intro pins s σ H x y v u Q I rx ry h;obtain ⟨d,e,h1,h2,h3,h4,q⟩:=h;obtain ⟨as,q1⟩:=Rep.reads I d x v h1 rx;obtain ⟨bs,q2⟩:=Rep.reads I e y u h2 ry;exact ne_dataH q1 q2 h3 h4 hu (JE I q rfl)
def Jdy (K:Frag)(g:List Bool->Bool):List V->Hp->VK->Prop:=fun xs H Q=>∃ a bs,xs=[.ref a]/\SqL K H a (bs.map V.bl)/\Q (.bl (g bs)) H
end
section
variable {X:Cx}
structure DefOk (K:Frag)(mg:Str->Option Value)(x:Str)(st:Stmt)(ps:List Str)(f:Addr)(fd:FuncData):Prop where
 F:Fun K x x st f fd
 b:Binds K fd ps []
 m:mg x=some (.ref f)
theorem pvl (i:Nat){x:Str}{pos:Pos}(hN:X.N[i]?=some x:=by rfl)(hv:X.env.scope.names.lookup x=some .local:=by rfl)(hd:(x == ("__debug__":Str))=false:=by decide)(hcd:(x == ("__classdict__":Str))=false:=by decide):PE X (.Name x pos) (J6b i):=J9N hN (.inl hv) hd hcd
theorem pvc (i:Nat){x:Str}{pos:Pos}(hN:X.N[i]?=some x:=by rfl)(hv:X.env.scope.names.lookup x=some .cell:=by rfl)(hd:(x == ("__debug__":Str))=false:=by decide)(hcd:(x == ("__classdict__":Str))=false:=by decide):PE X (.Name x pos) (J6b i):=J9N hN (.inr (.inl hv)) hd hcd
theorem pgl (i:Nat){x:Str}{pos:Pos}(hN:X.N.Nodup)(hi:X.N[i]?=some x:=by rfl)(hv:X.env.scope.names.lookup x=some .local:=by rfl):PG X (.Name x pos) (JK i):=J80 hN hi (.inl hv) (.inr hv)
theorem pgc (i:Nat){x:Str}{pos:Pos}(hN:X.N.Nodup)(hi:X.N[i]?=some x:=by rfl)(hv:X.env.scope.names.lookup x=some .cell:=by rfl)(hf:X.fn x=true:=by rfl):PG X (.Name x pos) (JK i):=J80 hN hi (.inr hv) (.inl hf)
theorem psl (i:Nat){x:Str}{pos pos':Pos}{e:Expr}{te:TE}(hN:X.N.Nodup)(he:PE X e te)(hi:X.N[i]?=some x:=by rfl)(hv:X.env.scope.names.lookup x=some .local:=by rfl)(hs:swapsWith e (some (.Name x pos')) pos.line X.env=pure false:=by rfl) :
 PS X (.Assign [.Name x pos'] e pos) (J14 te (JK i)):=J9G hN hi (.inl hv) he hs (.inr hv)
theorem psc (i:Nat){x:Str}{pos pos':Pos}{e:Expr}{te:TE}(hN:X.N.Nodup)(he:PE X e te)(hi:X.N[i]?=some x:=by rfl)(hv:X.env.scope.names.lookup x=some .cell:=by rfl)(hs:swapsWith e (some (.Name x pos')) pos.line X.env=pure false:=by rfl)(hf:X.fn x=true:=by rfl) :
 PS X (.Assign [.Name x pos'] e pos) (J14 te (JK i)):=J9G hN hi (.inr hv) he hs (.inl hf)
theorem pgi {x:Str}{i:Int}{pos:Pos}(hm:∃ tk,X.mg x=some (.int i tk))(hg:Gl X x:=by rfl)(hd:(x == ("__debug__":Str))=false:=by decide):PE X (.Name x pos) (tC (.int i)):=let ⟨t,e⟩:=hm;J82 hg e ⟨t,rfl⟩ hd
theorem pty {x:Str}{T:String}{pos:Pos}(hm:X.mg x=none)(hv:bootBuiltins x=some (.type T))(hg:Gl X x:=by rfl)(hn:x≠"__name__":=by decide)(hd:(x == ("__debug__":Str))=false:=by decide):PE X (.Name x pos) (tC (.ty T)):=JaW hg hm hv rfl hn hd
end
theorem Same.new {H H':Hp}(e:Same H H'){p:Addr}(h:H' p=none)(o:HO):Same H (upd H' p o):=fun b q z=>by
 rw [Jf (Ji (e b q z) h)];exact e b q z
theorem Same.upd_new {H:Hp}{p:Addr}(h:H p=none)(o:HO):Same H (upd H p o):=(Same.refl H).new h o
theorem Same.set {H H':Hp}(e:Same H H'){p:Addr}(h:H p=none)(o:HO):Same H (upd H' p o):=fun b q z=>by
 rw [Jf (Ji z h)];exact e b q z
theorem J00:bootBuiltins "len"=some (.builtin "len"):=by decide +kernel
theorem Jat:bootBuiltins "min"=some (.builtin "min"):=by decide +kernel
theorem J1p:bootBuiltins "sum"=some (.builtin "sum"):=by decide +kernel
theorem J2w:bootBuiltins "sorted"=some (.builtin "sorted"):=by decide +kernel
theorem J0k:bootBuiltins "isinstance"=some (.builtin "isinstance"):=by decide +kernel
theorem Jcg:bootBuiltins "int"=some (.type "int"):=by decide +kernel
theorem J0S:bootBuiltins "list"=some (.type "list"):=by decide +kernel
theorem Jc {n:Nat}(h:n<=1000000):n<=sizeLine:=by rw [sizeLine_eq];omega
def J7Y:List String:=["NoneType","bool","int","str","list","tuple","dict"]
structure Pl (K:Frag)(H:Hp)(x:V)(T:String):Prop where
 ty:TyOf K H x (.type T)
 mem:T∈J7Y
 sz:∀ z,x=.str z->z.length<=sizeLine
def Jd2 (T S:String):Bool:=T == S||(T == "bool"&&S == "int")
def Jdx (K:Frag):List V->Hp->VK->Prop:=fun xs H Q=>∃ x S T,xs=[x,.ty S]/\Pl K H x T/\S∈J7Y/\Q (.bl (Jd2 T S)) H
section
variable {X:Cx}{K:Frag}(e:X.K=K)
include e
def J9y (K:Frag):List V->Hp->VK->Prop:=fun xs H Q=>∃ p ys,xs=[.ref p]/\(SqL K H p ys\/SqT K H p ys)/\Q (.int ys.length) H
theorem J0x:J0i X (.builtin "len") (J9y K):=by subst e;exact J63
def Jdo (K:Frag):List V->Hp->VK->Prop:=fun xs H Q=>∃ x n,xs=[x]/\Jdg K x H n/\Q (.int n) H
def J3O (K:Frag):List V->Hp->VK->Prop:=fun xs H Q=>∃ p ys,xs=[.ref p]/\(SqL K H p ys\/SqT K H p ys)/\∀ l,H l=none->Q (.ref l) (upd H l (.lst ys))
theorem J1V:J0i X (.type "list") (J3O K):=by subst e;exact J62
def Jcs (K:Frag):List V->Hp->VK->Prop:=fun xs H Q=>∃ p ys,xs=[.ref p]/\((SqL K H p ys/\∀ l,H l=none->Q (.ref l) (upd H l (.tup ys)))\/(SqT K H p ys/\Q (.ref p) H))
theorem J0c:IxR X (JbH K):=by subst e;exact Jb3
theorem J0V:IxR X (Jcw K):=by subst e;exact Jc8
theorem J2e:SlR X (JaL K):=by subst e;exact JaE
theorem JcF:SlR X (Jct K):=by subst e;exact JbD
theorem JcG (hu:X.A.units+64<cLine):OpR X (compareOp .Eq) (J7f K false):=by subst e;exact JbV hu
theorem J87 (hu:X.A.units+64<cLine):OpR X (compareOp .NotEq) (J7f K true):=by subst e;exact JbT hu
theorem J0d {tg l:Expr}{tl:TE}(hl:PE X l tl):PI X tg l (J8d K tl):=by subst e;exact JaS hl
theorem J1x {es:List Expr}{k:Nat}{t:TGs}{n:Nat}{pos:Pos}(hc:X.calm=true)(h:PGs X es t)(hn:(assignEach es X.env).length=n:=by rfl)(hst:(assignEach es X.env).findIdx? (·.1)=none:=by rfl):PG X (.Tuple es k pos) (Jb7 K n t):=by subst e;exact JbN hc h hn hst
theorem Jd1 {o a:Expr}{es:List Expr}{to:TE}{t:TA}{name:Str}{apos cpos:Pos}{T id:String}{r:V->List V->Hp->VK->Prop}(pa:PlainAttrs T)(slot:Slot T name id)(hty:typeOf (.builtin id)=pure (.type "method_descriptor"))(hm:MtR X id r)(ho:PE X o to)(ha:PA X (a::es) t)
 (hbase:attributeBase o name X.env (eval o X.env)=eval o X.env:=by rfl)
 (hfew:((backTo cpos (starEach (a::es) X.env)).all (fun x=>!x.1)&&(backToKw cpos (keywordEach [] X.env)).all (fun x=>x.1.isSome)
  && decide ((a::es).length+([]:List Keyword).length+(if ([]:List Keyword).isEmpty then 0 else 1)<30))=true:=by rfl)
 (hline:(apos.endLine == cpos.line)=true:=by rfl) (hs:starEach (a::es) X.env=(false,eval a X.env)::starEach es X.env:=by rfl) (hplain:(backTo cpos (starEach es X.env)).any (·.1)=false:=by rfl) :
 PE X (.Call (.Attribute o name apos) (a::es) [] cpos) (tBM K T r to t):=by subst e;exact Jcy pa slot hty hm ho ha hbase hfew hline hs hplain
end
def Jw:Expr->Bool
 | .Starred _ _=>false
 | _=>true
theorem JJ {e:Expr}{es:List Expr}{env:Env}(h:Jw e=true):starEach (e::es) env=(false,eval e env)::starEach es env:=by
 cases e<;>first | rfl | cases h
theorem J54 {env:Env}:∀ {es:List Expr},es.all Jw=true->(starEach es env).any (·.1)=false
 | [],_=>rfl
 | e::es,h=>by
   rw [all_cons,Bool.and_eq_true] at h;rw [JJ h.1,any_cons,J54 h.2];rfl
theorem J0w {env:Env}{pos:Pos}{es:List Expr}(h:es.all Jw=true):(backTo pos (starEach es env)).any (·.1)=false:=by
 have:=J54 (env:=env) h;unfold backTo;rw [any_map];exact this
section
variable {X:Cx}{e:Expr}{es:List Expr}{te:TE}{t:TA}
theorem pal (hn:Jw e=true)(ha:PE X e te)(hr:PA X es t):PA X (e::es) (J53 te t):=JaY ha hr (JJ hn)
theorem Jk {x:Str}{st:Stmt}{ps:List Str}{f:Addr}{fd:FuncData}{k:Nat}{sp:Sp}{p pos:Pos}(D:DefOk X.K X.mg x st ps f fd)(G:FnOk X.prog X.w X.K X.mg X.base CX0 k f fd ps sp)(hr:Room k X.A)
 (hg:Gl X x) (hdb:(x == ("__debug__":Str))=false) (hn:(e::es).all Jw=true) (ha:PA X (e::es) t) :
 PE X (.Call (.Name x p) (e::es) [] pos) (J7K sp [] E0 t) :=
 have h:Jw e=true/\es.all Jw=true:=by rw [all_cons,Bool.and_eq_true] at hn;exact hn
 JaV G hr hg D.m D.F.kp D.b .nil J3w ha hdb (JJ h.1) (J0w h.2)
theorem JC {x:Str}{p pos:Pos}{id:String}{r:List V->Hp->VK->Prop}(hc:J0i X (.builtin id) r)(hm:X.mg x=none)(hv:bootBuiltins x=some (.builtin id))(hg:Gl X x)(hn:x≠"__name__")(hdb:(x == ("__debug__":Str))=false)
 (hs:(e::es).all Jw=true) (ha:PA X (e::es) t):PE X (.Call (.Name x p) (e::es) [] pos) (tCB r t) :=
 have h:Jw e=true/\es.all Jw=true:=by rw [all_cons,Bool.and_eq_true] at hs;exact hs
 J9R hc hg hm hv ha hn hdb (JJ h.1) (J0w h.2)
theorem J0P {x:Str}{p pos:Pos}{T:String}{r:List V->Hp->VK->Prop}(hc:J0i X (.type T) r)(hm:X.mg x=none)(hv:bootBuiltins x=some (.type T))(hg:Gl X x)(hn:x≠"__name__")(hdb:(x == ("__debug__":Str))=false)
 (hs:(e::es).all Jw=true) (ha:PA X (e::es) t):PE X (.Call (.Name x p) (e::es) [] pos) (tCB r t) :=
 have h:Jw e=true/\es.all Jw=true:=by rw [all_cons,Bool.and_eq_true] at hs;exact hs
 J8D hc hg hm hv ha hn hdb (JJ h.1) (J0w h.2)
theorem Jav {env:Env}{pos:Pos}{es:List Expr}(h:es.all Jw=true):(backTo pos (starEach es env)).all (fun x=>!x.1)=true:=by
 have:=J0w (env:=env) (pos:=pos) h;rw [any_eq_false] at this;rw [all_eq_true];intro x hx;have:=this x hx;simpa using this
theorem J1n {K:Frag}{o a:Expr}{to:TE}{name:Str}{apos cpos:Pos}{T id:String}{r:V->List V->Hp->VK->Prop}(ek:X.K=K)(pa:PlainAttrs T)(slot:Slot T name id)(hty:typeOf (.builtin id)=pure (.type "method_descriptor"))(hm:MtR X id r)
 (hbase:attributeBase o name X.env (eval o X.env)=eval o X.env) (hs:(a::es).all Jw=true) (hsz:decide ((a::es).length+0+0<30)=true) (hline:(apos.endLine == cpos.line)=true) (ho:PE X o to) (ha:PA X (a::es) t) :
 PE X (.Call (.Attribute o name apos) (a::es) [] cpos) (tBM K T r to t) :=
 have h:Jw a=true/\es.all Jw=true:=by rw [all_cons,Bool.and_eq_true] at hs;exact hs
 Jd1 ek pa slot hty hm ho ha hbase (by rw [Jav hs];exact hsz) hline (JJ h.1) (J0w h.2)
end
def ForW (J:It)(g:TG)(tb:TS)(D:Ends)(σ:St)(H1:Hp):Prop:=∃ W:Nat->Nat->St->Hp->Prop,(∃ m,W 0 m σ H1)/\∀ i m σ H,W i m σ H ->
 (J.stop i H/\D.nx σ H)\/(J.go i H/\∃ N:St->Hp->Prop,(∀ σ' H',N σ' H'->∃ m',m'<m/\W (i+1) m' σ' H')/\∀ x H',J.yld i H x H'->g x σ H' fun σ2 H2=>tb { D with nx:=N,ct:=N,bk:=D.nx } σ2 H2)
theorem J0A {wi:TI}{g:TG}{tb:TS}{D:Ends}{σ:St}{H:Hp}(h:wi σ H fun J H1=>ForW J g tb D σ H1):J4O wi g tb D σ H:=h
theorem ForW.of {g:TG}{tb:TS}{D:Ends}{σ:St}{H:Hp}{J:It}{xs:List V}{ok:Hp->Prop}(w:Walk J xs ok)(Pv:Nat->St->Hp->Prop)(h0:Pv 0 σ H)(hl:∀ i σ H,i<=xs.length->Pv i σ H->ok H)
 (hs:∀ i x σ H,xs[i]?=some x->Pv i σ H->g x σ H fun σ2 H2=>tb { D with nx:=Pv (i+1),ct:=Pv (i+1),bk:=D.nx } σ2 H2) (hd:∀ σ H,Pv xs.length σ H->D.nx σ H):ForW J g tb D σ H:=Jad w Pv h0 hl hs hd
def Jd6 {α:Type}(xs:List α)(lo hi:Option Int):List α:=(xs.drop (HT.sIx xs.length 0 lo)).take (HT.sIx xs.length xs.length hi - HT.sIx xs.length 0 lo)
section
variable {X:Cx}
def Jdw:V->Option Int->Option Int->Hp->VK->Prop:=fun x lo hi H Q=>∃ z,x=.str z/\z.length<=sizeLine/\Q (.str ⟨(Jd6 z.cps.toList lo hi).toArray⟩) H
def Jdq:V->List V->Hp->VK->Prop:=fun x vs H Q=>∃ z y,x=.str z/\vs=[.str y]/\Q (.int (Txt.find z y)) H
def JcP:V->List V->Hp->VK->Prop:=fun x vs H Q=>∃ z y,x=.str z/\vs=[.str y]/\Q (.bl (Txt.startswith z y)) H
end
end L2
namespace L2
open PySem
theorem J0r {lo:Int}{n i:Nat}{x:V}(h:(J3f lo n)[i]?=some x):i<n/\x=.int (lo+i):=by
 have hi:i<n:=by have:=(yV.mp h).1;rwa [Jv] at this
 rw [J4e hi] at h;cases h;exact ⟨hi,rfl⟩
end L2
namespace L2
open PySem PySem.Spec PyProof.Rows PySem.NumText
def dgs (m:Nat):List Nat:=(Nat.toDigits 10 m).map Char.toNat
def Jd0 (n:Int):List Nat:=if n<0 then 45::dgs n.natAbs else dgs n.natAbs
section
variable {X:Cx}
def Jdp:List V->Hp->VK->Prop:=fun xs H Q=>∃ z n,xs=[.str z]/\intText? z=some n/\z.length<=640/\Q (.int n) H
def Jdm:List V->Hp->VK->Prop:=fun xs H Q=>(∃ i,xs=[.int i]/\i.natAbs<10 ^ 100/\Q (.str ⟨(Jd0 i).toArray⟩) H)\/∃ z,xs=[.str z]/\Q (.str z) H
end
end L2
namespace L2
open PySem PySem.Spec PyProof.Rows
section
variable {X:Cx}
def Jdn:R2:=fun x y H Q=>∃ z n,x=.str z/\y=.int n/\MulOk z n/\Q (.str (Txt.mul z n)) H
end
end L2
namespace L2
open PySem
def WGo (Pv:Nat->St->Hp->Prop)(m:Nat)(tb:TS)(D:Ends)(σ:St)(H1:Hp):Prop:=∃ N:St->Hp->Prop,(∀ σ' H',N σ' H'->∃ m',m'<m/\Pv m' σ' H')/\tb { D with nx:=N,ct:=N,bk:=D.nx } σ H1
theorem WGo.of {Pv:Nat->St->Hp->Prop}{m:Nat}{tb:TS}{D:Ends}{σ:St}{H1:Hp}(h:tb { D with nx:=fun σ' H'=>∃ m',m'<m/\Pv m' σ' H',ct:=fun σ' H'=>∃ m',m'<m/\Pv m' σ' H',bk:=D.nx } σ H1):WGo Pv m tb D σ H1:=⟨_,fun _ _ q=>q,h⟩
theorem J2Q {c:TT}{tb:TS}{D:Ends}{σ:St}{H:Hp}(Pv:Nat->St->Hp->Prop)(h0:∃ m,Pv m σ H)(hs:∀ m σ H,Pv m σ H->c σ H fun b H1=>if b=true then WGo Pv m tb D σ H1 else D.nx σ H1):J78 c tb D σ H:=⟨Pv,h0,hs⟩
end L2
namespace L2
open PySem PySem.Spec PyProof.Rows
def Trc (H:Hp)(h G:Heap)(e:Addr)(C:Value)(ed:Option Addr)(fl:Value):Prop :=
 G.get? e=none/\H e=none/\∃ oe vs,h.get? e=some oe/\oe.cls=C/\oe.dict=ed/\oe.data=.fields vs/\1<vs.size /\
  ((vs[1]?=some .none/\fl=.none)\/∃ T oT ts,vs[1]?=some (.ref T)/\G.get? T=none/\T≠e/\H T=none/\h.get? T=some oT/\oT.data=.fields ts/\ts[3]?=some fl)
structure Kp (H:Hp)(G:Heap)(fs:List Addr)(h h':Heap):Prop where
 keep:∀ b o,h.get? b=some o->b∉fs->(G.get? b≠none\/H b≠none)->h'.get? b=some o
 slot:∀ b o,h.get? b=some o->b∈fs->∃ sl,h'.get? b=some { o with slots:=sl }
 there:∀ b o,h.get? b=some o->∃ o',h'.get? b=some o'
 size:h.objs.size<=h'.objs.size
theorem Kp.refl (H:Hp)(G:Heap)(fs:List Addr)(h:Heap):Kp H G fs h h:=⟨fun _ _ e _ _=>e,fun _ o e _=>⟨o.slots,e⟩,fun _ o e=>⟨o,e⟩,yJ _⟩
section
variable {M:Model}{A:Around}{E:Value->Shared->Prop}{s:Shared}{Q:Unit->Shared->Prop}{base:Heap}{env:Env}{outer:List Env}{L e:Addr}{C:Value}{ed:Option Addr}{G:Heap}{H:Hp}
theorem J6Q {oe:Obj}{vs:Array Value}{head:Value}{hadNext:Bool}(hfr:A.frames=some (env::outer))(hl:s.heap.FunFrames base (env::outer))(hf:env.frame=some L)
 (he:s.heap.get? e=some oe) (hd:oe.data=.fields vs) (hsz:1<vs.size)
 (h:∀ h' T oT ts,s.heap.objs.size<=T->h'.get? e=some (oe.mapFields (·.setIfInBounds 1 (.ref T)))->h'.get? T=some oT->oT.data=.fields ts->ts[3]?=some (rawInt L) ->
  (∀ b o,b≠e->s.heap.get? b=some o->b∉frs (env::outer)->h'.get? b=some o)->(∀ b o,b≠e->s.heap.get? b=some o->∃ sl,h'.get? b=some { o with slots:=sl })->s.heap.objs.size<=h'.objs.size->Q () { s with heap:=h' }) :
 wpAny M A (do let a <- frameOf env;let pl <- entryPlaceOf L hadNext;let b <- EntryCells.newEntry head a .none (rawInt L) .none pl;setField (.ref e) 1 b) Q E s:=by
 have hene:e∉frs (env::outer):=fun hm=>by
  obtain ⟨_,o,ho,hnf⟩:=hl.mem hm;rw [he] at ho;cases ho;exact hnf vs hd
 refine yF (wpAny_frameOf_fun hfr hl hf fun h₁ hs₁=>?_);refine yF (wpAny_entryPlaceOf fun pl hpl=>?_);unfold EntryCells.newEntry newFields;refine yF (wpAny_newObj_type ?_ (hpl.sizeOk5 _ _ _ _ _));have he₁:h₁.get? e=some oe:=(hs₁.2.1 e hene).trans he;generalize hO:({ cls:=.type "traceback",dict:=none,data:=.fields ([head,.ref L,.none,rawInt L,.none]++(if pl.isEmpty then List.replicate 6 Value.none else pl)).toArray }:Obj)=O;have he₂:=zr (h:=h₁) O he₁;have hTe:h₁.objs.size≠e:=Nat.ne_of_gt (zu he₁);refine wpAny_setField he₂ hd hsz (h _ h₁.objs.size O _ (Nat.le_of_eq hs₁.1.symm) (Heap.get?_update_self _ he₂ (Obj.isFreed_of_fields (Obj.data_mapFields hd _))) ?_ (by rw [<- hO]) ?_ ?_ ?_ ?_)
 ·rw [zw _ _ (Ne.symm hTe)]
  exact zt h₁ (by rw [<- hO];rfl)
 ·first | (simp;done) | (rcases hpl with rfl | ⟨_,_,_,_,_,_,_,rfl⟩<;>simp)
 ·intro b o hb ho hn
  rw [zw _ _ (Ne.symm hb)];exact zr _ ((hs₁.2.1 b hn).trans ho)
 ·intro b o hb ho
  obtain ⟨sl,e1⟩:=hs₁.2.2 b o ho;exact ⟨sl,by rw [zw _ _ (Ne.symm hb)];exact zr _ e1⟩
 ·rw [Heap.size_after_update,Heap.size_push,hs₁.1]
  exact Nat.le_succ _
theorem note_wp (hfr:A.frames=some (env::outer))(hl:s.heap.FunFrames base (env::outer))(hf:env.frame=some L)(hH:∀ b,s.heap.objs.size<=b->H b=none)(hG:∀ b,s.heap.objs.size<=b->G.get? b=none)(t:Trc H s.heap G e C ed .none)
 (h:∀ h',Trc H h' G e C ed (rawInt L)->h'.FunFrames base (env::outer)->Kp H G (frs (env::outer)) s.heap h'->Q () { s with heap:=h' }):wpAny M A (noteFrame (.ref e) env) Q E s:=by
 obtain ⟨hn,hHe,oe,vs,he,hc,hdi,hd,hsz,ht⟩:=t;unfold noteFrame;simp only [hf];have nfr:∀ b o ws,s.heap.get? b=some o->o.data=.fields ws->b∉frs (env::outer):=fun b o ws ho hw hm=>by
  obtain ⟨_,o',ho',hnf⟩:=hl.mem hm;rw [ho] at ho';cases ho';exact hnf ws hw
 have fin:∀ (s1:Shared) (h':Heap) (T:Addr) (oT:Obj) (ts:Array Value),s.heap.objs.size<=T->h'.get? e=some (oe.mapFields (·.setIfInBounds 1 (.ref T)))->h'.get? T=some oT->oT.data=.fields ts->ts[3]?=some (rawInt L) ->
  (∀ b o,s.heap.get? b=some o->b∉frs (env::outer)->(G.get? b≠none\/H b≠none)->h'.get? b=some o)->(∀ b o,s.heap.get? b=some o->(∀ ws,o.data≠.fields ws)->∃ sl,h'.get? b=some { o with slots:=sl }) ->
  (∀ b o,s.heap.get? b=some o->∃ o',h'.get? b=some o')->s.heap.objs.size<=h'.objs.size->Q () { s with heap:=h' }:=by
  intro s1 h' T oT ts hT e1 e2 e3 e4 k1 k2 k3 k4;have le:e<s.heap.objs.size:=zu he;refine h h' ⟨hn,hHe,_,_,e1,by rw [Obj.cls_mapFields];exact hc,?_,Obj.data_mapFields hd _,by simpa using hsz,.inr ⟨T,oT,ts,by simp [hsz],hG T hT,Nat.ne_of_gt (yP le hT),hH T hT,e2,e3,e4⟩⟩ (hl.of_keeps fun b o hb hnf=>?_) ⟨k1,fun b o hb hm=>?_,k3,k4⟩
  ·rw [<- hdi]
   obtain ⟨c,d,dt,sl⟩:=oe;cases dt<;>rfl
  ·obtain ⟨sl,q⟩:=k2 b o hb hnf
   exact ⟨_,q,rfl⟩
  ·obtain ⟨_,o',ho',hnf⟩:=hl.mem hm
   rw [hb] at ho';cases ho';exact k2 b o hb hnf
 have nee:∀ b o,s.heap.get? b=some o->(G.get? b≠none\/H b≠none)->b≠e:=fun b o hb hx z=>by
  subst z;rcases hx with hx | hx
  ·exact hx hn
  ·exact hx hHe
 rcases ht with ⟨h1,_⟩ | ⟨T,oT,ts,h1,hT,hTe,hHT,gT,hdT,h3⟩
 ·refine yF (wpAny_field he hd h1 ?_)
  rw [yH (by decide)];refine J6Q hfr hl hf he hd hsz fun h' T' oT' ts' q1 q2 q3 q4 q5 q6 q7 q8=>fin s h' T' oT' ts' q1 q2 q3 q4 q5 (fun b o hb hm hx=>q6 b o (nee b o hb hx) hb hm) (fun b o hb hnf=>q7 b o (fun z=>?_) hb) (fun b o hb=>?_) q8
  ·subst z
   rw [he] at hb;cases hb;exact hnf vs hd
  ·by_cases z:b=e
   ·subst z
    exact ⟨_,q2⟩
   ·obtain ⟨sl,q⟩:=q7 b o z hb
    exact ⟨_,q⟩
 ·refine yF (wpAny_field he hd h1 ?_)
  rw [yI (show (Value.ref T != Value.none)=true from by simp)];refine yF (wpAny_field gT hdT h3 ?_);rw [yH (show ¬ ((Value.none == rawInt L)=true) from by simp [rawInt])];refine yF (wpAny_setField gT hdT (Array.getElem?_eq_some_iff.mp h3).1 ?_);have other:∀ b,b≠T->(s.heap.update T (Obj.mapFields (·.setIfInBounds 3 Value.none))).get? b=s.heap.get? b:=fun b hb=>zw _ _ (Ne.symm hb);have self:=Heap.get?_update_self (Obj.mapFields (·.setIfInBounds 3 Value.none)) gT (Obj.isFreed_of_fields (Obj.data_mapFields hdT _));have neT:∀ b o,s.heap.get? b=some o->(G.get? b≠none\/H b≠none)->b≠T:=fun b o hb hx z=>by
   subst z;rcases hx with hx | hx
   ·exact hx hT
   ·exact hx hHT
  have neF:∀ b o,s.heap.get? b=some o->(∀ ws,o.data≠.fields ws)->b≠T:=fun b o hb hnf z=>by
   subst z;rw [gT] at hb;cases hb;exact hnf ts hdT
  have sz:(s.heap.update T (Obj.mapFields (·.setIfInBounds 3 Value.none))).objs.size=s.heap.objs.size:=Heap.size_after_update ..;refine J6Q hfr (hl.of_keeps fun b o hb hnf=>⟨o,(other b (neF b o hb hnf)).trans hb,rfl⟩) hf ((other e (Ne.symm hTe)).trans he) hd hsz
   fun h' T' oT' ts' q1 q2 q3 q4 q5 q6 q7 q8=>fin s h' T' oT' ts' (by rw [sz] at q1;exact q1) q2 q3 q4 q5 (fun b o hb hm hx=>q6 b o (nee b o hb hx) ((other b (neT b o hb hx)).trans hb) hm)
    (fun b o hb hnf=>q7 b o (fun z=>?_) ((other b (neF b o hb hnf)).trans hb)) (fun b o hb=>?_) (by rw [sz] at q8;exact q8)
  ·subst z
   rw [he] at hb;cases hb;exact hnf vs hd
  ·by_cases z:b=e
   ·subst z
    exact ⟨_,q2⟩
   ·by_cases y:b=T
    ·subst y
     obtain ⟨sl,q⟩:=q7 b _ z self;exact ⟨_,q⟩
    ·obtain ⟨sl,q⟩:=q7 b o z ((other b y).trans hb)
     exact ⟨_,q⟩
theorem flight_wp {fl:Value}(hl:s.heap.FunFrames base outer)(t:Trc H s.heap G e C ed fl)
 (h:∀ h',Trc H h' G e C ed .none->h'.FunFrames base outer->Kp H G [] s.heap h'->(∀ b o,s.heap.get? b=some o->(∀ ws,o.data≠.fields ws)->h'.get? b=some o)->Q () { s with heap:=h' }):wpAny M A (setFlight (.ref e) none) Q E s:=by
 obtain ⟨hn,hHe,oe,vs,he,hc,hdi,hd,hsz,ht⟩:=t;unfold setFlight;rcases ht with ⟨h1,_⟩ | ⟨T,oT,ts,h1,hT,hTe,hHT,gT,hdT,h3⟩
 ·refine yF (wpAny_field he hd h1 ?_)
  rw [yH (by decide)];exact yG (h s.heap ⟨hn,hHe,oe,vs,he,hc,hdi,hd,hsz,.inl ⟨h1,rfl⟩⟩ hl (Kp.refl ..) fun _ _ e _=>e)
 ·have hs3:3<ts.size:=(Array.getElem?_eq_some_iff.mp h3).1
  refine yF (wpAny_field he hd h1 ?_);rw [yI (show (Value.ref T != Value.none)=true from by simp)];have other:∀ b,b≠T->(s.heap.update T (Obj.mapFields (·.setIfInBounds 3 ((none:Option Addr).elim Value.none fun f=>rawInt f)))).get? b=s.heap.get? b:=fun b hb=>zw _ _ (Ne.symm hb);have self:=Heap.get?_update_self (Obj.mapFields (·.setIfInBounds 3 ((none:Option Addr).elim Value.none fun f=>rawInt f))) gT (Obj.isFreed_of_fields (Obj.data_mapFields hdT _));refine wpAny_setField gT hdT hs3 (h _ ⟨hn,hHe,oe,vs,(other e (Ne.symm hTe)).trans he,hc,hdi,hd,hsz,.inr ⟨T,_,_,h1,hT,hTe,hHT,self,Obj.data_mapFields hdT _,by simp [hs3]⟩⟩ (hl.of_keeps fun b o hb hnf=>⟨o,(other b fun z=>?_).trans hb,rfl⟩)
   ⟨fun b o hb _ hx=>(other b fun z=>?_).trans hb,fun _ _ _ hm=>(nomatch hm),fun b o hb=>?_,Nat.le_of_eq (Heap.size_after_update ..).symm⟩ fun b o hb hnf=>(other b fun z=>?_).trans hb)
  ·subst z
   rw [gT] at hb;cases hb;exact hnf ts hdT
  ·subst z
   rcases hx with hx | hx
   ·exact hx hT
   ·exact hx hHT
  ·by_cases z:b=T
   ·subst z
    exact ⟨_,self⟩
   ·exact ⟨o,(other b z).trans hb⟩
  ·subst z
   rw [gT] at hb;cases hb;exact hnf ts hdT
end
def CXE (P:Program)(w:World):CXT:=fun outer H s E e s'=>∃ a C ed H',e=.ref a/\s'.os=s.os/\AllBare s'.gens/\Un (frs outer) [] H H' s.heap s'.heap/\HOk P w H' s'.heap/\Trc H' s'.heap s.heap a C ed .none/\E C ed H'
theorem Trc.older {H:Hp}{h G G':Heap}{e:Addr}{C:Value}{ed:Option Addr}{fl:Value}(t:Trc H h G e C ed fl)(hm:∀ b,G.get? b=none->G'.get? b=none):Trc H h G' e C ed fl:=by
 obtain ⟨hn,hHe,oe,vs,he,hc,hdi,hd,hsz,ht⟩:=t;refine ⟨hm _ hn,hHe,oe,vs,he,hc,hdi,hd,hsz,?_⟩;rcases ht with ht | ⟨T,oT,ts,h1,hT,r⟩
 ·exact .inl ht
 ·exact .inr ⟨T,oT,ts,h1,hm _ hT,r⟩
theorem J6K {h:Heap}{b:Addr}(hb:h.objs.size<=b):h.get? b=none:=Heap.get?_none_of_le hb
theorem Inv.back {X:Cx}{pins:List (Addr×Obj)}{σ:St}{H:Hp}{s:Shared}(I:Inv X pins σ H s)(hex:X.ex=[])(b:Addr)(e:s.heap.get? b=none):X.s₀.heap.get? b=none:=by
 cases q:X.s₀.heap.get? b with
 | none=>rfl
 | some o =>
   obtain ⟨o',e'⟩:=I.base.there b o q (by rw [hex];simp);rw [e] at e';cases e'
structure Cov (X:Cx)(pins:List (Addr×Obj))(G:Heap):Prop where
 loc:G.get? X.env.locals≠none
 cell:∀ x c,X.env.cells.lookup x=some c->G.get? c≠none
 pin:∀ p∈X.pn++pins,G.get? p.1≠none
 old:∀ b,G.get? b=none->X.s₀.heap.get? b=none
theorem Inv.cov {X:Cx}{pins:List (Addr×Obj)}{σ:St}{H:Hp}{s:Shared}(I:Inv X pins σ H s)(hex:X.ex=[]):Cov X pins s.heap :=
 ⟨by obtain ⟨m,⟨o,_,_,ho,_⟩,_⟩:=I.loc;rw [ho];simp,fun x c e=>by obtain ⟨v,o,ho,_⟩:=I.cell x c e;rw [ho];simp,fun p hp=>by rw [(I.pin p hp).1];simp,I.back hex⟩
structure Told (X:Cx)(S:St->Prop)(E:XK):Prop where
 ex:X.ex=[]
 on:∀ pins σ H s a C ed G,S σ->Inv X pins σ H s->Trc H s.heap G a C ed .none->Cov X pins G->(∀ b,s.heap.get? b=none->G.get? b=none)->E C ed H->X.xe (.ref a) s
theorem Told.passes {X:Cx}{S:St->Prop}{E:XK}(T:Told X S E){pins:List (Addr×Obj)}{σ:St}{H:Hp}{s s':Shared}{e:Value}(hS:S σ)(I:Inv X pins σ H s)(h:CXE X.prog X.w X.stack H s E e s'):X.xe e s':=by
 obtain ⟨a,C,ed,H',rfl,os,bare,un,hok,t,q⟩:=h;have J:Inv X pins σ H' s':=I.call' os un hok bare (fun b z=>absurd z (by simp));refine T.on pins σ H' s' a C ed s.heap hS J t (I.cov T.ex) (fun b e=>?_) q;cases z:s.heap.get? b with
 | none=>rfl
 | some o =>
   obtain ⟨o',e'⟩:=un.there b o z (by simp);rw [e] at e';cases e'
theorem Kp.hok {P:Program}{w:World}{H:Hp}{G:Heap}{fs:List Addr}{h h':Heap}(k:Kp H G fs h h')(hf:∀ b∈fs,H b=none)(ok:HOk P w H h):HOk P w H h':=fun a o e =>
 (ok a o e).stay (fun b u hb q=>by
  have hn:H b≠none:=by
   rcases hb with rfl | hb
   ·rw [e];simp
   ·rw [hb];simp
  exact k.keep b u q (fun z=>hn (hf b z)) (.inr hn)) (fun _ q=>q) fun _ _ q=>q
theorem J8K {X:Cx}{pins:List (Addr×Obj)}{σ:St}{H:Hp}{s:Shared}{a:Addr}{C:Value}{ed:Option Addr}{E:XK}{E':Value->Shared->Prop}(hf:X.env.frame=some X.env.locals)(hst:X.stack=X.env::X.outer)(hex:X.ex=[])
 (I:Inv X pins σ H s) (t:Trc H s.heap X.s₀.heap a C ed .none) (q:E C ed H) :
 wpAny (model X.prog X.w) X.A (leaving X.env (.ref a)) (fun _ s'=>CXE X.prog X.w X.outer X.H₀ X.s₀ E (.ref a) s') E' s:=by
 have stk:s.heap.FunFrames X.base (X.env::X.outer):=hst ▸ I.stack;have sfr:∀ b∈frs (X.env::X.outer),H b=none:=hst ▸ I.stkFree;unfold leaving;refine yF (note_wp (hst ▸ I.ok.frames) stk hf (fun b hb=>I.hok.fresh hb) (fun b hb=>I.back hex b (J6K hb)) t fun h1 t1 f1 k1=>?_);refine flight_wp (s:={ s with heap:=h1 }) (outer:=X.env::X.outer) f1 t1 fun h2 t2 f2 k2 _=>?_;have hlt:∀ b o,X.s₀.heap.get? b=some o->X.s₀.heap.get? b≠none:=fun b o e=>by rw [e];simp
 have hnl:∀ b o,X.s₀.heap.get? b=some o->b≠X.env.locals:=fun b o e=>yO (yP (zu e) I.ok.above);have mem:∀ b,b∈frs (X.env::X.outer)->b=X.env.locals\/b∈frs X.outer:=fun b hb=>by
  unfold frs at hb ⊢;rw [filterMap_cons,hf] at hb;exact zc.mp hb
 have mem2:∀ b,b∈frs X.outer->b∈frs (X.env::X.outer):=fun b hb=>by
  unfold frs at hb ⊢;rw [filterMap_cons,hf];exact y8 _ hb
 refine ⟨a,C,ed,H,rfl,I.os,I.bare,⟨fun b o e hn hb _=>?_,fun b o e hn hb _=>?_,fun b o e hn _=>?_,fun b o e _=>?_,I.base.tups,I.base.frzs,I.base.tbls⟩,k2.hok (fun _ z=>absurd z (by simp)) (k1.hok sfr I.hok),t2,q⟩
 ·have e1:=I.base.keep b o e hn hb (by rw [hex];simp)
  have e2:=k1.keep b o e1 (fun z=>(mem b z).elim (hnl b o e) hb) (.inl (hlt b o e));exact k2.keep b o e2 (by simp) (.inl (hlt b o e))
 ·obtain ⟨sl,e1⟩:=I.base.slot b o e hn hb (by rw [hex];simp)
  obtain ⟨sl',e2⟩:=k1.slot b _ e1 (mem2 b hb);exact ⟨sl',k2.keep b _ e2 (by simp) (.inl (hlt b o e))⟩
 ·exact I.base.free b o e hn (by rw [hex];simp)
 ·obtain ⟨o1,e1⟩:=I.base.there b o e (by rw [hex];simp)
  obtain ⟨o2,e2⟩:=k1.there b o1 e1;exact k2.there b o2 e2
theorem J0Z {P:Program}{w:World}{K:Frag}{mg:Str->Option Value}{base:Heap}{N:List Str}{qual:Str}{scope:Scope}{f:Addr}{cd:Value}{A:Around}{outer:List Env}{s:Shared}{H:Hp}{E:XK} :
 Told (J4D (CXE P w) P w K mg base N qual scope f cd A outer s H E) (fun _=>True) E:=⟨rfl,fun _ _ _ _ _ _ _ _ _ I t c _ q=>J8K (X:=J4D (CXE P w) P w K mg base N qual scope f cd A outer s H E) rfl rfl rfl I (t.older c.old) q⟩
theorem Fun.okX {P:Program}{w:World}{K:Frag}{mg:Str->Option Value}{base:Heap}{x qual:Str}{st:Stmt}{f:Addr}{fd:FuncData}{N ps:List Str}{k:Nat}{sp:Sp}(F:Fun K x qual st f fd)(S:FnScope N ps (Jg st))(len:∀ vs H Q E,sp vs H Q E->vs.length=ps.length)
 (hbody:∀ (cdv:Value) (A:Around) (outer:List Env) (s:Shared) (H:Hp) (vs:List V) (Q:VK) (E:XK),Room k (A.deeper (envOfC qual (Jg st) s.heap.objs.size f cdv))->sp vs H Q E ->
  ∃ t,PSs (J4D (CXE P w) P w K mg base N qual (Jg st) f cdv A outer s H E) (J0H st) t/\t { nx:=fun _ H'=>Q .non H',rt:=Q } (start N vs) H):FnOk P w K mg base (CXE P w) (k+1) f fd ps sp:=by
 obtain ⟨oc,od,kV,doc,pm,an,cdv,ct,osl,rfl,lk,hcd⟩:=F.ex;exact Jbs lk hcd S len fun A outer s H vs Q E hr hsp=>hbody cdv A outer s H vs Q E hr hsp
section
variable {X:Cx}{k:Nat}{f C:Addr}{fd:FuncData}{ps:List Str}{sp:Sp}{x m:Str}{p pos apos:Pos}{e o:Expr}{es:List Expr}{ta:TE}{t:TA}{S:St->Prop}{E:XK}
theorem JaH {pins:List (Addr×Obj)}{σ:St}{H:Hp}{s:Shared}{Q:VK}{us:List Value}{vs:List V}(T:Told X S E)(F:FnOk X.prog X.w X.K X.mg X.base (CXE X.prog X.w) k f fd ps sp)(hr:Room k X.A)(hb:Binds X.K fd ps [])(hS:S σ)
 (I:Inv X pins σ H s) (r:Vals vs us) (h:sp vs H Q E):wpAny (model X.prog X.w) X.A (call (.ref f) us) (EP X pins σ Q) X.xe s:=by
 have hl:(us++([]:List Value)).length=ps.length:=by rw [append_nil,<- r.length];exact F.len _ _ _ _ h
 have bd:=hb s us I.kIn hl;rw [append_nil] at bd;refine wpAny_call (codeAny_mono (F.run X.A X.stack s H ⟨us,[]⟩ us vs Q E hr I.env0 bd r h) fun r s' hq=>?_)
 match r,hq with
 | .error e,hq=>exact T.passes hS I hq
 | .ok (.ret u),hq=>exact I.after hq
 | .ok .next,hq=>exact yS hq
 | .ok .brk,hq=>exact yS hq
 | .ok .cont,hq=>exact yS hq
def J7c (S:St->Prop)(sp:Sp)(E:XK)(t:TA):TE:=fun σ H Q=>t σ H fun vs H1=>S σ/\sp vs H1 Q E
theorem J2Z {st:Stmt}(T:Told X S E)(D:DefOk X.K X.mg x st ps f fd)(G:FnOk X.prog X.w X.K X.mg X.base (CXE X.prog X.w) k f fd ps sp)(hr:Room k X.A)
 (hg:Gl X x) (hdb:(x == ("__debug__":Str))=false) (hn:(e::es).all Jw=true) (ha:PA X (e::es) t) :
 PE X (.Call (.Name x p) (e::es) [] pos) (J7c S sp E t):=by
 have hs:Jw e=true/\es.all Jw=true:=by rw [all_cons,Bool.and_eq_true] at hn;exact hn
 intro pins s σ H Q I h;refine wpAny_Call_Name_kw (J2s I hg D.m ?_ hdb);refine PySem.W.callWith_K (h₀:=X.base) I.ok.mod.kin D.F.kp (thn (ha pos pins s σ H _ I h) fun us s1 ⟨vs,H1,I1,r,hS,q⟩=>⟨I1.kIn,?_⟩) (JJ hs.1) (J0w hs.2);exact JaH T G hr D.b hS I1 r q
end
abbrev vbm:List Value:=[.type "ValueError",.type "Exception",.type "BaseException",.type "object"]
theorem JbY {K:Frag}{h:Heap}{N:Addr}{mg:Str->Option Value}{n:Str}{r:Option Value}(X:K.In h)(G:h.Ns N mg)(e:nsIn K N n=some r):mg n=r:=by
 obtain ⟨o,es,ep,ho,hd,_,hf⟩:=G;unfold nsIn at e
 split at e
 ·rename_i q
  have z:=X _ _ q;rw [ho] at z;cases z;cases hd;rw [<- hf];unfold nsFind findBy;rw [<- Array.find?_toList]
  split at e
  ·rename_i he
   rw [he];exact yN e
  ·rename_i he
   rw [he]
   split at e
   ·cases e
   ·exact yN e
 ·cases e
def exB (K:Frag)(C:Addr)(ini:Option Value):Bool:=match K.lookup C with
 | some ⟨.type "type",_,.cls cd,sl⟩=>(match cd.mro,sl.toList with
   | .ref C'::bm,[_,_,_,_,some (.builtin n),_]=>C' == C&&(n == "ValueError.__new__"&&(PySem.W.tailIn K vbm bm&&(!cd.hasDel&&(PySem.W.nsOkIn K cd.ns&&nsIn K cd.ns "__init__" == some ini))))
   | _,_=>false)
 | _=>false
theorem J5Y {K:Frag}{h:Heap}{C:Addr}{ini:Option Value}(X:K.In h)(q:exB K C ini=true) :
 ∃ nm qn N bs bm hd sn sub ab col dd k0 k1 k2 k3 k5,h.get? C=some (excClassObj nm qn C N bs bm hd sn sub ab col dd k0 k1 k2 k3 k5 "ValueError.__new__")/\(∃ mN,h.Ns N mN/\mN "__init__"=ini)/\OwnTail h vbm bm:=by
 unfold exB at q
 split at q
 ·rename_i dd cd sl ho
  split at q
  ·rename_i C' bm k0 k1 k2 k3 n k5 hm hs
   simp only [Bool.and_eq_true,beq_iff_eq,Bool.not_eq_true'] at q;obtain ⟨rfl,rfl,ht,hdel,hok,hni⟩:=q;obtain ⟨nm,bs,mro,ns,qn,hd,sn,sub,ab,col,del⟩:=cd;obtain ⟨l⟩:=sl;dsimp only at hm hdel hok hni hs;subst hm hdel hs;have hN:h.Ns ns (h.nsMap ns):=.of_isNs (PySem.W.isNs_of_in X hok);exact ⟨nm,qn,ns,bs,bm,hd,sn,sub,ab,col,dd,k0,k1,k2,k3,k5,X _ _ ho,⟨_,hN,JbY X hN hni⟩,PySem.W.tail_of_in X ht⟩
  ·cases q
 ·cases q
theorem J6O {h:Heap}{bm:List Value}(T:OwnTail h vbm bm):bm.contains (.type "BaseException")=true:=T.hasType (by decide)
theorem ObjOk.got {P:Program}{w:World}{H:Hp}{h:Heap}{a:Addr}{o:HO}(x:ObjOk P w H h a o):∃ u,h.get? a=some u:=by
 cases o with
 | lst xs=>obtain ⟨_,_,_,_,e⟩:=x;exact ⟨_,e⟩
 | tup xs=>obtain ⟨_,_,_,_,e,_⟩:=x;exact ⟨_,e⟩
 | dK kvs=>obtain ⟨_,_,_,_,o,_,_,e,_⟩:=x;exact ⟨_,e⟩
 | dT kvs=>obtain ⟨_,_,_,_,o,_,_,e,_⟩:=x;exact ⟨_,e⟩
 | set S n=>obtain ⟨o,_,_,_,e,_⟩:=x;exact ⟨_,e⟩
 | ins C dx fs=>obtain ⟨_,_,_,e,_⟩:=x;exact ⟨_,e⟩
 | own y=>exact x
 | xd fs=>obtain ⟨_,⟨_,_,_,e,_⟩,_⟩:=x;exact ⟨_,e⟩
 | rng lo hi=>obtain ⟨_,_,_,e⟩:=x;exact ⟨_,e⟩
 | frz ob u=>obtain ⟨e,_⟩:=x;exact ⟨_,e⟩
 | tbl ps=>exact ⟨_,(show h.get? a=some _ from x)⟩
 | met f y=>exact ⟨_,(show h.get? a=some _ from x)⟩
 | ext φ=>obtain ⟨_,e,_⟩:=x;exact e
theorem HOk.unheld {P:Program}{w:World}{H:Hp}{h:Heap}{a:Addr}(x:HOk P w H h)(e:h.get? a=none):H a=none:=by
 cases q:H a with
 | none=>rfl
 | some o =>
   obtain ⟨u,e'⟩:=(x a o q).got;rw [e] at e';cases e'
theorem Ja0 {H:Hp}{h h' G:Heap}{e:Addr}{C:Value}{vs:List Value}(m:Heap.MadeExcOf h h' e C vs)(hG:∀ b,h.get? b=none->G.get? b=none)(hH:∀ b,h.get? b=none->H b=none):Trc H h' G e C none .none:=by
 obtain ⟨t,he,_,_⟩:=m.there;exact ⟨hG e m.new,hH e m.new,_,_,he,rfl,rfl,rfl,Nat.lt_of_sub_eq_succ rfl,.inl ⟨rfl,rfl⟩⟩
section
variable {X:Cx}{e:Expr}{es:List Expr}{t:TA}{S:St->Prop}{E:XK}
def J7a (S:St->Prop)(E:XK)(C:Addr)(t:TA):TS:=fun _ σ H=>t σ H fun vs H1=>S σ/\vs.length<=sizeLine/\E (.ref C) none H1
theorem J1G {x:Str}{np cpos pos:Pos}{C:Addr}(T:Told X S E)(hcalm:X.calm=true)(q:exB X.K C none=true)(hg:Gl X x)(hm:X.mg x=some (.ref C))(hdb:(x == ("__debug__":Str))=false)(hn:(e::es).all Jw=true)(ha:PA X (e::es) t) :
 PS X (.Raise (some (.Call (.Name x np) (e::es) [] cpos)) none pos) (J7a S E C t):=by
 intro pins s σ H D I h;have hs:Jw e=true/\es.all Jw=true:=by rw [all_cons,Bool.and_eq_true] at hn;exact hn
 obtain ⟨nm,qn,N,bs,bm,hd,sn,sub,ab,col,dd,k0,k1,k2,k3,k5,hC,⟨mN,hN,hni⟩,TL⟩:=J5Y I.ok.mod.kin q;have F:=PySem.F.excBase_ValueError;refine wpAny_Raise_call_subU (nm:=nm) (q:=qn) (C:=C) (N:=N) (bs:=bs) (bm:=bm) (hdct:=hd) (sn:=sn) (sub:=sub) (ab:=ab) (col:=col) (dd:=dd) (k0:=k0) (k1:=k1) (k2:=k2) (k3:=k3) (k5:=k5) F (by decide) F (J6O TL) (I.ok.hd hcalm) (J0w hn) hni (J2s I hg hm ⟨rfl,?_⟩ hdb);have hst:=JJ (es:=es) (env:=X.env) hs.1;have ha2:=ha cpos pins s σ H _ I h;rw [hst] at ha2 ⊢;refine Calls.evalArgs_plain (thn ha2 fun us s1 z=>?_);obtain ⟨vs,H1,I1,r,hS,hl,qE⟩:=z;refine ⟨rfl,by rw [<- r.length];exact hl,I1.bk _ _ hC,hN.keeps I1.bk,TL.keeps I1.bk,fun h' a m=>?_⟩;have J:Inv X pins σ H1 { s1 with heap:=h' }:=by
  have:=I1.kept (h':=h') (t':=s1.toks) m.keeps;exact this
 refine T.on pins σ H1 _ a (.ref C) none s1.heap hS J (Ja0 m (fun b hb=>hb) fun b hb=>I1.hok.unheld hb) (I1.cov T.ex) (fun b hb=>?_) qE;cases z:s1.heap.get? b with
 | none=>rfl
 | some o =>
   have:=m.keeps b o z;rw [show h'.get? b=none from hb] at this;cases this
end
section
variable {X:Cx}{pins:List (Addr×Obj)}{σ:St}{H:Hp}{s:Shared}{G:Heap}
theorem Inv.kp {h':Heap}(I:Inv X pins σ H s)(c:Cov X pins G)(k:Kp H G (frs X.stack) s.heap h'):Inv X pins σ H { s with heap:=h' }:=by
 have any:∀ b o,s.heap.get? b=some o->G.get? b≠none->∃ sl,h'.get? b=some { o with slots:=sl }:=fun b o e hg=>by
  by_cases hb:b∈frs X.stack
  ·exact k.slot b o e hb
  ·exact ⟨o.slots,k.keep b o e hb (.inl hg)⟩
 have hG:∀ b o,X.s₀.heap.get? b=some o->G.get? b≠none:=fun b o e z=>by
  have:=c.old b z;rw [e] at this;cases this
 have nL:∀ b o,X.s₀.heap.get? b=some o->b≠X.env.locals:=fun b o e=>yO (yP (zu e) I.ok.above);have cellK:∀ x cc,X.env.cells.lookup x=some cc->∀ v,s.heap.IsCell cc v->h'.IsCell cc v:=fun x cc e v ⟨o,ho,hd⟩=>by
  obtain ⟨sl,q⟩:=any cc o ho (c.cell x cc e);exact ⟨_,q,hd⟩
 refine ⟨I.ok,I.os,I.bare,⟨fun b o e hn hb hx=>?_,fun b o e hn hb hx=>?_,I.base.free,fun b o e hx=>?_,I.base.tups,I.base.frzs,I.base.tbls⟩,?_,fun x cc e=>?_,I.free,I.freeC,fun p hp=>?_,k.hok I.stkFree I.hok,I.len⟩
 ·exact k.keep b o (I.base.keep b o e hn hb hx) (fun z=>(zc.mp (I.stkSub b z)).elim (nL b o e) hb) (.inl (hG b o e))
 ·obtain ⟨sl,e1⟩:=I.base.slot b o e hn hb hx
  obtain ⟨sl',e2⟩:=any b _ e1 (hG b o e);exact ⟨sl',e2⟩
 ·obtain ⟨o1,e1⟩:=I.base.there b o e hx
  exact k.there b o1 e1
 ·obtain ⟨m,⟨o,es,ep,ho,r⟩,hl⟩:=I.loc
  obtain ⟨sl,q⟩:=any _ o ho c.loc;refine ⟨m,⟨_,es,ep,q,r⟩,fun i x v e1 e2 e3=>?_⟩;obtain ⟨u,ru,l⟩:=hl i x v e1 e2 e3;refine ⟨u,ru,?_⟩;rcases l with l | ⟨kk,cc,e,z⟩
  ·exact .inl l
  ·exact .inr ⟨kk,cc,e,cellK x cc e _ z⟩
 ·obtain ⟨v,z⟩:=I.cell x cc e
  exact ⟨v,cellK x cc e v z⟩
 ·obtain ⟨e,n,ne,nf,d⟩:=I.pin p hp
  exact ⟨k.keep p.1 p.2 e (fun z=>(zc.mp (I.stkSub p.1 z)).elim ne nf) (.inl (c.pin p hp)),n,ne,nf,d⟩
theorem Inv.hold {a:Addr}{o:HO}(I:Inv X pins σ H s)(c:Cov X pins G)(ha:G.get? a=none)(hH:H a=none)(ok:ObjOk X.prog X.w (upd H a o) s.heap a o):Inv X pins σ (upd H a o) s:=by
 have ne:∀ b,G.get? b≠none->b≠a:=fun b h z=>by subst z;exact h ha
 have ne2:∀ b u,H b=some u->b≠a:=fun b u h z=>by subst z;rw [hH] at h;cases h
 have neo:∀ b o',X.s₀.heap.get? b=some o'->b≠a:=fun b o' e z=>by
  subst z;have:=c.old b ha;rw [e] at this;cases this
 refine ⟨I.ok,I.os,I.bare,⟨I.base.keep,I.base.slot,fun b o' e hn hx=>by rw [Jf (neo b o' e)];exact I.base.free b o' e hn hx,I.base.there,fun b xs e=>?_,fun b o' u e=>?_,fun b ps e=>?_⟩,I.loc,I.cell,by rw [Jf (ne _ c.loc)];exact I.free,fun x cc e=>by rw [Jf (ne _ (c.cell x cc e))];exact I.freeC x cc e,fun p hp=>?_,fun b u e=>?_,I.len⟩
 ·have:=I.base.tups b xs e
  rw [Jf (ne2 b _ this)];exact this
 ·have:=I.base.frzs b o' u e
  rw [Jf (ne2 b _ this)];exact this
 ·obtain ⟨m,this⟩:=I.base.tbls b ps e
  exact ⟨m,by rw [Jf (ne2 b _ this)];exact this⟩
 ·obtain ⟨e,n,r⟩:=I.pin p hp
  exact ⟨e,by rw [Jf (ne _ (c.pin p hp))];exact n,r⟩
 ·by_cases z:b=a
  ·subst z
   rw [Ja] at e;cases e;exact ok
  ·rw [Jf z] at e
   exact (I.hok b u e).stay (fun _ _ _ q=>q) (fun d q=>by rw [Jf (ne2 d _ q)];exact q) fun d xs q=>by rw [Jf (ne2 d _ q)];exact q
theorem name_gone {M:Model}{A:Around}{E:Value->Shared->Prop}{i:Nat}{n:Str}{pos:Pos}{Q:Unit->Shared->Prop}(I:Inv X pins σ H s)(hN:X.N.Nodup)(hi:X.N[i]?=some n)(hk:X.env.scope.names.lookup n=some .local)
 (h:∀ s',Inv X pins (σ.set i none) H s'->Q () s'):wpAny M A (do bindName X.env n .none;unbindBehindTheSuite X.env n pos) Q E s:=by
 refine yF (wpAny_bindName (J24 (v:=.non) I hN hi (.inl hk) rfl (fun s1 I1=>?_) (.inr hk)));have hcls:(X.env.scope.kind == .class||(X.env.scope.kind == .module&&X.env.locals != X.env.globals))=false:=by rw [I.ok.kind];rfl
 have hiσ:i<σ.length:=by rw [I.len];exact (yV.mp hi).1
 obtain ⟨m,hn,hl⟩:=id I1.loc;obtain ⟨u,ru,l⟩:=hl i n .non hi (List.getElem?_set_self hiσ) (.inl hk);have hv:m n=some u:=by
  rcases l with l | ⟨l,_⟩
  ·exact l.2
  ·have l2:X.env.scope.names.lookup n=some .cell\/X.env.scope.names.lookup n=some .free:=l
   rw [hk] at l2;rcases l2 with l2 | l2<;>cases l2
 unfold unbindBehindTheSuite;refine wpAny_onRaise (wpAny_unbindName_local hk hn hv hcls fun h' u' hn' hs=>h _ ?_);obtain ⟨oL,_,_,hoL,_⟩:=id hn;refine ⟨I1.ok,I1.os,I1.bare,⟨fun b o e n hb hx=>?_,fun b o e n hb hx=>?_,I1.base.free,fun b o e hx=>?_,I1.base.tups,I1.base.frzs,I1.base.tbls⟩,⟨_,hn',fun j y v' e1 e2 e3=>?_⟩,fun y c e=>?_,I1.free,I1.freeC,fun p hp=>?_,fun b ob e=>?_,by simpa using I.len⟩
 ·exact (hs.2 b (yO (yP (zu e) I1.ok.above))).trans (I1.base.keep b o e n hb hx)
 ·obtain ⟨sl,e1⟩:=I1.base.slot b o e n hb hx
  exact ⟨sl,(hs.2 b (yO (yP (zu e) I1.ok.above))).trans e1⟩
 ·obtain ⟨o',e1⟩:=I1.base.there b o e hx
  exact ⟨o',(hs.2 b (yO (yP (zu e) I1.ok.above))).trans e1⟩
 ·by_cases hj:j=i
  ·subst hj
   rw [List.getElem?_set_self hiσ] at e2;cases e2
  ·rw [List.getElem?_set_ne (Ne.symm hj)] at e2
   obtain ⟨w,rw',q⟩:=hl j y v' e1 (by rw [List.getElem?_set_ne (Ne.symm hj)];exact e2) e3;refine ⟨w,rw',?_⟩;rcases q with ⟨kk,e⟩ | ⟨kk,c,e,z⟩
   ·refine .inl ⟨kk,?_⟩
    have:y≠n:=fun e=>hj (J4o hN e1 (e ▸ hi));simp [this,e]
   ·exact .inr ⟨kk,c,e,z.sameBut hs (I1.cne y c e)⟩
 ·obtain ⟨w',z⟩:=I1.cell y c e
  exact ⟨w',z.sameBut hs (I1.cne y c e)⟩
 ·obtain ⟨e,n,ne,nf,d⟩:=I1.pin p hp
  exact ⟨(hs.2 p.1 ne).trans e,n,ne,nf,d⟩
 ·refine (I1.hok b ob e).stay (fun c w' hc q=>(hs.2 c ?_).trans q) (fun _ q=>q) fun _ _ q=>q
  rintro rfl;rcases hc with rfl | hc
  ·rw [I1.free] at e;cases e
  ·rw [I1.free] at hc;cases hc
end
def ExO (a:Addr)(C:Value)(ed:Option Addr):HO:=.ext fun h=>∃ oe vs,h.get? a=some oe/\oe.cls=C/\oe.dict=ed/\oe.data=.fields vs
theorem Jcd {P:Program}{w:World}{H:Hp}{h:Heap}{a:Addr}{C:Value}{ed:Option Addr}(x:∃ oe vs,h.get? a=some oe/\oe.cls=C/\oe.dict=ed/\oe.data=.fields vs):ObjOk P w H h a (ExO a C ed) :=
 ⟨x,(let ⟨oe,_,e,_⟩:=x;⟨oe,e⟩),fun h1 h2 ⟨oe,vs,e,r⟩ k=>⟨oe,vs,k oe e,r⟩⟩
def Cx.inTry (X:Cx)(pins:List (Addr×Obj))(W:Value->Shared->Prop):Cx:={ X with xe:=W,pn:=X.pn++pins }
def Cx.inHand (X:Cx)(a:Addr):Cx:={ X with A:=X.A.mark (some (.ref a)),calm:=false,xe:=fun _ _=>False }
section
variable {X:Cx}{pins:List (Addr×Obj)}{σ:St}{H:Hp}{s:Shared}{G:Heap}{W:Value->Shared->Prop}
theorem Inv.inTry (I:Inv X pins σ H s):Inv (X.inTry pins W) [] σ H s :=
 have ok:=I.ok
 ⟨⟨ok.mod,ok.kind,ok.glob,ok.blt,ok.above,ok.inj,ok.has,ok.cab,ok.hd,ok.frames,ok.stk,ok.exf,ok.bs,ok.bsz,ok.noex,ok.exfs,ok.funs,ok.frf⟩,I.os,I.bare,I.base,I.loc,I.cell,I.free,I.freeC,
   fun p hp=>I.pin p (by rw [append_nil] at hp;exact hp),I.hok,I.len⟩
theorem Inv.offTry {pins':List (Addr×Obj)}(I:Inv (X.inTry pins W) pins' σ H s):Inv X pins σ H s :=
 have ok:=I.ok
 ⟨⟨ok.mod,ok.kind,ok.glob,ok.blt,ok.above,ok.inj,ok.has,ok.cab,ok.hd,ok.frames,ok.stk,ok.exf,ok.bs,ok.bsz,ok.noex,ok.exfs,ok.funs,ok.frf⟩,I.os,I.bare,I.base,I.loc,I.cell,I.free,I.freeC,
   fun p hp=>I.pin p (zj _ hp),I.hok,I.len⟩
theorem Cov.offTry {pins':List (Addr×Obj)}(c:Cov (X.inTry pins W) pins' G):Cov X pins G:=⟨c.loc,c.cell,fun p hp=>c.pin p (zj _ hp),c.old⟩
theorem Inv.inHand {a:Addr}(I:Inv X pins σ H s):Inv (X.inHand a) pins σ H s :=
 have ok:=I.ok
 ⟨⟨ok.mod,ok.kind,ok.glob,ok.blt,ok.above,ok.inj,ok.has,ok.cab,(fun z=>nomatch z),ok.frames,ok.stk,ok.exf,ok.bs,ok.bsz,ok.noex,ok.exfs,ok.funs,ok.frf⟩,I.os,I.bare,I.base,I.loc,I.cell,I.free,I.freeC,I.pin,I.hok,I.len⟩
theorem Inv.offHand {a:Addr}(I:Inv (X.inHand a) pins σ H s)(ox:X.Ok):Inv X pins σ H s:=⟨ox,I.os,I.bare,I.base,I.loc,I.cell,I.free,I.freeC,I.pin,I.hok,I.len⟩
end
def Jcr (X:Cx)(pins:List (Addr×Obj))(σ:St)(E:XK):Value->Shared->Prop:=fun e s=>∃ a C ed H G,e=.ref a/\Inv X pins σ H s/\Trc H s.heap G a C ed .none/\Cov X pins G/\(∀ b,s.heap.get? b=none->G.get? b=none)/\E C ed H
theorem J96 {X:Cx}{pins:List (Addr×Obj)}{σ:St}{E:XK}(hex:X.ex=[]):Told (X.inTry pins (Jcr X pins σ E)) (fun σ'=>σ'=σ) E :=
 ⟨hex,fun _ _ H _ a C ed G hS I t c hG q=>⟨a,C,ed,H,G,rfl,by subst hS;exact I.offTry,t,c.offTry,hG,q⟩⟩
def PH (X:Cx)(hs:List ExceptHandler)(th:Value->Option Addr->TS):Prop :=
 ∀ (pins:List (Addr×Obj)) (s:Shared) (σ:St) (H:Hp) (D:Ends) (a:Addr) (C:Value) (ed:Option Addr) (G:Heap),Inv X pins σ H s->Trc H s.heap G a C ed .none->Cov X pins G->th C ed D σ H ->
   wpAny (model X.prog X.w) X.A (handleBy (.ref a) X.env hs) (SP X pins D) X.xe s
theorem JbL {X:Cx}:PH X [] (fun _ _ _ _ _=>False):=fun _ _ _ _ _ _ _ _ _ _ _ _ h=>h.elim
def J40 (K:Frag)(C B:Addr):Bool:=match K.lookup C with
 | some ⟨_,_,.cls cd,_⟩=>cd.mro.contains (.ref B)
 | _=>false
theorem JbC {K:Frag}{h:Heap}{C B:Addr}{ini:Option Value}{nm qn:Str}{N:Addr}{bs bm:List Value}{hd:Bool}{sn:List Str}{sub:List Value}{ab:Bool}{col:Option Bool}{dd:Option Addr}{k0 k1 k2 k3 k5:Option Value}{nw:String}(X:K.In h)(q:exB K C ini=true)
 (hC:h.get? C=some (excClassObj nm qn C N bs bm hd sn sub ab col dd k0 k1 k2 k3 k5 nw)):J40 K C B=(Value.ref C::bm).contains (.ref B):=by
 unfold exB at q
 split at q
 ·rename_i ho
  have e:=X _ _ ho;rw [hC] at e;cases e;unfold J40;rw [ho]
 ·cases q
theorem J8J {M:Model}{A:Around}{E:Value->Shared->Prop}{h:Heap}{g:Array GenState}{d:Drawn}{t:Nat}{os:OsState}{e C B:Addr}{oe:Obj}{Q:Bool->Shared->Prop}
 {nm qn:Str} {N:Addr} {bs bm:List Value} {hd:Bool} {sn:List Str} {sub:List Value} {ab:Bool} {col:Option Bool} {dd:Option Addr} {k0 k1 k2 k3 k5:Option Value} {nw:String}
 {nm' qn':Str} {N':Addr} {bs' bm':List Value} {hd':Bool} {sn':List Str} {sub':List Value} {ab':Bool} {col':Option Bool} {dd':Option Addr} {l0 l1 l2 l3 l5:Option Value} {nw':String}
 (hC:h.get? C=some (excClassObj nm qn C N bs bm hd sn sub ab col dd k0 k1 k2 k3 k5 nw)) (hB:h.get? B=some (excClassObj nm' qn' B N' bs' bm' hd' sn' sub' ab' col' dd' l0 l1 l2 l3 l5 nw'))
 (he:h.get? e=some oe) (hcls:oe.cls=.ref C) (hbase:bm'.contains (.type "BaseException")=true) (hq:Q ((Value.ref C::bm).contains (.ref B)) ⟨h,g,d,t,os⟩):wpAny M A (excMatches (.ref e) (.ref B)) Q E ⟨h,g,d,t,os⟩:=by
 have hcB:(Value.ref B::bm').contains (.type "BaseException")=true:=by rw [contains_cons,hbase,Bool.or_true]
 have f:=tc_notTuple;unfold excMatches
 repeat (first | (with_reducible refine wpAny_loadPart_at he ?_;rw [hcls]) | with_reducible refine wpAny_loadPart_at hB ?_ | (with_reducible refine wpAny_isSubtype_exc hB ?_;rw [hcB]) | with_reducible refine wpAny_isSubtype_exc hC ?_ | wp_step)
 cases hb:(Value.ref C::bm).contains (.ref B)<;>(rw [hb] at hq;wp_walk;exact hq)
def JbX (i:Nat)(D:Ends):Ends:={ nx:=fun σ H=>D.nx (σ.set i none) H,rt:=D.rt,bk:=fun σ H=>D.bk (σ.set i none) H,ct:=fun σ H=>D.ct (σ.set i none) H }
def tAs (K:Frag)(B:Addr)(i:Nat)(ts:TS)(thr:Value->Option Addr->TS):Value->Option Addr->TS:=fun C ed D σ H=>∃ Cc ini b,C=.ref Cc/\exB K Cc ini=true/\J40 K Cc B=b /\
 if b=true then (∀ a,H a=none->ts (JbX i D) (σ.set i (some (.ref a))) (upd H a (ExO a C ed))) else thr C ed D σ H
section
variable {X:Cx}
theorem Kp.wide' {H:Hp}{G:Heap}{h h':Heap}{fs:List Addr}(k:Kp H G [] h h')(hd:∀ b∈fs,∀ o,h.get? b=some o->∃ sl,h'.get? b=some { o with slots:=sl }):Kp H G fs h h' :=
 ⟨fun b o e _ hx=>k.keep b o e (by simp) hx,fun b o e hm=>hd b hm o e,k.there,k.size⟩
theorem ph_as {x n:Str}{np hpos:Pos}{b₀:Stmt}{suite:List Stmt}{rest:List ExceptHandler}{ts:TS}{thr:Value->Option Addr->TS}{B:Addr}{i:Nat}{inB:Option Value}(hg:Gl X x)(hm:X.mg x=some (.ref B))(qB:exB X.K B inB=true)(hdb:(x == ("__debug__":Str))=false)
 (hN:X.N.Nodup) (hi:X.N[i]?=some n) (hk:X.env.scope.names.lookup n=some .local) (hsu:∀ a,PSs (X.inHand a) (b₀::suite) ts) (hr:PH X rest thr) :
 PH X (.ExceptHandler (some (.Name x np)) (some n) (b₀::suite) hpos::rest) (tAs X.K B i ts thr):=by
 intro pins s σ H D a C ed G I t c h;obtain ⟨Cc,ini,b,rfl,q,hb,h⟩:=h;have Ih:Inv (X.inHand a) pins σ H s:=I.inHand;refine wpAny_handleBy_cons (codeAny_handlers_test (J2s (X:=X.inHand a) Ih hg hm ?_ hdb)) (by intro z;cases z);obtain ⟨_,qn,N,bs,bm,hd,sn,sub,ab,col,dd,k0,k1,k2,k3,k5,hC,_,TL⟩:=J5Y I.kIn q;obtain ⟨_,qn',N',bs',bm',hd',sn',sub',ab',col',dd',l0,l1,l2,l3,l5,hB,_,TB⟩:=J5Y I.kIn qB;obtain ⟨ha,hHa,oe,vs,he,hcl,hdi,hda,hsz,htb⟩:=id t;obtain ⟨sh,sg,sd,stk,sos⟩:=s;refine J8J hC hB he hcl (J6O TB) ?_;rw [<- JbC I.kIn q hC,hb];cases b with
 | false =>
   rw [yH yK] at h;exact hr pins _ σ H D a _ ed G I t c h
 | true =>
   rw [yI rfl] at h;refine codeAny_handlers_suite_as ?_;refine flight_wp (outer:=X.stack) I.stack t fun h1 t1 f1 kp1 kn1=>?_;have I1:Inv X pins σ H { heap:=h1,gens:=sg,drawn:=sd,toks:=stk,os:=sos }:=I.kp c (kp1.wide' fun b hm o e=>?_)
   ·have Ia:Inv X pins σ (upd H a (ExO a (.ref Cc) ed)) { heap:=h1,gens:=sg,drawn:=sd,toks:=stk,os:=sos }:=by
     obtain ⟨_,_,oe1,vs1,he1,hcl1,hdi1,hda1,_⟩:=id t1;exact I1.hold c ha hHa (Jcd ⟨oe1,vs1,he1,hcl1,hdi1,hda1⟩)
    refine J24 (X:=X.inHand a) (v:=.ref a) Ia.inHand hN hi (.inl hk) rfl (fun s2 I2=>?_) (.inr hk);refine wpAny_mono (hsu a pins s2 _ _ _ I2 (h a hHa)) (fun f s3 z=>?_) fun _ _ z=>z.elim;show wpAny _ X.A (do bindName X.env n .none;unbindBehindTheSuite X.env n hpos) _ _ s3;cases f with
    | next =>
      obtain ⟨σ',H',J,z⟩:=z;exact name_gone (J.offHand I.ok) hN hi hk fun s4 J4=>⟨_,H',J4,z⟩
    | brk =>
      obtain ⟨σ',H',J,z⟩:=z;exact name_gone (J.offHand I.ok) hN hi hk fun s4 J4=>⟨_,H',J4,z⟩
    | cont =>
      obtain ⟨σ',H',J,z⟩:=z;exact name_gone (J.offHand I.ok) hN hi hk fun s4 J4=>⟨_,H',J4,z⟩
    | ret u =>
      obtain ⟨v,σ',H',J,rv,z⟩:=z;exact name_gone (J.offHand I.ok) hN hi hk fun s4 J4=>⟨v,_,H',J4,rv,z⟩
   ·obtain ⟨_,o',ho',hnf⟩:=I.stack.mem hm
    have e':=ho'.symm.trans e;cases e';exact ⟨o.slots,kn1 b o ho' hnf⟩
def JaD (tb:St->XK->TS)(th:Value->Option Addr->TS):TS:=fun D σ H=>tb σ (fun C ed H'=>th C ed D σ H') D σ H
theorem ps_try {body:List Stmt}{h₀:ExceptHandler}{hs:List ExceptHandler}{pos:Pos}{tb:St->XK->TS}{th:Value->Option Addr->TS}(hst:X.stack=X.env::X.outer)(hfr:X.env.frame=some X.env.locals)
 (hb:∀ (pins:List (Addr×Obj)) (σ:St) (E:XK),PSs (X.inTry pins (Jcr X pins σ E)) body (tb σ E)) (hh:PH X (h₀::hs) th):PS X (.Try body (h₀::hs) [] [] pos) (JaD tb th):=by
 intro pins s σ H D I h;refine wpAny_Try_except (wpAny_mono (hb pins σ _ [] s σ H D I.inTry h) (fun f s1 z=>?_) fun e s1 z=>?_)
 ·cases f with
  | next =>
    obtain ⟨σ',H',J,z⟩:=z;exact wpAny_execs_nil ⟨σ',H',J.offTry,z⟩
  | brk =>
    obtain ⟨σ',H',J,z⟩:=z;exact ⟨σ',H',J.offTry,z⟩
  | cont =>
    obtain ⟨σ',H',J,z⟩:=z;exact ⟨σ',H',J.offTry,z⟩
  | ret u =>
    obtain ⟨v,σ',H',J,rv,z⟩:=z;exact ⟨v,σ',H',J.offTry,rv,z⟩
 ·obtain ⟨a,C,ed,H',G,rfl,J,t,c,hG,q⟩:=z
  refine note_wp (hst ▸ J.ok.frames) (hst ▸ J.stack) hfr (fun b hb=>J.hok.fresh hb) ?_ t fun h1 t1 f1 k1=>?_
  ·exact fun b hb=>hG b (J6K hb)
  ·have J1:Inv X pins σ H' { s1 with heap:=h1 }:=J.kp c (hst ▸ k1)
   refine flight_wp (s:={ s1 with heap:=h1 }) (outer:=X.env::X.outer) f1 t1 fun h2 t2 f2 k2 kn2=>?_;have J2:Inv X pins σ H' { s1 with heap:=h2 }:=J1.kp c (k2.wide' fun b hm o e=>?_)
   ·exact hh pins _ σ H' D a C ed G J2 t2 c q
   ·have fs1:h1.FunFrames X.base X.stack:=hst ▸ f1
    obtain ⟨_,o',ho',hnf⟩:=fs1.mem hm;have e':=ho'.symm.trans e;cases e';exact ⟨o.slots,kn2 b o ho' hnf⟩
end
section
variable {prog:Program}{w:World}{A:Around}{E:Value->Shared->Prop}{s:Shared}{K:Frag}{a C:Addr}{ox:Obj}{od:Option Obj}{name:Str}
structure XCls (K:Frag)(C:Addr):Prop where
 ga:findIn K (.ref C) "__getattribute__"=some (some (.builtin "BaseException.__getattribute__"))
 gh:findIn K (.ref C) "__getattr__"=some none
 base:PySem.W.mroIn K C (.type "BaseException")=some true
 obj:PySem.W.mroIn K C (.type "object")=some true
 hd:PySem.W.hasDictIn K C=true
 cl:findIn K (.ref C) "__class__"=some (some (.builtin "object.__class__"))
 cg:PySem.W.specialIn K (.builtin "object.__class__") "__get__"=some (some (.builtin "getset_descriptor.__get__"))
 ct:PySem.W.takesIn K (.builtin "object.__class__")=some true
theorem J93 {tk:Tok}{R:Result->Shared->Prop}(c:XCls K C)(X:K.In s.heap)(I:PySem.W.InstAt s.heap a ox C od)
 (h:wpAny (model prog w) A.in1 (Builtin.«object.__getattribute__» ⟨[.ref a,.str name tk],[]⟩) (fun fin s'=>match fin with | .done f=>R (.ok f) s' | .again c'=>c'.quiet=true/\codeAny (model prog w) A c' R s') (fun e s'=>R (.error e) s') s) :
 codeAny (model prog w) A (.call (.builtin "BaseException.__getattribute__") ⟨[.ref a,.str name tk],[]⟩) R s:=by
 have hi:PySem.W.Looks (model prog w) s.heap (isInstance (.ref a) (.type "BaseException")) true:=I.type.andThen (PySem.W.looks_mroIn X c.base);have hk:builtinKind "BaseException.__getattribute__"=some .slot:=by decide +kernel
 have hs:splitId "BaseException.__getattribute__"=some ("BaseException","__getattribute__"):=by decide +kernel
 refine codeAny_call_builtin PySem.F.attr_ValueError.ga.plain PySem.F.entry_bexc_ga (@PySem.W.check_slot (model prog w) _ _ s "BaseException.__getattribute__" "BaseException" "__getattribute__" (.ref a) [.str name tk] [] _ hk hs hi (PySem.F.args_bexc_ga _ _) ?_);exact h
theorem Jax {tk:Tok}{fill expr:Bool}{v:Value}{Q:Value->Shared->Prop}(c:XCls K C)(X:K.In s.heap)(I:PySem.W.InstAt s.heap a ox C od)(hh:PySem.W.handedIn v=true)
 (h:∀ R:Result->Shared->Prop,R (.ok (.ret v)) s->codeAny (model prog w) A (.call (.builtin "BaseException.__getattribute__") ⟨[.ref a,.str name tk],[]⟩) R s) (q:Q v s) :
 wpAny (model prog w) A (getAttrBy (.ref a) (.str name tk) fill expr) Q E s:=by
 obtain ⟨sh,g,d,t,os⟩:=s;have L0:=I.type (M:=model prog w);have L1:=PySem.W.looks_findIn (M:=model prog w) X c.ga;have L2:=PySem.W.looks_findIn (M:=model prog w) X c.gh;have f3:=PySem.F.attr_ValueError.ga.bind (.ref a);have hx2:(Value.builtin "BaseException.__getattribute__" == Value.builtin "object.__getattribute__")=false:=by decide +kernel
 unfold getAttrBy;refine wpAny_holding (yF (L0.at (yF (L1.at ?_))));dsimp only;rw [hx2,Bool.and_false,yH yK];unfold getAttrByItsOwn hookBefore;refine yF ?_;rw [yI (show onTheHeap (Value.ref C)=true from rfl)];refine L2.at (yF (wpAny_attempt (wpAny_holding ?_)));unfold callGetattribute boundAndCalled;rw [yH (by cases expr<;>decide)];rw [f3];refine yF (yG (wpAny_call (h _ ?_)));show wpAny _ _ (handedOut v) _ _ _;rw [PySem.W.handedOut_of hh];exact yG q
theorem J74 {tk:Tok}{R:Result->Shared->Prop}(c:XCls K C)(X:K.In s.heap)(I:PySem.W.InstAt s.heap a ox C od)(q:R (.ok (.ret (.ref C))) s) :
 codeAny (model prog w) A (.call (.builtin "BaseException.__getattribute__") ⟨[.ref a,.str "__class__" tk],[]⟩) R s:=by
 have hf:PySem.W.findObj K C od "__class__"=some (.bind (.builtin "getset_descriptor.__get__") (.builtin "object.__class__")):=by
  obtain ⟨cd,hc,_⟩:=PySem.W.any_some c.hd;unfold PySem.W.findObj;rw [hc,Option.bind_some,c.cl,Option.bind_some];simp [c.cg,c.ct]
 refine J93 c X I ?_;obtain ⟨sh,g,d,t,os⟩:=s;have L0:=I.type (M:=model prog w);have L1:=PySem.W.looks_find (M:=model prog w) X I hf;unfold Builtin.«object.__getattribute__»;refine yF (yG (yF (yG (yF (L0.at (yF (L1.at ?_)))))));dsimp only;refine yF (wpAny_holding (wpAny_call (PySem.W.class_get (s:=⟨sh,g,d,t,os⟩) X I c.obj ?_)));exact yG q
end
section
variable {K:Frag}{a C:Addr}
theorem J4v (c:XCls K C):PySem.W.KitX K (.ref a) (.ref C) (fun h=>∃ ox od,PySem.W.InstAt h a ox C od) where
 ty:=fun _ _ _ ⟨_,_,I⟩=>I.type
 it:=fun _ _ X _=>by
  obtain ⟨cd,hc,_⟩:=PySem.W.any_some c.hd;unfold PySem.W.clsIn at hc
  split at hc
  ·rename_i ho
   intro A' Q' E' s' k q;unfold isType loadHead;exact yF (wpAny_loadPart (k _ _ (X _ _ ho)) (yG q))
  ·cases hc
 ne:=fun h tp dd its n sl X htp=>by
  obtain ⟨cd,hc,_⟩:=PySem.W.any_some c.hd;refine Bool.eq_false_iff.mpr fun q=>?_;have e:C=tp:=Value.ref.inj (beq_iff_eq.mp q);subst e;unfold PySem.W.clsIn at hc
  split at hc
  ·rename_i ho
   have z:=(X _ _ ho).symm.trans htp;cases z
  ·cases hc
 ca:=fun {prog w A E Q s} X p k=>by
  obtain ⟨ox,od,I⟩:=p;unfold getAttr? getAttrBy?;refine yF (wpAny_mkText (yF (wpAny_attempt ?_)));refine Jax (s:={ s with toks:=s.toks+1 }) c X I rfl (fun R q=>J74 (s:={ s with toks:=s.toks+1 }) c X I q) ?_;exact yG k
end
def Jci (H:Hp)(ed:Option Addr):Prop:=ed=none\/∃ dx fs,ed=some dx/\H dx=some (.xd fs)
section
variable {P:Program}{w:World}{H:Hp}{h:Heap}{a C:Addr}{ed:Option Addr}
theorem J6M (hok:HOk P w H h)(e:H a=some (ExO a (.ref C) ed))(hd:Jci H ed):∃ ox od,PySem.W.InstAt h a ox C od:=by
 obtain ⟨⟨oe,vs,e1,e2,e3,e4⟩,_⟩:=(show ObjOk P w H h a (ExO a (.ref C) ed) from hok a _ e);have hn:PySem.W.notCls oe=true:=by
  obtain ⟨c,d,dt,sl⟩:=oe;cases e4;rfl
 rcases hd with rfl | ⟨dx,fs,rfl,hx⟩
 ·exact ⟨oe,none,e1,e2,hn,by rw [e3];trivial⟩
 ·obtain ⟨mA,hns,_⟩:=(show ObjOk P w H h dx (.xd fs) from hok dx _ hx)
  obtain ⟨od,ho,_⟩:=J59 hns;exact ⟨oe,some od,e1,e2,hn,by rw [e3];exact ho⟩
end
section
variable {X:Cx}
def JaM (K:Frag):List V->Hp->VK->Prop:=fun xs H Q=>∃ a C ed b,H a=some (ExO a (.ref C) ed)/\Jci H ed/\XCls K C/\((∃ B,xs=[.ref a,.ref B]/\PySem.W.kitOne K (.ref C) (.ref B)=some b)\/∃ S,xs=[.ref a,.ty S]/\PySem.W.kitOne K (.ref C) (.type S)=some b)/\Q (.bl b) H
theorem Jas:J0i X (.builtin "isinstance") (JaM X.K):=by
 intro pins s σ H xs us Q I r h;obtain ⟨a,C,ed,b,e,hd,c,hx,q⟩:=h;have J:=J6M I.hok e hd;rcases hx with ⟨B,rfl,hk⟩ | ⟨S,rfl,hk⟩
 ·obtain ⟨u,z,rfl,ru,rz⟩:=J50 r
  cases (show u=Value.ref a from ru);cases (show z=Value.ref B from rz);exact PySem.W.kia_one (J4v c) I.kIn J hk (fun z=>nomatch z) fun tk=>⟨.bl b,H,I.tok _,rfl,q⟩
 ·obtain ⟨u,z,rfl,ru,rz⟩:=J50 r
  cases (show u=Value.ref a from ru);cases rz;exact PySem.W.kia_one (J4v c) I.kIn J hk (fun z=>nomatch z) fun tk=>⟨.bl b,H,I.tok _,rfl,q⟩
theorem J88 {K:Frag}(e:X.K=K):J0i X (.builtin "isinstance") (JaM K):=by subst e;exact Jas
def tXF (K:Frag)(te:TE)(f:Str):TE:=fun σ H Q=>te σ H fun x H1=>∃ a C dx fs v,x=.ref a/\H1 a=some (ExO a (.ref C) (some dx))/\H1 dx=some (.xd fs)/\XCls K C/\NoAttr K C f/\fs.lookup f=some v/\Q v H1
end
def ExN (a:Addr)(C:Value)(ed:Option Addr):HO:=.ext fun h=>∃ oe vs,h.get? a=some oe/\oe.cls=C/\oe.dict=ed/\oe.data=.fields vs/\1<vs.size/\vs[1]?=some .none
def JcJ (H:Hp)(a:Addr):Hp:=fun b=>if b=a then none else H b
section
variable {X:Cx}{pins:List (Addr×Obj)}{σ:St}{H:Hp}{s:Shared}{a:Addr}
def Jbj (K:Frag)(ta tv:TE)(f:Str):TS:=fun D σ H=>tv σ H fun y H1=>ta σ H1 fun x H2=>∃ a C ini,x=.ref a/\H2 a=some (ExN a (.ref C) none)/\exB K C ini=true/\PySem.W.hasDictIn K C=true /\
 findIn K (.ref C) "__setattr__"=some (some (.builtin "object.__setattr__"))/\NoAttr K C f/\∀ dx,H2 dx=none->dx≠a->D.nx σ (upd (upd H2 dx (.xd [(f,y)])) a (ExN a (.ref C) (some dx)))
end
section
variable {X:Cx}{e:Expr}{es:List Expr}{t:TA}{S:St->Prop}{E:XK}{k:Nat}{f C:Addr}{fd:FuncData}{ps:List Str}{sp:Sp}
def JcO (S:St->Prop)(E:XK)(C:Addr)(sp:Sp)(t:TA):TS:=fun _ σ H=>t σ H fun vs H1=>S σ/\vs.length<=sizeLine/\∀ a,H1 a=none->sp (.ref a::vs) (upd H1 a (ExN a (.ref C) none)) (fun v H2=>v=.non/\∃ ed,H2 a=some (ExN a (.ref C) ed)/\E (.ref C) ed (JcJ H2 a)) E0
end
section
variable {X:Cx}{k:Nat}{f C:Addr}{fd:FuncData}{ps:List Str}{sp:Sp}{x m:Str}{p pos apos:Pos}{e o:Expr}{es:List Expr}{ta:TE}{t:TA}{S:St->Prop}{E:XK}
def JcR (S:St->Prop)(C:Addr)(m:Str)(sp:Sp)(E:XK)(ta:TE)(t:TA):TE:=fun σ H Q=>ta σ H fun x H1=>∃ a dx fs,x=.ref a/\H1 a=some (.ins C dx fs)/\fs.lookup m=none/\t σ H1 fun vs H2=>S σ/\sp (x::vs) H2 Q E
def JcS (S:St->Prop)(C:Addr)(sp:Sp)(E:XK)(t:TA):TE:=fun σ H Q=>t σ H fun vs H1=>S σ/\∀ x dx,H1 x=none->H1 dx=none->dx≠x->sp (.ref x::vs) (upd (upd H1 dx (.own x)) x (.ins C dx [])) (fun v H2=>v=.non/\Q (.ref x) H2) E
end
def J6H (s:Stmt)(j:Nat):Stmt:=match s with
 | .ClassDef _ _ _ b _ _ _ _ _ _ _=>b.getD j (.Pass ⟨0,0,0,0⟩)
 | _=>.Pass ⟨0,0,0,0⟩
structure MthOk (K:Frag)(x qual:Str)(st:Stmt)(ps:List Str)(f:Addr)(fd:FuncData):Prop where
 F:Fun K x qual st f fd
 b:Binds K fd ps []
 fn:PySem.W.isFn K (.ref f)=true
structure ExcOk (K:Frag)(mg:Str->Option Value)(x:Str)(c:Addr)(ini:Option Value):Prop where
 m:mg x=some (.ref c)
 x:exB K c ini=true
 kp:PySem.W.keepIn K (.ref c)=true
 xc:XCls K c
 sa:findIn K (.ref c) "__setattr__"=some (some (.builtin "object.__setattr__"))
structure OwnOk (K:Frag)(mg:Str->Option Value)(x:Str)(c fi:Addr):Prop where
 m:mg x=some (.ref c)
 cls:Cls K c
 mkr:Mk K c fi
theorem Jae {K:Frag}{h:Heap}{mg:Str->Option Value}{x:Str}{c:Addr}{ini:Option Value}(X:K.In h)(G:h.Ns mainGlobals mg)(a:nsIn K mainGlobals x=some (some (.ref c)))(e:exB K c ini=true)(kp:PySem.W.keepIn K (.ref c)=true)
 (ga:findIn K (.ref c) "__getattribute__"=some (some (.builtin "BaseException.__getattribute__"))) (gh:findIn K (.ref c) "__getattr__"=some none) (ba:PySem.W.mroIn K c (.type "BaseException")=some true) (ob:PySem.W.mroIn K c (.type "object")=some true) (hd:PySem.W.hasDictIn K c=true)
 (cl:findIn K (.ref c) "__class__"=some (some (.builtin "object.__class__"))) (cg:PySem.W.specialIn K (.builtin "object.__class__") "__get__"=some (some (.builtin "getset_descriptor.__get__"))) (ct:PySem.W.takesIn K (.builtin "object.__class__")=some true)
 (sa:findIn K (.ref c) "__setattr__"=some (some (.builtin "object.__setattr__"))):ExcOk K mg x c ini:=⟨PySem.W.mg_of X G a,e,kp,⟨ga,gh,ba,ob,hd,cl,cg,ct⟩,sa⟩
theorem JbR {K:Frag}{h:Heap}{mg:Str->Option Value}{x:Str}{c fi:Addr}(X:K.In h)(G:h.Ns mainGlobals mg)(a:nsIn K mainGlobals x=some (some (.ref c)))(pg:PySem.W.plainGet K c Str.empty=true)(hd:PySem.W.hasDictIn K c=true)(po:PySem.W.plainOver K c=true)
 (sa:findIn K (.ref c) "__setattr__"=some (some (.builtin "object.__setattr__"))) (ma:PySem.W.makesIn K c=true) (i:findIn K (.ref c) "__init__"=some (some (.ref fi))) (fn:PySem.W.isFn K (.ref fi)=true) (kp:PySem.W.keepIn K (.ref c)=true):OwnOk K mg x c fi :=
 ⟨PySem.W.mg_of X G a,⟨pg,hd,po,sa⟩,⟨ma,i,fn,kp⟩⟩
section
variable {X:Cx}
theorem J5H {x:Str}{c:Addr}{pos:Pos}(hm:X.mg x=some (.ref c))(hg:Gl X x)(hd:(x == ("__debug__":Str))=false):PE X (.Name x pos) (tC (.ref c)):=J82 hg hm rfl hd
end
theorem J2G:bootBuiltins "ValueError"=some (.type "ValueError"):=by decide +kernel
def Ite (K:Frag)(a:Addr):It where
 go:=fun i H=>∃ xs x,SqL K H a xs/\xs[i]?=some x
 yld:=fun i H y H'=>∃ p x,H p=none/\y=.ref p/\(∀ ys,SqL K H a ys->ys[i]?=some x)/\H'=upd H p (.tup [.int i,x])
 stop:=fun i H=>∃ xs,SqL K H a xs/\xs.length<=i
theorem turn_enum {P:Program}{w:World}{K:Frag}{elts:List Expr}{x1:Nat}{tpos:Pos}(a e it:Addr)(hne:e≠it):Turn P w K (.Tuple elts x1 tpos) (Ite K a) [e,it] e (fun i h=>∃ old,IsEnum h e it i old/\h.IsListIter it a i) where
 mem:=by simp
 obj := fun i h st b hb=>by
  obtain ⟨old,h1,o,h2,c,d⟩:=st;rcases zc.mp hb with rfl | hb
  ·exact ⟨_,h1,fun v z=>nomatch z⟩
  ·cases yX.mp hb
   exact ⟨o,h2,fun v z=>by rw [d] at z;cases z⟩
 keep:=fun i h h' st k=>by
  obtain ⟨old,h1,h2⟩:=st;exact ⟨old,k e (by simp) _ h1,h2.at fun o z=>k it (by simp) o z⟩
 item:=by
  intro X hP hw hK hc i pins s σ H E I hf st hg;subst hP hw hK;obtain ⟨xs,x,hq,hx⟩:=hg;obtain ⟨its,rv,p,hz⟩:=I.list hq;obtain ⟨u,hu,ru⟩:=rv.get hx;obtain ⟨old,h1,h2⟩:=st;obtain ⟨f0,f1,f2,f3,f4,f5⟩:=hf e (by simp);obtain ⟨g0,g1,g2,g3,g4,g5⟩:=hf it (by simp);have fr:H s.heap.objs.size=none:=I.hok.fresh (yJ _);have pe:s.heap.objs.size≠e:=Nat.ne_of_gt (zu h1);refine wpAny_pyNext_enum_item h1 h2 p.isList (x:=u) (by simpa using hu) hne fun h' out st' tup sz k=>⟨.ref s.heap.objs.size,rfl,?_⟩;refine wpAny_letOwnedTupleGo_enum (s:={ s with heap:=h',toks:=s.toks+1 }) out fun h'' he' sb=>?_;have kk:∀ b o,b∉[e,it]->s.heap.get? b=some o->h''.get? b=some o:=fun b o hb z =>
   (sb.2 b (fun q=>hb (by simp [q]))).trans (k b o (fun q=>hb (by simp [q])) (fun q=>hb (by simp [q])) z)
  have kt:h''.get? s.heap.objs.size=some { cls:=.type "tuple",data:=.seq #[.int i s.toks,u] }:=(sb.2 _ pe).trans tup;have nt:∀ b v,H b=some v->b∉[e,it]:=fun b v z hb=>by
   rcases zc.mp hb with rfl | hb
   ·rw [f0] at z;cases z
   ·cases yX.mp hb
    rw [g0] at z;cases z
  have np:∀ b v,H b=some v->b≠s.heap.objs.size:=fun b v z q=>by subst q;rw [fr] at z;cases z
  have up:∀ b v,H b=some v->upd H s.heap.objs.size (.tup [.int i,x]) b=some v:=fun b v z=>by rw [Jf (np b v z)];exact z
  refine ⟨.ref s.heap.objs.size,upd H s.heap.objs.size (.tup [.int i,x]),?_,rfl,⟨_,x,fr,rfl,fun ys hy=>by rw [I.list_inj hy hq];exact hx,rfl⟩,⟨u,he',st'.at fun o z=>(sb.2 it (Ne.symm hne)).trans z⟩,fun b hb=>?_⟩
  ·show Inv X pins σ _ { s with heap:=h'',gens:=s.gens,drawn:=s.drawn,toks:=s.toks+1 }
   refine Inv.step (s:=s) (h':=h'') (t':=s.toks+1) (g':=s.gens) (d':=s.drawn) (ch:=[e,it]) I (fun b hb=>?_) (fun b o _ _ hb z _=>kk b o hb z) (fun b o _ _ hb z _=>⟨o.slots,kk b o hb z⟩) (fun b o _ z n=>by rw [Jf (yO (zu z))];exact n) (fun b o hb z=>⟨o,kk b o hb z⟩)
    (fun b ys z=>up b _ z) (fun b o v z=>up b _ z) (fun b ps z=>⟨#[],by rw [Array.append_empty];exact up b _ z⟩) (fun m hm=>?_) (fun b v z=>?_) I.bare
   ·rcases zc.mp hb with rfl | hb
    ·exact ⟨f3,f1,f4,f5⟩
    ·cases yX.mp hb
     exact ⟨g3,g1,g4,g5⟩
   ·obtain ⟨o,es,ep,ho,r⟩:=hm
    refine ⟨o,es,ep,kk _ o (fun hb=>?_) ho,r⟩;rcases zc.mp hb with q | hb
    ·exact f1 q.symm
    ·exact g1 (yX.mp hb).symm
   ·by_cases q:b=s.heap.objs.size
    ·subst q
     rw [Ja] at z;cases z;exact ⟨Jc (Nat.le_of_ble_eq_true rfl),[.int i s.toks,u],.cons ⟨_,rfl⟩ (.cons ru .nil),_,kt,rfl,_,rfl⟩
    ·rw [Jf q] at z
     refine (I.hok b v z).stay (fun c o hc y=>kk c o ?_ y) (fun c y=>up c _ y) fun c ys y=>up c _ y;rcases hc with rfl | hc
     ·exact nt _ _ z
     ·exact nt _ _ hc
  ·rcases zc.mp hb with rfl | hb
   ·rw [Jf (Ne.symm pe)];exact f0
   ·cases yX.mp hb
    obtain ⟨o,h2',_⟩:=h2;rw [Jf (yO (zu h2'))];exact g0
 done:=by
  intro X hP hw hK hc i pins s σ H E I hf st hg;subst hP hw hK;obtain ⟨xs,hq,hx⟩:=hg;obtain ⟨its,rv,p,hz⟩:=I.list hq;obtain ⟨old,h1,h2⟩:=st;obtain ⟨g0,g1,g2,g3,g4,g5⟩:=hf it (by simp);have hl:=rv.length;exact wpAny_pyNext_enum_end (I.ok.hd hc) h1 h2 p.isList (by simp;omega) fun h' eb=>⟨rfl,I.turned (t':=s.toks) (fun b o hb z=>eb b o hb z) g0 g1 g3 g4 g5⟩
 self:=fun _ _ _ _ _ st h=>by
  obtain ⟨old,h1,h2⟩:=st;exact wpAny_pyIter_enum h1 h
section
variable {X:Cx}
def J5d (K:Frag)(ta:TA):TI:=fun σ H R=>ta σ H fun vs H1=>∃ a,vs=[.ref a]/\(∃ xs,SqL K H1 a xs)/\R (Ite K a) H1
theorem J1c {a:Expr}{ta:TA}{p pos tpos:Pos}{elts:List Expr}{x1:Nat}(hg:Gl X "enumerate")(hm:X.mg "enumerate"=none)(ha:PA X [a] ta)(hn:Jw a=true):PI X (.Tuple elts x1 tpos) (.Call (.Name "enumerate" p) [a] [] pos) (J5d X.K ta):=by
 intro pins s σ H R I h;refine Call_ (J1A I hg hm boot_enumerate (PyProof.Rows.callWith_type1 (thn (ha pos pins s σ H _ I h) fun us s1 ⟨vs,H1,I1,r1,q1⟩=>?_) (JJ hn) rfl));obtain ⟨l,e,⟨xs,hq⟩,q⟩:=q1;subst e;cases r1 with
 | cons r rr =>
   cases rr;cases (show _=Value.ref l from r);obtain ⟨its,rv,pl,hz⟩:=I1.list hq;refine call_enumerate_list pl.isList fun h' he st sz k=>?_;refine wpAny_pyIter_enum (s:={ s1 with heap:=h' }) he ?_;refine ⟨s1.heap.objs.size+1,[s1.heap.objs.size+1,s1.heap.objs.size],_,_,H1,rfl,I1.kept (t':=s1.toks) k,turn_enum l _ _ (Nat.succ_ne_self _),⟨_,he,st⟩,fun b hb=>?_,q⟩;rcases zc.mp hb with rfl | hb
   ·exact I1.fpOk (Nat.le_succ _) (I1.hok.fresh (Nat.le_succ _))
   ·cases yX.mp hb
    exact I1.fpOk (yJ _) (I1.hok.fresh (yJ _))
end
theorem ForW.enum {K:Frag}{a:Addr}{xs:List V}{g:TG}{tb:TS}{D:Ends}{σ:St}{H:Hp}(Pv:Nat->St->Hp->Prop)(h0:Pv 0 σ H)(hl:∀ i σ H,Pv i σ H->SqL K H a xs)
 (hs:∀ (i:Nat) x σ H p,xs[i]?=some x->Pv i σ H->H p=none->g (.ref p) σ (upd H p (.tup [.int i,x])) fun σ2 H2=>tb { D with nx:=Pv (i+1),ct:=Pv (i+1),bk:=D.nx } σ2 H2)
 (hd:∀ σ H,Pv xs.length σ H->D.nx σ H):ForW (Ite K a) g tb D σ H:=by
 refine ⟨fun i m σ H=>Pv i σ H/\i<=xs.length/\m=xs.length - i,⟨_,h0,yQ _,rfl⟩,fun i m σ H ⟨h1,h2,h3⟩=>?_⟩;have sq:=hl i σ H h1;by_cases e:i=xs.length
 ·subst e
  exact .inl ⟨⟨xs,sq,yJ _⟩,hd σ H h1⟩
 ·have lt:i<xs.length:=Nat.lt_of_le_of_ne h2 e
  refine .inr ⟨⟨xs,xs[i],sq,yU lt⟩,Pv (i+1),fun σ' H' z=>⟨xs.length - (i+1),by omega,z,lt,rfl⟩,fun x H' hy=>?_⟩;obtain ⟨p,x',hp,rfl,hx,rfl⟩:=hy;exact hs i x' σ H p (hx xs sq) h1 hp
section
variable {prog:Program}{w:World}{A:Around}{E:Value->Shared->Prop}{s:Shared}{T:String}{r d:Addr}{n:Nat}{P:Nat->Value->Prop}{OK:Heap->Prop}
theorem J8z {R:Result->Shared->Prop}(K:PySem.W.KdlSrc prog w T r d n P OK)(hh:A.handled=none)(hok:OK s.heap)(hn:n<=sizeLine)
 (hR:∀ h' tk acc' c',(∀ b o,s.heap.get? b=some o->h'.get? b=some o)->h'.get? s.heap.objs.size=some { cls:=.type "list",dict:=none,data:=.seq acc' c',slots:=#[] }->ItemsOf P acc' n->R (.ok (.ret (.ref s.heap.objs.size))) { s with heap:=h',toks:=tk }) :
 codeAny (model prog w) A (.builtin "proto.collect" ⟨[.ref r],[]⟩) R s:=by
 refine codeAny_builtin PySem.F.entry_proto_collect ?_;rw [zA PySem.F.plain_proto_collect _];show wpAny _ A.in1 (newList [] >>= fun l=>again (.builtin "list.__iadd__" ⟨[l,.ref r],[]⟩)) _ _ s;refine yF (wpAny_newObj_type ?_);refine yG ⟨plainId_quiet PySem.F.plain_list_iadd _,codeAny_builtin PySem.F.entry_list_iadd ?_⟩;rw [zA PySem.F.plain_list_iadd _];have hlt:=K.there _ hok;have hS:(s.heap.push { cls:=.type "list",data:=.seq ([]:List Value).toArray }).get? s.heap.objs.size=some { cls:=.type "list",data:=.seq #[] 0 }:=zt _ rfl;show wpAny _ A.in1 (Builtin.List.listExtendWith (.ref s.heap.objs.size) (.ref r) (.ref s.heap.objs.size)) _ _ _;exact PySem.W.kdl_extend (s:={ s with heap:=s.heap.push { cls:=.type "list",data:=.seq ([]:List Value).toArray } }) (A:=A) K hh (K.keep _ _ hok fun b _ o e=>zr _ e) s.heap.objs.size (Nat.ne_of_gt hlt.1) (Nat.ne_of_gt hlt.2) (.ref s.heap.objs.size) 0 hS
  (fun h' tk acc' c' hk hS' hacc=>hR h' tk acc' c' (fun b o e=>hk b o (yO (zu e)) (zr _ e)) hS' hacc) hn
theorem J6T {Q:List Value->Shared->Prop}(K:PySem.W.KdlSrc prog w T r d n P OK)(hh:A.handled=none)(hok:OK s.heap)(hn:n<=sizeLine)
 (hQ:∀ h' tk acc',(∀ b o,s.heap.get? b=some o->h'.get? b=some o)->s.heap.objs.size<h'.objs.size->ItemsOf P acc' n->Q acc'.toList { s with heap:=h',toks:=tk }):wpAny (model prog w) A (collect (.ref r)) Q E s:=by
 unfold collect;refine yF (wpAny_runValue (J8z K hh hok hn fun h' tk acc' c' hk hS' hacc=>?_));show wpAny _ A (load s.heap.objs.size >>= _) _ _ _;refine yF (wpAny_load hS' ?_);exact yG (hQ h' tk acc' hk (zu hS') hacc)
end
theorem J1W:∀ {us:List Value} {ks:List Int},us.length=ks.length->(∀ (i:Nat) v k,us[i]?=some v->ks[i]?=some k->∃ t,v=Value.int k t)->IntsAre us ks
 | [],[],_,_=>.nil
 | [],_::_,h,_=>by cases h
 | _::_,[],h,_=>by cases h
 | u::us,k::ks,h,f=>by
   obtain ⟨t,rfl⟩:=f 0 u k rfl rfl;exact .cons k t (J1W (by simpa using h) fun i v k' a b=>f (i+1) v k' (by simpa using a) (by simpa using b))
theorem J0K:∀ {us:List Value} {ks:List Int},IntsAre us ks->Vals (ks.map V.int) us
 | _,_,.nil=>.nil
 | _,_,.cons _ _ t=>.cons ⟨_,rfl⟩ (J0K t)
theorem J8N {i:Int}{v:Value}(h:J2F (.inl i) v=true):∃ t,v=Value.int i t:=by
 have h':Value.isInt i v=true:=h;cases v with
 | int j t =>
   have e:(j == i)=true\/(i == j)=true:=by first | exact .inl h' | exact .inr h'
   rcases e with e | e
   ·exact ⟨t,by rw [beq_iff_eq.mp e]⟩
   ·exact ⟨t,by rw [beq_iff_eq.mp e]⟩
 | _=>cases h'
open AutoSeq1 (wpAny_loadPart')
section
variable {X:Cx}
def Jdr:V->List V->Hp->VK->Prop:=fun x vs H Q=>∃ d kvs k v,x=.ref d/\vs=[kV k]/\H d=some (.dK kvs)/\J0I kvs k=some v/\Q v (upd H d (.dK (JcI kvs k)))
end
section
variable {X:Cx}
def JcV:List V->Hp->VK->Prop:=fun xs H Q=>∃ n:Int,xs=[.int n]/\-(2 ^ 62)<=n/\n<2 ^ 62/\∀ p,H p=none->Q (.ref p) (upd H p (.rng 0 n))
theorem J6X:J0i X (.type "range") JcV:=by
 intro pins s σ H xs us Q I r h;obtain ⟨n,rfl,q1,q2,q⟩:=h;obtain ⟨u,rfl,ru⟩:=J1C r;obtain ⟨t,rfl⟩:=ru;refine call_range_1 ?_;exact ⟨.ref s.heap.objs.size,upd H s.heap.objs.size (.rng 0 n),I.laid (fun b o e=>zr _ e) (yJ _) (show ObjOk X.prog X.w _ _ _ (.rng 0 n) from ⟨_,_,_,zt _ rfl⟩),rfl,q _ (I.hok.fresh (yJ _))⟩
def J9x:List V->Hp->VK->Prop:=fun xs H Q=>∃ p,∃ n:Nat,xs=[.ref p]/\H p=some (.rng 0 n)/\n<=1000/\∀ l,H l=none->Q (.ref l) (upd H l (.lst ((List.range n).map fun (i:Nat)=>V.int i)))
theorem J38 (hc:X.calm=true):J0i X (.type "list") J9x:=by
 intro pins s σ H xs us Q I r h;obtain ⟨p,n,rfl,hp,hn,q⟩:=h;obtain ⟨u,rfl,ru⟩:=J1C r;cases ru;obtain ⟨t,t',t'',e⟩:=I.hok p _ hp;refine call_list_range (n:=n) (I.ok.hd hc) e (small_one (by decide) (by decide) (by omega) (by omega)) (by rw [rangeSize_one];split<;>omega) (by omega) fun h' tk acc c' hk hl hacc=>?_;refine ⟨.ref s.heap.objs.size,upd H s.heap.objs.size (.lst ((List.range n).map fun (i:Nat)=>V.int i)),I.laid (t':=tk) hk (yJ _) (show ObjOk X.prog X.w _ h' _ (.lst _) from ⟨by rw [yW,zo,sizeLine_eq];omega,acc.toList,c',?_,by rw [Array.toArray_toList];exact hl⟩),rfl,q _ (I.hok.fresh (yJ _))⟩;have e1:(List.range n).map (fun (i:Nat)=>V.int i)=((List.range n).map fun (i:Nat)=>(i:Int)).map V.int:=by rw [map_map];rfl
 rw [e1];refine J0K (J1W (by rw [yT,hacc.1,yW,zo]) fun i v k hv hki=>?_);obtain ⟨tt,ev⟩:=hacc.2 i v (by rw [<- Array.getElem?_toList];exact hv);have hil:=(yV.mp hki).1;rw [yW,zo] at hil;rw [ze,List.getElem?_range hil] at hki;have:(i:Int)=k:=by simpa using hki
 refine ⟨tt,?_⟩;rw [ev,<- this];simp
end
theorem J6Y:bootBuiltins "range"=some (.type "range"):=by decide +kernel
section
variable {X:Cx}
def JcQ (K:Frag):V->List V->Hp->VK->Prop:=fun x vs H Q=>∃ l,∃ ns:List Str,∃ z,∃ j:Nat,x=.ref l/\vs=[.str z]/\SqL K H l (ns.map V.str)/\ns[j]?=some z/\(∀ m,m<j->ns[m]?≠some z)/\Q (.int j) H
end
section
variable {prog:Program}{w:World}{A:Around}{E:Value->Shared->Prop}{s:Shared}
abbrev J0v (led:Bool):Obj:={ cls:=.type "set",dict:=none,data:=.set #[] 0 (.fresh 0 0 led) }
set_option maxHeartbeats 3200000 in
variable {α:Type}[DecidableEq α][BEq α][LawfulBEq α]{knd:PySem.KeyKind prog w α}
end
theorem Jcf:bootBuiltins "set"=some (.type "set"):=by decide +kernel
section
variable {X:Cx}
def Jdj:TS:=fun _ _ _=>False
theorem J7U:∀ {Bs:List Addr} {its:List Value},Vals (Bs.map V.ref) its->its=Bs.map Value.ref
 | [],_,r=>by cases r;rfl
 | b :: Bs,_,r=>by
   cases r with
   | cons h t =>
     cases (show _=Value.ref b from h);rw [J7U t];rfl
def Jbm (K:Frag):List V->Hp->VK->Prop:=fun xs H Q=>∃ a tp C ed b,∃ Bs:List Addr,xs=[.ref a,.ref tp]/\H a=some (ExO a (.ref C) ed)/\Jci H ed/\XCls K C/\SqT K H tp (Bs.map V.ref)/\PySem.W.kitAny K (.ref C) (Bs.map Value.ref)=some b/\Q (.bl b) H
theorem J8X:J0i X (.builtin "isinstance") (Jbm X.K):=by
 intro pins s σ H xs us Q I r h;obtain ⟨a,tp,C,ed,b,Bs,rfl,e,hd,c,ht,hk,q⟩:=h;obtain ⟨u,z,rfl,ru,rz⟩:=J50 r;cases (show u=Value.ref a from ru);cases (show z=Value.ref tp from rz);have J:=J6M I.hok e hd;obtain ⟨its,r',pl,_⟩:=I.tuple ht;obtain ⟨⟨tc,td,tdat,tsl⟩,ho,hc,n,hdat⟩:=pl;simp only at hc hdat;subst hc;subst hdat;obtain rfl:=J7U r';exact PySem.W.kia_tup (J4v c) I.kIn J ho hk (fun z=>nomatch z) fun tk=>⟨.bl b,H,I.tok _,rfl,q⟩
theorem Ja2 {K:Frag}(e:X.K=K):J0i X (.builtin "isinstance") (Jbm K):=by subst e;exact J8X
end
def Itz (K:Frag)(a b:Addr):It where
 go:=fun i H=>∃ xs ys x y,SqL K H a xs/\SqL K H b ys/\xs[i]?=some x/\ys[i]?=some y
 yld:=fun i H v H'=>∃ p x y,H p=none/\v=.ref p/\(∀ zs,SqL K H a zs->zs[i]?=some x)/\(∀ zs,SqL K H b zs->zs[i]?=some y)/\H'=upd H p (.tup [x,y])
 stop:=fun i H=>∃ xs ys,SqL K H a xs/\SqL K H b ys/\(xs.length<=i\/ys.length<=i)
theorem turn_zip {P:Program}{w:World}{K:Frag}{elts:List Expr}{x1:Nat}{tpos:Pos}(z TI TO i1 i2 a b:Addr)(D:ZipApart z TI TO i1 i2 a b) :
 Turn P w K (.Tuple elts x1 tpos) (Itz K a b) [z,TI,TO,i1,i2] z (fun i h=>IsZip h z TI TO .none/\IsPair h TI (.ref i1) (.ref i2)/\(∃ x y,IsPair h TO x y)/\h.IsListIter i1 a i/\h.IsListIter i2 b i) where
 mem:=by simp
 obj:=fun i h st c hc=>by
  obtain ⟨h1,h2,⟨x,y,h3⟩,⟨o4,e4,_,d4⟩,⟨o5,e5,_,d5⟩⟩:=st;simp only [zc,not_mem_nil,or_false] at hc;rcases hc with rfl | rfl | rfl | rfl | rfl
  ·exact ⟨_,h1,fun v z=>nomatch z⟩
  ·exact ⟨_,h2,fun v z=>nomatch z⟩
  ·exact ⟨_,h3,fun v z=>nomatch z⟩
  ·exact ⟨_,e4,fun v z=>by rw [d4] at z;cases z⟩
  ·exact ⟨_,e5,fun v z=>by rw [d5] at z;cases z⟩
 keep:=fun i h h' st k=>by
  obtain ⟨h1,h2,⟨x,y,h3⟩,h4,h5⟩:=st;exact ⟨k z (by simp) _ h1,k TI (by simp) _ h2,⟨x,y,k TO (by simp) _ h3⟩,h4.at fun o e=>k i1 (by simp) o e,h5.at fun o e=>k i2 (by simp) o e⟩
 item:=by
  intro X hP hw hK hc i pins s σ H E I hf st hg;subst hP hw hK;obtain ⟨xs,ys,x,y,hqa,hqb,hx,hy⟩:=hg;obtain ⟨ia,ra,pa,_⟩:=I.list hqa;obtain ⟨ib,rb,pb,_⟩:=I.list hqb;obtain ⟨u,hu,ru⟩:=ra.get hx;obtain ⟨v,hv,rv⟩:=rb.get hy;obtain ⟨h1,h2,⟨ox,oy,h3⟩,h4,h5⟩:=st;have fr:H s.heap.objs.size=none:=I.hok.fresh (yJ _);have pz:s.heap.objs.size≠z:=Nat.ne_of_gt (zu h1);refine wpAny_pyNext_zip_item D h1 h2 h3 h4 h5 pa.isList pb.isList (x:=u) (y:=v) (by simpa using hu) (by simpa using hv) fun h' out to' st1 st2 tup sz k=>⟨.ref s.heap.objs.size,rfl,?_⟩;refine wpAny_letOwnedTupleGo_zip (s:={ s with heap:=h' }) out fun h'' hz' sb=>?_;have kk:∀ c o,c∉[z,TI,TO,i1,i2]->s.heap.get? c=some o->h''.get? c=some o:=fun c o hb e =>
   (sb.2 c (fun q=>hb (by simp [q]))).trans (k c o (fun q=>hb (by simp [q])) (fun q=>hb (by simp [q])) (fun q=>hb (by simp [q])) (fun q=>hb (by simp [q])) e)
  have kt:h''.get? s.heap.objs.size=some { cls:=.type "tuple",data:=.seq #[u,v] }:=(sb.2 _ pz).trans tup;have nt:∀ c w',H c=some w'->c∉[z,TI,TO,i1,i2]:=fun c w' e hb=>by
   rw [(hf c hb).1] at e;cases e
  have np:∀ c w',H c=some w'->c≠s.heap.objs.size:=fun c w' e q=>by subst q;rw [fr] at e;cases e
  have up:∀ c w',H c=some w'->upd H s.heap.objs.size (.tup [x,y]) c=some w':=fun c w' e=>by rw [Jf (np c w' e)];exact e
  have lts:∀ c∈[z,TI,TO,i1,i2],c<s.heap.objs.size:=fun c hc=>by
   obtain ⟨o4,e4,_,_⟩:=h4;obtain ⟨o5,e5,_,_⟩:=h5;simp only [zc,not_mem_nil,or_false] at hc;rcases hc with rfl | rfl | rfl | rfl | rfl
   ·exact zu h1
   ·exact zu h2
   ·exact zu h3
   ·exact zu e4
   ·exact zu e5
  refine ⟨.ref s.heap.objs.size,upd H s.heap.objs.size (.tup [x,y]),?_,rfl,⟨_,x,y,fr,rfl,fun zs hz=>by rw [I.list_inj hz hqa];exact hx,fun zs hz=>by rw [I.list_inj hz hqb];exact hy,rfl⟩,⟨hz',(sb.2 TI D.TIz).trans (k TI _ D.TIz D.TITO D.TIi1 D.TIi2 h2),⟨u,v,(sb.2 TO D.TOz).trans to'⟩,st1.at fun o e=>(sb.2 i1 D.i1z).trans e,st2.at fun o e=>(sb.2 i2 D.i2z).trans e⟩,fun c hc=>?_⟩
  ·show Inv X pins σ _ { s with heap:=h'',gens:=s.gens,drawn:=s.drawn,toks:=s.toks }
   refine Inv.step (s:=s) (h':=h'') (t':=s.toks) (g':=s.gens) (d':=s.drawn) (ch:=[z,TI,TO,i1,i2]) I (fun c hc=>?_) (fun c o _ _ hb e _=>kk c o hb e) (fun c o _ _ hb e _=>⟨o.slots,kk c o hb e⟩) (fun c o _ e n=>by rw [Jf (yO (zu e))];exact n) (fun c o hb e=>⟨o,kk c o hb e⟩)
    (fun c zs e=>up c _ e) (fun c o w' e=>up c _ e) (fun c ps e=>⟨#[],by rw [Array.append_empty];exact up c _ e⟩) (fun m hm=>?_) (fun c w' e=>?_) I.bare
   ·obtain ⟨f0,f1,f2,f3,f4,f5⟩:=hf c hc
    exact ⟨f3,f1,f4,f5⟩
   ·obtain ⟨o,es,ep,ho,r⟩:=hm
    exact ⟨o,es,ep,kk _ o (fun hb=>(hf _ hb).2.1 rfl) ho,r⟩
   ·by_cases q:c=s.heap.objs.size
    ·subst q
     rw [Ja] at e;cases e;exact ⟨Jc (Nat.le_of_ble_eq_true rfl),[u,v],.cons ru (.cons rv .nil),_,kt,rfl,_,rfl⟩
    ·rw [Jf q] at e
     refine (I.hok c w' e).stay (fun d o hd y=>kk d o ?_ y) (fun d y=>up d _ y) fun d zs y=>up d _ y;rcases hd with rfl | hd
     ·exact nt _ _ e
     ·exact nt _ _ hd
  ·rw [Jf (yO (lts c hc))]
   exact (hf c hc).1
 done:=by
  intro X hP hw hK hc i pins s σ H E I hf st hg;subst hP hw hK;obtain ⟨xs,ys,hqa,hqb,hx⟩:=hg;obtain ⟨ia,ra,pa,_⟩:=I.list hqa;obtain ⟨ib,rb,pb,_⟩:=I.list hqb;obtain ⟨h1,h2,⟨ox,oy,h3⟩,h4,h5⟩:=st;have la:=ra.length;have lb:=rb.length;refine wpAny_pyNext_zip_end (I.ok.hd hc) D h1 h2 h3 h4 h5 pa.isList pb.isList (by
   rcases hx with hx | hx
   ·left;simp;omega
   ·right;simp;omega) fun h' k=>⟨rfl,?_⟩
  have kk:∀ c o,c∉[z,TI,TO,i1,i2]->s.heap.get? c=some o->h'.get? c=some o:=fun c o hb e =>
   k c o (fun q=>hb (by simp [q])) (fun q=>hb (by simp [q])) (fun q=>hb (by simp [q])) (fun q=>hb (by simp [q])) e
  have nt:∀ c w',H c=some w'->c∉[z,TI,TO,i1,i2]:=fun c w' e hb=>by
   rw [(hf c hb).1] at e;cases e
  show Inv X pins σ _ { s with heap:=h',gens:=s.gens,drawn:=s.drawn,toks:=s.toks };refine Inv.step (s:=s) (h':=h') (t':=s.toks) (g':=s.gens) (d':=s.drawn) (ch:=[z,TI,TO,i1,i2]) I (fun c hc=>?_) (fun c o _ _ hb e _=>kk c o hb e) (fun c o _ _ hb e _=>⟨o.slots,kk c o hb e⟩) (fun _ _ _ _ n=>n) (fun c o hb e=>⟨o,kk c o hb e⟩)
   (fun _ _ e=>e) (fun _ _ _ e=>e) (fun c ps e=>⟨#[],by rw [Array.append_empty];exact e⟩) (fun m hm=>?_) (fun c w' e=>?_) I.bare
  ·obtain ⟨f0,f1,f2,f3,f4,f5⟩:=hf c hc
   exact ⟨f3,f1,f4,f5⟩
  ·obtain ⟨o,es,ep,ho,r⟩:=hm
   exact ⟨o,es,ep,kk _ o (fun hb=>(hf _ hb).2.1 rfl) ho,r⟩
  ·refine (I.hok c w' e).stay (fun d o hd y=>kk d o ?_ y) (fun d y=>y) fun d zs y=>y
   rcases hd with rfl | hd
   ·exact nt _ _ e
   ·exact nt _ _ hd
 self:=fun _ _ _ _ _ st h=>wpAny_pyIter_zip st.1 h
theorem Jau:bootBuiltins "zip"=some (.type "zip"):=by decide +kernel
section
variable {X:Cx}
def Jb5 (K:Frag)(ta:TA):TI:=fun σ H R=>ta σ H fun vs H1=>∃ a b,vs=[.ref a,.ref b]/\(∃ xs,SqL K H1 a xs)/\(∃ ys,SqL K H1 b ys)/\R (Itz K a b) H1
theorem JbK {a b:Expr}{ta:TA}{p pos tpos:Pos}{elts:List Expr}{x1:Nat}(hg:Gl X "zip")(hm:X.mg "zip"=none)(ha:PA X [a,b] ta)(hn:Jw a=true)(hn2:Jw b=true):PI X (.Tuple elts x1 tpos) (.Call (.Name "zip" p) [a,b] [] pos) (Jb5 X.K ta):=by
 intro pins s σ H R I h;refine Call_ (J1A I hg hm Jau (PyProof.Rows.callWith_type1 (thn (ha pos pins s σ H _ I h) fun us s1 ⟨vs,H1,I1,r1,q1⟩=>?_) (JJ hn) (by rw [JJ hn2];rfl)));obtain ⟨l,m,e,⟨xs,hq⟩,⟨ys,hq2⟩,q⟩:=q1;subst e;obtain ⟨u,v,rfl,ru,rv⟩:=J50 r1;cases (show u=Value.ref l from ru);cases (show v=Value.ref m from rv);obtain ⟨ia,ra,pa,_⟩:=I1.list hq;obtain ⟨ib,rb,pb,_⟩:=I1.list hq2;have la:l<s1.heap.objs.size:=by obtain ⟨o,e,_⟩:=pa.isList;exact zu e
 have lb:m<s1.heap.objs.size:=by obtain ⟨o,e,_⟩:=pb.isList;exact zu e
 refine call_zip_2 pa.isList pb.isList fun h' hz hTI hTO st1 st2 sz k=>?_;refine wpAny_pyIter_zip (s:={ s1 with heap:=h' }) hz ?_;refine ⟨s1.heap.objs.size+4,[s1.heap.objs.size+4,s1.heap.objs.size+2,s1.heap.objs.size+3,s1.heap.objs.size,s1.heap.objs.size+1],_,_,H1,rfl,I1.kept (t':=s1.toks) k,turn_zip _ _ _ _ _ l m ?_,⟨hz,hTI,⟨_,_,hTO⟩,st1,st2⟩,fun c hc=>?_,q⟩
 ·have la':Nat.lt l s1.heap.objs.size:=la
  have lb':Nat.lt m s1.heap.objs.size:=lb;generalize s1.heap.objs.size=N at *;constructor<;>first | exact yO (by simp only [Nat.lt_eq] at *;omega) | exact Nat.ne_of_gt (by simp only [Nat.lt_eq] at *;omega)
 ·have hle:s1.heap.objs.size<=c:=by
   simp only [zc,not_mem_nil,or_false] at hc;rcases hc with rfl | rfl | rfl | rfl | rfl
   ·exact Nat.le_add_right _ _
   ·exact Nat.le_add_right _ _
   ·exact Nat.le_add_right _ _
   ·exact yJ _
   ·exact Nat.le_add_right _ _
  exact I1.fpOk hle (I1.hok.fresh hle)
theorem JcE {K:Frag}{a b:Expr}{ta:TA}{p pos tpos:Pos}{elts:List Expr}{x1:Nat}(e:X.K=K)(hg:Gl X "zip")(hm:X.mg "zip"=none)(ha:PA X [a,b] ta)(hn:Jw a=true)(hn2:Jw b=true):PI X (.Tuple elts x1 tpos) (.Call (.Name "zip" p) [a,b] [] pos) (Jb5 K ta):=by subst e;exact JbK hg hm ha hn hn2
end
theorem ForW.zip {K:Frag}{a b:Addr}{xs ys:List V}{g:TG}{tb:TS}{D:Ends}{σ:St}{H:Hp}(Pv:Nat->St->Hp->Prop)(h0:Pv 0 σ H)(hl:∀ i σ H,Pv i σ H->SqL K H a xs/\SqL K H b ys)
 (hs:∀ (i:Nat) x y σ H p,xs[i]?=some x->ys[i]?=some y->Pv i σ H->H p=none->g (.ref p) σ (upd H p (.tup [x,y])) fun σ2 H2=>tb { D with nx:=Pv (i+1),ct:=Pv (i+1),bk:=D.nx } σ2 H2)
 (hd:∀ σ H,Pv (min xs.length ys.length) σ H->D.nx σ H):ForW (Itz K a b) g tb D σ H:=by
 refine ⟨fun i m σ H=>Pv i σ H/\i<=min xs.length ys.length/\m=min xs.length ys.length - i,⟨_,h0,yQ _,rfl⟩,fun i m σ H ⟨h1,h2,h3⟩=>?_⟩;obtain ⟨sa,sb⟩:=hl i σ H h1;by_cases e:i=min xs.length ys.length
 ·subst e
  exact .inl ⟨⟨xs,ys,sa,sb,by omega⟩,hd σ H h1⟩
 ·have lt:i<min xs.length ys.length:=Nat.lt_of_le_of_ne h2 e
  have lx:i<xs.length:=by omega
  have ly:i<ys.length:=by omega
  refine .inr ⟨⟨xs,ys,xs[i],ys[i],sa,sb,yU lx,yU ly⟩,Pv (i+1),fun σ' H' z=>⟨min xs.length ys.length - (i+1),by omega,z,lt,rfl⟩,fun v H' hy=>?_⟩;obtain ⟨p,x',y',hp,rfl,hx,hy,rfl⟩:=hy;exact hs i x' y' σ H p (hx xs sa) (hy ys sb) h1 hp
section
variable {X:Cx}
def JaN:V->List V->Hp->VK->Prop:=fun x vs H Q=>∃ l xs,∃ k:Nat,∃ y,x=.ref l/\vs=[.int k,y]/\H l=some (.lst xs)/\k<=xs.length/\xs.length+1<=1000000/\Q .non (upd H l (.lst (xs.take k++y::xs.drop k)))
theorem J3i:MtM X "list.insert" JaN:=by
 intro pins s σ H x vs v us Q I rx rv h;obtain ⟨l,xs,k,y,rfl,rfl,hH,hk,hz,q⟩:=h;cases rx;obtain ⟨u,z,rfl,⟨t,rfl⟩,rz⟩:=J50 rv;obtain ⟨hz0,its,n,r,hl,e⟩:=I.lstM hH;obtain ⟨i,hi⟩:∃ i:Int,i=(k:Int):=⟨_,rfl⟩;rw [<- hi];have h1:-(2 ^ 63)<=i:=by omega
 have h2:i<2 ^ 63:=by omega
 have hsz:its.toArray.size<=sizeLine:=by rw [yY];omega
 have M:=AutoSeq1.list_insert_list_int_val_1 l its.toArray n i t z (by rw [fitsIndex_both h1 h2];exact yK) hsz;refine call_meets F.slot_list_insert ⟨_,e,rfl⟩ F.entry_list_insert (F.args_list_insert_3 _ _ _) M ⟨e,?_⟩;refine ⟨.non,_,I.lset (its':=its.take k++z::its.drop k) hH e ?_ ((r.take k).append (.cons rz (r.drop k))) ?_,rfl,q⟩
 ·have e1:min k its.length=k:=by omega
  have e2:¬ (k:Int)<0:=by omega
  have e3:List.take (its.length - k) (List.drop k its)=List.drop k its:=take_of_length_le (by rw [length_drop];exact yJ _);simp [hi,e1,e2,e3]
 ·have:sizeLine=sizeLine:=rfl
  exact Jc (by rw [y6,length_cons,y7,length_drop];omega)
def Jbn (K:Frag):V->V->Hp->VK->Prop:=fun x y H Q=>∃ p xs,∃ i:Nat,∃ v,x=.ref p/\y=.int i/\SqL K H p xs/\xs[i]?=some v/\Q v H
theorem Jab:Jcl X (Jbn X.K):=by
 intro pins s σ H x y v u Q I rx ry h;obtain ⟨p,xs,i,z,rfl,rfl,hq,he,q⟩:=h;cases rx;obtain ⟨t,rfl⟩:=ry;obtain ⟨its,r,pl,hz⟩:=I.list hq;obtain ⟨w,ew,rw'⟩:=r.get he;have hl:=r.length;have hn:=J3l;have hi:=(yV.mp he).1;have h63:(i:Int)<2 ^ 63:=by omega
 exact wpAny_getItem_list pl.isList (Int.natCast_nonneg _) h63 (by rw [Int.toNat_natCast];simpa using ew) ⟨z,H,I,rw',q⟩
theorem J7p {K:Frag}(e:X.K=K):Jcl X (Jbn K):=by subst e;exact Jab
theorem JbM (K:Frag)(i j:Nat){x y:Str}{p1 p2 pos:Pos}{k:Nat}(hN:X.N.Nodup)(e:X.K=K:=by rfl)(hc:X.calm=true:=by rfl)(hi:X.N[i]?=some x:=by rfl)(hj:X.N[j]?=some y:=by rfl)(hv:X.env.scope.names.lookup x=some .local:=by rfl)(hw:X.env.scope.names.lookup y=some .local:=by rfl)
 (h1:(assignEach [.Name x p1,.Name y p2] X.env).map (·.2)=assign (.Name x p1) X.env::(assignEach [.Name y p2] X.env).map (·.2):=by rfl) (h2:(assignEach [.Name y p2] X.env).map (·.2)=assign (.Name y p2) X.env::(assignEach [] X.env).map (·.2):=by rfl)
 (hn:(assignEach [.Name x p1,.Name y p2] X.env).length=2:=by rfl) (hst:(assignEach [.Name x p1,.Name y p2] X.env).findIdx? (·.1)=none:=by rfl):PG X (.Tuple [.Name x p1,.Name y p2] k pos) (Jb7 K 2 (J0y (JK i) (J0y (JK j) J1X))) :=
 J1x e hc (Jq (pgl i hN hi hv) (Jq (pgl j hN hj hw) J0o h2) h1) hn hst
end
section
variable {X:Cx}
theorem J5S {zs:List Int}{its:List Value}{i:Nat}{v:Value}(r:Vals (zs.map V.int) its)(hv:its.toArray[i]?=some v):i<zs.length/\∃ t,v=.int (zs.getD i 0) t:=by
 have hv':its[i]?=some v:=by simpa using hv
 have hm:i<zs.length:=by
  have:=r.length;rw [yW] at this;rw [this];exact (yV.mp hv').1
 obtain ⟨u,hu,t,e⟩:=r.get (i:=i) (x:=V.int zs[i]) (by rw [ze,yU hm];rfl);rw [hv'] at hu;cases hu;exact ⟨hm,t,by rw [yZ,yU hm];exact e⟩
theorem J5X {α:Type}{l:List α}{i:Nat}{x d:α}(h:l[i]?=some x):l.getD i d=x:=by rw [yZ,h];rfl
end
section
variable {X:Cx}
def J7W (K:Frag):List V->Hp->VK->Prop:=fun xs H Q=>∃ l,∃ zs:List Int,xs=[.ref l]/\SqL K H l (zs.map V.int)/\Q (.int (zs.foldl (·+·) 0)) H
theorem J3u (zs:List Int):∀ k,k<=zs.length->preSum (fun i=>zs.getD i 0) k=(zs.take k).foldl (·+·) 0
 | 0,_=>rfl
 | k+1,h=>by
   have hk:k<zs.length:=h;show preSum (fun i=>zs.getD i 0) k+zs.getD k 0=_;rw [J3u zs k (by omega),take_add_one,yU hk,foldl_append,J5X (yU hk)];rfl
theorem Jar (hc:X.calm=true):J0i X (.builtin "sum") (J7W X.K):=by
 intro pins s σ H xs us Q I r h;obtain ⟨l,zs,rfl,hq,q⟩:=h;obtain ⟨lv,rfl,rl⟩:=J1C r;cases (show lv=Value.ref l from rl);obtain ⟨its,r',pl,hz⟩:=I.list hq;have hl:=r'.length;rw [yW] at hl;obtain ⟨ol,hol,hcl⟩:=id pl.isList;have ll:l<s.heap.objs.size:=zu hol;refine call_sum_walkAnyS (wpAny_pyIter_list pl.isList ⟨s.heap.objs.size,_,_,_,_,_,_,fun i=>zs.getD i 0,rfl,(Walks.list (by simp [I.ok.hd hc]) s.heap.objs.size l (yO ll) its.toArray).toS,⟨⟨_,zt _ rfl,rfl,rfl⟩,pl.isList.push _⟩,?_,fun i v hv=>(J5S r' hv).2,fun s' t' mv=>?_⟩)
 ·intro b hb
  rw [Heap.size_push];simp only [zc,not_mem_nil,or_false] at hb;rcases hb with rfl | rfl
  ·exact Nat.lt_succ_self _
  ·exact Nat.lt_succ_of_lt ll
 ·obtain ⟨h',g',d',tk',os'⟩:=s'
  obtain rfl:g'=s.gens:=mv.gens;obtain rfl:d'=s.drawn:=mv.drawn;obtain rfl:os'=s.os:=mv.os;have e:preSum (fun i=>zs.getD i 0) its.toArray.size=zs.foldl (·+·) 0:=by
   rw [yY,<- hl,J3u zs zs.length (yJ _),zf]
  rw [e];refine ⟨.int _,H,I.kept (t':=tk') fun b o hb=>?_,⟨_,rfl⟩,q⟩;refine mv.heap b o ?_ (zr _ hb);simp only [zc,not_mem_nil,or_false];exact yO (zu hb)
theorem J1m {K:Frag}(e:X.K=K)(hc:X.calm=true):J0i X (.builtin "sum") (J7W K):=by subst e;exact Jar hc
end
section
variable {X:Cx}
def JbI (K:Frag)(neg:Bool):R2:=fun x y H Q=>∃ d es,Rep K H d x/\Rep K H (.list es) y/\SeqAt.shaped d=true/\SeqAt.shaped (.list es)=true/\Q (.bl (if neg then !es.any (fun e=>PyData.eqv e d) else es.any (fun e=>PyData.eqv e d))) H
theorem J47 {d:PyData}(h:SeqAt.shaped d=true):d.canLay0=true/\d.depth<=64:=by
 unfold SeqAt.shaped at h;rw [Bool.and_eq_true] at h;exact ⟨h.1,by have:=of_decide_eq_true h.2;omega⟩
theorem JbU (hu:X.A.units+64<cLine):OpR X (compareOp .In) (JbI X.K false):=by
 intro pins s σ H x y v u Q I rx ry h;obtain ⟨d,es,h1,h2,h3,h4,q⟩:=h;obtain ⟨as,q1⟩:=Rep.reads I d x v h1 rx;obtain ⟨bs,q2⟩:=Rep.reads I _ y u h2 ry;have l1:=J47 h3;have l2:=J47 h4;have l3:PyData.canLayAll0 es=true:=by simpa [PyData.canLay0] using l2.1
 refine SeqAt.in_list_reads q2 q1 l3 l1.1 ?_ (JE I q rfl);have:=Nat.min_le_left (PyData.depthAll es) d.depth;have l5:PyData.depthAll es+1<=64:=by simpa [PyData.depth] using l2.2
 omega
theorem Jbr {K:Frag}(e:X.K=K)(hu:X.A.units+64<cLine):OpR X (compareOp .In) (JbI K false):=by subst e;exact JbU hu
theorem J5V {M:Model}{A:Around}{E:Value->Shared->Prop}{s:Shared}{a b:Value}{Q:Value->Shared->Prop}(ha:s.TypeIs a "list")(hb:s.TypeIs b "list")
 (hc:wpAny M A (call (.builtin "list.__iadd__") [a,b]) Q E s):wpAny M A (inplaceOp .Add a b) Q E s:=by
 have hi:typeLookup (.type "list") (dunderI "add")=pure (some (.builtin "list.__iadd__")):=F.slot_list_iadd.lookup;have hq:isSeqSlot (some (.builtin "list.__iadd__"))=true:=by decide +kernel
 unfold inplaceOp;refine wpAny_holding ?_;have hfi:fillsInplaceSlot (.type "list") "add" (Operator.Add == .Add)=pure false:=by
  unfold fillsInplaceSlot;show (typeLookup (.type "list") (dunderI "add") >>= fun fi=>pure (fi.isSome&&!isSeqSlot fi))=pure false;rw [hi,pure_bind,hq];rfl
 have hsi:seqSlot? (.type "list") (dunderI "add")=pure (some (.builtin "list.__iadd__")):=PyProof.Rows.seqSlot_of hi hq;refine yF (wpAny_typeOf ha (yF (wpAny_of_eq hfi ?_)));show wpAny M A (if false=true then _ else _) Q E s;rw [yH yK];refine yF (binaryOp1_none (nm:="add") ha hb noFill_list_add ?_);refine yF (wpAny_of_eq hsi ?_);exact yF (wpAny_rule hc)
def Jcv:V->V->Hp->VK->Prop:=fun x y H Q=>∃ l b xs zs,x=.ref l/\y=.ref b/\H l=some (.lst xs)/\H b=some (.lst zs)/\xs.length+zs.length<=sizeLine/\Q (.ref l) (upd H l (.lst (xs++zs)))
theorem J5R:PIp X .Add Jcv:=by
 intro pins s σ H x y v u Q I rx ry h;obtain ⟨l,b,xs,zs,rfl,rfl,hH,hB,hz,q⟩:=h;cases rx;cases ry;obtain ⟨z,its,n,r,hl,e⟩:=I.lstM hH;obtain ⟨z2,its2,n2,r2,hl2,e2⟩:=I.lstM hB;have hsz:its.toArray.size+its2.toArray.size<=sizeLine:=by rw [yY,yY];omega
 have hlong:¬ (!its.toArray.isEmpty&&Builtin.List.listTooLong (its.toArray.size+its2.toArray.size))=true:=by
  rw [J6u hsz,Bool.and_false];exact yK
 refine J5V ⟨_,e,rfl⟩ ⟨_,e2,rfl⟩ (call_meets F.slot_list_iadd ⟨_,e,rfl⟩ F.entry_list_iadd (F.args_list_iadd_2 _ _)
  (AutoSeq1.list___iadd___list_list_0 l its.toArray n b its2.toArray n2 hlong (by rw [yY];omega) (by omega)) ⟨e,e2,?_⟩)
 refine ⟨.ref l,_,I.lset (its':=its++its2) hH e (by simp) (r.append r2) ?_,rfl,q⟩;rw [y6];omega
end
theorem J4G {J:It}{xs:List V}{ok:Hp->Prop}(w:Walk J xs ok){g:TG}{tt:TT}{te:TE}{fin:List V->Hp->Prop}{σ:St}{H:Hp}(hz:xs.length<=sizeLine)(Pv:Nat->List V->St->Hp->Prop)(h0:Pv 0 [] σ H)(hl:∀ i zs σ H,Pv i zs σ H->ok H/\zs.length<=i)
 (hs:∀ (i:Nat) x zs σ H,xs[i]?=some x->Pv i zs σ H->g x σ H fun σ2 H2=>tt σ2 H2 fun b H3=>if b=true then te σ2 H3 fun y H4=>Pv (i+1) (zs++[y]) σ2 H4 else Pv (i+1) zs σ2 H3)
 (hd:∀ zs σ H,Pv xs.length zs σ H->fin zs H):J4M J g tt te fin σ H:=by
 refine ⟨fun i m zs σ H=>m=xs.length - i/\i<=xs.length/\Pv i zs σ H,⟨_,rfl,yQ _,h0⟩,?_⟩;rintro i m zs σ H ⟨rfl,hi,p⟩;obtain ⟨q,hy⟩:=hl i zs σ H p;by_cases hlt:i<xs.length
 ·refine .inr ⟨w.go i H q hlt,by omega,Pv (i+1),fun zs' σ' H' z=>⟨xs.length - (i+1),by omega,rfl,hlt,z⟩,fun x H' y=>?_⟩
  obtain ⟨e,y'⟩:=w.yld i H x H' q hlt y;subst e;exact hs i x zs σ _ y' p
 ·have e:i=xs.length:=by omega
  subst e;exact .inl ⟨w.stop H q,hd zs σ H p⟩
section
def All2 {α β:Type}(R:α->β->Prop)(xs:List α)(ys:List β):Prop:=xs.length=ys.length/\∀ (i:Nat) x y,xs[i]?=some x->ys[i]?=some y->R x y
variable {α β:Type}{R S:α->β->Prop}{xs:List α}{ys:List β}
theorem All2.nil:All2 R [] []:=⟨rfl,fun i x y h=>by simp at h⟩
theorem All2.mono (h:All2 R xs ys)(f:∀ x y,R x y->S x y):All2 S xs ys:=⟨h.1,fun i x y a b=>f x y (h.2 i x y a b)⟩
theorem All2.at {i:Nat}{x:α}(h:All2 R xs ys)(hx:xs[i]?=some x):∃ y,ys[i]?=some y/\R x y:=by
 have hi:i<ys.length:=by rw [<- h.1];exact (yV.mp hx).1
 exact ⟨_,yU hi,h.2 i x _ hx (yU hi)⟩
theorem All2.at' {i:Nat}{y:β}(h:All2 R xs ys)(hy:ys[i]?=some y):∃ x,xs[i]?=some x/\R x y:=by
 have hi:i<xs.length:=by rw [h.1];exact (yV.mp hy).1
 exact ⟨_,yU hi,h.2 i _ y (yU hi) hy⟩
theorem All2.meml {x:α}(h:All2 R xs ys)(hx:x∈xs):∃ y∈ys,R x y:=by
 obtain ⟨i,hi⟩:=zk.mp hx;obtain ⟨y,hy,r⟩:=h.at hi;exact ⟨y,y4 hy,r⟩
theorem All2.append {xs':List α}{ys':List β}(h:All2 R xs ys)(h':All2 R xs' ys'):All2 R (xs++xs') (ys++ys'):=by
 refine ⟨by simp [h.1,h'.1],fun i x y a b=>?_⟩;by_cases c:i<xs.length
 ·rw [zn c] at a
  rw [zn (by rw [<- h.1];exact c)] at b;exact h.2 i x y a b
 ·rw [zm (by omega)] at a
  rw [zm (by rw [<- h.1];omega),<- h.1] at b;exact h'.2 _ x y a b
theorem All2.one {x:α}{y:β}(h:R x y):All2 R [x] [y]:=⟨rfl,fun i a b ha hb=>by
 cases i with
 | zero=>simp at ha hb;subst ha hb;exact h
 | succ i=>simp at ha⟩
theorem All2.snoc {x:α}{y:β}(h:All2 R xs ys)(r:R x y):All2 R (xs++[x]) (ys++[y]):=h.append (.one r)
theorem All2.tail {x:α}{y:β}(h:All2 R (x::xs) (y::ys)):R x y/\All2 R xs ys :=
 ⟨h.2 0 x y rfl rfl,by simpa using h.1,fun i a b ha hb=>h.2 (i+1) a b (by simpa using ha) (by simpa using hb)⟩
end
theorem nodup_le:∀ (m:Nat) (l:List Nat),l.Nodup->(∀ x∈l,x<m)->l.length<=m
 | 0,[],_,_=>yJ _
 | 0,x::l,_,h=>absurd (h x y9) (Nat.not_lt_zero _)
 | m + 1,l,hn,h=>by
   by_cases c:m∈l
   ·have h1:=nodup_le m (l.erase m) (hn.erase m) fun x hx=>by
     have:=h x (mem_of_mem_erase hx);have:x≠m:=fun e=>by
      subst e;exact absurd hx (List.Nodup.not_mem_erase hn)
     omega
    have:=length_erase_of_mem c;have:0<l.length:=length_pos_of_mem c;omega
   ·exact Nat.le_succ_of_le (nodup_le m l hn fun x hx=>by
     have:=h x hx;have:x≠m:=fun e=>c (e ▸ hx);omega)
abbrev Box:=Nat×Nat
def RowAt (H:Hp)(x:V)(r:List Int):Prop:=∃ p,x=.ref p/\H p=some (.lst (r.map V.int))
def GridV (H:Hp)(xs:List V)(g:List (List Int)):Prop:=All2 (RowAt H) xs g
theorem RowAt.mono {H H':Hp}{x:V}{r:List Int}(s:Same H H')(h:RowAt H x r):RowAt H' x r:=by
 obtain ⟨p,e,g⟩:=h;exact ⟨p,e,s _ _ g⟩
theorem GridV.mono {H H':Hp}{xs:List V}{g:List (List Int)}(s:Same H H')(h:GridV H xs g):GridV H' xs g:=All2.mono h fun _ _=>RowAt.mono s
structure GOk (g:List (List Int))(R C:Nat):Prop where
 rows:g.length=R
 cols:∀ r∈g,r.length=C
 pos:∀ r∈g,∀ x∈r,0<=x
def InG (R C:Nat)(b:Box):Prop:=b.1<R/\b.2<C
structure Arc where
 a:Int
 b:Int
 l:Int
 u:Int
instance:Inhabited Arc:=⟨⟨0,0,0,0⟩⟩
def Arc.vs (A:Arc):List V:=[.int A.a,.int A.b,.int A.l,.int A.u]
def ArcAt (H:Hp)(x:V)(A:Arc):Prop:=∃ p,x=.ref p/\H p=some (.tup A.vs)
def ArcsV (H:Hp)(xs:List V)(as:List Arc):Prop:=All2 (ArcAt H) xs as
theorem ArcAt.mono {H H':Hp}{x:V}{A:Arc}(s:Same H H')(h:ArcAt H x A):ArcAt H' x A:=by
 obtain ⟨p,e,g⟩:=h;exact ⟨p,e,s _ _ g⟩
theorem ArcsV.mono {H H':Hp}{xs:List V}{as:List Arc}(s:Same H H')(h:ArcsV H xs as):ArcsV H' xs as:=All2.mono h fun _ _=>ArcAt.mono s
def InN (m:Nat)(A:Arc):Prop:=0<=A.a/\A.a<m/\0<=A.b/\A.b<m
def StepOk (as:List Arc)(n pl t:Nat)(sg:Int):Prop:=∃ A,as[pl]?=some A/\((sg=1/\A.a=n/\A.b=t)\/(sg=-1/\A.b=n/\A.a=t))
def StepV (H:Hp)(as:List Arc)(n:Nat)(x:V):Prop:=∃ (q:Addr) (pl t:Nat) (sg:Int),x=.ref q/\H q=some (.tup [.int pl,.int t,.int sg])/\StepOk as n pl t sg
structure StepsAt (H:Hp)(as:List Arc)(D:Nat->Int->Prop)(bnd n:Nat)(p:Addr):Prop where
 ex:∃ ts,H p=some (.lst ts)/\ts.length<=bnd/\(∀ t∈ts,StepV H as n t) /\
  ∀ (pl t:Nat) (sg:Int),D pl sg->StepOk as n pl t sg->∃ q,V.ref q∈ts/\H q=some (.tup [.int pl,.int t,.int sg])
def J0U (as:List Arc)(fl:List Int)(pl:Nat)(sg:Int):Int:=if sg=1 then (as.getD pl default).u - fl.getD pl 0 else fl.getD pl 0 - (as.getD pl default).l
structure StreamAt (H:Hp)(C x:Addr)(m:Nat)(as:List Arc)(fl:List Int):Prop where
 ex:∃ (dx la lb ls:Addr) (xs:List V) (sa:List Addr),H x=some (.ins C dx [("arcs",.ref la),("borne",.ref lb),("steps",.ref ls)])/\H la=some (.lst xs)/\ArcsV H xs as/\H lb=some (.lst (fl.map V.int)) /\
  H ls=some (.lst (sa.map V.ref))/\sa.length=m/\∀ (n:Nat) p,sa[n]?=some p->StepsAt H as (fun _ _=>True) (2 * as.length) n p
 len:fl.length=as.length
 small:as.length<=1000/\m<=1000
 inn:∀ A∈as,InN m A
theorem StepV.mono {H H':Hp}{as:List Arc}{n:Nat}{x:V}(s:Same H H')(h:StepV H as n x):StepV H' as n x:=by
 obtain ⟨q,pl,t,sg,e,g,r⟩:=h;exact ⟨q,pl,t,sg,e,s _ _ g,r⟩
theorem StepsAt.mono {H H':Hp}{as:List Arc}{D:Nat->Int->Prop}{bnd n:Nat}{p:Addr}(s:Same H H')(h:StepsAt H as D bnd n p):StepsAt H' as D bnd n p:=by
 obtain ⟨ts,e,l,a,b⟩:=h.ex;refine ⟨ts,s _ _ e,l,fun t ht=>(a t ht).mono s,fun pl t sg h1 h2=>?_⟩;obtain ⟨q,h3,h4⟩:=b pl t sg h1 h2;exact ⟨q,h3,s _ _ h4⟩
theorem StreamAt.mono {H H':Hp}{C x:Addr}{m:Nat}{as:List Arc}{fl:List Int}(s:Same H H')(h:StreamAt H C x m as fl):StreamAt H' C x m as fl:=by
 obtain ⟨dx,la,lb,ls,xs,sa,h1,h2,h3,h4,h5,h6,h7⟩:=h.ex;exact ⟨⟨dx,la,lb,ls,xs,sa,s _ _ h1,s _ _ h2,h3.mono s,s _ _ h4,s _ _ h5,h6,fun n p hp=>(h7 n p hp).mono s⟩,h.len,h.small,h.inn⟩
def J65 (as:List Arc)(fl:List Int)(n pl t:Nat)(sg:Int):Prop:=StepOk as n pl t sg/\0<J0U as fl pl sg
abbrev Ent:=Nat×Option (Nat×Nat×Int)
def Jr (es:List Ent):List Nat:=es.map (·.1)
def EntV (H:Hp)(kv:Key×V)(e:Ent):Prop:=kv.1=Sum.inl (e.1:Int)/\match e.2 with
 | none=>kv.2=.non
 | some (n,pl,sg)=>∃ q,kv.2=.ref q/\H q=some (.tup [.int n,.int pl,.int sg])
theorem EntV.mono {H H':Hp}{kv:Key×V}{e:Ent}(s:Same H H')(h:EntV H kv e):EntV H' kv e:=by
 obtain ⟨k,o⟩:=e;cases o with
 | none=>exact h
 | some z=>obtain ⟨a,q,b,c⟩:=h;exact ⟨a,q,b,s _ _ c⟩
def EntsV (H:Hp)(kvs:List (Key×V))(es:List Ent):Prop:=All2 (EntV H) kvs es
theorem EntsV.mono {H H':Hp}{kvs:List (Key×V)}{es:List Ent}(s:Same H H')(h:EntsV H kvs es):EntsV H' kvs es:=All2.mono h fun _ _=>EntV.mono s
def TSame (H H':Hp):Prop:=∀ q zs,H q=some (.tup zs)->H' q=some (.tup zs)
theorem TSame.set {H H':Hp}(s:TSame H H'){p:Addr}{o o':HO}(h:H' p=some o)(hn:∀ zs,o≠.tup zs):TSame H (upd H' p o'):=fun q zs z=>by
 have h1:=s q zs z;rw [Jf (fun e=>by subst e;rw [h] at h1;exact hn zs (yN h1))];exact h1
theorem TSame.new {H H':Hp}(s:TSame H H'){p:Addr}{o':HO}(h:H' p=none):TSame H (upd H' p o'):=fun q zs z=>by
 have h1:=s q zs z;rw [Jf (fun e=>by subst e;rw [h] at h1;cases h1)];exact h1
theorem TSame.refl (H:Hp):TSame H H:=fun _ _ z=>z
theorem EntV.monoT {H H':Hp}{kv:Key×V}{e:Ent}(s:TSame H H')(h:EntV H kv e):EntV H' kv e:=by
 obtain ⟨k,o⟩:=e;cases o with
 | none=>exact h
 | some z=>obtain ⟨a,q,b,c⟩:=h;exact ⟨a,q,b,s _ _ c⟩
theorem EntsV.monoT {H H':Hp}{kvs:List (Key×V)}{es:List Ent}(s:TSame H H')(h:EntsV H kvs es):EntsV H' kvs es:=All2.mono h fun _ _=>EntV.monoT s
theorem StepV.monoT {H H':Hp}{as:List Arc}{n:Nat}{x:V}(s:TSame H H')(h:StepV H as n x):StepV H' as n x:=by
 obtain ⟨q,pl,t,sg,e,g,r⟩:=h;exact ⟨q,pl,t,sg,e,s _ _ g,r⟩
theorem StepOk.same {as:List Arc}{n n' pl t t':Nat}{sg:Int}(h:StepOk as n pl t sg)(h':StepOk as n' pl t' sg):n=n'/\t=t':=by
 obtain ⟨A,hA,c⟩:=h;obtain ⟨A',hA',c'⟩:=h';rw [hA] at hA';cases hA';rcases c with ⟨rfl,a,b⟩ | ⟨rfl,a,b⟩<;>rcases c' with ⟨e,a',b'⟩ | ⟨e,a',b'⟩<;>first | exact ⟨by omega,by omega⟩ | exact absurd e (by decide)
theorem steps_app {H:Hp}{sa:List Addr}(nd:sa.Nodup){as:List Arc}{D:Nat->Int->Prop}{bnd:Nat}(h:∀ (n:Nat) a,sa[n]?=some a->StepsAt H as D bnd n a){N pl t:Nat}{sg:Int}{aN r:Addr}{ts:List V}(hN:sa[N]?=some aN)(so:StepOk as N pl t sg)(hr:H r=none)(hts:H aN=some (.lst ts)) :
 ∀ (n:Nat) a,sa[n]?=some a->StepsAt (upd (upd H r (.tup [.int pl,.int t,.int sg])) aN (.lst (ts++[.ref r]))) as (fun pl' sg'=>D pl' sg'\/(pl'=pl/\sg'=sg)) (bnd+1) n a:=by
 intro n a ha;have nr:aN≠r:=Ji hts hr;have tss:TSame H (upd (upd H r (.tup [.int pl,.int t,.int sg])) aN (.lst (ts++[.ref r]))):=((TSame.refl H).new hr).set (by rw [Jf nr];exact hts) (fun _ z=>by cases z);obtain ⟨ts',e,l,p1,p2⟩:=(h n a ha).ex;have nar:a≠r:=Ji e hr;by_cases c:n=N
 ·subst c
  rw [hN] at ha;cases ha;rw [hts] at e;cases e;refine ⟨ts++[.ref r],Ja,by simp;exact l,fun y hy=>?_,fun pl' t' sg' hd so'=>?_⟩
  ·rcases zh.mp hy with z | z
   ·exact (p1 y z).monoT tss
   ·exact ⟨r,pl,t,sg,yX.mp z,by rw [Jf (Ne.symm nr),Ja],so⟩
  ·rcases hd with hd | ⟨rfl,rfl⟩
   ·obtain ⟨q,h3,h4⟩:=p2 pl' t' sg' hd so'
    exact ⟨q,zj _ h3,tss _ _ h4⟩
   ·obtain ⟨_,rfl⟩:=so.same so'
    exact ⟨r,zi _ (yX.mpr rfl),by rw [Jf (Ne.symm nr),Ja]⟩
 ·have naN:a≠aN:=fun z=>by
   subst z;exact c ((List.getElem?_inj (yV.mp ha).1 nd).mp (ha.trans hN.symm))
  refine ⟨ts',by rw [Jf naN,Jf nar];exact e,by omega,fun y hy=>(p1 y hy).monoT tss,fun pl' t' sg' hd so'=>?_⟩;rcases hd with hd | ⟨rfl,rfl⟩
  ·obtain ⟨q,h3,h4⟩:=p2 pl' t' sg' hd so'
   exact ⟨q,h3,tss _ _ h4⟩
  ·exact absurd (so'.same so).1 c
def SameBut (x:Addr)(H H':Hp):Prop:=∀ b o,b≠x->H b=some o->H' b=some o
theorem SameBut.new {x:Addr}{H H':Hp}(s:SameBut x H H'){p:Addr}{o:HO}(h:H' p=none):SameBut x H (upd H' p o):=fun b q n z=>by
 have:=s b q n z;rw [Jf (fun e=>by subst e;rw [h] at this;cases this)];exact this
theorem SameBut.at {x:Addr}{H H':Hp}(s:SameBut x H H'){o:HO}:SameBut x H (upd H' x o):=fun b q n z=>by
 rw [Jf n];exact s b q n z
theorem SameBut.set {x:Addr}{H H':Hp}(s:SameBut x H H'){p:Addr}{o:HO}(h:H p=none):SameBut x H (upd H' p o):=fun b q n z=>by
 rw [Jf (fun e=>by subst e;rw [h] at z;cases z)];exact s b q n z
structure CInv (as:List Arc)(fl:List Int)(m start:Nat)(es:List Ent):Prop where
 hd:∃ r,es=(start,none)::r
 some_:∀ (i:Nat) e,es[i+1]?=some e->e.2≠none
 tree:∀ (i:Nat) k n pl sg,es[i]?=some (k,some (n,pl,sg))->n∈Jr (es.take i)/\J65 as fl n pl k sg
 nd:(Jr es).Nodup
 lt:∀ k∈Jr es,k<m
def Closed (as:List Arc)(fl:List Int)(es:List Ent)(n:Nat):Prop:=∀ pl t sg,J65 as fl n pl t sg->t∈Jr es
theorem J0R (a b:List Ent):Jr (a++b)=Jr a++Jr b:=zg
theorem Closed.more {as:List Arc}{fl:List Int}{es es':List Ent}{n:Nat}(h:Closed as fl es n)(s:∀ k∈Jr es,k∈Jr es'):Closed as fl es' n:=fun pl t sg z=>s _ (h pl t sg z)
theorem CInv.start {as:List Arc}{fl:List Int}{m s:Nat}(h:s<m):CInv as fl m s [(s,none)] where
 hd:=⟨_,rfl⟩
 some_:=fun i e h=>by simp at h
 tree:=fun i k n pl sg h=>by
  cases i with
  | zero=>simp at h
  | succ i=>simp at h
 nd:=by simp [Jr]
 lt:=fun k hk=>by simp [Jr] at hk;omega
theorem CInv.snoc {as:List Arc}{fl:List Int}{m s:Nat}{es:List Ent}(h:CInv as fl m s es){n pl t:Nat}{sg:Int}(hn:n∈Jr es)(st:J65 as fl n pl t sg)(ht:t∉Jr es)(hm:t<m):CInv as fl m s (es++[(t,some (n,pl,sg))]) where
 hd:=by obtain ⟨r,e⟩:=h.hd;exact ⟨r++[(t,some (n,pl,sg))],by rw [e];rfl⟩
 some_:=fun i e he=>by
  by_cases c:i+1<es.length
  ·rw [zn c] at he;exact h.some_ i e he
  ·rw [zm (by omega)] at he
   cases j:i+1 - es.length with
   | zero=>rw [j] at he;simp at he;subst he;simp
   | succ j'=>rw [j] at he;simp at he
 tree:=fun i k n' pl' sg' he=>by
  by_cases c:i<es.length
  ·rw [zn c] at he
   obtain ⟨h1,h2⟩:=h.tree i k n' pl' sg' he;refine ⟨?_,h2⟩;rw [take_append_of_le_length (by omega)];exact h1
  ·rw [zm (by omega)] at he
   cases j:i - es.length with
   | zero =>
     rw [j] at he;simp at he;obtain ⟨rfl,rfl,rfl,rfl⟩:=he;have e:i=es.length:=by omega
     rw [e,take_append_of_le_length (yJ _),zf];exact ⟨hn,st⟩
   | succ j'=>rw [j] at he;simp at he
 nd:=by
  rw [J0R];refine nodup_append.mpr ⟨h.nd,by simp [Jr],fun a ha b hb=>?_⟩;simp [Jr] at hb;subst hb;exact fun e=>ht (e ▸ ha)
 lt:=fun k hk=>by
  rw [J0R] at hk;rcases zh.mp hk with z | z
  ·exact h.lt k z
  ·simp [Jr] at z;omega
theorem CInv.len {as:List Arc}{fl:List Int}{m s:Nat}{es:List Ent}(h:CInv as fl m s es):es.length<=m:=by
 have:=nodup_le m (Jr es) h.nd h.lt;unfold Jr at this;rwa [yW] at this
structure Came (as:List Arc)(fl:List Int)(m start:Nat)(es:List Ent):Prop extends CInv as fl m start es where
 closed:∀ n∈Jr es,Closed as fl es n
theorem J3c {H:Hp}:∀ {kvs:List (Key×V)} {es:List Ent},EntsV H kvs es->∀ k:Nat,(J0I kvs (Sum.inl (k:Int))).isSome=decide (k∈Jr es)
 | [],[],_,k=>by simp [J0I,Jr]
 | [],_::_,h,_=>by have:=h.1;simp at this
 | _::_,[],h,_=>by have:=h.1;simp at this
 | kv::kvs,e::es,h,k=>by
   obtain ⟨h1,h2⟩:=All2.tail h;by_cases c:k=e.1
   ·rw [J21 (by rw [h1.1,c])]
    simp [Jr,c]
   ·rw [J22 (by rw [h1.1];intro z;exact c (by have:=Sum.inl.inj z;omega)),J3c h2 k]
    unfold Jr;rw [zd];simp only [zc,c,false_or]
theorem J9D {H:Hp}{kvs:List (Key×V)}{es:List Ent}(h:EntsV H kvs es){k:Nat}(hk:k∉Jr es)(v:V):J1b kvs (Sum.inl (k:Int)) v=kvs++[(Sum.inl (k:Int),v)]:=by
 unfold J1b;rw [yH];intro z;obtain ⟨kv,hm,he⟩:=any_eq_true.mp z;obtain ⟨e,hem,r⟩:=All2.meml h hm;have h1:=of_decide_eq_true he;rw [r.1] at h1;have h2:(e.1:Int)=k:=Sum.inl.inj h1;exact hk (by
  have:e.1=k:=by omega
  rw [<- this];exact mem_map_of_mem hem)
inductive Reach (L:Nat->Nat->Prop)(s:Nat):Nat->Prop
 | here:Reach L s s
 | step {u v:Nat}:Reach L s u->L u v->Reach L s v
theorem Reach.stays {L:Nat->Nat->Prop}{s v:Nat}{P:Nat->Prop}(h:Reach L s v)(hs:P s)(hc:∀ a b,P a->L a b->P b):P v:=by
 induction h with
 | here=>exact hs
 | step _ l ih=>exact hc _ _ ih l
def J5t (as:List Arc)(fl:List Int)(u v:Nat):Prop:=∃ pl sg,J65 as fl u pl v sg
theorem CInv.reach {as:List Arc}{fl:List Int}{m s:Nat}{es:List Ent}(h:CInv as fl m s es):∀ (i:Nat) e,es[i]?=some e->Reach (J5t as fl) s e.1:=by
 intro i
 induction i using Nat.strongRecOn with
 | ind i ih =>
   intro e he;obtain ⟨k,o⟩:=e;cases o with
   | none =>
     cases i with
     | zero =>
       obtain ⟨r,e⟩:=h.hd;rw [e] at he;simp at he;rw [<- he];exact .here
     | succ i=>exact absurd rfl (h.some_ i _ he)
   | some z =>
     obtain ⟨n,pl,sg⟩:=z;obtain ⟨h1,h2⟩:=h.tree i k n pl sg he;unfold Jr at h1;obtain ⟨e',hm,rfl⟩:=zl.mp h1;obtain ⟨j,hj⟩:=zk.mp hm;have hji:j<i:=by
      have:=(yV.mp hj).1;rw [y7] at this;omega
     rw [List.getElem?_take_of_lt hji] at hj;exact (ih j hji e' hj).step ⟨pl,sg,h2⟩
theorem Came.iff {as:List Arc}{fl:List Int}{m s:Nat}{es:List Ent}(h:Came as fl m s es)(v:Nat):v∈Jr es↔Reach (J5t as fl) s v:=by
 constructor
 ·intro hv
  obtain ⟨e,he,rfl⟩:=zl.mp hv;obtain ⟨i,hi⟩:=zk.mp he;exact h.toCInv.reach i e hi
 ·intro hr
  refine hr.stays (P:=fun v=>v∈Jr es) ?_ fun a b ha ⟨pl,sg,st⟩=>h.closed a ha pl b sg st;obtain ⟨r,e⟩:=h.hd;rw [e];exact y9
theorem cells_split:∀ (names:List (Str×NameKind)) (h:Heap) (acc:List (Str×Addr)) (x:Str) (c:Addr),(cellsFrom h.objs.size names acc).lookup x=some c ->
 (h.objs.size<=c/\(x,NameKind.cell)∈names/\(pushCells h names).IsCell c none)\/acc.lookup x=some c
 | [],_,_,_,_,e=>.inr e
 | (y,k)::r,h,acc,x,c,e=>by
   unfold cellsFrom at e;unfold pushCells;cases hk:k == NameKind.cell with
   | false =>
     rw [hk,yH yK] at e;rw [yH yK];rcases cells_split r h acc x c e with ⟨a,b,d⟩ | q
     ·exact .inl ⟨a,y8 _ b,d⟩
     ·exact .inr q
   | true =>
     have ek:k=NameKind.cell:=by simpa using hk
     subst ek;rw [hk,yI rfl] at e;rw [yI rfl];have e2:(cellsFrom (h.push { cls:=.type "cell",data:=.cell none }).objs.size r ((y,h.objs.size)::acc)).lookup x=some c:=by rw [Heap.size_push];exact e
     rcases cells_split r _ _ x c e2 with ⟨a,b,d⟩ | q
     ·rw [Heap.size_push] at a
      exact .inl ⟨by omega,y8 _ b,d⟩
     ·by_cases hx:x=y
      ·subst hx
       rw [lookup_cons,beq_self_eq_true] at q;cases q;exact .inl ⟨yJ _,y9,⟨_,pushCells_keeps _ _ _ _ (zt _ rfl),rfl⟩⟩
      ·rw [lookup_cons,beq_eq_false_iff_ne.mpr hx] at q
       exact .inr q
theorem J2v {x:Str}:∀ (names:List (Str×NameKind)) (n:Nat) (acc:List (Str×Addr)),(x,NameKind.cell)∉names->(cellsFrom n names acc).lookup x=acc.lookup x
 | [],_,_,_=>rfl
 | (y,k)::r,n,acc,h=>by
   unfold cellsFrom;have hr:(x,NameKind.cell)∉r:=fun z=>h (y8 _ z);cases hk:k == NameKind.cell with
   | false=>rw [yH yK];exact J2v r n acc hr
   | true =>
     have ek:k=NameKind.cell:=by simpa using hk
     subst ek;rw [yI rfl,J2v r _ _ hr,lookup_cons,beq_eq_false_iff_ne.mpr (fun e:x=y=>h (by rw [e];exact y9))]
theorem cells_lo {x:Str}{lo c:Nat}:∀ (names:List (Str×NameKind)) (n:Nat) (acc:List (Str×Addr)),lo<=n->((x,NameKind.cell)∈names\/∀ d,acc.lookup x=some d->lo<=d)->(cellsFrom n names acc).lookup x=some c->lo<=c
 | [],_,_,_,h,e=>h.elim (fun z=>nomatch z) fun z=>z _ e
 | (y,k)::r,n,acc,hn,h,e=>by
   unfold cellsFrom at e;cases hk:k == NameKind.cell with
   | false =>
     rw [hk,yH yK] at e;refine cells_lo r n acc hn (h.imp (fun z=>?_) id) e;rcases zc.mp z with q | q
     ·cases q;simp at hk
     ·exact q
   | true =>
     rw [hk,yI rfl] at e;refine cells_lo r (n+1) _ (by omega) ?_ e;by_cases hx:x=y
     ·subst hx
      exact .inr fun d q=>by rw [lookup_cons,beq_self_eq_true] at q;cases q;exact hn
     ·refine h.imp (fun z=>?_) fun z d q=>z d (by rw [lookup_cons,beq_eq_false_iff_ne.mpr hx] at q;exact q)
      rcases zc.mp z with q | q
      ·cases q;exact absurd rfl hx
      ·exact q
theorem cells_inj {x y:Str}{c:Nat}:∀ (names:List (Str×NameKind)) (n:Nat) (acc:List (Str×Addr)),(∀ z d,acc.lookup z=some d->d<n)->(∀ z w d,acc.lookup z=some d->acc.lookup w=some d->z=w) ->
 (cellsFrom n names acc).lookup x=some c->(cellsFrom n names acc).lookup y=some c->x=y
 | [],_,_,_,h,e1,e2=>h _ _ _ e1 e2
 | (v,k)::r,n,acc,hn,h,e1,e2=>by
   unfold cellsFrom at e1 e2;cases hk:k == NameKind.cell with
   | false =>
     rw [hk,yH yK] at e1 e2;exact cells_inj r n acc hn h e1 e2
   | true =>
     rw [hk,yI rfl] at e1 e2;refine cells_inj r (n+1) ((v,n)::acc) (fun z d q=>?_) (fun z w d q1 q2=>?_) e1 e2
     ·rw [lookup_cons] at q
      split at q
      ·cases q;exact Nat.lt_succ_self _
      ·exact Nat.lt_succ_of_lt (hn _ _ q)
     ·rw [lookup_cons] at q1 q2
      split at q1<;>split at q2
      ·rename_i _ a _ b;rw [beq_iff_eq] at a b;rw [a,b]
      ·cases q1;exact absurd (hn _ _ q2) (Nat.lt_irrefl _)
      ·cases q2;exact absurd (hn _ _ q1) (Nat.lt_irrefl _)
      ·exact h _ _ _ q1 q2
theorem J4N {M:Model}{A:Around}{E:Value->Shared->Prop}{s:Shared}{scope:Scope}{globals:Addr}{cl:List (Str×Addr)}{qual:Str}{func:Option Addr}{code:Value}{outer:Env}{builtins:Addr}{Q:Env->Shared->Prop}
 (hQ:Q (newEnv scope s.heap.objs.size globals (cellsFrom (s.heap.objs.size+1) scope.names cl) qual func code (some outer) builtins) { s with heap:=pushCells (s.heap.push { cls:=.type "dict",data:=.dict #[] }) scope.names }) :
 wpAny M A (newFunctionEnv scope globals cl [] qual func code (some outer) builtins) Q E s:=by
 simp only [newFunctionEnv,Option.isSome_some,if_true];refine yF (wpAny_alloc ?_);refine yF (wpAny_layCells _ (fun name kind cells=>by cases hkc:kind == NameKind.cell<;>simp [hkc]) _ _ _ _ ?_);rw [show ({ s with heap:=s.heap.push { cls:=.type "dict",data:=.dict #[] } }:Shared).heap.objs.size=s.heap.objs.size+1 from Heap.size_push ..];rw [forIn_nil];exact yF (yG (yG hQ))
structure CompScC (sc osc:Scope)(N rest:List Str):Prop where
 kind:sc.kind=.function
 okind:osc.kind=.function
 cel:∀ x,(x,NameKind.cell)∈sc.names->sc.names.lookup x=some .cell
 loc:∀ y∈sc.names,y.2=.local->sc.names.lookup y.1=some .local
 free:∀ n,(n,NameKind.free)∈sc.names->osc.names.lookup n=some .cell\/osc.names.lookup n=some .free
 fre:∀ n,(n,NameKind.free)∈sc.names->sc.names.lookup n=some .free
 len:N.length=rest.length
 look:∀ (i:Nat) x,rest[i]?=some x->((Jl sc.names osc.names).lookup x=some .local\/(Jl sc.names osc.names).lookup x=some .cell\/(Jl sc.names osc.names).lookup x=some .free) ->
  N[i]?=some x/\(x,NameKind.free)∈sc.names/\(osc.names.lookup x=some .cell\/osc.names.lookup x=some .free)/\((Jl sc.names osc.names).lookup x=some .cell\/(Jl sc.names osc.names).lookup x=some .free)
def J8n (sc osc:Scope)(N rest:List Str):Bool :=
 (sc.kind == .function&&osc.kind == .function&&sc.names.all fun y=>sc.names.lookup y.1 == some y.2&&(y.2 != .free||osc.names.lookup y.1 == some .cell||osc.names.lookup y.1 == some .free))
 && N.length == rest.length&&(N.zip rest).all fun p=>match (Jl sc.names osc.names).lookup p.2 with
  | some .local=>false
  | some .cell=>p.1 == p.2&&(p.2,NameKind.free)∈sc.names&&(osc.names.lookup p.2 == some .cell||osc.names.lookup p.2 == some .free)
  | some .free=>p.1 == p.2&&(p.2,NameKind.free)∈sc.names&&(osc.names.lookup p.2 == some .cell||osc.names.lookup p.2 == some .free)
  | _=>true
theorem J7A {sc osc:Scope}{N rest:List Str}(h:J8n sc osc N rest=true):CompScC sc osc N rest:=by
 unfold J8n at h;simp only [Bool.and_eq_true,beq_iff_eq,all_eq_true] at h;obtain ⟨⟨⟨⟨hk,hok⟩,hy⟩,hl⟩,hz⟩:=h;refine ⟨hk,hok,fun x z=>(hy _ z).1,fun y z e=>by rw [(hy _ z).1,e],fun n z=>?_,fun n z=>(hy _ z).1,hl,fun i x e v=>?_⟩
 ·have:=(hy _ z).2;simpa using this
 ·have hi:i<rest.length:=(yV.mp e).1
  have hi':i<N.length:=by omega
  have hN:N[i]?=some N[i]:=yU hi';have hm:(N[i],x)∈N.zip rest:=by
   refine y4 (i:=i) ?_;rw [List.getElem?_zip_eq_some];exact ⟨hN,e⟩
  have q:=hz _ hm;dsimp only at q;rcases v with v | v | v
  ·rw [v] at q;simp at q
  ·rw [v] at q;simp only [Bool.and_eq_true,beq_iff_eq,Bool.or_eq_true,decide_eq_true_eq] at q
   obtain ⟨⟨q1,q2⟩,q3⟩:=q;exact ⟨by rw [hN,q1],q2,q3,.inl v⟩
  ·rw [v] at q;simp only [Bool.and_eq_true,beq_iff_eq,Bool.or_eq_true,decide_eq_true_eq] at q
   obtain ⟨⟨q1,q2⟩,q3⟩:=q;exact ⟨by rw [hN,q1],q2,q3,.inr v⟩
theorem JaI {names onames:List (Str×NameKind)}{x:Str}(h:(Jl names onames).lookup x=some .cell\/(Jl names onames).lookup x=some .free):(x,NameKind.free)∈names\/(x,NameKind.cell)∈names:=by
 have hm:(x,NameKind.cell)∈Jl names onames\/(x,NameKind.free)∈Jl names onames:=h.imp PySem.mem_of_lookup PySem.mem_of_lookup;rcases hm with hm | hm
 ·obtain ⟨⟨n,k⟩,hn,e⟩:=zl.mp hm
  dsimp only at e
  split at e
  ·rename_i hh;cases e;simp at hh;obtain ⟨rfl,_⟩:=hh;exact .inl hn
  ·cases e;exact .inr hn
 ·obtain ⟨⟨n,k⟩,hn,e⟩:=zl.mp hm
  dsimp only at e
  split at e
  ·cases e
  ·cases e;exact .inl hn
def JcY (scope:Scope):Str->Bool:=fun x=>scope.names.lookup x == some .cell
def JG (X:Cx)(scope:Scope)(N':List Str)(cl:List (Str×Addr))(s2:Shared)(H2:Hp)(C:Addr)(fp:List Addr):Cx :=
 { X with N:=N',s₀:=s2,H₀:=H2,env:=compEnvC scope (cellsFrom (C+1:Nat) scope.names cl) C X.env,outer:=X.stack,stack:=X.stack,ex:=fp,fn:=JcY scope,pn:=[],xe:=fun _ _=>False }
section
variable {X:Cx}{pins:List (Addr×Obj)}{σ:St}{H2:Hp}{s2:Shared}{scope:Scope}{own rest:List Str}{cl:List (Str×Addr)}{fp:List Addr}{C:Nat}
theorem JcZ (I:Inv X pins σ H2 s2)(h1:∀ n c,cl.lookup n=some c->X.env.cells.lookup n=some c){x:Str}{c:Addr}(e:cl.lookup x=some c):c<s2.heap.objs.size:=by
 obtain ⟨v,q⟩:=I.cell x c (h1 x c e);exact q.lt
theorem J5w (I:Inv X pins σ H2 s2){x:Str}{c:Addr}(e:(cellsFrom (C+1) scope.names cl).lookup x=some c):C+1<=c\/cl.lookup x=some c:=by
 by_cases hx:(x,NameKind.cell)∈scope.names
 ·exact .inl (cells_lo (lo:=C+1) scope.names (C+1) cl (yJ _) (.inl hx) e)
 ·rw [J2v _ _ _ hx] at e;exact .inr e
theorem J7B (I:Inv X pins σ H2 s2)(S:CompScC scope X.env.scope X.N rest)(h1:∀ n c,cl.lookup n=some c->X.env.cells.lookup n=some c)(h2:∀ n,(n,NameKind.free)∈scope.names->∃ c,cl.lookup n=some c)
 (hC:s2.heap.objs.size<=C) (hf:∀ b∈fp,J1B X pins H2 b) (ho:∀ b∈fp,∃ o,s2.heap.get? b=some o):(JG X scope (own++rest) cl s2 H2 C fp).Ok where
 mod:=I.ok.mod
 kind:=S.kind
 glob:=I.ok.glob
 blt:=I.ok.blt
 above:=hC
 inj:=fun x y c e1 e2=>cells_inj scope.names (C+1) cl (fun z d e=>Nat.lt_succ_of_lt (yP (JcZ I h1 e) hC)) (fun z w d q1 q2=>I.ok.inj z w d (h1 z d q1) (h1 w d q2)) e1 e2
 has := fun x hx=>by
  have e:(JG X scope (own++rest) cl s2 H2 C fp).env.kindOf x=(Jl scope.names X.env.scope.names).lookup x:=congrArg (List.lookup x) (J02 (sc:=scope) I.ok.kind);rw [e] at hx;refine Option.isSome_iff_exists.mp (PySem.W.cellsFrom_some scope.names (C+1) cl ?_);rcases JaI hx with z | z
  ·obtain ⟨c,q⟩:=h2 x z
   exact .inr (by rw [q];rfl)
  ·exact .inl (S.cel x z)
 cab := fun x c hx e=>by
  have hx':scope.names.lookup x=some .cell:=by
   have z:(scope.names.lookup x == some .cell)=true:=hx;simpa using z
  have:=cells_lo (lo:=C+1) scope.names (C+1) cl (yJ _) (.inl (PySem.mem_of_lookup hx')) e;exact yR hC (Nat.le_of_succ_le this)
 hd:=I.ok.hd
 frames:=I.ok.frames
 stk:=.inl rfl
 exf:=fun b hb=>by
  obtain ⟨o,e⟩:=ho b hb;have lt:=zu e;refine ⟨yO (yP lt hC),fun x c q=>?_⟩;rcases J5w I q with z | z
  ·exact Nat.ne_of_gt (yP lt (yR hC (Nat.le_of_succ_le z)))
  ·exact (hf b hb).2.2.2.2.1 x c (h1 x c z)
 bs:=I.bs
 bsz:=yR I.ok.bsz I.sz
 noex:=fun b o e hb=>by
  rcases (hf b hb).2.2.2.1 with z | z
  ·exact I.ok.noex b o e z
  ·exact absurd (yP (zu e) (yR I.ok.bsz z)) (Nat.lt_irrefl _)
 exfs:=fun b hb z=>by
  rcases zc.mp (I.stkSub b z) with q | q
  ·exact (hf b hb).2.1 q
  ·exact (hf b hb).2.2.1 q
 funs:=I.stack
 frf:=I.stkFree
theorem comp_startC {h1:Heap}{t1:Nat}(I:Inv X pins σ H2 s2)(S:CompScC scope X.env.scope X.N rest)(hc1:∀ n c,cl.lookup n=some c->X.env.cells.lookup n=some c)(hc2:∀ n,(n,NameKind.free)∈scope.names->∃ c,cl.lookup n=some c)
 (hC:s2.heap.objs.size<=C) (hf:∀ b∈fp,J1B X pins H2 b) (ho:∀ b∈fp,∃ o,s2.heap.get? b=some o)
 (old:∀ b o,s2.heap.get? b=some o->h1.get? b=some o) (ns:h1.Ns C fun _=>none) (nc:∀ x c,(cellsFrom (C+1) scope.names cl).lookup x=some c->h1.IsCell c none\/cl.lookup x=some c) :
 Inv (JG X scope (own++rest) cl s2 H2 C fp) [] (List.replicate own.length none++σ) H2 { s2 with heap:=h1,toks:=t1 }:=by
 obtain ⟨m,hn,hl⟩:=id I.loc;have hv:∀ x,Vis (JG X scope (own++rest) cl s2 H2 C fp).env.scope x->((Jl scope.names X.env.scope.names).lookup x=some .local\/(Jl scope.names X.env.scope.names).lookup x=some .cell\/(Jl scope.names X.env.scope.names).lookup x=some .free):=fun x z=>by
  have e:(JG X scope (own++rest) cl s2 H2 C fp).env.scope.names=Jl scope.names X.env.scope.names:=J02 (sc:=scope) I.ok.kind;unfold Vis at z;rw [e] at z;exact z
 refine ⟨J7B I S hc1 hc2 hC hf ho,rfl,I.bare,Un.kept old,⟨_,ns,fun i x v e1 e2 e3=>?_⟩,fun x c e=>?_,I.hok.fresh hC,fun x c e=>?_,fun p hp=>absurd (show p∈([]:List (Addr×Obj)) from hp) (by simp),I.hok.kept old,?_⟩
 ·have e1':(own++rest)[i]?=some x:=e1
  by_cases hi:i<own.length
  ·rw [zn (by simpa using hi),List.getElem?_replicate] at e2
   split at e2<;>cases e2
  ·have hi':own.length<=i:=Nat.le_of_not_lt hi
   rw [zm (by simpa using hi'),zq] at e2;rw [zm hi'] at e1';obtain ⟨q1,q2,q3,q4⟩:=S.look _ x e1' (hv x e3);obtain ⟨u,r,l⟩:=hl (i - own.length) x v q1 e2 (q3.elim (fun z=>.inr (.inl z)) fun z=>.inr (.inr z));refine ⟨u,r,.inr ⟨?_,?_⟩⟩
   ·have e:(JG X scope (own++rest) cl s2 H2 C fp).env.kindOf x=(Jl scope.names X.env.scope.names).lookup x:=congrArg (List.lookup x) (J02 (sc:=scope) I.ok.kind)
    rw [e];exact q4
   ·rcases l with ⟨k,_⟩ | ⟨_,c,e,z⟩
    ·have k':X.env.scope.names.lookup x=some .local:=k
     rcases q3 with q3 | q3<;>(rw [q3] at k';cases k')
    ·obtain ⟨c',e'⟩:=hc2 x q2
     have e2:=hc1 x c' e';rw [e] at e2;cases e2;obtain ⟨o,q,d⟩:=z;refine ⟨c,?_,o,old c o q,d⟩;show (cellsFrom (C+1) scope.names cl).lookup x=some c;rw [J2v _ _ _ fun z=>by have:=S.cel x z;rw [S.fre x q2] at this;cases this];exact e'
 ·rcases nc x c e with z | z
  ·exact ⟨_,z⟩
  ·obtain ⟨v,o,q,d⟩:=I.cell x c (hc1 x c z)
   exact ⟨v,o,old c o q,d⟩
 ·rcases J5w I e with z | z
  ·exact I.hok.fresh (yR hC (Nat.le_of_succ_le z))
  ·exact I.freeC x c (hc1 x c z)
 ·show _=(own++rest).length
  have:=I.len;have:=S.len;simp only [y6,zq];omega
theorem J8S {H':Hp}{s':Shared}{σ':St}{D:Addr}{ys:List V}{its:List Value}{n:Nat}{pins':List (Addr×Obj)}(I:Inv X pins σ H2 s2)(J:Inv (JG X scope (own++rest) cl s2 H2 C fp) pins' σ' H' s')(hf:∀ b∈fp,J1B X pins H2 b)
 (hD:s2.heap.objs.size<=D) (hDn:H' D=none) (hDo:s'.heap.get? D=some { cls:=.type "list",data:=.seq its.toArray n }) (r:Vals ys its) (hz:ys.length<=sizeLine) :
 Inv X pins σ (upd H' D (.lst ys)) s':=by
 have u:Un (frs X.stack) fp H2 H' s2.heap s'.heap:=J.base;have nD:∀ b o,s2.heap.get? b=some o->b≠D:=fun b o e=>yO (yP (zu e) hD);refine I.call' (ch:=fp) J.os ⟨u.keep,u.slot,fun b o e n hx=>?_,u.there,fun b xs e=>?_,fun b o v e=>?_,fun b ps e=>?_⟩ (fun b o e=>?_) J.bare fun b hb=>?_
 ·rw [Jf (nD b o e)];exact u.free b o e n hx
 ·rw [Jf (Ji (u.tups b xs e) hDn)];exact u.tups b xs e
 ·rw [Jf (Ji (u.frzs b o v e) hDn)];exact u.frzs b o v e
 ·obtain ⟨more,q⟩:=u.tbls b ps e
  exact ⟨more,by rw [Jf (Ji q hDn)];exact q⟩
 ·by_cases hb:b=D
  ·subst hb;rw [Ja] at e;cases e;exact ⟨hz,its,n,r,hDo⟩
  ·rw [Jf hb] at e
   exact (J.hok b o e).stay (fun c v _ q=>q) (fun c q=>by rw [Jf (Ji q hDn)];exact q) fun c xs q=>by rw [Jf (Ji q hDn)];exact q
 ·obtain ⟨_,f1,_,f3,f4,f5⟩:=hf b hb
  exact ⟨f3,f1,f4,f5⟩
end
section
variable {X:Cx}{pins:List (Addr×Obj)}{σ:St}{H2:Hp}{s2:Shared}{scope:Scope}{own rest:List Str}{cl:List (Str×Addr)}{fp:List Addr}{E:Value->Shared->Prop}
theorem comp_runC {elt tg iter:Expr}{ifs:List Expr}{pos:Pos}{J:It}{it:Addr}{tn:Nat->Heap->Prop}{g:TG}{tt:TT}{te:TE}{fin:List V->Hp->Prop}{RR:Value->Addr->Result->Shared->Prop}{D:Nat}(hD:s2.heap.objs.size=D)(hcalm:X.calm=true)
 (I:Inv X pins σ H2 s2) (S:CompScC scope X.env.scope X.N rest) (hc1:∀ n c,cl.lookup n=some c->X.env.cells.lookup n=some c) (hc2:∀ n,(n,NameKind.free)∈scope.names->∃ c,cl.lookup n=some c)
 (T:Turn X.prog X.w X.K tg J fp it tn) (st:tn 0 s2.heap) (hf:∀ b∈fp,J1B X pins H2 b)
 (hg:PG (JG X scope (own++rest) cl s2 H2 (D+1:Nat) fp) tg g) (ht:PTs (JG X scope (own++rest) cl s2 H2 (D+1:Nat) fp) ifs tt)
 (he:PE (JG X scope (own++rest) cl s2 H2 (D+1:Nat) fp) elt te)
 (hw:J4M J g tt te fin (List.replicate own.length none++σ) H2)
 (hR:∀ (s':Shared) (H':Hp) (ys:List V),Inv X pins σ (upd H' D (.lst ys)) s'->(∃ m,s'.heap.Ns (D+1:Nat) m)->H' D=none->H' (D+1:Nat)=none->fin ys H'->RR (.ref D) (D+1:Nat) (.ok .next) s') :
 wpAny (model X.prog X.w) X.A (newList []) (fun acc s3=>wpAny (model X.prog X.w) X.A (newFunctionEnv scope X.env.globals cl [] X.env.qual none .none (some X.env)) (fun cenv s4 =>
  codeAny (model X.prog X.w) X.A (.compStart (.ListComp elt [⟨tg,iter,ifs,0⟩] scope pos) 0 (.ref it) acc { cenv with scope:=relabel scope X.env }) (RR acc cenv.locals) s4) E s3) E s2:=by
 refine wpAny_newObj_type (J4N ?_);dsimp only;generalize hHp:s2.heap.push { cls:=.type "list",dict:=none,data:=.seq ([]:List Value).toArray }=Hp2;have hC:Hp2.objs.size=s2.heap.objs.size+1:=by rw [<- hHp,Heap.size_push]
 rw [hD] at hC;have hC2:(Hp2.push { cls:=.type "dict",data:=.dict #[] }).objs.size=D+1+1:=by rw [Heap.size_push,hC]
 have hns:(pushCells (Hp2.push { cls:=.type "dict",data:=.dict #[] }) scope.names).Ns (D+1:Nat) fun _=>none:=by
  have:=(Heap.Ns.new Hp2 (.type "dict")).keeps (pushCells_keeps scope.names _);rw [hC] at this;exact this
 have nc:∀ x c,(cellsFrom (D+1+1) scope.names cl).lookup x=some c->(pushCells (Hp2.push { cls:=.type "dict",data:=.dict #[] }) scope.names).IsCell c none\/cl.lookup x=some c:=fun x c e=>by
  rw [<- hC2] at e;rcases cells_split _ _ _ _ _ e with ⟨_,_,z⟩ | z
  ·exact .inl z
  ·exact .inr z
 rw [hC];rw [hD];have nDC:D≠D+1:=yO (Nat.lt_succ_self _);have below:∀ b o,s2.heap.get? b=some o->b<D:=fun b o e=>by rw [<- hD];exact zu e
 have old:∀ b o,s2.heap.get? b=some o->(pushCells (Hp2.push { cls:=.type "dict",data:=.dict #[] }) scope.names).get? b=some o:=fun b o e =>
  pushCells_keeps _ _ _ _ (zr _ (hHp ▸ zr _ e))
 have hDo:(pushCells (Hp2.push { cls:=.type "dict",data:=.dict #[] }) scope.names).get? D=some { cls:=.type "list",data:=.seq ([]:List Value).toArray 0 } :=
  pushCells_keeps _ _ _ _ (zr _ (by rw [<- hHp,<- hD];exact zt _ rfl))
 generalize pushCells (Hp2.push { cls:=.type "dict",data:=.dict #[] }) scope.names=h1 at hns nc old hDo ⊢;have hfo:∀ b∈fp,∃ o,s2.heap.get? b=some o:=fun b hb=>let ⟨o,e,_⟩:=T.obj 0 _ st b hb;⟨o,e⟩;have st1:tn 0 h1:=T.keep _ _ _ st fun b hb o e=>old b o e;have J0:Inv (JG X scope (own++rest) cl s2 H2 (D+1:Nat) fp) [] (List.replicate own.length none++σ) H2 { s2 with heap:=h1,toks:=s2.toks } :=
  comp_startC I S hc1 hc2 (by omega) hf hfo old hns nc
 have nfs:D∉(JG X scope (own++rest) cl s2 H2 (D+1:Nat) fp).fs:=fun z=>by
  have z':D∈frs X.stack:=z;rcases zc.mp (I.stkSub D z') with q | q
  ·exact Nat.lt_irrefl D (by have h:=I.lt;rw [<- q,hD] at h;exact h)
  ·exact I.nofs (Nat.le_of_eq hD) q
 have ncl:∀ x c,(JG X scope (own++rest) cl s2 H2 (D+1:Nat) fp).env.cells.lookup x=some c->c≠D:=fun x c e z=>by
  rcases J5w I e with q | q
  ·have hq:D+1+1<=c:=q
   exact Nat.ne_of_gt (yP (Nat.lt_succ_of_lt (Nat.lt_succ_self D)) hq) z
  ·obtain ⟨v,o,q,d⟩:=I.cell x c (hc1 x c q)
   exact yO (below c o q) z
 have loop:∀ s3:Shared,s3={ s2 with heap:=h1,toks:=s2.toks } ->
  codeAny (model X.prog X.w) X.A (.compLoop (.ListComp elt [⟨tg,iter,ifs,0⟩] scope pos) 0 (.ref it) (.ref D) (compEnvC scope (cellsFrom (D+1+1) scope.names cl) (D+1) X.env)) (RR (.ref D) (D+1)) s3:=by
  rintro s3 rfl;obtain ⟨W,⟨m0,w0⟩,turn⟩:=hw;refine J5j (fun m s'=>∃ (i:Nat) (ys:List V) (its:List Value) (n:Nat) (σ':St) (H':Hp),Inv (JG X scope (own++rest) cl s2 H2 (D+1:Nat) fp) [] σ' H' s'/\tn i s'.heap/\(∀ b∈fp,H' b=none) /\
   s'.heap.get? D=some { cls:=.type "list",data:=.seq its.toArray n }/\H' D=none/\Vals ys its/\ys.length<=sizeLine/\W i m ys σ' H') ?_ m0
   ⟨0,[],[],0,_,H2,J0,st1,fun b hb=>(hf b hb).1,hDo,by rw [<- hD];exact I.fresh,.nil,by simp,w0⟩
  rintro m s3 ⟨i,ys,its,n,σ3,H3,J3,st3,fr3,ho3,hn3,r3,z3,w3⟩;have pin:∀ {σ':St} {H':Hp} {s':Shared},Inv (JG X scope (own++rest) cl s2 H2 (D+1:Nat) fp) [] σ' H' s'->s'.heap.get? D=some { cls:=.type "list",data:=.seq its.toArray n }->H' D=none ->
   Inv (JG X scope (own++rest) cl s2 H2 (D+1:Nat) fp) [(D,{ cls:=.type "list",data:=.seq its.toArray n })] σ' H' s':=fun {σ' H' s'} K1 K2 K3 =>
   K1.pins_of fun p hp=>by
    have e:p=(D,{ cls:=.type "list",data:=.seq its.toArray n }):=by simpa using hp
    subst e;exact ⟨K2,K3,nDC,nfs,fun v z=>nomatch z⟩
  have fpk:∀ {H':Hp},(∀ b∈fp,H' b=none)->∀ b∈fp,J1B (JG X scope (own++rest) cl s2 H2 (D+1:Nat) fp) [(D,{ cls:=.type "list",data:=.seq its.toArray n })] H' b:=fun {H'} fr b hb=>by
   obtain ⟨o,e⟩:=hfo b hb;have lt:=below b o e;refine ⟨fr b hb,yO (Nat.lt_succ_of_lt lt),?_,.inl hb,fun x c q=>?_,fun p hp=>?_⟩
   ·intro z
    have z':b∈frs X.stack:=z;rcases zc.mp (I.stkSub b z') with q | q
    ·exact (hf b hb).2.1 q
    ·exact (hf b hb).2.2.1 q
   ·rcases J5w I q with z | z
    ·have hz:D+1+1<=c:=z
     exact Nat.ne_of_gt (yP (Nat.lt_succ_of_lt (Nat.lt_succ_of_lt lt)) hz)
    ·exact (hf b hb).2.2.2.2.1 x c (hc1 x c z)
   ·have e:p=(D,{ cls:=.type "list",data:=.seq its.toArray n }):=by
     have hp':p∈[(D,({ cls:=.type "list",data:=.seq its.toArray n }:Obj))]:=hp;simpa using hp'
    subst e;exact Nat.ne_of_gt lt
  have J3p:=pin J3 ho3 hn3;rcases turn i m ys σ3 H3 w3 with ⟨stop,q⟩ | ⟨go,hlt,N,hN,step⟩
  ·refine thn (T.done (JG X scope (own++rest) cl s2 H2 (D+1:Nat) fp) rfl rfl rfl hcalm i _ s3 σ3 H3 _ J3p (fpk fr3) st3 stop) fun r s4 ⟨hr,J4⟩=>?_
   subst hr;have ho4:=J4.pin _ (zi _ y9);refine hR s4 H3 ys (J8S I J4 hf (by omega) hn3 ho4.1 r3 z3) ?_ hn3 J4.free q;obtain ⟨mm,hmm,_⟩:=J4.loc;exact ⟨mm,hmm⟩
  ·refine thn (T.item (JG X scope (own++rest) cl s2 H2 (D+1:Nat) fp) rfl rfl rfl hcalm i _ s3 σ3 H3 _ J3p (fpk fr3) st3 go) fun r s4 ⟨u,hr,h4⟩=>?_
   subst hr;refine thn h4 fun _ s5 ⟨x,H5,J5,r5,y5,st5,fr5⟩=>?_;have J5':=J5.pinned (fpk fr5) (T.obj _ _ st5);refine thn (hg _ s5 σ3 H5 x u _ J5' r5 (step x H5 y5)) fun _ s6 ⟨σ6,H6,J6,q6⟩=>?_;refine thn (ht _ s6 σ6 H6 _ J6 q6) fun b s7 ⟨H7,J7,q7⟩=>?_;have stay:∀ {σ':St} {H':Hp} {s':Shared},Inv (JG X scope (own++rest) cl s2 H2 (D+1:Nat) fp) ([(D,{ cls:=.type "list",data:=.seq its.toArray n })]++J3h fp s5.heap) σ' H' s' ->
    Inv (JG X scope (own++rest) cl s2 H2 (D+1:Nat) fp) [] σ' H' s'/\tn (i+1) s'.heap/\(∀ b∈fp,H' b=none)/\s'.heap.get? D=some { cls:=.type "list",data:=.seq its.toArray n }/\H' D=none:=fun {σ' H' s'} K1=>by
    refine ⟨K1.pins_of fun p hp=>absurd hp (by simp),T.keep _ _ _ st5 fun b hb o e=>(K1.pin (b,o) (zi _ (zi _ (J0Y hb e)))).1,fun b hb=>?_,?_,?_⟩
    ·obtain ⟨o,e,d⟩:=T.obj _ _ st5 b hb
     exact (K1.pin (b,o) (zi _ (zi _ (J0Y hb e)))).2.1
    ·exact (K1.pin (D,_) (zi _ (zj _ y9))).1
    ·exact (K1.pin (D,_) (zi _ (zj _ y9))).2.1
   cases b with
   | false =>
     rw [yH yK] at q7 ⊢;obtain ⟨k1,k2,k3,k4,k5⟩:=stay J7;obtain ⟨m',hm,w'⟩:=hN _ _ _ q7;exact ⟨m',hm,i+1,ys,its,n,σ6,H7,k1,k2,k3,k4,k5,r3,z3,w'⟩
   | true =>
     rw [yI rfl] at q7 ⊢;refine thn (he _ s7 σ6 H7 _ J7 q7) fun xv s8 ⟨y,H8,J8,r8,q8⟩=>?_;obtain ⟨k1,k2,k3,k4,k5⟩:=stay J8;refine call_meets F.slot_list_append ⟨_,k4,rfl⟩ F.entry_list_append (F.args_list_append_2 _ _) (PySem.list_append D its.toArray n xv (by rw [yY,<- r3.length];omega)) ⟨k4,?_⟩;obtain ⟨m',hm,w'⟩:=hN _ _ _ q8;have ho9:=PySem.IsL.update k4 (fun a=>a.push xv);have ek:∀ b o,b≠D->s8.heap.get? b=some o->(s8.heap.update D (Obj.mapSeq (fun a=>a.push xv))).get? b=some o:=fun b o hb e=>(zw s8.heap (Obj.mapSeq _) (Ne.symm hb)).trans e;refine ⟨m',hm,i+1,ys++[y],its++[xv],(if ((its.toArray.push xv).size == its.toArray.size)=true then n else n+1),σ6,H8,k1.turned (it:=D) (t':=s8.toks) ek k5 nDC (.inr (show s2.heap.objs.size<=D by omega)) ncl (fun p hp=>absurd (show p∈([]:List (Addr×Obj)) from hp) (by simp)),?_,k3,?_,k5,r3.append (.cons r8 .nil),?_,w'⟩
     ·refine T.keep _ _ _ k2 fun b hb o e=>ek b o ?_ e
      obtain ⟨o',e'⟩:=hfo b hb;exact yO (below b o' e')
     ·have e2:its.toArray.push xv=(its++[xv]).toArray:=by simp
      rw [<- e2];exact ho9
     ·simp only [y6,length_cons,length_nil];omega
 exact codeAny_compStart_list (loop _ rfl) (T.self X.A 0 _ _ _ st1 (loop _ rfl))
end
section
variable {X:Cx}{elt tg iter:Expr}{ifs:List Expr}{scope:Scope}{pos:Pos}{wi:TI}{g:TG}{tt:TT}{te:TE}
theorem Inv.closedC {pins:List (Addr×Obj)}{σ:St}{H:Hp}{s:Shared}{N rest:List Str}(I:Inv X pins σ H s)(S:CompScC scope X.env.scope N rest) :
 ∃ cl,closureFor scope X.env=pure cl/\(∀ n c,cl.lookup n=some c->X.env.cells.lookup n=some c)/\(∀ n,(n,NameKind.free)∈scope.names->∃ c,cl.lookup n=some c) :=
 J4I fun n z=>I.ok.has n (S.free n z)
theorem J9Q (own rest:List Str)(hcalm:X.calm=true)(S:CompScC scope X.env.scope X.N rest)(hi:PI X tg iter wi)
 (hg:∀ cl s2 H2 C fp,PG (JG X scope (own++rest) cl s2 H2 C fp) tg g) (ht:∀ cl s2 H2 C fp,PTs (JG X scope (own++rest) cl s2 H2 C fp) ifs tt) (he:∀ cl s2 H2 C fp,PE (JG X scope (own++rest) cl s2 H2 C fp) elt te)
 (hs:∀ x,foldedSetIterable iter X.env x=pure x:=by intro _;rfl):PE X (.ListComp elt [⟨tg,iter,ifs,0⟩] scope pos) (J6c own.length wi g tt te):=by
 intro pins s σ H Q I h;obtain ⟨cl,hcl,hc1,hc2⟩:=I.closedC S;rw [eval_ListComp];refine wpAny_comprehension_free (use:=none) rfl hs hcl S.kind S.loc (thn (hi pins s σ H _ I h) fun v s1 h1=>thn h1 fun itv s2 h2=>?_);obtain ⟨it,fp,tn,J,H2,e,I2,T,st,hf,hw⟩:=h2;subst e;refine comp_runC (RR:=fun acc C=>compPost (model X.prog X.w) X.A X.xe none (EP X pins σ Q) acc C) (D:=s2.heap.objs.size) rfl hcalm I2 S hc1 hc2 T st hf (hg _ _ _ _ _) (ht _ _ _ _ _) (he _ _ _ _ _) hw ?_;intro s' H' ys J' ⟨m,hm⟩ hD hC q;refine ⟨m,hm,fun h' sb=>⟨.ref s2.heap.objs.size,_,I2.letgo (pins':=pins) (b:=(s2.heap.objs.size+1:Nat)) J' (Nat.le_succ _) ?_ sb,rfl,q _ hD⟩⟩;rw [Jf (Nat.ne_of_gt (Nat.lt_succ_self _))];exact hC
end
theorem Ja4 {X0:Cx}{sc0 osc sc:Scope}{N' N rest:List Str}{cl:List (Str×Addr)}{s2:Shared}{H2:Hp}{C:Addr}{fp:List Addr}(h0:X0.env.scope=osc)(hk:osc.kind=.function)
 (S:CompSc sc { sc0 with names:=Jl sc0.names osc.names } N rest):CompSc sc (JG X0 sc0 N' cl s2 H2 C fp).env.scope N rest:=by
 have e:(JG X0 sc0 N' cl s2 H2 C fp).env.scope.names=Jl sc0.names osc.names:=by
  have:=J02 (sc:=sc0) (env:=X0.env) (by rw [h0];exact hk);rw [h0] at this;exact this
 exact ⟨S.kind,S.okind,S.cell,S.loc,fun n z=>by rw [e];exact S.free n z,S.len,fun i x h1 h2=>by rw [e] at h2 ⊢;exact S.look i x h1 h2⟩
theorem Ja3 {X0:Cx}{sc0 osc sc:Scope}{N' N rest:List Str}{cl:List (Str×Addr)}{s2:Shared}{H2:Hp}{C:Addr}{fp:List Addr}(h0:X0.env.scope=osc)(hk:osc.kind=.function)
 (S:CompSc sc { sc0 with names:=Jl sc0.names osc.names } N rest):CompSc sc (JP X0 sc0 N' cl s2 H2 C fp).env.scope N rest:=by
 have e:(JP X0 sc0 N' cl s2 H2 C fp).env.scope.names=Jl sc0.names osc.names:=by
  have:=J02 (sc:=sc0) (env:=X0.env) (by rw [h0];exact hk);rw [h0] at this;exact this
 exact ⟨S.kind,S.okind,S.cell,S.loc,fun n z=>by rw [e];exact S.free n z,S.len,fun i x h1 h2=>by rw [e] at h2 ⊢;exact S.look i x h1 h2⟩
section
variable {X:Cx}
def Jbl (K:Frag):List V->Hp->VK->Prop:=fun xs H Q=>∃ l,∃ zs:List Int,xs=[.ref l]/\SqL K H l (zs.map V.int)/\zs≠[]/\∀ m∈zs,(∀ z∈zs,m<=z)->Q (.int m) H
theorem J8V (hc:X.calm=true):J0i X (.builtin "min") (Jbl X.K):=by
 intro pins s σ H xs us Q I r h;obtain ⟨l,zs,rfl,hq,hne,q⟩:=h;obtain ⟨lv,rfl,rl⟩:=J1C r;cases (show lv=Value.ref l from rl);obtain ⟨its,r',pl,hz⟩:=I.list hq;have hl:=r'.length;rw [yW] at hl;have hpos:0<zs.length:=length_pos_iff.mpr hne;obtain ⟨ol,hol,hcl⟩:=id pl.isList;have ll:l<s.heap.objs.size:=zu hol;refine call_min_walk (wpAny_pyIter_list pl.isList ⟨s.heap.objs.size,_,_,_,_,_,_,rfl,Walks.list (by simp [I.ok.hd hc]) s.heap.objs.size l (yO ll) its.toArray,⟨⟨_,zt _ rfl,rfl,rfl⟩,pl.isList.push _⟩,?_,by rw [yY];omega,CmpOf.ints_lt (fun i=>zs.getD i 0) (fun i v hv=>(J5S r' hv).2),fun v h' tk hv hk=>?_⟩)
 ·intro b hb
  rw [Heap.size_push];simp only [zc,not_mem_nil,or_false] at hb;rcases hb with rfl | rfl
  ·exact Nat.lt_succ_self _
  ·exact Nat.lt_succ_of_lt ll
 ·obtain ⟨h1,h2⟩:=argBest_lt (fun i=>zs.getD i 0) (its.toArray.size - 1)
  obtain ⟨t,rfl⟩:=(J5S r' hv).2;rw [yY,<- hl] at h1 h2 ⊢;generalize argBest (fun i j=>decide (zs.getD i 0<zs.getD j 0)) (zs.length - 1)=k at *;have hk2:k<zs.length:=by omega
  have ek:zs.getD k 0=zs[k]:=J5X (yU hk2);refine ⟨.int (zs.getD k 0),H,I.kept (t':=tk) fun b o hb=>?_,⟨_,rfl⟩,q _ (by rw [ek];exact getElem_mem hk2) fun z hz=>?_⟩
  ·refine hk b o ?_ (zr _ hb)
   simp only [zc,not_mem_nil,or_false];exact yO (zu hb)
  ·obtain ⟨j,hj⟩:=zk.mp hz
   have hjl:=(yV.mp hj).1;have:=h2 j (by omega);rw [J5X hj] at this;exact this
theorem Jc6 {K:Frag}(e:X.K=K)(hc:X.calm=true):J0i X (.builtin "min") (Jbl K):=by subst e;exact J8V hc
end
def Bnd (as:List Arc)(fl:List Int):Prop:=All2 (fun (A:Arc) (y:Int)=>A.l<=y/\y<=A.u) as fl
def exF:List Arc->List Int->Int->Int
 | A::as,y::fl,v=>(if A.b=v then y else 0) - (if A.a=v then y else 0)+exF as fl v
 | _,_,_=>0
theorem J8h:∀ (as:List Arc) (fl:List Int) (pl:Nat) (A:Arc) (y z v:Int),as[pl]?=some A->fl[pl]?=some y->exF as (fl.set pl z) v=exF as fl v+(if A.b=v then z - y else 0) - (if A.a=v then z - y else 0)
 | [],fl,pl,A,y,z,v,h,_=>by simp at h
 | _::_,[],pl,A,y,z,v,_,h=>by simp at h
 | B::as,x::fl,0,A,y,z,v,h1,h2=>by
   simp at h1 h2;subst h1 h2;simp only [set_cons_zero,exF]
   split<;>split<;>omega
 | B::as,x::fl,pl+1,A,y,z,v,h1,h2=>by
   simp only [set_cons_succ,exF];rw [J8h as fl pl A y z v (by simpa using h1) (by simpa using h2)];omega
def J7G (as:List Arc)(start:Nat):List (Nat×Int)->Nat->Prop
 | [],v=>v=start
 | (pl,sg)::r,v=>∃ n,StepOk as n pl v sg/\J7G as start r n
structure WayOk (as:List Arc)(fl:List Int)(start goal:Nat)(tks:List (Nat×Int)):Prop where
 back:tks≠[]->J7G as start tks goal
 room:∀ s∈tks,0<J0U as fl s.1 s.2
 sgn:∀ s∈tks,s.2=1\/s.2=-1
 lt:∀ s∈tks,s.1<as.length
 nd:(tks.map (·.1)).Nodup
 none_:tks=[]->start≠goal->¬ Reach (J5t as fl) start goal
theorem J6E {es:List Ent}(nd:(Jr es).Nodup){i j:Nat}{e e':Ent}(hi:es[i]?=some e)(hj:es[j]?=some e')(h:e.1=e'.1):i=j:=by
 have h1:(Jr es)[i]?=some e.1:=by unfold Jr;rw [ze,hi];rfl
 have h2:(Jr es)[j]?=some e.1:=by unfold Jr;rw [ze,hj,h];rfl
 exact (List.getElem?_inj (yV.mp h1).1 nd).mp (h1.trans h2.symm)
theorem J4w {es:List Ent}{i n:Nat}(h:n∈Jr (es.take i)):∃ j e,j<i/\es[j]?=some e/\e.1=n:=by
 unfold Jr at h;obtain ⟨e,hm,rfl⟩:=zl.mp h;obtain ⟨j,hj⟩:=zk.mp hm;have hji:j<i:=by
  have:=(yV.mp hj).1;rw [y7] at this;omega
 rw [List.getElem?_take_of_lt hji] at hj;exact ⟨j,e,hji,hj,rfl⟩
theorem CInv.places {as:List Arc}{fl:List Int}{m s:Nat}{es:List Ent}(h:CInv as fl m s es){i j k k' n n' pl:Nat}{sg sg':Int}(hi:es[i]?=some (k,some (n,pl,sg)))(hj:es[j]?=some (k',some (n',pl,sg'))):¬ j<i:=by
 intro lt;obtain ⟨hn,⟨A,hA,hc⟩,_⟩:=h.tree i k n pl sg hi;obtain ⟨hn',⟨A',hA',hc'⟩,_⟩:=h.tree j k' n' pl sg' hj;rw [hA] at hA';cases hA';have hne:k≠k':=fun e=>by
  have:=J6E h.nd hi hj e;omega
 have hk:k=n':=by
  rcases hc with ⟨_,a,b⟩ | ⟨_,a,b⟩<;>rcases hc' with ⟨_,a',b'⟩ | ⟨_,a',b'⟩<;>omega
 obtain ⟨j2,e,l2,he,e1⟩:=J4w hn';have:=J6E h.nd hi he (by rw [e1];exact hk);omega
theorem J68 {H:Hp}:∀ {kvs:List (Key×V)} {es:List Ent} {i k:Nat} {o:Option (Nat×Nat×Int)},EntsV H kvs es->(Jr es).Nodup->es[i]?=some (k,o)->∃ kv,kvs[i]?=some kv/\EntV H kv (k,o)/\J0I kvs (Sum.inl (k:Int))=some kv.2
 | [],[],i,k,o,_,_,h=>by simp at h
 | [],_::_,_,_,_,h,_,_=>by have:=h.1;simp at this
 | _::_,[],_,_,_,h,_,_=>by have:=h.1;simp at this
 | kv::kvs,e::es,0,k,o,h,nd,he=>by
   simp at he;subst he;obtain ⟨h1,h2⟩:=All2.tail h;exact ⟨kv,rfl,h1,J21 (by rw [h1.1])⟩
 | kv::kvs,e::es,i+1,k,o,h,nd,he=>by
   obtain ⟨h1,h2⟩:=All2.tail h;have nd':(e.1::Jr es).Nodup:=nd;obtain ⟨kv',g1,g2,g3⟩:=J68 h2 (nodup_cons.mp nd').2 (by simpa using he);refine ⟨kv',by simpa using g1,g2,?_⟩;rw [J22,g3];rw [h1.1];intro z;have:e.1=k:=by have:=Sum.inl.inj z;omega
   exact (nodup_cons.mp nd').1 (by rw [this];exact mem_map_of_mem (f:=fun e:Ent=>e.1) (y4 (by simpa using he)))
def J2y (t:Int)(fl:List Int)(s:Nat×Int):List Int:=fl.set s.1 (fl.getD s.1 0+s.2 * t)
theorem J4g (t:Int)(fl:List Int)(s:Nat×Int):(J2y t fl s).length=fl.length:=by unfold J2y;rw [length_set]
theorem J6m {as:List Arc}{fl:List Int}{t:Int}{s s':Nat×Int}(h:s.1≠s'.1):J0U as (J2y t fl s) s'.1 s'.2=J0U as fl s'.1 s'.2:=by
 have:(J2y t fl s).getD s'.1 0=fl.getD s'.1 0:=by
  unfold J2y;rw [yZ,List.getElem?_set_ne h,yZ]
 unfold J0U;rw [this]
theorem J9C {as:List Arc}{fl:List Int}{t:Int}{s:Nat×Int}(hb:Bnd as fl)(hl:s.1<as.length)(h0:0<=t)(hr:t<=J0U as fl s.1 s.2)(hs:s.2=1\/s.2=-1):Bnd as (J2y t fl s):=by
 refine ⟨by rw [J4g];exact hb.1,fun i A y hA hy=>?_⟩;by_cases e:s.1=i
 ·subst e
  have hl2:s.1<fl.length:=by rw [<- hb.1];exact hl
  unfold J2y at hy;rw [List.getElem?_set_self hl2] at hy;have e1:=yU hl2;obtain ⟨b1,b2⟩:=hb.2 s.1 A _ hA e1;unfold J0U at hr;rw [yZ,yZ,hA,e1] at hr;rw [yZ,e1] at hy;simp only [Option.getD_some] at hr hy;have hy:=yN hy;rcases hs with hs | hs
  ·rw [yI hs] at hr
   rw [hs] at hy;omega
  ·rw [yH (by rw [hs];decide)] at hr
   rw [hs] at hy;omega
 ·unfold J2y at hy
  rw [List.getElem?_set_ne e] at hy;exact hb.2 i A y hA hy
theorem Jag {as:List Arc}{fl:List Int}{t:Int}{n pl v':Nat}{sg:Int}(hl:fl.length=as.length)(so:StepOk as n pl v' sg)(v:Int):exF as (J2y t fl (pl,sg)) v=exF as fl v+(if (v':Int)=v then t else 0) - (if (n:Int)=v then t else 0):=by
 obtain ⟨A,hA,hc⟩:=so;have hpl:pl<fl.length:=by rw [hl];exact (yV.mp hA).1
 unfold J2y;rw [J8h as fl pl A _ _ v hA (yU hpl),yZ,yU hpl];simp only [Option.getD_some];rcases hc with ⟨rfl,a,b⟩ | ⟨rfl,a,b⟩
 ·rw [a,b]
  split<;>split<;>omega
 ·rw [a,b]
  split<;>split<;>omega
theorem J8g {as:List Arc}{t:Int}{start:Nat}:∀ (tks:List (Nat×Int)) (fl:List Int) (goal:Nat),fl.length=as.length->J7G as start tks goal->∀ v,exF as (tks.foldl (J2y t) fl) v=exF as fl v+(if (goal:Int)=v then t else 0) - (if (start:Int)=v then t else 0)
 | [],fl,goal,hl,hb,v=>by
   have e:goal=start:=hb;subst e;simp only [foldl_nil];omega
 | (pl,sg)::r,fl,goal,hl,hb,v=>by
   obtain ⟨n,so,hr⟩:=hb;rw [foldl_cons,J8g r _ n (by rw [J4g];exact hl) hr v,Jag hl so v];omega
theorem J5g {as:List Arc}{t:Int}(h0:0<=t):∀ (tks:List (Nat×Int)) (fl:List Int),Bnd as fl->(tks.map (·.1)).Nodup->(∀ s∈tks,t<=J0U as fl s.1 s.2)->(∀ s∈tks,s.2=1\/s.2=-1)->(∀ s∈tks,s.1<as.length)->Bnd as (tks.foldl (J2y t) fl)
 | [],fl,hb,_,_,_,_=>hb
 | s::r,fl,hb,nd,hr,hs,hl=>by
   rw [zd,nodup_cons] at nd;rw [foldl_cons];refine J5g h0 r _ (J9C hb (hl s y9) h0 (hr s y9) (hs s y9)) nd.2 (fun s' h'=>?_) (fun s' h'=>hs s' (y8 _ h')) fun s' h'=>hl s' (y8 _ h');rw [J6m (fun e=>nd.1 (by rw [e];exact mem_map_of_mem h'))];exact hr s' (y8 _ h')
structure StrmAt (H:Hp)(C x lb:Addr)(m:Nat)(as:List Arc)(fl:List Int):Prop where
 ex:∃ (dx la ls:Addr) (xs:List V) (sa:List Addr),H x=some (.ins C dx [("arcs",.ref la),("borne",.ref lb),("steps",.ref ls)])/\H la=some (.lst xs)/\ArcsV H xs as/\H lb=some (.lst (fl.map V.int)) /\
  H ls=some (.lst (sa.map V.ref))/\sa.length=m/\(∀ (n:Nat) p,sa[n]?=some p->StepsAt H as (fun _ _=>True) (2 * as.length) n p)/\la≠lb/\ls≠lb/\∀ a∈sa,a≠lb
 len:fl.length=as.length
 small:as.length<=1000/\m<=1000
 inn:∀ A∈as,InN m A
theorem StrmAt.stream {H:Hp}{C x lb:Addr}{m:Nat}{as:List Arc}{fl:List Int}(h:StrmAt H C x lb m as fl):StreamAt H C x m as fl:=by
 obtain ⟨dx,la,ls,xs,sa,h1,h2,h3,h4,h5,h6,h7,_⟩:=h.ex;exact ⟨⟨dx,la,lb,ls,xs,sa,h1,h2,h3,h4,h5,h6,h7⟩,h.len,h.small,h.inn⟩
theorem StrmAt.mono {H H':Hp}{C x lb:Addr}{m:Nat}{as:List Arc}{fl:List Int}(s:Same H H')(h:StrmAt H C x lb m as fl):StrmAt H' C x lb m as fl:=by
 obtain ⟨dx,la,ls,xs,sa,h1,h2,h3,h4,h5,h6,h7,h8⟩:=h.ex;exact ⟨⟨dx,la,ls,xs,sa,s _ _ h1,s _ _ h2,h3.mono s,s _ _ h4,s _ _ h5,h6,(fun n p hp=>(h7 n p hp).mono s),h8⟩,h.len,h.small,h.inn⟩
theorem SameBut.refl (x:Addr)(H:Hp):SameBut x H H:=fun _ _ _ z=>z
theorem SameBut.trans {x:Addr}{H H1 H2:Hp}(a:SameBut x H H1)(b:SameBut x H1 H2):SameBut x H H2:=fun c o n h=>b c o n (a c o n h)
theorem SameBut.same {x:Addr}{H H1 H2:Hp}(a:SameBut x H H1)(b:Same H1 H2):SameBut x H H2:=fun c o n h=>b c o (a c o n h)
theorem StrmAt.turn {H H':Hp}{C x lb:Addr}{m:Nat}{as:List Arc}{fl fl':List Int}(h:StrmAt H C x lb m as fl)(s:SameBut lb H H')(hb:H' lb=some (.lst (fl'.map V.int)))(hl:fl'.length=fl.length):StrmAt H' C x lb m as fl':=by
 obtain ⟨dx,la,ls,xs,sa,h1,h2,h3,h4,h5,h6,h7,n1,n2,n3⟩:=h.ex;have nx:x≠lb:=J2b h1 h4 (by intro z;cases z);have ts:TSame H H':=fun q zs hq=>s q _ (J2b hq h4 (by intro z;cases z)) hq;refine ⟨⟨dx,la,ls,xs,sa,s _ _ nx h1,s _ _ n1 h2,All2.mono h3 fun _ _ ⟨p,e,g⟩=>⟨p,e,ts _ _ g⟩,hb,s _ _ n2 h5,h6,fun n p hp=>?_,n1,n2,n3⟩,by rw [hl];exact h.len,h.small,h.inn⟩;obtain ⟨ts',t1,t2,t3,t4⟩:=(h7 n p hp).ex;refine ⟨ts',s _ _ (n3 p (y4 hp)) t1,t2,fun t ht=>(t3 t ht).monoT ts,fun pl t sg hd so=>?_⟩;obtain ⟨q,q1,q2⟩:=t4 pl t sg hd so;exact ⟨q,q1,ts _ _ q2⟩
structure ExcM (mg:Str->Option Value)(n:Str)(a:Addr):Prop where
 m:mg n=some (.ref a)
end L2
namespace L2
open PySem
variable {xs:Array Nat}{j:Nat}
def Ris (xs:Array Nat):Prop:=xs.toList.Pairwise (·<·)
theorem Ris.lt (h:Ris xs){i:Nat}(hij:i<j)(hj:j<xs.size):xs[i]<xs[j]:=by
 have:=pairwise_iff_getElem.mp h i j (by simp;omega) (by simpa using hj) hij;simpa using this
theorem below_go {xs:Array Nat}{j:Nat}(h:Ris xs):∀ (fuel lo hi:Nat),lo<=hi->hi<=xs.size->hi - lo<=fuel->(∀ k (hk:k<xs.size),k<lo->xs[k]<j)->(∀ k (hk:k<xs.size),hi<=k->j<=xs[k]) ->
 SetTable.below.go xs j fuel lo hi<=xs.size/\(∀ k (hk:k<xs.size),k<SetTable.below.go xs j fuel lo hi->xs[k]<j)/\(∀ k (hk:k<xs.size),SetTable.below.go xs j fuel lo hi<=k->j<=xs[k])
 | 0,lo,hi,h1,h2,h3,h4,h5=>by
   have e:hi=lo:=by omega
   subst e;exact ⟨h2,h4,h5⟩
 | fuel+1,lo,hi,h1,h2,h3,h4,h5=>by
   unfold SetTable.below.go;by_cases c:lo<hi
   ·rw [yI c]
    have hm:(lo+hi) / 2<xs.size:=by omega
    have eg:xs.getD ((lo+hi) / 2) j=xs[(lo+hi) / 2]:=by simp [Array.getD,hm]
    dsimp only;rw [eg];by_cases d:xs[(lo+hi) / 2]<j
    ·rw [yI d]
     refine below_go h fuel _ hi (by omega) h2 (by omega) (fun k hk hkl=>?_) h5;by_cases e:k=(lo+hi) / 2
     ·subst e;exact d
     ·have:=h.lt (show k<(lo+hi) / 2 by omega) hm
      omega
    ·rw [yH d]
     refine below_go h fuel lo _ (by omega) (by omega) (by omega) h4 (fun k hk hkl=>?_);by_cases e:k=(lo+hi) / 2
     ·subst e;omega
     ·have:=h.lt (show (lo+hi) / 2<k by omega) hk
      omega
   ·rw [yH c]
    have e:hi=lo:=by omega
    subst e;exact ⟨h2,h4,h5⟩
theorem J71 (h:Ris xs)(j:Nat):SetTable.below xs j<=xs.size/\(∀ k (hk:k<xs.size),k<SetTable.below xs j->xs[k]<j)/\(∀ k (hk:k<xs.size),SetTable.below xs j<=k->j<=xs[k]) :=
 below_go h xs.size 0 xs.size (yQ _) (yJ _) (by omega) (fun _ _ z=>absurd z (Nat.not_lt_zero _)) (fun k hk z=>absurd hk (by omega))
theorem J72 (h:Ris xs){i:Nat}(hi:i<=xs.size)(h1:∀ k (hk:k<xs.size),k<i->xs[k]<j)(h2:∀ k (hk:k<xs.size),i<=k->j<=xs[k]):SetTable.below xs j=i:=by
 obtain ⟨a,b,c⟩:=J71 h j;rcases Nat.lt_trichotomy (SetTable.below xs j) i with z | z | z
 ·have hk:SetTable.below xs j<xs.size:=by omega
  have e1:=h1 _ hk z;have e2:=c _ hk (yJ _);omega
 ·exact z
 ·have hk:i<xs.size:=by omega
  have e1:=h2 _ hk (yJ _);have e2:=b _ hk z;omega
theorem J8Z (h:Ris xs)(hm:j∈xs.toList):xs[SetTable.below xs j]?=some j:=by
 obtain ⟨i,hi⟩:=zk.mp hm;obtain ⟨hl,e⟩:=yV.mp hi;have hl':i<xs.size:=by simpa using hl
 have e':xs[i]=j:=by simpa using e
 have:SetTable.below xs j=i:=J72 h (Nat.le_of_lt hl') (fun k hk z=>by rw [<- e'];exact h.lt z hl') fun k hk z=>by
  rcases Nat.lt_or_eq_of_le z with z | rfl
  ·rw [<- e'];exact Nat.le_of_lt (h.lt z hk)
  ·omega
 rw [this,Array.getElem?_eq_getElem hl',e']
theorem Ris.ins (h:Ris xs)(hm:j∉xs.toList):Ris (SetTable.insertAt xs (SetTable.below xs j) j):=by
 obtain ⟨a,b,c⟩:=J71 h j;unfold Ris;rw [SetTable.toList_insertAt];generalize SetTable.below xs j=p at *;have ht:∀ x∈xs.toList.take p,x<j:=fun x hx=>by
  obtain ⟨i,hi⟩:=zk.mp hx;rw [List.getElem?_take] at hi
  split at hi
  ·rename_i hip
   obtain ⟨hl,e⟩:=yV.mp hi;have hl':i<xs.size:=by simpa using hl
   have:=b i hl' hip;rw [<- e];simpa using this
  ·cases hi
 have hd:∀ x∈xs.toList.drop p,j<x:=fun x hx=>by
  obtain ⟨i,hi⟩:=zk.mp hx;rw [List.getElem?_drop] at hi;obtain ⟨hl,e⟩:=yV.mp hi;have hl':p+i<xs.size:=by simpa using hl
  have h1:=c (p+i) hl' (by omega);have e':xs[p+i]=x:=by simpa using e
  have h2:x≠j:=fun z=>hm (by rw [<- z];exact y4 hi);omega
 rw [pairwise_append];refine ⟨h.sublist (take_sublist ..),pairwise_cons.mpr ⟨hd,h.sublist (drop_sublist ..)⟩,fun x hx y hy=>?_⟩;rcases zc.mp hy with rfl | hy
 ·exact ht x hx
 ·exact Nat.lt_trans (ht x hx) (hd y hy)
theorem J2o (n:Nat):Ris (Array.range n):=by
 unfold Ris;rw [Array.toList_range];exact pairwise_lt_range
theorem J8x {t:SetTable}(h:Ris t.place)(hm:j∈t.place.toList):∃ i,t.slot j=.live i:=by
 unfold SetTable.slot;dsimp only;rw [J8Z h hm];exact ⟨SetTable.below t.place j,by rw [yI (by simp)]⟩
theorem J5s (t:SetTable)(p:SetTable.Probe):(t.advance p).dummy=p.dummy:=by
 unfold SetTable.advance
 split<;>rfl
theorem J4i {t:SetTable}{h:Int}:∀ (fuel:Nat) (p:SetTable.Probe) (j:Nat) (dm:Option Nat),(∀ d,p.dummy=some d->t.slot d=.dummy)->SetTable.probe.go t (fun _=>h+1) h fuel p=some (.empty j dm) ->
 t.slot j=.empty/\∀ d,dm=some d->t.slot d=.dummy
 | 0,p,j,dm,_,e=>by simp [SetTable.probe.go] at e
 | fuel+1,p,j,dm,hp,e=>by
   unfold SetTable.probe.go at e;cases hs:t.slot p.j with
   | empty =>
     rw [hs] at e;simp only [Option.some.injEq,SetTable.Met.empty.injEq] at e;obtain ⟨rfl,rfl⟩:=e;exact ⟨hs,hp⟩
   | dummy =>
     rw [hs] at e;refine J4i fuel _ j dm (fun d hd=>?_) e;rw [J5s] at hd;cases hd;exact hs
   | live i =>
     rw [hs] at e;simp only at e;rw [yH (by simp;omega)] at e;exact J4i fuel _ j dm (fun d hd=>hp d (by rw [<- J5s t];exact hd)) e
theorem Jb8 {t:SetTable}{h:Int}{b:Bool}(hr:Ris t.place)(e:t.freeSlot h=some (j,b)):j∉t.place.toList:=by
 unfold SetTable.freeSlot at e
 split at e
 ·rename_i k dm hq
  simp only [Option.some.injEq,Prod.mk.injEq] at e;obtain ⟨rfl,rfl⟩:=e;have:=J4i _ _ k dm (fun d hd=>by simp [SetTable.probeStart] at hd) hq;intro hm;obtain ⟨i,hi⟩:=J8x hr hm;cases dm with
  | none=>rw [show (Option.getD none k)=k from rfl,this.1] at hi;cases hi
  | some d=>rw [show (Option.getD (some d) k)=d from rfl,this.2 d rfl] at hi;cases hi
 ·cases e
theorem J7o {t:SetTable}(hr:Ris t.place)(es:Array (Int×Value))(h:Int)(x:Value):Ris (layNew t es h x).2.1.place/\(layNew t es h x).2.1.led=t.led:=by
 unfold layNew
 split
 ·rename_i slot wd e
  have hn:=Jb8 hr e;have h1:Ris (t.put slot).1.place:=hr.ins hn;have h2:(t.put slot).1.led=t.led:=rfl;dsimp only;unfold SetTable.orStandIn
  split
  ·exact ⟨h1,h2⟩
  ·exact ⟨J2o _,h2⟩
 ·exact ⟨J2o _,rfl⟩
theorem relaid_ris {t t':SetTable}{hs:Array Int}{wanted:Nat}{o:Array Nat}(e:t.relaid hs wanted=some (t',o)):Ris t'.place/\t'.led=t.led:=by
 unfold SetTable.relaid SetTable.laid at e;cases q:SetTable.layClean (SetTable.sizeAbove wanted - 1) hs with
 | none=>rw [q] at e;cases e
 | some owner =>
   rw [q] at e;cases e;refine ⟨?_,rfl⟩;unfold Ris;dsimp only;rw [pairwise_map];generalize SetTable.sizeAbove wanted - 1+1=N;have key:∀ l:List Nat,l.Pairwise (·<·)->(l.filterMap fun j=>(owner.getD j none).map (j,·)).Pairwise fun a b=>a.1<b.1:=by
    intro l
    induction l with
    | nil=>intro _;exact .nil
    | cons a l ih =>
      intro hp;obtain ⟨h1,h2⟩:=pairwise_cons.mp hp;cases hq:owner.getD a none with
      | none=>rw [filterMap_cons_none (by rw [hq];rfl)];exact ih h2
      | some c =>
        rw [filterMap_cons_some (b:=(a,c)) (by rw [hq];rfl)];refine pairwise_cons.mpr ⟨fun y hy=>?_,ih h2⟩;obtain ⟨z,hz,e⟩:=mem_filterMap.mp hy;have:y.1=z:=by
         cases hz2:owner.getD z none with
         | none=>rw [hz2] at e;cases e
         | some c2=>rw [hz2] at e;cases e;rfl
        rw [this];exact h1 z hz
   exact key _ pairwise_lt_range
theorem J5D {t:SetTable}(hr:Ris t.place)(es:Array (Int×Value))(wanted:Nat):Ris (relayAll t es wanted).2.1.place/\(relayAll t es wanted).2.1.led=t.led:=by
 unfold relayAll
 split
 ·rename_i t' o e
  dsimp only
  split
  ·exact relaid_ris e
  ·exact ⟨J2o _,rfl⟩
 ·exact ⟨J2o _,rfl⟩
theorem J2M {α:Type}:∀ (l:List α) (i:Nat) (h:i<l.length),(l[i]::l.eraseIdx i).Perm l
 | a::l,0,h=>by simp
 | a::l,i+1,h=>by
   have:=J2M l i (by simpa using h);simp only [getElem_cons_succ,eraseIdx_cons_succ];exact (List.Perm.swap _ _ _).trans (this.cons a)
theorem J7Z {α:Type}(next:Nat->Nat):∀ (fuel k:Nat) (left:List α) (out:Array α),fuel=left.length->(pickOrder.go next fuel k left out).toList.Perm (out.toList++left)
 | 0,k,left,out,h=>by
   have:left=[]:=eq_nil_of_length_eq_zero h.symm;subst this;simp [pickOrder.go]
 | fuel+1,k,left,out,h=>by
   unfold pickOrder.go;have hl:next k % left.length<left.length:=Nat.mod_lt _ (by omega);rw [yU hl];dsimp only;refine (J7Z next fuel (k+1) _ _ (by rw [length_eraseIdx_of_lt hl];omega)).trans ?_;rw [Array.toList_push,zp];refine List.Perm.append_left _ ?_;exact J2M left _ hl
theorem J8C {α:Type}(next:Nat->Nat)(xs:Array α):(pickOrder next xs).toList.Perm xs.toList:=by
 have:=J7Z next xs.size 0 xs.toList #[] (by simp);simpa [pickOrder] using this
end L2
namespace L2
open PySem PySem.Spec PyProof.Rows
def kOf (e:Int×Value):Int:=numOf e.2
structure SR (prog:Program)(w:World)(es:Array (Int×Value))(t:SetTable)(ks:List Int):Prop where
 el:ElemsOf (intKind prog w) es.toList
 fits:t.fits es.size=true
 ris:Ris t.place
 led:t.led = !(w.params.followText "set-order")
 nd:(es.toList.map kOf).Nodup
 mem:∀ k,k∈es.toList.map kOf↔k∈ks
 len:es.size<=ks.length
def J3b (prog:Program)(w:World)(h:Heap)(a:Addr)(ks:List Int):Prop:=∃ o es ep t,h.get? a=some o/\o.ExactSet/\o.data=.set es ep t/\SR prog w es t ks
theorem isInt_shape {k:Int}{v:Value}{prog:Program}{w:World}(h:(intKind prog w).is k v=true):∃ t,v=.int k t:=by
 have h':Value.isInt k v=true:=h;cases v with
 | int j t =>
   have e:(j == k)=true\/(k == j)=true:=by first | exact .inl h' | exact .inr h'
   rcases e with e | e
   ·exact ⟨t,by rw [beq_iff_eq.mp e]⟩
   ·exact ⟨t,by rw [beq_iff_eq.mp e]⟩
 | _=>cases h'
section
variable {prog:Program}{w:World}{es:Array (Int×Value)}{t:SetTable}{ks:List Int}
theorem SR.perm {es':Array (Int×Value)}{t':SetTable}(h:SR prog w es t ks)(p:es'.toList.Perm es.toList)(f:t'.fits es'.size=true)(r:Ris t'.place)(l:t'.led=t.led):SR prog w es' t' ks where
 el:=h.el.perm p
 fits:=f
 ris:=r
 led:=l.trans h.led
 nd:=(p.map kOf).nodup_iff.mpr h.nd
 mem:=fun k=>((p.map kOf).mem_iff).trans (h.mem k)
 len:=by
  have:=p.length_eq;rw [yT,yT] at this;rw [this];exact h.len
theorem SR.put {k:Int}{tk:Tok}(h:SR prog w es t ks)(hn:k∉ks){es':Array (Int×Value)}{t':SetTable}(p:es'.toList.Perm (es.toList++[(hashInt k,.int k tk)]))(f:t'.fits es'.size=true)(r:Ris t'.place)(l:t'.led=t.led):SR prog w es' t' (ks++[k]) where
 el:=(h.el.push (k:=k) (x:=.int k tk) (intKind_is _ _ _ _) rfl).perm p
 fits:=f
 ris:=r
 led:=l.trans h.led
 nd:=by
  refine (p.map kOf).nodup_iff.mpr ?_;rw [zg];refine nodup_append.mpr ⟨h.nd,by simp,fun a ha b hb=>?_⟩;have:b=k:=by simpa [kOf,numOf] using hb
  rw [this];intro e;exact hn ((h.mem k).mp (by rw [<- e];exact ha))
 mem:=fun k'=>by
  rw [(p.map kOf).mem_iff,zg,zh,zh,h.mem k'];simp [kOf,numOf]
 len:=by
  have:=p.length_eq;rw [yT,y6,yT] at this;have:=h.len;rw [y6];simp only [length_cons,length_nil] at *;omega
theorem SR.again {k:Int}(h:SR prog w es t ks)(hk:k∈ks):SR prog w es t (ks++[k]) where
 el:=h.el
 fits:=h.fits
 ris:=h.ris
 led:=h.led
 nd:=h.nd
 mem:=fun k'=>by
  rw [h.mem k',zh];refine ⟨.inl,fun z=>z.elim id fun z=>?_⟩;rw [yX.mp z];exact hk
 len:=by have:=h.len;rw [y6];omega
end
section
variable {prog:Program}{w:World}{A:Around}{E:Value->Shared->Prop}{s:Shared}
theorem J7N {a:Addr}{o:Obj}{es es':Array (Int×Value)}{ep:Nat}{t t':SetTable}(h:Heap)(ho:h.get? a=some o)(hd:o.data=.set es ep t):(h.update a (Obj.putSet es' t')).get? a=some { o with data:=.set es' (ep+1) t' }:=by
 have:=Heap.get?_update_self (Obj.putSet es' t') ho (by rw [putSet_of es' t' hd];rfl);rw [putSet_of es' t' hd] at this;exact this
theorem add_R {a:Addr}{ks:List Int}{k:Int}{tk:Tok}{Q:Bool->Shared->Prop}(h:J3b prog w s.heap a ks)(room:ks.length+1<scanBound)
 (hQ:∀ b h',Heap.SameBut a s.heap h'->J3b prog w h' a (ks++[k])->Q b { s with heap:=h' }):wpAny (model prog w) A (setAddHashed a (.int k tk) (hashInt k)) Q E s:=by
 obtain ⟨o,es,ep,t,ho,hex,hd,R⟩:=h;have hb:es.size<scanBound:=by have:=R.len;omega
 have hkey:(intKind prog w).is k (.int k tk)=true:=intKind_is _ _ _ _;have hgw:∀ (b:Bool) {s₁:Shared} {Q':Unit->Shared->Prop},Q' () s₁->wpAny (model prog w) A (match b with | true=>rule "set.scan.the-table-gave-way" | false=>pure ()) Q' E s₁ :=
  fun b s₁ Q' hq=>by cases b<;>first | exact yG hq | exact wpAny_rule hq
 unfold setAddHashed setAddHashedIn;refine wpAny_holding (yF (wpAny_setState_of ho hd R.fits ?_));dsimp only;rw [byScan_of (knd:=intKind prog w) rfl hb R.el];simp only [↓reduceIte];unfold setAddByScan;refine yF (yF (wpAny_rule (yF (wpAny_setScan_of (knd:=intKind prog w) (k:=k) hkey ho hd R.fits R.el ?_))));cases hr:List.findIdx? (fun e=>(intKind prog w).is k e.2) es.toList with
 | some j =>
   dsimp only;obtain ⟨hj,hpj,_⟩:=List.findIdx?_eq_some_iff_getElem.mp hr;obtain ⟨t',et⟩:=isInt_shape hpj;have hk:k∈ks:=(R.mem k).mp (zl.mpr ⟨es.toList[j],getElem_mem hj,by unfold kOf;rw [et];rfl⟩);have:=hQ false s.heap (Heap.SameBut.refl a s.heap) ⟨o,es,ep,t,ho,hex,hd,R.again hk⟩;exact yG (yG this)
 | none =>
   dsimp only;have hk:k∉ks:=fun z=>by
    obtain ⟨e,he,q⟩:=zl.mp ((R.mem k).mpr z);obtain ⟨⟨k',hk',_⟩,_⟩:=R.el e he;obtain ⟨t',et⟩:=isInt_shape hk';have e2:k'=k:=by unfold kOf at q;rw [et] at q;exact q
    subst e2;have:=List.findIdx?_eq_none_iff.mp hr e he;rw [hk'] at this;exact Bool.noConfusion this
   have hp:=layNew_perm t es (hashInt k) (.int k tk);have hf:=layNew_fits t es (hashInt k) (.int k tk);have hrs:=J7o R.ris es (hashInt k) (.int k tk);generalize layNew t es (hashInt k) (.int k tk)=L at hp hf hrs ⊢;obtain ⟨es1,t1,wasDummy,gave⟩:=L;dsimp only at hp hf hrs ⊢;rw [Array.toList_push] at hp;have R1:=R.put hk hp hf hrs.1 hrs.2;have hz1:es1.size<=sizeLine:=fits_of_scanBound (by have:=R1.len;rw [y6] at this;simp at this;omega);refine yF (hgw _ ?_);have fin:∀ (t2:SetTable),t2=t1->wpAny (model prog w) A (do
    storeSet a es1 t2
    if (!wasDummy&&t2.tooFull)=true then do
        (match (relayAll t2 es1 (SetTable.grown es1.size)).2.2 with | true=>rule "set.scan.the-table-gave-way" | false=>pure ())
        storeSet a (relayAll t2 es1 (SetTable.grown es1.size)).1 (relayAll t2 es1 (SetTable.grown es1.size)).2.1
        pure (some true)
     else pure (some true)) (fun r s'=>wpAny (model prog w) A (match r with | some added=>pure added | none=>setAddHashedIn a (.int k tk) (hashInt k) 99999) Q E s') E s:=by
    intro t2 e2;rw [e2];refine yF (wpAny_storeSet_of ho hd ?_ hz1);have g1:=J7N (es':=es1) (t':=t1) s.heap ho hd;have sb:=Heap.SameBut.update s.heap a (Obj.putSet es1 t1)
    split
    ·have hp2:=relayAll_perm t1 es1 (SetTable.grown es1.size)
     have hf2:=relayAll_fits t1 es1 (SetTable.grown es1.size);have hr2:=J5D R1.ris es1 (SetTable.grown es1.size);generalize relayAll t1 es1 (SetTable.grown es1.size)=L2' at hp2 hf2 hr2 ⊢;obtain ⟨es2,t3,gave2⟩:=L2';dsimp only at hp2 hf2 hr2 ⊢;have R2:=R1.perm hp2 hf2 hr2.1 hr2.2;have hz2:es2.size<=sizeLine:=fits_of_scanBound (by have:=R2.len;rw [y6] at this;simp at this;omega);refine yF (hgw _ (yF (wpAny_storeSet_of g1 rfl ?_ hz2)));have g2:=J7N (es':=es2) (t':=t3) _ g1 rfl;exact yG (yG (hQ _ _ (sb.trans (Heap.SameBut.update _ a _)) ⟨_,es2,_,t3,g2,hex,rfl,R2⟩))
    ·exact yG (yG (hQ _ _ sb ⟨_,es1,_,t1,g1,hex,rfl,R1⟩))
   split
   ·refine yF ?_
    rw [hashByValue_scannable 8 rfl];refine yG ?_;exact fin _ (by simp [plainKind])
   ·refine yF (yG ?_)
    exact fin _ (by simp)
end
section
variable {prog:Program}{w:World}{A:Around}{R:Result->Shared->Prop}{I:Addr}{fp wr:List Addr}{G:Array GenState->Array GenState->Prop}{n:Nat}{P:Nat->Value->Prop}{St:Nat->Shared->Prop}
theorem Jcc (W:WalksS prog w A.in1 I fp wr G n P St){b:Addr}(nb:b∉fp){val:Nat->Int}(hv:∀ i v,P i v->∃ t,v=.int (val i) t)(room:n+1<scanBound) :
 ∀ (m i:Nat) (s:Shared),n - i=m->i<=n->St i s->J3b prog w s.heap b ((List.range i).map val) ->
   (∀ s',Moved (b::wr) G s s'->J3b prog w s'.heap b ((List.range n).map val)->R (.ok (.ret .none)) s') ->
   codeAny (model prog w) A (.builtin "set.update.loop" ⟨[.ref b,.ref I],[]⟩) R s:=by
 have nw:b∉wr:=fun z=>nb (W.sub _ z);have more:∀ c∈wr,c∈b::wr:=fun c hc=>y8 _ hc;have same:∀ {s s':Shared} {ks:List Int},J3b prog w s.heap b ks->Moved wr G s s'->J3b prog w s'.heap b ks:=fun {s s' ks} h hm=>by
  obtain ⟨o,es,ep,t,ho,r⟩:=h;exact ⟨o,es,ep,t,hm.heap b _ nw ho,r⟩
 intro m
 induction m with
 | zero =>
   intro i s hm hi hst hS hR;obtain rfl:i=n:=by omega
   refine codeAny_builtin PyProof.Rows.F.entry_set_update_loop ?_;rw [zA PyProof.Rows.F.plain_set_update_loop _];show wpAny _ A.in1 (pyNext (.ref I) >>= _) _ _ s;exact yF (W.done s _ _ hst fun s' mv=>yG (hR s' (mv.mono more) (same hS mv)))
 | succ m ih =>
   intro i s hm hi hst hS hR;have lt:i<n:=by omega
   refine codeAny_builtin PyProof.Rows.F.entry_set_update_loop ?_;rw [zA PyProof.Rows.F.plain_set_update_loop _];show wpAny _ A.in1 (pyNext (.ref I) >>= _) _ _ s;refine yF (W.item i s _ _ lt hst fun v s' hP hst' mv=>?_);obtain ⟨t,rfl⟩:=hv i v hP;show wpAny _ A.in1 (holding [Value.int (val i) t] (setAdd b (Value.int (val i) t)) >>= _) _ _ s';refine yF (wpAny_holding ?_);unfold setAdd;refine wpAny_holding (yF ((intKind prog w).pyHash (k:=val i) (intKind_is _ _ _ _) ?_));have hS':=same hS mv;refine add_R (s:={ s' with toks:=s'.toks+1 }) hS' (by simp;omega) fun bo h' sb hS2=>?_;have hS3:J3b prog w h' b ((List.range (i+1)).map val):=by
    rw [range_succ,zg];exact hS2
   refine yG ⟨plainId_quiet PyProof.Rows.F.plain_set_update_loop _,ih (i+1) _ (by omega) lt (W.frame _ s' _ _ hst' (Nat.le_succ _) fun c hc o e=>?_) hS3 fun s'' mv' hS4=>?_⟩
   ·rw [sb.2 c (fun z:c=b=>nb (by rw [<- z];exact hc))];exact e
   ·refine hR s'' (Moved.trans W.gtrans ((mv.mono more).then_heap (Nat.le_succ _) fun c o hc e=>?_) mv') hS4
    rw [sb.2 c (fun z:c=b=>hc (by rw [z];exact y9))];exact e
end
section
variable {prog:Program}{w:World}{A:Around}{E:Value->Shared->Prop}{s:Shared}
theorem J4X (a:Value){Q₁:Value->Shared->Prop}(h:Q₁ (.ref s.heap.objs.size) { s with heap:=s.heap.push (J0v (!(w.params.followText "set-order"))) }) :
 codeAny (model prog w) A (.call (.builtin "set.__new__") ⟨[.type "set",a],[]⟩) (wants Q₁ E) s:=by
 refine codeAny_of_tree ?_;show wpAny _ A.in1 (do checkBuiltinCall "set.__new__" ⟨[.type "set",a],[]⟩;again (.builtin "set.__new__" ⟨[.type "set",a],[]⟩)) _ _ s;refine yF (wpAny_of_eq (PySem.F.newCall_set_1 a) (yG ⟨plainId_quiet PySem.F.plain_set_new _,codeAny_builtin PySem.F.entry_set_new ?_⟩));rw [zA PySem.F.plain_set_new _];unfold Builtin.«set.__new__» Builtin.Frozenset.newClass;have hsub:=sub_set_self;obtain ⟨hp,g,d,tk,os⟩:=s;dsimp only
 wp_walk
 refine wpAny_askSetting (yG ?_);dsimp only;simp only [newObj];exact yF (wpAny_alloc (yG (yG h)))
set_option maxHeartbeats 3200000 in
theorem set_callL {x:Value}{Q:Value->Shared->Prop}{Z:Heap->Prop}
 (fill:∀ (E':Value->Shared->Prop) (Q':Unit->Shared->Prop),(∀ h' tk,Z h'->Q' () { s with heap:=h',toks:=tk })->wpAny (model prog w) A.in1.in1 (Builtin.Frozenset.updateFrom "set.__init__" s.heap.objs.size x) Q' E' { s with heap:=s.heap.push (J0v (!(w.params.followText "set-order"))) })
 (h:∀ (h':Heap) (tk:Nat),Z h'->Q (.ref s.heap.objs.size) { s with heap:=h',toks:=tk }):wpAny (model prog w) A (call (.type "set") [x]) Q E s:=by
 obtain ⟨c,tl,hmro⟩:=PySem.F.called_set.mro;have g1:=PySem.F.called_set.made;have g2:=PySem.F.called_set.sub;have g3:=PySem.F.called_set.notType;have g4:=PySem.F.called_set.canCreate;have g5:=PySem.F.typeCall_set_1 x;refine wpAny_call (codeAny_of_tree ?_);show wpAny _ _ (callAny (.type "set") _) _ _ _;refine yG ⟨Code.quiet_builtin _ (by decide +kernel),codeAny_builtin PySem.F.entry_type_call ?_⟩;rw [Around.under_plain (weight_type_call_type "set" [x] []) rfl]
 repeat (any_goals (first | assumption | wp_step))
 generalize hled:(!(w.params.followText "set-order"))=led at *;refine codeAny_mono (J4X x (E:=E) (Q₁:=fun v s1=>v=.ref s.heap.objs.size/\s1={ s with heap:=s.heap.push (J0v led) }) ⟨rfl,by rw [hled]⟩) fun r s1 hr=>?_
 match r,hr with
 | .error e,hr=>exact hr
 | .ok .next,hr=>exact hr.elim
 | .ok .brk,hr=>exact hr.elim
 | .ok .cont,hr=>exact hr.elim
 | .ok (.ret v),hr =>
   obtain ⟨rfl,rfl⟩:=hr;have at0:(s.heap.push (J0v led)).get? s.heap.objs.size=some (J0v led):=zt _ rfl;have hT:Shared.TypeIs { s with heap:=s.heap.push (J0v led) } (.ref s.heap.objs.size) "set":=⟨_,at0,rfl⟩;have i1:=PySem.F.called_set.init.lookup;have i2:=PySem.F.called_set.init.bind (.ref s.heap.objs.size)
   repeat (any_goals (first | assumption | wp_step))
   refine codeAny_mono (codeAny_call_builtin (R:=wants (fun r s2=>r=.none/\∃ h' tk,s2={ s with heap:=h',toks:=tk }/\Z h') E) PySem.F.called_set.init.plain PySem.F.entry_set_init (check_set_init_1 hT ?_)) fun r2 s2 hr2=>?_
   ·have at1:({ s with heap:=s.heap.push (J0v led) }:Shared).heap.get? s.heap.objs.size=some (J0v led):=at0
    unfold Builtin.«set.__init__» noKeywords;generalize hU:Builtin.Frozenset.updateFrom=U
    wp_walk
    subst hU;exact fill _ _ fun h' tk z=>yG ⟨rfl,h',tk,rfl,z⟩
   ·match r2,hr2 with
    | .error e,hr2=>exact hr2
    | .ok .next,hr2=>exact hr2.elim
    | .ok .brk,hr2=>exact hr2.elim
    | .ok .cont,hr2=>exact hr2.elim
    | .ok (.ret v),hr2 =>
      obtain ⟨rfl,h',tk,rfl,z⟩:=hr2
      repeat (any_goals (first | assumption | wp_step))
      exact h _ _ z
theorem JaF {l:Addr}{vs:List Value}{zs:List Int}{Q:Value->Shared->Prop}(hh:A.handled=none)(hl:s.heap.IsList l vs.toArray)(hv:IntsAre vs zs)(room:zs.length+1<scanBound)
 (h:∀ (h':Heap) (tk:Nat),J3b prog w h' s.heap.objs.size zs->(∀ c o,s.heap.get? c=some o->h'.get? c=some o)->Q (.ref s.heap.objs.size) { s with heap:=h',toks:=tk }):wpAny (model prog w) A (call (.type "set") [.ref l]) Q E s:=by
 have J05:=hv.length;have erg:(List.range vs.toArray.size).map (fun i=>zs.getD i 0)=zs:=by
  refine ext_getElem? fun i=>?_;rw [ze];by_cases hi:i<zs.length
  ·rw [List.getElem?_range (by simp;omega),yU hi]
   simp [yZ,yU hi]
  ·rw [List.getElem?_eq_none (l:=List.range _) (by rw [zo,yY];omega),List.getElem?_eq_none (l:=zs) (by omega)]
   rfl
 refine set_callL (Z:=fun h'=>J3b prog w h' s.heap.objs.size zs/\∀ c o,s.heap.get? c=some o->h'.get? c=some o) (fun E' Q' q=>?_) fun h' tk z=>h h' tk z.1 z.2;generalize hled:(!(w.params.followText "set-order"))=led at *;obtain ⟨ol,hol,hcl,nl,hdl⟩:=id hl;obtain ⟨ocls,odict,odata,oslots⟩:=ol;simp only at hcl hdl;subst hcl;subst hdl;have at1:(s.heap.push (J0v led)).get? l=some { cls:=.type "list",dict:=odict,data:=.seq vs.toArray nl,slots:=oslots }:=zr _ hol;have k1:=PySem.F.sub_list_set;have k2:=PySem.F.sub_list_frozenset;have k3:(Value.type "list" == Value.type "dict")=false:=by decide
 have hl1:(s.heap.push (J0v led)).IsList l vs.toArray:=⟨_,at1,rfl,nl,rfl⟩;unfold Builtin.Frozenset.updateFrom;generalize hP:pyIter=PI
 wp_walk
 subst hP;refine wpAny_pyIter_list hl1 ?_;refine yF (wpAny_runValue ?_);have ll:l<s.heap.objs.size:=zu hol;have sz:(s.heap.push (J0v led)).objs.size=s.heap.objs.size+1:=Heap.size_push ..;refine Jcc (val:=fun i=>zs.getD i 0) ((Walks.list (by simp [hh]) _ l (by rw [sz];exact yO (Nat.lt_succ_of_lt ll)) vs.toArray).toS) (b:=s.heap.objs.size) (by rw [sz];simp;exact Nat.ne_of_gt ll) (fun i v hv'=>?_) (by simp;omega) (vs.toArray.size - 0) 0 _ (by omega) (yQ _) ⟨⟨_,zt _ rfl,rfl,rfl⟩,hl1.push _⟩ ?_ ?_
 ·have hv2:vs[i]?=some v:=by simpa using hv'
  have hi:i<zs.length:=by
   have:=(yV.mp hv2).1;omega
  obtain ⟨t,ht⟩:=hv.get i _ (yU hi);rw [hv2] at ht;cases ht;exact ⟨t,by rw [yZ,yU hi];rfl⟩
 ·have g:=zr (h:=s.heap.push (J0v led)) { cls:=.type "list_iterator",data:=.fields #[.ref l,.int 0 0] } (zt (o:=J0v led) s.heap rfl)
  exact ⟨_,#[],0,.fresh 0 0 led,g,⟨rfl,rfl,rfl⟩,rfl,⟨fun e he=>by simp at he,by rfl,List.Pairwise.nil,hled.symm ▸ rfl,by simp,fun k=>by simp,by simp⟩⟩
 ·intro s' mv hS
  obtain ⟨h',g',d',tk',os'⟩:=s';obtain rfl:g'=s.gens:=mv.gens;obtain rfl:d'=s.drawn:=mv.drawn;obtain rfl:os'=s.os:=mv.os;show wpAny _ _ _ _ _ _;refine yG ?_;rw [erg] at hS;refine q h' tk' ⟨hS,fun c o e=>?_⟩;have hc:=zu e;refine mv.heap c o ?_ (zr _ (zr _ e));rw [sz];simp only [zc,not_mem_nil,or_false,not_or];exact ⟨yO hc,yO (Nat.lt_succ_of_lt hc)⟩
end
theorem J4C:entryFor table "set.__iter__"=some Builtin.«frozenset.__iter__» :=
 entryFor_alias (id':="frozenset.__iter__") (by kernel_rfl) rfl (by decide +kernel) (by kernel_rfl)
theorem JM:Slot "set_iterator" "__next__" "set_iterator.__next__" :=
 .of (owner:="set_iterator") (n:="__next__") (by rw [typeLookup_type,builtinLookup_eq_fast];kernel_rfl) (by decide +kernel) (by decide +kernel) (by decide +kernel)
  (by first | exact .inl (by decide +kernel) | exact .inr (by decide +kernel)) (by rw [isSubtype_type];kernel_rfl)
theorem J1L:entryFor table "set_iterator.__next__"=some Builtin.«set_iterator.__next__»:=entryFor_of_tree (by kernel_rfl)
theorem J1Y (a:Value):argsOk "set_iterator.__next__" ⟨[a],[]⟩:=by unfold argsOk;kernel_rfl
theorem J0L:Slot "set_iterator" "__iter__" "set_iterator.__iter__" :=
 .of (owner:="set_iterator") (n:="__iter__") (by rw [typeLookup_type,builtinLookup_eq_fast];kernel_rfl) (by decide +kernel) (by decide +kernel) (by decide +kernel)
  (by first | exact .inl (by decide +kernel) | exact .inr (by decide +kernel)) (by rw [isSubtype_type];kernel_rfl)
theorem J1M:entryFor table "set_iterator.__iter__"=some Builtin.«dict_keyiterator.__iter__» :=
 entryFor_alias (id':="dict_keyiterator.__iter__") (by kernel_rfl) rfl (by decide +kernel) (by kernel_rfl)
theorem J1Z (a:Value):argsOk "set_iterator.__iter__" ⟨[a],[]⟩:=by unfold argsOk;kernel_rfl
abbrev J9p (first:Value)(i:Nat)(a:Addr)(n ep:Nat):Obj:={ cls:=.type "set_iterator",data:=.fields #[first,.int i 0,.ref a,.int n 0,.int ep 0] }
def SetIt (h:Heap)(it:Addr)(first:Value)(i:Nat)(a:Addr)(n ep:Nat):Prop:=∃ o,h.get? it=some o/\o.cls=.type "set_iterator"/\o.data=.fields #[first,.int i 0,.ref a,.int n 0,.int ep 0]
section
variable {M:Model}{A:Around}{E:Value->Shared->Prop}{s:Shared}
theorem J8q {src:Source}{n:Nat}{Q:Nat->Shared->Prop}(hn:n≠0)(h:∀ i d',i<n->Q i { s with drawn:=d' }):wpAny M A (choose src n) Q E s:=fun Γ p hΓ=>⟨hn,h _ _ (Nat.mod_lt _ (by omega))⟩
theorem J8j {α:Type}:∀ (n:Nat) (xs:List α) (s:Shared) {Q:List α->Shared->Prop},n=xs.length->(∀ l d',l.Perm xs->Q l { s with drawn:=d' })->wpAny M A (drawOrder n xs) Q E s
 | 0,xs,s,Q,hl,h=>by
   have:xs=[]:=eq_nil_of_length_eq_zero hl.symm;subst this;exact yG (h [] s.drawn (.refl _))
 | n+1,[],s,Q,hl,h=>by cases hl
 | n+1,x::xs,s,Q,hl,h=>by
   unfold drawOrder;refine yF (J8q (by simp) fun i d' hi=>?_);rw [yU hi];dsimp only;refine yF (J8j n _ _ (by rw [length_eraseIdx_of_lt hi];omega) fun l d2 hp=>yG ?_);exact h _ d2 ((hp.cons _).trans (J2M _ _ hi))
end
section
variable {prog:Program}{w:World}{A:Around}{E:Value->Shared->Prop}{s:Shared}{a:Addr}{o:Obj}{es:Array (Int×Value)}{ep:Nat}{t:SetTable}{ks:List Int}
abbrev byT (w:World):Bool:=w.params.followText "set-order"
abbrev drw (w:World)(es:Array (Int×Value))(t:SetTable):Bool:=!byT w&&(!t.plain&&decide (es.size > 1))
theorem J7h {Q:Value->Shared->Prop}(ho:s.heap.get? a=some o)(hex:o.ExactSet)(hd:o.data=.set es ep t)(R:SR prog w es t ks)(hz:es.size<=sizeLine)
 (h1:drw w es t=false->Q (.ref s.heap.objs.size) { s with heap:=s.heap.push (J9p (.int 0 0) 0 a es.size ep) })
 (h2:drw w es t=true->∀ (l:List Nat) d',l.Perm (List.range es.size)->Q (.ref (s.heap.objs.size+1:Nat)) { s with heap:=(s.heap.push (seqObj "tuple" (l.map fun (i:Nat)=>Value.int i 0).toArray 0)).push (J9p (.ref s.heap.objs.size) 0 a es.size ep),drawn:=d' }) :
 wpAny (model prog w) A (pyIter (.ref a)) Q E s:=by
 have hT:s.TypeIs (.ref a) "set":=⟨o,ho,hex.1⟩;refine wpAny_pyIter_slot hT PySem.F.slot_set_iter (wpAny_call_entry PySem.F.slot_set_iter hT J4C ?_ (PySem.F.args_set_iter_1 _));show wpAny _ _ (Builtin.Frozenset.sizeOf a >>= _) _ _ s;unfold Builtin.Frozenset.sizeOf;refine yF (yF (wpAny_setEntries_of ho hd R.fits (yG ?_)));refine yF ?_;unfold setDrawn setsByText;refine yF (wpAny_setState_of ho hd R.fits ?_);refine yF (yF (wpAny_askSetting (yG ?_)));show wpAny _ _ (pure (drw w es t)) _ _ s;refine yG ?_;cases hD:drw w es t with
 | false =>
   show wpAny _ _ (pure (rawInt 0) >>= _) _ _ s;refine yF (yG ?_);refine yF (wpAny_setEpoch_of ho hd R.fits ?_);refine yF (wpAny_newObj_type (yG ⟨_,rfl,"set_iterator",_,⟨_,zt _ rfl,rfl⟩,JM.lookup,?_⟩) (by size_fits));exact h1 hD
 | true =>
   show wpAny _ _ (drawOrder es.size (List.range es.size) >>= _) _ _ s;refine yF (J8j _ _ _ (by simp) fun l d' hp=>?_);have hll:l.length=es.size:=by rw [hp.length_eq];simp
   refine yF (wpAny_newTuple ?_ (by rw [yW,hll];exact hz));have ho':=zr (h:=s.heap) { cls:=.type "tuple",data:=.seq (l.map fun (i:Nat)=>rawInt i).toArray } ho;refine yF (wpAny_setEpoch_of (s:={ s with heap:=s.heap.push { cls:=.type "tuple",data:=.seq (l.map fun (i:Nat)=>rawInt i).toArray },drawn:=d' }) ho' hd R.fits ?_);refine yF (wpAny_newObj_type (yG ⟨_,rfl,"set_iterator",_,⟨_,zt _ rfl,rfl⟩,JM.lookup,?_⟩) (by size_fits));have:=h2 hD l d' hp;rw [show (s.heap.push { cls:=.type "tuple",data:=.seq (l.map fun (i:Nat)=>rawInt i).toArray }).objs.size=s.heap.objs.size+1 from Heap.size_push ..];exact this
theorem SetIt.typeIs {it:Addr}{first:Value}{i n:Nat}(x:SetIt s.heap it first i a n ep):s.TypeIs (.ref it) "set_iterator":=let ⟨o,ho,hc,_⟩:=x;⟨o,ho,hc⟩
theorem SetIt.at {h h':Heap}{it:Addr}{first:Value}{i n:Nat}(x:SetIt h it first i a n ep)(e:∀ o,h.get? it=some o->h'.get? it=some o):SetIt h' it first i a n ep:=let ⟨o,ho,r⟩:=x;⟨o,e _ ho,r⟩
theorem setIt_next {it:Addr}{f:Value}{i n:Nat}{Q:Option Value->Shared->Prop}(hit:SetIt s.heap it f i a n ep)(ho:s.heap.get? a=some o)(hd:o.data=.set es ep t)(hf:t.fits es.size=true)(hn:n=es.size)
 (h:wpAny (model prog w) A.in1 (do
  if let .int slot _:=f then
   match <- setNext a slot.toNat i ep with
   | some (x,next) =>
     setField (.ref it) 0 (rawInt next)
     setField (.ref it) 1 (rawInt ((i:Int)+1))
     ret x
   | none=>setField (.ref it) 2 .none;raiseNew (<- newExc (.type "StopIteration") [])
  else
   let some places <- seqItems? f | unsupported "internal:set_iterator"
   match places[i]? with
   | some (.int place _) =>
     let x <- setNextDrawn a place.toNat ep
     setField (.ref it) 1 (rawInt ((i:Int)+1))
     ret x
   | some _=>unsupported "internal:set_iterator"
   | none=>setField (.ref it) 0 (rawInt 0);setField (.ref it) 2 .none;raiseNew (<- newExc (.type "StopIteration") []))
  (fun fin s'=>∃ r,fin=.done (.ret r)/\Q (some r) s') (fun e s'=>wpAny (model prog w) A (do if <- isInstance e (.type "StopIteration") then pure none else throw e) Q E s') s) :
 wpAny (model prog w) A (pyNext (.ref it)) Q E s:=by
 obtain ⟨oi,hoi,hci,hdi⟩:=id hit;unfold pyNext;refine yF (wpAny_attempt (wpAny_callSpecial?_slot (name:=Str.ofString "__next__") hit.typeIs JM
  (wpAny_call_entry JM hit.typeIs J1L ?_ (J1Y _))))
 unfold Builtin.«set_iterator.__next__»;refine yF (yG ?_);refine yF (wpAny_fieldsOf hoi hdi ?_);dsimp only;refine yF (wpAny_setEntries_of ho hd hf ?_);rw [yH (by rw [hn];simp)];exact wpAny_mono h (fun fin s' ⟨r,e,q⟩=>⟨r,e,yG q⟩) fun _ _ z=>z
theorem J2l {h:Heap}{it:Addr}{x0 x1 x2 x3 x4:Value}{o:Obj}(ho:h.get? it=some o)(hc:o.cls=.type "set_iterator")(hd:o.data=.fields #[x0,x1,x2,x3,x4])(k:Nat)(v:Value) :
 ∃ o',(h.update it (Obj.mapFields (·.setIfInBounds k v))).get? it=some o'/\o'.cls=.type "set_iterator"/\o'.data=.fields (#[x0,x1,x2,x3,x4].setIfInBounds k v) :=
 ⟨_,Heap.get?_update_self _ ho (Obj.isFreed_of_fields (Obj.data_mapFields hd _)),(Obj.cls_mapFields ..).trans hc,by rw [Obj.data_mapFields hd]⟩
theorem J7O {h:Heap}{Q:Option Value->Shared->Prop}(hh:A.handled=none)(hQ:∀ h',(∀ b o,h.get? b=some o->h'.get? b=some o)->Q none { s with heap:=h' }) :
 wpAny (model prog w) A.in1 (do raiseNew (<- newExc (.type "StopIteration") []):Sem PySem.Fin) (fun fin s'=>∃ r,fin=.done (.ret r)/\Q (some r) s') (fun e s'=>wpAny (model prog w) A (do if <- isInstance e (.type "StopIteration") then pure none else throw e) Q E s') { s with heap:=h }:=by
 refine yF ?_;simp only [newExc,newTuple];refine yF (wpAny_newObj_type ?_ (by size_fits));refine yF (m:=firstArgMember _ _) (wpAny_of_eq (a:=Value.none) (by first | rfl | (simp only [firstArgMember];rfl)) ?_);refine wpAny_newObj_type ?_ (by size_fits);simp only [raiseNew];refine yF (wpAny_handled ?_);rw [show A.in1.handled=none from hh];refine yF (yG (wpAny_throw ?_));refine yF (wpAny_isInstance (T:="StopIteration") (b:=true) ⟨_,zt _ rfl,rfl⟩ isSubtype_stop ?_);exact yG (hQ _ fun b o e=>zr _ (zr _ e))
theorem JV {h:Heap}{b it:Addr}{f:Obj->Obj}{o:Obj}(hb:b≠it)(e:h.get? b=some o):(h.update it f).get? b=some o:=(zw _ _ (Ne.symm hb)).trans e
theorem J2Y {it:Addr}{first:Value}{i n:Nat}{Q:Value->Shared->Prop}(hit:SetIt s.heap it first i a n ep)(h:Q (.ref it) s):wpAny (model prog w) A (pyIter (.ref it)) Q E s:=by
 refine wpAny_pyIter_slot hit.typeIs J0L (wpAny_call_entry J0L hit.typeIs J1M ?_ (J1Z _));show wpAny _ _ (ret (.ref it)) _ _ s;exact yG ⟨_,rfl,"set_iterator",_,hit.typeIs,JM.lookup,h⟩
theorem J3U (hh:A.handled=none)(I:Addr)(hne:a≠I)(hd:o.data=.set es ep t)(hf:t.fits es.size=true)(vs:List Value)(sl:Nat->Nat)(hn:vs.length=es.size)
 (hnx:∀ (A':Around) (E':Value->Shared->Prop) (s':Shared) (Q':Option (Value×Nat)->Shared->Prop) (i:Nat) (v:Value),vs[i]?=some v->s'.heap.get? a=some o->Q' (some (v,sl (i+1))) s'->wpAny (model prog w) A' (setNext a (sl i) i ep) Q' E' s')
 (hen:∀ (A':Around) (E':Value->Shared->Prop) (s':Shared) (Q':Option (Value×Nat)->Shared->Prop),s'.heap.get? a=some o->Q' none s'->wpAny (model prog w) A' (setNext a (sl vs.length) vs.length ep) Q' E' s') :
 Walks prog w A I [I,a] [I] vs.length (fun i v=>vs[i]?=some v) (fun i h=>SetIt h I (.int (sl i) 0) i a vs.length ep/\h.get? a=some o) where
 sub:=fun b hb=>by simp at hb;simp [hb]
 frame:=fun _ _ _ st hk=>⟨st.1.at fun o e=>hk I (by simp) o e,hk a (by simp) _ st.2⟩
 item:=fun i s Q E hi st hQ=>by
  obtain ⟨⟨oi,hoi,hci,hdi⟩,hoa⟩:=st;refine setIt_next ⟨oi,hoi,hci,hdi⟩ hoa hd hf hn ?_;refine yF (hnx _ _ _ _ i vs[i] (yU hi) hoa ?_);dsimp only;refine yF (wpAny_setField hoi hdi (by simp) ?_);obtain ⟨o1,g1,c1,d1⟩:=J2l hoi hci hdi 0 (rawInt (sl (i+1)));refine yF (wpAny_setField (s:={ s with heap:=_ }) g1 d1 (by simp) ?_);obtain ⟨o2,g2,c2,d2⟩:=J2l (x0:=rawInt (sl (i+1))) g1 c1 (by rw [d1];rfl) 1 (rawInt ((i:Int)+1));refine yG ⟨_,rfl,hQ _ _ s.toks (yU hi) ⟨⟨o2,g2,c2,by rw [d2];rfl⟩,JV hne (JV hne hoa)⟩ fun b o' hb e=>JV (by simpa using hb) (JV (by simpa using hb) e)⟩
 done:=fun s Q E st hQ=>by
  obtain ⟨⟨oi,hoi,hci,hdi⟩,hoa⟩:=st;refine setIt_next ⟨oi,hoi,hci,hdi⟩ hoa hd hf hn ?_;refine yF (hen _ _ _ _ hoa ?_);dsimp only;refine yF (wpAny_setField hoi hdi (by simp) ?_);refine J7O hh fun h' hk=>hQ h' s.toks fun b o' hb e=>hk _ _ (JV (by simpa using hb) e)
 self:=fun i s Q E st hQ=>J2Y st.1 hQ
theorem J8r (hh:A.handled=none)(I T:Addr)(hne:a≠I)(hnT:T≠I)(hd:o.data=.set es ep t)(hf:t.fits es.size=true)(l:List Nat)(hl:∀ i∈l,i<es.size)(hn:l.length=es.size) :
 Walks prog w A I [I,a,T] [I] l.length (fun i v=>(l.map fun j=>(es.getD j (0,Value.none)).2)[i]?=some v)
  (fun i h=>SetIt h I (.ref T) i a l.length ep/\h.get? a=some o/\h.get? T=some (seqObj "tuple" (l.map fun (i:Nat)=>Value.int i 0).toArray 0)) where
 sub:=fun b hb=>by simp at hb;simp [hb]
 frame:=fun _ _ _ st hk=>⟨st.1.at fun o e=>hk I (by simp) o e,hk a (by simp) _ st.2.1,hk T (by simp) _ st.2.2⟩
 item:=fun i s Q E hi st hQ=>by
  obtain ⟨⟨oi,hoi,hci,hdi⟩,hoa,hoT⟩:=st;refine setIt_next ⟨oi,hoi,hci,hdi⟩ hoa hd hf hn ?_;dsimp only;have hp:(l.map fun (i:Nat)=>Value.int i 0).toArray[i]?=some (Value.int (l[i]:Nat) 0):=by simp [hi]
  have hls:l[i]<es.size:=hl _ (getElem_mem hi);have hv:(l.map fun j=>(es.getD j (0,Value.none)).2)[i]?=some es[l[i]].2:=by simp [hi,Array.getD,hls]
  refine yF (m:=seqItems? (.ref T)) (yF (wpAny_load hoT (yG ?_)));dsimp only;rw [hp];dsimp only;unfold setNextDrawn;refine yF (yF (wpAny_setState_of hoa hd hf ?_));dsimp only;rw [yH (by simp),show ((l[i]:Nat):Int).toNat=l[i] from rfl,Array.getElem?_eq_getElem hls];refine yG ?_;refine yF (wpAny_setField hoi hdi (by simp) ?_);obtain ⟨o2,g2,c2,d2⟩:=J2l hoi hci hdi 1 (rawInt ((i:Int)+1));exact yG ⟨_,rfl,hQ _ _ s.toks hv ⟨⟨o2,g2,c2,by rw [d2];rfl⟩,JV hne hoa,JV hnT hoT⟩ fun b o' hb e=>JV (by simpa using hb) e⟩
 done:=fun s Q E st hQ=>by
  obtain ⟨⟨oi,hoi,hci,hdi⟩,hoa,hoT⟩:=st;refine setIt_next ⟨oi,hoi,hci,hdi⟩ hoa hd hf hn ?_;dsimp only;refine yF (m:=seqItems? (.ref T)) (yF (wpAny_load hoT (yG ?_)));dsimp only;rw [show (l.map fun (i:Nat)=>Value.int i 0).toArray[l.length]?=none by simp];dsimp only;refine yF (wpAny_setField hoi hdi (by simp) ?_);obtain ⟨o1,g1,c1,d1⟩:=J2l hoi hci hdi 0 (rawInt 0);refine yF (wpAny_setField (s:={ s with heap:=_ }) g1 d1 (by simp) ?_);refine J7O hh fun h' hk=>hQ h' s.toks fun b o' hb e=>hk _ _ (JV (by simpa using hb) (JV (by simpa using hb) e))
 self:=fun i s Q E st hQ=>J2Y st.1 hQ
theorem J9W (hb:byT w=true)(hd:o.data=.set es ep t)(hf:t.fits es.size=true)(A':Around)(E':Value->Shared->Prop)(s':Shared)(Q':Option (Value×Nat)->Shared->Prop)(i:Nat)(ho:s'.heap.get? a=some o)
 (h:Q' (((pickOrder (w.params.setOrder a ep) es)[i]?).map fun e=>(e.2,0)) s'):wpAny (model prog w) A' (setNext a 0 i ep) Q' E' s':=by
 unfold setNext setsByText;refine yF (wpAny_setState_of ho hd hf ?_);dsimp only;refine yF (yF (wpAny_askSetting (yG ?_)));show wpAny _ _ (if byT w=true then _ else _) _ _ _;rw [yI hb,yH (by simp)];unfold setWalk setsByText;refine yF (yF (wpAny_setState_of ho hd hf ?_));dsimp only;refine yF (yF (wpAny_askSetting (yG ?_)));show wpAny _ _ (if byT w=true then _ else _) _ _ _;rw [yI hb];refine yF (wpAny_askSetting (yG (yG h)))
theorem J9V (hb:byT w=false)(hD:drw w es t=false)(hd:o.data=.set es ep t)(hf:t.fits es.size=true)(hl:t.led=true)(slot:Nat)(A':Around)(E':Value->Shared->Prop)(s':Shared)(Q':Option (Value×Nat)->Shared->Prop)(i:Nat)(ho:s'.heap.get? a=some o)
 (h:Q' (match es[SetTable.below t.place slot]?,t.place[SetTable.below t.place slot]? with | some (_,x),some j=>some (x,j+1) | _,_=>none) s'):wpAny (model prog w) A' (setNext a slot i ep) Q' E' s':=by
 unfold setNext setsByText;refine yF (wpAny_setState_of ho hd hf ?_);dsimp only;refine yF (yF (wpAny_askSetting (yG ?_)));have hD':(!t.plain&&decide (es.size > 1))=false:=by
  have:drw w es t=(!byT w&&(!t.plain&&decide (es.size > 1))):=rfl;rw [this,hb] at hD;simpa using hD
 show wpAny _ _ (if byT w=true then _ else if (!t.plain&&decide (es.size > 1))=true then _ else _) _ _ _;rw [hb,hD',yH yK,yH yK];show wpAny _ _ ((if (!t.led&&!es.isEmpty)=true then unsupported "set:maker-not-led" else pure ()) >>= _) _ _ _;rw [hl,yH (by simp)];exact yF (yG (yG h))
end
section
variable {prog:Program}{w:World}{es:Array (Int×Value)}{t:SetTable}{ks:List Int}
theorem Jb4 {l:List (Int×Value)}:(∀ e∈l,∃ k,(intKind prog w).is k e.2=true)->IntsAre (l.map (·.2)) (l.map kOf):=by
 induction l with
 | nil=>intro _;exact .nil
 | cons e l ih =>
   intro h;obtain ⟨k,hk⟩:=h e y9;obtain ⟨tk,et⟩:=isInt_shape hk;have e1:kOf e=k:=by unfold kOf;rw [et];rfl
   rw [zd,zd,et,e1];exact .cons k tk (ih fun x hx=>h x (y8 _ hx))
theorem SR.ints (R:SR prog w es t ks){l:List (Int×Value)}(p:l.Perm es.toList):IntsAre (l.map (·.2)) (l.map kOf)/\(l.map kOf).Nodup/\(∀ k,k∈l.map kOf↔k∈ks)/\l.length<=ks.length :=
 ⟨Jb4 fun e he=>let ⟨⟨k,hk,_⟩,_⟩:=R.el e (p.mem_iff.mp he);⟨k,hk⟩,(p.map kOf).nodup_iff.mpr R.nd,fun k=>((p.map kOf).mem_iff).trans (R.mem k),by rw [p.length_eq,yT];exact R.len⟩
theorem J7x {α:Type}(es:Array α)(d:α):(List.range es.size).map (fun j=>es.getD j d)=es.toList:=by
 refine ext_getElem? fun i=>?_;rw [ze,show es.toList[i]?=es[i]? from Array.getElem?_toList];by_cases hi:i<es.size
 ·rw [List.getElem?_range hi,Array.getElem?_eq_getElem hi]
  simp [Array.getD,hi]
 ·rw [List.getElem?_eq_none (l:=List.range _) (by rw [zo];omega),Array.getElem?_eq_none (by omega)]
  rfl
end
section
variable {prog:Program}{w:World}{A:Around}{E:Value->Shared->Prop}{s:Shared}{a:Addr}{ks:List Int}
theorem iter_R {Q:Value->Shared->Prop}(hh:A.handled=none)(h:J3b prog w s.heap a ks)(hz:ks.length<=sizeLine)
 (hQ:∀ (I:Addr) (h1:Heap) d1 (fp:List Addr) (St:Nat->Heap->Prop) (vs:List Value) (ms:List Int),Walks prog w A I fp [I] vs.length (fun i v=>vs[i]?=some v) St->St 0 h1->s.heap.objs.size<=I->(∀ b∈fp,b=a\/s.heap.objs.size<=b) ->
  (∀ b o,s.heap.get? b=some o->h1.get? b=some o)->IntsAre vs ms->ms.Nodup->(∀ k,k∈ms↔k∈ks)->vs.length<=ks.length->Q (.ref I) { s with heap:=h1,drawn:=d1 }):wpAny (model prog w) A (pyIter (.ref a)) Q E s:=by
 obtain ⟨o,es,ep,t,ho,hex,hd,R⟩:=h;have hfe:t.place.size=es.size:=by
  have:=R.fits;simp only [SetTable.fits,Bool.and_eq_true,beq_iff_eq] at this;exact this.1
 have hla:a<s.heap.objs.size:=zu ho;refine J7h ho hex hd R (yR R.len hz) (fun hD=>?_) fun hD l d' hp=>?_
 ·cases hb:byT w with
  | true =>
    have hp:=J8C (w.params.setOrder a ep) es;obtain ⟨i1,i2,i3,i4⟩:=R.ints hp;have hn:((pickOrder (w.params.setOrder a ep) es).toList.map (·.2)).length=es.size:=by rw [yW,hp.length_eq,yT]
    refine hQ s.heap.objs.size _ s.drawn _ _ _ _ (J3U hh s.heap.objs.size (yO hla) hd R.fits ((pickOrder (w.params.setOrder a ep) es).toList.map (·.2)) (fun _=>0) hn (fun A' E' s' Q' i v hv ho' hq=>?_) (fun A' E' s' Q' ho' hq=>?_)) ⟨⟨_,zt _ rfl,rfl,by rw [hn];rfl⟩,zr _ ho⟩ (yJ _) (fun b hb=>?_) (fun b o e=>zr _ e) i1 i2 i3 (by rw [yW];exact i4)
    ·refine J9W hb hd R.fits A' E' s' Q' i ho' ?_
     rw [ze,Array.getElem?_toList] at hv;obtain ⟨e,he,rfl⟩:=Option.map_eq_some_iff.mp hv;rw [he];exact hq
    ·refine J9W hb hd R.fits A' E' s' Q' _ ho' ?_
     rw [yW,yT,Array.getElem?_eq_none (yJ _)];exact hq
    ·rcases zc.mp hb with rfl | hb
     ·exact .inr (yJ _)
     ·exact .inl (yX.mp hb)
  | false =>
    have hled:t.led=true:=by rw [R.led,show w.params.followText "set-order"=false from hb];rfl
    obtain ⟨i1,i2,i3,i4⟩:=R.ints (.refl _);have hn:(es.toList.map (·.2)).length=es.size:=by rw [yW,yT]
    have hbel:∀ i,i<=es.size->SetTable.below t.place (match i with | 0=>0 | j+1=>t.place.getD j 0+1)=i:=fun i hi=>by
     refine J72 R.ris (by omega) (fun k hk hki=>?_) (fun k hk hki=>?_)
     ·cases i with
      | zero=>omega
      | succ j =>
        have hj:j<t.place.size:=by omega
        have e:t.place.getD j 0=t.place[j]:=by simp [Array.getD,hj]
        dsimp only;rw [e];rcases Nat.lt_or_eq_of_le (Nat.le_of_lt_succ hki) with z | rfl
        ·exact Nat.lt_succ_of_lt (R.ris.lt z hj)
        ·exact Nat.lt_succ_self _
     ·cases i with
      | zero=>exact yQ _
      | succ j =>
        have hj:j<t.place.size:=by omega
        have e:t.place.getD j 0=t.place[j]:=by simp [Array.getD,hj]
        dsimp only;rw [e];exact R.ris.lt hki hk
    refine hQ s.heap.objs.size _ s.drawn _ _ _ _ (J3U hh s.heap.objs.size (yO hla) hd R.fits (es.toList.map (·.2)) (fun i=>match i with | 0=>0 | j+1=>t.place.getD j 0+1) hn (fun A' E' s' Q' i v hv ho' hq=>?_) (fun A' E' s' Q' ho' hq=>?_)) ⟨⟨_,zt _ rfl,rfl,by rw [hn];rfl⟩,zr _ ho⟩ (yJ _) (fun b hb=>?_) (fun b o e=>zr _ e) i1 i2 i3 (by rw [yW];exact i4)
    ·refine J9V hb hD hd R.fits hled _ A' E' s' Q' i ho' ?_
     rw [ze,Array.getElem?_toList] at hv;obtain ⟨e,he,rfl⟩:=Option.map_eq_some_iff.mp hv;have hi:i<es.size:=(Array.getElem?_eq_some_iff.mp he).1;rw [hbel i (Nat.le_of_lt hi),he,Array.getElem?_eq_getElem (show i<t.place.size by omega)];have e2:t.place.getD i 0=t.place[i]'(by omega):=by simp [Array.getD,show i<t.place.size by omega]
     dsimp only at hq ⊢;rw [e2] at hq;exact hq
    ·refine J9V hb hD hd R.fits hled _ A' E' s' Q' _ ho' ?_
     rw [hn,hbel es.size (yJ _),Array.getElem?_eq_none (yJ _)];exact hq
    ·rcases zc.mp hb with rfl | hb
     ·exact .inr (yJ _)
     ·exact .inl (yX.mp hb)
 ·have hlt:∀ i∈l,i<es.size:=fun i hi=>by simpa using hp.mem_iff.mp hi
  have hll:l.length=es.size:=by rw [hp.length_eq];simp
  have hp2:(l.map fun j=>es.getD j (0,Value.none)).Perm es.toList:=by
   rw [<- J7x es (0,Value.none)];exact hp.map _
  obtain ⟨i1,i2,i3,i4⟩:=R.ints hp2;rw [yW] at i4;have hsz:(s.heap.push (seqObj "tuple" (l.map fun (i:Nat)=>Value.int i 0).toArray 0)).objs.size=s.heap.objs.size+1:=Heap.size_push ..;have W:=J8r (prog:=prog) (w:=w) (A:=A) hh (s.heap.objs.size+1:Nat) s.heap.objs.size (a:=a) (yO (Nat.lt_succ_of_lt hla)) (yO (Nat.lt_succ_self _)) hd R.fits l hlt hll;have ev:((l.map fun j=>es.getD j (0,Value.none)).map (·.2))=l.map fun j=>(es.getD j (0,Value.none)).2:=by rw [map_map];rfl
  rw [ev] at i1;have hl2:(l.map fun j=>(es.getD j (0,Value.none)).2).length=l.length:=yW ..;have W2:Walks prog w A (s.heap.objs.size+1:Nat) [(s.heap.objs.size+1:Nat),a,s.heap.objs.size] [(s.heap.objs.size+1:Nat)] (l.map fun j=>(es.getD j (0,Value.none)).2).length (fun i v=>(l.map fun j=>(es.getD j (0,Value.none)).2)[i]?=some v)
   (fun i h=>SetIt h (s.heap.objs.size+1:Nat) (.ref s.heap.objs.size) i a l.length ep/\h.get? a=some o/\h.get? s.heap.objs.size=some (seqObj "tuple" (l.map fun (i:Nat)=>Value.int i 0).toArray 0)):=by rw [hl2];exact W
  refine hQ _ _ d' _ _ _ _ W2 ⟨⟨_,by rw [<- hsz];exact zt _ rfl,rfl,by rw [hll]⟩,zr _ (zr _ ho),zr _ (zt _ rfl)⟩ (Nat.le_succ _) (fun b hb=>?_) (fun b o e=>zr _ (zr _ e)) i1 i2 i3 (by rw [hl2];exact i4);rcases zc.mp hb with rfl | hb
  ·exact .inr (Nat.le_succ _)
  ·rcases zc.mp hb with rfl | hb
   ·exact .inl rfl
   ·exact .inr (by rw [yX.mp hb];exact yJ _)
theorem Ja7 {Q:Bool->Shared->Prop}{r:Addr}(hT:s.TypeIs (.ref r) "set")(h:Q false s):wpAny (model prog w) A (Builtin.List.listLengthHint (.ref r)) Q E s:=by
 unfold Builtin.List.listLengthHint;refine yF (wpAny_specialOf hT PySem.F.slot_set_len.lookup ?_);generalize hid:("set.__len__":String)=id0
 wp_delta
 rw [show splitId id0=some ("set","__len__") from by subst hid;decide +kernel];subst hid;refine yF (wpAny_isInstance (T:="set") (b:=true) hT (by rw [isSubtype_type];kernel_rfl) ?_);refine wpAny_ite_split (fun hab=>absurd hab (by decide)) (fun _=>?_);refine wpAny_ite_split (fun _=>?_) (fun hab=>absurd (by decide +kernel) hab);refine yF (wpAny_typeOf hT ?_);exact yG h
theorem extend_set {R:Result->Shared->Prop}(hh:A.handled=none)(hS0:J3b prog w s.heap a ks)(hz:ks.length<=sizeLine)(S:Addr)(hSa:S≠a)(res:Value)(c₀:Nat)(hS:s.heap.get? S=some { cls:=.type "list",data:=.seq #[] c₀ })
 (hR:∀ h' tk d' acc' c' ms,(∀ b o,b≠S->s.heap.get? b=some o->h'.get? b=some o)->h'.get? S=some { cls:=.type "list",dict:=none,data:=.seq acc' c',slots:=#[] }->IntsAre acc'.toList ms->ms.Nodup->(∀ k,k∈ms↔k∈ks)->ms.length<=ks.length ->
  R (.ok (.ret res)) { s with heap:=h',toks:=tk,drawn:=d' }) :
 wpAny (model prog w) A.in1 (Builtin.List.listExtendWith (.ref S) (.ref a) res)
  (fun fin s'=>match fin with | .done f=>R (.ok f) s' | .again c'=>c'.quiet=true/\codeAny (model prog w) A c' R s') (fun e s'=>R (.error e) s') s:=by
 have hT:s.TypeIs (.ref a) "set":=by obtain ⟨o,_,_,_,ho,hex,_⟩:=hS0;exact ⟨o,ho,hex.1⟩
 unfold Builtin.List.listExtendWith;refine yF (wpAny_typeOf (T:="set") hT ?_);have h1:Builtin.List.listSameRef (.ref S) (.ref a)=false:=by simp [Builtin.List.listSameRef,hSa]
 have h2:(Value.type "set" == Value.type "list")=false:=by decide
 have h3:(Value.type "set" == Value.type "tuple")=false:=by decide
 simp only [h1,h2,h3,Bool.or_false,Bool.false_eq_true,if_false];refine yF (iter_R (A:=A.in1) hh hS0 hz fun I hp1 d1 fp St vs ms W st hI hfp hk hi hnd hmem hle=>?_);have hSf:S∉fp:=fun z=>by
  rcases hfp S z with e | e
  ·exact hSa e
  ·exact absurd (zu hS) (Nat.not_lt.mpr e)
 have hT1:Shared.TypeIs { s with heap:=hp1,drawn:=d1 } (.ref a) "set":=by obtain ⟨o,ho,hc⟩:=hT;exact ⟨o,hk _ _ ho,hc⟩
 have hS1:=hk _ _ hS;refine yF (wpAny_holding (Ja7 hT1 ?_));have key:∀ (h:Heap) (c₁ tk:Nat),St 0 h->(∀ b o,b≠S->s.heap.get? b=some o->h.get? b=some o) ->
  h.get? S=some { cls:=.type "list",data:=.seq #[] c₁ }->codeAny (model prog w) A (.builtin "list.extend.loop" ⟨[.ref S,.ref I,res],[]⟩) R { s with heap:=h,toks:=tk,drawn:=d1 }:=by
  intro h c₁ tk hst hk' hS₁;refine codeAny_extend_loopS W.toS (by omega) S hSf res vs.length 0 _ #[] c₁ rfl (yQ _) hst hS₁ (ItemsOf.nil _) fun s' acc' c' hm hS' hacc=>?_;rw [Moved.eq_with hm];have ea:acc'.toList=vs:=by
   refine ext_getElem? fun j=>?_;rw [Array.getElem?_toList];by_cases hj:j<acc'.size
   ·rw [Array.getElem?_eq_getElem hj,hacc.2 j _ (Array.getElem?_eq_getElem hj)]
   ·have:=hacc.1
    rw [Array.getElem?_eq_none (by omega),List.getElem?_eq_none (by omega)]
  refine hR s'.heap s'.toks d1 acc' c' ms (fun b o hb e=>hm.heap b o (fun hmem=>?_) (hk' b o hb e)) hS' (by rw [ea];exact hi) hnd hmem (by rw [<- hi.length];exact hle);rcases zc.mp hmem with e' | hmem
  ·exact hb e'
  ·rw [yX.mp hmem] at e
   exact absurd (zu e) (Nat.not_lt.mpr hI)
 refine wpAny_ite_split (fun _=>?_) (fun _=>yG ⟨plainId_quiet PySem.F.plain_extend_loop _,key _ c₀ _ st (fun b o _ e=>hk b o e) hS1⟩);refine yF (wpAny_rule ?_);refine yF ?_;show wpAny _ _ (updateSeq S (·.push .none) >>= fun _=>updateSeq S (·.pop)) _ _ _;refine yF (wpAny_updateSeq hS1 rfl ?_);have hS₂:=Heap.get?_update_self (Obj.mapSeq (·.push Value.none)) hS1 rfl;refine wpAny_updateSeq (hz:=by seq_fits) hS₂ rfl ?_;have hS₃:=Heap.get?_update_self (Obj.mapSeq (·.pop)) hS₂ rfl;refine yG ⟨plainId_quiet PySem.F.plain_extend_loop _,key _ _ _ ?_ (fun b o hb e=>?_) hS₃⟩
 ·refine W.frame 0 _ _ st fun b hb o e=>?_
  have hbS:b≠S:=fun h=>hSf (h ▸ hb);exact JV hbS (JV hbS e)
 ·exact JV hb (JV hb (hk _ _ e))
theorem J8A {R:Result->Shared->Prop}(hh:A.handled=none)(hS0:J3b prog w s.heap a ks)(hz:ks.length<=sizeLine)
 (hR:∀ h' tk d' acc' c' ms,(∀ b o,s.heap.get? b=some o->h'.get? b=some o)->h'.get? s.heap.objs.size=some { cls:=.type "list",dict:=none,data:=.seq acc' c',slots:=#[] }->IntsAre acc'.toList ms->ms.Nodup->(∀ k,k∈ms↔k∈ks)->ms.length<=ks.length ->
  R (.ok (.ret (.ref s.heap.objs.size))) { s with heap:=h',toks:=tk,drawn:=d' }) :
 codeAny (model prog w) A (.builtin "proto.collect" ⟨[.ref a],[]⟩) R s:=by
 have hla:a<s.heap.objs.size:=by obtain ⟨o,_,_,_,ho,_⟩:=hS0;exact zu ho
 refine codeAny_builtin PySem.F.entry_proto_collect ?_;rw [zA PySem.F.plain_proto_collect _];show wpAny _ A.in1 (newList [] >>= fun l=>again (.builtin "list.__iadd__" ⟨[l,.ref a],[]⟩)) _ _ s;refine yF (wpAny_newObj_type ?_);refine yG ⟨plainId_quiet PySem.F.plain_list_iadd _,codeAny_builtin PySem.F.entry_list_iadd ?_⟩;rw [zA PySem.F.plain_list_iadd _];have hS:(s.heap.push { cls:=.type "list",data:=.seq ([]:List Value).toArray }).get? s.heap.objs.size=some { cls:=.type "list",data:=.seq #[] 0 }:=zt _ rfl;show wpAny _ A.in1 (Builtin.List.listExtendWith (.ref s.heap.objs.size) (.ref a) (.ref s.heap.objs.size)) _ _ _;exact extend_set (s:={ s with heap:=s.heap.push { cls:=.type "list",data:=.seq ([]:List Value).toArray } }) (A:=A) hh (by obtain ⟨o,es,ep,t,ho,r⟩:=hS0;exact ⟨o,es,ep,t,zr _ ho,r⟩) hz s.heap.objs.size (Nat.ne_of_gt hla) (.ref s.heap.objs.size) 0 hS
  (fun h' tk d' acc' c' ms hk hS' hi hnd hmem hle=>hR h' tk d' acc' c' ms (fun b o e=>hk b o (yO (zu e)) (zr _ e)) hS' hi hnd hmem hle)
theorem J6U {Q:List Value->Shared->Prop}(hh:A.handled=none)(hS0:J3b prog w s.heap a ks)(hz:ks.length<=sizeLine)
 (hQ:∀ h' tk d' vs ms,(∀ b o,s.heap.get? b=some o->h'.get? b=some o)->s.heap.objs.size<h'.objs.size->IntsAre vs ms->ms.Nodup->(∀ k,k∈ms↔k∈ks)->ms.length<=ks.length->Q vs { s with heap:=h',toks:=tk,drawn:=d' }):wpAny (model prog w) A (collect (.ref a)) Q E s:=by
 unfold collect;refine yF (wpAny_runValue (J8A hh hS0 hz fun h' tk d' acc' c' ms hk hS' hi hnd hmem hle=>?_));show wpAny _ A (load s.heap.objs.size >>= _) _ _ _;refine yF (wpAny_load hS' ?_);exact yG (hQ h' tk d' acc'.toList ms hk (zu hS') hi hnd hmem hle)
end
theorem J64:bootBuiltins "sorted"=some (.builtin "sorted"):=by decide +kernel
theorem J8t {ms:List Int}(h:ms.Pairwise (·<=·))(n:ms.Nodup):ms.Pairwise (·<·):=by
 have:=List.Pairwise.and h n;exact this.imp fun ⟨a,b⟩=>by omega
section
variable {X:Cx}{K:Frag}{e:Expr}{te:TE}{p1 p2 q1 q2:Pos}{pins:List (Addr×Obj)}{σ:St}{H:Hp}{s:Shared}
theorem Inv.drw (I:Inv X pins σ H s)(d):Inv X pins σ H { s with drawn:=d }:=⟨I.ok,I.os,I.bare,I.base,I.loc,I.cell,I.free,I.freeC,I.pin,I.hok,I.len⟩
end
end L2
namespace L2
open PySem PyProof.Rows
section
variable {M:Model}{A:Around}{E:Value->Shared->Prop}{s:Shared}{τ α:Type}{c:Prop}[Decidable c]{a b:StateT τ Sem α}{Q:α->τ->Prop}{st:τ}
theorem JA (h:c)(q:wpS M A E s a Q st):wpS M A E s (if c then a else b) Q st:=by rw [yI h];exact q
theorem JQ (h:¬ c)(q:wpS M A E s b Q st):wpS M A E s (if c then a else b) Q st:=by rw [yH h];exact q
end
structure Held (T:Prop):Prop where
 out:T
theorem J7C {T R:Prop}(f:Held T->R)(t:T):R:=f ⟨t⟩
abbrev Up (rk:Value->Nat)(l:List Keyed):Prop:=l.Pairwise fun x y=>rk x.1<=rk y.1
structure MLo (rk:Value->Nat)(la lb o:List Keyed)(ia ib:Nat):Prop where
 perm:(o++(la.drop ia++lb.drop ib)).Perm (la++lb)
 up:Up rk o
 low:∀ x∈o,∀ y∈la.drop ia++lb.drop ib,rk x.1<=rk y.1
section
variable {rk:Value->Nat}{la lb o:List Keyed}{ia ib k:Nat}
theorem MLo.start:MLo rk la lb [] 0 0:=⟨by simp,.nil,fun x h=>nomatch h⟩
theorem MLo.chA (m:MLo rk la lb o ia ib)(ha:Up rk la)(h:∀ x∈(la.drop ia).take k,∀ y∈lb.drop ib,rk x.1<=rk y.1):MLo rk la lb (o++(la.drop ia).take k) (ia+k) ib:=by
 have e:la.drop ia=(la.drop ia).take k++la.drop (ia+k):=by rw [<- drop_drop];exact (take_append_drop k _).symm
 have hd:Up rk ((la.drop ia).take k++la.drop (ia+k)):=by rw [<- e];exact List.Pairwise.sublist (drop_sublist _ _) ha
 obtain ⟨h1,h2,h3⟩:=pairwise_append.mp hd;have mem:∀ x,x∈(la.drop ia).take k->x∈la.drop ia:=fun x hx=>mem_of_mem_take hx;refine ⟨?_,?_,?_⟩
 ·have p:=m.perm
  rw [e] at p;simpa [zp] using p
 ·refine pairwise_append.mpr ⟨m.up,h1,fun x hx y hy=>m.low x hx y (zj _ (mem y hy))⟩
 ·intro x hx y hy
  rcases zh.mp hx with hx | hx
  ·refine m.low x hx y ?_
   rcases zh.mp hy with hy | hy
   ·rw [e];exact zj _ (zi _ hy)
   ·exact zi _ hy
  ·rcases zh.mp hy with hy | hy
   ·exact h3 x hx y hy
   ·exact h x hx y hy
theorem MLo.chB (m:MLo rk la lb o ia ib)(hb:Up rk lb)(h:∀ x∈(lb.drop ib).take k,∀ y∈la.drop ia,rk x.1<=rk y.1):MLo rk la lb (o++(lb.drop ib).take k) ia (ib+k):=by
 have e:lb.drop ib=(lb.drop ib).take k++lb.drop (ib+k):=by rw [<- drop_drop];exact (take_append_drop k _).symm
 have hd:Up rk ((lb.drop ib).take k++lb.drop (ib+k)):=by rw [<- e];exact List.Pairwise.sublist (drop_sublist _ _) hb
 obtain ⟨h1,h2,h3⟩:=pairwise_append.mp hd;have mem:∀ x,x∈(lb.drop ib).take k->x∈lb.drop ib:=fun x hx=>mem_of_mem_take hx;refine ⟨?_,?_,?_⟩
 ·have p:=m.perm
  rw [e] at p;refine List.Perm.trans ?_ p;rw [zp];refine List.Perm.append_left _ ?_;rw [<- zp,<- zp];exact List.Perm.append_right _ perm_append_comm
 ·exact pairwise_append.mpr ⟨m.up,h1,fun x hx y hy=>m.low x hx y (zi _ (mem y hy))⟩
 ·intro x hx y hy
  rcases zh.mp hx with hx | hx
  ·refine m.low x hx y ?_
   rcases zh.mp hy with hy | hy
   ·exact zj _ hy
   ·rw [e];exact zi _ (zi _ hy)
  ·rcases zh.mp hy with hy | hy
   ·exact h x hx y hy
   ·exact h3 x hx y hy
def J0m (rk:Value->Nat)(la lb l:List Keyed):Prop:=l.Perm (la++lb)/\Up rk l
theorem MLo.doneB (m:MLo rk la lb o ia ib)(ha:Up rk la)(hb:Up rk lb)(h:lb.length<=ib\/la.length<=ia):J0m rk la lb (o++la.drop ia++lb.drop ib):=by
 rw [zp];refine ⟨m.perm,pairwise_append.mpr ⟨m.up,?_,m.low⟩⟩;rcases h with h | h
 ·rw [drop_eq_nil_of_le h,append_nil];exact List.Pairwise.sublist (drop_sublist _ _) ha
 ·rw [drop_eq_nil_of_le h,nil_append];exact List.Pairwise.sublist (drop_sublist _ _) hb
theorem MLo.doneA (m:MLo rk la lb o ia ib)(ha:Up rk la)(hb:Up rk lb)(h:∀ x∈lb,∀ y∈la.drop ia,rk x.1<=rk y.1):J0m rk la lb (o++lb.drop ib++la.drop ia):=by
 rw [zp];refine ⟨List.Perm.trans (List.Perm.append_left _ perm_append_comm) m.perm,pairwise_append.mpr ⟨m.up,?_,fun x hx y hy=>m.low x hx y ?_⟩⟩
 ·exact pairwise_append.mpr ⟨List.Pairwise.sublist (drop_sublist _ _) hb,List.Pairwise.sublist (drop_sublist _ _) ha,fun x hx y hy=>h x (mem_of_mem_drop hx) y hy⟩
 ·rcases zh.mp hy with hy | hy
  ·exact zi _ hy
  ·exact zj _ hy
theorem J7J {l:List Keyed}{i:Nat}{p:Keyed}(h:l[i]?=some p):(l.drop i).take 1=[p]:=by
 obtain ⟨hi,rfl⟩:=yV.mp h;rw [drop_eq_getElem_cons hi];rfl
theorem J1r {l:List Keyed}{i:Nat}{p:Keyed}(u:Up rk l)(h:l[i]?=some p):∀ y∈l.drop i,rk p.1<=rk y.1:=by
 obtain ⟨hi,rfl⟩:=yV.mp h;have e:=drop_eq_getElem_cons hi;have u':Up rk (l.drop i):=List.Pairwise.sublist (drop_sublist _ _) u;intro y hy;rw [e] at hy u';rcases zc.mp hy with rfl | hy
 ·exact yJ _
 ·exact (pairwise_cons.mp u').1 y hy
theorem J3k {l:List Keyed}{i k:Nat}{x:Keyed}(h:x∈(l.drop i).take k):∃ j,j<k/\l[i+j]?=some x:=by
 obtain ⟨j,hj⟩:=zk.mp h;have hjk:j<k:=by
  have:=(yV.mp hj).1;rw [y7] at this;omega
 rw [List.getElem?_take_of_lt hjk,List.getElem?_drop] at hj;exact ⟨j,hjk,hj⟩
end
def J8f:Bool->Keyed->Array Keyed->Nat->Nat->Nat->StateT SortSt Sem (Option Nat):=sortPriv% PySem.Builtin.gallop
def Cmp (prog:Program)(w:World)(A:Around)(s:Shared)(kd:SortKind)(D:Value->Prop)(rk:Value->Nat):Prop :=
 ∀ (E:Value->Shared->Prop) (x y:Value) (Q:Bool->Shared->Prop),D x->D y->Q (decide (rk x<rk y)) s->wpAny (model prog w) A (keyLt' kd x y) Q E s
section
variable {prog:Program}{w:World}{A:Around}{E:Value->Shared->Prop}{s:Shared}{kd:SortKind}{D:Value->Prop}{rk:Value->Nat}
theorem J3X (C:Cmp prog w A s kd D rk){st:SortSt}{x y:Keyed}{Q:Option Bool->SortSt->Prop}(hk:kindOf st=kd)(hx:D x.1)(hy:D y.1)(h:Q (some (decide (rk x.1<rk y.1))) st):wpS (model prog w) A E s (lt' x y) Q st:=by
 rw [lt'_eq];refine wpS_bind (wpS_get ?_);rw [hk];exact wpS_bind (wpS_lift (wpAny_attempt (C _ _ _ _ hx hy ⟨rfl,wpS_pure h⟩)))
theorem JB {arr:Array Keyed}{i:Nat}{p:Keyed}{st:SortSt}{Q:Keyed->SortSt->Prop}{M:Model}(hp:arr[i]?=some p)(h:Q p st):wpS M A E s (elem' arr i) Q st:=by
 rw [elem'_eq,hp];exact wpS_pure h
def bey (rk:Value->Nat)(left:Bool)(key:Keyed)(arr:Array Keyed)(base i:Nat):Bool :=
 match arr[base+i]? with
 | some p=>if left then decide (rk p.1<rk key.1) else !decide (rk key.1<rk p.1)
 | none=>false
theorem tim_gallop (C:Cmp prog w A s kd D rk){st:SortSt}{left:Bool}{key:Keyed}{arr:Array Keyed}{base n hint:Nat}{Q:Option Nat->SortSt->Prop}(hk:kindOf st=kd)(hkey:D key.1)(hin:base+n<=arr.size)(hD:∀ p∈arr.toList,D p.1)(hh:hint<n)
 (mono:∀ i j,i<=j->j<n->bey rk left key arr base j=true->bey rk left key arr base i=true)
 (h:∀ k,k<=n->(∀ i,i<k->bey rk left key arr base i=true)->(∀ i,k<=i->i<n->bey rk left key arr base i=false)->Q (some k) st):wpS (model prog w) A E s (J8f left key arr base n hint) Q st:=by
 have ask:∀ (i:Nat) (R:Option Bool->SortSt->Prop),i<n->R (some (bey rk left key arr base i)) st->wpS (model prog w) A E s (elem' arr (base+i) >>= fun x=>if left then lt' x key else lt' key x >>= fun r=>pure (r.map (!·))) R st:=by
  intro i R hi hR;have hlt:base+i<arr.size:=by omega
  have e:arr[base+i]?=some arr[base+i]:=getElem?_pos arr (base+i) hlt;have d:D arr[base+i].1:=hD _ (by simp);refine wpS_bind (JB e ?_);unfold bey at hR;rw [e] at hR;cases left with
  | true=>exact J3X C hk d hkey hR
  | false=>exact wpS_bind (J3X C hk hkey d (wpS_pure hR))
 unfold J8f;refine wpS_bind (ask hint _ hh ?_);have anti:∀ i j,i<=j->j<n->bey rk left key arr base i=false->bey rk left key arr base j=false:=fun i j hij hj hf=>by
  cases e:bey rk left key arr base j with
  | false=>rfl
  | true=>rw [mono i j hij hj e] at hf;exact hf
 have fin:∀ (lo hi:Nat),lo<=hi->hi<=n->(∀ i,i<lo->bey rk left key arr base i=true)->(∀ i,hi<=i->i<n->bey rk left key arr base i=false)->∀ m,lo<=m->m<hi->(bey rk left key arr base m=true->∀ i,i<m+1->bey rk left key arr base i=true)/\(bey rk left key arr base m=false->∀ i,m<=i->i<n->bey rk left key arr base i=false):=fun lo hi _ h2 _ _ m _ h6 =>
  ⟨fun e i hi'=>mono i m (by omega) (by omega) e,fun e i h1 h2=>anti m i h1 h2 e⟩
 dsimp only;cases hr:bey rk left key arr base hint with
 | true =>
   rw [yI rfl];refine wpS_bind (wpS_mono (wpS_forRange (I:=fun x c st'=>st'=st/\∃ la o,c=(none,la,o)/\la<o/\x<o/\hint+la<n/\bey rk left key arr base (hint+la)=true)
    (Q:=fun c st'=>st'=st/\∃ la o,c=(none,la,o)/\la<o/\hint+la<n/\bey rk left key arr base (hint+la)=true/\(n - hint<=o\/bey rk left key arr base (hint+o)=false)) ?step ?fin ⟨rfl,0,1,rfl,by omega,by omega,by omega,hr⟩) ?post)
   case fin =>
    rintro c st' ⟨rfl,la,o,rfl,h1,h2,h3,h4⟩;exact ⟨rfl,la,o,rfl,h1,h3,h4,.inl (by omega)⟩
   case step =>
    rintro x c st' _ hx ⟨rfl,la,o,rfl,h1,h2,h3,h4⟩;dsimp only;by_cases ho:o≥n - hint
    ·rw [yI ho]
     exact wpS_pure ⟨rfl,la,o,rfl,h1,h3,h4,.inl ho⟩
    ·rw [yH ho]
     refine wpS_bind (ask (hint+o) _ (by omega) ?_);dsimp only;cases hb:bey rk left key arr base (hint+o) with
     | true=>exact wpS_pure ⟨rfl,o,2 * o+1,rfl,by omega,by omega,by omega,hb⟩
     | false=>exact wpS_pure ⟨rfl,la,o,rfl,h1,h3,h4,.inr hb⟩
   case post =>
    rintro c st1 ⟨e1,la,o,rfl,h1,h3,h4,h5⟩;rw [e1];clear e1 st1;dsimp only;have a1:hint+la+1<=hint+min o (n - hint):=by omega
    have a2:hint+min o (n - hint)<=n:=by omega
    have a3:∀ i,i<hint+la+1->bey rk left key arr base i=true:=fun i hi=>mono i (hint+la) (by omega) h3 h4;have a4:∀ i,hint+min o (n - hint)<=i->i<n->bey rk left key arr base i=false:=fun i hi hn=>by
     rcases h5 with h5 | h5
     ·omega
     ·by_cases q:o<=n - hint
      ·exact anti (hint+o) i (by omega) hn h5
      ·omega
    generalize hint+la+1=lo at *;generalize hint+min o (n - hint)=hi at *;refine wpS_bind (wpS_mono (wpS_forRange (I:=fun x c st'=>st'=st/\∃ lo hi,c=(none,lo,hi)/\lo<=hi/\hi<=n/\hi - lo<=n - x/\(∀ i,i<lo->bey rk left key arr base i=true)/\(∀ i,hi<=i->i<n->bey rk left key arr base i=false))
     (Q:=fun c st'=>st'=st/\∃ lo hi,c=(none,lo,hi)/\hi<=n/\(∀ i,i<hi->bey rk left key arr base i=true)/\(∀ i,hi<=i->i<n->bey rk left key arr base i=false)) ?stepT ?finT ⟨rfl,lo,hi,rfl,a1,a2,by omega,a3,a4⟩) ?postT)
    case finT =>
     rintro c st' ⟨rfl,lo,hi,rfl,b1,b2,b3,b4,b5⟩;exact ⟨rfl,lo,hi,rfl,b2,fun i hi'=>b4 i (by omega),b5⟩
    case stepT =>
     rintro x c st' _ hx ⟨rfl,lo,hi,rfl,b1,b2,b3,b4,b5⟩;dsimp only;by_cases hg:lo≥hi
     ·rw [yI hg]
      exact wpS_pure ⟨rfl,lo,hi,rfl,b2,fun i hi'=>b4 i (by omega),b5⟩
     ·rw [yH hg]
      refine wpS_bind (ask (lo+(hi - lo) / 2) _ (by omega) ?_);dsimp only;obtain ⟨f1,f2⟩:=fin lo hi b1 b2 b4 b5 (lo+(hi - lo) / 2) (by omega) (by omega);cases hb:bey rk left key arr base (lo+(hi - lo) / 2) with
      | true=>exact wpS_pure ⟨rfl,lo+(hi - lo) / 2+1,hi,rfl,by omega,b2,by omega,f1 hb,b5⟩
      | false=>exact wpS_pure ⟨rfl,lo,lo+(hi - lo) / 2,rfl,by omega,by omega,by omega,b4,f2 hb⟩
    case postT =>
     rintro c st' ⟨rfl,lo,hi,rfl,b2,b4,b5⟩;exact wpS_pure (h hi b2 b4 b5)
 | false =>
   rw [yH (by simp)];refine wpS_bind (wpS_mono (wpS_forRange (I:=fun x c st'=>st'=st/\∃ la o,c=(none,la,o)/\la<o/\x<o/\la<=hint/\bey rk left key arr base (hint - la)=false)
    (Q:=fun c st'=>st'=st/\∃ la o,c=(none,la,o)/\la<o/\la<=hint/\bey rk left key arr base (hint - la)=false/\(hint+1<=o\/bey rk left key arr base (hint - o)=true)) ?step2 ?fin2 ⟨rfl,0,1,rfl,by omega,by omega,by omega,hr⟩) ?post2)
   case fin2 =>
    rintro c st' ⟨rfl,la,o,rfl,h1,h2,h3,h4⟩;exact ⟨rfl,la,o,rfl,h1,h3,h4,.inl (by omega)⟩
   case step2 =>
    rintro x c st' _ hx ⟨rfl,la,o,rfl,h1,h2,h3,h4⟩;dsimp only;by_cases ho:o≥hint+1
    ·rw [yI ho]
     exact wpS_pure ⟨rfl,la,o,rfl,h1,h3,h4,.inl ho⟩
    ·rw [yH ho]
     refine wpS_bind (ask (hint - o) _ (by omega) ?_);dsimp only;cases hb:bey rk left key arr base (hint - o) with
     | true=>exact wpS_pure ⟨rfl,la,o,rfl,h1,h3,h4,.inr hb⟩
     | false=>exact wpS_pure ⟨rfl,o,2 * o+1,rfl,by omega,by omega,by omega,hb⟩
   case post2 =>
    rintro c st1 ⟨e1,la,o,rfl,h1,h3,h4,h5⟩;rw [e1];clear e1 st1;dsimp only;have a1:hint+1 - min o (hint+1)<=hint - la:=by omega
    have a2:hint - la<=n:=by omega
    have a3:∀ i,i<hint+1 - min o (hint+1)->bey rk left key arr base i=true:=fun i hi=>by
     rcases h5 with h5 | h5
     ·omega
     ·exact mono i (hint - o) (by omega) (by omega) h5
    have a4:∀ i,hint - la<=i->i<n->bey rk left key arr base i=false:=fun i hi hn=>anti (hint - la) i hi hn h4;generalize hint+1 - min o (hint+1)=lo at *;generalize hint - la=hi at *;refine wpS_bind (wpS_mono (wpS_forRange (I:=fun x c st'=>st'=st/\∃ lo hi,c=(none,lo,hi)/\lo<=hi/\hi<=n/\hi - lo<=n - x/\(∀ i,i<lo->bey rk left key arr base i=true)/\(∀ i,hi<=i->i<n->bey rk left key arr base i=false))
     (Q:=fun c st'=>st'=st/\∃ lo hi,c=(none,lo,hi)/\hi<=n/\(∀ i,i<hi->bey rk left key arr base i=true)/\(∀ i,hi<=i->i<n->bey rk left key arr base i=false)) ?stepU ?finU ⟨rfl,lo,hi,rfl,a1,a2,by omega,a3,a4⟩) ?postU)
    case finU =>
     rintro c st' ⟨rfl,lo,hi,rfl,b1,b2,b3,b4,b5⟩;exact ⟨rfl,lo,hi,rfl,b2,fun i hi'=>b4 i (by omega),b5⟩
    case stepU =>
     rintro x c st' _ hx ⟨rfl,lo,hi,rfl,b1,b2,b3,b4,b5⟩;dsimp only;by_cases hg:lo≥hi
     ·rw [yI hg]
      exact wpS_pure ⟨rfl,lo,hi,rfl,b2,fun i hi'=>b4 i (by omega),b5⟩
     ·rw [yH hg]
      refine wpS_bind (ask (lo+(hi - lo) / 2) _ (by omega) ?_);dsimp only;obtain ⟨f1,f2⟩:=fin lo hi b1 b2 b4 b5 (lo+(hi - lo) / 2) (by omega) (by omega);cases hb:bey rk left key arr base (lo+(hi - lo) / 2) with
      | true=>exact wpS_pure ⟨rfl,lo+(hi - lo) / 2+1,hi,rfl,by omega,b2,by omega,f1 hb,b5⟩
      | false=>exact wpS_pure ⟨rfl,lo,lo+(hi - lo) / 2,rfl,by omega,by omega,by omega,b4,f2 hb⟩
    case postU =>
     rintro c st' ⟨rfl,lo,hi,rfl,b2,b4,b5⟩;exact wpS_pure (h hi b2 b4 b5)
end
def J6z:Array Keyed->Array Keyed->StateT SortSt Sem (Array Keyed):=sortPriv% PySem.Builtin.mergeLo
def J2k (st st':SortSt):Prop:=kindOf st'=kindOf st/\arrOf st'=arrOf st/\pendingOf st'=pendingOf st/\failedOf st'=failedOf st
theorem JR {a:Array Keyed}{i:Nat}{p:Keyed}(h:a[i]?=some p):a.toList[i]?=some p:=by rw [Array.getElem?_toList];exact h
theorem J7I (a:Array Keyed)(i k:Nat):(a.extract i (i+k)).toList=(a.toList.drop i).take k:=by
 rw [Array.toList_extract,extract_eq_drop_take];congr 1;omega
theorem J3M (a:Array Keyed)(i:Nat):(a.extract i a.size).toList=a.toList.drop i:=by
 rw [Array.toList_extract,extract_eq_drop_take];exact take_of_length_le (by simp)
section
variable {rk:Value->Nat}{a b:Array Keyed}{o:List Keyed}{ia ib k:Nat}{pa pb:Keyed}
theorem MLo.stB (m:MLo rk a.toList b.toList o ia ib)(ua:Up rk a.toList)(ub:Up rk b.toList)(hb:b[ib]?=some pb)(ha:a[ia]?=some pa)(h:rk pb.1<=rk pa.1):MLo rk a.toList b.toList (o++[pb]) ia (ib+1):=by
 have q:=m.chB (k:=1) ub (fun x hx y hy=>by
  rw [J7J (JR hb)] at hx;cases yX.mp hx;exact yR h (J1r ua (JR ha) y hy))
 rw [J7J (JR hb)] at q;exact q
theorem MLo.stA (m:MLo rk a.toList b.toList o ia ib)(ua:Up rk a.toList)(ub:Up rk b.toList)(hb:b[ib]?=some pb)(ha:a[ia]?=some pa)(h:rk pa.1<=rk pb.1):MLo rk a.toList b.toList (o++[pa]) (ia+1) ib:=by
 have q:=m.chA (k:=1) ua (fun x hx y hy=>by
  rw [J7J (JR ha)] at hx;cases yX.mp hx;exact yR h (J1r ub (JR hb) y hy))
 rw [J7J (JR ha)] at q;exact q
theorem MLo.gaA (m:MLo rk a.toList b.toList o ia ib)(ua:Up rk a.toList)(ub:Up rk b.toList)(hb:b[ib]?=some pb)(h:∀ i,i<k->bey rk false pb a ia i=true):MLo rk a.toList b.toList (o++(a.extract ia (ia+k)).toList) (ia+k) ib:=by
 rw [J7I];refine m.chA ua fun x hx y hy=>yR ?_ (J1r ub (JR hb) y hy);obtain ⟨j,hj,e⟩:=J3k hx;rw [Array.getElem?_toList] at e;have q:=h j hj;unfold bey at q;rw [e] at q;simpa using q
theorem MLo.gaB (m:MLo rk a.toList b.toList o ia ib)(ua:Up rk a.toList)(ub:Up rk b.toList)(ha:a[ia]?=some pa)(h:∀ i,i<k->bey rk true pa b ib i=true):MLo rk a.toList b.toList (o++(b.extract ib (ib+k)).toList) ia (ib+k):=by
 rw [J7I];refine m.chB ub fun x hx y hy=>yR ?_ (J1r ua (JR ha) y hy);obtain ⟨j,hj,e⟩:=J3k hx;rw [Array.getElem?_toList] at e;have q:=h j hj;unfold bey at q;rw [e] at q;exact Nat.le_of_lt (by simpa using q)
theorem J39 {left:Bool}{key:Keyed}{n:Nat}(u:Up rk a.toList)(hn:ia+n<=a.size):∀ i j,i<=j->j<n->bey rk left key a ia j=true->bey rk left key a ia i=true:=fun i j hij hj h=>by
 have hi':ia+i<a.size:=by omega
 have hj':ia+j<a.size:=by omega
 have ei:a[ia+i]?=some a[ia+i]:=getElem?_pos a (ia+i) hi';have ej:a[ia+j]?=some a[ia+j]:=getElem?_pos a (ia+j) hj';have le:rk a[ia+i].1<=rk a[ia+j].1:=by
  refine J1r u (JR ei) _ ?_;refine zk.mpr ⟨j - i,?_⟩;rw [List.getElem?_drop,show ia+i+(j - i)=ia+j by omega];exact JR ej
 unfold bey at h ⊢;rw [ej] at h;rw [ei];cases left with
 | true=>simp only [if_true,decide_eq_true_eq] at h ⊢;omega
 | false=>simp only [Bool.false_eq_true,if_false,Bool.not_eq_true',decide_eq_false_iff_not] at h ⊢;omega
end
section
variable {prog:Program}{w:World}{A:Around}{E:Value->Shared->Prop}{s:Shared}{kd:SortKind}{D:Value->Prop}{rk:Value->Nat}
inductive LoI1 (rk:Value->Nat)(a b:Array Keyed)(x:Nat)(c:Option (Array Keyed)×Array Keyed×Nat×Nat×Nat):Prop
 | mk (o:Array Keyed) (ia ib mg:Nat) (hc:c=(none,o,ia,ib,mg)) (h0:MLo rk a.toList b.toList o.toList ia ib) (h1:ia+1<a.size) (h2:ib<b.size) (h3:x<=ia+ib):LoI1 rk a b x c
inductive LoI2 (rk:Value->Nat)(a b:Array Keyed)(c:Option (Array Keyed)×Array Keyed×Nat×Nat×Nat):Prop
 | mk (l o:Array Keyed) (ia ib mg:Nat) (hc:c=(some l,o,ia,ib,mg)) (h0:J0m rk a.toList b.toList l.toList):LoI2 rk a b c
inductive LoI3 (rk:Value->Nat)(a b:Array Keyed)(x:Nat)(y:Nat)(c:Option (Array Keyed)×Array Keyed×Nat×Nat×Nat×Nat):Prop
 | mk (o:Array Keyed) (ia ib ac bc:Nat) (hc:c=(none,o,ia,ib,ac,bc)) (h0:MLo rk a.toList b.toList o.toList ia ib) (h1:ia+1<a.size) (h2:ib<b.size) (h3:x<=ia+ib) (h4:y<=ia+ib):LoI3 rk a b x y c
inductive LoI4 (rk:Value->Nat)(a b:Array Keyed)(c:Option (Array Keyed)×Array Keyed×Nat×Nat×Nat×Nat):Prop
 | mk (l o:Array Keyed) (ia ib ac bc:Nat) (hc:c=(some l,o,ia,ib,ac,bc)) (h0:J0m rk a.toList b.toList l.toList):LoI4 rk a b c
inductive LoI5 (rk:Value->Nat)(a b:Array Keyed)(x:Nat)(c:Option (Array Keyed)×Array Keyed×Nat×Nat×Nat×Nat):Prop
 | mk (o:Array Keyed) (ia ib ac bc:Nat) (hc:c=(none,o,ia,ib,ac,bc)) (h0:MLo rk a.toList b.toList o.toList ia ib) (h1:ia+1<a.size) (h2:ib<b.size) (h3:x+1<=ia+ib):LoI5 rk a b x c
inductive LoI6 (rk:Value->Nat)(a b:Array Keyed)(x:Nat)(y:Nat)(c:Option (Array Keyed)×Array Keyed×Nat×Nat×Nat×Nat×Nat):Prop
 | mk (o:Array Keyed) (ia ib mg ac bc:Nat) (hc:c=(none,o,ia,ib,mg,ac,bc)) (h0:MLo rk a.toList b.toList o.toList ia ib) (h1:ia+1<a.size) (h2:ib<b.size) (h3:x+1<=ia+ib) (h4:y<=ia+ib):LoI6 rk a b x y c
inductive LoI7 (rk:Value->Nat)(a b:Array Keyed)(c:Option (Array Keyed)×Array Keyed×Nat×Nat×Nat×Nat×Nat):Prop
 | mk (l o:Array Keyed) (ia ib mg ac bc:Nat) (hc:c=(some l,o,ia,ib,mg,ac,bc)) (h0:J0m rk a.toList b.toList l.toList):LoI7 rk a b c
inductive LoI8 (rk:Value->Nat)(a b:Array Keyed)(x:Nat)(c:Option (Array Keyed)×Array Keyed×Nat×Nat×Nat×Nat×Nat):Prop
 | mk (o:Array Keyed) (ia ib mg ac bc:Nat) (hc:c=(none,o,ia,ib,mg,ac,bc)) (h0:MLo rk a.toList b.toList o.toList ia ib) (h1:ia+1<a.size) (h2:ib<b.size) (h3:x+1<=ia+ib):LoI8 rk a b x c
theorem tim_mergeLo (C:Cmp prog w A s kd D rk){st:SortSt}{a b:Array Keyed}{Q:Array Keyed->SortSt->Prop}(hk:kindOf st=kd)(hDa:∀ p∈a.toList,D p.1)(hDb:∀ p∈b.toList,D p.1)(ua:Up rk a.toList)(ub:Up rk b.toList){b0 a0:Keyed}{n:Nat}{al:Keyed}
 (hb0:b[0]?=some b0) (ha0:a[0]?=some a0) (hlt:rk b0.1<=rk a0.1) (hn:a.size=n+1) (hal:a[n]?=some al) (hlast:∀ x∈b.toList,rk x.1<=rk al.1)
 (h:∀ l st',J2k st st'->J0m rk a.toList b.toList l.toList->Q l st'):wpS (model prog w) A E s (J6z a b) Q st:=by
 have atA:∀ {i:Nat},i<a.size->∃ p,a[i]?=some p/\D p.1:=fun {i} hi=>⟨a[i],getElem?_pos a i hi,hDa _ (by simp)⟩;have atB:∀ {i:Nat},i<b.size->∃ p,b[i]?=some p/\D p.1:=fun {i} hi=>⟨b[i],getElem?_pos b i hi,hDb _ (by simp)⟩;have hbs:0<b.size:=by
  cases e:b.size with
  | zero=>rw [Array.getElem?_eq_none (by omega)] at hb0;cases hb0
  | succ m=>omega
 have m1:MLo rk a.toList b.toList [b0] 0 1:=by simpa using MLo.start.stB ua ub hb0 ha0 hlt
 have dn:∀ {o:Array Keyed} {ia ib:Nat},MLo rk a.toList b.toList o.toList ia ib->(ib=b.size\/ia=a.size)->J0m rk a.toList b.toList (o++a.extract ia a.size++b.extract ib b.size).toList:=fun {o ia ib} m hh=>by
  rw [Array.toList_append,Array.toList_append,J3M,J3M];exact m.doneB ua ub (by rcases hh with rfl | rfl;exact .inl (by simp);exact .inr (by simp))
 have lA:∀ {o:Array Keyed} {ia ib:Nat},MLo rk a.toList b.toList o.toList ia ib->ia+1=a.size->J0m rk a.toList b.toList (o++b.extract ib b.size++a.extract ia a.size).toList:=fun {o ia ib} m hh=>by
  rw [Array.toList_append,Array.toList_append,J3M,J3M];refine m.doneA ua ub fun x hx y hy=>yR (hlast x hx) ?_;obtain rfl:ia=n:=by omega
  exact J1r ua (JR hal) y hy
 have nx:∀ {ia k:Nat} {pb:Keyed},ia+k<a.size->bey rk false pb a ia k=false->∃ pa,a[ia+k]?=some pa/\D pa.1/\rk pb.1<=rk pa.1:=fun {ia k pb} hlt e=>by
  obtain ⟨pa,hpa,dpa⟩:=atA hlt;unfold bey at e;rw [hpa] at e;simp at e;exact ⟨pa,hpa,dpa,by omega⟩
 have ny:∀ {ib k:Nat} {pa:Keyed},ib+k<b.size->bey rk true pa b ib k=false->∃ pc,b[ib+k]?=some pc/\rk pa.1<=rk pc.1:=fun {ib k pa} hlt e=>by
  obtain ⟨pc,hpc,_⟩:=atB hlt;unfold bey at e;rw [hpc] at e;simp at e;exact ⟨pc,hpc,by omega⟩
 unfold J6z;refine wpS_bind (wpS_lift (wpAny_rule ⟨rfl,?_⟩));refine wpS_bind (JB hb0 ?_);have hm1:MLo rk a.toList b.toList (#[b0]:Array Keyed).toList 0 1:=m1;by_cases h1:(1 == b.size)=true
 ·first | refine JA h1 ?_ | rw [yI h1]
  exact wpS_pure (h _ _ ⟨rfl,rfl,rfl,rfl⟩ (dn hm1 (.inl (beq_iff_eq.mp h1))))
 first | refine JQ h1 ?_ | rw [yH h1]
 by_cases h2:(0+1 == a.size)=true
 ·first | refine JA h2 ?_ | rw [yI h2]
  exact wpS_pure (h _ _ ⟨rfl,rfl,rfl,rfl⟩ (lA hm1 (beq_iff_eq.mp h2)))
 first | refine JQ h2 ?_ | rw [yH h2]
 have h1':1<b.size:=by have:¬ 1=b.size:=fun z=>h1 (beq_iff_eq.mpr z);omega
 have h2':0+1<a.size:=by have:¬ 0+1=a.size:=fun z=>h2 (beq_iff_eq.mpr z);omega
 refine wpS_bind (wpS_get ?_);refine wpS_bind (wpS_mono (wpS_forRange (I:=fun x c st'=>J2k st st'/\LoI1 rk a b x c)
  (Q:=fun c st'=>J2k st st'/\LoI2 rk a b c) ?step ?fin ⟨⟨rfl,rfl,rfl,rfl⟩,_,0,1,_,rfl,hm1,h2',h1',by omega⟩) ?post)
 case fin =>
  rintro c st' ⟨_,o,ia,ib,mg,rfl,m,b1,b2,b3⟩;omega
 case post =>
  rintro c st' ⟨sm,l,o,ia,ib,mg,rfl,m⟩;exact wpS_pure (h l st' sm m)
 case step =>
  rintro x c st1 _ hx ⟨sm,o,ia,ib,mg,rfl,m,b1,b2,b3⟩;refine wpS_bind (wpS_mono (wpS_forRange (I:=fun y c st'=>st'=st1/\LoI3 rk a b x y c)
   (Q:=fun c st'=>st'=st1/\(LoI4 rk a b c\/LoI5 rk a b x c)) ?step1 ?fin1 ⟨rfl,o,ia,ib,0,0,rfl,m,b1,b2,b3,by omega⟩) ?post1)
  case fin1 =>
   rintro c st' ⟨_,o,ia,ib,ac,bc,rfl,m,b1,b2,b3,b4⟩;omega
  case step1 =>
   rintro y c st2 _ hy ⟨e2,o,ia,ib,ac,bc,rfl,m,b1,b2,b3,b4⟩;rw [e2];clear e2;dsimp only;obtain ⟨pb,hpb,dpb⟩:=atB b2;obtain ⟨pa,hpa,dpa⟩:=atA (i:=ia) (by omega);refine wpS_bind (JB hpb (wpS_bind (JB hpa (wpS_bind (J3X C (sm.1.trans hk) dpb dpa ?_)))));by_cases hw:rk pb.1<rk pa.1
   ·first | refine JA (yL hw) ?_ | rw [yI (yL hw)]
    refine wpS_bind (JB hpb ?_);have m':MLo rk a.toList b.toList (o.push pb).toList ia (ib+1):=by rw [Array.toList_push];exact m.stB ua ub hpb hpa (Nat.le_of_lt hw)
    by_cases g1:(ib+1 == b.size)=true
    ·first | refine JA g1 ?_ | rw [yI g1]
     exact wpS_pure ⟨rfl,.inl ⟨_,_,_,_,_,_,rfl,dn m' (.inl (beq_iff_eq.mp g1))⟩⟩
    ·first | refine JQ g1 ?_ | rw [yH g1]
     have g1':ib+1<b.size:=by have:¬ ib+1=b.size:=fun z=>g1 (beq_iff_eq.mpr z);omega
     by_cases g2:bc+1≥mg
     ·first | refine JA g2 ?_ | rw [yI g2]
      exact wpS_pure ⟨rfl,.inr ⟨_,_,_,_,_,rfl,m',b1,g1',by omega⟩⟩
     ·first | refine JQ g2 ?_ | rw [yH g2]
      exact wpS_pure ⟨rfl,_,_,_,_,_,rfl,m',b1,g1',by omega,by omega⟩
   ·first | refine JQ (by rw [yM hw];exact yK) ?_ | rw [yH (by rw [yM hw];exact yK)]
    refine wpS_bind (JB hpa ?_);have m':MLo rk a.toList b.toList (o.push pa).toList (ia+1) ib:=by rw [Array.toList_push];exact m.stA ua ub hpb hpa (by omega)
    by_cases g1:(ia+1+1 == a.size)=true
    ·first | refine JA g1 ?_ | rw [yI g1]
     exact wpS_pure ⟨rfl,.inl ⟨_,_,_,_,_,_,rfl,lA m' (beq_iff_eq.mp g1)⟩⟩
    ·first | refine JQ g1 ?_ | rw [yH g1]
     have g1':ia+1+1<a.size:=by have:¬ ia+1+1=a.size:=fun z=>g1 (beq_iff_eq.mpr z);omega
     by_cases g2:ac+1≥mg
     ·first | refine JA g2 ?_ | rw [yI g2]
      exact wpS_pure ⟨rfl,.inr ⟨_,_,_,_,_,rfl,m',g1',b2,by omega⟩⟩
     ·first | refine JQ g2 ?_ | rw [yH g2]
      exact wpS_pure ⟨rfl,_,_,_,_,_,rfl,m',g1',b2,by omega,by omega⟩
  case post1 =>
   clear m b1 b2 b3;rintro c st2 ⟨e2,⟨l,o,ia,ib,ac,bc,rfl,m⟩ | ⟨o,ia,ib,ac,bc,rfl,m,b1,b2,b3⟩⟩
   ·rw [e2]
    exact wpS_pure ⟨sm,l,_,_,_,_,rfl,m⟩
   rw [e2];clear e2;refine wpS_bind (wpS_lift (wpAny_rule ⟨rfl,?_⟩));refine wpS_bind (wpS_mono (wpS_forRange (I:=fun y c st'=>J2k st st'/\LoI6 rk a b x y c)
    (Q:=fun c st'=>J2k st st'/\(LoI7 rk a b c\/LoI8 rk a b x c)) ?step3 ?fin3 ⟨sm,o,ia,ib,_,_,_,rfl,m,b1,b2,b3,by omega⟩) ?post3)
   case fin3 =>
    rintro c st' ⟨_,o,ia,ib,mg,ac,bc,rfl,m,b1,b2,b3,b4⟩;omega
   case post3 =>
    clear m b1 b2 b3;rintro c st2 ⟨sm,⟨l,o,ia,ib,mg,ac,bc,rfl,m⟩ | ⟨o,ia,ib,mg,ac,bc,rfl,m,b1,b2,b3⟩⟩
    ·exact wpS_pure ⟨sm,l,_,_,_,_,rfl,m⟩
    ·exact wpS_bind (wpS_modify (wpS_pure ⟨sm,_,_,_,_,rfl,m,b1,b2,b3⟩))
   case step3 =>
    clear m b1 b2 b3;rintro y c st2 _ hy ⟨sm2,o,ia,ib,mg2,ac,bc,rfl,m,b1,b2,b3,b4⟩;dsimp only;obtain ⟨pb,hpb,dpb⟩:=atB b2;apply J7C
    ·intro key
     by_cases hg:mg2 > 1
     ·rw [yI hg]
      generalize mg2 - 1=mg3
      revert mg3
      exact key.out
     ·rw [yH hg]
      exact key.out mg2
    ·intro mg3
     refine wpS_bind (wpS_modify (wpS_bind (JB hpb ?_)));refine wpS_bind (tim_gallop C (sm2.1.trans hk) dpb (by omega) hDa (by omega) (J39 ua (by omega)) fun k k1 k2 k3=>?_);apply J7C
     ·intro key
      have mk:=m.gaA ua ub hpb k2;rw [<- Array.toList_append] at mk;by_cases hk0:k > 0
      case' pos =>
       first | refine JA hk0 ?_ | rw [yI hk0]
       by_cases g1:(ia+k+1 == a.size)=true
       case pos =>
        first | refine JA g1 ?_ | rw [yI g1]
        exact wpS_pure ⟨sm2,.inl ⟨_,_,_,_,_,_,_,rfl,lA mk (beq_iff_eq.mp g1)⟩⟩
       first | refine JQ g1 ?_ | rw [yH g1]
       by_cases g2:(ia+k == a.size)=true
       case pos =>
        first | refine JA g2 ?_ | rw [yI g2]
        exact wpS_pure ⟨sm2,.inl ⟨_,_,_,_,_,_,_,rfl,dn mk (.inr (beq_iff_eq.mp g2))⟩⟩
       first | refine JQ g2 ?_ | rw [yH g2]
       have c1:ia+k+1<a.size:=by
        have:¬ ia+k+1=a.size:=fun z=>g1 (beq_iff_eq.mpr z);have:¬ ia+k=a.size:=fun z=>g2 (beq_iff_eq.mpr z);omega
       have hp:∃ pa,a[ia+k]?=some pa/\D pa.1/\rk pb.1<=rk pa.1:=nx (by omega) (k3 k (yJ _) (by omega));have b5:x+1<=ia+k+ib:=by omega
       have b6:y<=ia+k+ib:=by omega
       revert mk c1 hp b5 b6
       generalize o++a.extract ia (ia+k)=o2;generalize ia+k=i2
       revert o2 i2
       exact key.out
      case' neg =>
       first | refine JQ hk0 ?_ | rw [yH hk0]
       obtain rfl:k=0:=by omega
       have c1:ia+1<a.size:=b1;have hp:∃ pa,a[ia]?=some pa/\D pa.1/\rk pb.1<=rk pa.1:=nx (by omega) (k3 0 (yJ _) (by omega));have b5:x+1<=ia+ib:=b3;have b6:y<=ia+ib:=b4;exact key.out o ia m c1 hp b5 b6
     ·intro o2 i2 mk c1 hp b5 b6
      clear m b1 b3 b4 k1 k2 k3;obtain ⟨pa,hpa,dpa,hle⟩:=hp;refine wpS_bind (JB hpb ?_);have m':MLo rk a.toList b.toList (o2.push pb).toList i2 (ib+1):=by rw [Array.toList_push];exact mk.stB ua ub hpb hpa hle
      by_cases g3:(ib+1 == b.size)=true
      case pos =>
       first | refine JA g3 ?_ | rw [yI g3]
       exact wpS_pure ⟨sm2,.inl ⟨_,_,_,_,_,_,_,rfl,dn m' (.inl (beq_iff_eq.mp g3))⟩⟩
      first | refine JQ g3 ?_ | rw [yH g3]
      have g3':ib+1<b.size:=by have:¬ ib+1=b.size:=fun z=>g3 (beq_iff_eq.mpr z);omega
      refine wpS_bind (JB hpa ?_);refine wpS_bind (tim_gallop C (sm2.1.trans hk) dpa (by omega) hDb (by omega) (J39 ub (by omega)) fun j j1 j2 j3=>?_);apply J7C
      ·intro key
       have mj:=m'.gaB ua ub hpa j2;rw [<- Array.toList_append] at mj;by_cases hj0:j > 0
       case' pos =>
        first | refine JA hj0 ?_ | rw [yI hj0]
        by_cases g4:(ib+1+j == b.size)=true
        case pos =>
         first | refine JA g4 ?_ | rw [yI g4]
         exact wpS_pure ⟨sm2,.inl ⟨_,_,_,_,_,_,_,rfl,dn mj (.inl (beq_iff_eq.mp g4))⟩⟩
        first | refine JQ g4 ?_ | rw [yH g4]
        have c2:ib+1+j<b.size:=by
         have:¬ ib+1+j=b.size:=fun z=>g4 (beq_iff_eq.mpr z);omega
        have hq:∃ pc,b[ib+1+j]?=some pc/\rk pa.1<=rk pc.1:=ny c2 (j3 j (yJ _) (by omega));have b7:ib<ib+1+j:=by omega
        revert mj c2 hq b7
        generalize (o2.push pb)++b.extract (ib+1) (ib+1+j)=o3;generalize ib+1+j=i3
        revert o3 i3
        exact key.out
       case' neg =>
        first | refine JQ hj0 ?_ | rw [yH hj0]
        obtain rfl:j=0:=by omega
        have c2:ib+1<b.size:=g3';have hq:∃ pc,b[ib+1]?=some pc/\rk pa.1<=rk pc.1:=ny c2 (j3 0 (yJ _) (by omega));have b7:ib<ib+1:=by omega
        exact key.out _ _ m' c2 hq b7
      ·intro o3 i3 mj c2 hq b7
       clear j1 j2 j3;obtain ⟨pc,hpc,hle2⟩:=hq;refine wpS_bind (JB hpa ?_);have m4:MLo rk a.toList b.toList (o3.push pa).toList (i2+1) i3:=by rw [Array.toList_push];exact mj.stA ua ub hpc hpa hle2
       by_cases g5:(i2+1+1 == a.size)=true
       case pos =>
        first | refine JA g5 ?_ | rw [yI g5]
        exact wpS_pure ⟨sm2,.inl ⟨_,_,_,_,_,_,_,rfl,lA m4 (beq_iff_eq.mp g5)⟩⟩
       first | refine JQ g5 ?_ | rw [yH g5]
       have g5':i2+1+1<a.size:=by have:¬ i2+1+1=a.size:=fun z=>g5 (beq_iff_eq.mpr z);omega
       split
       ·exact wpS_pure ⟨sm2,.inr ⟨_,_,_,_,_,_,rfl,m4,g5',c2,by omega⟩⟩
       ·exact wpS_pure ⟨sm2,_,_,_,_,_,_,rfl,m4,g5',c2,by omega,by omega⟩
end
def J6A:Array Keyed->Array Keyed->StateT SortSt Sem (Array Keyed):=sortPriv% PySem.Builtin.mergeHi
structure MHi (rk:Value->Nat)(la lb o:List Keyed)(na nb:Nat):Prop where
 perm:(la.take na++lb.take nb++o).Perm (la++lb)
 up:Up rk o
 hig:∀ x∈la.take na++lb.take nb,∀ y∈o,rk x.1<=rk y.1
section
variable {rk:Value->Nat}{la lb o:List Keyed}{na nb k:Nat}
theorem MHi.start:MHi rk la lb [] la.length lb.length:=⟨by simp,.nil,fun x _ y h=>nomatch h⟩
theorem J4E (l:List Keyed)(n:Nat)(h:k<=n):l.take n=l.take k++(l.take n).drop k:=by
 have e:(l.take n).take k=l.take k:=by rw [take_take];congr 1;omega
 rw [<- e];exact (take_append_drop k _).symm
theorem MHi.chA (m:MHi rk la lb o na nb)(hk:k<=na)(ha:Up rk la)(h:∀ x∈lb.take nb,∀ y∈(la.take na).drop k,rk x.1<=rk y.1):MHi rk la lb ((la.take na).drop k++o) k nb:=by
 have e:=J4E la na hk;have hd:Up rk (la.take k++(la.take na).drop k):=by rw [<- e];exact List.Pairwise.sublist (take_sublist _ _) ha
 obtain ⟨h1,h2,h3⟩:=pairwise_append.mp hd;refine ⟨?_,?_,?_⟩
 ·have p:=m.perm
  rw [e] at p;refine List.Perm.trans ?_ p;rw [<- zp];refine List.Perm.append_right _ ?_;rw [zp,zp];exact List.Perm.append_left _ perm_append_comm
 ·exact pairwise_append.mpr ⟨h2,m.up,fun x hx y hy=>m.hig x (zj _ (by rw [e];exact zi _ hx)) y hy⟩
 ·intro x hx y hy
  rcases zh.mp hy with hy | hy
  ·rcases zh.mp hx with hx | hx
   ·exact h3 x hx y hy
   ·exact h x hx y hy
  ·refine m.hig x ?_ y hy
   rcases zh.mp hx with hx | hx
   ·rw [e];exact zj _ (zj _ hx)
   ·exact zi _ hx
theorem MHi.chB (m:MHi rk la lb o na nb)(hk:k<=nb)(hb:Up rk lb)(h:∀ x∈la.take na,∀ y∈(lb.take nb).drop k,rk x.1<=rk y.1):MHi rk la lb ((lb.take nb).drop k++o) na k:=by
 have e:=J4E lb nb hk;have hd:Up rk (lb.take k++(lb.take nb).drop k):=by rw [<- e];exact List.Pairwise.sublist (take_sublist _ _) hb
 obtain ⟨h1,h2,h3⟩:=pairwise_append.mp hd;refine ⟨?_,?_,?_⟩
 ·have p:=m.perm
  rw [e] at p;simpa [zp] using p
 ·exact pairwise_append.mpr ⟨h2,m.up,fun x hx y hy=>m.hig x (zi _ (by rw [e];exact zi _ hx)) y hy⟩
 ·intro x hx y hy
  rcases zh.mp hy with hy | hy
  ·rcases zh.mp hx with hx | hx
   ·exact h x hx y hy
   ·exact h3 x hx y hy
  ·refine m.hig x ?_ y hy
   rcases zh.mp hx with hx | hx
   ·exact zj _ hx
   ·rw [e];exact zi _ (zj _ hx)
theorem MHi.doneA (m:MHi rk la lb o na nb)(ha:Up rk la)(hb:Up rk lb)(h:na=0\/nb=0):J0m rk la lb (la.take na++lb.take nb++o):=by
 refine ⟨m.perm,pairwise_append.mpr ⟨?_,m.up,m.hig⟩⟩;rcases h with rfl | rfl
 ·simpa using List.Pairwise.sublist (take_sublist _ _) hb
 ·simpa using List.Pairwise.sublist (take_sublist _ _) ha
theorem MHi.doneB (m:MHi rk la lb o na nb)(ha:Up rk la)(hb:Up rk lb)(h:∀ x∈lb.take nb,∀ y∈la,rk x.1<=rk y.1):J0m rk la lb (lb.take nb++la.take na++o):=by
 refine ⟨List.Perm.trans (List.Perm.append_right _ perm_append_comm) m.perm,pairwise_append.mpr ⟨?_,m.up,fun x hx y hy=>m.hig x ?_ y hy⟩⟩
 ·exact pairwise_append.mpr ⟨List.Pairwise.sublist (take_sublist _ _) hb,List.Pairwise.sublist (take_sublist _ _) ha,fun x hx y hy=>h x hx y (mem_of_mem_take hy)⟩
 ·rcases zh.mp hx with hx | hx
  ·exact zi _ hx
  ·exact zj _ hx
theorem J6D {l:List Keyed}{i:Nat}{p:Keyed}(h:l[i]?=some p):(l.take (i+1)).drop i=[p]:=by
 obtain ⟨hi,rfl⟩:=yV.mp h;rw [take_succ_eq_append_getElem hi,drop_append_of_le_length (by simp;omega),drop_eq_nil_of_le (by rw [y7];omega)];rfl
theorem J51 {l:List Keyed}{i:Nat}{p:Keyed}(u:Up rk l)(h:l[i]?=some p):∀ y∈l.take (i+1),rk y.1<=rk p.1:=by
 have e:=J4E (k:=i) l (i+1) (by omega);rw [J6D h] at e;have u':Up rk (l.take i++[p]):=by rw [<- e];exact List.Pairwise.sublist (take_sublist _ _) u
 intro y hy;rw [e] at hy;rcases zh.mp hy with hy | hy
 ·exact (pairwise_append.mp u').2.2 y hy p (by simp)
 ·cases yX.mp hy
  exact yJ _
theorem J4s {l:List Keyed}{n:Nat}{x:Keyed}(h:x∈l.take n):∃ j,j<n/\l[j]?=some x:=by
 have:=J3k (l:=l) (i:=0) (k:=n) (by simpa using h);simpa using this
theorem J9Y {l:List Keyed}{n k:Nat}{x:Keyed}(h:x∈(l.take n).drop k):∃ j,k<=j/\j<n/\l[j]?=some x:=by
 obtain ⟨j,hj⟩:=zk.mp h;rw [List.getElem?_drop] at hj;have hlt:k+j<n:=by
  have:=(yV.mp hj).1;rw [y7] at this;omega
 rw [List.getElem?_take_of_lt hlt] at hj;exact ⟨k+j,by omega,hlt,hj⟩
end
theorem J2U (a:Array Keyed)(n:Nat):(a.extract 0 n).toList=a.toList.take n:=by
 rw [Array.toList_extract,extract_eq_drop_take];simp
theorem J97 (a:Array Keyed)(k n:Nat):(a.extract k n).toList=(a.toList.take n).drop k:=by
 rw [Array.toList_extract,extract_eq_drop_take,drop_take]
section
variable {rk:Value->Nat}{a b:Array Keyed}{o:List Keyed}{na nb k:Nat}{pa pb:Keyed}
theorem MHi.stA (m:MHi rk a.toList b.toList o (na+1) nb)(ua:Up rk a.toList)(ha:a[na]?=some pa)(h:∀ x∈b.toList.take nb,rk x.1<=rk pa.1):MHi rk a.toList b.toList (pa::o) na nb:=by
 have q:=m.chA (k:=na) (by omega) ua (fun x hx y hy=>by
  rw [J6D (JR ha)] at hy;cases yX.mp hy;exact h x hx)
 rw [J6D (JR ha)] at q;exact q
theorem MHi.stB (m:MHi rk a.toList b.toList o na (nb+1))(ub:Up rk b.toList)(hb:b[nb]?=some pb)(h:∀ x∈a.toList.take na,rk x.1<=rk pb.1):MHi rk a.toList b.toList (pb::o) na nb:=by
 have q:=m.chB (k:=nb) (by omega) ub (fun x hx y hy=>by
  rw [J6D (JR hb)] at hy;cases yX.mp hy;exact h x hx)
 rw [J6D (JR hb)] at q;exact q
theorem J3a {left:Bool}{i:Nat}{p key:Keyed}(hp:a[i]?=some p)(h:bey rk left key a 0 i=false):rk key.1<=rk p.1:=by
 unfold bey at h;rw [Nat.zero_add,hp] at h;cases left with
 | true=>simpa using h
 | false=>exact Nat.le_of_lt (by simpa using h)
theorem J6Z {left:Bool}{i:Nat}{p key:Keyed}(hp:a[i]?=some p)(h:bey rk left key a 0 i=true):rk p.1<=rk key.1:=by
 unfold bey at h;rw [Nat.zero_add,hp] at h;cases left with
 | true=>exact Nat.le_of_lt (by simpa using h)
 | false=>simpa using h
theorem MHi.gaA (m:MHi rk a.toList b.toList o na nb)(hkn:k<=na)(ua:Up rk a.toList)(h:∀ i,k<=i->i<na->bey rk false pb a 0 i=false)(hb:∀ x∈b.toList.take nb,rk x.1<=rk pb.1):MHi rk a.toList b.toList ((a.extract k na).toList++o) k nb:=by
 rw [J97];refine m.chA hkn ua fun x hx y hy=>yR (hb x hx) ?_;obtain ⟨j,h1,h2,e⟩:=J9Y hy;rw [Array.getElem?_toList] at e;exact J3a e (h j h1 h2)
theorem MHi.gaB (m:MHi rk a.toList b.toList o na nb)(hkn:k<=nb)(ub:Up rk b.toList)(h:∀ i,k<=i->i<nb->bey rk true pa b 0 i=false)(ha:∀ x∈a.toList.take na,rk x.1<=rk pa.1):MHi rk a.toList b.toList ((b.extract k nb).toList++o) na k:=by
 rw [J97];refine m.chB hkn ub fun x hx y hy=>yR (ha x hx) ?_;obtain ⟨j,h1,h2,e⟩:=J9Y hy;rw [Array.getElem?_toList] at e;exact J3a e (h j h1 h2)
theorem J70 {left:Bool}{key:Keyed}(h:∀ i,i<k->bey rk left key a 0 i=true):∀ x∈a.toList.take k,rk x.1<=rk key.1:=fun x hx=>by
 obtain ⟨j,h1,e⟩:=J4s hx;rw [Array.getElem?_toList] at e;exact J6Z e (h j h1)
end
section
variable {prog:Program}{w:World}{A:Around}{E:Value->Shared->Prop}{s:Shared}{kd:SortKind}{D:Value->Prop}{rk:Value->Nat}
inductive HiI1 (rk:Value->Nat)(a b:Array Keyed)(x:Nat)(c:Option (Array Keyed)×Nat×Nat×Array Keyed×Nat):Prop
 | mk (na nb:Nat) (o:Array Keyed) (mg:Nat) (hc:c=(none,na,nb,o,mg)) (h0:MHi rk a.toList b.toList o.toList.reverse na nb) (h1:0<na) (h2:na<a.size) (h3:1<nb) (h4:nb<=b.size) (h5:x+na+nb<=a.size+b.size):HiI1 rk a b x c
inductive HiI2 (rk:Value->Nat)(a b:Array Keyed)(c:Option (Array Keyed)×Nat×Nat×Array Keyed×Nat):Prop
 | mk (l:Array Keyed) (na nb:Nat) (o:Array Keyed) (mg:Nat) (hc:c=(some l,na,nb,o,mg)) (h0:J0m rk a.toList b.toList l.toList):HiI2 rk a b c
inductive HiI3 (rk:Value->Nat)(a b:Array Keyed)(x:Nat)(y:Nat)(c:Option (Array Keyed)×Nat×Nat×Array Keyed×Nat×Nat):Prop
 | mk (na nb:Nat) (o:Array Keyed) (ac bc:Nat) (hc:c=(none,na,nb,o,ac,bc)) (h0:MHi rk a.toList b.toList o.toList.reverse na nb) (h1:0<na) (h2:na<a.size) (h3:1<nb) (h4:nb<=b.size) (h5:x+na+nb<=a.size+b.size) (h6:y+na+nb<=a.size+b.size):HiI3 rk a b x y c
inductive HiI4 (rk:Value->Nat)(a b:Array Keyed)(c:Option (Array Keyed)×Nat×Nat×Array Keyed×Nat×Nat):Prop
 | mk (l:Array Keyed) (na nb:Nat) (o:Array Keyed) (ac bc:Nat) (hc:c=(some l,na,nb,o,ac,bc)) (h0:J0m rk a.toList b.toList l.toList):HiI4 rk a b c
inductive HiI5 (rk:Value->Nat)(a b:Array Keyed)(x:Nat)(c:Option (Array Keyed)×Nat×Nat×Array Keyed×Nat×Nat):Prop
 | mk (na nb:Nat) (o:Array Keyed) (ac bc:Nat) (hc:c=(none,na,nb,o,ac,bc)) (h0:MHi rk a.toList b.toList o.toList.reverse na nb) (h1:0<na) (h2:na<a.size) (h3:1<nb) (h4:nb<=b.size) (h5:x+1+na+nb<=a.size+b.size):HiI5 rk a b x c
inductive HiI6 (rk:Value->Nat)(a b:Array Keyed)(x:Nat)(y:Nat)(c:Option (Array Keyed)×Nat×Nat×Array Keyed×Nat×Nat×Nat):Prop
 | mk (na nb:Nat) (o:Array Keyed) (mg ac bc:Nat) (hc:c=(none,na,nb,o,mg,ac,bc)) (h0:MHi rk a.toList b.toList o.toList.reverse na nb) (h1:0<na) (h2:na<a.size) (h3:1<nb) (h4:nb<=b.size) (h5:x+1+na+nb<=a.size+b.size) (h6:y+na+nb<=a.size+b.size):HiI6 rk a b x y c
inductive HiI7 (rk:Value->Nat)(a b:Array Keyed)(c:Option (Array Keyed)×Nat×Nat×Array Keyed×Nat×Nat×Nat):Prop
 | mk (l:Array Keyed) (na nb:Nat) (o:Array Keyed) (mg ac bc:Nat) (hc:c=(some l,na,nb,o,mg,ac,bc)) (h0:J0m rk a.toList b.toList l.toList):HiI7 rk a b c
inductive HiI8 (rk:Value->Nat)(a b:Array Keyed)(x:Nat)(c:Option (Array Keyed)×Nat×Nat×Array Keyed×Nat×Nat×Nat):Prop
 | mk (na nb:Nat) (o:Array Keyed) (mg ac bc:Nat) (hc:c=(none,na,nb,o,mg,ac,bc)) (h0:MHi rk a.toList b.toList o.toList.reverse na nb) (h1:0<na) (h2:na<a.size) (h3:1<nb) (h4:nb<=b.size) (h5:x+1+na+nb<=a.size+b.size):HiI8 rk a b x c
theorem tim_mergeHi (C:Cmp prog w A s kd D rk){st:SortSt}{a b:Array Keyed}{Q:Array Keyed->SortSt->Prop}(hk:kindOf st=kd)(hDa:∀ p∈a.toList,D p.1)(hDb:∀ p∈b.toList,D p.1)(ua:Up rk a.toList)(ub:Up rk b.toList){b0 a0:Keyed}{n:Nat}{al:Keyed}
 (hb0:b[0]?=some b0) (ha0:a[0]?=some a0) (hlt:rk b0.1<=rk a0.1) (hn:a.size=n+1) (hal:a[n]?=some al) (hlast:∀ x∈b.toList,rk x.1<=rk al.1)
 (h:∀ l st',J2k st st'->J0m rk a.toList b.toList l.toList->Q l st'):wpS (model prog w) A E s (J6A a b) Q st:=by
 have atA:∀ {i:Nat},i<a.size->∃ p,a[i]?=some p/\D p.1:=fun {i} hi=>⟨a[i],getElem?_pos a i hi,hDa _ (by simp)⟩;have atB:∀ {i:Nat},i<b.size->∃ p,b[i]?=some p/\D p.1:=fun {i} hi=>⟨b[i],getElem?_pos b i hi,hDb _ (by simp)⟩;have hbs:0<b.size:=by
  cases e:b.size with
  | zero=>rw [Array.getElem?_eq_none (by omega)] at hb0;cases hb0
  | succ m=>omega
 have m0:MHi rk a.toList b.toList [] (n+1) b.size:=by
  have:=MHi.start (rk:=rk) (la:=a.toList) (lb:=b.toList);simpa [hn] using this
 have m1:MHi rk a.toList b.toList (#[al]:Array Keyed).toList.reverse n b.size:=by
  simpa using m0.stA ua hal fun x hx=>hlast x (mem_of_mem_take hx)
 have dn:∀ {o:Array Keyed} {na nb:Nat},MHi rk a.toList b.toList o.toList.reverse na nb->(na=0\/nb=0)->J0m rk a.toList b.toList (a.extract 0 na++b.extract 0 nb++o.reverse).toList:=fun {o na nb} m hh=>by
  rw [Array.toList_append,Array.toList_append,J2U,J2U,Array.toList_reverse];exact m.doneA ua ub hh
 have fB:∀ {o:Array Keyed} {na nb:Nat},MHi rk a.toList b.toList o.toList.reverse na nb->nb=1->J0m rk a.toList b.toList (b.extract 0 nb++a.extract 0 na++o.reverse).toList:=fun {o na nb} m hh=>by
  rw [Array.toList_append,Array.toList_append,J2U,J2U,Array.toList_reverse];refine m.doneB ua ub fun x hx y hy=>?_;subst hh;refine yR (J51 ub (JR hb0) x hx) (yR hlt (J1r ua (JR ha0) y (by simpa using hy)))
 have eP:∀ (o:Array Keyed) (p:Keyed),(o.push p).toList.reverse=p::o.toList.reverse:=fun o p=>by simp
 have eC:∀ (o c:Array Keyed),(o++c.reverse).toList.reverse=c.toList++o.toList.reverse:=fun o c=>by simp
 unfold J6A;refine wpS_bind (wpS_lift (wpAny_rule ⟨rfl,?_⟩));have hal':a[a.size - 1]?=some al:=by rw [hn];exact hal
 refine wpS_bind (JB hal' ?_);have en:a.size - 1=n:=by omega
 rw [en];by_cases h1:(n == 0)=true
 ·first | refine JA h1 ?_ | rw [yI h1]
  exact wpS_pure (h _ _ ⟨rfl,rfl,rfl,rfl⟩ (dn m1 (.inl (beq_iff_eq.mp h1))))
 first | refine JQ h1 ?_ | rw [yH h1]
 by_cases h2:(b.size == 1)=true
 ·first | refine JA h2 ?_ | rw [yI h2]
  exact wpS_pure (h _ _ ⟨rfl,rfl,rfl,rfl⟩ (fB m1 (beq_iff_eq.mp h2)))
 first | refine JQ h2 ?_ | rw [yH h2]
 have h1':0<n:=by have:¬ n=0:=fun z=>h1 (beq_iff_eq.mpr z);omega
 have h2':1<b.size:=by have:¬ b.size=1:=fun z=>h2 (beq_iff_eq.mpr z);omega
 refine wpS_bind (wpS_get ?_);refine wpS_bind (wpS_mono (wpS_forRange (I:=fun x c st'=>J2k st st'/\HiI1 rk a b x c)
  (Q:=fun c st'=>J2k st st'/\HiI2 rk a b c) ?step ?fin ⟨⟨rfl,rfl,rfl,rfl⟩,n,b.size,_,_,rfl,m1,h1',by omega,h2',by omega,by omega⟩) ?post)
 case fin =>
  rintro c st' ⟨_,na,nb,o,mg,rfl,m,b1,b2,b3,b4,b5⟩;omega
 case post =>
  rintro c st' ⟨sm,l,na,nb,o,mg,rfl,m⟩;exact wpS_pure (h l st' sm m)
 case step =>
  rintro x c st1 _ hx ⟨sm,na,nb,o,mg,rfl,m,b1,b2,b3,b4,b5⟩;refine wpS_bind (wpS_mono (wpS_forRange (I:=fun y c st'=>st'=st1/\HiI3 rk a b x y c)
   (Q:=fun c st'=>st'=st1/\(HiI4 rk a b c\/HiI5 rk a b x c)) ?step1 ?fin1 ⟨rfl,na,nb,o,0,0,rfl,m,b1,b2,b3,b4,b5,by omega⟩) ?post1)
  case fin1 =>
   rintro c st' ⟨_,na,nb,o,ac,bc,rfl,m,b1,b2,b3,b4,b5,b6⟩;omega
  case step1 =>
   rintro y c st2 _ hy ⟨e2,na1,nb1,o,ac,bc,rfl,m,b1,b2,b3,b4,b5,b6⟩;rw [e2];clear e2;obtain ⟨na,rfl⟩:∃ q,na1=q+1:=⟨na1 - 1,by omega⟩;obtain ⟨nb,rfl⟩:∃ q,nb1=q+1:=⟨nb1 - 1,by omega⟩;dsimp only;simp only [Nat.add_sub_cancel];obtain ⟨pb,hpb,dpb⟩:=atB (i:=nb) (by omega);obtain ⟨pa,hpa,dpa⟩:=atA (i:=na) (by omega);refine wpS_bind (JB hpb (wpS_bind (JB hpa (wpS_bind (J3X C (sm.1.trans hk) dpb dpa ?_)))));by_cases hw:rk pb.1<rk pa.1
   ·first | refine JA (yL hw) ?_ | rw [yI (yL hw)]
    refine wpS_bind (JB hpa ?_);have m':MHi rk a.toList b.toList (o.push pa).toList.reverse na (nb+1):=by rw [eP];exact m.stA ua hpa fun z hz=>yR (J51 ub (JR hpb) z hz) (Nat.le_of_lt hw)
    by_cases g1:(na == 0)=true
    ·first | refine JA g1 ?_ | rw [yI g1]
     exact wpS_pure ⟨rfl,.inl ⟨_,_,_,_,_,_,rfl,dn m' (.inl (beq_iff_eq.mp g1))⟩⟩
    ·first | refine JQ g1 ?_ | rw [yH g1]
     have g1':0<na:=by have:¬ na=0:=fun z=>g1 (beq_iff_eq.mpr z);omega
     by_cases g2:ac+1≥mg
     ·first | refine JA g2 ?_ | rw [yI g2]
      exact wpS_pure ⟨rfl,.inr ⟨_,_,_,_,_,rfl,m',g1',by omega,b3,b4,by omega⟩⟩
     ·first | refine JQ g2 ?_ | rw [yH g2]
      exact wpS_pure ⟨rfl,_,_,_,_,_,rfl,m',g1',by omega,b3,b4,by omega,by omega⟩
   ·first | refine JQ (by rw [yM hw];exact yK) ?_ | rw [yH (by rw [yM hw];exact yK)]
    refine wpS_bind (JB hpb ?_);have m':MHi rk a.toList b.toList (o.push pb).toList.reverse (na+1) nb:=by rw [eP];exact m.stB ub hpb fun z hz=>yR (J51 ua (JR hpa) z hz) (by omega)
    by_cases g1:(nb == 1)=true
    ·first | refine JA g1 ?_ | rw [yI g1]
     exact wpS_pure ⟨rfl,.inl ⟨_,_,_,_,_,_,rfl,fB m' (beq_iff_eq.mp g1)⟩⟩
    ·first | refine JQ g1 ?_ | rw [yH g1]
     have g1':1<nb:=by have:¬ nb=1:=fun z=>g1 (beq_iff_eq.mpr z);omega
     by_cases g2:bc+1≥mg
     ·first | refine JA g2 ?_ | rw [yI g2]
      exact wpS_pure ⟨rfl,.inr ⟨_,_,_,_,_,rfl,m',b1,b2,g1',by omega,by omega⟩⟩
     ·first | refine JQ g2 ?_ | rw [yH g2]
      exact wpS_pure ⟨rfl,_,_,_,_,_,rfl,m',b1,b2,g1',by omega,by omega,by omega⟩
  case post1 =>
   clear m b1 b2 b3 b4 b5;rintro c st2 ⟨e2,⟨l,na,nb,o,ac,bc,rfl,m⟩ | ⟨na,nb,o,ac,bc,rfl,m,b1,b2,b3,b4,b5⟩⟩
   ·rw [e2]
    exact wpS_pure ⟨sm,l,_,_,_,_,rfl,m⟩
   rw [e2];clear e2;refine wpS_bind (wpS_lift (wpAny_rule ⟨rfl,?_⟩));refine wpS_bind (wpS_mono (wpS_forRange (I:=fun y c st'=>J2k st st'/\HiI6 rk a b x y c)
    (Q:=fun c st'=>J2k st st'/\(HiI7 rk a b c\/HiI8 rk a b x c)) ?step3 ?fin3 ⟨sm,na,nb,o,_,_,_,rfl,m,b1,b2,b3,b4,b5,by omega⟩) ?post3)
   case fin3 =>
    rintro c st' ⟨_,na,nb,o,mg,ac,bc,rfl,m,b1,b2,b3,b4,b5,b6⟩;omega
   case post3 =>
    clear m b1 b2 b3 b4 b5;rintro c st2 ⟨sm,⟨l,na,nb,o,mg,ac,bc,rfl,m⟩ | ⟨na,nb,o,mg,ac,bc,rfl,m,b1,b2,b3,b4,b5⟩⟩
    ·exact wpS_pure ⟨sm,l,_,_,_,_,rfl,m⟩
    ·exact wpS_bind (wpS_modify (wpS_pure ⟨sm,_,_,_,_,rfl,m,b1,b2,b3,b4,by omega⟩))
   case step3 =>
    clear m b1 b2 b3 b4 b5;rintro y c st2 _ hy ⟨sm2,na,nb1,o,mg2,ac,bc,rfl,m,b1,b2,b3,b4,b5,b6⟩;obtain ⟨nb,rfl⟩:∃ q,nb1=q+1:=⟨nb1 - 1,by omega⟩;dsimp only;simp only [Nat.add_sub_cancel];obtain ⟨pb,hpb,dpb⟩:=atB (i:=nb) (by omega);apply J7C
    ·intro key
     by_cases hg:mg2 > 1
     ·rw [yI hg]
      generalize mg2 - 1=mg3
      revert mg3
      exact key.out
     ·rw [yH hg]
      exact key.out mg2
    ·intro mg3
     refine wpS_bind (wpS_modify (wpS_bind (JB hpb ?_)));refine wpS_bind (tim_gallop C (sm2.1.trans hk) dpb (by omega) hDa (by omega) (J39 ua (by omega)) fun k k1 k2 k3=>?_);have kt:=J70 k2;apply J7C
     ·intro key
      have mk:=m.gaA k1 ua k3 (J51 ub (JR hpb));rw [<- eC] at mk;by_cases hk0:na - k > 0
      case' pos =>
       first | refine JA hk0 ?_ | rw [yI hk0]
       by_cases g1:(k == 0)=true
       case pos =>
        first | refine JA g1 ?_ | rw [yI g1]
        exact wpS_pure ⟨sm2,.inl ⟨_,_,_,_,_,_,_,rfl,dn mk (.inl (beq_iff_eq.mp g1))⟩⟩
       first | refine JQ g1 ?_ | rw [yH g1]
       have c1:0<k:=by have:¬ k=0:=fun z=>g1 (beq_iff_eq.mpr z);omega
       have c2:k<a.size:=by omega
       have c3:x+1+k+nb+1<=a.size+b.size:=by omega
       have c4:y+k+nb+1<=a.size+b.size:=by omega
       revert mk c1 c2 c3 c4
       generalize na - k=ka;generalize o++(a.extract k na).reverse=o2
       revert ka o2
       exact key.out
      case' neg =>
       first | refine JQ hk0 ?_ | rw [yH hk0]
       obtain rfl:k=na:=by omega
       exact key.out _ _ m b1 b2 (by omega) (by omega)
     ·intro ka o2 mk c1 c2 c3 c4
      clear m b1 b2 b5 b6 k2 k3 k1;refine wpS_bind (JB hpb ?_);have m':MHi rk a.toList b.toList (o2.push pb).toList.reverse k nb:=by rw [eP];exact mk.stB ub hpb kt
      by_cases g3:(nb == 1)=true
      case pos =>
       first | refine JA g3 ?_ | rw [yI g3]
       exact wpS_pure ⟨sm2,.inl ⟨_,_,_,_,_,_,_,rfl,fB m' (beq_iff_eq.mp g3)⟩⟩
      first | refine JQ g3 ?_ | rw [yH g3]
      have g3':1<nb:=by have:¬ nb=1:=fun z=>g3 (beq_iff_eq.mpr z);omega
      obtain ⟨k,rfl⟩:∃ q,k=q+1:=⟨k - 1,by omega⟩;simp only [Nat.add_sub_cancel];obtain ⟨pa,hpa,dpa⟩:=atA (i:=k) (by omega);refine wpS_bind (JB hpa ?_);refine wpS_bind (tim_gallop C (sm2.1.trans hk) dpa (by omega) hDb (by omega) (J39 ub (by omega)) fun j j1 j2 j3=>?_);have jt:=J70 j2;apply J7C
      ·intro key
       have mj:=m'.gaB j1 ub j3 (J51 ua (JR hpa));rw [<- eC] at mj;by_cases hj0:nb - j > 0
       case' pos =>
        first | refine JA hj0 ?_ | rw [yI hj0]
        by_cases g4:(j == 1)=true
        case pos =>
         first | refine JA g4 ?_ | rw [yI g4]
         exact wpS_pure ⟨sm2,.inl ⟨_,_,_,_,_,_,_,rfl,fB mj (beq_iff_eq.mp g4)⟩⟩
        first | refine JQ g4 ?_ | rw [yH g4]
        by_cases g6:(j == 0)=true
        case pos =>
         first | refine JA g6 ?_ | rw [yI g6]
         exact wpS_pure ⟨sm2,.inl ⟨_,_,_,_,_,_,_,rfl,dn mj (.inr (beq_iff_eq.mp g6))⟩⟩
        first | refine JQ g6 ?_ | rw [yH g6]
        have d1:1<j:=by
         have:¬ j=1:=fun z=>g4 (beq_iff_eq.mpr z);have:¬ j=0:=fun z=>g6 (beq_iff_eq.mpr z);omega
        have d2:j<=nb:=j1
        revert mj d1 d2
        generalize nb - j=kb;generalize (o2.push pb)++(b.extract j nb).reverse=o3
        revert kb o3
        exact key.out
       case' neg =>
        first | refine JQ hj0 ?_ | rw [yH hj0]
        obtain rfl:j=nb:=by omega
        exact key.out _ _ m' g3' (yJ _)
      ·intro kb o3 mj d1 d2
       clear j1 j2 j3;refine wpS_bind (JB hpa ?_);have m4:MHi rk a.toList b.toList (o3.push pa).toList.reverse k j:=by rw [eP];exact mj.stA ua hpa jt
       by_cases g5:(k == 0)=true
       case pos =>
        first | refine JA g5 ?_ | rw [yI g5]
        exact wpS_pure ⟨sm2,.inl ⟨_,_,_,_,_,_,_,rfl,dn m4 (.inl (beq_iff_eq.mp g5))⟩⟩
       first | refine JQ g5 ?_ | rw [yH g5]
       have g5':0<k:=by have:¬ k=0:=fun z=>g5 (beq_iff_eq.mpr z);omega
       split
       ·exact wpS_pure ⟨sm2,.inr ⟨_,_,_,_,_,_,rfl,m4,g5',by omega,d1,by omega,by omega⟩⟩
       ·exact wpS_pure ⟨sm2,_,_,_,_,_,_,rfl,m4,g5',by omega,d1,by omega,by omega,by omega⟩
end
theorem J86 (sa:Nat):∀ (l:List Keyed) (k:Nat) (arr:Array Keyed),sa+k+l.length<=arr.size->((l.zipIdx k).foldl (fun a (x:Keyed×Nat)=>a.setIfInBounds (sa+x.2) x.1) arr).toList=arr.toList.take (sa+k)++(l++arr.toList.drop (sa+k+l.length))
 | [],k,arr,h=>by simp
 | p :: l,k,arr,h=>by
   rw [length_cons] at h;rw [zipIdx_cons,foldl_cons,J86 sa l (k+1) _ (by rw [Array.size_setIfInBounds];omega),Array.toList_setIfInBounds];have hlt:sa+k<arr.toList.length:=by rw [yT];omega
   have e1:(arr.toList.set (sa+k) p).take (sa+(k+1))=arr.toList.take (sa+k)++[p]:=by
    rw [<- Nat.add_assoc,take_succ_eq_append_getElem (by rw [length_set];exact hlt),getElem_set_self,take_set_of_le (by omega)]
   have e2:(arr.toList.set (sa+k) p).drop (sa+(k+1)+l.length)=arr.toList.drop (sa+k+(p::l).length):=by
    rw [drop_set_of_lt (by omega),length_cons];congr 1;omega
   rw [e1,e2];simp
theorem J4j {ps1 ps2:List (Nat×Nat×Nat)}{x y z:Nat×Nat×Nat}{p:Array (Nat×Nat×Nat)}(h:p.toList=ps1++x::y::ps2):((p.setIfInBounds ps1.length z).eraseIdxIfInBounds (ps1.length+1)).toList=ps1++z::ps2:=by
 rw [Array.toList_eraseIdxIfInBounds,Array.toList_setIfInBounds,h,set_append_right _ _ (yJ _),Nat.sub_self,set_cons_zero,eraseIdx_append_of_length_le (by omega)];rw [show ps1.length+1 - ps1.length=1 by omega];rfl
theorem J5r {rk:Value->Nat}{a:Array Keyed}{base n:Nat}{left:Bool}{key:Keyed}{P l R:List Keyed}(e:a.toList=P++(l++R))(hP:P.length=base)(hn:n=l.length)(u:Up rk l):∀ i j,i<=j->j<n->bey rk left key a base j=true->bey rk left key a base i=true:=fun i j hij hj h=>by
 have at':∀ i,i<n->a[base+i]?=l[i]?:=fun i hi=>by
  rw [<- Array.getElem?_toList,e,zm (by omega),hP,zn (by omega)];congr 1;omega
 have hi':i<l.length:=by omega
 have hj':j<l.length:=by omega
 have ei:=(at' i (by omega)).trans (yU hi');have ej:=(at' j (by omega)).trans (yU hj');have le:rk l[i].1<=rk l[j].1:=by
  rcases Nat.lt_or_eq_of_le hij with q | rfl
  ·exact (pairwise_iff_getElem.mp u) i j hi' hj' q
  ·exact yJ _
 unfold bey at h ⊢;rw [ej] at h;rw [ei];cases left with
 | true=>simp only [if_true,decide_eq_true_eq] at h ⊢;omega
 | false=>simp only [Bool.false_eq_true,if_false,Bool.not_eq_true',decide_eq_false_iff_not] at h ⊢;omega
section
variable {prog:Program}{w:World}{A:Around}{E:Value->Shared->Prop}{s:Shared}{kd:SortKind}{D:Value->Prop}{rk:Value->Nat}
theorem JaA {M:Model}{st st':SortSt}{Q:PUnit->SortSt->Prop}(h:Q ⟨⟩ st'):wpS M A E s (set st':StateT SortSt Sem PUnit) Q st:=by
 unfold wpS;rw [StateT.run_set];exact yG ⟨rfl,h⟩
theorem tim_mergeAt (C:Cmp prog w A s kd D rk){st:SortSt}{i sa na pw sb nb pw2:Nat}{ps1 ps2:List (Nat×Nat×Nat)}{P la lb R:List Keyed}{Q:Bool->SortSt->Prop}(hk:kindOf st=kd)(hf:failedOf st=none)(hD:∀ p∈(arrOf st).toList,D p.1)
 (hp:(pendingOf st).toList=ps1++(sa,na,pw)::(sb,nb,pw2)::ps2) (hi:ps1.length=i) (ha:(arrOf st).toList=P++(la++(lb++R))) (hP:P.length=sa) (hla:la.length=na) (hsb:sb=sa+na) (hlb:lb.length=nb) (a0:0<na) (b0:0<nb) (ua:Up rk la) (ub:Up rk lb)
 (h:∀ st' l,kindOf st'=kd->failedOf st'=none->J0m rk la lb l->(arrOf st').toList=P++(l++R)->(pendingOf st').toList=ps1++(sa,na+nb,pw)::ps2->Q true st'):wpS (model prog w) A E s (mergeAt' i) Q st:=by
 subst hi hP hla hsb hlb;have p1:(pendingOf st)[ps1.length]?=some (P.length,la.length,pw):=by rw [<- Array.getElem?_toList,hp];simp
 have p2:(pendingOf st)[ps1.length+1]?=some (P.length+la.length,lb.length,pw2):=by rw [<- Array.getElem?_toList,hp,zm (by omega)];simp
 have hsz:(arrOf st).size=P.length+(la.length+(lb.length+R.length)):=by rw [<- yT,ha];simp
 have atA:∀ j,j<la.length->(arrOf st)[P.length+j]?=la[j]?:=fun j hj=>by
  rw [<- Array.getElem?_toList,ha,zm (by omega),zn (by omega)];congr 1;omega
 have atB:∀ j,j<lb.length->(arrOf st)[P.length+la.length+j]?=lb[j]?:=fun j hj=>by
  rw [<- Array.getElem?_toList,ha,zm (by omega),zm (by omega),zn (by omega)];congr 1;omega
 have dA:∀ p∈la,D p.1:=fun p hp=>hD p (by rw [ha];simp [hp]);have dB:∀ p∈lb,D p.1:=fun p hp=>hD p (by rw [ha];simp [hp]);unfold mergeAt';refine wpS_bind (wpS_get ?_);have q1:=p1;have q2:=p2;unfold pendingOf at q1 q2;rw [q1,q2];refine wpS_bind (JaA ?_);have hst:∀ (x:SortSt),kindOf x=kindOf st->kindOf x=kd:=fun x e=>e.trans hk;obtain ⟨fb,hfb⟩:∃ p,lb[0]?=some p:=⟨lb[0],yU b0⟩;have efb:(arrOf st)[P.length+la.length]?=some fb:=by have:=atB 0 b0;rw [Nat.add_zero,hfb] at this;exact this
 have dfb:D fb.1:=dB _ (y4 hfb);refine wpS_bind (JB efb ?_);refine wpS_bind (tim_gallop C hk dfb (by show _<=(arrOf st).size;omega) hD a0 (J5r ha rfl rfl ua) fun k k1 k2 k3=>?_);dsimp only;have eb:∀ {left:Bool} {key:Keyed} {j:Nat} (hj:j<la.length),bey rk left key (arrOf st) P.length j=(if left then decide (rk la[j].1<rk key.1) else !decide (rk key.1<rk la[j].1)):=fun {left key j} hj=>by
  unfold bey;rw [atA j hj,yU hj]
 have ec:∀ {left:Bool} {key:Keyed} {j:Nat} (hj:j<lb.length),bey rk left key (arrOf st) (P.length+la.length) j=(if left then decide (rk lb[j].1<rk key.1) else !decide (rk key.1<rk lb[j].1)):=fun {left key j} hj=>by
  unfold bey;rw [atB j hj,yU hj]
 have lowA:∀ x∈la.take k,rk x.1<=rk fb.1:=fun x hx=>by
  obtain ⟨j,hj,e⟩:=J4s hx;have hj':j<la.length:=by omega
  rw [yU hj'] at e;cases e;have:=k2 j hj;rw [eb hj'] at this;simpa using this
 have fbB:∀ y∈lb,rk fb.1<=rk y.1:=fun y hy=>J1r ub hfb y (by simpa using hy);have lk:(la.take k).length=k:=by rw [y7];omega
 by_cases g1:(la.length - k == 0)=true
 ·rw [yI g1]
  have ek:k=la.length:=by have:=beq_iff_eq.mp g1;omega
  refine wpS_pure (h _ (la++lb) hk hf ⟨List.Perm.refl _,pairwise_append.mpr ⟨ua,ub,fun x hx y hy=>yR (lowA x (by rw [ek,zf];exact hx)) (fbB y hy)⟩⟩ (by rw [zp];exact ha) (J4j hp))
 rw [yH g1];have hkl:k<la.length:=by have:¬ la.length - k=0:=fun z=>g1 (beq_iff_eq.mpr z);omega
 obtain ⟨n,hn⟩:∃ n,la.length=n+1:=⟨la.length - 1,by omega⟩;obtain ⟨al,hal⟩:∃ p,la[n]?=some p:=⟨la[n],yU (by omega)⟩;have eal:(arrOf st)[P.length+k+(la.length - k) - 1]?=some al:=by
  have:=atA n (by omega);rw [hal] at this;rw [show P.length+k+(la.length - k) - 1=P.length+n by omega];exact this
 have dal:D al.1:=dA _ (y4 hal);refine wpS_bind (JB eal ?_);have ha2:(arrOf st).toList=(P++la)++(lb++R):=by rw [ha,zp]
 refine wpS_bind (tim_gallop C hk dal (by show _<=(arrOf st).size;omega) hD (by omega) (J5r ha2 (by simp) rfl ub) fun j j1 j2 j3=>?_);dsimp only;have alA:∀ x∈la,rk x.1<=rk al.1:=fun x hx=>J51 ua hal x (by rw [<- hn,zf];exact hx);have hiB:∀ y∈lb.drop j,rk al.1<=rk y.1:=fun y hy=>by
  obtain ⟨q,hq⟩:=zk.mp hy;rw [List.getElem?_drop] at hq;have hlt:j+q<lb.length:=(yV.mp hq).1;rw [yU hlt] at hq;cases hq;have:=j3 (j+q) (by omega) hlt;rw [ec hlt] at this;simpa using this
 have loB:∀ y∈lb.take j,rk y.1<=rk al.1:=fun y hy=>by
  obtain ⟨q,hq,e⟩:=J4s hy;have hlt:q<lb.length:=by omega
  rw [yU hlt] at e;cases e;have:=j2 q hq;rw [ec hlt] at this;exact Nat.le_of_lt (by simpa using this)
 by_cases g2:(j == 0)=true
 ·rw [yI g2]
  have ej:j=0:=beq_iff_eq.mp g2;refine wpS_pure (h _ (la++lb) hk hf ⟨List.Perm.refl _,pairwise_append.mpr ⟨ua,ub,fun x hx y hy=>yR (alA x hx) (hiB y (by rw [ej];exact hy))⟩⟩ (by rw [zp];exact ha) (J4j hp))
 rw [yH g2];have hj0:0<j:=by have:¬ j=0:=fun z=>g2 (beq_iff_eq.mpr z);omega
 have ex:((arrOf st).extract (P.length+k) (P.length+la.length)).toList=la.drop k:=by
  rw [Array.toList_extract,extract_eq_drop_take,ha,show P.length+la.length - (P.length+k)=la.length - k by omega,<- drop_drop,drop_left,drop_append_of_le_length (by omega),take_left' (by rw [length_drop])]
 have ey:((arrOf st).extract (P.length+la.length) (P.length+la.length+j)).toList=lb.take j:=by
  rw [Array.toList_extract,extract_eq_drop_take,ha2,show P.length+la.length+j - (P.length+la.length)=j by omega,drop_left' (by simp),take_append_of_le_length (by omega)]
 generalize (arrOf st).extract (P.length+k) (P.length+la.length)=x at ex;have ey':((arrOf st).extract (P.length+la.length) (P.length+la.length+j)).toList=lb.take j:=ey;clear ey;generalize (arrOf st).extract (P.length+la.length) (P.length+la.length+j)=y at ey';obtain ⟨fa,hfa⟩:∃ p,la[k]?=some p:=⟨la[k],yU hkl⟩;have x0:x[0]?=some fa:=by rw [<- Array.getElem?_toList,ex,List.getElem?_drop,Nat.add_zero];exact hfa
 have y0:y[0]?=some fb:=by rw [<- Array.getElem?_toList,ey',List.getElem?_take_of_lt hj0];exact hfb
 have hle:rk fb.1<=rk fa.1:=by
  have:=k3 k (yJ _) hkl;rw [show bey rk false fb (arrOf st) P.length k=_ from eb hkl] at this;have e:la[k]=fa:=by have:=hfa;rw [yU hkl] at this;exact yN this
  rw [e] at this;exact Nat.le_of_lt (by simpa using this)
 have xs:x.size=(n - k)+1:=by rw [<- yT,ex,length_drop];omega
 have xl:x[n - k]?=some al:=by rw [<- Array.getElem?_toList,ex,List.getElem?_drop,show k+(n - k)=n by omega];exact hal
 have uax:Up rk x.toList:=by rw [ex];exact List.Pairwise.sublist (drop_sublist _ _) ua
 have uby:Up rk y.toList:=by rw [ey'];exact List.Pairwise.sublist (take_sublist _ _) ub
 have dax:∀ p∈x.toList,D p.1:=fun p hp=>dA p (by rw [ex] at hp;exact mem_of_mem_drop hp);have dby:∀ p∈y.toList,D p.1:=fun p hp=>dB p (by rw [ey'] at hp;exact mem_of_mem_take hp);have lst:∀ z∈y.toList,rk z.1<=rk al.1:=fun z hz=>loB z (by rw [ey'] at hz;exact hz);have key:∀ (l:Array Keyed) (st2:SortSt),J2k (SortSt.mk' (kindOf st) (arrOf st) (((pendingOf st).setIfInBounds ps1.length (P.length,la.length+lb.length,pw)).eraseIdxIfInBounds (ps1.length+1)) (gallopOf st) (failedOf st)) st2->J0m rk x.toList y.toList l.toList ->
  ∀ st3:SortSt,kindOf st3=kindOf st2->pendingOf st3=pendingOf st2->failedOf st3=failedOf st2->arrOf st3=l.toList.zipIdx.foldl (fun a (x:Keyed×Nat)=>a.setIfInBounds (P.length+k+x.2) x.1) (arrOf st2)->Q true st3:=by
  rintro l st2 ⟨s1,s2,s3,s4⟩ ⟨mp,mu⟩ st3 t1 t2 t3 t4;have ll:l.toList.length=(la.length - k)+j:=by rw [mp.length_eq,y6,ex,ey',length_drop,y7];omega
  have e2:arrOf st2=arrOf st:=s2;have J05:P.length+k+0+l.toList.length<=(arrOf st).size:=by omega
  have e3:(arrOf st3).toList=(P++la.take k)++(l.toList++(lb.drop j++R)):=by
   rw [t4,e2,J86 (P.length+k) l.toList 0 _ J05,Nat.add_zero];congr 1
   ·rw [ha,take_append,take_of_length_le (by omega),show P.length+k - P.length=k by omega,take_append_of_le_length (by omega)]
   ·congr 1
    rw [ll,ha2,show P.length+k+(la.length - k+j)=(P++la).length+j by rw [y6];omega,drop_append,drop_eq_nil_of_le (by omega),show (P++la).length+j - (P++la).length=j by omega,nil_append,drop_append_of_le_length (by omega)]
  refine h st3 (la.take k++(l.toList++lb.drop j)) (t1.trans (s1.trans hk)) (t3.trans (s4.trans hf)) ⟨?_,?_⟩ ?_ ?_
  ·rw [ex,ey'] at mp
   have p1:(la.take k++(l.toList++lb.drop j)).Perm (la.take k++((la.drop k++lb.take j)++lb.drop j)):=List.Perm.append_left _ (List.Perm.append_right _ mp);refine p1.trans (List.Perm.of_eq ?_);rw [zp,take_append_drop,<- zp,take_append_drop]
  ·rw [ex,ey'] at mp
   have ud:Up rk (la.take k++la.drop k):=by rw [take_append_drop];exact ua
   have ue:Up rk (lb.take j++lb.drop j):=by rw [take_append_drop];exact ub
   obtain ⟨u1,u2,u3⟩:=pairwise_append.mp ud;obtain ⟨v1,v2,v3⟩:=pairwise_append.mp ue;refine pairwise_append.mpr ⟨u1,pairwise_append.mpr ⟨mu,v2,fun z hz y hy=>?_⟩,fun z hz y hy=>?_⟩
   ·rcases zh.mp (mp.mem_iff.mp hz) with q | q
    ·exact yR (alA z (mem_of_mem_drop q)) (hiB y hy)
    ·exact v3 z q y hy
   ·rcases zh.mp hy with q | q
    ·rcases zh.mp (mp.mem_iff.mp q) with q | q
     ·exact u3 z hz y q
     ·exact yR (lowA z hz) (fbB y (mem_of_mem_take q))
    ·exact yR (lowA z hz) (fbB y (mem_of_mem_drop q))
  ·rw [e3]
   simp [zp]
  ·rw [t2,show pendingOf st2=_ from s3]
   exact J4j hp
 by_cases g3:la.length - k<=j
 ·rw [yI g3]
  refine wpS_bind (tim_mergeLo C hk dax dby uax uby y0 x0 hle xs xl lst fun l st2 sm mm=>?_);refine wpS_bind (wpS_modify (wpS_bind (wpS_get (wpS_pure ?_))));have e:failedOf st2=none:=sm.2.2.2.trans hf;have e':(failedOf st2).isNone=true:=by rw [e];rfl
  show Q (failedOf st2).isNone _;rw [e'];exact key l st2 sm mm _ rfl rfl rfl rfl
 ·rw [yH g3]
  refine wpS_bind (tim_mergeHi C hk dax dby uax uby y0 x0 hle xs xl lst fun l st2 sm mm=>?_);refine wpS_bind (wpS_modify (wpS_bind (wpS_get (wpS_pure ?_))));have e:failedOf st2=none:=sm.2.2.2.trans hf;have e':(failedOf st2).isNone=true:=by rw [e];rfl
  show Q (failedOf st2).isNone _;rw [e'];exact key l st2 sm mm _ rfl rfl rfl rfl
end
def ra (rk:Value->Nat)(arr:Array Keyed)(i:Nat):Nat :=
 match arr[i]? with
 | some p=>rk p.1
 | none=>0
def Inc (rk:Value->Nat)(arr:Array Keyed)(lo n:Nat):Prop:=∀ i j,i<=j->j<n->ra rk arr (lo+i)<=ra rk arr (lo+j)
def Dec (rk:Value->Nat)(arr:Array Keyed)(lo n:Nat):Prop:=∀ i j,i<=j->j<n->ra rk arr (lo+j)<=ra rk arr (lo+i)
theorem J3g {rk:Value->Nat}{xs:Array Keyed}{i j:Nat}(hj:j<=xs.size)(k:Nat):ra rk (mirror xs i j ((j - i) / 2)) k=if i<=k/\k<j then ra rk xs (i+j - 1 - k) else ra rk xs k:=by
 unfold ra;rw [getElem?_mirror_all hj];by_cases q:i<=k/\k<j
 ·rw [yI q,yI q]
 ·rw [yH q,yH q]
theorem J58 {rk:Value->Nat}{xs:Array Keyed}{src d:Nat}(hs:src<xs.size)(hd:d<=src)(k:Nat):ra rk (bubble xs src d) k=if k=src - d then ra rk xs src else if src - d<k/\k<=src then ra rk xs (k - 1) else ra rk xs k:=by
 unfold ra;rw [getElem?_bubble hs d hd];by_cases q:k=src - d
 ·rw [yI q,yI q]
 ·rw [yH q,yH q]
  by_cases q2:src - d<k/\k<=src
  ·rw [yI q2,yI q2]
  ·rw [yH q2,yH q2]
theorem J1T {rk:Value->Nat}{xs:Array Keyed}{i j:Nat}(hj:j<=xs.size)(h:∀ k,i<=k->k<j->ra rk xs k=ra rk xs (j - 1))(k:Nat):ra rk (mirror xs i j ((j - i) / 2)) k=ra rk xs k:=by
 rw [J3g hj]
 split
 ·rw [h _ (by omega) (by omega),h k (by omega) (by omega)]
 ·rfl
structure SB (st0 st:SortSt)(lo n:Nat):Prop where
 kind:kindOf st=kindOf st0
 failed:failedOf st=failedOf st0
 pend:pendingOf st=pendingOf st0
 perm:(arrOf st).Perm (arrOf st0)
 out:∀ i,(i<lo\/lo+n<=i)->(arrOf st)[i]?=(arrOf st0)[i]?
theorem SB.refl (st:SortSt)(lo n:Nat):SB st st lo n:=⟨rfl,rfl,rfl,Array.Perm.refl _,fun _ _=>rfl⟩
theorem SB.size {st0 st:SortSt}{lo n:Nat}(h:SB st0 st lo n):(arrOf st).size=(arrOf st0).size:=h.perm.size_eq
theorem SB.mirr {st0 st:SortSt}{lo n i j:Nat}(h:SB st0 st lo n)(hi:lo<=i)(hj:j<=lo+n)(hz:lo+n<=(arrOf st0).size):SB st0 (setArr st (mirror (arrOf st) i j ((j - i) / 2))) lo n :=
 ⟨h.kind,h.failed,h.pend,(mirror_perm _ _ _ _).trans h.perm,fun k hk=>by
  show (mirror (arrOf st) i j ((j - i) / 2))[k]?=_;rw [getElem?_mirror_all (by rw [h.size];omega),yH (by omega)];exact h.out k hk⟩
theorem SB.bubb {st0 st:SortSt}{lo n src d:Nat}(h:SB st0 st lo n)(hs:src<lo+n)(hd:lo+d<=src)(hz:lo+n<=(arrOf st0).size):SB st0 (setArr st (bubble (arrOf st) src d)) lo n :=
 ⟨h.kind,h.failed,h.pend,(bubble_perm _ _ _).trans h.perm,fun k hk=>by
  show (PyProof.Rows.bubble (arrOf st) src d)[k]?=_;rw [getElem?_bubble (by rw [h.size];omega) d (by omega),yH (by omega),yH (by omega)];exact h.out k hk⟩
section
variable {prog:Program}{w:World}{A:Around}{E:Value->Shared->Prop}{s:Shared}{kd:SortKind}{D:Value->Prop}{rk:Value->Nat}
theorem J1D (C:Cmp prog w A s kd D rk){st0 st:SortSt}{lo n i j:Nat}{Q:Option Bool->SortSt->Prop}(hB:SB st0 st lo n)(hk:kindOf st0=kd)(hD:∀ p∈(arrOf st0).toList,D p.1)(hi:i<(arrOf st0).size)(hj:j<(arrOf st0).size)
 (h:Q (some (decide (ra rk (arrOf st) i<ra rk (arrOf st) j))) st):wpS (model prog w) A E s (ltAt' i j) Q st:=by
 have at':∀ i,i<(arrOf st0).size->∃ p,(arrOf st)[i]?=some p/\D p.1/\ra rk (arrOf st) i=rk p.1:=fun i hi=>by
  have hi':i<(arrOf st).size:=by rw [hB.size];exact hi
  have e:(arrOf st)[i]?=some (arrOf st)[i]:=getElem?_pos (arrOf st) i hi';exact ⟨_,e,hD _ ((Array.perm_iff_toList_perm.mp hB.perm).mem_iff.mp (by simp)),by unfold ra;rw [e]⟩
 obtain ⟨p,ep,dp,rp⟩:=at' i hi;obtain ⟨q,eq,dq,rq⟩:=at' j hj;rw [rp,rq] at h;rw [ltAt'_eq];exact wpS_bind (wpS_get (wpS_bind (JB ep (wpS_bind (JB eq (J3X C (hB.kind.trans hk) dp dq h))))))
theorem J6G {arr:Array Keyed}{lo x:Nat}(h:Inc rk arr lo x)(hx:1<=x)(hl:ra rk arr (lo+(x - 1))<=ra rk arr (lo+x)):Inc rk arr lo (x+1):=fun i j hij hj=>by
 by_cases hjx:j<x
 ·exact h i j hij hjx
 ·obtain rfl:j=x:=by omega
  by_cases hi:i=j
  ·subst hi;exact yJ _
  ·exact yR (h i (j - 1) (by omega) (by omega)) hl
theorem J36 {arr:Array Keyed}{lo x:Nat}(h:Dec rk arr lo x)(hx:1<=x)(hl:ra rk arr (lo+x)<=ra rk arr (lo+(x - 1))):Dec rk arr lo (x+1):=fun i j hij hj=>by
 by_cases hjx:j<x
 ·exact h i j hij hjx
 ·obtain rfl:j=x:=by omega
  by_cases hi:i=j
  ·subst hi;exact yJ _
  ·exact yR hl (h i (j - 1) (by omega) (by omega))
theorem tim_countRun (C:Cmp prog w A s kd D rk){st:SortSt}{lo nrem:Nat}{Q:Option Nat->SortSt->Prop}(hk:kindOf st=kd)(hD:∀ p∈(arrOf st).toList,D p.1)(hz:lo+nrem<=(arrOf st).size)(h1:1<=nrem)
 (h:∀ m st',SB st st' lo nrem->1<=m->m<=nrem->Inc rk (arrOf st') lo m->Q (some m) st'):wpS (model prog w) A E s (countRun' lo nrem) Q st:=by
 rw [countRun'_eq];refine wpS_bind (wpS_mono (wpS_forRange (I:=fun x c st'=>st'=st/\c=(none,x)/\Inc rk (arrOf st) lo x) (Q:=fun c st'=>st'=st/\∃ n,c=(none,n)/\1<=n/\n<=nrem/\Inc rk (arrOf st) lo n/\(n=nrem\/ra rk (arrOf st) (lo+n)<ra rk (arrOf st) (lo+n - 1))) ?step ?fin ⟨rfl,rfl,fun i j hij hj=>by obtain rfl:i=j:=(by omega);exact yJ _⟩) ?post)
 case fin =>
  rintro c st' ⟨e,rfl,hs⟩;rw [show max 1 nrem=nrem by omega] at hs ⊢;exact ⟨e,nrem,rfl,h1,yJ _,hs,.inl rfl⟩
 case step =>
  rintro x c st' hx1 hx2 ⟨e,rfl,hs⟩;rw [e];dsimp only;refine wpS_bind (J1D C (SB.refl st lo nrem) hk hD (by omega) (by omega) ?_);dsimp only;by_cases hl:ra rk (arrOf st) (lo+x)<ra rk (arrOf st) (lo+x - 1)
  ·rw [yI (yL hl)]
   exact wpS_pure ⟨rfl,x,rfl,hx1,by omega,hs,.inr hl⟩
  ·rw [yH (by rw [yM hl];exact yK)]
   exact wpS_pure ⟨rfl,rfl,J6G hs hx1 (by rw [show lo+(x - 1)=lo+x - 1 by omega];omega)⟩
 case post =>
  rintro c st1 ⟨e,n,rfl,n1,n2,hs,hor⟩;rw [e];clear e st1;dsimp only;by_cases hn:(n == nrem)=true
  ·rw [yI hn]
   exact wpS_pure (h n st (SB.refl _ _ _) n1 n2 hs)
  rw [yH hn];have hne:¬ n=nrem:=fun z=>hn (beq_iff_eq.mpr z);have hlt:=hor.resolve_left hne;have goD:∀ st2:SortSt,SB st st2 lo nrem->(∀ i,ra rk (arrOf st2) i=ra rk (arrOf st) i)->(∀ i,i<n->ra rk (arrOf st) (lo+i)=ra rk (arrOf st) (lo+(n - 1)))->Dec rk (arrOf st2) lo (n+1):=fun st2 _ e1 e2=>J36 (fun i j hij hj=>by rw [e1,e1,e2 i (by omega),e2 j hj];exact yJ _) n1 (by rw [e1,e1,show lo+(n - 1)=lo+n - 1 by omega];omega);apply J7C
  ·intro key
   by_cases hg:n > 1
   case' pos =>
    rw [yI hg];refine wpS_bind (J1D C (SB.refl st lo nrem) hk hD (by omega) (by omega) ?_);dsimp only;by_cases hr:ra rk (arrOf st) lo<ra rk (arrOf st) (lo+n - 1)
    case pos =>
     rw [yI (yL hr)];exact wpS_pure (h n st (SB.refl _ _ _) n1 n2 hs)
    rw [yH (by rw [yM hr];exact yK)];refine wpS_bind (wpS_reverse ?_);have hall:∀ k,lo<=k->k<lo+n->ra rk (arrOf st) k=ra rk (arrOf st) (lo+n - 1):=fun k k1 k2=>by
     have a1:=hs 0 (k - lo) (by omega) (by omega);have a2:=hs (k - lo) (n - 1) (by omega) (by omega);rw [show lo+(k - lo)=k by omega] at a1 a2;rw [Nat.add_zero] at a1;rw [show lo+(n - 1)=lo+n - 1 by omega] at a2;omega
    have hS:=(SB.refl st lo nrem).mirr (i:=lo) (j:=lo+n) (yJ _) (by omega) hz;have hDc:=goD _ hS (J1T (by omega) hall) (fun i hi=>by rw [hall (lo+i) (by omega) (by omega),show lo+(n - 1)=lo+n - 1 by omega])
    revert hS hDc
    generalize setArr st (mirror (arrOf st) lo (lo+n) ((lo+n - lo) / 2))=st2
    revert st2
    exact key.out
   case' neg =>
    rw [yH hg];exact key.out st (SB.refl st lo nrem) (goD st (SB.refl st lo nrem) (fun _=>rfl) (fun i hi=>by rw [show i=n - 1 by omega]))
  ·intro st2 hS hDc
   have hnn:n+1<=nrem:=by omega
   refine wpS_bind (wpS_lift (wpAny_rule ⟨rfl,?_⟩));refine wpS_bind (wpS_mono (wpS_forRange (I:=fun x c st'=>∃ neq,c=(none,x,neq)/\SB st st' lo nrem/\Dec rk (arrOf st') lo x/\neq+1<=x/\∀ i,x - (neq+1)<=i->i<x->ra rk (arrOf st') (lo+i)=ra rk (arrOf st') (lo+(x - 1)))
    (Q:=fun c st'=>∃ m neq,c=(none,m,neq)/\SB st st' lo nrem/\n+1<=m/\m<=nrem/\Dec rk (arrOf st') lo m/\neq+1<=m/\∀ i,m - (neq+1)<=i->i<m->ra rk (arrOf st') (lo+i)=ra rk (arrOf st') (lo+(m - 1))) ?stepD ?finD ⟨0,rfl,hS,hDc,by omega,fun i h1 h2=>by congr 1;omega⟩) ?postD)
   case finD =>
    rintro c st' ⟨neq,rfl,hB,hd,q1,q2⟩;rw [show max (n+1) nrem=nrem by omega] at hd q1 q2 ⊢;exact ⟨nrem,neq,rfl,hB,hnn,yJ _,hd,q1,q2⟩
   case stepD =>
    rintro x c st' hx1 hx2 ⟨neq,rfl,hB,hd,q1,q2⟩;dsimp only;have hsz:lo+x<=(arrOf st').size:=by rw [hB.size];omega
    refine wpS_bind (J1D C hB hk hD (by omega) (by omega) ?_);dsimp only;by_cases hl:ra rk (arrOf st') (lo+x)<ra rk (arrOf st') (lo+x - 1)
    ·rw [yI (yL hl)]
     have hl':ra rk (arrOf st') (lo+x)<=ra rk (arrOf st') (lo+(x - 1)):=by rw [show lo+(x - 1)=lo+x - 1 by omega];omega
     by_cases hq:neq > 0
     ·rw [yI hq]
      refine wpS_bind (wpS_reverse ?_);have he:∀ k,lo+x - (neq+1)<=k->k<lo+x->ra rk (arrOf st') k=ra rk (arrOf st') (lo+x - 1):=fun k k1 k2=>by
       have:=q2 (k - lo) (by omega) (by omega);rw [show lo+(k - lo)=k by omega,show lo+(x - 1)=lo+x - 1 by omega] at this;exact this
      have em:=J1T (rk:=rk) (i:=lo+x - (neq+1)) hsz he;refine wpS_pure ⟨0,rfl,hB.mirr (by omega) (by omega) hz,J36 (fun i j hij hj=>?_) (by omega) ?_,by omega,fun i h1 h2=>by congr 1;omega⟩
      ·show ra rk (mirror _ _ _ _) _<=ra rk (mirror _ _ _ _) _
       rw [em,em];exact hd i j hij hj
      ·show ra rk (mirror _ _ _ _) _<=ra rk (mirror _ _ _ _) _
       rw [em,em];exact hl'
     ·rw [yH hq]
      exact wpS_pure ⟨0,rfl,hB,J36 hd (by omega) hl',by omega,fun i h1 h2=>by congr 1;omega⟩
    ·rw [yH (by rw [yM hl];exact yK)]
     refine wpS_bind (J1D C hB hk hD (by omega) (by omega) ?_);dsimp only;by_cases hm:ra rk (arrOf st') (lo+x - 1)<ra rk (arrOf st') (lo+x)
     ·rw [yI (yL hm)]
      exact wpS_pure ⟨x,neq,rfl,hB,hx1,by omega,hd,q1,q2⟩
     ·rw [yH (by rw [yM hm];exact yK)]
      have he:ra rk (arrOf st') (lo+x)=ra rk (arrOf st') (lo+(x - 1)):=by rw [show lo+(x - 1)=lo+x - 1 by omega];omega
      refine wpS_pure ⟨neq+1,rfl,hB,J36 hd (by omega) (by omega),by omega,fun i h1 h2=>?_⟩;rw [show x+1 - 1=x by omega];by_cases hi:i=x
      ·rw [hi]
      ·rw [q2 i (by omega) (by omega),he]
   case postD =>
    rintro c st3 ⟨m,neq,rfl,hB,m1,m2,hd,q1,q2⟩;dsimp only;have hsz:lo+m<=(arrOf st3).size:=by rw [hB.size];omega
    by_cases hq:neq > 0
    case' pos =>
     rw [yI hq];refine wpS_bind (wpS_reverse ?_);have he:∀ k,lo+m - (neq+1)<=k->k<lo+m->ra rk (arrOf st3) k=ra rk (arrOf st3) (lo+m - 1):=fun k k1 k2=>by
      have:=q2 (k - lo) (by omega) (by omega);rw [show lo+(k - lo)=k by omega,show lo+(m - 1)=lo+m - 1 by omega] at this;exact this
     have em:=J1T (rk:=rk) (i:=lo+m - (neq+1)) hsz he;have hB4:=hB.mirr (i:=lo+m - (neq+1)) (j:=lo+m) (by omega) (by omega) hz;have hd4:Dec rk (arrOf (setArr st3 (mirror (arrOf st3) (lo+m - (neq+1)) (lo+m) ((lo+m - (lo+m - (neq+1))) / 2)))) lo m:=fun i j hij hj=>by
      show ra rk (mirror _ _ _ _) _<=ra rk (mirror _ _ _ _) _;rw [em,em];exact hd i j hij hj
     generalize setArr st3 (mirror (arrOf st3) (lo+m - (neq+1)) (lo+m) ((lo+m - (lo+m - (neq+1))) / 2))=st4 at *
    case' neg =>
     rw [yH hq];have hB4:=hB;have hd4:=hd;generalize hst4:st3=st4 at hB4 hd4 ⊢
    all_goals
     refine wpS_bind (wpS_reverse ?_);have hsz4:lo+m<=(arrOf st4).size:=by rw [hB4.size];omega
     have hB5:=hB4.mirr (i:=lo) (j:=lo+m) (yJ _) (by omega) hz;have hi5:Inc rk (arrOf (setArr st4 (mirror (arrOf st4) lo (lo+m) ((lo+m - lo) / 2)))) lo m:=fun i j hij hj=>by
      show ra rk (mirror _ _ _ _) _<=ra rk (mirror _ _ _ _) _;rw [J3g hsz4,J3g hsz4,yI (by omega),yI (by omega)];have:=hd4 (m - 1 - j) (m - 1 - i) (by omega) (by omega);rw [show lo+(m - 1 - j)=lo+(lo+m) - 1 - (lo+j) by omega,show lo+(m - 1 - i)=lo+(lo+m) - 1 - (lo+i) by omega] at this;exact this
     generalize setArr st4 (mirror (arrOf st4) lo (lo+m) ((lo+m - lo) / 2))=st5 at *;refine wpS_bind (wpS_mono (wpS_forRange (I:=fun x c st'=>st'=st5/\c=(none,x)/\Inc rk (arrOf st5) lo x) (Q:=fun c st'=>st'=st5/\∃ n,c=(none,n)/\1<=n/\n<=nrem/\Inc rk (arrOf st5) lo n) ?stepE ?finE ⟨rfl,rfl,hi5⟩) ?postE)
     case finE =>
      rintro c st' ⟨e,rfl,hs⟩;rw [show max m nrem=nrem by omega] at hs ⊢;exact ⟨e,nrem,rfl,h1,yJ _,hs⟩
     case stepE =>
      rintro x c st' hx1 hx2 ⟨e,rfl,hs⟩;rw [e];dsimp only;refine wpS_bind (J1D C hB5 hk hD (by omega) (by omega) ?_);dsimp only;by_cases hl:ra rk (arrOf st5) (lo+x)<ra rk (arrOf st5) (lo+x - 1)
      ·rw [yI (yL hl)]
       exact wpS_pure ⟨rfl,x,rfl,by omega,by omega,hs⟩
      ·rw [yH (by rw [yM hl];exact yK)]
       exact wpS_pure ⟨rfl,rfl,J6G hs (by omega) (by rw [show lo+(x - 1)=lo+x - 1 by omega];omega)⟩
     case postE =>
      rintro c st6 ⟨e,z,rfl,z1,z2,hs⟩;rw [e];exact wpS_pure (h z st5 hB5 z1 z2 hs)
end
section
variable {prog:Program}{w:World}{A:Around}{E:Value->Shared->Prop}{s:Shared}{kd:SortKind}{D:Value->Prop}{rk:Value->Nat}
theorem tim_binarySort (C:Cmp prog w A s kd D rk){st0 st:SortSt}{lo nn n ok:Nat}{Q:Bool->SortSt->Prop}(hk:kindOf st0=kd)(hD:∀ p∈(arrOf st0).toList,D p.1)(hz:lo+nn<=(arrOf st0).size)(hn:n<=nn)(hok:ok<=n)(hB:SB st0 st lo nn)(hs:Inc rk (arrOf st) lo ok)
 (h:∀ st',SB st0 st' lo nn->Inc rk (arrOf st') lo n->Q true st'):wpS (model prog w) A E s (binarySort' lo n ok) Q st:=by
 rw [binarySort'_eq];refine wpS_bind (wpS_mono (wpS_forRange (I:=fun k c st'=>c=(none,())/\SB st0 st' lo nn/\Inc rk (arrOf st') lo (min k n)) (Q:=fun c st'=>c=(none,())/\SB st0 st' lo nn/\Inc rk (arrOf st') lo n) ?step ?fin ?init) ?post)
 case post =>
  rintro c st' ⟨rfl,hB',hs'⟩;exact wpS_pure (h st' hB' hs')
 case init =>
  refine ⟨rfl,hB,fun i j hij hj=>?_⟩;by_cases h1:ok=0
  ·obtain rfl:i=j:=by omega
   exact yJ _
  ·exact hs i j hij (by omega)
 case fin =>
  rintro c st' ⟨hc,hB',hs'⟩;refine ⟨hc,hB',?_⟩;rwa [show min (max (max ok 1) n) n=n by omega] at hs'
 case step =>
  rintro k c st1 hak hkn ⟨rfl,hB',hs'⟩;rw [show min k n=k by omega] at hs';refine wpS_bind (wpS_mono (wpS_forRange (I:=fun x c st''=>st''=st1/\∃ l r,c=(none,l,r)/\l<=r/\r<=k/\r - l<=k - x/\(∀ i,i<l->ra rk (arrOf st1) (lo+i)<=ra rk (arrOf st1) (lo+k))/\(∀ i,r<=i->i<k->ra rk (arrOf st1) (lo+k)<ra rk (arrOf st1) (lo+i)))
   (Q:=fun c st''=>st''=st1/\∃ l r,c=(none,l,r)/\l<=k/\(∀ i,i<l->ra rk (arrOf st1) (lo+i)<=ra rk (arrOf st1) (lo+k))/\(∀ i,l<=i->i<k->ra rk (arrOf st1) (lo+k)<ra rk (arrOf st1) (lo+i))) ?istep ?ifin ?iinit) ?ipost)
  case iinit=>exact ⟨rfl,0,k,rfl,by omega,by omega,by omega,fun i hi=>by omega,fun i h1 h2=>by omega⟩
  case ifin =>
   rintro c st2 ⟨e,l,r,rfl,hlr,hrk,hm,hlo,hhi⟩;obtain rfl:l=r:=by omega
   exact ⟨e,l,l,rfl,hrk,hlo,hhi⟩
  case istep =>
   rintro x c st2 _ hxk ⟨e,l,r,rfl,hlr,hrk,hm,hlo,hhi⟩;rw [e];dsimp only;by_cases hge:l≥r
   ·rw [yI hge]
    obtain rfl:l=r:=by omega
    exact wpS_pure ⟨rfl,l,l,rfl,hrk,hlo,hhi⟩
   ·rw [yH hge]
    refine wpS_bind (J1D C hB' hk hD (by omega) (by omega) ?_);dsimp only;by_cases hless:ra rk (arrOf st1) (lo+k)<ra rk (arrOf st1) (lo+(l+r) / 2)
    ·rw [yI (yL hless)]
     exact wpS_pure ⟨rfl,l,(l+r) / 2,rfl,by omega,by omega,by omega,hlo,fun i h1 h2=>yP hless (hs' _ _ h1 h2)⟩
    ·rw [yH (by rw [yM hless];exact yK)]
     exact wpS_pure ⟨rfl,(l+r) / 2+1,r,rfl,by omega,by omega,by omega,fun i h1=>yR (hs' i ((l+r) / 2) (by omega) (by omega)) (by omega),hhi⟩
  case ipost =>
   rintro c st2 ⟨e,l,r,rfl,hlk,hlo,hhi⟩;rw [e];show wpS _ _ _ _ (do moveDown' (lo+k) (lo+l);pure (ForInStep.yield (none,()))) _ _;rw [moveDown'_eq];refine wpS_bind (wpS_modify (wpS_pure ⟨rfl,hB'.bubb (by omega) (by omega) hz,?_⟩));rw [show min (k+1) n=k+1 by omega];have hks:lo+k<(arrOf st1).size:=by rw [hB'.size];omega
   intro i j hij hj;show ra rk (bubble (arrOf st1) (lo+k) (lo+k - (lo+l))) (lo+i)<=ra rk (bubble (arrOf st1) (lo+k) (lo+k - (lo+l))) (lo+j);rw [J58 hks (by omega),J58 hks (by omega),show lo+k - (lo+k - (lo+l))=lo+l by omega];have s1:∀ z,l<z->lo+z - 1=lo+(z - 1):=fun z hz=>by omega
   by_cases a1:lo+i=lo+l
   ·rw [yI a1]
    by_cases a2:lo+j=lo+l
    ·rw [yI a2];exact yJ _
    ·rw [yH a2,yI (by omega),s1 j (by omega)]
     exact Nat.le_of_lt (hhi _ (by omega) (by omega))
   ·rw [yH a1]
    by_cases a3:lo+l<lo+i/\lo+i<=lo+k
    ·rw [yI a3,yH (by omega),yI (by omega),s1 i (by omega),s1 j (by omega)]
     exact hs' _ _ (by omega) (by omega)
    ·rw [yH a3]
     by_cases a2:lo+j=lo+l
     ·rw [yI a2];exact hlo _ (by omega)
     ·rw [yH a2]
      by_cases a4:lo+l<lo+j/\lo+j<=lo+k
      ·rw [yI a4,s1 j (by omega)]
       exact hs' _ _ (by omega) (by omega)
      ·rw [yH a4]
       exact hs' _ _ hij (by omega)
end
def Runs (rk:Value->Nat):Nat->List (Nat×Nat×Nat)->List Keyed->Prop
 | _,[],L=>L=[]
 | b,x::ps,L=>x.1=b/\0<x.2.1/\∃ l L',L=l++L'/\l.length=x.2.1/\Up rk l/\Runs rk (b+x.2.1) ps L'
section
variable {rk:Value->Nat}
theorem Runs.app:∀ {ps1 ps2:List (Nat×Nat×Nat)} {b:Nat} {L:List Keyed},Runs rk b (ps1++ps2) L->∃ L1 L2,L=L1++L2/\Runs rk b ps1 L1/\Runs rk (b+L1.length) ps2 L2
 | [],ps2,b,L,h=>⟨[],L,rfl,rfl,h⟩
 | x::ps1,ps2,b,L,⟨h1,h2,l,L',e,hl,u,r⟩=>by
   obtain ⟨L1,L2,e2,r1,r2⟩:=Runs.app r;refine ⟨l++L1,L2,by rw [e,e2,zp],⟨h1,h2,l,L1,rfl,hl,u,r1⟩,?_⟩;rw [y6,<- Nat.add_assoc,hl];exact r2
theorem Runs.put:∀ {ps1 ps2:List (Nat×Nat×Nat)} {b:Nat} {L1 L2:List Keyed},Runs rk b ps1 L1->Runs rk (b+L1.length) ps2 L2->Runs rk b (ps1++ps2) (L1++L2)
 | [],ps2,b,L1,L2,h,r=>by
   cases (show L1=[] from h);exact r
 | x::ps1,ps2,b,L1,L2,⟨h1,h2,l,L',e,hl,u,r1⟩,r=>by
   subst e;refine ⟨h1,h2,l,L'++L2,by rw [zp],hl,u,Runs.put r1 ?_⟩;rw [y6,<- Nat.add_assoc,hl] at r;exact r
theorem Runs.len:∀ {ps:List (Nat×Nat×Nat)} {b:Nat} {L:List Keyed},Runs rk b ps L->ps.length<=L.length
 | [],_,_,_=>yQ _
 | x::ps,b,L,⟨h1,h2,l,L',e,hl,u,r⟩=>by
   have:=Runs.len r;rw [e,y6,length_cons];omega
theorem Runs.pow:∀ {ps qs:List (Nat×Nat×Nat)} {b:Nat} {L:List Keyed},Runs rk b ps L->ps.map (fun x=>(x.1,x.2.1))=qs.map (fun x=>(x.1,x.2.1))->Runs rk b qs L
 | [],[],_,_,h,_=>h
 | [],_::_,_,_,_,e=>by simp at e
 | _::_,[],_,_,_,e=>by simp at e
 | x::ps,y::qs,b,L,⟨h1,h2,l,L',e,hl,u,r⟩,q=>by
   simp only [zd,List.cons.injEq,Prod.mk.injEq] at q;obtain ⟨⟨q1,q2⟩,q3⟩:=q;refine ⟨q1.symm.trans h1,by omega,l,L',e,by omega,u,?_⟩;rw [<- q2];exact Runs.pow r q3
end
structure Core (kd:SortKind)(rk:Value->Nat)(a₀:Array Keyed)(lo:Nat)(R:List Keyed)(st:SortSt):Prop where
 kind:kindOf st=kd
 failed:failedOf st=none
 perm:(arrOf st).Perm a₀
 runs:∃ L,(arrOf st).toList=L++R/\L.length=lo/\Runs rk 0 (pendingOf st).toList L
section
variable {prog:Program}{w:World}{A:Around}{E:Value->Shared->Prop}{s:Shared}{kd:SortKind}{D:Value->Prop}{rk:Value->Nat}{a₀:Array Keyed}
theorem Core.dom {lo:Nat}{R:List Keyed}{st:SortSt}(h:Core kd rk a₀ lo R st)(hD:∀ p∈a₀.toList,D p.1):∀ p∈(arrOf st).toList,D p.1:=fun p hp=>hD p ((Array.perm_iff_toList_perm.mp h.perm).mem_iff.mp hp)
theorem J4F (C:Cmp prog w A s kd D rk)(hD:∀ p∈a₀.toList,D p.1){lo:Nat}{R:List Keyed}{st:SortSt}{i:Nat}{Q:Bool->SortSt->Prop}(hc:Core kd rk a₀ lo R st)(hi:i+1<(pendingOf st).size)
 (h:∀ st',Core kd rk a₀ lo R st'->(pendingOf st').size+1=(pendingOf st).size->Q true st'):wpS (model prog w) A E s (mergeAt' i) Q st:=by
 obtain ⟨L,eL,hL,hr⟩:=hc.runs;have J05:(pendingOf st).toList.length=(pendingOf st).size:=yT;generalize hps:(pendingOf st).toList=ps at hr J05;have e0:ps=ps.take i++ps.drop i:=(take_append_drop i ps).symm;obtain ⟨x,y,ps2,e1⟩:∃ x y ps2,ps.drop i=x::y::ps2:=by
  have h1:i<ps.length:=by omega
  have h2:i+1<ps.length:=by omega
  exact ⟨_,_,_,by rw [drop_eq_getElem_cons h1,drop_eq_getElem_cons h2]⟩
 rw [e0,e1] at hr;obtain ⟨L1,L2,e2,r1,r2⟩:=Runs.app hr;obtain ⟨g1,g2,la,L3,e3,g3,g4,g5,g6,lb,L4,e4,g7,g8,g9⟩:=r2;obtain ⟨xa,xn,xp⟩:=x;obtain ⟨ya,yn,yp⟩:=y;dsimp only at *;rw [Nat.zero_add] at g1;subst e3 e4;refine tim_mergeAt C (P:=L1) (la:=la) (lb:=lb) (R:=L4++R) (ps1:=ps.take i) (ps2:=ps2) (sa:=xa) (na:=xn) (pw:=xp) (sb:=ya) (nb:=yn) (pw2:=yp) hc.kind hc.failed (hc.dom hD) (by rw [hps];rw [<- e1];exact e0) (by rw [y7];omega) (by rw [eL,e2];simp [zp]) g1.symm g3 (by omega) g7 g2 g6 g4 g8 fun st' l k1 k2 mm k3 k4=>?_;refine h st' ⟨k1,k2,?_,L1++(l++L4),by rw [k3];simp [zp],?_,?_⟩ ?_
 ·refine Array.perm_iff_toList_perm.mpr ((?_:(arrOf st').toList.Perm (arrOf st).toList).trans (Array.perm_iff_toList_perm.mp hc.perm))
  rw [k3,eL,e2];have:=mm.1;simp only [zp];refine List.Perm.append_left _ ?_;rw [<- zp la];exact List.Perm.append_right _ this
 ·have q:=mm.1.length_eq
  rw [y6] at q;rw [<- hL,e2];simp only [y6];omega
 ·rw [k4]
  refine Runs.put r1 ⟨by rw [Nat.zero_add];exact g1,(by show 0<xn+yn;omega),l,L4,rfl,by rw [mm.1.length_eq,y6,g3,g7],mm.2,?_⟩;rw [<- Nat.add_assoc];exact g9
 ·have:(pendingOf st').toList.length+1=ps.length:=by
   rw [k4,e0,e1];simp;omega
  rw [yT] at this;omega
theorem J4r {α β:Type}(f:α->α)(g:α->β)(hfg:∀ x,g (f x)=g x):∀ (l:List α) (i:Nat),(l.modify i f).map g=l.map g
 | [],i=>by simp
 | x::l,0=>by simp [hfg]
 | x::l,i+1=>by simp [J4r f g hfg l i]
theorem Core.rest {lo:Nat}{R:List Keyed}{st:SortSt}(h:Core kd rk a₀ lo R st):lo+R.length=a₀.size:=by
 obtain ⟨L,e,hL,_⟩:=h.runs;rw [<- h.perm.size_eq,<- yT,e,y6,hL]
theorem Core.pow {lo:Nat}{R:List Keyed}{st:SortSt}(h:Core kd rk a₀ lo R st)(i pw:Nat):Core kd rk a₀ lo R (setPending st ((pendingOf st).modify i fun x=>(x.fst,x.2.fst,pw))):=by
 obtain ⟨L,e,hL,r⟩:=h.runs;refine ⟨h.kind,h.failed,h.perm,L,e,hL,r.pow ?_⟩;show _=List.map _ ((pendingOf st).modify i fun x=>(x.fst,x.2.fst,pw)).toList;rw [Array.toList_modify];exact (J4r (fun x:Nat×Nat×Nat=>(x.1,x.2.1,pw)) (fun x=>(x.1,x.2.1)) (fun x=>rfl) _ _).symm
theorem Core.push {lo n:Nat}{l R:List Keyed}{st:SortSt}(h:Core kd rk a₀ lo (l++R) st)(hl:l.length=n)(h1:1<=n)(u:Up rk l):Core kd rk a₀ (lo+n) R (setPending st ((pendingOf st).push (lo,n,0))):=by
 obtain ⟨L,e,hL,r⟩:=h.runs;refine ⟨h.kind,h.failed,h.perm,L++l,by rw [zp];exact e,by rw [y6,hL,hl],?_⟩;show Runs rk 0 ((pendingOf st).push (lo,n,0)).toList (L++l);rw [Array.toList_push];exact r.put ⟨by rw [Nat.zero_add];exact hL.symm,h1,l,[],by simp,hl,u,rfl⟩
theorem Core.found {lo n:Nat}{R:List Keyed}{st st2:SortSt}(h:Core kd rk a₀ lo R st)(hB:SB st st2 lo (a₀.size - lo))(hi:Inc rk (arrOf st2) lo n)(hn:n<=a₀.size - lo):∃ l R',Core kd rk a₀ lo (l++R') st2/\l.length=n/\Up rk l:=by
 have hr:=h.rest;obtain ⟨L,e,hL,r⟩:=h.runs;have hsz:(arrOf st2).size=a₀.size:=hB.size.trans h.perm.size_eq;have et:(arrOf st2).toList.take lo=L:=by
  refine ext_getElem? fun i=>?_;by_cases q:i<lo
  ·rw [List.getElem?_take_of_lt q,Array.getElem?_toList,hB.out i (.inl q),<- Array.getElem?_toList,e,zn (by omega)]
  ·rw [List.getElem?_eq_none (by rw [y7];omega),List.getElem?_eq_none (by omega)]
 have e2:(arrOf st2).toList=L++((((arrOf st2).toList.drop lo).take n)++(((arrOf st2).toList.drop lo).drop n)):=by
  rw [take_append_drop,<- et,take_append_drop]
 have hl:(((arrOf st2).toList.drop lo).take n).length=n:=by
  rw [y7,length_drop,yT];omega
 refine ⟨_,_,⟨hB.kind.trans h.kind,hB.failed.trans h.failed,hB.perm.trans h.perm,L,e2,hL,by rw [hB.pend];exact r⟩,hl,?_⟩;refine pairwise_iff_getElem.mpr fun i j hi' hj' hij=>?_;have at':∀ i (hi:i<(((arrOf st2).toList.drop lo).take n).length),rk ((((arrOf st2).toList.drop lo).take n)[i]).1=ra rk (arrOf st2) (lo+i):=fun i hi=>by
  have q:(((arrOf st2).toList.drop lo).take n)[i]?=(arrOf st2)[lo+i]?:=by rw [List.getElem?_take_of_lt (by omega),List.getElem?_drop,Array.getElem?_toList]
  rw [yU hi] at q;unfold ra;rw [<- q]
 rw [at' i hi',at' j hj'];exact hi i j (by omega) (by omega)
theorem tim_sortRuns (C:Cmp prog w A s kd D rk)(hD:∀ p∈a₀.toList,D p.1){st:SortSt}{Q:Unit->SortSt->Prop}(hk:kindOf st=kd)(hf:failedOf st=none)(hp:(arrOf st).Perm a₀)(hq:pendingOf st=#[])
 (h:∀ st',(arrOf st').Perm a₀->failedOf st'=none->Up rk (arrOf st').toList->Q () st'):wpS (model prog w) A E s sortRuns' Q st:=by
 have hsz:(arrOf st).size=a₀.size:=hp.size_eq;rw [sortRuns'_eq];refine wpS_bind (wpS_get ?_);dsimp only;rw [hsz];generalize minRun' a₀.size a₀.size 0=mr;refine wpS_bind (wpS_mono (wpS_forRange (I:=fun x c st'=>∃ lo R,c=(none,lo)/\x<=lo/\lo<=a₀.size/\Core kd rk a₀ lo R st') (Q:=fun c st'=>c=(none,a₀.size)/\Core kd rk a₀ a₀.size [] st') ?step ?fin ⟨0,(arrOf st).toList,rfl,yJ _,yQ _,hk,hf,hp,[],rfl,rfl,by rw [hq];exact rfl⟩) ?post)
 case fin =>
  rintro c st' ⟨lo,R,rfl,h1,h2,hc⟩;obtain rfl:lo=a₀.size:=by omega
  have hR:R=[]:=eq_nil_of_length_eq_zero (by have:=hc.rest;omega);exact ⟨rfl,hR ▸ hc⟩
 case step =>
  rintro x c st1 _ hx ⟨lo,R,rfl,h1,h2,hc⟩;dsimp only;by_cases hlo:lo≥a₀.size
  ·rw [yI hlo]
   obtain rfl:lo=a₀.size:=by omega
   have hR:R=[]:=eq_nil_of_length_eq_zero (by have:=hc.rest;omega);exact wpS_pure ⟨rfl,hR ▸ hc⟩
  rw [yH hlo];have hz:lo+(a₀.size - lo)<=(arrOf st1).size:=by rw [hc.perm.size_eq];omega
  refine wpS_bind (tim_countRun C hc.kind (hc.dom hD) hz (by omega) fun m st2 hB m1 m2 hi=>?_);dsimp only;by_cases hm:m<mr
  case' pos =>
   rw [yI hm];refine wpS_bind (wpS_lift (wpAny_rule ⟨rfl,?_⟩));refine wpS_bind (tim_binarySort C hc.kind (hc.dom hD) hz (n:=min (a₀.size - lo) mr) (by omega) (by omega) hB hi fun st3 hB3 hi3=>?_);rw [yH (by simp)];have n1:1<=min (a₀.size - lo) mr:=by omega
   have n2:min (a₀.size - lo) mr<=a₀.size - lo:=by omega
   generalize min (a₀.size - lo) mr=n at *
  case' neg =>
   rw [yH hm];have n1:=m1;have n2:=m2;have hi3:=hi;have hB3:=hB;generalize hn:m=n at *;generalize hst3:st2=st3 at *
  all_goals
   obtain ⟨l,R',hc3,hl,hu⟩:=hc.found hB3 hi3 n2;refine wpS_bind (wpS_get ?_);have hpush:∀ st4:SortSt,Core kd rk a₀ lo (l++R') st4->∃ lo' R,((none:Option Unit),lo+n)=(none,lo')/\x+1<=lo'/\lo'<=a₀.size/\Core kd rk a₀ lo' R (setPending st4 ((pendingOf st4).push (lo,n,0))):=fun st4 h4=>⟨lo+n,R',rfl,by omega,by omega,h4.push hl n1 hu⟩;cases hb:(pendingOf st3).back? with
   | none=>exact wpS_bind (wpS_modify (wpS_pure (hpush st3 hc3)))
   | some q =>
     obtain ⟨s1,nn1,pp⟩:=q;refine wpS_bind (wpS_mono (wpS_forRange (I:=fun _ c st'=>c=(none,())/\Core kd rk a₀ lo (l++R') st') (Q:=fun c st'=>c=(none,())/\Core kd rk a₀ lo (l++R') st') ?stepM (fun _ _ z=>z) ⟨rfl,hc3⟩) ?postM)
     case postM =>
      rintro c st4 ⟨rfl,h4⟩;exact wpS_bind (wpS_modify (wpS_bind (wpS_modify (wpS_pure (hpush _ (h4.pow _ _))))))
     case stepM =>
      rintro y c st4 _ hy ⟨rfl,h4⟩;refine wpS_bind (wpS_get ?_);by_cases hs:(pendingOf st4).size > 1
      ·rw [yI hs]
       have hlt:(pendingOf st4).size - 2<(pendingOf st4).size:=by omega
       rw [getElem?_pos (pendingOf st4) ((pendingOf st4).size - 2) hlt];dsimp only
       split
       ·exact wpS_pure ⟨rfl,h4⟩
       ·refine wpS_bind (J4F C hD h4 (by omega) fun st5 h5 _=>?_)
        rw [yH (by simp)];exact wpS_pure ⟨rfl,h5⟩
      ·rw [yH hs]
       exact wpS_pure ⟨rfl,h4⟩
 case post =>
  rintro c st1 ⟨rfl,hc⟩;have hps:(pendingOf st1).size<=a₀.size:=by
   obtain ⟨L,e,hL,r⟩:=hc.runs;have:=r.len;rw [yT] at this;omega
  refine wpS_bind (wpS_mono (wpS_forRange (I:=fun x c st'=>c=(none,())/\Core kd rk a₀ a₀.size [] st'/\((pendingOf st').size<=1\/(pendingOf st').size+x<=a₀.size)) (Q:=fun c st'=>c=(none,())/\Core kd rk a₀ a₀.size [] st'/\(pendingOf st').size<=1) ?stepF ?finF ⟨rfl,hc,.inr (by omega)⟩) ?postF)
  case finF =>
   rintro c st2 ⟨rfl,h2,h3⟩;exact ⟨rfl,h2,by rcases h3 with h3 | h3<;>omega⟩
  case stepF =>
   rintro y c st2 _ hy ⟨rfl,h2,h3⟩;refine wpS_bind (wpS_get ?_);by_cases hs:(pendingOf st2).size<=1
   ·rw [yI hs]
    exact wpS_pure ⟨rfl,h2,hs⟩
   ·rw [yH hs]
    have hix:∀ (c:Prop) [Decidable c],(if c then (pendingOf st2).size - 2 - 1 else (pendingOf st2).size - 2)+1<(pendingOf st2).size:=fun c _=>by split<;>omega
    refine wpS_bind (J4F C hD h2 (hix _) fun st5 h5 h6=>?_);rw [yH (by simp)];exact wpS_pure ⟨rfl,h5,.inr (by omega)⟩
  case postF =>
   rintro c st2 ⟨rfl,h2,h3⟩;refine wpS_pure (h st2 h2.perm h2.failed ?_);obtain ⟨L,e,hL,r⟩:=h2.runs;rw [e,append_nil];have J05:(pendingOf st2).toList.length<=1:=by rw [yT];exact h3
   generalize (pendingOf st2).toList=ps at r J05
   match ps,r,J05 with
   | [],r,_=>cases (show L=[] from r);exact .nil
   | [p],⟨_,_,l,L',e2,_,u,r2⟩,_ =>
     cases (show L'=[] from r2);rw [e2,append_nil];exact u
   | _::_::_,_,J05=>simp at J05
end
theorem J2N {α:Type}{p q:α->Bool}:∀ {l:List α},(∀ z∈l,p z=true->q z=true)->l.countP p<=l.countP q
 | [],_=>yJ _
 | x::l,h=>by
   have ih:=J2N (p:=p) (q:=q) (l:=l) fun z hz=>h z (y8 _ hz);rw [countP_cons,countP_cons];have hx:=h x y9;cases e:p x with
   | true=>rw [hx e];simp;exact ih
   | false=>simp;split<;>omega
theorem J3B {α:Type}{p q:α->Bool}{a:α}:∀ {l:List α},(∀ z∈l,p z=true->q z=true)->a∈l->q a=true->p a=false->l.countP p<l.countP q
 | x :: l,h,ha,h1,h2=>by
   have sub:∀ z∈l,p z=true->q z=true:=fun z hz=>h z (y8 _ hz);rw [countP_cons,countP_cons];rcases zc.mp ha with rfl | ha
   ·have:=J2N sub
    rw [h1,h2];simp;omega
   ·have ih:=J3B sub ha h1 h2
    have hx:=h x y9;cases e:p x with
    | true=>rw [hx e];simp;exact ih
    | false=>simp;split<;>omega
def J4d (O:KeyOrd)(l:List O.α)(x:O.α):Nat:=l.countP fun z=>O.blt z x
theorem J7V {O:KeyOrd}{l:List O.α}{a b:O.α}(ha:a∈l):decide (J4d O l a<J4d O l b)=O.blt a b:=by
 cases e:O.blt a b with
 | true=>exact yL (J3B (fun z _ hz=>O.trans z a b hz e) ha e (O.irrefl a))
 | false =>
   refine yM (Nat.not_lt.mpr (J2N fun z _ hz=>?_));rcases O.negTrans z a b hz with q | q
   ·exact q
   ·rw [e] at q;cases q
theorem JaK {O:KeyOrd}{l:List O.α}{a b:O.α}(hb:b∈l)(h:J4d O l a<=J4d O l b):O.blt b a=false:=by
 rw [<- J7V (l:=l) hb];exact yM (by omega)
section
variable {prog:Program}{w:World}{A:Around}{E:Value->Shared->Prop}{s:Shared}{kd:SortKind}{D:Value->Prop}{rk:Value->Nat}
theorem J4V {a:Addr}{vs:List Value}{n:Nat}{P:PySem.Fin->Shared->Prop}(C:∀ s',Cmp prog w A s' kd D rk)(hD:∀ v∈vs,D v)(ho:s.heap.get? a=some (seqObj "list" vs.toArray n))(hkk:2<=vs.length->keyKind' vs.toArray=pure kd)(J05:vs.length<=1000)
 (h:∀ st':SortSt,(arrOf st').Perm (pairsOf vs)->Up rk (arrOf st').toList->P (.done (.ret .none)) { s with heap:=sortedHeap s.heap a vs ((arrOf st').map (·.2)) }):wpAny (model prog w) A (Builtin.«list.sort» ⟨[.ref a],[]⟩) P E s:=by
 have room:vs.toArray.size<=sizeLine:=by rw [yY,sizeLine_eq];omega
 rw [list_sort_plain];have ha:a<s.heap.objs.size:=zu ho;refine yF (listItems_at ho rfl (yF (listUpdate_at ho rfl ?_ room (by simp))));obtain ⟨e1,ho1⟩:∃ e1,(s.heap.update a (Obj.mapSeq fun _=>#[])).get? a=some (seqObj "list" #[] e1):=⟨_,get?_update_seq ho (fun _=>#[])⟩;refine yF (seqEpoch_at ho1 rfl (yF (wpAny_newTuple ?_ (hsz:=by simpa using room))));refine yF (wpAny_newList (wpAny_holding ?_));generalize hG:((s.heap.update a (Obj.mapSeq fun _=>#[])).push (seqObj "tuple" vs.toArray 0)).push (seqObj "list" #[] 0)=G;have ho6:G.get? a=some (seqObj "list" #[] e1):=by
  subst hG;exact zr _ (zr _ ho1)
 show wpAny (model prog w) A _ P E { s with heap:=G };by_cases h2:vs.toArray.size<2
 case' pos =>
  rw [yI h2,yI h2];refine yF (yG (yF ?_));rw [StateT.run_pure];refine yG ?_;have hf:failedOf (SortSt.mk' general' (vs.toArray.zip vs.toArray) #[] 7 none)=none:=rfl;have hp:(arrOf (SortSt.mk' general' (vs.toArray.zip vs.toArray) #[] 7 none)).Perm (pairsOf vs):=Array.Perm.refl _;have hu:Up rk (arrOf (SortSt.mk' general' (vs.toArray.zip vs.toArray) #[] 7 none)).toList:=by
   have hl:(vs.toArray.zip vs.toArray).toList.length<=1:=by simp at h2 ⊢;omega
   show Up rk (vs.toArray.zip vs.toArray).toList;generalize (vs.toArray.zip vs.toArray).toList=l at hl
   match l,hl with
   | [],_=>exact .nil
   | [x],_=>exact pairwise_singleton _ _
   | _::_::_,hl=>simp at hl
  generalize SortSt.mk' general' (vs.toArray.zip vs.toArray) #[] 7 none=st' at *
 case' neg =>
  rw [yH h2,yH h2,hkk (by simpa using h2)];refine yF (yG (yF (wpAny_mono (tim_sortRuns (C { s with heap:=G }) (a₀:=pairsOf vs) (st:=SortSt.mk' kd (vs.toArray.zip vs.toArray) #[] 7 none) (Q:=fun _ st'=>failedOf st'=none/\(arrOf st').Perm (pairsOf vs)/\Up rk (arrOf st').toList) (fun p hp=>?_) rfl rfl (Array.Perm.refl _) rfl fun st' a1 a2 a3=>⟨a2,a1,a3⟩) ?_ fun _ _ e=>e)))
  case refine_1 =>
   refine hD _ ?_;unfold pairsOf at hp;simp at hp;exact (of_mem_zip hp).1
  rintro ⟨⟨⟩,st'⟩ s' ⟨rfl,hf,hp,hu⟩
 all_goals
  have hz:((arrOf st').map (·.2)).size<=sizeLine+1:=by
   rw [Array.size_map,hp.size_eq,pairsOf_size,sizeLine_eq];omega
  refine yF (seqEpoch_at ho6 rfl (yF (listUpdate_at ho6 rfl ?_ (by simp) hz)));dsimp only;rw [hf];simp only [bne_self_eq_false,Bool.false_eq_true,if_false];have q:=h st' hp hu;unfold sortedHeap at q;rw [hG] at q;exact yG q
end
def J5T:KeyOrd where
 α:=Int
 blt:=fun a b=>decide (a<b)
 irrefl:=fun a=>by simp
 trans:=fun a b c h1 h2=>by simp only [decide_eq_true_eq] at *;omega
 negTrans:=fun a b c h=>by simp only [decide_eq_true_eq] at *;omega
 total:=fun a b h1 h2=>by simp only [decide_eq_false_iff_not] at *;omega
def rkI (ns:List Int):Value->Nat
 | .int i _=>J4d J5T ns i
 | _=>0
def DI (ns:List Int)(v:Value):Prop:=∃ i t,v=.int i t/\i∈ns
theorem J2f:∀ {us:List Value} {ns:List Int},IntsAre us ns->∀ u∈us,DI ns u
 | _,_,.nil,u,hu=>nomatch hu
 | _,_,.cons i t r,u,hu=>by
   rcases zc.mp hu with rfl | hu
   ·exact ⟨i,t,rfl,y9⟩
   ·obtain ⟨j,q,e,hj⟩:=J2f r u hu
    exact ⟨j,q,e,y8 _ hj⟩
theorem J8b:∀ (us:List Value),(∀ u∈us,∃ i t,u=Value.int i t)->IntsAre us (us.map numOf)
 | [],_=>.nil
 | u::us,h=>by
   obtain ⟨i,t,rfl⟩:=h u y9;exact .cons i t (J8b us fun v hv=>h v (y8 _ hv))
section
variable {prog:Program}{w:World}{A:Around}{E:Value->Shared->Prop}{s:Shared}
theorem Jd7 (ns:List Int):Cmp prog w A s oneType' (DI ns) (rkI ns):=by
 rintro E x y Q ⟨i,t,rfl,hi⟩ ⟨j,u,rfl,hj⟩ h;rw [keyLt'_oneType];refine oneLt_int ?_;have e:decide (rkI ns (.int i t)<rkI ns (.int j u))=decide (i<j):=J7V (O:=J5T) hi;rw [<- e];exact h
theorem list_sort_int {a:Addr}{vs:List Value}{ns:List Int}{n:Nat}{P:PySem.Fin->Shared->Prop}(ho:s.heap.get? a=some (seqObj "list" vs.toArray n))(hI:IntsAre vs ns)(J05:vs.length<=1000)
 (h:∀ (out:Array Value) (ns':List Int),IntsAre out.toList ns'->ns'.Perm ns->ns'.Pairwise (·<=·)->P (.done (.ret .none)) { s with heap:=sortedHeap s.heap a vs out }):wpAny (model prog w) A (Builtin.«list.sort» ⟨[.ref a],[]⟩) P E s:=by
 refine J4V (fun s'=>Jd7 ns) (J2f hI) ho (fun h2=>?_) J05 fun st' hp hu=>?_
 ·match vs,hI,h2 with
  | [],_,h2=>simp at h2
  | [_],_,h2=>simp at h2
  | v₁::v₂::rest,hI,_=>exact keyKind_ints hI
 ·have hl:(arrOf st').toList.Perm (vs.zip vs):=by
   have:=Array.perm_iff_toList_perm.mp hp;unfold pairsOf at this;simpa using this
  have mem:∀ p∈(arrOf st').toList,p.1=p.2/\p.1∈vs:=fun p hp'=>by
   have q:=hl.mem_iff.mp hp';have zz:∀ (l:List Value) (p:Value×Value),p∈l.zip l->p.1=p.2:=fun l=>by
    induction l with
    | nil=>intro p hp;simp at hp
    | cons x l ih =>
      intro p hp;rw [zip_cons_cons] at hp;rcases zc.mp hp with rfl | hp
      ·rfl
      ·exact ih p hp
   exact ⟨zz _ p q,(of_mem_zip q).1⟩
  have el:((arrOf st').map (·.2)).toList=(arrOf st').toList.map (·.2):=by simp
  refine h _ (((arrOf st').toList.map (·.2)).map numOf) ?_ ?_ ?_
  ·rw [el]
   refine J8b _ fun u hu'=>?_;obtain ⟨p,hp',rfl⟩:=zl.mp hu';obtain ⟨e,hm⟩:=mem p hp';obtain ⟨i,t,e2,_⟩:=J2f hI p.1 hm;exact ⟨i,t,e ▸ e2⟩
  ·have q:=(hl.map (·.2)).map numOf
   have e2:(vs.zip vs).map (·.2)=vs:=map_snd_zip (yJ _);rw [e2,hI.nums] at q;exact q
  ·rw [pairwise_map,pairwise_map]
   refine List.Pairwise.imp_of_mem (fun {x y} hx hy hxy=>?_) hu;obtain ⟨ex,mx⟩:=mem x hx;obtain ⟨ey,my⟩:=mem y hy;obtain ⟨i,t,e1,hi⟩:=J2f hI x.1 mx;obtain ⟨j,u,e2,hj⟩:=J2f hI y.1 my;rw [e1,e2] at hxy;rw [<- ex,<- ey,e1,e2];have:=JaK (O:=J5T) (l:=ns) hj hxy;simp only [J5T,decide_eq_false_iff_not] at this;show i<=j;omega
end
end L2
namespace L2
open PySem PySem.Spec PyProof.Rows
section
variable {prog:Program}{w:World}{A:Around}{E:Value->Shared->Prop}{s:Shared}{T:String}{r d:Addr}{n:Nat}{P:Nat->Value->Prop}{OK:Heap->Prop}
theorem J6i {ns:List Int}{Q:Value->Shared->Prop}(K:PySem.W.KdlSrc prog w T r d n P OK)(hh:A.handled=none)(hok:OK s.heap)(hn:n<=1000)(hI:∀ acc:Array Value,ItemsOf P acc n->IntsAre acc.toList ns)
 (hQ:∀ h' tk p vs' ns' e,(∀ b o,s.heap.get? b=some o->h'.get? b=some o)->s.heap.objs.size<=p->h'.get? p=some (seqObj "list" vs' e)->IntsAre vs'.toList ns'->ns'.Perm ns->ns'.Pairwise (·<=·)->Q (.ref p) { s with heap:=h',toks:=tk }) :
 wpAny (model prog w) A (call (.builtin "sorted") [.ref r]) Q E s:=by
 refine Calls.call_function_entry kind_sorted plain_sorted entry_sorted (args_sorted1 _) ?_;unfold Builtin.«sorted»;refine yF (m:=checkCount "sorted" 1 1 _) (yG ?_);refine yF (J6T K hh hok (by rw [sizeLine_eq];omega) fun h1 tk acc hk hsz hacc=>?_);refine yF (wpAny_newList ?_ (hsz:=by rw [yT,hacc.1,sizeLine_eq];omega));have hoL:(h1.push (seqObj "list" acc.toList.toArray 0)).get? h1.objs.size=some (seqObj "list" acc.toList.toArray 0):=zt _ rfl;show wpAny _ _ _ _ _ { s with heap:=h1.push (seqObj "list" acc.toList.toArray 0),toks:=tk };refine yF (wpAny_holding (wpAny_call_entry slot_list_sort ⟨_,hoL,rfl⟩ entry_list_sort (list_sort_int hoL (hI acc hacc) (by rw [yT,hacc.1];exact hn) fun out ns' a1 a2 a3=>⟨_,rfl,?_⟩) (args_list_sort _)));obtain ⟨e,he⟩:=sortedHeap_at (out:=out) hoL;exact yG ⟨_,rfl,hQ _ tk h1.objs.size out ns' e (fun b o eb=>by
  rw [sortedHeap_old (yO (zu (hk b o eb))) (by rw [size_push'];exact Nat.lt_succ_of_lt (zu (hk b o eb)))];exact zr _ (hk b o eb)) (Nat.le_of_lt hsz) he a1 a2 a3⟩
end
section
variable {X:Cx}
def J5F:List V->Hp->VK->Prop:=fun xs H Q=>∃ d kvs,∃ ks:List Int,xs=[.ref d]/\H d=some (.dK kvs)/\kvs.map (·.1)=ks.map Sum.inl/\kvs.length<=1000 /\
 ∀ p,∀ ms:List Int,H p=none->ms.Perm ks->ms.Pairwise (·<=·)->Q (.ref p) (upd H p (.lst (ms.map V.int)))
theorem J4Y (hc:X.calm=true):J0i X (.builtin "sorted") J5F:=by
 intro pins s σ H xs us Q I r h;obtain ⟨d,kvs,ks,rfl,hH,hk,h64,q⟩:=h;obtain ⟨u,rfl,ru⟩:=J1C r;cases ru;obtain ⟨z,hd,vs,rel,dd⟩:=Jah I.hok hH;have J05:=rel.length;obtain ⟨o,es,ep,ho,hx,hdat,hkn,hp,hnd⟩:=id dd;have hkl:ks.length=kvs.length:=by have:=congrArg List.length hk;simpa using this.symm
 have hm:s.heap.DictAt (J09 X.prog X.w) d vs ep:=⟨o,es,ho,hx,hdat,hkn,hp,hnd⟩;refine J6i (ns:=ks) (PySem.W.kdl_dict (kvs:=vs) (ep:=ep) hd) (I.ok.hd hc) hm (by omega) (fun acc hacc=>?_) (fun h' tk p vs' ns' e hkp hpz hpe hi hperm hsort=>?_)
 ·refine J1W (by rw [yT,hacc.1];omega) fun i v k hv hki=>?_
  obtain ⟨k',x,hx',hy'⟩:=hacc.2 i v (by rw [<- Array.getElem?_toList];exact hv);have e1:vs.map (·.1)=ks.map Sum.inl:=by rw [<- hk];exact rel.keys.symm
  have e2:(vs.map (·.1))[i]?=some k':=by rw [ze,hx'];rfl
  rw [e1,ze,hki] at e2;cases e2;exact J8N hy'
 ·have hv:=J0K hi
  refine ⟨.ref p,upd H p (.lst (ns'.map V.int)),I.laid (t':=tk) hkp hpz (show ObjOk X.prog X.w _ h' _ (.lst (ns'.map V.int)) from ⟨by rw [yW,hperm.length_eq,sizeLine_eq];omega,vs'.toList,e,hv,hpe⟩),rfl,q p ns' (I.hok.fresh hpz) hperm hsort⟩
end
section
variable {prog:Program}{w:World}{A:Around}{E:Value->Shared->Prop}{s:Shared}{a:Addr}{ks:List Int}
theorem J6j {Q:Value->Shared->Prop}(hh:A.handled=none)(hS0:J3b prog w s.heap a ks)(hz:ks.length<=1000)
 (hQ:∀ h' tk d' p vs' ms e,(∀ b o,s.heap.get? b=some o->h'.get? b=some o)->s.heap.objs.size<=p->h'.get? p=some (seqObj "list" vs' e)->IntsAre vs'.toList ms->ms.Nodup->(∀ k,k∈ms↔k∈ks)->ms.length<=ks.length->ms.Pairwise (·<=·)->Q (.ref p) { s with heap:=h',toks:=tk,drawn:=d' }) :
 wpAny (model prog w) A (call (.builtin "sorted") [.ref a]) Q E s:=by
 refine Calls.call_function_entry kind_sorted plain_sorted entry_sorted (args_sorted1 _) ?_;unfold Builtin.«sorted»;refine yF (m:=checkCount "sorted" 1 1 _) (yG ?_);refine yF (J6U hh hS0 (by rw [sizeLine_eq];omega) fun h1 tk d1 vs ms hk hsz hi hnd hmem hle=>?_);have hvl:vs.length=ms.length:=hi.length;refine yF (wpAny_newList ?_ (hsz:=by rw [sizeLine_eq];omega));have hoL:(h1.push (seqObj "list" vs.toArray 0)).get? h1.objs.size=some (seqObj "list" vs.toArray 0):=zt _ rfl;show wpAny _ _ _ _ _ { s with heap:=h1.push (seqObj "list" vs.toArray 0),toks:=tk,drawn:=d1 };refine yF (wpAny_holding (wpAny_call_entry slot_list_sort ⟨_,hoL,rfl⟩ entry_list_sort (list_sort_int hoL hi (by omega) fun out ns' a1 a2 a3=>⟨_,rfl,?_⟩) (args_list_sort _)));obtain ⟨e,he⟩:=sortedHeap_at (out:=out) hoL;exact yG ⟨_,rfl,hQ _ tk d1 h1.objs.size out ns' e (fun b o eb=>by
  rw [sortedHeap_old (yO (zu (hk b o eb))) (by rw [size_push'];exact Nat.lt_succ_of_lt (zu (hk b o eb)))];exact zr _ (hk b o eb)) (Nat.le_of_lt hsz) he a1 (a2.nodup_iff.mpr hnd) (fun k=>a2.mem_iff.trans (hmem k)) (by rw [a2.length_eq];exact hle) a3⟩
end
section
variable {X:Cx}{K:Frag}{e:Expr}{te:TE}{p1 p2 q1 q2:Pos}{pins:List (Addr×Obj)}{σ:St}{H:Hp}{s:Shared}
def J52 (K:Frag)(te:TE):TE:=fun σ H Q=>te σ H fun x H1=>∃ l,∃ zs:List Int,x=.ref l/\SqL K H1 l (zs.map V.int)/\zs.length<=1000 /\
 ∀ D,∀ ms:List Int,H1 D=none->ms.Pairwise (·<·)->(∀ k,k∈ms↔k∈zs)->ms.length<=zs.length->Q (.ref D) (upd H1 D (.lst (ms.map V.int)))
theorem J6s (ek:X.K=K)(hc:X.calm=true)(hm1:X.mg "sorted"=none)(hm2:X.mg "set"=none)(hg1:Gl X "sorted")(hg2:Gl X "set")(hs:Jw e=true)(he:PE X e te):PE X (.Call (.Name "sorted" p1) [.Call (.Name "set" p2) [e] [] q2] [] q1) (J52 K te):=by
 subst ek;intro pins s σ H Q I h;refine wpAny_Call_Name_kw (J1A I hg1 hm1 J64 ?_ (by decide) (by decide));refine PyProof.Rows.callWith_builtin1 ?_ (JJ rfl) (J0w rfl);rw [JJ (e:=.Call (.Name "set" p2) [e] [] q2) (es:=[]) rfl];refine Calls.spliced_cons (wpAny_Call_Name_kw (J1A I hg2 hm2 Jcf ?_ (by decide) (by decide)));refine PyProof.Rows.callWith_type1 ?_ (JJ hs) (J0w rfl);rw [JJ (e:=e) (es:=[]) hs];refine Calls.spliced_cons (thn (he pins s σ H _ I h) fun u s1 ⟨x,H1,I1,r1,q1⟩=>Calls.spliced_nil ?_);obtain ⟨l,zs,rfl,hq,hz64,q⟩:=q1;cases r1;obtain ⟨its,r,pl,hz⟩:=I1.list hq;have hi:IntsAre its zs:=by
  refine J1W (by rw [<- r.length,yW]) fun i v k hv hk=>?_;obtain ⟨u,hu,ru⟩:=r.get (i:=i) (x:=V.int k) (by rw [ze,hk];rfl);rw [hv] at hu;cases hu;exact ru
 refine JaF (I1.ok.hd hc) pl.isList hi (by unfold scanBound;omega) fun h' tk hS hk=>Calls.spliced_nil ?_;refine J6j (s:={ s1 with heap:=h',toks:=tk }) (I1.ok.hd hc) hS hz64 fun h2 tk2 d2 p vs' ms e hk2 hpz hpe hi' hnd hmem hle hso=>?_;have hsz:s1.heap.objs.size<=h'.objs.size:=by
  obtain ⟨o,_,_,_,ho,_⟩:=hS;exact Nat.le_of_lt (zu ho)
 have hp1:s1.heap.objs.size<=p:=yR hsz hpz;refine ⟨.ref p,upd H1 p (.lst (ms.map V.int)),(I1.drw d2).laid (t':=tk2) (fun b o eb=>hk2 b o (hk b o eb)) hp1 (show ObjOk X.prog X.w _ h2 _ (.lst (ms.map V.int)) from ⟨by rw [yW,sizeLine_eq];omega,vs'.toList,e,J0K hi',hpe⟩),rfl,q p ms (I1.hok.fresh hp1) (J8t hso hnd) hmem hle⟩
end
theorem J5k {K:Frag}{a:Addr}{xs:List V}{g:TG}{tt:TT}{te:TE}{fin:List V->Hp->Prop}{σ:St}{H:Hp}(hz:xs.length<=sizeLine)(Pv:Nat->List V->St->Hp->Prop)(h0:Pv 0 [] σ H)(hl:∀ i zs σ H,Pv i zs σ H->SqL K H a xs/\zs.length<=i)
 (hs:∀ (i:Nat) x zs σ H p,xs[i]?=some x->Pv i zs σ H->H p=none->g (.ref p) σ (upd H p (.tup [.int i,x])) fun σ2 H2=>tt σ2 H2 fun b H3=>if b=true then te σ2 H3 fun y H4=>Pv (i+1) (zs++[y]) σ2 H4 else Pv (i+1) zs σ2 H3)
 (hd:∀ zs σ H,Pv xs.length zs σ H->fin zs H):J4M (Ite K a) g tt te fin σ H:=by
 refine ⟨fun i m zs σ H=>m=xs.length - i/\i<=xs.length/\Pv i zs σ H,⟨_,rfl,yQ _,h0⟩,?_⟩;rintro i m zs σ H ⟨rfl,hi,p⟩;obtain ⟨sa,hy⟩:=hl i zs σ H p;by_cases e:i=xs.length
 ·subst e
  exact .inl ⟨⟨xs,sa,yJ _⟩,hd zs σ H p⟩
 ·have lt:i<xs.length:=Nat.lt_of_le_of_ne hi e
  refine .inr ⟨⟨xs,xs[i],sa,yU lt⟩,by omega,Pv (i+1),fun zs' σ' H' z=>⟨xs.length - (i+1),by omega,rfl,lt,z⟩,fun v H' hv=>?_⟩;obtain ⟨q,x',hq,rfl,hx,rfl⟩:=hv;exact hs i x' zs σ H q (hx xs sa) p hq
abbrev JT:=J0l ⊕ List J0l
section
variable {prog:Program}{w:World}
inductive MItem (prog:Program)(w:World)(h:Heap):JT->Value->Prop
 | one {k:J0l} {v:Value}:(JZ prog w).is k v=true->MItem prog w h (.inl k) v
 | flat {ks:List J0l} {b:Addr}:IsTupleKey (JZ prog w) h ks b->MItem prog w h (.inr ks) (.ref b)
theorem MItem.inj {h:Heap}{x y:JT}{v:Value}(a:MItem prog w h x v)(b:MItem prog w h y v):x=y:=by
 cases a with
 | one e1 =>
   cases b with
   | one e2=>rw [(JZ prog w).inj _ _ _ e1 e2]
   | flat e2=>exact absurd ((JZ prog w).byValue _ _ e1) (by simp [carriedByValue])
 | flat e1 =>
   cases b with
   | one e2=>exact absurd ((JZ prog w).byValue _ _ e2) (by simp [carriedByValue])
   | flat e2=>rw [e1.inj e2]
theorem MItem.keeps {h h':Heap}{d:Addr}{o:Obj}{es ep}(ho:h.get? d=some o)(hd:o.data=.dict es ep)(hs:Heap.SameBut d h h'){x:JT}{v:Value}(a:MItem prog w h x v):MItem prog w h' x v:=by
 cases a with
 | one e=>exact .one e
 | flat e=>exact .flat (e.keeps ho hd hs)
def J6B (prog:Program)(w:World):JT->Int
 | .inl k=>(JZ prog w).hash k
 | .inr ks=>tupleKeyHash (JZ prog w) ks
def mDr:JT->Nat
 | .inl _=>1
 | .inr ks=>ks.length+1
theorem MItem.hash {A:Around}{E:Value->Shared->Prop}{s:Shared}{h:Heap}{x:JT}{v:Value}{Q:Int->Shared->Prop}(hu:A.units<cLine)(e:h=s.heap)(a:MItem prog w h x v)(q:Q (J6B prog w x) { s with toks:=s.toks+mDr x }):wpAny (model prog w) A (pyHash v) Q E s:=by
 subst e;cases a with
 | one e=>exact (JZ prog w).pyHash e q
 | flat e=>exact wpAny_pyHash_tuple hu e q
theorem J3W {s:Shared}{ks:List J0l}{b:Addr}(h:IsTupleKey (JZ prog w) s.heap ks b):∃ its,s.heap.IsTuple b its:=by
 obtain ⟨o,its,n,e,c,d,_⟩:=h;exact ⟨its,o,e,c,n,d⟩
theorem MItem.eq {A:Around}{E:Value->Shared->Prop}{s:Shared}{x y:JT}{u v:Value}{Q:Bool->Shared->Prop}(hu:A.units<cLine)(a:MItem prog w s.heap x u)(b:MItem prog w s.heap y v)(q:Q (decide (x=y)) s):wpAny (model prog w) A (eqBool u v) Q E s:=by
 cases a with
 | @one k _ e1 =>
   cases b with
   | one e2=>exact (JZ prog w).eqBool e1 e2 (by simpa using q)
   | flat e2 =>
     have q':Q false s:=by simpa using q
     obtain ⟨its,ht⟩:=J3W e2;rcases J0a e1 with ⟨rfl,rfl⟩ | ⟨k',rfl,hq⟩
     ·exact SeqAt.EqAt.none_tuple ht hu _ _ _ _ q'
     ·rcases JF hq with ⟨i,t,rfl,rfl⟩ | ⟨z,t,rfl,rfl⟩
      ·exact SeqAt.EqAt.int_tuple i t ht hu _ _ _ _ q'
      ·exact SeqAt.EqAt.str_tuple z t ht hu _ _ _ _ q'
 | flat e1 =>
   cases b with
   | @one k _ e2 =>
     have q':Q false s:=by simpa using q
     obtain ⟨its,ht⟩:=J3W e1;rcases J0a e2 with ⟨rfl,rfl⟩ | ⟨k',rfl,hq⟩
     ·exact SeqAt.EqAt.tuple_none ht hu _ _ _ _ q'
     ·rcases JF hq with ⟨i,t,rfl,rfl⟩ | ⟨z,t,rfl,rfl⟩
      ·exact SeqAt.EqAt.tuple_int i t ht hu _ _ _ _ q'
      ·exact SeqAt.EqAt.tuple_str z t ht hu _ _ _ _ q'
   | flat e2=>exact wpAny_eqBool_tuple hu e1 e2 (by simpa using q)
inductive ItemsT (prog:Program)(w:World)(h:Heap):List JT->List Value->Prop
 | nil:ItemsT prog w h [] []
 | cons {k:JT} {v:Value} {ks:List JT} {vs:List Value}:MItem prog w h k v->ItemsT prog w h ks vs->ItemsT prog w h (k::ks) (v::vs)
def IsNest (prog:Program)(w:World)(h:Heap)(ks:List JT)(a:Addr):Prop:=∃ ob its m,h.get? a=some ob/\ob.cls=.type "tuple"/\ob.data=.seq its m/\ItemsT prog w h ks its.toList
theorem ItemsT.inj {h:Heap}{x y:List JT}{vs:List Value}(hx:ItemsT prog w h x vs)(hy:ItemsT prog w h y vs):x=y:=by
 induction hx generalizing y with
 | nil=>cases hy;rfl
 | cons k1 _ ih =>
   cases hy with
   | cons k2 t2=>rw [k1.inj k2,ih t2]
theorem IsNest.ty {s:Shared}{kss:List JT}{a:Addr}(x:IsNest prog w s.heap kss a):s.TypeIs (.ref a) "tuple":=by
 obtain ⟨ob,_,_,e,c,_⟩:=x;exact ⟨ob,e,c⟩
theorem IsNest.inj {h:Heap}{a:Addr}{x y:List JT}(hx:IsNest prog w h x a)(hy:IsNest prog w h y a):x=y:=by
 obtain ⟨o1,i1,m1,e1,_,d1,t1⟩:=hx;obtain ⟨o2,i2,m2,e2,_,d2,t2⟩:=hy;rw [e1] at e2;cases e2;rw [d1] at d2;cases d2;exact t1.inj t2
theorem ItemsT.keeps {h h':Heap}{d:Addr}{o:Obj}{es ep}(ho:h.get? d=some o)(hd:o.data=.dict es ep)(hs:Heap.SameBut d h h'){kss:List JT}{vs:List Value}(x:ItemsT prog w h kss vs):ItemsT prog w h' kss vs:=by
 induction x with
 | nil=>exact .nil
 | cons k _ ih=>exact .cons (k.keeps ho hd hs) ih
theorem IsNest.keeps {h h':Heap}{kss:List JT}{a d:Addr}{o:Obj}{es ep}(x:IsNest prog w h kss a)(ho:h.get? d=some o)(hd:o.data=.dict es ep)(hs:Heap.SameBut d h h'):IsNest prog w h' kss a:=by
 obtain ⟨ob,its,m,e,c,dd,t⟩:=x;have ne:a≠d:=fun z=>by
  subst z;rw [e] at ho;cases ho;rw [dd] at hd;cases hd
 exact ⟨ob,its,m,(hs.2 a ne).trans e,c,dd,t.keeps ho hd hs⟩
def J4q (prog:Program)(w:World)(kss:List JT):Int:=reduceHash (Builtin.Tuple.tupleHashOf (kss.map (J6B prog w)))
def J1k:List JT->Nat
 | []=>0
 | ks::kss=>J1k kss+mDr ks
theorem J6v (kss:List JT)(ks:JT):J1k (kss++[ks])=J1k kss+mDr ks:=by
 induction kss with
 | nil=>simp [J1k]
 | cons a t ih=>simp only [cons_append,J1k,ih];omega
variable {A:Around}{E:Value->Shared->Prop}{s:Shared}
theorem hash_nest {kss:List JT}{a:Addr}{Q:Int->Shared->Prop}(hu:A.units+1<cLine)(hk:IsNest prog w s.heap kss a)(h:Q (J4q prog w kss) { s with toks:=s.toks+(J1k kss+1) }):wpAny (model prog w) A (pyHash (.ref a)) Q E s:=by
 have hT:=hk.ty;obtain ⟨ob,its,m,e,_,dd,t⟩:=hk;refine PySem.W.pyHash_slot (T:="tuple") hT F.slot_tuple_hash F.entry_tuple_hash (F.args_tuple_hash_1 _) (beq_builtin_none _) (.inr (by omega)) ?_;show wpAny _ _ (Builtin.Tuple.tupleItemsOf (.ref a) >>= _) _ _ s;refine yF (wpAny_tupleItemsOf e dd (yF ?_));rw [<- Array.forIn_toList];refine wpAny_forIn_list _ (fun rest (b:Array Int) s'=>∃ p q,kss=p++q/\ItemsT prog w s.heap q rest/\b.toList=p.map (J6B prog w)/\s'={ s with toks:=s.toks+J1k p }) _ ?_ ?_ _ _ ⟨[],kss,rfl,t,rfl,rfl⟩
 ·rintro x rest b s' ⟨p,q,rfl,tq,hb,rfl⟩
  cases tq with
  | @cons ks c kss' vs k1 tq' =>
    refine yF (k1.hash (A:=A.in1) (s:={ s with toks:=s.toks+J1k p }) hu rfl ?_);have fin:∃ p' q',p++ks::kss'=p'++q'/\ItemsT prog w s.heap q' rest/\(b.push (J6B prog w ks)).toList=p'.map (J6B prog w)/\({ s with toks:=s.toks+J1k p+mDr ks }:Shared)={ s with toks:=s.toks+J1k p' } :=
     ⟨p++[ks],kss',by simp,tq',by simp [hb],by rw [J6v,Nat.add_assoc]⟩
    first
     | exact yG fin
     | exact yF (yG (yG fin))
 ·rintro b s' ⟨p,q,rfl,tq,hb,rfl⟩
  cases tq;rw [append_nil] at h;show wpAny _ _ (retInt (Builtin.Tuple.tupleHashOf b.toList)) _ _ _;rw [hb];exact yF (wpAny_mkInt (yG ⟨_,_,rfl,by simpa [J4q,Nat.add_assoc] using h⟩))
theorem nest_eq_tree {x y:List JT}{a b:Addr}{P:Fin->Shared->Prop}(hu:A.units<cLine)(hx:IsNest prog w s.heap x a)(hy:IsNest prog w s.heap y b)(h:P (.done (.ret (.bool (decide (x=y))))) s) :
 wpAny (model prog w) A (Builtin.«tuple.__eq__» ⟨[.ref a,.ref b],[]⟩) P E s:=by
 have tb:=hy.ty;obtain ⟨oa,ia,na,ea,_,da,ta⟩:=hx;obtain ⟨ob,ib,nb,eb,_,db,tq⟩:=hy;show wpAny _ _ (isInstance (.ref b) (.type "tuple") >>= _) _ _ s;refine yF (wpAny_isInstance tb isSubtype_tuple_tuple ?_);simp only [Bool.not_true,Bool.false_eq_true,if_false];refine yF (wpAny_tupleItemsOf ea da (yF (wpAny_tupleItemsOf eb db (yF ?_))));refine wpAny_forIn_list _ (fun rest r s'=>r.1=none/\s'=s/\∃ p q u v,rest=List.zip u v/\ItemsT prog w s.heap p u/\ItemsT prog w s.heap q v/\decide (p=q)=decide (x=y)/\(u.length == v.length)=(ia.size == ib.size)) _ ?_ ?_ _ _ ⟨rfl,rfl,x,y,ia.toList,ib.toList,rfl,ta,tq,rfl,by simp⟩
 ·rintro ⟨u1,v1⟩ rest r s' ⟨hr,rfl,p,q,u,v,hz,hp,hq,hde,hln⟩
  cases hp with
  | nil=>simp at hz
  | @cons k1 c1 p' u' g1 hp' =>
    cases hq with
    | nil=>simp at hz
    | @cons k2 c2 q' v' g2 hq' =>
      simp only [zip_cons_cons,List.cons.injEq,Prod.mk.injEq] at hz;obtain ⟨⟨rfl,rfl⟩,rfl⟩:=hz;refine yF (g1.eq hu g2 ?_);by_cases ek:k1=k2
      ·subst ek
       rw [yL rfl];simp only [Bool.not_true,Bool.false_eq_true,if_false];refine yG ⟨rfl,rfl,p',q',u',v',rfl,hp',hq',?_,by simpa using hln⟩;rw [<- hde];simp
      ·rw [yM ek]
       simp only [Bool.not_false,if_true];have ef:decide (x=y)=false:=by rw [<- hde];simp [ek]
       rw [ef] at h;exact yF (yG (yG (yG h)))
 ·rintro ⟨r1,r2⟩ s' ⟨hr,rfl,p,q,u,v,hz,hp,hq,hde,hln⟩
  simp only at hr;subst hr;have ef:(ia.size == ib.size)=decide (x=y):=by
   rw [<- hde,<- hln];cases hp with
   | nil =>
     cases hq with
     | nil=>simp
     | cons _ _=>simp
   | cons _ _ =>
     cases hq with
     | nil=>simp
     | cons _ _=>simp at hz
  refine yG ?_;show P (.done (.ret (.bool (ia.size == ib.size)))) s';rw [ef];exact h
theorem Jb9 {x y:List JT}{a b:Addr}{Q:Bool->Shared->Prop}(hu:A.units+1<cLine)(hx:IsNest prog w s.heap x a)(hy:IsNest prog w s.heap y b)(h:Q (decide (x=y)) s):wpAny (model prog w) A (eqBool (.ref a) (.ref b)) Q E s:=by
 unfold eqBool
 try with_reducible refine wpAny_holding ?_
 by_cases c:a=b
 ·subst c
  obtain rfl:=hx.inj hy;show wpAny _ _ (if (Value.ref a == Value.ref a)=true then _ else _) Q E s;rw [yI (by simp)];exact yF (wpAny_rule (yG (by simpa using h)))
 ·show wpAny _ _ (if (Value.ref a == Value.ref b)=true then _ else _) Q E s
  rw [yH (fun z=>c (by have e:=eq_of_beq z;cases e;rfl))];exact yF (wpAny_richCompare_same_room (op:=.Eq) hx.ty hy.ty F.slot_tuple_eq (wpAny_call_entry F.slot_tuple_eq hx.ty F.entry_tuple_eq (nest_eq_tree (A:=A.in1) hu hx hy ⟨_,rfl,(fun z=>nomatch z),wpAny_truthy_bool h⟩) (F.args_tuple_eq_2 _ _)) (by omega))
theorem J7g {n:Nat}{ks:List J0l}{a:Addr}{Q:Bool->Shared->Prop}(hk:IsTupleKey (JZ prog w) s.heap ks a)(h:Q true s):wpAny (model prog w) A (eqIsQuiet (n+1) (.ref a)) Q E s:=by
 have hT:=hk.typeIs;obtain ⟨ob,its,m,e,_,dd,t⟩:=hk;unfold eqIsQuiet;refine yF (wpAny_specialOf hT F.slot_tuple_eq.lookup ?_);show wpAny _ _ (isInstance (.ref a) (.type "tuple") >>= _) _ _ s;refine yF (wpAny_isInstance hT isSubtype_tuple_tuple ?_);simp only [Bool.not_true,Bool.false_eq_true,if_false];refine yF (wpAny_seqItems e dd (yF ?_));show wpAny _ _ (forIn its _ _) _ _ s;rw [<- Array.forIn_toList];refine wpAny_forIn_list _ (fun rest r s'=>r.1=none/\s'=s/\∀ v∈rest,carriedByValue v=true) _ ?_ ?_ _ _ ⟨rfl,rfl,t.byValue⟩
 ·rintro v rest r s' ⟨hr,rfl,al⟩
  rw [eqIsQuiet_byValue _ (al v y9)];refine yF (yG ?_);simp only [Bool.not_true,Bool.false_eq_true,if_false];exact yG ⟨rfl,rfl,fun u hm=>al u (y8 _ hm)⟩
 ·rintro ⟨r1,r2⟩ s' ⟨hr,rfl,_⟩
  simp only at hr;subst hr;exact yG h
theorem quiet_nest {kss:List JT}{a:Addr}{Q:Bool->Shared->Prop}(hk:IsNest prog w s.heap kss a)(h:Q true s):wpAny (model prog w) A (eqIsQuiet 8 (.ref a)) Q E s:=by
 have hT:=hk.ty;obtain ⟨ob,its,m,e,_,dd,t⟩:=hk;unfold eqIsQuiet;refine yF (wpAny_specialOf hT F.slot_tuple_eq.lookup ?_);show wpAny _ _ (isInstance (.ref a) (.type "tuple") >>= _) _ _ s;refine yF (wpAny_isInstance hT isSubtype_tuple_tuple ?_);simp only [Bool.not_true,Bool.false_eq_true,if_false];refine yF (wpAny_seqItems e dd (yF ?_));show wpAny _ _ (forIn its _ _) _ _ s;rw [<- Array.forIn_toList];refine wpAny_forIn_list _ (fun rest r s'=>r.1=none/\s'=s/\∃ q,ItemsT prog w s.heap q rest) _ ?_ ?_ _ _ ⟨rfl,rfl,kss,t⟩
 ·rintro v rest r s' ⟨hr,rfl,q,tq⟩
  cases tq with
  | cons k1 tq' =>
    cases k1 with
    | one e1 =>
      rw [eqIsQuiet_byValue _ ((JZ prog w).byValue _ _ e1)];refine yF (yG ?_);simp only [Bool.not_true,Bool.false_eq_true,if_false];exact yG ⟨rfl,rfl,_,tq'⟩
    | flat e1 =>
      refine yF (J7g (n:=6) e1 ?_);simp only [Bool.not_true,Bool.false_eq_true,if_false];exact yG ⟨rfl,rfl,_,tq'⟩
 ·rintro ⟨r1,r2⟩ s' ⟨hr,rfl,_⟩
  simp only at hr;subst hr;exact yG h
end
def J1H (prog:Program)(w:World):HeapKind prog w (List JT) where
 is:=IsNest prog w
 hash:=J4q prog w
 draws:=fun kss=>J1k kss+1
 room:=fun A=>A.units+1<cLine
 inj:=fun a b=>a.inj b
 keeps:=fun x a b c=>x.keeps a b c
 pyHash:=fun a b c=>hash_nest a b c
 eqBool:=fun a b c d=>Jb9 a b c d
 quiet:=fun a b=>quiet_nest a b
section
variable {prog:Program}{w:World}{K:Type}[DecidableEq K]{knd:HeapKind prog w K}{A:Around}{E:Value->Shared->Prop}{s:Shared}
theorem setdef_heap {d a:Addr}{xs:List (K×Addr×Value)}{k:K}{v:Value}{Q:Value->Shared->Prop}(hu:knd.room A)(hk:knd.is s.heap k a)(hm:s.heap.DictOfH knd d xs)(hl:xs.length<=sizeLine)
 (q1:∀ p,atKey xs k=some p->Q p.2 { s with toks:=s.toks+knd.draws k })
 (q2:atKey xs k=none->∀ h',h'.DictOfH knd d (storedH xs k a v)->Heap.SameBut d s.heap h'->Q v { s with heap:=h',toks:=s.toks+knd.draws k }) :
 wpAny (model prog w) A (dictSetDefault d (.ref a) v) Q E s:=by
 obtain ⟨ob,es,ep,e,hc,hd,he,al,nd⟩:=hm;unfold dictSetDefault
 try with_reducible refine wpAny_holding ?_
 refine yF (knd.pyHash hu hk (yF (wpAny_dictFind_heap (s:={ s with toks:=s.toks+knd.draws k }) hu hk e hd he al nd ?_ ?_)))
 ·intro no
  have nk:k∉xs.map (·.1):=not_mem_keys_of_get no;have ks:=atKey_none_of_get no;have sb:∀ f,Heap.SameBut d s.heap (s.heap.update d f):=fun f=>Heap.SameBut.update ..;refine yF (wpAny_rule (yF (wpAny_updateDictKeys (hz:=by have z:=size_of_entries he;omega) (s:={ s with toks:=s.toks+knd.draws k }) e hd (yG (q2 ks _ ⟨_,_,ep+1,Heap.get?_update_self _ e (Obj.isFreed_of_dict (Obj.data_mapDictKeys hd _)),hc.mapDictKeys _,Obj.data_mapDictKeys hd _,?_,fun x hx=>?_,?_⟩ (Heap.SameBut.update ..))))))
  ·rw [storedH_new ks]
   simp [he,entryOfKey]
  ·rw [storedH_new ks] at hx
   rcases zh.mp hx with hx | hx
   ·exact knd.keeps (al x hx) e hd (Heap.SameBut.update ..)
   ·cases yX.mp hx
    exact knd.keeps hk e hd (Heap.SameBut.update ..)
  ·rw [storedH_new ks,zg,nodup_append]
   refine ⟨nd,by simp,fun x hx y hy z=>?_⟩;rw [zd,map_nil,yX] at hy;subst hy z;exact nk hx
 ·intro j p hj
  refine yF (wpAny_dictEntries (s:={ s with toks:=s.toks+knd.draws k }) e hd ?_);rw [entry_at he j,hj];exact yF (wpAny_rule (yG (q1 p (atKey_of_get nd hj))))
theorem J31 (knd:HeapKind prog w K)(d a:Addr)(hd:(d == sysModules)=false)(v:Value) :
 MeetsIn prog w (Builtin.«dict.setdefault» ⟨[.ref d,.ref a,v],[]⟩) (fun A R s=>knd.room A.in1/\∃ k xs,knd.is s.heap k a/\s.heap.DictOfH knd d xs/\xs.length<=sizeLine /\
  (∀ p,atKey xs k=some p->R (.ok (.ret p.2)) { s with toks:=s.toks+knd.draws k }) /\
  (atKey xs k=none->∀ h',h'.DictOfH knd d (storedH xs k a v)->Heap.SameBut d s.heap h'->R (.ok (.ret v)) { s with heap:=h',toks:=s.toks+knd.draws k })) :=
 .of_wp fun A R s ⟨hu,k,xs,hk,hm,hl,q1,q2⟩=>by
  unfold Builtin.«dict.setdefault»;refine yF ?_;unfold Builtin.Dict.keyAndDefault;refine yF (wpAny_notOrdered_dict hm.typeIs ?_);show wpAny _ _ (pure (d,Value.ref a,some v)) _ _ s;refine yG ?_;show wpAny _ _ (if (d == sysModules)=true then _ else (dictSetDefault d (.ref a) v >>= _)) _ _ s;rw [yH (by rw [hd];decide)];exact yF (setdef_heap hu hk hm hl (fun p e=>yG ⟨_,rfl,q1 p e⟩) fun e h' m' s'=>yG ⟨_,rfl,q2 e h' m' s'⟩)
end
abbrev NPK:=List JT
def dN (P:Program)(w:World)(a:Addr)(xs:List (NPK×Addr×Value)):HO:=.ext fun h=>∃ o es ep,h.get? a=some o/\o.ExactDict/\o.data=.dict es ep/\es.toList=xs.map (entryOfKey (J1H P w))/\(xs.map (·.1)).Nodup
def MAt (H:Hp):V->JT->Prop
 | x,.inl k=>x=nV k
 | x,.inr ks=>∃ c,x=.ref c/\H c=some (.tup (ks.map nV))
def NKeyAt (H:Hp)(b:Addr)(kss:NPK):Prop:=∃ xs:List V,H b=some (.tup xs)/\Paired (MAt H) xs kss
theorem MAt.mono {H H':Hp}(t:∀ c ys,H c=some (.tup ys)->H' c=some (.tup ys)):∀ {x:V} {k:JT},MAt H x k->MAt H' x k
 | _,.inl _,h=>h
 | _,.inr _,⟨c,e,h⟩=>⟨c,e,t _ _ h⟩
theorem NKeyAt.mono {H H':Hp}{b:Addr}{kss:NPK}(t:∀ c ys,H c=some (.tup ys)->H' c=some (.tup ys))(h:NKeyAt H b kss):NKeyAt H' b kss:=by
 obtain ⟨bs,h1,h2⟩:=h;exact ⟨bs,t _ _ h1,Paired.mapP h2 fun _ _ e=>e.mono t⟩
def NRel (H:Hp)(kvs:List (NPK×V))(xs:List (NPK×Addr×Value)):Prop:=Paired (fun (p:NPK×V) (q:NPK×Addr×Value)=>p.1=q.1/\NKeyAt H q.2.1 p.1/\RelV p.2 q.2.2) kvs xs
theorem NRel.mono {H H':Hp}{kvs:List (NPK×V)}{xs:List (NPK×Addr×Value)}(t:∀ c ys,H c=some (.tup ys)->H' c=some (.tup ys))(h:NRel H kvs xs):NRel H' kvs xs:=Paired.mapP h fun _ _ e=>⟨e.1,e.2.1.mono t,e.2.2⟩
def ND (P:Program)(w:World)(H:Hp)(a:Addr)(kvs:List (NPK×V)):Prop:=(a == sysModules)=false/\∃ xs,H a=some (dN P w a xs)/\NRel H kvs xs
theorem ND.mono {P:Program}{w:World}{H H':Hp}{a:Addr}{kvs:List (NPK×V)}(t:∀ c ys,H c=some (.tup ys)->H' c=some (.tup ys))(e:H' a=H a)(h:ND P w H a kvs):ND P w H' a kvs:=by
 obtain ⟨h1,xs,h2,h3⟩:=h;exact ⟨h1,xs,e.trans h2,h3.mono t⟩
section
variable {P:Program}{w:World}{H:Hp}{h:Heap}{a b:Addr}
theorem JcB (ok:HOk P w H h){x:V}{k:JT}{v:Value}(m:MAt H x k)(r:RelV x v):MItem P w h k v:=by
 cases k with
 | inl k =>
   cases (show x=nV k from m);exact .one (Jbq (P:=P) (w:=w) r)
 | inr ks =>
   obtain ⟨c,rfl,e⟩:=(show ∃ c,x=.ref c/\H c=some (.tup (ks.map nV)) from m);cases (show v=Value.ref c from r);exact .flat (J3m ok e)
theorem JbZ (ok:HOk P w H h){xs:List V}{kss:NPK}(r:Paired (MAt H) xs kss):∀ {its:List Value},Vals xs its->ItemsT P w h kss its:=by
 induction r with
 | nil=>intro its v;cases v;exact .nil
 | cons m t ih=>intro its v;cases v with | cons q v=>exact .cons (JcB ok m q) (ih v)
theorem J5L {kss:NPK}(ok:HOk P w H h)(k:NKeyAt H b kss):IsNest P w h kss b:=by
 obtain ⟨bs,e,r⟩:=k;obtain ⟨_,its,v,o,h1,h2,n,h3⟩:=(show ObjOk P w H h b (.tup bs) from ok b _ e);exact ⟨o,its.toArray,n,h1,h2,h3,by simpa using JbZ ok r v⟩
theorem Jb0 {kvs:List (NPK×V)}{xs:List (NPK×Addr×Value)}(ok:HOk P w H h)(r:NRel H kvs xs):∀ x∈xs,IsNest P w h x.1 x.2.1:=by
 unfold NRel at r
 induction r with
 | nil=>intro x hx;cases hx
 | cons q t ih =>
   intro x hx;rcases zc.mp hx with rfl | hx
   ·rw [<- q.1]
    exact J5L ok q.2.1
   ·exact ih x hx
theorem J84 {xs:List (NPK×Addr×Value)}{kvs:List (NPK×V)}(ok:HOk P w H h)(e:H a=some (dN P w a xs))(r:NRel H kvs xs):h.DictOfH (J1H P w) a xs:=by
 obtain ⟨⟨o,es,ep,h1,h2,h3,h4,h5⟩,_,_⟩:=(show ObjOk P w H h a (dN P w a xs) from ok a _ e);exact ⟨o,es,ep,h1,h2,h3,h4,Jb0 ok r,h5⟩
theorem J5K {k:NPK}{kvs:List (NPK×V)}{xs:List (NPK×Addr×Value)}(r:NRel H kvs xs):(J0I kvs k=none/\atKey xs k=none)\/∃ v p,J0I kvs k=some v/\atKey xs k=some p/\RelV v p.2:=by
 unfold NRel at r;unfold J0I atKey
 induction r with
 | nil=>exact .inl ⟨rfl,rfl⟩
 | @cons p q ps qs hq _ ih =>
   rw [List.find?_cons,List.find?_cons];by_cases c:p.1=k
   ·rw [yL c,yL (hq.1.symm.trans c)]
    exact .inr ⟨p.2,q.2,rfl,rfl,hq.2.2⟩
   ·rw [yM c,yM (fun z=>c (hq.1.trans z))]
    exact ih
theorem J9T {k:NPK}{kvs:List (NPK×V)}{xs:List (NPK×Addr×Value)}{v:V}{u:Value}(r:NRel H kvs xs)(hk:NKeyAt H b k)(rv:RelV v u)(n1:J0I kvs k=none)(n2:atKey xs k=none):NRel H (J1b kvs k v) (storedH xs k b u):=by
 rw [storedH_new n2];have e:J1b kvs k v=kvs++[(k,v)]:=by
  unfold J1b;rw [yH];intro z;rw [any_eq_true] at z;obtain ⟨x,hx,hd⟩:=z;unfold J0I at n1;rw [Option.map_eq_none_iff,List.find?_eq_none] at n1;exact n1 x hx hd
 rw [e];exact Paired.snoc r ⟨rfl,hk,rv⟩
theorem Jbu {H':Hp}{h':Heap}{xs:List (NPK×Addr×Value)}(d:h'.DictOfH (J1H P w) a xs):ObjOk P w H' h' a (dN P w a xs):=by
 obtain ⟨o,es,ep,h1,h2,h3,h4,_,h5⟩:=d;exact ⟨⟨o,es,ep,h1,h2,h3,h4,h5⟩,⟨o,h1⟩,fun g1 g2 ⟨o,es,ep,q1,q2⟩ k=>⟨o,es,ep,k _ q1,q2⟩⟩
end
section
variable {X:Cx}{pins:List (Addr×Obj)}{σ:St}{H:Hp}{s:Shared}{a b:Addr}{k:NPK}{kvs:List (NPK×V)}{d:V}{r:Value}{A:Around}{E:Value->Shared->Prop}
theorem Jbp (I:Inv X pins σ H s)(g:ND X.prog X.w H a kvs):s.TypeIs (.ref a) "dict"/\∀ b,Value.ref a=.ref b->∃ ob,s.heap.get? b=some ob/\ob.dict=none:=by
 obtain ⟨_,xs,e,rel⟩:=g;have dd:=J84 I.hok e rel;refine ⟨dd.typeIs,fun c q=>?_⟩;cases q;obtain ⟨ob,_,_,h1,h2,_⟩:=dd;exact ⟨ob,h1,h2.2.1⟩
theorem n_setdef {Q:Value->Shared->Prop}(hu:A.units+2<cLine)(I:Inv X pins σ H s)(g:ND X.prog X.w H a kvs)(hk:NKeyAt H b k)(rd:RelV d r)(hl:kvs.length<=sizeLine)
 (h1:∀ v w' s',J0I kvs k=some v->Inv X pins σ H s'->RelV v w'->Q w' s')
 (h2:J0I kvs k=none->∀ xs s',ND X.prog X.w (upd H a (dN X.prog X.w a xs)) a (J1b kvs k d)->Inv X pins σ (upd H a (dN X.prog X.w a xs)) s'->Q r s') :
 wpAny (model X.prog X.w) A (call (.builtin "dict.setdefault") [.ref a,.ref b,r]) Q E s:=by
 obtain ⟨hd,xs,e,rel⟩:=g;have dd:=J84 I.hok e rel;refine call_meetsIn PySem.F.slot_dict_setdefault dd.typeIs PySem.F.entry_dict_setdefault (PySem.F.args_dict_setdefault_3 _ _ _) (J31 (J1H X.prog X.w) a b hd r) ⟨hu,k,xs,J5L I.hok hk,dd,by rw [<- Paired.length rel];exact hl,fun p ep=>?_,fun en h' dd' hs=>?_⟩
 ·rcases J5K (k:=k) rel with ⟨_,e2⟩ | ⟨v,p',e1,e2,rv⟩
  ·rw [e2] at ep;cases ep
  ·rw [e2] at ep
   cases ep;exact h1 v _ _ e1 (I.tok _) rv
 ·rcases J5K (k:=k) rel with ⟨e1,e2⟩ | ⟨v,p',e1,e2,rv⟩
  ·have tk:∀ c ys,H c=some (.tup ys)->upd H a (dN X.prog X.w a (storedH xs k b r)) c=some (.tup ys):=fun c ys z=>by
    rw [Jf (J2b z e (fun q=>nomatch q))];exact z
   refine h2 e1 (storedH xs k b r) _ ⟨hd,_,Ja,(J9T rel hk rd e1 e2).mono tk⟩ ?_;exact J3R I (by rw [e];exact True.intro) hs (let ⟨q,_,_,hq,_⟩:=dd';⟨q,hq⟩) (Jbu dd')
  ·rw [e2] at en;cases en
end
def J7b (P:Program)(w:World):TE:=fun _ H Q=>∀ p xs,H p=none->ND P w (upd H p (dN P w p xs)) p []->Q (.ref p) (upd H p (dN P w p xs))
def J3Z (P:Program)(w:World)(td ty tx:TE):TE:=fun σ H Q=>td σ H fun x H1=>∃ a kvs,x=.ref a/\ND P w H1 a kvs/\ty σ H1 fun y H2=>tx σ H2 fun z H3=>∃ b kvs k,y=.ref b/\ND P w H3 a kvs/\NKeyAt H3 b k/\kvs.length<=sizeLine /\
 (∀ v,J0I kvs k=some v->Q v H3)/\(J0I kvs k=none->∀ xs,ND P w (upd H3 a (dN P w a xs)) a (J1b kvs k z)->Q z (upd H3 a (dN P w a xs)))
section
variable {X:Cx}{o e f:Expr}{pos apos cpos:Pos}{td ty tx:TE}
theorem J9P:PE X (.Dict [] [] pos) (J7b X.prog X.w):=fun pins s σ H Q I h=>by
 have hp:H s.heap.objs.size=none:=I.hok.fresh (yJ _);have sy:(s.heap.objs.size == sysModules)=false:=beq_eq_false_iff_ne.mpr (Ne.symm (yO I.big));have dd:(s.heap.push { cls:=.type "dict",data:=.dict #[] }).DictOfH (J1H X.prog X.w) s.heap.objs.size []:=⟨_,#[],0,zt _ rfl,⟨rfl,rfl,rfl⟩,rfl,rfl,(fun _ z=>nomatch z),nodup_nil⟩;exact wpAny_Dict_empty ⟨.ref s.heap.objs.size,_,I.laid (a:=s.heap.objs.size) (o:=dN X.prog X.w s.heap.objs.size []) (t':=s.toks) (fun _ _ q=>zr _ q) (yJ _) (Jbu dd),rfl,h _ [] hp ⟨sy,[],Ja,.nil⟩⟩
theorem J7k (hu:X.A.units+64<cLine)(ho:PE X o td)(he:PE X e ty)(hf:PE X f tx)(m:M2 X o "setdefault" apos e f cpos):PE X (.Call (.Attribute o "setdefault" apos) [e,f] [] cpos) (J3Z X.prog X.w td ty tx):=by
 intro pins s σ H Q I h;refine wpAny_Call_method m.base m.few m.line PySem.F.plainAttrs_dict PySem.F.slot_dict_setdefault PySem.F.type_dict_setdefault (thn (ho pins s σ H _ I h) fun u s1 ⟨x,H1,I1,rx,a,kv,ex,d,q1⟩=>?_);subst ex;obtain rfl:u=Value.ref a:=rx;obtain ⟨t1,t2⟩:=Jbp I1 d;refine ⟨t1,t2,?_⟩;rw [m.trees];refine Calls.callWith_builtin rfl (Calls.evalArgs_plain (Calls.spliced_cons (thn (he pins s1 σ H1 _ I1 q1) fun iv s2 ⟨y,H2,I2,ry,q2⟩=>Calls.spliced_cons (thn (hf pins s2 σ H2 _ I2 q2) fun fv s3 ⟨z,H3,I3,rz,b,kvs,k,ey,g,hk,hl,q3,q4⟩=>Calls.spliced_nil ?_))));subst ey;obtain rfl:iv=Value.ref b:=ry;exact n_setdef (by omega) I3 g hk rz hl (fun v w' s4 ev I4 rv=>⟨v,H3,I4,rv,q3 v ev⟩) fun en xs s4 g4 I4=>⟨z,_,I4,rz,q4 en xs g4⟩
end
section
variable {prog:Program}{w:World}{K:Type}[DecidableEq K]{knd:HeapKind prog w K}{A:Around}{E:Value->Shared->Prop}{s:Shared}
theorem J7t (knd:HeapKind prog w K)(d:Addr)(hd:(d == sysModules)=false):MeetsIn prog w (Builtin.«dict.__len__» ⟨[.ref d],[]⟩) (fun _ R s=>∃ xs,s.heap.DictOfH knd d xs/\R (.ok (.ret (.int xs.length s.toks))) { s with toks:=s.toks+1 }) :=
 .of_wp fun A R s ⟨xs,⟨ob,es,ep,e,_,hdt,he,_⟩,q⟩=>by
  show wpAny _ _ (PySem.dictSize d >>= _) _ _ s;unfold PySem.dictSize;refine yF <| yF <| wpAny_dictEntries e hdt <| yG ?_
  show wpAny _ _ (PySem.Builtin.Dict.pendingCount d >>= _) _ _ s;refine yF <| wpAny_pendingCount_other hd <| wpAny_ret_mkInt ?_
  rw [Nat.add_zero,show es.size=xs.length by have z:=congrArg List.length he;simpa using z];exact q
theorem J05 {d:Addr}{xs:List (K×Addr×Value)}{Q:Value->Shared->Prop}(hd:(d == sysModules)=false)(hm:s.heap.DictOfH knd d xs)(hf:(xs.length:Int)<2 ^ 63)
 (q:Q (.int xs.length (s.toks+1)) { s with toks:=s.toks+1+1 }):wpAny (model prog w) A (call (.builtin "len") [.ref d]) Q E s:=by
 refine Calls.call_function_entry kind_len plain_len entry_len (args_len1 _) ?_;unfold Builtin.«len»;refine yF (m:=oneArg "len" _) <| yG ?_
 refine yF (m:=PySem.callSpecial? (.ref d) (Str.ofString "__len__")) <| wpAny_callSpecial?_slot (name:=Str.ofString "__len__") hm.typeIs F.slot_dict_len <|
  call_meetsIn F.slot_dict_len hm.typeIs F.entry_dict_len (F.args_dict_len_1 _) (J7t knd d hd) ⟨xs,hm,?_⟩
 show wpAny _ _ _ _ _ ({ s with toks:=s.toks+1 }:Shared);refine yF <| wpAny_holding <| yG ?_
 refine yF <| wpAny_letGo ?_
 show wpAny _ _ (if (xs.length:Int)<0 then _ else _) _ _ _;rw [yH (by omega)];show wpAny _ _ (if (xs.length:Int)≥2 ^ 63 then _ else _) _ _ _;rw [yH (by omega)];exact yF <| wpAny_mkInt <| yG ⟨_,rfl,q⟩
end
section
variable {X:Cx}{pins:List (Addr×Obj)}{σ:St}{H:Hp}{s:Shared}{a b:Addr}{k:NPK}{kvs:List (NPK×V)}{A:Around}{E:Value->Shared->Prop}
theorem J8I {v:V}{Q:Value->Shared->Prop}(hu:A.units+2<cLine)(I:Inv X pins σ H s)(g:ND X.prog X.w H a kvs)(hk:NKeyAt H b k)(hv:J0I kvs k=some v)(h:∀ w' s',Inv X pins σ H s'->RelV v w'->Q w' s') :
 wpAny (model X.prog X.w) A (getItem (.ref a) (.ref b)) Q E s:=by
 obtain ⟨hd,xs,e,rel⟩:=g;rcases J5K (k:=k) rel with ⟨e1,_⟩ | ⟨v',p,e1,e2,rv⟩
 ·rw [e1] at hv;cases hv
 ·rw [e1] at hv
  cases hv;exact wpAny_getItem_heap (knd:=J1H X.prog X.w) hu (J5L I.hok hk) (J84 I.hok e rel) e2 (h _ _ (I.tok _) rv)
theorem n_len {Q:Value->Shared->Prop}(I:Inv X pins σ H s)(g:ND X.prog X.w H a kvs)(hl:kvs.length<=sizeLine)(h:∀ t s',Inv X pins σ H s'->Q (.int kvs.length t) s'):wpAny (model X.prog X.w) A (call (.builtin "len") [.ref a]) Q E s:=by
 obtain ⟨hd,xs,e,rel⟩:=g;have el:=Paired.length rel;refine J05 hd (J84 I.hok e rel) (by rw [<- el];rw [sizeLine_eq] at hl;omega) ?_;rw [<- el];exact h _ _ (I.tok _)
end
def J9c (P:Program)(w:World)(td ty:TE):TE:=fun σ H Q=>td σ H fun x H1=>ty σ H1 fun y H2=>∃ a b kvs k v,x=.ref a/\y=.ref b/\ND P w H2 a kvs/\NKeyAt H2 b k/\J0I kvs k=some v/\Q v H2
def J9z (P:Program)(w:World):List V->Hp->VK->Prop:=fun xs H Q=>∃ a kvs,xs=[V.ref a]/\ND P w H a kvs/\kvs.length<=sizeLine/\Q (.int kvs.length) H
section
variable {X:Cx}{o i:Expr}{pos:Pos}{td ty:TE}
theorem J81 (hu:X.A.units+64<cLine)(ho:PE X o td)(hi:PE X i ty)(hs:Jcn i):PE X (.Subscript o i pos) (J9c X.prog X.w td ty):=by
 intro pins s σ H Q I h;refine J7M PySem.F.slot_dict_getitem.lookup hs (thn (ho pins s σ H _ I h) fun u s1 ⟨x,H1,I1,rx,q1⟩=>thn (hi pins s1 σ H1 _ I1 q1) fun iv s2 ⟨y,H2,I2,ry,a,b,kvs,k,v,ex,ey,g,hk,hv,q2⟩=>?_);subst ex ey;obtain rfl:u=Value.ref a:=rx;obtain rfl:iv=Value.ref b:=ry;exact ⟨(Jbp I2 g).1,J8I (by omega) I2 g hk hv fun w' s3 I3 rw'=>⟨v,H2,I3,rw',q2⟩⟩
theorem J5m:J0i X (.builtin "len") (J9z X.prog X.w):=by
 intro pins s σ H xs us Q I r h;obtain ⟨a,kvs,rfl,ha,hl,q⟩:=h;obtain ⟨u,rfl,ru⟩:=J1C r;cases ru;exact n_len I ha hl fun t s' I'=>⟨.int kvs.length,H,I',⟨t,rfl⟩,q⟩
end
end L2
namespace L2
open PySem PySem.Spec PyProof.Rows PySem.W
section
variable {X:Cx}{pins:List (Addr×Obj)}{σ:St}{H:Hp}{s:Shared}{E:Value->Shared->Prop}
def JcM (X:Cx)(pins:List (Addr×Obj))(σ:St)(H:Hp)(A:Around)(f:Value)(G:Heap->Prop)(vs:List Value)(kz:List Int):Prop :=
 ∀ (i:Nat) v k,vs[i]?=some v->kz[i]?=some k->∀ (pl:List (Addr×Obj)) (s':Shared),Inv X (pins++pl) σ H s'->G s'.heap ->
   wpAny (model X.prog X.w) A (call f [v]) (fun u s''=>(∃ t,u=.int k t)/\Inv X (pins++pl) σ H s''/\G s''.heap) (fun _ _=>False) s'
end
section
variable {X:Cx}{pins:List (Addr×Obj)}{σ:St}{H:Hp}{s:Shared}{E:Value->Shared->Prop}
theorem Inv.turnedL {h':Heap}{t':Nat}{ch:List Addr}(I:Inv X pins σ H s)(k:∀ b o,b∉ch->s.heap.get? b=some o->h'.get? b=some o)(f:∀ b∈ch,J1B X pins H b):Inv X pins σ H { s with heap:=h',toks:=t' }:=by
 have nit:∀ b u,H b=some u->b∉ch:=fun b u e z=>by rw [(f b z).1] at e;cases e
 refine I.step (g':=s.gens) (d':=s.drawn) (ch:=ch) (fun b hb=>?_) (fun b o _ _ hc e _=>k b o hc e) (fun b o _ _ hc e _=>⟨o.slots,k b o hc e⟩) (fun _ _ _ _ n=>n)
  (fun b o hc e=>⟨o,k b o hc e⟩) (fun _ _ e=>e) (fun _ _ _ e=>e) (fun b ps e=>⟨#[],by rw [e];simp⟩) (fun m hm=>?_) (fun b u e=>?_) I.bare
 ·obtain ⟨_,h1,_,h3,h4,h5⟩:=f b hb
  exact ⟨h3,h1,h4,h5⟩
 ·obtain ⟨o,es,ep,ho,r⟩:=hm
  exact ⟨o,es,ep,k _ o (fun z=>(f _ z).2.1 rfl) ho,r⟩
 ·refine (I.hok b u e).stay (fun c v hc q=>k c v ?_ q) (fun _ q=>q) fun _ _ q=>q
  rcases hc with z | z
  ·rw [z];exact nit b u e
  ·exact nit c _ z
end
section
variable {prog:Program}{w:World}{A:Around}{E:Value->Shared->Prop}{s:Shared}
theorem J4u {kz:List Int}{vs out:List Value}{b:Bool}(hl:kz.length=vs.length)(h:KskOut b kz vs out):out.length=vs.length:=by
 obtain ⟨ps,hp,rfl,_⟩:=h;rw [yW,hp.length_eq,length_zip];omega
theorem Jd4 {a kS:Addr}{vs:List Value}{kz:List Int}{keys:Array Value}{e e1:Nat}{P:PySem.Fin->Shared->Prop}(ha:s.heap.get? a=some (seqObj "list" #[] e1))(hk:s.heap.get? kS=some (seqObj "list" keys e))(hka:kS≠a)(hi:IntsAre keys.toList kz)(hl:kz.length=vs.length)(h64:vs.length<64)
 (h:∀ h' tk e2 out,KskOut true kz vs out->(∀ b o,b≠a->b≠kS->s.heap.get? b=some o->h'.get? b=some o)->h'.get? a=some (seqObj "list" out.toArray e2)->(∃ o,h'.get? kS=some o)->P (.done (.ret .none)) { s with heap:=h',toks:=tk }) :
 wpAny (model prog w) A (ksk_end a true vs.toArray e1 (.ref kS) keys) P E s:=by
 have hks:keys.size=vs.length:=by have:=hi.length;rw [yT] at this;omega
 have hzs:(keys.zip vs.toArray).size=vs.length:=by rw [Array.size_zip,hks,yY,Nat.min_self]
 have hst:(keys.zip vs.toArray).reverse.Perm (keys.zip vs.toArray):=Array.perm_iff_toList_perm.mpr (by rw [Array.toList_reverse];exact reverse_perm _);have tail:∀ st:SortSt,failedOf st=none->(arrOf st).Perm (keys.zip vs.toArray)->SortedTo (arrOf st) (arrOf st).size->wpAny (model prog w) A (ksk_tail a true e1 (.ref kS) st) P E s:=fun st hf hp hs=>by
  have ko:KskOut true kz vs ((arrOf st).map (·.2)).reverse.toList:=by simpa using ksk_out (b:=true) hi hp hs
  have hol:=J4u hl ko;have s1:=Heap.SameBut.update s.heap kS (Obj.mapSeq fun _=>(#[]:Array Value));have na1:(s.heap.update kS (Obj.mapSeq fun _=>(#[]:Array Value))).get? a=some (seqObj "list" #[] e1):=(s1.2 a hka.symm).trans ha;have nk1:=get?_update_seq hk (fun _=>(#[]:Array Value));have hz:((arrOf st).map (·.2)).reverse.size<=sizeLine:=by rw [<- yT,hol,sizeLine_eq];omega
  unfold ksk_tail;dsimp only;simp only [if_true];generalize ((arrOf st).map (·.2)).reverse=ou at *;refine yF (listUpdate_at hk rfl ?_ (by rw [hks,sizeLine_eq];omega) (yQ _));refine yF (wpAny_letGo ?_);refine yF (seqEpoch_at na1 rfl ?_);refine yF (listUpdate_at na1 rfl ?_ (yQ _) (yR hz (Nat.le_succ _)));rw [hf];simp only [bne_self_eq_false,Bool.false_eq_true,if_false];have s2:=Heap.SameBut.update (s.heap.update kS (Obj.mapSeq fun _=>(#[]:Array Value))) a (Obj.mapSeq fun _=>ou);exact yG (h _ _ _ ou.toList ko (fun b o hb hb2 eb=>(s2.2 b hb).trans ((s1.2 b hb2).trans eb)) (by rw [Array.toArray_toList];exact get?_update_seq na1 _) ⟨_,(s2.2 kS hka).trans nk1⟩)
 unfold ksk_end;dsimp only;simp only [if_true];refine yF (wpAny_rule ?_);by_cases h2:vs.toArray.size<2
 ·rw [yI h2,yI h2]
  refine yF (yG ?_);rw [StateT.run_pure];refine yF (yG ?_);dsimp only;refine tail _ rfl hst fun i j hij hj=>?_;have hj2:j<(keys.zip vs.toArray).reverse.size:=hj;rw [hst.size_eq,hzs] at hj2;rw [yY] at h2;obtain rfl:i=j:=by omega
  exact Int.le_refl _
 ·rw [yH h2,yH h2]
  rw [yY] at h2;rw [ksk_kind hi (by omega)];refine yF (yG ?_);refine yF (wpAny_mono (wpS_sortRuns (a₀:=keys.zip vs.toArray) (st:=SortSt.mk' oneType' (keys.zip vs.toArray).reverse #[] 7 none) (Q:=fun _ st'=>failedOf st'=none/\(arrOf st').Perm (keys.zip vs.toArray)/\SortedTo (arrOf st') (keys.zip vs.toArray).size)
   (ksk_intKeys hi) ⟨hst,rfl,rfl,rfl⟩ (by rw [hzs];omega) (by rw [hzs];exact h64) fun st' a1 a2 a3=>⟨a2,a1,a3⟩) ?_ fun _ _ e=>e)
  rintro ⟨⟨⟩,st'⟩ s' ⟨rfl,hf,hp,hs⟩;exact tail st' hf hp (by rw [hp.size_eq];exact hs)
end
section
variable {X:Cx}{pins:List (Addr×Obj)}{σ:St}{H:Hp}{s:Shared}{E:Value->Shared->Prop}
theorem restR {A:Around}{f:Value}{G:Heap->Prop}{a kS:Addr}{vs:List Value}{kz:List Int}{e1:Nat}{P:PySem.Fin->Shared->Prop}(I:Inv X pins σ H s)(hG:G s.heap)(Gk:∀ h h':Heap,G h->(∀ b o,b≠kS->h.get? b=some o->h'.get? b=some o)->G h')
 (ha:s.heap.get? a=some (seqObj "list" #[] e1)) (hk:s.heap.get? kS=some (seqObj "list" #[] 0)) (hka:kS≠a) (fa:J1B X pins H a) (fk:J1B X pins H kS) (hl:kz.length=vs.length) (h64:vs.length<64) (KO:JcM X pins σ H A f G vs kz)
 (h:∀ s',Inv X pins σ H s'->∀ h' tk e2 out,KskOut true kz vs out->(∀ b o,b≠a->b≠kS->s'.heap.get? b=some o->h'.get? b=some o)->(∃ o,s'.heap.get? a=some o)->(∃ o,h'.get? kS=some o)->h'.get? a=some (seqObj "list" out.toArray e2)->P (.done (.ret .none)) { s' with heap:=h',toks:=tk }) :
 wpAny (model X.prog X.w) A (ksk_rest a f true vs.toArray e1 (.ref kS)) P E s:=by
 unfold ksk_rest;refine yF (wpAny_rule ?_);rw [forIn_toArray];refine yF (ksk_fold (fun i s'=>∃ kA e,Inv X pins σ H s'/\G s'.heap/\s'.heap.get? a=some (seqObj "list" #[] e1)/\s'.heap.get? kS=some (seqObj "list" kA e)/\IntsAre kA.toList (kz.take i)) vs 0 s
  ⟨#[],0,I,hG,ha,hk,by simpa using IntsAre.nil⟩ ?step ?done)
 case step =>
  rintro j x s' hx ⟨kA,e,J,g,na,nk,hi⟩;simp only [Nat.zero_add] at hi ⊢;have hj:j<vs.length:=(yV.mp hx).1;obtain ⟨k,hkj⟩:∃ k,kz[j]?=some k:=⟨_,yU (by omega)⟩;have hz:kA.size<=vs.length:=by
   have h1:=hi.length;rw [yT,y7] at h1;omega
  have J2:Inv X (pins++[(a,seqObj "list" #[] e1),(kS,seqObj "list" kA e)]) σ H s':=J.pins_of fun p hp=>by
   rcases zh.mp hp with hp | hp
   ·exact J.pin p (zi _ hp)
   ·rcases zc.mp hp with rfl | hp
    ·exact ⟨na,fa.1,fa.2.1,fa.2.2.1,fun v=>by simp [seqObj]⟩
    ·rw [yX.mp hp]
     exact ⟨nk,fk.1,fk.2.1,fk.2.2.1,fun v=>by simp [seqObj]⟩
  refine yF (wpAny_attempt (wpAny_mono (KO j x k hx hkj _ s' J2 g) (fun u s'' he=>?_) fun _ _ hF=>hF.elim));obtain ⟨⟨t2,rfl⟩,J3,g3⟩:=he;dsimp only;have na3:=(J3.pin (a,seqObj "list" #[] e1) (zi _ (zi _ (.head _)))).1;have nk3:=(J3.pin (kS,seqObj "list" kA e) (zi _ (zi _ (.tail _ (.head _))))).1;have J4:Inv X pins σ H s'':=J3.unpinned;have s1:=Heap.SameBut.update s''.heap kS (Obj.mapSeq (·.push (.int k t2)));obtain ⟨c2,hc2⟩:∃ c2,(s''.heap.update kS (Obj.mapSeq (·.push (.int k t2)))).get? kS=some (seqObj "list" (kA.push (.int k t2)) c2):=⟨_,get?_update_seq nk3 (·.push (.int k t2))⟩;have ek:kz.take (j+1)=kz.take j++[k]:=by rw [take_add_one,hkj];simp
  have ea:(kA.push (Value.int k t2)).toList=kA.toList++[Value.int k t2]:=by simp
  refine yF (listUpdate_at nk3 rfl ?_ (by rw [sizeLine_eq];omega) (yR (Nat.le_of_eq (Array.size_push ..)) (by rw [sizeLine_eq];omega)));have kp:∀ b o,b≠kS->s''.heap.get? b=some o->(s''.heap.update kS (Obj.mapSeq (·.push (.int k t2)))).get? b=some o:=fun b o hb eb=>(s1.2 b hb).trans eb;exact yG ⟨rfl,kA.push (.int k t2),c2,J4.turned (t':=s''.toks) kp fk.1 fk.2.1 fk.2.2.2.1 fk.2.2.2.2.1 fk.2.2.2.2.2,Gk _ _ g3 kp,kp _ _ hka.symm na3,hc2,by rw [ea,ek];exact ksk_snoc hi⟩
 case done =>
  rintro s' ⟨kA,e,J,g,na,nk,hi⟩;have hk':IntsAre kA.toList kz:=by
   have e3:kz.take (0+vs.length)=kz:=take_of_length_le (by omega);rw [e3] at hi;exact hi
  refine yF (listItems_at nk rfl ?_);exact Jd4 na nk hka hk' hl h64 fun h' tk e2 out ko kp ha' hk2=>h s' J h' tk e2 out ko kp ⟨_,na⟩ hk2 ha'
def Jco (H:Hp)(x:V)(n:Int):Prop:=∃ c ys,x=.ref c/\H c=some (.lst ys)/\n=(ys.length:Int)
def JaJ:Value->V
 | .ref c=>.ref c
 | _=>.non
theorem J6p:∀ {xs:List V} {vs:List Value},Vals xs vs->(∀ x∈xs,∃ c,x=V.ref c)->vs.map JaJ=xs
 | _,_,.nil,_=>rfl
 | _,_,.cons q t,h=>by
   obtain ⟨c,rfl⟩:=h _ y9;cases (show _=Value.ref c from q);rw [zd,J6p t fun x hx=>h x (y8 _ hx)];rfl
theorem J56:∀ {vs:List Value},(∀ v∈vs,∃ c,v=Value.ref c)->Vals (vs.map JaJ) vs
 | [],_=>.nil
 | v::vs,h=>by
   obtain ⟨c,rfl⟩:=h v y9;exact .cons rfl (J56 fun u hu=>h u (y8 _ hu))
theorem J57:∀ {xs:List V} {vs:List Value},Vals xs vs->(∀ x∈xs,∃ c,x=V.ref c)->∀ v∈vs,∃ c,v=Value.ref c
 | _,_,.nil,_,_,hv=>nomatch hv
 | _,_,.cons q t,h,v,hv=>by
   obtain ⟨c,rfl⟩:=h _ y9;rcases zc.mp hv with rfl | hv
   ·exact ⟨c,q⟩
   ·exact J57 t (fun x hx=>h x (y8 _ hx)) v hv
def Jck (kz:List Int)(xs out:List V):Prop:=∃ ps:List (Int×V),ps.Perm (kz.zip xs)/\out=ps.map Prod.snd/\ps.Pairwise (fun p q=>q.1<=p.1)
theorem sorted_listR {l:Addr}{xs:List V}{kz:List Int}{Q:VK}(I:Inv X pins σ H s)(hex:X.ex=[])(hl:SqL X.K H l xs)(hn:xs.length<64)(hkl:kz.length=xs.length)(hkz:∀ (i:Nat) x k,xs[i]?=some x->kz[i]?=some k->Jco H x k)
 (hQ:∀ D out,H D=none->Jck kz xs out->Q (.ref D) (upd H D (.lst out))) :
 wpAny (model X.prog X.w) X.A (call (.builtin "sorted") [.ref l] [(Str.ofString "key",.builtin "len"),(Str.ofString "reverse",.bool true)]) (EP X pins σ Q) E s:=by
 obtain ⟨vs,rv,pl,_⟩:=I.list hl;have hvl:xs.length=vs.length:=rv.length;have href:∀ x∈xs,∃ c,x=V.ref c:=fun x hx=>by
  obtain ⟨i,hi⟩:=zk.mp hx;obtain ⟨c,_,e,_⟩:=hkz i x _ hi (yU (by rw [hkl];exact (yV.mp hi).1));exact ⟨c,e⟩
 refine call_function_entry_kw kind_sorted plain_sorted entry_sorted (ksk_s2 _ _ _) ?_;unfold Builtin.«sorted»;refine yF (m:=checkCount "sorted" 1 1 _) (yG ?_);refine yF (collect_list pl.isList ?_ (by rw [sizeLine_eq];omega));have hk0:∀ b o,s.heap.get? b=some o->((s.heap.push (seqObj "list" #[] 0)).update s.heap.objs.size (Obj.mapSeq (·++vs.toArray))).get? b=some o:=fun b o e=>(zw _ _ (Nat.ne_of_gt (zu e))).trans (zr _ e);have hsz:s.heap.objs.size<((s.heap.push (seqObj "list" #[] 0)).update s.heap.objs.size (Obj.mapSeq (·++vs.toArray))).objs.size:=by rw [Heap.size_update,Heap.size_push];omega
 show wpAny _ _ _ _ _ { s with heap:=(s.heap.push (seqObj "list" #[] 0)).update s.heap.objs.size (Obj.mapSeq (·++vs.toArray)),toks:=s.toks };generalize (s.heap.push (seqObj "list" #[] 0)).update s.heap.objs.size (Obj.mapSeq (·++vs.toArray))=h1 at *;generalize s.toks=tk;refine yF (wpAny_newList ?_ (hsz:=by rw [sizeLine_eq];omega));have hoL:(h1.push (seqObj "list" vs.toArray 0)).get? h1.objs.size=some (seqObj "list" vs.toArray 0):=zt _ rfl;have hsL:(h1.push (seqObj "list" vs.toArray 0)).objs.size=h1.objs.size+1:=Heap.size_push ..;have kL:∀ b o,s.heap.get? b=some o->(h1.push (seqObj "list" vs.toArray 0)).get? b=some o:=fun b o e=>zr _ (hk0 b o e);show wpAny _ _ _ _ _ { s with heap:=h1.push (seqObj "list" vs.toArray 0),toks:=tk };generalize h1.push (seqObj "list" vs.toArray 0)=h2 at *;have haz:s.heap.objs.size<=h1.objs.size:=Nat.le_of_lt hsz;refine yF (wpAny_holding (wpAny_call_entry_kw slot_list_sort ⟨_,hoL,rfl⟩ entry_list_sort ?body (ksk_l2 _ _ _)))
 case body =>
  show wpAny (model X.prog X.w) X.A.in1.in1 (Builtin.«list.sort» ⟨[.ref h1.objs.size],[(Str.ofString "key",.builtin "len"),(Str.ofString "reverse",.bool true)]⟩) _ _ _;rw [ksk_t5];unfold ksk_tree;refine yF (listItems_at hoL rfl ?_);refine yF (listUpdate_at hoL rfl ?_ (by rw [yY,sizeLine_eq];omega) (yQ _));obtain ⟨e1,ho1⟩:∃ e1,(h2.update h1.objs.size (Obj.mapSeq fun _=>(#[]:Array Value))).get? h1.objs.size=some (seqObj "list" #[] e1):=⟨_,get?_update_seq hoL fun _=>#[]⟩;have s3:(h2.update h1.objs.size (Obj.mapSeq fun _=>(#[]:Array Value))).objs.size=h1.objs.size+1:=by rw [Heap.size_update,hsL]
  have k3:∀ b o,s.heap.get? b=some o->(h2.update h1.objs.size (Obj.mapSeq fun _=>(#[]:Array Value))).get? b=some o:=fun b o e=>(zw _ _ (Nat.ne_of_gt (yP (zu e) haz))).trans (kL b o e);refine yF (seqEpoch_at ho1 rfl ?_);generalize h2.update h1.objs.size (Obj.mapSeq fun _=>(#[]:Array Value))=h3 at *;refine yF (wpAny_newTuple ?_ (by show vs.length<=_;rw [sizeLine_eq];omega));have ho4:(h3.push (seqObj "tuple" vs.toArray 0)).get? h1.objs.size=some (seqObj "list" #[] e1):=zr _ ho1;have s4:(h3.push (seqObj "tuple" vs.toArray 0)).objs.size=h1.objs.size+2:=by rw [Heap.size_push,s3]
  have k4:∀ b o,s.heap.get? b=some o->(h3.push (seqObj "tuple" vs.toArray 0)).get? b=some o:=fun b o e=>zr _ (k3 b o e);show wpAny _ _ _ _ _ { s with heap:=h3.push (seqObj "tuple" vs.toArray 0),toks:=tk };generalize h3.push (seqObj "tuple" vs.toArray 0)=h4 at *;refine yF (wpAny_newList ?_ (yQ _));have hoK:(h4.push (seqObj "list" #[] 0)).get? h4.objs.size=some (seqObj "list" #[] 0):=zt _ rfl;have ho5:(h4.push (seqObj "list" #[] 0)).get? h1.objs.size=some (seqObj "list" #[] e1):=zr _ ho4;have k5:∀ b o,s.heap.get? b=some o->(h4.push (seqObj "list" #[] 0)).get? b=some o:=fun b o e=>zr _ (k4 b o e);show wpAny _ _ _ _ _ { s with heap:=h4.push (seqObj "list" #[] 0),toks:=tk };generalize h4.push (seqObj "list" #[] 0)=h5 at *;refine wpAny_holding ?_;have hkz2:s.heap.objs.size<=h4.objs.size:=by rw [s4];omega
  have fa:J1B X pins H h1.objs.size:=I.fpOk haz (I.hok.fresh haz);have fk:J1B X pins H h4.objs.size:=I.fpOk hkz2 (I.hok.fresh hkz2);have I5:Inv X pins σ H { s with heap:=h5,toks:=tk }:=I.kept k5;refine restR (kz:=kz) (s:={ s with heap:=h5,toks:=tk }) (G:=fun _=>True) I5 trivial (fun _ _ _ _=>trivial) ho5 hoK (by show h4.objs.size≠h1.objs.size;rw [s4];exact Nat.ne_of_gt (Nat.lt_add_of_pos_right (by decide))) fa fk (by omega) (by omega) (fun i v k hv hk pl' s' J _=>?_) fun s' J h' tk' e2 out ko kp _ _ ha'=>⟨_,rfl,?_⟩
  ·have hi:i<xs.length:=by rw [hvl];exact (yV.mp hv).1
   obtain ⟨c,ys,ex,hc,rfl⟩:=hkz i _ k (yU hi) hk;obtain ⟨v',hv',rr⟩:=rv.get (yU hi);rw [hv] at hv';cases hv';rw [ex] at rr;cases (show v=Value.ref c from rr);obtain ⟨its,r2,pl2,hz2⟩:=J.list (SqL.of hc);have e3:its.toArray.size=ys.length:=by rw [yY,<- r2.length]
   refine Calls.call_len_list pl2.isList (by rw [e3];rw [sizeLine_eq] at hz2;omega) ⟨⟨_,by rw [e3]⟩,J.tok _,trivial⟩
  ·have J2:Inv X pins σ H { s' with heap:=h',toks:=tk' }:=J.turnedL (ch:=[h1.objs.size,h4.objs.size]) (fun b o hb e=>by
    simp only [zc,not_mem_nil,or_false,not_or] at hb;exact kp b o hb.1 hb.2 e) fun b hb=>by
    rcases zc.mp hb with rfl | hb
    ·exact fa
    ·rw [yX.mp hb];exact fk
   have hln:s.heap.get? h1.objs.size=none:=Heap.get?_none_of_le haz;have hol:=J4u (by omega) ko;have hbk:=J57 rv href;obtain ⟨ps,hp,rfl,hw⟩:=ko;have ho:∀ v∈ps.map Prod.snd,∃ c,v=Value.ref c:=fun v hv=>by
    obtain ⟨p,hp1,rfl⟩:=zl.mp hv;exact hbk _ (of_mem_zip (hp.mem_iff.mp hp1)).2
   refine yG ⟨_,rfl,.ref h1.objs.size,upd H h1.objs.size (.lst ((ps.map Prod.snd).map JaJ)),J2.hold (I.cov hex) hln fa.1 ?_,rfl,hQ _ _ fa.1 ⟨ps.map fun p=>(p.1,JaJ p.2),?_,by rw [map_map,map_map];rfl,?_⟩⟩
   ·exact ⟨by rw [yW,hol,sizeLine_eq];omega,_,e2,J56 ho,ha'⟩
   ·rw [<- J6p rv href,zip_map_right]
    exact hp.map _
   ·rw [pairwise_map]
    exact hw.imp fun h=>by simpa using h
end
def J79 (K:Frag)(ta:TA):TE:=fun σ H Q=>ta σ H fun vs H1=>∃ l xs kz,vs=[V.ref l]/\SqL K H1 l xs/\xs.length<64/\kz.length=xs.length/\(∀ (i:Nat) x k,xs[i]?=some x->kz[i]?=some k->Jco H1 x k)/\∀ D out,H1 D=none->Jck kz xs out->Q (.ref D) (upd H1 D (.lst out))
section
variable {X:Cx}
theorem J9O {K:Frag}{a:Expr}{ta:TA}{p pos kp kp2 np cp:Pos}{j}(ek:X.K=K)(hex:X.ex=[])(hg:Gl X "sorted")(hm:X.mg "sorted"=none)(hg2:Gl X "len")(hm2:X.mg "len"=none)(hn:Jw a=true)(ha:PA X [a] ta) :
 PE X (.Call (.Name "sorted" p) [a] [⟨some "key",.Name "len" np,kp⟩,⟨some "reverse",.Constant (.bool true) j cp,kp2⟩] pos) (J79 K ta):=by
 subst ek;intro pins s σ H Q I h;refine wpAny_Call_Name_kw (J1A I hg hm (show bootBuiltins "sorted"=some (.builtin "sorted") from rfl) ?_);refine PyProof.Rows.callWith_kw (thn (ha pos pins s σ H _ I h) fun us s1 ⟨vs,H1,I1,r1,q1⟩=>?_) (by rw [JJ hn];rfl) (by rw [JJ hn];rfl);obtain ⟨l,xs,kz,rfl,hl,h64,hkl,hkz,hq⟩:=q1;obtain ⟨u1,rfl,ru⟩:=J1C r1;cases (show u1=Value.ref l from ru);show wpAny _ _ (evalAll ((do let v <- eval (.Name "len" np) X.env;standAt pos;pure v)::(backToKw pos (keywordEach _ X.env)).map (·.2))) _ _ s1;refine wpAny_evalAll_cons (yF (J1A I1 hg2 hm2 (show bootBuiltins "len"=some (.builtin "len") from rfl) (yF (wpAny_standAt (yG ?_)))));refine thn ((JaR J2B JbJ) pos pins s1 σ H1 (fun zs H2=>zs=[V.bl true]/\H2=H1) I1 ⟨rfl,rfl⟩) fun ws s2 ⟨zs,H2,I2,rz,ez,eH⟩=>?_;subst ez;subst eH;obtain ⟨w',rfl,rw'⟩:=J1C rz;cases (show w'=Value.bool true from rw');exact sorted_listR I2 hex hl h64 hkl hkz hq
end
end L2
namespace L2
open PySem PySem.Spec PyProof.Rows
section
variable {X:Cx}
def J5E (K:Frag):List V->Hp->VK->Prop:=fun xs H Q=>∃ l,∃ ns:List Int,xs=[.ref l]/\SqL K H l (ns.map V.int)/\ns.length<64 /\
 ∀ p,∀ ms:List Int,H p=none->ms.Perm ns->ms.Pairwise (·<=·)->Q (.ref p) (upd H p (.lst (ms.map V.int)))
theorem J3V:∀ {ns:List Int} {us:List Value},Vals (ns.map V.int) us->IntsAre us ns
 | [],_,.nil=>.nil
 | n::ns,_,.cons r t=>by
   obtain ⟨k,rfl⟩:=r;exact .cons n k (J3V t)
theorem J61 (hc:X.calm=true):J0i X (.builtin "sorted") (J5E X.K):=by
 intro pins s σ H xs us Q I r h;obtain ⟨l,ns,rfl,hq,h64,q⟩:=h;obtain ⟨lv,rfl,rl⟩:=J1C r;cases (show lv=Value.ref l from rl);obtain ⟨its,r',pl,hz⟩:=I.list hq;have hl:=r'.length;rw [yW] at hl;refine sorted_ints pl.isList (J3V r') (by omega) fun out ns' a1 a2 a3=>?_;have hsz:((s.heap.push (seqObj "list" #[] 0)).update s.heap.objs.size (Obj.mapSeq (·++its.toArray))).objs.size=s.heap.objs.size+1:=by
  rw [Heap.size_update,size_push']
 have hoL:(((s.heap.push (seqObj "list" #[] 0)).update s.heap.objs.size (Obj.mapSeq (·++its.toArray))).push (seqObj "list" its.toArray 0)).get? (s.heap.objs.size+1)=some (seqObj "list" its.toArray 0):=by
  rw [<- hsz];exact zt _ rfl
 obtain ⟨e,he⟩:=sortedHeap_at (out:=out) hoL;refine ⟨.ref _,upd H (s.heap.objs.size+1) (.lst (ns'.map V.int)),I.laid (t':=s.toks) (fun b o eb=>?_) (Nat.le_succ _) (show ObjOk X.prog X.w _ _ _ (.lst (ns'.map V.int)) from ⟨by rw [yW,a2.length_eq,sizeLine_eq];omega,out.toList,e,J0K a1,he⟩),rfl,q _ ns' (I.hok.fresh (Nat.le_succ _)) a2 a3⟩;have hlt:b<s.heap.objs.size:=zu eb;unfold sortedAll;rw [sortedHeap_old (yO (Nat.lt_succ_of_lt hlt)) (by rw [size_push',hsz];exact Nat.lt_succ_of_lt (Nat.lt_succ_of_lt hlt)),Heap.get?_push_ne _ _ _ (by rw [hsz];exact yO (Nat.lt_succ_of_lt hlt)),Heap.get?_update_ne _ _ _ _ (yO hlt),Heap.get?_push_ne _ _ _ (yO hlt)];exact eb
theorem J5P {K:Frag}(e:X.K=K)(hc:X.calm=true):J0i X (.builtin "sorted") (J5E K):=by subst e;exact J61 hc
end
section
variable {X:Cx}
theorem JcX (K:Frag)(i j m:Nat){x y z:Str}{p1 p2 p3 pos:Pos}{k:Nat}(hN:X.N.Nodup)(e:X.K=K:=by rfl)(hc:X.calm=true:=by rfl)(hi:X.N[i]?=some x:=by rfl)(hj:X.N[j]?=some y:=by rfl)(hm:X.N[m]?=some z:=by rfl)
 (hv:X.env.scope.names.lookup x=some .local:=by rfl) (hw:X.env.scope.names.lookup y=some .local:=by rfl) (hx:X.env.scope.names.lookup z=some .local:=by rfl)
 (h1:(assignEach [.Name x p1,.Name y p2,.Name z p3] X.env).map (·.2)=assign (.Name x p1) X.env::(assignEach [.Name y p2,.Name z p3] X.env).map (·.2):=by rfl)
 (h2:(assignEach [.Name y p2,.Name z p3] X.env).map (·.2)=assign (.Name y p2) X.env::(assignEach [.Name z p3] X.env).map (·.2):=by rfl)
 (h3:(assignEach [.Name z p3] X.env).map (·.2)=assign (.Name z p3) X.env::(assignEach [] X.env).map (·.2):=by rfl)
 (hn:(assignEach [.Name x p1,.Name y p2,.Name z p3] X.env).length=3:=by rfl) (hst:(assignEach [.Name x p1,.Name y p2,.Name z p3] X.env).findIdx? (·.1)=none:=by rfl):PG X (.Tuple [.Name x p1,.Name y p2,.Name z p3] k pos) (Jb7 K 3 (J0y (JK i) (J0y (JK j) (J0y (JK m) J1X)))) :=
 J1x e hc (Jq (pgl i hN hi hv) (Jq (pgl j hN hj hw) (Jq (pgl m hN hm hx) J0o h3) h2) h1) hn hst
end
end L2
namespace NS
open PySem L2
seal L2.PE L2.PT L2.PA L2.PS L2.PSs L2.PG L2.PI L2.PTs L2.PW L2.PO L2.PGs L2.PPs L2.OpR L2.J0i L2.IxR L2.SlR L2.UnR L2.Jbg
def top (i:Nat):Stmt:=PySem.Challenge.pw_crosshall_k37_parts_refused.main.body.getD i (.Pass ⟨0,0,0,0⟩)
abbrev J5C:Stmt:=top 8
abbrev J01:Stmt:=top 11
abbrev J0D:Stmt:=top 13
abbrev J1y:Stmt:=top 16
abbrev J1a:Stmt:=top 17
abbrev J1i:Stmt:=top 18
abbrev J1e:Stmt:=top 19
abbrev J2n:Stmt:=top 20
abbrev J1Q:Stmt:=top 21
abbrev J19:Stmt:=top 22
abbrev J28:Stmt:=top 23
abbrev J0N:Stmt:=top 24
abbrev J1u:Stmt:=top 25
abbrev J2I:Stmt:=top 26
abbrev J1f:Stmt:=top 27
abbrev J2X:Stmt:=top 28
abbrev J4c:Stmt:=top 30
abbrev J1h:Stmt:=top 31
abbrev J2J:Stmt:=top 32
abbrev J1t:Stmt:=top 33
abbrev J1g:Stmt:=top 34
abbrev J1R:Stmt:=top 35
abbrev J4b:Stmt:=top 36
abbrev s_law:Stmt:=top 37
abbrev J0n:Stmt:=J6H (top 10) 0
abbrev J1z:Stmt:=J6H (top 10) 1
abbrev J1j:Stmt:=J6H (top 10) 2
abbrev J1S:Stmt:=J6H (top 10) 3
abbrev J11:Stmt:=J6H (top 10) 4
theorem J2W:FnScope ["many","arcs","flow","told","arc","number"] ["many","arcs","flow"] (Jg J5C):=⟨rfl,rfl,rfl,by decide +kernel,rfl,by decide +kernel,by decide +kernel⟩
theorem J03:FnScope ["many","arcs","leasts","over","drawn","given","due","stream"] ["many","arcs"] (Jg J01):=⟨rfl,rfl,rfl,by decide +kernel,rfl,by decide +kernel,by decide +kernel⟩
theorem J27:FnScope ["grid","width"] ["grid"] (Jg J0D):=⟨rfl,rfl,rfl,by decide +kernel,rfl,by decide +kernel,by decide +kernel⟩
theorem J49:FnScope ["group","many"] ["group","many"] (Jg J1y):=⟨rfl,rfl,rfl,by decide +kernel,rfl,by decide +kernel,by decide +kernel⟩
theorem J2z:FnScope ["one","other","shared"] ["one","other"] (Jg J1a):=⟨rfl,rfl,rfl,by decide +kernel,rfl,by decide +kernel,by decide +kernel⟩
theorem J0F:FnScope ["groups","many","at","group","other"] ["groups","many"] (Jg J1i):=⟨rfl,rfl,rfl,by decide +kernel,rfl,by decide +kernel,by decide +kernel⟩
theorem J3K:FnScope ["groups"] ["groups"] (Jg J1e):=⟨rfl,rfl,rfl,by decide +kernel,rfl,by decide +kernel,by decide +kernel⟩
theorem J48:FnScope ["groups","upto","place","held"] ["groups","upto","place"] (Jg J2n):=⟨rfl,rfl,rfl,by decide +kernel,rfl,by decide +kernel,by decide +kernel⟩
theorem J0p:FnScope ["side","groups","sums","told","at","number","group"] ["side","groups","sums"] (Jg J1Q):=⟨rfl,rfl,rfl,by decide +kernel,rfl,by decide +kernel,by decide +kernel⟩
theorem J4T:FnScope ["side","groups","sums"] ["side","groups","sums"] (Jg J19):=⟨rfl,rfl,rfl,by decide +kernel,rfl,by decide +kernel,by decide +kernel⟩
theorem J0s:FnScope ["grid","told","row","numbers","column","number"] ["grid"] (Jg J28):=⟨rfl,rfl,rfl,by decide +kernel,rfl,by decide +kernel,by decide +kernel⟩
theorem J0g:FnScope ["grid","row_groups","told","column","number"] ["grid","row_groups"] (Jg J0N):=⟨rfl,rfl,rfl,by decide +kernel,rfl,by decide +kernel,by decide +kernel⟩
theorem J0M:FnScope ["grid","row_groups","column_groups","row_sums","told"] ["grid","row_groups","column_groups"] (Jg J1u):=⟨rfl,rfl,rfl,by decide +kernel,rfl,by decide +kernel,by decide +kernel⟩
theorem J15:FnScope ["links","told","start","goal","number"] ["links"] (Jg J2I):=⟨rfl,rfl,rfl,by decide +kernel,rfl,by decide +kernel,by decide +kernel⟩
theorem J07:FnScope ["links","many","whole","nodes","arcs","start","goal","number"] ["links","many","whole"] (Jg J1f):=⟨rfl,rfl,rfl,by decide +kernel,rfl,by decide +kernel,by decide +kernel⟩
theorem J26:FnScope ["grid","many","row_groups","column_groups","whole","width","links","flow"] ["grid","many","row_groups","column_groups"] (Jg J2X):=⟨rfl,rfl,rfl,by decide +kernel,rfl,by decide +kernel,by decide +kernel⟩
theorem J3e:FnScope ["_law_script","_law_k","_law_many","_law_number"] ["_law_script","_law_k","_law_many"] (Jg J4c):=⟨rfl,rfl,rfl,by decide +kernel,rfl,by decide +kernel,by decide +kernel⟩
theorem J2m:FnScope ["_law_script","_law_rows","_law_columns","_law_grid_here","_law_row"] ["_law_script","_law_rows","_law_columns"] (Jg J1h):=⟨rfl,rfl,rfl,by decide +kernel,rfl,by decide +kernel,by decide +kernel⟩
theorem J1s:FnScope ["_law_script","_law_at","_law_size","_law_groups_here","_law_some","_law_k"] ["_law_script","_law_at","_law_size"] (Jg J2J):=⟨rfl,rfl,rfl,by decide +kernel,rfl,by decide +kernel,by decide +kernel⟩
theorem J0f:FnScope ["_law_script","_law_groups_here","_law_size","_law_shared","_law_one","_law_left","_law_other","_law_pair"] ["_law_script","_law_groups_here","_law_size"] (Jg J1t):=⟨rfl,rfl,rfl,by decide +kernel,rfl,by decide +kernel,by decide +kernel⟩
theorem J16:FnScope ["_law_script","_law_size","_law_group","_law_at"] ["_law_script","_law_size"] (Jg J1g):=⟨rfl,rfl,rfl,by decide +kernel,rfl,by decide +kernel,by decide +kernel⟩
theorem JU:FnScope ["_law_script","_law_groups_here","_law_size","_law_way","_law_at","_law_place","_law_bad"] ["_law_script","_law_groups_here","_law_size"] (Jg J1R):=⟨rfl,rfl,rfl,by decide +kernel,rfl,by decide +kernel,by decide +kernel⟩
theorem J0j:FnScope ["_law_grid_here","_law_many","_law_by_rows","_law_by_columns","_law_word","_law_kinds","e"] ["_law_grid_here","_law_many","_law_by_rows","_law_by_columns"] (Jg J4b):=⟨rfl,rfl,rfl,by decide +kernel,rfl,by decide +kernel,by decide +kernel⟩
theorem J0q:FnScope ["_law_script","_law_rows","_law_columns","_law_grid_here","_law_good","_law_by_rows","_law_by_columns","_law_many","_law_kept","_law_side","_law_spoilt_here","_law_due","_law_handed"] ["_law_script"] (Jg s_law):=⟨rfl,rfl,rfl,by decide +kernel,rfl,by decide +kernel,by decide +kernel⟩
theorem J0J:FnScope ["self","many","arcs","flow","place","arc"] ["self","many","arcs","flow"] (Jg J0n):=⟨rfl,rfl,rfl,by decide +kernel,rfl,by decide +kernel,by decide +kernel⟩
theorem J4a:FnScope ["self","place","sign"] ["self","place","sign"] (Jg J1z):=⟨rfl,rfl,rfl,by decide +kernel,rfl,by decide +kernel,by decide +kernel⟩
theorem JH:FnScope ["self","start","came","rim","further","node","place","to","sign"] ["self","start"] (Jg J1j):=⟨rfl,rfl,rfl,by decide +kernel,rfl,by decide +kernel,by decide +kernel⟩
theorem J0C:FnScope ["self","start","goal","came","taken","node"] ["self","start","goal"] (Jg J1S):=⟨rfl,rfl,rfl,by decide +kernel,rfl,by decide +kernel,by decide +kernel⟩
theorem J04:FnScope ["self","start","goal","limit","pushed","way","through","place","sign"] ["self","start","goal","limit"] (Jg J11):=⟨rfl,rfl,rfl,by decide +kernel,rfl,by decide +kernel,by decide +kernel⟩
structure Txt (K:Frag)(mg:Str->Option Value)(f:Nat->Addr)(fd:Nat->FuncData):Prop where
 wG:DefOk K mg "gains" J5C ["many","arcs","flow"] (f 8) (fd 8)
 wH:DefOk K mg "flow_or_cut" J01 ["many","arcs"] (f 11) (fd 11)
 wu:DefOk K mg "column_sums" J0D ["grid"] (f 13) (fd 13)
 wI:DefOk K mg "asked_group" J1y ["group","many"] (f 16) (fd 16)
 wJ:DefOk K mg "asked_pair" J1a ["one","other"] (f 17) (fd 17)
 wv:DefOk K mg "asked_groups" J1i ["groups","many"] (f 18) (fd 18)
 ww:DefOk K mg "widest_first" J1e ["groups"] (f 19) (fd 19)
 wx:DefOk K mg "closest" J2n ["groups","upto","place"] (f 20) (fd 20)
 wz:DefOk K mg "links_up" J1Q ["side","groups","sums"] (f 21) (fd 21)
 wA:DefOk K mg "links_down" J19 ["side","groups","sums"] (f 22) (fd 22)
 wK:DefOk K mg "box_links" J28 ["grid"] (f 23) (fd 23)
 wL:DefOk K mg "column_links" J0N ["grid","row_groups"] (f 24) (fd 24)
 wM:DefOk K mg "all_links" J1u ["grid","row_groups","column_groups"] (f 25) (fd 25)
 wN:DefOk K mg "nodes_of" J2I ["links"] (f 26) (fd 26)
 wO:DefOk K mg "rounded_flow" J1f ["links","many","whole"] (f 27) (fd 27)
 wP:DefOk K mg "parts" J2X ["grid","many","row_groups","column_groups"] (f 28) (fd 28)
 wb:DefOk K mg "_law_draw" J4c ["_law_script","_law_k","_law_many"] (f 30) (fd 30)
 wQ:DefOk K mg "_law_grid" J1h ["_law_script","_law_rows","_law_columns"] (f 31) (fd 31)
 wB:DefOk K mg "_law_groups" J2J ["_law_script","_law_at","_law_size"] (f 32) (fd 32)
 wR:DefOk K mg "_law_cutting" J1t ["_law_script","_law_groups_here","_law_size"] (f 33) (fd 33)
 wT:DefOk K mg "_law_not_rising" J1g ["_law_script","_law_size"] (f 34) (fd 34)
 wC:DefOk K mg "_law_spoilt" J1R ["_law_script","_law_groups_here","_law_size"] (f 35) (fd 35)
 wq:DefOk K mg "_law_told" J4b ["_law_grid_here","_law_many","_law_by_rows","_law_by_columns"] (f 36) (fd 36)
 wU:DefOk K mg "law" s_law ["_law_script"] (f 37) (fd 37)
 wV:MthOk K "__init__" "Stream.__init__" J0n ["self","many","arcs","flow"] (f 11000) (fd 11000)
 wD:MthOk K "room" "Stream.room" J1z ["self","place","sign"] (f 11001) (fd 11001)
 wE:MthOk K "reach" "Stream.reach" J1j ["self","start"] (f 11002) (fd 11002)
 wW:MthOk K "way" "Stream.way" J1S ["self","start","goal"] (f 11003) (fd 11003)
 wX:MthOk K "push" "Stream.push" J11 ["self","start","goal","limit"] (f 11004) (fd 11004)
 wY:ExcM mg "CrossError" (f 1)
 wZ:ExcM mg "NoHead" (f 2)
 w6:ExcM mg "NoNet" (f 3)
 w8:ExcM mg "NoVeil" (f 6)
 wl:ExcOk K mg "NoWhole" (f 4) none
 wf:ExcOk K mg "NoGroups" (f 5) none
 we:OwnOk K mg "Stream" (f 10) (f 11000)
 w9:Meth K (f 10) "room" (f 11001)
 yb:Meth K (f 10) "reach" (f 11002)
 ye:Meth K (f 10) "way" (f 11003)
 yf:Meth K (f 10) "push" (f 11004)
 wF:findIn K (.ref (f 10)) "arcs"=some none
 wp:findIn K (.ref (f 10)) "borne"=some none
 wt:findIn K (.ref (f 10)) "steps"=some none
 yg:PySem.W.kitOne K (.ref (f 5)) (.ref (f 1))=some true
 yh:PySem.W.kitOne K (.ref (f 5)) (.ref (f 2))=some false
 yi:PySem.W.kitOne K (.ref (f 5)) (.ref (f 3))=some false
 yB:J40 K (f 5) (f 4)=false
 yj:PySem.W.kitOne K (.ref (f 5)) (.ref (f 4))=some false
 yk:J40 K (f 5) (f 5)=true
 yC:PySem.W.kitOne K (.ref (f 5)) (.ref (f 5))=some true
 yl:PySem.W.kitOne K (.ref (f 5)) (.ref (f 6))=some false
 ym:PySem.W.kitOne K (.ref (f 5)) (.type "ValueError")=some true
 yo:PySem.W.kitOne K (.ref (f 4)) (.ref (f 1))=some true
 yq:PySem.W.kitOne K (.ref (f 4)) (.ref (f 2))=some false
 yr:PySem.W.kitOne K (.ref (f 4)) (.ref (f 3))=some false
 yt:J40 K (f 4) (f 4)=true
 yD:PySem.W.kitOne K (.ref (f 4)) (.ref (f 4))=some true
 yu:J40 K (f 4) (f 5)=false
 yE:PySem.W.kitOne K (.ref (f 4)) (.ref (f 5))=some false
 yv:PySem.W.kitOne K (.ref (f 4)) (.ref (f 6))=some false
 yw:PySem.W.kitOne K (.ref (f 4)) (.type "ValueError")=some true
 yc:mg "ValueError"=none
 wm:mg "enumerate"=none
 yx:mg "int"=none
 wn:mg "isinstance"=none
 wa:mg "len"=none
 wg:mg "list"=none
 yd:mg "min"=none
 wj:mg "range"=none
 yy:mg "set"=none
 wo:mg "sorted"=none
 wk:mg "sum"=none
 yz:mg "zip"=none
 yA:∃ tk,mg "MOST_GROUPS"=some (.int (8) tk)
theorem Jb2 {α:Type}{C:List α->Prop}(h:C [])(us:List α)(e:us.length=0):C us:=(length_eq_zero_iff.mp e) ▸ h
theorem J4W {α:Type}{n:Nat}{C:List α->Prop}(h:∀ (a:α) (us:List α),us.length=n->C (a::us))(us:List α)(e:us.length=n+1):C us:=by
 cases us with
 | nil=>cases e
 | cons a r=>exact h a r (Nat.succ.inj e)
theorem J6C {fd:FuncData}{ps:List Str}(h:∀ a:Value,bindArgs fd ⟨[a],[]⟩=pure (ps.zip [a]))(us:List Value)(e:us.length=1):bindArgs fd ⟨us,[]⟩=pure (ps.zip us):=by
 revert us
 exact J4W fun a=>Jb2 (h a)
theorem J4t {fd:FuncData}{ps:List Str}(h:∀ a b:Value,bindArgs fd ⟨[a,b],[]⟩=pure (ps.zip [a,b]))(us:List Value)(e:us.length=2):bindArgs fd ⟨us,[]⟩=pure (ps.zip us):=by
 revert us
 exact J4W fun a=>J4W fun b=>Jb2 (h a b)
theorem J1J {fd:FuncData}{ps:List Str}(h:∀ a b c:Value,bindArgs fd ⟨[a,b,c],[]⟩=pure (ps.zip [a,b,c]))(us:List Value)(e:us.length=3):bindArgs fd ⟨us,[]⟩=pure (ps.zip us):=by
 revert us
 exact J4W fun a=>J4W fun b=>J4W fun c=>Jb2 (h a b c)
theorem J85 {fd:FuncData}{ps:List Str}(h:∀ a b c d:Value,bindArgs fd ⟨[a,b,c,d],[]⟩=pure (ps.zip [a,b,c,d]))(us:List Value)(e:us.length=4):bindArgs fd ⟨us,[]⟩=pure (ps.zip us):=by
 revert us
 exact J4W fun a=>J4W fun b=>J4W fun c=>J4W fun d=>Jb2 (h a b c d)
theorem dkm {K:Frag}{h:Heap}{mg:Str->Option Value}{x:Str}{st:Stmt}{ps:List Str}{f:Addr}{fd:FuncData}(X:K.In h)(G:h.Ns mainGlobals mg)(F:Fun K x x st f fd)(hb:∀ kV doc pm an cdv ct (us:List Value),us.length=ps.length->bindArgs (PySem.W.fnOf x x (J13 st) (J0H st) (Jg st) .none kV doc pm an cdv ct) ⟨us,[]⟩=pure (ps.zip us))(a:nsIn K mainGlobals x=some (some (.ref f))):DefOk K mg x st ps f fd:=⟨F,F.binds hb,PySem.W.mg_of X G a⟩
theorem txt_mk {K:Frag}{h:Heap}{mg:Str->Option Value}(X:K.In h)(G:h.Ns mainGlobals mg)
 {f8 f11 f13 f16 f17 f18 f19 f20 f21 f22 f23 f24 f25 f26 f27 f28 f30 f31 f32 f33 f34 f35 f36 f37 f11000 f11001 f11002 f11003 f11004:Addr} {d8 d11 d13 d16 d17 d18 d19 d20 d21 d22 d23 d24 d25 d26 d27 d28 d30 d31 d32 d33 d34 d35 d36 d37 d11000 d11001 d11002 d11003 d11004:FuncData}
 {f1:Addr}
 {f2:Addr}
 {f3:Addr}
 {f4:Addr}
 {f5:Addr}
 {f6:Addr}
 {f10:Addr}
 (a1:nsIn K mainGlobals "CrossError"=some (some (.ref f1)))
 (a2:nsIn K mainGlobals "NoHead"=some (some (.ref f2)))
 (a3:nsIn K mainGlobals "NoNet"=some (some (.ref f3)))
 (a4:nsIn K mainGlobals "NoWhole"=some (some (.ref f4)))
 (a5:nsIn K mainGlobals "NoGroups"=some (some (.ref f5)))
 (a6:nsIn K mainGlobals "NoVeil"=some (some (.ref f6)))
 (a10:nsIn K mainGlobals "Stream"=some (some (.ref f10)))
 (a8:nsIn K mainGlobals "gains"=some (some (.ref f8)))
 (l8:Fun K "gains" "gains" J5C f8 d8)
 (a11:nsIn K mainGlobals "flow_or_cut"=some (some (.ref f11)))
 (l11:Fun K "flow_or_cut" "flow_or_cut" J01 f11 d11)
 (a13:nsIn K mainGlobals "column_sums"=some (some (.ref f13)))
 (l13:Fun K "column_sums" "column_sums" J0D f13 d13)
 (a16:nsIn K mainGlobals "asked_group"=some (some (.ref f16)))
 (l16:Fun K "asked_group" "asked_group" J1y f16 d16)
 (a17:nsIn K mainGlobals "asked_pair"=some (some (.ref f17)))
 (l17:Fun K "asked_pair" "asked_pair" J1a f17 d17)
 (a18:nsIn K mainGlobals "asked_groups"=some (some (.ref f18)))
 (l18:Fun K "asked_groups" "asked_groups" J1i f18 d18)
 (a19:nsIn K mainGlobals "widest_first"=some (some (.ref f19)))
 (l19:Fun K "widest_first" "widest_first" J1e f19 d19)
 (a20:nsIn K mainGlobals "closest"=some (some (.ref f20)))
 (l20:Fun K "closest" "closest" J2n f20 d20)
 (a21:nsIn K mainGlobals "links_up"=some (some (.ref f21)))
 (l21:Fun K "links_up" "links_up" J1Q f21 d21)
 (a22:nsIn K mainGlobals "links_down"=some (some (.ref f22)))
 (l22:Fun K "links_down" "links_down" J19 f22 d22)
 (a23:nsIn K mainGlobals "box_links"=some (some (.ref f23)))
 (l23:Fun K "box_links" "box_links" J28 f23 d23)
 (a24:nsIn K mainGlobals "column_links"=some (some (.ref f24)))
 (l24:Fun K "column_links" "column_links" J0N f24 d24)
 (a25:nsIn K mainGlobals "all_links"=some (some (.ref f25)))
 (l25:Fun K "all_links" "all_links" J1u f25 d25)
 (a26:nsIn K mainGlobals "nodes_of"=some (some (.ref f26)))
 (l26:Fun K "nodes_of" "nodes_of" J2I f26 d26)
 (a27:nsIn K mainGlobals "rounded_flow"=some (some (.ref f27)))
 (l27:Fun K "rounded_flow" "rounded_flow" J1f f27 d27)
 (a28:nsIn K mainGlobals "parts"=some (some (.ref f28)))
 (l28:Fun K "parts" "parts" J2X f28 d28)
 (a30:nsIn K mainGlobals "_law_draw"=some (some (.ref f30)))
 (l30:Fun K "_law_draw" "_law_draw" J4c f30 d30)
 (a31:nsIn K mainGlobals "_law_grid"=some (some (.ref f31)))
 (l31:Fun K "_law_grid" "_law_grid" J1h f31 d31)
 (a32:nsIn K mainGlobals "_law_groups"=some (some (.ref f32)))
 (l32:Fun K "_law_groups" "_law_groups" J2J f32 d32)
 (a33:nsIn K mainGlobals "_law_cutting"=some (some (.ref f33)))
 (l33:Fun K "_law_cutting" "_law_cutting" J1t f33 d33)
 (a34:nsIn K mainGlobals "_law_not_rising"=some (some (.ref f34)))
 (l34:Fun K "_law_not_rising" "_law_not_rising" J1g f34 d34)
 (a35:nsIn K mainGlobals "_law_spoilt"=some (some (.ref f35)))
 (l35:Fun K "_law_spoilt" "_law_spoilt" J1R f35 d35)
 (a36:nsIn K mainGlobals "_law_told"=some (some (.ref f36)))
 (l36:Fun K "_law_told" "_law_told" J4b f36 d36)
 (a37:nsIn K mainGlobals "law"=some (some (.ref f37)))
 (l37:Fun K "law" "law" s_law f37 d37)
 (a11000:findIn K (.ref f10) "__init__"=some (some (.ref f11000)))
 (l11000:Fun K "__init__" "Stream.__init__" J0n f11000 d11000)
 (b11000:PySem.W.isFn K (.ref f11000)=true)
 (a11001:findIn K (.ref f10) "room"=some (some (.ref f11001)))
 (l11001:Fun K "room" "Stream.room" J1z f11001 d11001)
 (b11001:PySem.W.isFn K (.ref f11001)=true)
 (a11002:findIn K (.ref f10) "reach"=some (some (.ref f11002)))
 (l11002:Fun K "reach" "Stream.reach" J1j f11002 d11002)
 (b11002:PySem.W.isFn K (.ref f11002)=true)
 (a11003:findIn K (.ref f10) "way"=some (some (.ref f11003)))
 (l11003:Fun K "way" "Stream.way" J1S f11003 d11003)
 (b11003:PySem.W.isFn K (.ref f11003)=true)
 (a11004:findIn K (.ref f10) "push"=some (some (.ref f11004)))
 (l11004:Fun K "push" "Stream.push" J11 f11004 d11004)
 (b11004:PySem.W.isFn K (.ref f11004)=true)
 (x_NoWhole_e:exB K f4 none=true)
 (x_NoWhole_kp:PySem.W.keepIn K (.ref f4)=true)
 (x_NoWhole_ga:findIn K (.ref f4) "__getattribute__"=some (some (.builtin "BaseException.__getattribute__")))
 (x_NoWhole_gh:findIn K (.ref f4) "__getattr__"=some none)
 (x_NoWhole_ba:PySem.W.mroIn K f4 (.type "BaseException")=some true)
 (x_NoWhole_ob:PySem.W.mroIn K f4 (.type "object")=some true)
 (x_NoWhole_hd:PySem.W.hasDictIn K f4=true)
 (x_NoWhole_cl:findIn K (.ref f4) "__class__"=some (some (.builtin "object.__class__")))
 (x_NoWhole_cg:PySem.W.specialIn K (.builtin "object.__class__") "__get__"=some (some (.builtin "getset_descriptor.__get__")))
 (x_NoWhole_ct:PySem.W.takesIn K (.builtin "object.__class__")=some true)
 (x_NoWhole_sa:findIn K (.ref f4) "__setattr__"=some (some (.builtin "object.__setattr__")))
 (x_NoGroups_e:exB K f5 none=true)
 (x_NoGroups_kp:PySem.W.keepIn K (.ref f5)=true)
 (x_NoGroups_ga:findIn K (.ref f5) "__getattribute__"=some (some (.builtin "BaseException.__getattribute__")))
 (x_NoGroups_gh:findIn K (.ref f5) "__getattr__"=some none)
 (x_NoGroups_ba:PySem.W.mroIn K f5 (.type "BaseException")=some true)
 (x_NoGroups_ob:PySem.W.mroIn K f5 (.type "object")=some true)
 (x_NoGroups_hd:PySem.W.hasDictIn K f5=true)
 (x_NoGroups_cl:findIn K (.ref f5) "__class__"=some (some (.builtin "object.__class__")))
 (x_NoGroups_cg:PySem.W.specialIn K (.builtin "object.__class__") "__get__"=some (some (.builtin "getset_descriptor.__get__")))
 (x_NoGroups_ct:PySem.W.takesIn K (.builtin "object.__class__")=some true)
 (x_NoGroups_sa:findIn K (.ref f5) "__setattr__"=some (some (.builtin "object.__setattr__")))
 (o_Stream_pg:PySem.W.plainGet K f10 Str.empty=true)
 (o_Stream_hd:PySem.W.hasDictIn K f10=true)
 (o_Stream_po:PySem.W.plainOver K f10=true)
 (o_Stream_sa:findIn K (.ref f10) "__setattr__"=some (some (.builtin "object.__setattr__")))
 (o_Stream_ma:PySem.W.makesIn K f10=true)
 (o_Stream_kp:PySem.W.keepIn K (.ref f10)=true)
 (v_na_Stream_arcs:findIn K (.ref f10) "arcs"=some none)
 (v_na_Stream_borne:findIn K (.ref f10) "borne"=some none)
 (v_na_Stream_steps:findIn K (.ref f10) "steps"=some none)
 (v_ki_NoGroups_CrossError:PySem.W.kitOne K (.ref f5) (.ref f1)=some true)
 (v_ki_NoGroups_NoHead:PySem.W.kitOne K (.ref f5) (.ref f2)=some false)
 (v_ki_NoGroups_NoNet:PySem.W.kitOne K (.ref f5) (.ref f3)=some false)
 (v_su_NoGroups_NoWhole:J40 K f5 f4=false)
 (v_ki_NoGroups_NoWhole:PySem.W.kitOne K (.ref f5) (.ref f4)=some false)
 (v_su_NoGroups_NoGroups:J40 K f5 f5=true)
 (v_ki_NoGroups_NoGroups:PySem.W.kitOne K (.ref f5) (.ref f5)=some true)
 (v_ki_NoGroups_NoVeil:PySem.W.kitOne K (.ref f5) (.ref f6)=some false)
 (v_kv_NoGroups:PySem.W.kitOne K (.ref f5) (.type "ValueError")=some true)
 (v_ki_NoWhole_CrossError:PySem.W.kitOne K (.ref f4) (.ref f1)=some true)
 (v_ki_NoWhole_NoHead:PySem.W.kitOne K (.ref f4) (.ref f2)=some false)
 (v_ki_NoWhole_NoNet:PySem.W.kitOne K (.ref f4) (.ref f3)=some false)
 (v_su_NoWhole_NoWhole:J40 K f4 f4=true)
 (v_ki_NoWhole_NoWhole:PySem.W.kitOne K (.ref f4) (.ref f4)=some true)
 (v_su_NoWhole_NoGroups:J40 K f4 f5=false)
 (v_ki_NoWhole_NoGroups:PySem.W.kitOne K (.ref f4) (.ref f5)=some false)
 (v_ki_NoWhole_NoVeil:PySem.W.kitOne K (.ref f4) (.ref f6)=some false)
 (v_kv_NoWhole:PySem.W.kitOne K (.ref f4) (.type "ValueError")=some true)
 (z_ValueError:nsIn K mainGlobals "ValueError"=some none)
 (z_enumerate:nsIn K mainGlobals "enumerate"=some none)
 (z_int:nsIn K mainGlobals "int"=some none)
 (z_isinstance:nsIn K mainGlobals "isinstance"=some none)
 (z_len:nsIn K mainGlobals "len"=some none)
 (z_list:nsIn K mainGlobals "list"=some none)
 (z_min:nsIn K mainGlobals "min"=some none)
 (z_range:nsIn K mainGlobals "range"=some none)
 (z_set:nsIn K mainGlobals "set"=some none)
 (z_sorted:nsIn K mainGlobals "sorted"=some none)
 (z_sum:nsIn K mainGlobals "sum"=some none)
 (z_zip:nsIn K mainGlobals "zip"=some none)
 {tk_MOST_GROUPS:Tok} (y_MOST_GROUPS:nsIn K mainGlobals "MOST_GROUPS"=some (some (.int (8) tk_MOST_GROUPS)))
 : ∃ f fd,Txt K mg f fd/\f 37=f37/\∃ kV dc pm an cd ct,fd 37=PySem.W.fnOf "law" "law" (J13 s_law) (J0H s_law) (Jg s_law) .none kV dc pm an cd ct:=by
 obtain ⟨kV,dc,pm,an,cd,ct,e⟩:∃ kV dc pm an cd ct,d37=PySem.W.fnOf "law" "law" (J13 s_law) (J0H s_law) (Jg s_law) .none kV dc pm an cd ct:=by
  obtain ⟨⟨_,_,kV,dc,pm,an,cd,ct,_,e,_⟩,_⟩:=l37;exact ⟨kV,dc,pm,an,cd,ct,e⟩
 refine ⟨fun i=>match i with | 8=>f8 | 11=>f11 | 13=>f13 | 16=>f16 | 17=>f17 | 18=>f18 | 19=>f19 | 20=>f20 | 21=>f21 | 22=>f22 | 23=>f23 | 24=>f24 | 25=>f25 | 26=>f26 | 27=>f27 | 28=>f28 | 30=>f30 | 31=>f31 | 32=>f32 | 33=>f33 | 34=>f34 | 35=>f35 | 36=>f36 | 37=>f37 | 11000=>f11000 | 11001=>f11001 | 11002=>f11002 | 11003=>f11003 | 11004=>f11004 | 1=>f1 | 2=>f2 | 3=>f3 | 4=>f4 | 5=>f5 | 6=>f6 | 10=>f10 | _=>0,fun i=>match i with | 8=>d8 | 11=>d11 | 13=>d13 | 16=>d16 | 17=>d17 | 18=>d18 | 19=>d19 | 20=>d20 | 21=>d21 | 22=>d22 | 23=>d23 | 24=>d24 | 25=>d25 | 26=>d26 | 27=>d27 | 28=>d28 | 30=>d30 | 31=>d31 | 32=>d32 | 33=>d33 | 34=>d34 | 35=>d35 | 36=>d36 | 37=>d37 | 11000=>d11000 | 11001=>d11001 | 11002=>d11002 | 11003=>d11003 | 11004=>d11004 | _=>d37,⟨?_,?_,?_,?_,?_,?_,?_,?_,?_,?_,?_,?_,?_,?_,?_,?_,?_,?_,?_,?_,?_,?_,?_,?_,?_,?_,?_,?_,?_,?_,?_,?_,?_,?_,?_,?_,?_,?_,?_,?_,?_,?_,?_,?_,?_,?_,?_,?_,?_,?_,?_,?_,?_,?_,?_,?_,?_,?_,?_,?_,?_,?_,?_,?_,?_,?_,?_,?_,?_,?_,?_,?_,?_,?_⟩,rfl,kV,dc,pm,an,cd,ct,e⟩
 ·exact dkm X G l8 (fun _ _ _ _ _ _=>J1J fun _ _ _=>rfl) a8
 ·exact dkm X G l11 (fun _ _ _ _ _ _=>J4t fun _ _=>rfl) a11
 ·exact dkm X G l13 (fun _ _ _ _ _ _=>J6C fun _=>rfl) a13
 ·exact dkm X G l16 (fun _ _ _ _ _ _=>J4t fun _ _=>rfl) a16
 ·exact dkm X G l17 (fun _ _ _ _ _ _=>J4t fun _ _=>rfl) a17
 ·exact dkm X G l18 (fun _ _ _ _ _ _=>J4t fun _ _=>rfl) a18
 ·exact dkm X G l19 (fun _ _ _ _ _ _=>J6C fun _=>rfl) a19
 ·exact dkm X G l20 (fun _ _ _ _ _ _=>J1J fun _ _ _=>rfl) a20
 ·exact dkm X G l21 (fun _ _ _ _ _ _=>J1J fun _ _ _=>rfl) a21
 ·exact dkm X G l22 (fun _ _ _ _ _ _=>J1J fun _ _ _=>rfl) a22
 ·exact dkm X G l23 (fun _ _ _ _ _ _=>J6C fun _=>rfl) a23
 ·exact dkm X G l24 (fun _ _ _ _ _ _=>J4t fun _ _=>rfl) a24
 ·exact dkm X G l25 (fun _ _ _ _ _ _=>J1J fun _ _ _=>rfl) a25
 ·exact dkm X G l26 (fun _ _ _ _ _ _=>J6C fun _=>rfl) a26
 ·exact dkm X G l27 (fun _ _ _ _ _ _=>J1J fun _ _ _=>rfl) a27
 ·exact dkm X G l28 (fun _ _ _ _ _ _=>J85 fun _ _ _ _=>rfl) a28
 ·exact dkm X G l30 (fun _ _ _ _ _ _=>J1J fun _ _ _=>rfl) a30
 ·exact dkm X G l31 (fun _ _ _ _ _ _=>J1J fun _ _ _=>rfl) a31
 ·exact dkm X G l32 (fun _ _ _ _ _ _=>J1J fun _ _ _=>rfl) a32
 ·exact dkm X G l33 (fun _ _ _ _ _ _=>J1J fun _ _ _=>rfl) a33
 ·exact dkm X G l34 (fun _ _ _ _ _ _=>J4t fun _ _=>rfl) a34
 ·exact dkm X G l35 (fun _ _ _ _ _ _=>J1J fun _ _ _=>rfl) a35
 ·exact dkm X G l36 (fun _ _ _ _ _ _=>J85 fun _ _ _ _=>rfl) a36
 ·exact dkm X G l37 (fun _ _ _ _ _ _=>J6C fun _=>rfl) a37
 ·exact ⟨l11000,l11000.binds (fun _ _ _ _ _ _=>J85 fun _ _ _ _=>rfl),b11000⟩
 ·exact ⟨l11001,l11001.binds (fun _ _ _ _ _ _=>J1J fun _ _ _=>rfl),b11001⟩
 ·exact ⟨l11002,l11002.binds (fun _ _ _ _ _ _=>J4t fun _ _=>rfl),b11002⟩
 ·exact ⟨l11003,l11003.binds (fun _ _ _ _ _ _=>J1J fun _ _ _=>rfl),b11003⟩
 ·exact ⟨l11004,l11004.binds (fun _ _ _ _ _ _=>J85 fun _ _ _ _=>rfl),b11004⟩
 ·exact ⟨PySem.W.mg_of X G a1⟩
 ·exact ⟨PySem.W.mg_of X G a2⟩
 ·exact ⟨PySem.W.mg_of X G a3⟩
 ·exact ⟨PySem.W.mg_of X G a6⟩
 ·exact (Jae X G a4 x_NoWhole_e x_NoWhole_kp x_NoWhole_ga x_NoWhole_gh x_NoWhole_ba x_NoWhole_ob x_NoWhole_hd x_NoWhole_cl x_NoWhole_cg x_NoWhole_ct x_NoWhole_sa)
 ·exact (Jae X G a5 x_NoGroups_e x_NoGroups_kp x_NoGroups_ga x_NoGroups_gh x_NoGroups_ba x_NoGroups_ob x_NoGroups_hd x_NoGroups_cl x_NoGroups_cg x_NoGroups_ct x_NoGroups_sa)
 ·exact (JbR X G a10 o_Stream_pg o_Stream_hd o_Stream_po o_Stream_sa o_Stream_ma a11000 b11000 o_Stream_kp)
 ·exact ⟨a11001,b11001,l11001.kp⟩
 ·exact ⟨a11002,b11002,l11002.kp⟩
 ·exact ⟨a11003,b11003,l11003.kp⟩
 ·exact ⟨a11004,b11004,l11004.kp⟩
 ·exact v_na_Stream_arcs
 ·exact v_na_Stream_borne
 ·exact v_na_Stream_steps
 ·exact v_ki_NoGroups_CrossError
 ·exact v_ki_NoGroups_NoHead
 ·exact v_ki_NoGroups_NoNet
 ·exact v_su_NoGroups_NoWhole
 ·exact v_ki_NoGroups_NoWhole
 ·exact v_su_NoGroups_NoGroups
 ·exact v_ki_NoGroups_NoGroups
 ·exact v_ki_NoGroups_NoVeil
 ·exact v_kv_NoGroups
 ·exact v_ki_NoWhole_CrossError
 ·exact v_ki_NoWhole_NoHead
 ·exact v_ki_NoWhole_NoNet
 ·exact v_su_NoWhole_NoWhole
 ·exact v_ki_NoWhole_NoWhole
 ·exact v_su_NoWhole_NoGroups
 ·exact v_ki_NoWhole_NoGroups
 ·exact v_ki_NoWhole_NoVeil
 ·exact v_kv_NoWhole
 ·exact (zy X G z_ValueError)
 ·exact (zy X G z_enumerate)
 ·exact (zy X G z_int)
 ·exact (zy X G z_isinstance)
 ·exact (zy X G z_len)
 ·exact (zy X G z_list)
 ·exact (zy X G z_min)
 ·exact (zy X G z_range)
 ·exact (zy X G z_set)
 ·exact (zy X G z_sorted)
 ·exact (zy X G z_sum)
 ·exact (zy X G z_zip)
 ·exact ⟨_,PySem.W.mg_of X G y_MOST_GROUPS⟩
section
variable {P:Program}{w:World}{K:Frag}{mg:Str->Option Value}{base:Heap}{f:Nat->Addr}{fd:Nat->FuncData}
variable {C R i m n:Nat}{fl r sums x y zs:List Int}{H H' H1 H2:Hp}{D a b p q t:Addr}{neg:Bool}{Q:VK}{out xs ys:List V}{v:V}{g g1 g2 gs ws:List (List Int)}{ps:List Addr}{z:Int}
theorem J7Q (i j:Str):J9q (.str i) (.str j)=true:=rfl
theorem J7R (i j:Int):J9q (.int i) (.int j)=true:=rfl
theorem J7S (i j:Bool):J9q (.bl i) (.bl j)=true:=rfl
open Lean in
local macro_rules | `(tactic|walk_at $s:str)=>do
 let g:=fun (t:String)=>(t.splitOn ",").toArray.mapM fun x=>`(Parser.Tactic.simpLemma|$(mkIdent x.toName):ident)
 let b:="J5E,J9c,J9z,J3Z,J7b,J79,L2.start,JI,J9b,J17,J2x,J14,J2V,JK,J6b,L2.tC,L2.tOp,L2.tUn,J7K,L2.tCB,J53,J9a,J98,L2.tB,Jbx,JbB,L2.tOr,J9j,L2.tIf,Jby,Jbw,L2.tBM,L2.rI,L2.rI0,L2.rU,L2.rEq,L2.rNe,J7R,J7S,J7Q,J6c,J8d,Ja6,JaB,J9y,J3O,J9e,J3Y,L2.tSl,J99,J5u,JaL,J7c,J7a,JaD,L2.tAs,JbX,Jbj,JaM,Jbz,JbF,J9d,J5F,J7W,JbA,J5v,J9f,J9r,J9h,ipI,Jb5,Jca,J9i,J5d,Jbi,J9g,J52,List.map_cons,List.map_nil,List.cons_append,List.nil_append,List.length_cons,List.length_nil,List.getElem?_cons_zero,List.getElem?_cons_succ,Option.some.injEq,exists_eq_left',exists_eq_left,List.set_cons_zero,List.set_cons_succ,List.cons.injEq,and_true,true_and,V.int.injEq,V.str.injEq,V.bl.injEq,V.ref.injEq,V.ty.injEq,exists_and_left,exists_and_right,List.append_nil,reduceCtorEq,false_and,and_false,exists_false,or_false,false_or,decide_true,decide_false,Bool.not_true,Bool.not_false,if_true,if_false,Bool.false_eq_true,ite_true,ite_false,and_assoc,Nat.reduceAdd,Nat.reduceSub,List.replicate_succ,List.replicate_zero,Nat.zero_add,Nat.add_zero,Nat.sub_self,Int.reduceEq,Int.reduceLT,Int.reduceLE,decide_eq_true_eq"
 let n:=fun (x:String)=>mkIdent x.toName
 match s.getString.splitOn " " with
 | ["ok",p,h]=>`(tactic|refine $(mkIdent (`T++p.toName++`F.ok)) $(n h) (fun $(n "vs") $(n "H") $(n "Q") $(n "E") $(n "h")=>?_) (fun $(n "cdv") $(n "A") $(n "outer") $(n "s") $(n "H") $(n "vs") $(n "Q") $(n "E") $(n "hr") $(n "h")=>?_))
 | x=>do
  let d←g "J4D,L2.Cx.inTry,L2.Cx.inHand"
  let m:=match x with
   | ["dl"]=>some ""
   | _=>none
  let some m:=m | Macro.throwUnsupported
  let e←g (b++m)
  let q←`(Parser.Tactic.simpLemma|↓reduceIte)
  let e:=if x==["dl"] then e.push q else e
  `(tactic|((try dsimp only [$d,*]);simp only [$e,*]))
theorem J12 {α:Type}{l:List α}{x d:α}(h:l[i]?=some x):l.getD i d=x:=by rw [yZ,h];rfl
theorem J35 {j:Nat}(h:j<n):ixN n (j:Int)=some j:=by
 unfold ixN;rw [yI (by omega),yI (by omega),Int.toNat_natCast]
theorem J1d {K:Frag}{H:Hp}:∀ zs:List Int,Reps K H (zs.map .int) (zs.map V.int)/\PyData.canLayAll0 (zs.map .int)=true/\PyData.depthAll (zs.map .int)=0
 | []=>by simp [Reps,PyData.canLayAll0,PyData.depthAll]
 | z :: zs=>by
   obtain ⟨h1,h2,h3⟩:=J1d (K:=K) (H:=H) zs;refine ⟨?_,?_,?_⟩
   ·simp only [zd,Reps]
    exact ⟨_,_,rfl,by simp [Rep],h1⟩
   ·simp [PyData.canLayAll0,PyData.canLay0,h2]
   ·simp [PyData.depthAll,PyData.depth,h3]
theorem J4y:∀ a b:List Int,PyData.eqvAll (a.map .int) (b.map .int)=decide (a=b)
 | [],[]=>by simp [PyData.eqvAll]
 | [],_::_=>by simp [PyData.eqvAll]
 | _::_,[]=>by simp [PyData.eqvAll]
 | x::a,y::b=>by
   simp only [zd,PyData.eqvAll,J4y a b];by_cases e:x=y<;>simp [PyData.eqv,e]
theorem J6o (m:Nat):(List.replicate m [V.int 0]).flatten=(List.replicate m (0:Int)).map V.int:=by
 induction m with
 | zero=>rfl
 | succ m ih=>rw [replicate_succ,flatten_cons,ih,replicate_succ];rfl
theorem Jce {K:Frag}(h1:H a=some (.lst (x.map V.int)))(h2:H b=some (.lst (y.map V.int)))(q:Q (.bl (if neg then !decide (x=y) else decide (x=y))) H):J7f K neg (.ref a) (.ref b) H Q:=by
 have sh:∀ zs:List Int,SeqAt.shaped (.list (zs.map .int))=true:=fun zs=>by
  obtain ⟨_,r2,r3⟩:=J1d (K:=K) (H:=H) zs;unfold SeqAt.shaped;simp only [PyData.canLay0,PyData.depth,r2,Bool.true_and];exact yL (by omega)
 refine ⟨.list (x.map .int),.list (y.map .int),?_,?_,sh x,sh y,?_⟩
 ·simp only [Rep];exact ⟨a,_,rfl,.of h1,(J1d x).1⟩
 ·simp only [Rep];exact ⟨b,_,rfl,.of h2,(J1d y).1⟩
 ·have e:PyData.eqv (.list (x.map .int)) (.list (y.map .int))=decide (x=y):=by simp only [PyData.eqv];exact J4y x y
  rw [e];exact q
def J3t (g:List Int)(A:Arc)(x:Int):List Int:=(g.set A.a.toNat (g.getD A.a.toNat 0 - x)).set A.b.toNat ((g.set A.a.toNat (g.getD A.a.toNat 0 - x)).getD A.b.toNat 0+x)
def J1o (m:Nat)(as:List Arc)(fl:List Int):Nat->List Int
 | 0=>List.replicate m 0
 | i+1=>J3t (J1o m as fl i) (as.getD i default) (fl.getD i 0)
theorem J4B (m:Nat)(as:List Arc)(fl:List Int):∀ i,(J1o m as fl i).length=m
 | 0=>zq
 | i+1=>by
   show (J3t (J1o m as fl i) _ _).length=m;unfold J3t;rw [length_set,length_set,J4B m as fl i]
theorem J3y (fl:List Int)(k:Nat)(v:Int):(fl.map V.int).set k (.int v)=(fl.set k v).map V.int:=by rw [map_set]
def J44 (K:Frag)(f:Nat->Addr):Sp:=fun vs H Q _=>∃ (x:Addr) (pl m:Nat) (sg:Int) (as:List Arc) (fl:List Int),vs=[.ref x,.int pl,.int sg]/\StreamAt H (f 10) x m as fl/\pl<as.length/\Q (.int (J0U as fl pl sg)) H
theorem J2a (T:Txt K mg f fd):FnOk P w K mg base CX0 1 (f 11001) (fd 11001) ["self","place","sign"] (J44 K f):=by
 walk_at "ok wD J4a"
 ·obtain ⟨x,pl,m,sg,as,fl,rfl,_⟩:=h
  rfl
 ·obtain ⟨x,pl,m,sg,as,fl,rfl,S,hp,k⟩:=h
  refine ⟨_,(Jd (JY (Jj J0E (pvl 2) Je (Jo _))
   (Jh (Jy (Jm J2K (JD (J0V rfl) (JD (J0c rfl) (J1U (pvl 0) rfl) (pvl 1) (fun _ _=>rfl)) Je (fun _ _=>rfl)) (JD (J0c rfl) (J1U (pvl 0) rfl) (pvl 1) (fun _ _=>rfl)))))
   Js)
   (Jh (Jy (Jm J2K (JD (J0c rfl) (J1U (pvl 0) rfl) (pvl 1) (fun _ _=>rfl)) (JD (J0V rfl) (JD (J0c rfl) (J1U (pvl 0) rfl) (pvl 1) (fun _ _=>rfl)) Je (fun _ _=>rfl)))))),?_⟩
  walk_at "dl";obtain ⟨dx,la,lb,ls,xs,sa,h1,h2,h3,h4,h5,h6,h7⟩:=S.ex;have e1:=yU hp;have hp2:pl<fl.length:=by rw [S.len];exact hp
  have e2:=yU hp2;obtain ⟨v,hv,pa,rfl,hpa⟩:=All2.at' h3 e1;unfold J0U at k;rw [J12 e1,J12 e2] at k;by_cases c:sg=1
  ·rw [yI c] at k ⊢
   exact ⟨_,_,_,h1,T.we.cls,T.wF,_,rfl,la,_,_,_,rfl,rfl,.of h2,Jn hv,pa,_,_,_,rfl,rfl,.of hpa,Jn (j:=3) rfl,_,_,_,h1,T.we.cls,T.wp,_,rfl,lb,_,_,_,rfl,rfl,.of h4,Jn (by rw [ze,e2];rfl),_,rfl,_,rfl,k⟩
  ·rw [yH c] at k ⊢
   exact ⟨_,_,_,h1,T.we.cls,T.wp,_,rfl,lb,_,_,_,rfl,rfl,.of h4,Jn (by rw [ze,e2];rfl),_,_,_,h1,T.we.cls,T.wF,_,rfl,la,_,_,_,rfl,rfl,.of h2,Jn hv,pa,_,_,_,rfl,rfl,.of hpa,Jn (j:=2) rfl,_,rfl,_,rfl,k⟩
def J3J (K:Frag)(f:Nat->Addr):Sp:=fun vs H Q _=>∃ (x:Addr) (st m:Nat) (as:List Arc) (fl:List Int),vs=[.ref x,.int st]/\StreamAt H (f 10) x m as fl/\st<m /\
 ∀ H' p kvs es,Same H H'->H' p=some (.dK kvs)->EntsV H' kvs es->Came as fl m st es->Q (.ref p) H'
structure Mid (as:List Arc)(fl:List Int)(m st:Nat)(es:List Ent)(rim fu:List Nat):Prop extends CInv as fl m st es where
 rimIn:∀ n∈rim,n∈Jr es
 fuIn:∀ n∈fu,n∈Jr es
 done:∀ n∈Jr es,n∈rim\/n∈fu\/Closed as fl es n
def J0T (n:Nat):V:=V.int (n:Int)
theorem J8G {ns:List Nat}{x:V}(h:(ns.map J0T)[i]?=some x):∃ n,ns[i]?=some n/\x=.int (n:Int):=by
 rw [ze] at h;obtain ⟨n,hn,rfl⟩:=Option.map_eq_some_iff.mp h;exact ⟨n,hn,rfl⟩
theorem Jbe {k:Bool}(h:H q=some (.lst xs))(e:k = !xs.isEmpty):Jcj K (.ref q) H k:=.inl ⟨xs,.of h,e⟩
def Jdd (H:Hp)(x p:Addr)(st m:Nat)(as:List Arc)(fl:List Int)(μ:Nat)(σ:St)(H':Hp):Prop:=∃ (q:Addr) (kvs:List (Key×V)) (es:List Ent) (rim:List Nat),(∃ v4 v5 v6 v7 v8,σ=[some (V.ref x),some (V.int (st:Int)),some (V.ref p),some (V.ref q),v4,v5,v6,v7,v8])/\Same H H'/\H q=none/\H' p=some (.dK kvs)/\EntsV H' kvs es/\H' q=some (.lst (rim.map J0T))/\Mid as fl m st es rim []/\μ=2 * (m - es.length)+(if rim=[] then 0 else 1)
def Jdc (H:Hp)(x p q u:Addr)(st m:Nat)(as:List Arc)(fl:List Int)(es0:List Ent)(rim:List Nat)(i:Nat)(σ:St)(H':Hp):Prop:=∃ (kvs:List (Key×V)) (es:List Ent) (fu:List Nat),(∃ v5 v6 v7 v8,σ=[some (V.ref x),some (V.int (st:Int)),some (V.ref p),some (V.ref q),some (V.ref u),v5,v6,v7,v8])/\Same H H'/\H' p=some (.dK kvs)/\EntsV H' kvs es/\H' q=some (.lst (rim.map J0T))/\H' u=some (.lst (fu.map J0T))/\Mid as fl m st es (rim.drop i) fu/\es.length=es0.length+fu.length
def Jdb (H:Hp)(x p q u:Addr)(st m:Nat)(as:List Arc)(fl:List Int)(es0:List Ent)(rim:List Nat)(i nd:Nat)(ts:List V)(j:Nat)(σ:St)(H':Hp):Prop:=∃ (kvs:List (Key×V)) (es:List Ent) (fu:List Nat),(∃ v6 v7 v8,σ=[some (V.ref x),some (V.int (st:Int)),some (V.ref p),some (V.ref q),some (V.ref u),some (J0T nd),v6,v7,v8])/\Same H H'/\H' p=some (.dK kvs)/\EntsV H' kvs es/\H' q=some (.lst (rim.map J0T))/\H' u=some (.lst (fu.map J0T))/\Mid as fl m st es (rim.drop i) fu/\es.length=es0.length+fu.length /\
 ∀ (r:Addr) (pl t:Nat) (sg:Int),V.ref r∈ts.take j->H r=some (.tup [.int pl,.int t,.int sg])->0<J0U as fl pl sg->t∈Jr es
theorem ok_Stream_reach (T:Txt K mg f fd):FnOk P w K mg base CX0 2 (f 11002) (fd 11002) ["self","start"] (J3J K f):=by
 walk_at "ok wE JH"
 ·obtain ⟨x,st,m,as,fl,rfl,_⟩:=h
  rfl
 ·obtain ⟨x,st,m,as,fl,rfl,S,hst,k⟩:=h
  refine ⟨_,(Jd (psl 2 JH.nd (JaU (J9J (pvl 1) J4k JaP) rfl rfl (cons_ne_nil _ _) (by show 1<=15;decide)))
   (Jd (psl 3 JH.nd (JL (pal rfl (pvl 1) Jb)))
   (Jd (J4h PassesOwn.never (J1F (pvl 3) (fun _=>rfl))
   (Jd (psl 4 JH.nd (JL Jb))
   (Jd (J0z PassesOwn.never rfl (J0d rfl (pvl 3)) (pgl 5 JH.nd)
   (Jh (J0z PassesOwn.never rfl (J0d rfl (JD (J0c rfl) (J1U (pvl 0) rfl) (pvl 5) (fun _ _=>rfl))) (J1x rfl rfl (Jq (pgl 6 JH.nd) (Jq (pgl 7 JH.nd) (Jq (pgl 8 JH.nd) J0o))))
   (Jh (JY (PW.pt (J29 (J9F (J8E (J6J hr) (pvl 7) (pvl 2))) (J1v (Jj J30 (J2q (pvl 0) T.we.cls T.w9 (J2a T) (hr.mono (by decide)) T.wD.b .nil J3w (pal rfl (pvl 6) (pal rfl (pvl 8) Jb)) rfl rfl rfl) Je (Jo _)))))
   (Jd (JaO (J6J hr) (pvl 2) (pvl 7) (Jt (pal rfl (pvl 5) (pal rfl (pvl 6) (pal rfl (pvl 8) Jb)))) rfl)
   (Jh (JS (J1n rfl zx PySem.F.slot_list_append PySem.F.type_list_append J0b rfl rfl rfl rfl (pvl 4) (pal rfl (pvl 7) Jb)))))
   Js)))))
   (Jh (psl 3 JH.nd (pvl 4))))))
   (Jh (Jy (pvl 2)))))),?_⟩
  walk_at "dl";intro p hp;have u0:=Same.upd_new hp (HO.dK []);refine ⟨Ja,[(Sum.inl (st:Int),.non)],rfl,(by show 1<=15;decide),?_⟩;rw [J7H];have em:J3j [] [(Sum.inl (st:Int),V.non)]=[(Sum.inl (st:Int),V.non)]:=rfl;rw [em];have s1:=Same.upd_new hp (HO.dK [(Sum.inl (st:Int),V.non)]);have g1:upd H p (HO.dK [(Sum.inl (st:Int),V.non)]) p=some (.dK [(Sum.inl (st:Int),V.non)]):=Ja;generalize upd H p (HO.dK [(Sum.inl (st:Int),V.non)])=H1 at *;refine ⟨Jc (by decide),fun q hq=>?_⟩;have hqH:H q=none:=s1.free hq;have g1':=Same.upd_new hq (HO.lst [V.int (st:Int)]) _ _ g1;have s2:=s1.new hq (HO.lst [V.int (st:Int)]);have g2:upd H1 q (HO.lst [V.int (st:Int)]) q=some (.lst ([st].map J0T)):=Ja;generalize upd H1 q (HO.lst [V.int (st:Int)])=H2 at *;refine J2Q (Jdd H x p st m as fl) ⟨_,q,_,[(st,none)],[st],⟨none,none,none,none,none,rfl⟩,s2,hqH,g1',All2.one ⟨rfl,rfl⟩,g2,⟨CInv.start hst,fun n hn=>by simpa [Jr] using hn,(fun _ h=>nomatch h),fun n hn=>.inl (by simpa [Jr] using hn)⟩,rfl⟩ ?_;clear g2 s2 g1' hqH hq s1 g1;rintro μ σ H3 ⟨q,kvs,es,rim,⟨v4,v5,v6,v7,v8,rfl⟩,s3,hqH,g3,e3,r3,M,hμ⟩;walk_at "dl";by_cases cr:rim=[]
  ·subst cr
   refine ⟨false,Jbe r3 rfl,?_⟩;rw [yH yK];exact k H3 p kvs es s3 g3 e3 ⟨M.toCInv,fun n hn=>by
    rcases M.done n hn with z | z | z
    ·cases z
    ·cases z
    ·exact z⟩
  refine ⟨true,Jbe r3 (by cases rim with | nil=>exact absurd rfl cr | cons=>rfl),?_⟩;rw [yI rfl];refine WGo.of ?_;walk_at "dl";refine ⟨yQ _,fun u hu=>?_⟩;have huH:=s3.free hu;have hqu:q≠u:=Ji r3 hu;have u4:=Same.upd_new hu (HO.lst []);have g4:upd H3 u (HO.lst []) u=some (.lst (([]:List Nat).map J0T)):=Ja;have s4:=s3.trans u4;have g3':=u4 _ _ g3;have e3':=e3.mono u4;have r3':=u4 _ _ r3;generalize upd H3 u (HO.lst [])=H4 at *;refine J0A ?_;walk_at "dl";refine ⟨⟨_,.of r3'⟩,?_⟩;refine ForW.of Ju (Jdc H x p q u st m as fl es rim) ⟨kvs,es,[],⟨v5,v6,v7,v8,rfl⟩,s4,g3',e3',r3',g4,M,rfl⟩ (fun i σ H' _ ⟨_,_,_,_,_,_,_,z,_⟩=>.of z) ?_ ?_
  ·rintro i y σ H5 hy ⟨kvs5,es5,fu5,⟨v5,v6,v7,v8,rfl⟩,s5,g5,e5,r5,f5,M5,l5⟩
   obtain ⟨nd,hnd,rfl⟩:=J8G hy;walk_at "dl";refine J0A ?_;walk_at "dl";obtain ⟨dx,la,lb,ls,xs,sa,h1,h2,h3,h4,h5,h6,h7⟩:=S.ex;have ndK:nd∈Jr es5:=M5.rimIn nd (y4 (i:=0) (by rw [List.getElem?_drop,Nat.add_zero];exact hnd));have ndm:nd<m:=M5.lt nd ndK;have hsa:=yU (show nd<sa.length by omega);generalize sa[nd]'(show nd<sa.length by omega)=na at hsa;obtain ⟨ts,hts,lts,sok,scp⟩:=(h7 nd na hsa).ex;refine ⟨_,_,_,s5 _ _ h1,T.we.cls,T.wt,_,rfl,ls,_,_,_,rfl,rfl,.of (s5 _ _ h5),Jn (by rw [ze,hsa];rfl),na,rfl,⟨_,.of (s5 _ _ hts)⟩,?_⟩;refine ForW.of Ju (Jdb H x p q u st m as fl es rim i nd ts) ⟨kvs5,es5,fu5,⟨v6,v7,v8,rfl⟩,s5,g5,e5,r5,f5,M5,l5,fun _ _ _ _ z=>nomatch z⟩ (fun j σ H' _ ⟨_,_,_,_,z,_⟩=>.of (z _ _ hts)) ?_ ?_
   ·rintro j y σ H6 hj ⟨kvs6,es6,fu6,⟨v6,v7,v8,rfl⟩,s6,g6,e6,r6,f6,M6,l6,d6⟩
    obtain ⟨r,pl,t,sg,rfl,hr',so⟩:=sok _ (y4 hj);refine ⟨r,_,rfl,.of (s6 _ _ hr'),rfl,?_⟩;simp only [J0y,J1X,JK];walk_at "dl";obtain ⟨A0,hA0,hcase⟩:=so;have hpl:pl<as.length:=(yV.mp hA0).1;have inA:=S.inn A0 (y4 hA0);have htm:t<m:=by
     obtain ⟨i1,i2,i3,i4⟩:=inA;rcases hcase with ⟨_,_,z⟩ | ⟨_,_,z⟩<;>omega
    have old:∀ (es':List Ent),(∀ k∈Jr es6,k∈Jr es')->(0<J0U as fl pl sg->t∈Jr es')->∀ (r':Addr) (pl' t':Nat) (sg':Int),V.ref r'∈ts.take (j+1)->H r'=some (.tup [.int pl',.int t',.int sg'])->0<J0U as fl pl' sg'->t'∈Jr es':=by
     intro es' sub new r' pl' t' sg' hm hr2 hroom;rw [take_succ,hj] at hm;rcases zh.mp hm with z | z
     ·exact sub _ (d6 r' pl' t' sg' z hr2 hroom)
     ·simp at z
      subst z;rw [hr'] at hr2;simp at hr2;obtain ⟨a1,a2,a3⟩:=hr2;have:pl=pl':=by omega
      have:t=t':=by omega
      subst a3;subst pl';subst t';exact new hroom
    refine ⟨_,DGet.k (k:=Sum.inl (t:Int)) g6,?_⟩;rw [J3c e6 t];by_cases ck:t∈Jr es6
    ·rw [yH (by simp [ck])]
     exact ⟨kvs6,es6,fu6,⟨_,_,_,rfl⟩,s6,g6,e6,r6,f6,M6,l6,old es6 (fun _ z=>z) fun _=>ck⟩
    rw [yI (by simp [ck])];refine ⟨_,_,s6 _ _ h1,rfl,x,pl,m,sg,as,fl,rfl,S.mono s6,hpl,_,rfl,?_⟩;by_cases cr:0<J0U as fl pl sg
    ·rw [yI (by simpa using cr)]
     refine ⟨Jc (by decide),fun pt hpt=>?_⟩;have n1:p≠pt:=Ji g6 hpt;have n2:u≠pt:=Ji f6 hpt;have n3:u≠p:=J2b f6 g6 (by intro z;cases z);have n4:q≠pt:=Ji r6 hpt;have n5:q≠p:=J2b r6 g6 (by intro z;cases z);have n6:=hqu;have lk:kvs6.length<=m:=by rw [e6.1];exact M6.toCInv.len
     have hm:=S.small.2;have lf:fu6.length<=m:=by have:=M6.toCInv.len;omega
     refine ⟨_,DPut.k (k:=Sum.inl (t:Int)) (by rw [Jf n1];exact g6) (Jc (by omega)),.inl ⟨rfl,_,.of (by rw [Jf n3,Jf n2];exact f6)⟩,u,fu6.map J0T,.int (t:Int),rfl,rfl,by rw [Jf n3,Jf n2];exact f6,by rw [yW,sizeLine_eq];omega,?_⟩;rw [J9D e6 ck];have ndk:nd∈Jr es6:=M6.rimIn nd (y4 (i:=0) (by rw [List.getElem?_drop,Nat.add_zero];exact hnd));have C7:=M6.toCInv.snoc ndk ⟨⟨A0,hA0,hcase⟩,cr⟩ ck htm;have sub:∀ k∈Jr es6,k∈Jr (es6++[(t,some (nd,pl,sg))]):=fun k hk=>by rw [J0R];exact zj _ hk
     have tin:t∈Jr (es6++[(t,some (nd,pl,sg))]):=by rw [J0R];exact zi _ (by simp [Jr])
     have ts7:TSame H6 (upd (upd (upd H6 pt (HO.tup [J0T nd,V.int ↑pl,V.int sg])) p (.dK (kvs6++[(Sum.inl (t:Int),V.ref pt)]))) u (.lst (fu6.map J0T++[.int (t:Int)]))) :=
      (((TSame.refl H6).new hpt).set (by rw [Jf n1];exact g6) (fun _ z=>by cases z)).set (by rw [Jf n3,Jf n2];exact f6) (fun _ z=>by cases z)
     refine ⟨_,es6++[(t,some (nd,pl,sg))],fu6++[t],⟨_,_,_,rfl⟩,((s6.new hpt _).set hp _).set huH _,by rw [Jf (Ne.symm n3),Ja],All2.snoc (e6.monoT ts7) ⟨rfl,pt,rfl,by rw [Jf (Ne.symm n2),Jf (Ne.symm n1),Ja];rfl⟩,by rw [Jf n6,Jf n5,Jf n4];exact r6,by rw [Ja,zg];rfl,⟨C7,fun n hn=>sub n (M6.rimIn n hn),fun n hn=>?_,fun n hn=>?_⟩,by simp;omega,old _ sub fun _=>tin⟩
     ·rcases zh.mp hn with z | z
      ·exact sub n (M6.fuIn n z)
      ·rw [yX.mp z];exact tin
     ·rw [J0R] at hn
      rcases zh.mp hn with z | z
      ·rcases M6.done n z with y | y | y
       ·exact .inl y
       ·exact .inr (.inl (zj _ y))
       ·exact .inr (.inr (y.more sub))
      ·exact .inr (.inl (zi _ (by simpa [Jr] using z)))
    ·rw [yH (by simpa using cr)]
     exact ⟨kvs6,es6,fu6,⟨_,_,_,rfl⟩,s6,g6,e6,r6,f6,M6,l6,old es6 (fun _ z=>z) fun z=>absurd z cr⟩
   ·rintro σ H6 ⟨kvs6,es6,fu6,⟨v6,v7,v8,rfl⟩,s6,g6,e6,r6,f6,M6,l6,d6⟩
    rw [zf] at d6;have hdr:rim.drop i=nd::rim.drop (i+1):=by
     have hi:=(yV.mp hnd);rw [drop_eq_getElem_cons hi.1,hi.2]
    refine ⟨kvs6,es6,fu6,⟨_,_,_,_,rfl⟩,s6,g6,e6,r6,f6,⟨M6.toCInv,fun n hn=>M6.rimIn n (by rw [hdr];exact y8 _ hn),M6.fuIn,fun n hn=>?_⟩,l6⟩;have cnd:Closed as fl es6 nd:=fun pl t sg ⟨⟨A0,hA0,hcase⟩,hroom⟩=>by
     have hpl:pl<as.length:=(yV.mp hA0).1;obtain ⟨q',m1,m2⟩:=scp pl t sg trivial ⟨A0,hA0,hcase⟩;exact d6 q' pl t sg m1 m2 hroom
    rcases M6.done n hn with z | z | z
    ·rw [hdr] at z
     rcases zc.mp z with rfl | z
     ·exact .inr (.inr cnd)
     ·exact .inl z
    ·exact .inr (.inl z)
    ·exact .inr (.inr z)
  ·rintro σ H5 ⟨kvs5,es5,fu5,⟨v5,v6,v7,v8,rfl⟩,s5,g5,e5,r5,f5,M5,l5⟩
   walk_at "dl";have lm:=M5.toCInv.len;refine ⟨_,?_,u,kvs5,es5,fu5,⟨_,_,_,_,_,rfl⟩,s5,huH,g5,e5,f5,⟨M5.toCInv,M5.fuIn,(fun _ h=>nomatch h),fun n hn=>?_⟩,rfl⟩
   ·rw [hμ,yH cr]
    by_cases cf:fu5=[]
    ·rw [yI cf]
     rw [cf] at l5;simp at l5;omega
    ·rw [yH cf]
     have:0<fu5.length:=length_pos_iff.mpr cf;omega
   ·rcases M5.done n hn with z | z | z
    ·rw [yW,drop_length] at z;cases z
    ·exact .inl z
    ·exact .inr (.inr z)
def J2H (K:Frag)(f:Nat->Addr):Sp:=fun vs H Q _=>∃ (x dx la lf:Addr) (m:Nat) (xs:List V) (as:List Arc) (fl:List Int),vs=[.ref x,.int m,.ref la,.ref lf]/\H x=some (.ins (f 10) dx [])/\m<=1000/\H la=some (.lst xs)/\ArcsV H xs as/\as.length<=1000/\(∀ A∈as,InN m A)/\H lf=some (.lst (fl.map V.int))/\fl.length=as.length /\
 ∀ H' lb,SameBut x H H'->H lb=none->StrmAt H' (f 10) x lb m as fl->Q .non H'
structure IniQ (H:Hp)(C x dx p1 p2 ls:Addr)(xs:List V)(as:List Arc)(fl:List Int)(sa:List Addr)(D:Nat->Int->Prop)(bnd:Nat)(H':Hp):Prop where
 B:SameBut x H H'
 hx:H' x=some (.ins C dx [("arcs",.ref p1),("borne",.ref p2),("steps",.ref ls)])
 g:H' p1=some (.lst xs)
 k:H' p2=some (.lst (fl.map V.int))
 l:H' ls=some (.lst (sa.map V.ref))
 st:∀ (n:Nat) a,sa[n]?=some a->StepsAt H' as D bnd n a
def JcN (H:Hp)(C x dx la lf p1 p2 ls:Addr)(m:Nat)(xs:List V)(as:List Arc)(fl:List Int)(sa:List Addr)(i:Nat)(σ:St)(H':Hp):Prop:=(∃ v4 v5,σ=[some (V.ref x),some (V.int (m:Int)),some (V.ref la),some (V.ref lf),v4,v5])/\IniQ H C x dx p1 p2 ls xs as fl sa (fun pl _=>pl<i) (2 * i) H'
theorem IniQ.app {C x dx p1 p2 ls:Addr}{as:List Arc}{sa:List Addr}{D:Nat->Int->Prop}{bnd:Nat}(J:IniQ H C x dx p1 p2 ls xs as fl sa D bnd H')(nd:sa.Nodup)(fr:∀ (n:Nat) a,sa[n]?=some a->H a=none/\a≠x/\a≠p1/\a≠p2/\a≠ls)
 {N pl t:Nat} {sg:Int} {aN:Addr} (hN:sa[N]?=some aN) (so:StepOk as N pl t sg):∃ ts,H' aN=some (.lst ts)/\ts.length<=bnd/\∀ r,H' r=none ->
  IniQ H C x dx p1 p2 ls xs as fl sa (fun pl' sg'=>D pl' sg'\/(pl'=pl/\sg'=sg)) (bnd+1) (upd (upd H' r (.tup [.int pl,.int t,.int sg])) aN (.lst (ts++[.ref r]))):=by
 obtain ⟨ts,h1,h2,_⟩:=(J.st N aN hN).ex;obtain ⟨f1,f2,f3,f4,f5⟩:=fr N aN hN;refine ⟨ts,h1,h2,fun r hr=>⟨(J.B.new hr).set f1,?_,?_,?_,?_,steps_app nd J.st hN so hr h1⟩⟩
 ·rw [Jf (Ne.symm f2),Jf (Ji J.hx hr)];exact J.hx
 ·rw [Jf (Ne.symm f3),Jf (Ji J.g hr)];exact J.g
 ·rw [Jf (Ne.symm f4),Jf (Ji J.k hr)];exact J.k
 ·rw [Jf (Ne.symm f5),Jf (Ji J.l hr)];exact J.l
theorem IniQ.keep {C x dx p1 p2 ls:Addr}{as:List Arc}{sa:List Addr}{D:Nat->Int->Prop}{bnd:Nat}(J:IniQ H C x dx p1 p2 ls xs as fl sa D bnd H')(s:Same H' H2):IniQ H C x dx p1 p2 ls xs as fl sa D bnd H2 :=
 ⟨fun b o n z=>s _ _ (J.B b o n z),s _ _ J.hx,s _ _ J.g,s _ _ J.k,s _ _ J.l,fun n a ha=>(J.st n a ha).mono s⟩
theorem ok_Stream___init__ (T:Txt K mg f fd):FnOk P w K mg base CX0 1 (f 11000) (fd 11000) ["self","many","arcs","flow"] (J2H K f):=by
 walk_at "ok wV J0J"
 ·obtain ⟨x,dx,la,lf,m,xs,as,fl,rfl,_⟩:=h
  rfl
 ·obtain ⟨x,dx,la,lf,m,xs,as,fl,rfl,hx,hm,hla,hA,h1000,hin,hlf,J05,k⟩:=h
  refine ⟨_,(Jd (J7i (pvl 0) (J0P (J1V rfl) T.wg J0S rfl (by decide) (by decide) rfl (pal rfl (pvl 2) Jb)) rfl)
   (Jd (J7i (pvl 0) (J0P (J1V rfl) T.wg J0S rfl (by decide) (by decide) rfl (pal rfl (pvl 3) Jb)) rfl)
   (Jd (J7i (pvl 0) (JW ["node"] ["self","many","arcs","flow","place","arc"] rfl (show CompSc _ (Jg J0n) ["self","many","arcs","flow","place","arc"] ["self","many","arcs","flow","place","arc"] from Jp (by decide +kernel)) (J0u rfl T.wj (pal rfl (pvl 1) Jb)) (fun _ _ _ _ _=>(pgl 0 (show (["node","self","many","arcs","flow","place","arc"]:List Str).Nodup by decide +kernel))) (fun _ _ _ _ _=>JN) (fun _ _ _ _ _=>(JL Jb))) rfl)
   (Jh (J0z PassesOwn.never rfl (J1c rfl T.wm (pal rfl (pvl 2) Jb) rfl) (J1x rfl rfl (Jq (pgl 4 J0J.nd) (Jq (pgl 5 J0J.nd) J0o)))
   (Jd (JS (J1n rfl zx PySem.F.slot_list_append PySem.F.type_list_append J0b rfl rfl rfl rfl (JD (J0c rfl) (J1U (pvl 0) rfl) (JD (J0V rfl) (pvl 5) Je (fun _ _=>rfl)) (fun _ _=>rfl)) (pal rfl (Jt (pal rfl (pvl 4) (pal rfl (JD (J0V rfl) (pvl 5) Je (fun _ _=>rfl)) (pal rfl Je Jb)))) Jb)))
   (Jh (JS (J1n rfl zx PySem.F.slot_list_append PySem.F.type_list_append J0b rfl rfl rfl rfl (JD (J0c rfl) (J1U (pvl 0) rfl) (JD (J0V rfl) (pvl 5) Je (fun _ _=>rfl)) (fun _ _=>rfl)) (pal rfl (Jt (pal rfl (pvl 4) (pal rfl (JD (J0V rfl) (pvl 5) Je (fun _ _=>rfl)) (pal rfl (J3v J23 Je) Jb)))) Jb)))))))))),?_⟩
  walk_at "dl";have nxla:la≠x:=J2b hla hx (by intro z;cases z);have nxlf:lf≠x:=J2b hlf hx (by intro z;cases z);refine ⟨xs,.inl (.of hla),fun p1 hp1=>?_⟩;have n1:x≠p1:=Ji hx hp1;have B1:SameBut x H (upd H p1 (.lst xs)):=SameBut.new (fun _ _ _ z=>z) hp1;have hx1:upd H p1 (.lst xs) x=some (.ins (f 10) dx []):=by rw [Jf n1];exact hx
  have g1:upd H p1 (.lst xs) p1=some (.lst xs):=Ja;generalize upd H p1 (.lst xs)=H1 at *;refine ⟨_,_,_,hx1,T.we.cls,T.wF,by decide,?_⟩;have B2:SameBut x H (upd H1 x (.ins (f 10) dx (J1q ("arcs":Str) (.ref p1) []))):=B1.at;have hx2:upd H1 x (.ins (f 10) dx (J1q ("arcs":Str) (.ref p1) [])) x=some (.ins (f 10) dx [("arcs",.ref p1)]):=Ja;have g2:upd H1 x (.ins (f 10) dx (J1q ("arcs":Str) (.ref p1) [])) p1=some (.lst xs):=by rw [Jf (Ne.symm n1)];exact g1
  generalize upd H1 x (.ins (f 10) dx (J1q ("arcs":Str) (.ref p1) []))=H2 at *;refine ⟨fl.map V.int,.inl (.of (B2 _ _ nxlf hlf)),fun p2 hp2=>?_⟩;have n2:x≠p2:=Ji hx2 hp2;have hp2H:H p2=none:=by
   cases e:H p2 with
   | none=>rfl
   | some o=>rw [B2 p2 o (Ne.symm n2) e] at hp2;cases hp2
  have n3:p1≠p2:=Ji g2 hp2;have B3:SameBut x H (upd H2 p2 (.lst (fl.map V.int))):=B2.new hp2;have hx3:upd H2 p2 (.lst (fl.map V.int)) x=some (.ins (f 10) dx [("arcs",.ref p1)]):=by rw [Jf n2];exact hx2
  have g3:upd H2 p2 (.lst (fl.map V.int)) p1=some (.lst xs):=by rw [Jf n3];exact g2
  have k3:upd H2 p2 (.lst (fl.map V.int)) p2=some (.lst (fl.map V.int)):=Ja;generalize upd H2 p2 (.lst (fl.map V.int))=H3 at *;refine ⟨_,_,_,hx3,T.we.cls,T.wp,(by show 1<1000;decide),?_⟩;have ep:J1q (Str.ofString "borne") (V.ref p2) [(("arcs":Str),V.ref p1)]=([("arcs",.ref p1),("borne",.ref p2)]:List (Str×V)):=by
   show (if (("arcs":Str)="borne") then _ else _)=_;rw [yH (by decide)];rfl
  rw [ep];have B4:SameBut x H (upd H3 x (.ins (f 10) dx [("arcs",.ref p1),("borne",.ref p2)])):=B3.at;have hx4:upd H3 x (.ins (f 10) dx [("arcs",.ref p1),("borne",.ref p2)]) x=some (.ins (f 10) dx [("arcs",.ref p1),("borne",.ref p2)]):=Ja;have g4:upd H3 x (.ins (f 10) dx [("arcs",.ref p1),("borne",.ref p2)]) p1=some (.lst xs):=by rw [Jf (Ne.symm n1)];exact g3
  have k4:upd H3 x (.ins (f 10) dx [("arcs",.ref p1),("borne",.ref p2)]) p2=some (.lst (fl.map V.int)):=by rw [Jf (Ne.symm n2)];exact k3
  generalize upd H3 x (.ins (f 10) dx [("arcs",.ref p1),("borne",.ref p2)])=H4 at *;refine ⟨by omega,by omega,?_⟩;rw [Int.toNat_natCast];have fr:∀ a,H4 a=none->H a=none:=fun a ha=>by
   cases e:H a with
   | none=>rfl
   | some o=>rw [B4 a o (fun z=>by subst z;rw [hx4] at ha;cases ha) e] at ha;cases ha
  refine Jx J0e (by rw [Jv];exact Jc (by omega)) (fun i ys H'=>Same H4 H'/\∃ sa:List Addr,ys=sa.map V.ref/\sa.length=i/\sa.Nodup/\∀ a∈sa,H4 a=none/\H' a=some (.lst [])) ⟨Same.refl _,[],rfl,rfl,nodup_nil,fun _ z=>nomatch z⟩ (fun _ _ _ _ _=>trivial) (fun i ys H' q=>by obtain ⟨_,sa,rfl,h2,_⟩:=q;rw [yW,h2];exact yJ _) ?_ ?_
  ·rintro i y ys H5 hy ⟨s5,sa,rfl,l5,n5,a5⟩
   walk_at "dl";refine ⟨yQ _,fun a ha=>⟨⟨_,rfl⟩,s5.new ha _,sa++[a],by rw [zg];rfl,by simp [l5],nodup_append.mpr ⟨n5,by simp,fun b hb c hc=>?_⟩,fun b hb=>?_⟩⟩
   ·rw [yX.mp hc]
    intro e;subst e;rw [(a5 _ hb).2] at ha;cases ha
   ·rcases zh.mp hb with z | z
    ·have:b≠a:=fun e=>by subst e;rw [(a5 _ z).2] at ha;cases ha
     exact ⟨(a5 b z).1,by rw [Jf this];exact (a5 b z).2⟩
    ·rw [yX.mp z]
     exact ⟨s5.free ha,Ja⟩
  ·rintro ys H5 ⟨s5,sa,rfl,l5,n5,a5⟩ ls hls
   rw [Jv] at l5;have nxl:x≠ls:=Ji (s5 _ _ hx4) hls;refine ⟨_,_,_,by rw [Jf nxl];exact s5 _ _ hx4,T.we.cls,T.wt,(by show 2<1000;decide),?_⟩;have ep:J1q (Str.ofString "steps") (V.ref ls) [(("arcs":Str),V.ref p1),("borne",V.ref p2)]=([("arcs",.ref p1),("borne",.ref p2),("steps",.ref ls)]:List (Str×V)):=by
    show (if (("arcs":Str)="steps") then _ else _::(if (("borne":Str)="steps") then _ else _))=_;rw [yH (by decide),yH (by decide)];rfl
   rw [ep];have n7':p2≠ls:=Ji (s5 _ _ k4) hls;have B5:SameBut x H H5:=fun b o nb hb=>s5 _ _ (B4 b o nb hb);refine J0A ?_;walk_at "dl";have I0:JcN H (f 10) x dx la lf p1 p2 ls m xs as fl sa 0 [some (V.ref x),some (V.int (m:Int)),some (V.ref la),some (V.ref lf),none,none] (upd (upd H5 ls (.lst (sa.map V.ref))) x (.ins (f 10) dx [("arcs",.ref p1),("borne",.ref p2),("steps",.ref ls)])):=by
    have n6:p1≠ls:=Ji (s5 _ _ g4) hls;have n7:p2≠ls:=Ji (s5 _ _ k4) hls;refine ⟨⟨none,none,rfl⟩,(B5.new hls).at,Ja,by rw [Jf (Ne.symm n1),Jf n6];exact s5 _ _ g4,by rw [Jf (Ne.symm n2),Jf n7];exact s5 _ _ k4,by rw [Jf (Ne.symm nxl),Ja],fun n a ha=>⟨[],?_,yQ _,(fun _ z=>nomatch z),fun pl _ _ z=>absurd z (Nat.not_lt_zero _)⟩⟩;have h1:=a5 a (y4 ha);have e1:a≠x:=fun e=>by subst e;rw [hx4] at h1;cases h1.1
    have e2:a≠ls:=Ji h1.2 hls;rw [Jf e1,Jf e2];exact h1.2
   have hsaH:∀ (n:Nat) a,sa[n]?=some a->H a=none/\a≠x/\a≠p1/\a≠p2/\a≠ls:=fun n a ha=>by
    have h1:=a5 a (y4 ha);exact ⟨fr a h1.1,(fun e=>by subst e;rw [hx4] at h1;cases h1.1),(fun e=>by subst e;rw [g4] at h1;cases h1.1),(fun e=>by subst e;rw [k4] at h1;cases h1.1),Ji h1.2 hls⟩
   generalize upd (upd H5 ls (.lst (sa.map V.ref))) x (.ins (f 10) dx [("arcs",.ref p1),("borne",.ref p2),("steps",.ref ls)])=H6 at *;refine ⟨⟨xs,.of (I0.2.B _ _ nxla hla)⟩,?_⟩;refine ForW.enum (xs:=xs) (JcN H (f 10) x dx la lf p1 p2 ls m xs as fl sa) I0 (fun i σ H' q=>.of (q.2.B _ _ nxla hla)) ?_ ?_
   ·rintro i y σ H7 q hy ⟨⟨v4,v5,rfl⟩,J7⟩ hq
    obtain ⟨A0,hA0,pa,rfl,hpa⟩:=All2.at hA hy;have npa:pa≠x:=J2b hpa hx (by intro z;cases z);have u8:=Same.upd_new hq (HO.tup [V.int (i:Int),V.ref pa]);have g8:upd H7 q (HO.tup [V.int (i:Int),V.ref pa]) q=some (HO.tup [V.int (i:Int),V.ref pa]):=Ja;have J8:=J7.keep u8;generalize upd H7 q (HO.tup [V.int (i:Int),V.ref pa])=H8 at *;refine ⟨q,_,rfl,.of g8,rfl,?_⟩;simp only [J0y,J1X,JK];walk_at "dl";obtain ⟨i1,i2,i3,i4⟩:=hin A0 (y4 hA0);have hil:i<as.length:=(yV.mp hA0).1;obtain ⟨aa,ab,al,au⟩:=A0;simp only at i1 i2 i3 i4;obtain ⟨na,rfl⟩:∃ na:Nat,aa=(na:Int):=⟨aa.toNat,by omega⟩;obtain ⟨nb,rfl⟩:∃ nb:Nat,ab=(nb:Int):=⟨ab.toNat,by omega⟩;unfold Arc.vs at hpa;simp only at hpa;have ha:=yU (show na<sa.length by omega);generalize sa[na]'(show na<sa.length by omega)=pna at ha;have hb:=yU (show nb<sa.length by omega);generalize sa[nb]'(show nb<sa.length by omega)=pnb at hb;obtain ⟨ts,t1,t2,t3⟩:=J8.app n5 hsaH ha (pl:=i) (t:=nb) (sg:=1) ⟨_,hA0,.inl ⟨rfl,rfl,rfl⟩⟩;have pa8:=J8.B _ _ npa hpa;refine ⟨_,_,_,J8.hx,T.we.cls,T.wt,_,rfl,pa,_,_,_,rfl,rfl,.of pa8,Jn (j:=0) rfl,ls,_,_,V.ref pna,rfl,rfl,.of J8.l,Jn (by rw [ze,ha];rfl),.inl ⟨rfl,_,.of t1⟩,pa,_,_,_,rfl,rfl,.of pa8,Jn (j:=1) rfl,Jc (by decide),fun r hr=>?_⟩;have J9:=t3 r hr;have nr:pna≠r:=Ji t1 hr;refine ⟨pna,ts,_,rfl,rfl,by rw [Jf nr];exact t1,by rw [sizeLine_eq];omega,?_⟩;generalize upd (upd H8 r (HO.tup [V.int (i:Int),V.int (nb:Int),V.int 1])) pna (HO.lst (ts++[V.ref r]))=H9 at *;obtain ⟨ts',t1',t2',t3'⟩:=J9.app n5 hsaH hb (pl:=i) (t:=na) (sg:=-1) ⟨_,hA0,.inr ⟨rfl,rfl,rfl⟩⟩;have pa9:=J9.B _ _ npa hpa;refine ⟨_,_,_,J9.hx,T.we.cls,T.wt,_,rfl,pa,_,_,_,rfl,rfl,.of pa9,Jn (j:=1) rfl,ls,_,_,V.ref pnb,rfl,rfl,.of J9.l,Jn (by rw [ze,hb];rfl),.inl ⟨rfl,_,.of t1'⟩,pa,_,_,_,rfl,rfl,.of pa9,Jn (j:=0) rfl,Jc (by decide),fun r' hr'=>?_⟩;have J10:=t3' r' hr';have nr':pnb≠r':=Ji t1' hr';refine ⟨pnb,ts',_,rfl,rfl,by rw [Jf nr'];exact t1',by rw [sizeLine_eq];omega,⟨_,_,rfl⟩,J10.B,J10.hx,J10.g,J10.k,J10.l,fun n a hna=>?_⟩;obtain ⟨ts'',z1,z2,z3,z4⟩:=(J10.st n a hna).ex;refine ⟨ts'',z1,by omega,z3,fun pl t sg hd so=>z4 pl t sg ?_ so⟩;by_cases e:pl=i
    ·subst e
     obtain ⟨A1,_,c⟩:=so;rcases c with ⟨rfl,_⟩ | ⟨rfl,_⟩
     ·exact .inl (.inr ⟨rfl,rfl⟩)
     ·exact .inr ⟨rfl,rfl⟩
    ·exact .inl (.inl (by omega))
   ·rintro σ H7 ⟨⟨v4,v5,rfl⟩,J7⟩
    refine k H7 p2 J7.B hp2H ⟨⟨dx,p1,ls,xs,sa,J7.hx,J7.g,?_,J7.k,J7.l,l5,fun n a ha=>?_,n3,Ne.symm n7',(fun a ha=>by obtain ⟨n,hn⟩:=zk.mp ha;exact (hsaH n a hn).2.2.2.1)⟩,J05,⟨h1000,hm⟩,hin⟩
    ·exact All2.mono hA fun v A ⟨pa,e,hpa⟩=>⟨pa,e,J7.B _ _ (J2b hpa hx (by intro z;cases z)) hpa⟩
    ·obtain ⟨ts,t1,t2,t3,t4⟩:=(J7.st n a ha).ex
     rw [hA.1] at t2 t4;exact ⟨ts,t1,t2,t3,fun pl t sg _ so=>t4 pl t sg (by obtain ⟨A0,hA0,_⟩:=so;exact (yV.mp hA0).1) so⟩
def JcL (H:Hp)(x:V)(s:Nat×Int):Prop:=∃ q,x=.ref q/\H q=some (.tup [.int s.1,.int s.2])
def StpsV (H:Hp)(xs:List V)(tks:List (Nat×Int)):Prop:=All2 (JcL H) xs tks
theorem StpsV.mono {tks:List (Nat×Int)}(s:Same H H')(h:StpsV H xs tks):StpsV H' xs tks:=All2.mono h fun _ _ ⟨q,e,g⟩=>⟨q,e,s _ _ g⟩
theorem StpsV.monoT {tks:List (Nat×Int)}(s:TSame H H')(h:StpsV H xs tks):StpsV H' xs tks:=All2.mono h fun _ _ ⟨q,e,g⟩=>⟨q,e,s _ _ g⟩
def J4R (K:Frag)(f:Nat->Addr):Sp:=fun vs H Q _=>∃ (x:Addr) (st gl m:Nat) (as:List Arc) (fl:List Int),vs=[.ref x,.int st,.int gl]/\StreamAt H (f 10) x m as fl/\st<m/\gl<m /\
 ∀ H' p zs tks,Same H H'->H' p=some (.lst zs)->StpsV H' zs tks->WayOk as fl st gl tks->Q (.ref p) H'
structure BackP (as:List Arc)(fl:List Int)(es:List Ent)(st gl i:Nat)(tk:List (Nat×Int)):Prop where
 join:∀ r nd,(∃ o,es[i]?=some (nd,o))->J7G as st r nd->J7G as st (tk++r) gl
 src:∀ s∈tk,∃ j k n,i<j/\es[j]?=some (k,some (n,s.1,s.2))
 nd:(tk.map (·.1)).Nodup
def Jd9 (H:Hp)(x pc pt:Addr)(st gl:Nat)(as:List Arc)(fl:List Int)(es:List Ent)(μ:Nat)(σ:St)(H':Hp):Prop:=∃ (nd:Nat) (o:Option (Nat×Nat×Int)) (zs:List V) (tk:List (Nat×Int)),σ=[some (V.ref x),some (V.int (st:Int)),some (V.int (gl:Int)),some (V.ref pc),some (V.ref pt),some (V.int (nd:Int))]/\Same H H'/\H' pt=some (.lst zs)/\StpsV H' zs tk/\es[μ]?=some (nd,o)/\tk.length+μ<=es.length/\BackP as fl es st gl μ tk
theorem ok_Stream_way (T:Txt K mg f fd):FnOk P w K mg base CX0 3 (f 11003) (fd 11003) ["self","start","goal"] (J4R K f):=by
 walk_at "ok wW J0C"
 ·obtain ⟨x,st,gl,m,as,fl,rfl,_⟩:=h
  rfl
 ·obtain ⟨x,st,gl,m,as,fl,rfl,S,hst,hgl,k⟩:=h
  refine ⟨_,(Jd (psl 3 J0C.nd (J2q (pvl 0) T.we.cls T.yb (ok_Stream_reach T) (hr.mono (by decide)) T.wE.b .nil J3w (pal rfl (pvl 1) Jb) rfl rfl rfl))
   (Jd (psl 4 J0C.nd (JL Jb))
   (Jd (psl 5 J0C.nd (J4l (J9F (JbQ (J6J hr) (pvl 2) (pvl 3))) (pvl 2) (pvl 1)))
   (Jd (J4h PassesOwn.never (Jj J3x (pvl 5) (pvl 1) (Jo _))
   (Jd (JS (J1n rfl zx PySem.F.slot_list_append PySem.F.type_list_append J0b rfl rfl rfl rfl (pvl 4) (pal rfl (J0h (JcF rfl) (J83 (J6J hr) (pvl 3) (pvl 5) (fun _ _=>rfl)) (J0t Je) J0O) Jb)))
   (Jh (psl 5 J0C.nd (JD (J0V rfl) (J83 (J6J hr) (pvl 3) (pvl 5) (fun _ _=>rfl)) Je (fun _ _=>rfl))))))
   (Jh (Jy (pvl 4))))))),?_⟩
  walk_at "dl";obtain ⟨dx,la,lb,ls,xs,sa,h1,_⟩:=S.ex;refine ⟨dx,_,h1,rfl,x,st,m,as,fl,rfl,S,hst,fun H1 pc kvs es s1 hpc he hcm=>⟨yQ _,fun pt hpt=>?_⟩⟩;have hptH:=s1.free hpt;have u2:=Same.upd_new hpt (HO.lst []);have g2:upd H1 pt (HO.lst []) pt=some (.lst []):=Ja;have hpc2:=u2 _ _ hpc;have he2:=he.mono u2;have s2:=s1.trans u2;generalize upd H1 pt (HO.lst [])=H2 at *;generalize hW:J78 _ _=W;generalize hD:Ends.mk _ _ _ _=D1;have far:gl∉Jr es->W D1 [some (V.ref x),some (V.int (st:Int)),some (V.int (gl:Int)),some (V.ref pc),some (V.ref pt),some (V.int (st:Int))] H2:=by
   intro hno;subst hW;subst hD;refine J2Q (fun μ σ H'=>σ=[some (V.ref x),some (V.int (st:Int)),some (V.int (gl:Int)),some (V.ref pc),some (V.ref pt),some (V.int (st:Int))]/\H'=H2) ⟨0,rfl,rfl⟩ ?_;rintro μ σ H3 ⟨rfl,rfl⟩;walk_at "dl";exact k H3 pt [] [] s2 g2 All2.nil ⟨fun z=>absurd rfl z,(fun _ z=>nomatch z),(fun _ z=>nomatch z),(fun _ z=>nomatch z),by simp,fun _ _ r=>hno ((hcm.iff gl).mpr r)⟩
  have near:gl∈Jr es->W D1 [some (V.ref x),some (V.int (st:Int)),some (V.int (gl:Int)),some (V.ref pc),some (V.ref pt),some (V.int (gl:Int))] H2:=by
   intro hin;subst hW;subst hD;obtain ⟨e0,he0,heq⟩:=zl.mp hin;obtain ⟨i0,hi0⟩:=zk.mp he0;obtain ⟨k0,o0⟩:=e0;simp only at heq;subst heq;have hlt:=(yV.mp hi0).1;refine J2Q (Jd9 H1 x pc pt st k0 as fl es) ⟨i0,k0,o0,[],[],rfl,u2,g2,All2.nil,hi0,by simp;omega,⟨fun r nd ⟨o,ho⟩ hb=>?_,(fun _ z=>nomatch z),by simp⟩⟩ ?_
   ·rw [hi0] at ho
    cases ho;exact hb
   rintro μ σ H3 ⟨nd,o,zs,tk,rfl,s3,hzs,htk,hμ,hln,B⟩;walk_at "dl";by_cases ce:nd=st
   ·rw [yH (by simp [ce])]
    have hbk:J7G as st tk k0:=by
     have:=B.join [] nd ⟨o,hμ⟩ ce;rwa [append_nil] at this
    refine k H3 pt zs tk (s1.trans s3) hzs htk ⟨fun _=>hbk,fun s' hs'=>?_,fun s' hs'=>?_,fun s' hs'=>?_,B.nd,fun z ne=>?_⟩
    ·obtain ⟨j,k',n,_,hj⟩:=B.src s' hs'
     exact (hcm.tree j k' n _ _ hj).2.2
    ·obtain ⟨j,k',n,_,hj⟩:=B.src s' hs'
     obtain ⟨A0,_,hc⟩:=(hcm.tree j k' n _ _ hj).2.1;rcases hc with ⟨e,_⟩ | ⟨e,_⟩
     ·exact .inl e
     ·exact .inr e
    ·obtain ⟨j,k',n,_,hj⟩:=B.src s' hs'
     obtain ⟨A0,hA0,_⟩:=(hcm.tree j k' n _ _ hj).2.1;exact (yV.mp hA0).1
    ·rw [z] at hbk
     exact absurd hbk.symm ne
   rw [yI (by simp;omega)];refine WGo.of ?_;walk_at "dl";obtain ⟨n,pl,sg,rfl⟩:∃ n pl sg,o=some (n,pl,sg):=by
    cases o with
    | some z=>exact ⟨z.1,z.2.1,z.2.2,rfl⟩
    | none =>
      cases μ with
      | zero =>
        obtain ⟨r,er⟩:=hcm.hd;rw [er] at hμ;simp at hμ;exact absurd hμ.symm ce
      | succ μ=>exact absurd rfl (hcm.some_ μ _ hμ)
   obtain ⟨hnk,so,hroom⟩:=hcm.tree μ nd n pl sg hμ;obtain ⟨j,e',hjm,hj,rfl⟩:=J4w hnk;obtain ⟨kv,hkv,⟨_,q,eq,hq⟩,hval⟩:=J68 he hcm.nd hμ;have hq3:=s3 _ _ hq;rw [eq] at hval;refine ⟨.inl ⟨rfl,_,.of hzs⟩,.ref q,?_,q,_,rfl,.of hq3,(by show ¬ (HT.sIx 3 0 (some 1)=0/\HT.sIx 3 3 none=3);decide),fun p4 hp4=>?_⟩
   ·have:=DGet.k (k:=Sum.inl (nd:Int)) (s3 _ _ hpc)
    rw [hval] at this;exact this
   have ec:J2i [V.int (e'.1:Int),V.int (pl:Int),V.int sg] (some 1) none=[V.int (pl:Int),V.int sg]:=rfl;rw [ec];have u4:=Same.upd_new hp4 (HO.tup [V.int (pl:Int),V.int sg]);have g4:upd H3 p4 (HO.tup [V.int (pl:Int),V.int sg]) p4=some (.tup [V.int (pl:Int),V.int sg]):=Ja;have s4:=s3.trans u4;have hzs4:=u4 _ _ hzs;have htk4:=htk.mono u4;generalize upd H3 p4 (HO.tup [V.int (pl:Int),V.int sg])=H4 at *;have hlz:=htk.1;have hel:=hcm.toCInv.len;have hm:=S.small.2;refine ⟨pt,zs,.ref p4,rfl,rfl,hzs4,by rw [sizeLine_eq];omega,?_⟩;have s5:=s4.set hpt (HO.lst (zs++[V.ref p4]));have g5:upd H4 pt (HO.lst (zs++[V.ref p4])) pt=some (.lst (zs++[V.ref p4])):=Ja;have ts5:TSame H4 (upd H4 pt (HO.lst (zs++[V.ref p4]))):=(TSame.refl _).set hzs4 (fun _ z=>by cases z);have htk5:=htk4.monoT ts5;have g45:=ts5 _ _ g4;generalize upd H4 pt (HO.lst (zs++[V.ref p4]))=H5 at *;refine ⟨.ref q,?_,q,_,_,_,rfl,rfl,.of (s5 _ _ hq),Jn (j:=0) rfl,j,hjm,e'.1,e'.2,_,tk++[(pl,sg)],rfl,s5,g5,All2.snoc htk5 ⟨p4,rfl,g45⟩,hj,by simp;omega,⟨fun r nd' ⟨o',ho'⟩ hb=>?_,fun s' hs'=>?_,?_⟩⟩
   ·have:=DGet.k (k:=Sum.inl (nd:Int)) (s5 _ _ hpc)
    rw [hval] at this;exact this
   ·rw [hj] at ho'
    have e1:e'.1=nd':=by
     have:=yN ho';rw [this]
    rw [<- e1] at hb;have:=B.join ((pl,sg)::r) nd ⟨_,hμ⟩ ⟨e'.1,so,hb⟩;rw [zp];exact this
   ·rcases zh.mp hs' with z | z
    ·obtain ⟨j',k',n',l',h'⟩:=B.src s' z
     exact ⟨j',k',n',by omega,h'⟩
    ·rw [yX.mp z]
     exact ⟨μ,nd,e'.1,hjm,hμ⟩
   ·rw [zg]
    refine nodup_append.mpr ⟨B.nd,by simp,fun a ha b hb' e=>?_⟩;have hbp:b=pl:=by simpa using hb'
    obtain ⟨s',hs',rfl⟩:=zl.mp ha;obtain ⟨j',k',n',l',h'⟩:=B.src s' hs';rw [e,hbp] at h';exact hcm.toCInv.places h' hμ l'
  refine ⟨pc,rfl,_,DGet.k (k:=Sum.inl (gl:Int)) hpc2,?_⟩;rw [J3c he2];by_cases ck:gl∈Jr es
  ·rw [yI (by simp [ck])]
   exact near ck
  ·rw [yH (by simp [ck])]
   exact far ck
structure Pushed (as:List Arc)(fl fl':List Int)(st gl:Nat)(d:Int):Prop where
 bnd:Bnd as fl'
 ex:∀ v,exF as fl' v=exF as fl v+(if (gl:Int)=v then d else 0) - (if (st:Int)=v then d else 0)
 same:d=0->fl'=fl
 rch:0<d->Reach (J5t as fl) st gl
theorem J4L {as:List Arc}{fl:List Int}{st:Nat}:∀ (tks:List (Nat×Int)) (gl:Nat),J7G as st tks gl->(∀ s∈tks,0<J0U as fl s.1 s.2)->Reach (J5t as fl) st gl
 | [],gl,hb,_=>by
   have e:gl=st:=hb;rw [e];exact .here
 | (pl,sg)::r,gl,hb,hr=>by
   obtain ⟨n,so,hb'⟩:=hb;exact (J4L r n hb' fun s hs=>hr s (y8 _ hs)).step ⟨pl,sg,so,hr _ y9⟩
def J45 (K:Frag)(f:Nat->Addr):Sp:=fun vs H Q _=>∃ (x lb:Addr) (st gl m:Nat) (lim:Int) (as:List Arc) (fl:List Int),vs=[.ref x,.int st,.int gl,.int lim]/\StrmAt H (f 10) x lb m as fl/\Bnd as fl/\st<m/\gl<m/\st≠gl/\0<=lim /\
 ∀ H' fl' d,SameBut lb H H'->StrmAt H' (f 10) x lb m as fl'->Pushed as fl fl' st gl d->0<=d->d<=lim->(d=lim\/¬ Reach (J5t as fl') st gl)->Q (.int d) H'
def Jde (H:Hp)(C x lb:Addr)(st gl m:Nat)(lim:Int)(as:List Arc)(fl:List Int)(μ:Nat)(σ:St)(H':Hp):Prop:=∃ (d:Int) (fl':List Int),(∃ v5 v6 v7 v8,σ=[some (V.ref x),some (V.int (st:Int)),some (V.int (gl:Int)),some (V.int lim),some (V.int d),v5,v6,v7,v8])/\SameBut lb H H'/\StrmAt H' C x lb m as fl'/\Pushed as fl fl' st gl d/\0<=d/\d<=lim/\μ=(lim - d).toNat
theorem ok_Stream_push (T:Txt K mg f fd):FnOk P w K mg base CX0 4 (f 11004) (fd 11004) ["self","start","goal","limit"] (J45 K f):=by
 walk_at "ok wX J04"
 ·obtain ⟨x,lb,st,gl,m,lim,as,fl,rfl,_⟩:=h
  rfl
 ·obtain ⟨x,lb,st,gl,m,lim,as,fl,rfl,S,hB,hst,hgl,hne,hlim,k⟩:=h
  refine ⟨_,(Jd (psl 4 J04.nd Je)
   (Jd (J4h PassesOwn.never (Jj J4m (pvl 4) (pvl 3) (Jo _))
   (Jd (psl 5 J04.nd (J2q (pvc 0) T.we.cls T.ye (ok_Stream_way T) (hr.mono (by decide)) T.wW.b .nil J3w (pal rfl (pvl 1) (pal rfl (pvl 2) Jb)) rfl rfl rfl))
   (Jd (JY (J9E (J1F (pvl 5) (fun _=>rfl)))
   (Jh J9H)
   Js)
   (Jd (psl 6 J04.nd (JC (Jc6 rfl rfl) T.yd Jat rfl (by decide) (by decide) rfl (pal rfl (Jm J0X (JL (pal rfl (Jm J2K (pvl 3) (pvl 4)) Jb)) (JW ["place","sign"] ["self","start","goal","limit","pushed","way","through","#7","#8"] rfl (show CompSc _ (Jg J11) ["self","start","goal","limit","pushed","way","through","place","sign"] ["self","start","goal","limit","pushed","way","through","#7","#8"] from Jp (by decide +kernel)) (J0d rfl (pvl 5)) (fun _ _ _ _ _=>(JbM K 0 1 (show (["place","sign","self","start","goal","limit","pushed","way","through","#7","#8"]:List Str).Nodup by decide +kernel))) (fun _ _ _ _ _=>JN) (fun _ _ _ _ _=>(J2q (pvc 2) T.we.cls T.w9 (J2a T) (hr.mono (by decide)) T.wD.b .nil J3w (pal rfl (pvl 0) (pal rfl (pvl 1) Jb)) rfl rfl rfl)))) Jb)))
   (Jd (J0z PassesOwn.never rfl (J0d rfl (pvl 5)) (J1x rfl rfl (Jq (pgl 7 J04.nd) (Jq (pgl 8 J04.nd) J0o)))
   (Jh (J5G (J1U (pvc 0) rfl) (pvl 7) (J7p rfl) (Jm J0W (pvl 8) (pvl 6)) J7s J25)))
   (Jh (ps_aug J04.nd (i:=4) rfl (.inl rfl) (pvl 6) J7s)))))))
   (Jh (Jy (pvl 4))))),?_⟩
  walk_at "dl";refine J2Q (Jde H (f 10) x lb st gl m lim as fl) ⟨_,0,fl,⟨none,none,none,none,rfl⟩,SameBut.refl _ _,S,⟨hB,(fun v=>by split<;>split<;>omega),(fun _=>rfl),(fun z=>absurd z (by decide))⟩,Int.le_refl _,hlim,rfl⟩ ?_;rintro μ σ H1 ⟨d,fl1,⟨v5,v6,v7,v8,rfl⟩,s1,S1,P1,d0,dl,hμ⟩;walk_at "dl";by_cases cl:d<lim
  ·rw [yI cl]
   refine WGo.of ?_;walk_at "dl";obtain ⟨dx,la,ls,xs,sa,hx1,_,_,hb1,_⟩:=S1.ex;refine ⟨dx,_,hx1,rfl,x,st,gl,m,as,fl1,rfl,S1.stream,hst,hgl,fun H2 pw zs tks s2 hpw hz W=>?_⟩;have S2:=S1.mono s2;dsimp only;by_cases ct:tks=[]
   ·subst ct
    obtain rfl:zs=[]:=eq_nil_of_length_eq_zero hz.1;refine ⟨false,Jbe hpw rfl,?_⟩;rw [yI (by decide)];exact k H2 fl1 d (s1.same s2) S2 P1 d0 dl (.inr (W.none_ rfl hne))
   have hzl:=hz.1;have hzne:zs≠[]:=fun z=>ct (by rw [z] at hzl;exact eq_nil_of_length_eq_zero hzl.symm);refine ⟨true,Jbe hpw (by cases zs with | nil=>exact absurd rfl hzne | cons=>rfl),?_⟩;rw [yH (by decide)];have htl:tks.length<=1000:=by
    have h1:(tks.map (·.1)).length<=as.length:=nodup_le as.length _ W.nd fun a ha=>by
     obtain ⟨s',hs',rfl⟩:=zl.mp ha;exact W.lt s' hs'
    rw [yW] at h1;have:=S1.small.1;omega
   refine ⟨Jc (by decide),fun p3 hp3=>?_⟩;have u3:=Same.upd_new hp3 (HO.lst [V.int (lim - d)]);have g3:upd H2 p3 (HO.lst [V.int (lim - d)]) p3=some (.lst [V.int (lim - d)]):=Ja;have s13:=s2.trans u3;have hpw3:=u3 _ _ hpw;have hz3:=hz.mono u3;have S3:=S2.mono u3;generalize upd H2 p3 (HO.lst [V.int (lim - d)])=H3 at *;refine ⟨pw,rfl,⟨_,.of hpw3⟩,?_⟩;refine J4G Ju (by rw [hzl];exact Jc (by omega)) (fun i ys σ H'=>(∃ v0 v1,σ=[v0,v1,some (V.ref x),some (V.int (st:Int)),some (V.int (gl:Int)),some (V.int lim),some (V.int d),some (V.ref pw),v6,v7,v8])/\Same H3 H'/\ys=((tks.take i).map fun s'=>J0U as fl1 s'.1 s'.2).map V.int) ⟨⟨none,none,rfl⟩,Same.refl _,rfl⟩ (fun i ys σ H' q=>⟨.of (q.2.1 _ _ hpw3),by rw [q.2.2,yW,yW,y7];omega⟩) ?_ ?_
   ·rintro i y ys σ H4 hy ⟨⟨v0,v1,rfl⟩,s4,rfl⟩
    obtain ⟨s',hs',q,rfl,hq⟩:=All2.at hz3 hy;refine ⟨q,_,rfl,.of (s4 _ _ hq),rfl,?_⟩;simp only [J0y,J1X,JK];walk_at "dl";obtain ⟨dx4,_,_,_,_,hx4,_⟩:=(S3.mono s4).ex;refine ⟨dx4,_,hx4,rfl,s'.1,rfl,m,as,fl1,(S3.mono s4).stream,W.lt s' (y4 hs'),⟨_,rfl⟩,s4,?_⟩;rw [take_succ,hs',zg,zg];rfl
   ·rintro ys σ H4 ⟨⟨v0,v1,rfl⟩,s4,rfl⟩ D hD
    rw [take_of_length_le (by rw [hzl];exact yJ _)];generalize hrs:(tks.map fun s'=>J0U as fl1 s'.1 s'.2)=rs;have hrl:rs.length<=1000:=by rw [<- hrs,yW];exact htl
    have u5:=Same.upd_new hD (HO.lst (rs.map V.int));have g5:upd H4 D (HO.lst (rs.map V.int)) D=some (.lst (rs.map V.int)):=Ja;have s35:=s4.trans u5;generalize upd H4 D (HO.lst (rs.map V.int))=H5 at *;refine ⟨p3,D,_,_,rfl,rfl,s35 _ _ g3,g5,by rw [yW];exact Jc (by simp;omega),fun p6 hp6=>?_⟩;have u6:=Same.upd_new hp6 (HO.lst ([V.int (lim - d)]++rs.map V.int));have g6:upd H5 p6 (HO.lst ([V.int (lim - d)]++rs.map V.int)) p6=some (.lst (((lim - d)::rs).map V.int)):=Ja;have s36:=s35.trans u6;generalize upd H5 p6 (HO.lst ([V.int (lim - d)]++rs.map V.int))=H6 at *;refine ⟨p6,(lim - d)::rs,rfl,.of g6,by simp,fun t ht hle=>?_⟩;have t1:t<=lim - d:=hle _ y9;have t2:∀ s'∈tks,t<=J0U as fl1 s'.1 s'.2:=fun s' hs'=>hle _ (y8 _ (by rw [<- hrs];exact mem_map_of_mem hs'));have t0:0<t:=by
     rcases zc.mp ht with e | e
     ·omega
     ·rw [<- hrs] at e
      obtain ⟨s',hs',rfl⟩:=zl.mp e;exact W.room s' hs'
    have S6:=S3.mono s36;have hpw6:=s36 _ _ hpw3;have hz6:=hz3.mono s36;have B6:SameBut lb H H6:=(s1.same s13).same s36;dsimp only;refine J0A ?_;walk_at "dl";refine ⟨⟨_,.of hpw6⟩,?_⟩;obtain ⟨dx6,la6,ls6,xs6,sa6,hx6,hla6,_,hb6,hls6,_⟩:=S6.ex;have npw:pw≠lb:=by
     intro e;subst e;rw [hb6] at hpw6;have e2:zs=fl1.map V.int:=by injection hpw6 with h;injection h with h;exact h.symm
     cases zs with
     | nil=>exact hzne rfl
     | cons z zs =>
       obtain ⟨_,_,q,rfl,_⟩:=All2.at hz (i:=0) rfl;cases hf:fl1 with
       | nil=>rw [hf] at e2;cases e2
       | cons a b=>rw [hf] at e2;simp at e2
    refine ForW.of Ju (fun i σ H'=>(∃ v7 v8,σ=[some (V.ref x),some (V.int (st:Int)),some (V.int (gl:Int)),some (V.int lim),some (V.int d),some (V.ref pw),some (V.int t),v7,v8])/\SameBut lb H6 H'/\StrmAt H' (f 10) x lb m as ((tks.take i).foldl (J2y t) fl1)) ⟨⟨v7,v8,rfl⟩,SameBut.refl _ _,S6⟩ (fun i σ H' _ q=>.of (q.2.1 _ _ npw hpw6)) ?_ ?_
    ·rintro i y σ H7 hy ⟨⟨v7,v8,rfl⟩,B7,S7⟩
     obtain ⟨s',hs',q,rfl,hq⟩:=All2.at hz6 hy;have hq7:=B7 _ _ (J2b hq hb6 (by intro z;cases z)) hq;refine ⟨q,_,rfl,.of hq7,rfl,?_⟩;simp only [J0y,J1X,JK];walk_at "dl";obtain ⟨dx7,la7,ls7,xs7,sa7,hx7,_,_,hb7,_⟩:=S7.ex;rw [take_succ,hs',foldl_append];generalize hf7:(tks.take i).foldl (J2y t) fl1=fl7 at *;have hl7:s'.1<fl7.length:=by rw [S7.len];exact W.lt s' (y4 hs')
     have e7:=yU hl7;have hsg:=W.sgn s' (y4 hs');refine ⟨_,_,_,hx7,T.we.cls,T.wp,_,rfl,lb,_,s'.1,V.int fl7[s'.1],rfl,rfl,.of hb7,by rw [ze,e7];rfl,.inl ⟨by omega,by omega⟩,_,rfl,lb,_,_,s'.1,rfl,rfl,hb7,J35 (by rw [yW];exact hl7),⟨_,rfl⟩,B7.at,?_⟩;have ep:(fl7.map V.int).set s'.1 (V.int (fl7[s'.1]+s'.2 * t))=(J2y t fl7 s').map V.int:=by
      unfold J2y;rw [map_set,J12 e7]
     refine S7.turn (SameBut.refl _ _).at ?_ (J4g t fl7 s');rw [Ja,ep];rfl
    ·rintro σ H7 ⟨⟨v7,v8,rfl⟩,B7,S7⟩
     rw [hzl,zf] at S7;walk_at "dl";have hwb:=W.back ct;refine ⟨_,?_,d+t,_,⟨_,_,_,_,rfl⟩,B6.trans B7,S7,⟨J5g (by omega) tks fl1 P1.bnd W.nd t2 W.sgn W.lt,fun v=>?_,fun z=>by omega,fun _=>?_⟩,by omega,by omega,rfl⟩
     ·omega
     ·rw [J8g tks fl1 gl S1.len hwb v,P1.ex v]
      split<;>split<;>omega
     ·by_cases cz:d=0
      ·have e:=P1.same cz
       subst e;exact J4L tks gl hwb W.room
      ·exact P1.rch (by omega)
  ·rw [yH cl]
   exact k H1 fl1 d s1 S1 P1 d0 dl (.inl (by omega))
def J9l (K:Frag):Sp:=fun vs H Q _=>∃ (m:Nat) (la lf:Addr) (xs:List V) (as:List Arc) (fl:List Int),vs=[.int m,.ref la,.ref lf]/\m<=120/\H la=some (.lst xs)/\ArcsV H xs as/\H lf=some (.lst (fl.map V.int))/\fl.length=as.length/\as.length<=1000/\(∀ A∈as,InN m A) /\
 ∀ H' p,Same H H'->H' p=some (.lst ((J1o m as fl as.length).map V.int))->Q (.ref p) H'
theorem ok_gains (T:Txt K mg f fd):FnOk P w K mg base CX0 1 (f 8) (fd 8) ["many","arcs","flow"] (J9l K):=by
 walk_at "ok wG J2W"
 ·obtain ⟨m,la,lf,xs,as,fl,rfl,_⟩:=h
  rfl
 ·obtain ⟨m,la,lf,xs,as,fl,rfl,hm,hla,hA,hlf,J05,h1000,hin,k⟩:=h
  refine ⟨_,(Jd (psl 3 J2W.nd (Jm J9S (JL (pal rfl Je Jb)) (pvl 0)))
   (Jd (J0z PassesOwn.never rfl (JcE rfl rfl T.yz (pal rfl (pvl 1) (pal rfl (pvl 2) Jb)) rfl rfl) (J1x rfl rfl (Jq (pgl 4 J2W.nd) (Jq (pgl 5 J2W.nd) J0o)))
   (Jd (J5G (pvl 3) (JD (J0V rfl) (pvl 4) Je (fun _ _=>rfl)) (J7p rfl) (pvl 5) Jc9 J25)
   (Jh (J5G (pvl 3) (JD (J0V rfl) (pvl 4) Je (fun _ _=>rfl)) (J7p rfl) (pvl 5) J7s J25))))
   (Jh (Jy (pvl 3))))),?_⟩
  walk_at "dl";refine ⟨Jc (by decide),fun p0 hp0=>?_⟩;have u0:=Same.upd_new hp0 (HO.lst [V.int 0]);have g0:upd H p0 (HO.lst [V.int 0]) p0=some (.lst [V.int 0]):=Ja;generalize upd H p0 (HO.lst [V.int 0])=H0 at *;refine ⟨p0,(m:Int),[V.int 0],rfl,rfl,g0,by omega,by omega,by rw [Int.toNat_natCast];exact Jc (by simp;omega),fun p hp=>?_⟩;rw [Int.toNat_natCast,J6o];have hpH:H p=none:=by
   cases e:H p with
   | none=>rfl
   | some o=>rw [u0 _ _ e] at hp;cases hp
  have s1:=u0.new hp (HO.lst ((List.replicate m (0:Int)).map V.int));have g1:upd H0 p (HO.lst ((List.replicate m (0:Int)).map V.int)) p=some (.lst ((List.replicate m (0:Int)).map V.int)):=Ja;generalize upd H0 p (HO.lst ((List.replicate m (0:Int)).map V.int))=H1 at *;refine J0A ?_;walk_at "dl";refine ⟨⟨_,.of (s1 _ _ hla)⟩,⟨_,.of (s1 _ _ hlf)⟩,?_⟩;have hxl:=hA.1;refine ForW.zip (xs:=xs) (ys:=fl.map V.int) (fun i σ H'=>(∃ v4 v5,σ=[some (V.int (m:Int)),some (V.ref la),some (V.ref lf),some (V.ref p),v4,v5])/\Same H H'/\H' p=some (.lst ((J1o m as fl i).map V.int))) ⟨⟨none,none,rfl⟩,s1,g1⟩ (fun _ _ H' q=>⟨.of (q.2.1 _ _ hla),.of (q.2.1 _ _ hlf)⟩) ?_ ?_
  ·rintro i x y σ H2 q hx hy ⟨⟨v4,v5,rfl⟩,s2,g2⟩ hq
   obtain ⟨A,hAi,pa,rfl,hpa⟩:=All2.at hA hx;rw [ze] at hy;obtain ⟨n,hn,rfl⟩:=Option.map_eq_some_iff.mp hy;have u3:=Same.upd_new hq (HO.tup [V.ref pa,V.int n]);refine ⟨q,_,rfl,.of Ja,rfl,?_⟩;have g3:=u3 _ _ g2;have s3:=s2.trans u3;have hpa3:=s3 _ _ hpa;generalize upd H2 q (HO.tup [V.ref pa,V.int n])=H3 at *;unfold Arc.vs at hpa3;simp only [J0y,J1X,JK];walk_at "dl";obtain ⟨i1,i2,i3,i4⟩:=hin A (y4 hAi);have eG:J1o m as fl (i+1)=J3t (J1o m as fl i) A n:=by
    show J3t (J1o m as fl i) (as.getD i default) (fl.getD i 0)=_;rw [J12 hAi,J12 hn]
   have lG:=J4B m as fl i;rw [eG];generalize J1o m as fl i=G at *;obtain ⟨aa,ab,al,au⟩:=A;simp only at i1 i2 i3 i4 hpa3;obtain ⟨na,rfl⟩:∃ na:Nat,aa=(na:Int):=⟨aa.toNat,by omega⟩;obtain ⟨nb,rfl⟩:∃ nb:Nat,ab=(nb:Int):=⟨ab.toNat,by omega⟩;have ha:na<G.length:=by omega
   have ea:G.getD na 0=G[na]:=J12 (yU ha);have hb:nb<(G.set na (G[na] - n)).length:=by rw [length_set];omega
   have eb:(G.set na (G[na] - n)).getD nb 0=(G.set na (G[na] - n))[nb]:=J12 (yU hb);have npa:pa≠p:=fun e=>by rw [e,g3] at hpa3;cases hpa3
   refine ⟨pa,_,_,_,rfl,rfl,.of hpa3,Jn (j:=0) rfl,p,_,na,_,rfl,rfl,.of g3,by rw [ze,yU ha];rfl,_,rfl,p,_,_,na,rfl,rfl,g3,J35 (by rw [yW];exact ha),?_⟩;rw [J3y];refine ⟨pa,_,_,_,rfl,rfl,.of (by rw [Jf npa];exact hpa3),Jn (j:=1) rfl,p,_,nb,_,rfl,rfl,.of Ja,by rw [ze,yU hb];rfl,_,rfl,p,_,_,nb,rfl,rfl,Ja,J35 (by rw [yW];exact hb),⟨_,rfl⟩,?_,?_⟩
   ·rw [J7H]
    exact s3.set hpH _
   ·rw [Ja,J3y]
    unfold J3t;simp only [Int.toNat_natCast,ea,eb]
  ·rintro σ H2 ⟨⟨v4,v5,rfl⟩,s2,g2⟩
   rw [yW,hxl,J05,Nat.min_self] at g2;walk_at "dl";exact k _ p s2 g2
structure ArcOk (m:Nat)(A:Arc):Prop where
 inn:InN m A
 ne:A.a≠A.b
 lo:0<=A.l
 hi:A.l<=A.u
theorem J3o {k:Nat}(h:k<=xs.length):J2i xs none (some (k:Int))=xs.take k:=by
 unfold J2i HT.sIx;dsimp only;rw [yH (by omega),Int.toNat_natCast,Nat.min_eq_left h];simp
theorem J7z {k:Nat}(h:k<=xs.length):J2i xs (some (k:Int)) none=xs.drop k:=by
 unfold J2i HT.sIx;dsimp only;rw [yH (by omega),Int.toNat_natCast,Nat.min_eq_left h,take_of_length_le (by rw [length_drop];exact yJ _)]
theorem J3r {α β:Type}{R:α->β->Prop}{xs:List α}{ys:List β}(h:All2 R xs ys)(k:Nat):All2 R (xs.take k) (ys.take k):=by
 refine ⟨by rw [y7,y7,h.1],fun i x y hx hy=>?_⟩;have hi:i<k:=by
  have:=(yV.mp hx).1;rw [y7] at this;omega
 rw [List.getElem?_take_of_lt hi] at hx hy;exact h.2 i x y hx hy
theorem J92 {α β:Type}{R:α->β->Prop}{xs:List α}{ys:List β}(h:All2 R xs ys)(k:Nat):All2 R (xs.drop k) (ys.drop k):=by
 refine ⟨by rw [length_drop,length_drop,h.1],fun i x y hx hy=>?_⟩;rw [List.getElem?_drop] at hx hy;exact h.2 _ x y hx hy
theorem Jbd {α β:Type}{S:α->β->Prop}{xs:List α}{ys:List β}(h:All2 S xs ys):All2 S xs.reverse ys.reverse:=by
 refine ⟨by rw [length_reverse,length_reverse];exact h.1,fun i x y hx hy=>?_⟩;have hi:=(yV.mp hx).1;rw [length_reverse] at hi;have hl:=h.1;rw [List.getElem?_reverse hi] at hx;rw [List.getElem?_reverse (by omega),<- hl] at hy;exact h.2 _ x y hx hy
def exS (as:List Arc)(fl:List Int):List Int->Int
 | []=>0
 | v::vs=>exF as fl v+exS as fl vs
def ind (vs:List Int)(v:Int):Int:=if v∈vs then 1 else 0
theorem J6F {v:Int}{vs:List Int}(h1:v∉vs)(z y:Int):ind (v::vs) z * y=(if z=v then y else 0)+ind vs z * y:=by
 unfold ind;by_cases e:z=v
 ·subst e
  rw [yI y9,yI rfl,yH h1];omega
 ·by_cases m:z∈vs
  ·rw [yI (y8 _ m),yH e,yI m];omega
  ·rw [yH (fun q=>by rcases zc.mp q with q | q;exact e q;exact m q),yH e,yH m];omega
theorem Jaf {A:Arc}{as:List Arc}{y:Int}{fl:List Int}:∀ {vs:List Int},vs.Nodup->exS (A::as) (y::fl) vs=ind vs A.b * y - ind vs A.a * y+exS as fl vs
 | [],_=>by simp [exS,ind]
 | v::vs,h=>by
   obtain ⟨h1,h2⟩:=nodup_cons.mp h;show (if A.b=v then y else 0) - (if A.a=v then y else 0)+exF as fl v+exS (A::as) (y::fl) vs=_;rw [Jaf h2,J6F h1,J6F h1];show _=_+(exF as fl v+exS as fl vs);omega
theorem J6N {v:Int}:∀ (as:List Arc) (fl:List Int) (A:Arc) (y:Int),fl.length=as.length->exF (as++[A]) (fl++[y]) v=exF as fl v+((if A.b=v then y else 0) - (if A.a=v then y else 0))
 | [],[],A,y,_=>by simp [exF]
 | [],_::_,_,_,h=>by simp at h
 | _::_,[],_,_,h=>by simp at h
 | B::as,x::fl,A,y,h=>by
   show _ - _+exF (as++[A]) (fl++[y]) v=_ - _+exF as fl v+_;rw [J6N as fl A y (by simpa using h)];omega
structure Flow (as:List Arc)(fl:List Int):Prop where
 bnd:Bnd as fl
 ex:∀ v,exF as fl v=0
theorem Flow.len {as:List Arc}(h:Flow as fl):fl.length=as.length:=h.bnd.1.symm
theorem J2D {a:Nat}{G:Nat->Int}{x:Int}:((List.range m).map G).set a x=(List.range m).map fun n=>if n=a then x else G n:=by
 refine ext_getElem? fun i=>?_;by_cases hi:i<m
 ·by_cases e:i=a
  ·subst e
   rw [List.getElem?_set_self (by simpa using hi),ze,List.getElem?_range hi];simp
  ·rw [List.getElem?_set_ne (Ne.symm e),ze,ze,List.getElem?_range hi]
   simp [e]
 ·rw [List.getElem?_eq_none (by simp;omega),List.getElem?_eq_none (by simp;omega)]
theorem J2c {a:Nat}{G:Nat->Int}(h:a<m):((List.range m).map G).getD a 0=G a:=J12 (by rw [ze,List.getElem?_range h];rfl)
theorem J6L {m:Nat}{as:List Arc}{fl:List Int}(hin:∀ A∈as,InN m A)(hl:fl.length=as.length):∀ i,i<=as.length->J1o m as fl i=(List.range m).map fun n:Nat=>exF (as.take i) (fl.take i) (n:Int)
 | 0,_=>by
   show List.replicate m 0=(List.range m).map fun n:Nat=>(0:Int);rw [map_const',zo]
 | i + 1,h=>by
   obtain ⟨A,hA⟩:∃ A,as[i]?=some A:=⟨_,yU (by omega)⟩;obtain ⟨y,hy⟩:∃ y,fl[i]?=some y:=⟨_,yU (by omega)⟩;obtain ⟨a0,a1,b0,b1⟩:=hin A (y4 hA);obtain ⟨a,ea⟩:=Int.eq_ofNat_of_zero_le a0;obtain ⟨b,eb⟩:=Int.eq_ofNat_of_zero_le b0;show J3t (J1o m as fl i) (as.getD i default) (fl.getD i 0)=_;rw [J6L hin hl i (by omega),J12 hA,J12 hy];unfold J3t;rw [ea,eb,Int.toNat_natCast,Int.toNat_natCast,J2c (by omega),J2D,J2c (by omega),J2D];refine map_congr_left fun n hn=>?_;rw [take_succ,take_succ,hA,hy,show (some A).toList=[A] from rfl,show (some y).toList=[y] from rfl,J6N _ _ _ _ (by rw [y7,y7];omega),ea,eb];by_cases e1:n=b<;>by_cases e2:n=a
   ·subst e1 e2
    simp
   ·subst e1
    rw [yI rfl,yH e2,yI rfl,yH (by omega)];omega
   ·subst e2
    rw [yH e1,yI rfl,yH (by omega),yI rfl];omega
   ·rw [yH e1,yH e2,yH (by omega),yH (by omega)];omega
abbrev J6w (zs:List Nat):List Int:=zs.map fun z:Nat=>(z:Int)
theorem J8H (zs:List Nat):zs.map J0T=(J6w zs).map V.int:=by rw [map_map];rfl
theorem Jcp {zs:List Nat}:(n:Int)∈J6w zs↔n∈zs:=by
 rw [zl]
 exact ⟨fun ⟨u,hu,e⟩=>by have e':u=n:=by omega
                         exact e' ▸ hu,fun h=>⟨n,h,rfl⟩⟩
def J3D (F:Nat->Int):Nat->Int
 | 0=>0
 | n+1=>J3D F n+F n
theorem J7L {F G:Nat->Int}:∀ n,(∀ v,v<n->F v<=G v)->J3D F n<=J3D G n
 | 0,_=>Int.le_refl _
 | n+1,h=>by
   have h1:=J7L n fun v hv=>h v (by omega);have h2:=h n (by omega);show J3D F n+F n<=J3D G n+G n;omega
theorem J6d:∀ {F:Nat->Int} n,(∀ v,v<n->F v=0)->J3D F n=0
 | _,0,_=>rfl
 | F,n+1,h=>by
   show J3D F n+F n=0;rw [J6d n fun v hv=>h v (by omega),h n (by omega)];rfl
def J4U (x:Int):Int:=if 0<x then x else 0
def Jdz (x:Int):Int:=if x<0 then -x else 0
theorem J9K {x:Int}(h:0<x):J4U x=x:=yI h
theorem JaQ {x:Int}(h:¬ 0<x):J4U x=0:=yH h
def drN (m:Nat)(G:Nat->Int):Nat->List Arc
 | 0=>[]
 | n+1=>drN m G n++(if 0<G n then [⟨(m:Int),(n:Int),0,G n⟩] else [])
def gvN (m:Nat)(G:Nat->Int):Nat->List Arc
 | 0=>[]
 | n+1=>gvN m G n++(if G n<0 then [⟨(n:Int),(m:Int)+1,0,-G n⟩] else [])
theorem J7y (m:Nat)(G:Nat->Int):∀ n,(drN m G n).length<=n
 | 0=>yJ _
 | n+1=>by
   have:=J7y m G n;show (drN m G n++_).length<=n+1;rw [y6]
   split
   ·rw [length_singleton];omega
   ·rw [length_nil];omega
theorem J7u (m:Nat)(G:Nat->Int):∀ n,(gvN m G n).length<=n
 | 0=>yJ _
 | n+1=>by
   have:=J7u m G n;show (gvN m G n++_).length<=n+1;rw [y6]
   split
   ·rw [length_singleton];omega
   ·rw [length_nil];omega
theorem dr_in {m:Nat}{G:Nat->Int}:∀ {n:Nat},n<=m->∀ A∈drN m G n,InN (m+2) A/\A.l=0/\0<=A.u
 | 0,_,A,h=>by cases h
 | n + 1,hn,A,h=>by
   rcases zh.mp (show A∈drN m G n++(if 0<G n then [⟨(m:Int),(n:Int),0,G n⟩] else []) from h) with q | q
   ·exact dr_in (by omega) A q
   ·split at q
    ·rw [yX.mp q]
     exact ⟨⟨by show (0:Int)<=m;omega,by show (m:Int)<((m+2:Nat):Int);omega,by show (0:Int)<=n;omega,by show (n:Int)<((m+2:Nat):Int);omega⟩,rfl,by show 0<=G n;omega⟩
    ·cases q
theorem gv_in {m:Nat}{G:Nat->Int}:∀ {n:Nat},n<=m->∀ A∈gvN m G n,InN (m+2) A/\A.l=0/\0<=A.u
 | 0,_,A,h=>by cases h
 | n + 1,hn,A,h=>by
   rcases zh.mp (show A∈gvN m G n++(if G n<0 then [⟨(n:Int),(m:Int)+1,0,-G n⟩] else []) from h) with q | q
   ·exact gv_in (by omega) A q
   ·split at q
    ·rw [yX.mp q]
     exact ⟨⟨by show (0:Int)<=n;omega,by show (n:Int)<((m+2:Nat):Int);omega,by show (0:Int)<=(m:Int)+1;omega,by show (m:Int)+1<((m+2:Nat):Int);omega⟩,rfl,by show 0<=-G n;omega⟩
    ·cases q
def J75 (m:Nat)(G:Nat->Int)(as:List Arc):List Arc:=as++drN m G m++gvN m G m
def low (as:List Arc):List Int:=as.map (·.l)
theorem J5i {H:Hp}:∀ {kvs:List (Key×V)} {es:List Ent},EntsV H kvs es->kvs.map (·.1)=((Jr es).map fun n:Nat=>(n:Int)).map Sum.inl
 | [],[],_=>rfl
 | [],_::_,h=>by have:=h.1;simp at this
 | _::_,[],h=>by have:=h.1;simp at this
 | kv::kvs,e::es,h=>by
   obtain ⟨h1,h2⟩:=All2.tail h;have ih:=J5i h2;unfold Jr at *;rw [zd,zd,zd,zd,ih,h1.1]
theorem J6k {ks:List Nat}{ms:List Int}(hp:ms.Perm (ks.map fun n:Nat=>(n:Int)))(hs:ms.Pairwise (·<=·))(hd:ks.Nodup):∃ ns:List Nat,ms.map V.int=ns.map J0T/\ns.Perm ks/\ns.Pairwise (·<·):=by
 have hpos:∀ m∈ms,∃ n:Nat,m=(n:Int):=fun m hm=>by
  obtain ⟨n,_,e⟩:=zl.mp (hp.mem_iff.mp hm);exact ⟨n,e.symm⟩
 have hpm:(ms.map Int.toNat).Perm ks:=by
  have:=hp.map Int.toNat;rw [map_map] at this;have e:(Int.toNat∘fun n:Nat=>(n:Int))=id:=by funext n;simp
  rwa [e,map_id] at this
 have hle:(ms.map Int.toNat).Pairwise (·<=·):=by
  rw [pairwise_map];refine List.Pairwise.imp_of_mem (fun {a b} ha hb hab=>?_) hs;obtain ⟨n,rfl⟩:=hpos a ha;obtain ⟨m,rfl⟩:=hpos b hb;simp only [Int.toNat_natCast];omega
 refine ⟨ms.map Int.toNat,?_,hpm,(hle.and (hpm.nodup_iff.mpr hd)).imp fun ⟨x,y⟩=>by omega⟩;rw [map_map];refine map_congr_left fun m hm=>?_;obtain ⟨n,rfl⟩:=hpos m hm;rfl
structure NetA (H:Hp)(la:Addr)(xs:List V)(m:Nat)(as:List Arc):Prop where
 la:H la=some (.lst xs)
 arcs:ArcsV H xs as
 m1:1<=m
 m2:m<=120
 len:as.length<=300
 ok:∀ A∈as,ArcOk m A
theorem NetA.mono {la:Addr}{as:List Arc}(s:Same H H')(h:NetA H la xs m as):NetA H' la xs m as:=⟨s _ _ h.la,h.arcs.mono s,h.m1,h.m2,h.len,h.ok⟩
def fcS (g:Bool):Str:=if g then "flow" else "cut"
def FcR (_:Nat)(_:List Arc)(_:Bool)(zs:List Int):Prop:=zs.length<=300
def Jd3 (f:Nat->Addr):Sp:=fun vs H Q _=>∃ (m:Nat) (la:Addr) (xs:List V) (as:List Arc),vs=[.int m,.ref la]/\NetA H la xs m as /\
 ∀ H' t pl g zs,Same H H'->H' t=some (.tup [.str (fcS g),.ref pl])->H pl=none->H' pl=some (.lst (zs.map V.int))->FcR m as g zs->Q (.ref t) H'
theorem J8i {m:Nat}{G:Nat->Int}:∀ n,((drN m G n).map Arc.u).foldl (·+·) 0=J3D (fun v=>J4U (G v)) n
 | 0=>rfl
 | n + 1=>by
   show ((drN m G n++(if 0<G n then [(⟨(m:Int),(n:Int),0,G n⟩:Arc)] else [])).map Arc.u).foldl (·+·) 0=J3D (fun v=>J4U (G v)) n+J4U (G n);rw [zg,foldl_append,J8i n];by_cases c:0<G n
   ·rw [yI c,J9K c];rfl
   ·rw [yH c,JaQ c]
    show J3D _ n=_+0;omega
def J41 (K:Frag)(f:Nat->Addr):Sp:=Jd3 f
theorem ok_flow_or_cut (T:Txt K mg f fd):FnOk P w K mg base CX0 5 (f 11) (fd 11) ["many","arcs"] (J41 K f):=by
 walk_at "ok wH J03"
 ·obtain ⟨m,la,xs,as,rfl,_⟩:=h
  rfl
 ·obtain ⟨m,la,xs,as,rfl,N,k⟩:=h
  refine ⟨_,(Jd (J1w ["arc"] ["many","arcs","leasts","over","drawn","given","due","stream"] rfl (show CompSc _ (Jg J01) ["many","arcs","leasts","over","drawn","given","due","stream"] ["many","arcs","leasts","over","drawn","given","due","stream"] from Jp (by decide +kernel)) J03.nd (i:=2) rfl rfl (J0d rfl (pvl 1)) (fun _ _ _ _ _=>(pgl 0 (show (["arc","many","arcs","leasts","over","drawn","given","due","stream"]:List Str).Nodup by decide +kernel))) (fun _ _ _ _ _=>JN) (fun _ _ _ _ _=>(JD (J0V rfl) (pvl 0) Je (fun _ _=>rfl))))
   (Jd (psl 3 J03.nd (Jk T.wG (ok_gains T) (hr.mono (by decide)) rfl (by decide) rfl (pal rfl (pvc 0) (pal rfl (pvl 1) (pal rfl (pvl 2) Jb)))))
   (Jd (J1w ["node","number"] ["many","arcs","leasts","over","drawn","given","due","stream"] rfl (show CompSc _ (Jg J01) ["many","arcs","leasts","over","drawn","given","due","stream"] ["many","arcs","leasts","over","drawn","given","due","stream"] from Jp (by decide +kernel)) J03.nd (i:=4) rfl rfl (J1c rfl T.wm (pal rfl (pvl 3) Jb) rfl) (fun _ _ _ _ _=>(JbM K 0 1 (show (["node","number","many","arcs","leasts","over","drawn","given","due","stream"]:List Str).Nodup by decide +kernel))) (fun _ _ _ _ _=>(J2p (Jj J30 (pvl 1) Je (Jo _)))) (fun _ _ _ _ _=>(Jt (pal rfl (pvc 2) (pal rfl (pvl 0) (pal rfl Je (pal rfl (pvl 1) Jb)))))))
   (Jd (J1w ["node","number"] ["many","arcs","leasts","over","drawn","given","due","stream"] rfl (show CompSc _ (Jg J01) ["many","arcs","leasts","over","drawn","given","due","stream"] ["many","arcs","leasts","over","drawn","given","due","stream"] from Jp (by decide +kernel)) J03.nd (i:=5) rfl rfl (J1c rfl T.wm (pal rfl (pvl 3) Jb) rfl) (fun _ _ _ _ _=>(JbM K 0 1 (show (["node","number","many","arcs","leasts","over","drawn","given","due","stream"]:List Str).Nodup by decide +kernel))) (fun _ _ _ _ _=>(J2p (Jj J4m (pvl 1) Je (Jo _)))) (fun _ _ _ _ _=>(Jt (pal rfl (pvl 0) (pal rfl (Jm JO (pvc 2) Je) (pal rfl Je (pal rfl (J3v J23 (pvl 1)) Jb)))))))
   (Jd (psl 6 J03.nd (JC (J1m rfl rfl) T.wk J1p rfl (by decide) (by decide) rfl (pal rfl (JW ["arc"] ["many","arcs","leasts","over","drawn","given","due","stream"] rfl (show CompSc _ (Jg J01) ["many","arcs","leasts","over","drawn","given","due","stream"] ["many","arcs","leasts","over","drawn","given","due","stream"] from Jp (by decide +kernel)) (J0d rfl (pvl 4)) (fun _ _ _ _ _=>(pgl 0 (show (["arc","many","arcs","leasts","over","drawn","given","due","stream"]:List Str).Nodup by decide +kernel))) (fun _ _ _ _ _=>JN) (fun _ _ _ _ _=>(JD (J0V rfl) (pvl 0) Je (fun _ _=>rfl)))) Jb)))
   (Jd (psl 7 J03.nd (JaT T.we.mkr (ok_Stream___init__ T) (hr.mono (by decide)) rfl T.we.m T.wV.b .nil J3w (pal rfl (Jm JO (pvc 0) Je) (pal rfl (Jm J0X (Jm J0X (pvl 1) (pvl 4)) (pvl 5)) (pal rfl (Jm J0X (pvl 2) (Jm J9S (JL (pal rfl Je Jb)) (JC (J0x rfl) T.wa J00 rfl (by decide) (by decide) rfl (pal rfl (Jm J0X (pvl 4) (pvl 5)) Jb)))) Jb))) (by decide) rfl rfl))
   (Jd (JY (Jj J0E (J2q (pvl 7) T.we.cls T.yf (ok_Stream_push T) (hr.mono (by decide)) T.wX.b .nil J3w (pal rfl (pvc 0) (pal rfl (Jm JO (pvc 0) Je) (pal rfl (pvl 6) Jb))) rfl rfl rfl) (pvl 6) (Jo _))
   (Jh (Jy (Jt (pal rfl Jz (pal rfl (J0h (J2e rfl) (J1U (pvl 7) rfl) J0O (J0t (JC (J0x rfl) T.wa J00 rfl (by decide) (by decide) rfl (pal rfl (pvl 1) Jb)))) Jb)))))
   Js)
   (Jh (Jy (Jt (pal rfl Jz (pal rfl (JW ["node"] ["many","arcs","leasts","over","drawn","given","due","stream"] rfl (show CompSc _ (Jg J01) ["many","arcs","leasts","over","drawn","given","due","stream"] ["many","arcs","leasts","over","drawn","given","due","stream"] from Jp (by decide +kernel)) (J0d rfl (JC (J4Y rfl) T.wo J2w rfl (by decide) (by decide) rfl (pal rfl (J2q (pvl 7) T.we.cls T.yb (ok_Stream_reach T) (hr.mono (by decide)) T.wE.b .nil J3w (pal rfl (pvc 0) Jb) rfl rfl rfl) Jb))) (fun _ _ _ _ _=>(pgl 0 (show (["node","many","arcs","leasts","over","drawn","given","due","stream"]:List Str).Nodup by decide +kernel))) (fun _ _ _ _ _=>(J2p (Jj J4m (pvl 0) (pvc 1) (Jo _)))) (fun _ _ _ _ _=>(pvl 0))) Jb)))))))))))),?_⟩
  generalize hB:JI (J14 _ (JK 7)) _=B;generalize hB6:JI _ B=B6;generalize hB5:JI _ B6=B5;generalize hB4:JI _ B5=B4;generalize hB3:JI _ B4=B3;walk_at "dl";have hxl:=N.arcs.1;have J05:=N.len;have hm2:=N.m2;have hin:∀ A∈as,InN m A:=fun A hA=>(N.ok A hA).inn;refine ⟨⟨_,.of N.la⟩,?_⟩;refine Jx Ju (by rw [hxl];exact Jc (by omega)) (fun i ys H'=>Same H H'/\ys=(low (as.take i)).map V.int) ⟨Same.refl _,rfl⟩ (fun _ _ _ _ q=>.of (q.1 _ _ N.la)) (fun i ys H' q=>by rw [q.2];unfold low;rw [yW,yW,y7];omega) ?_ ?_
  ·rintro i x ys H1 hx ⟨s1,rfl⟩
   obtain ⟨A,hAi,pa,rfl,hpa⟩:=All2.at N.arcs hx;walk_at "dl";unfold Arc.vs at hpa;refine ⟨pa,_,_,_,rfl,rfl,.of (s1 _ _ hpa),Jn (j:=2) rfl,⟨_,rfl⟩,s1,?_⟩;unfold low;rw [take_succ,hAi,zg,zg];rfl
  rintro ys H1 ⟨s1,rfl⟩ p1 hp1;rw [take_of_length_le (by omega)];have u1:=s1.new hp1 (HO.lst ((low as).map V.int));have g1:upd H1 p1 (HO.lst ((low as).map V.int)) p1=some (.lst ((low as).map V.int)):=Ja;generalize upd H1 p1 (HO.lst ((low as).map V.int))=H2 at *;have ll:(low as).length=as.length:=yW ..;subst hB3;walk_at "dl";refine ⟨m,la,p1,xs,as,low as,rfl,hm2,u1 _ _ N.la,N.arcs.mono u1,g1,ll,by omega,hin,fun H3 p3 s3 g3=>?_⟩;rw [J6L hin ll _ (yJ _),take_of_length_le (yJ _),take_of_length_le (Nat.le_of_eq ll)] at g3;obtain ⟨G,hG⟩:∃ G:Nat->Int,(fun n:Nat=>exF as (low as) (n:Int))=G:=⟨_,rfl⟩;rw [hG] at g3;have hGv:∀ v:Nat,v<m->exF as (low as) v=G v:=fun v _=>congrFun hG v;have s03:=u1.trans s3;have g13:=s3 _ _ g1;clear s1 hp1 u1 g1 s3 hG;subst hB4;walk_at "dl";refine ⟨⟨_,.of g3⟩,?_⟩;have lG:(((List.range m).map G).map V.int).length=m:=by rw [yW,yW,zo]
  have atG:∀ (i:Nat) x,(((List.range m).map G).map V.int)[i]?=some x->i<m/\x=V.int (G i):=fun i x hx=>by
   have hi:=(yV.mp hx).1;rw [lG] at hi;rw [ze,ze,List.getElem?_range hi] at hx;exact ⟨hi,(yN hx).symm⟩
  refine J5k (by rw [lG];exact Jc (by omega)) (fun i zs σ H'=>(∃ o0 o1,σ=[o0,o1,some (V.int (m:Int)),some (V.ref la),some (V.ref p1),some (V.ref p3),none,none,none,none])/\Same H3 H'/\ArcsV H' zs (drN m G i)) ⟨⟨none,none,rfl⟩,Same.refl _,All2.nil⟩ (fun i zs σ H' q=>⟨.of (q.2.1 _ _ g3),by rw [q.2.2.1];exact J7y m G i⟩) ?_ ?_
  ·rintro i x zs σ H4 q hx ⟨⟨o0,o1,rfl⟩,s4,A4⟩ hq
   obtain ⟨hi,rfl⟩:=atG i x hx;refine ⟨q,_,rfl,.of Ja,rfl,?_⟩;simp only [J0y,J1X,JK];walk_at "dl";have s5:=s4.new hq (HO.tup [V.int (i:Int),V.int (G i)]);have A5:=A4.mono (Same.upd_new hq (HO.tup [V.int (i:Int),V.int (G i)]));generalize upd H4 q (HO.tup [V.int (i:Int),V.int (G i)])=H5 at *;have e:drN m G (i+1)=drN m G i++(if 0<G i then [⟨(m:Int),(i:Int),0,G i⟩] else []):=rfl;by_cases c:0<G i
   ·rw [yI c]
    rw [yI c] at e;refine ⟨Jc (by decide),fun p hp=>⟨⟨_,rfl⟩,s5.new hp _,?_⟩⟩;rw [e];exact All2.snoc (A5.mono (Same.upd_new hp _)) ⟨p,rfl,Ja⟩
   ·rw [yH c]
    rw [yH c,append_nil] at e;rw [e];exact ⟨⟨_,rfl⟩,s5,A5⟩
  rintro zs1 σ1 H4 ⟨_,s4,A4⟩ p4 hp4;rw [lG] at A4;have A5:=A4.mono (Same.upd_new hp4 (HO.lst zs1));have s5:=s4.new hp4 (HO.lst zs1);have g5:upd H4 p4 (HO.lst zs1) p4=some (.lst zs1):=Ja;generalize upd H4 p4 (HO.lst zs1)=H5 at *;clear A4 s4 hp4;subst hB5;walk_at "dl";refine ⟨⟨_,.of (s5 _ _ g3)⟩,?_⟩;refine J5k (by rw [lG];exact Jc (by omega)) (fun i zs σ H'=>(∃ o0 o1,σ=[o0,o1,some (V.int (m:Int)),some (V.ref la),some (V.ref p1),some (V.ref p3),some (V.ref p4),none,none,none])/\Same H5 H'/\ArcsV H' zs (gvN m G i)) ⟨⟨none,none,rfl⟩,Same.refl _,All2.nil⟩ (fun i zs σ H' q=>⟨.of (q.2.1 _ _ (s5 _ _ g3)),by rw [q.2.2.1];exact J7u m G i⟩) ?_ ?_
  ·rintro i x zs σ H6 q hx ⟨⟨o0,o1,rfl⟩,s6,A6⟩ hq
   obtain ⟨hi,rfl⟩:=atG i x hx;refine ⟨q,_,rfl,.of Ja,rfl,?_⟩;simp only [J0y,J1X,JK];walk_at "dl";have s7:=s6.new hq (HO.tup [V.int (i:Int),V.int (G i)]);have A7:=A6.mono (Same.upd_new hq (HO.tup [V.int (i:Int),V.int (G i)]));generalize upd H6 q (HO.tup [V.int (i:Int),V.int (G i)])=H7 at *;have e:gvN m G (i+1)=gvN m G i++(if G i<0 then [⟨(i:Int),(m:Int)+1,0,-G i⟩] else []):=rfl;by_cases c:G i<0
   ·rw [yI c]
    rw [yI c] at e;refine ⟨Jc (by decide),fun p hp=>⟨⟨_,rfl⟩,s7.new hp _,?_⟩⟩;rw [e];exact All2.snoc (A7.mono (Same.upd_new hp _)) ⟨p,rfl,Ja⟩
   ·rw [yH c]
    rw [yH c,append_nil] at e;rw [e];exact ⟨⟨_,rfl⟩,s7,A7⟩
  rintro zs2 σ2 H6 ⟨_,s6,A6⟩ p6 hp6;rw [lG] at A6;have A7:=A6.mono (Same.upd_new hp6 (HO.lst zs2));have s57:=s6.new hp6 (HO.lst zs2);have g7:upd H6 p6 (HO.lst zs2) p6=some (.lst zs2):=Ja;generalize upd H6 p6 (HO.lst zs2)=H7 at *;clear A6 s6 hp6;have g57:=s57 _ _ g5;have A57:=A5.mono s57;have s37:=s5.trans s57;subst hB6;walk_at "dl";refine ⟨⟨_,.of g57⟩,?_⟩;have hzl:=A5.1;have hz2:=A7.1;have hd1:=J7y m G m;have hd2:=J7u m G m;refine Jx Ju (by rw [hzl];exact Jc (by omega)) (fun i ys H'=>Same H7 H'/\ys=(((drN m G m).take i).map Arc.u).map V.int) ⟨Same.refl _,rfl⟩ (fun _ _ _ _ q=>.of (q.1 _ _ g57)) (fun i ys H' q=>by rw [q.2,yW,yW,y7];omega) ?_ ?_
  ·rintro i x ys H8 hx ⟨s8,rfl⟩
   obtain ⟨A,hAi,pa,rfl,hpa⟩:=All2.at A57 hx;walk_at "dl";unfold Arc.vs at hpa;refine ⟨pa,_,_,_,rfl,rfl,.of (s8 _ _ hpa),Jn (j:=3) rfl,⟨_,rfl⟩,s8,?_⟩;rw [take_succ,hAi,zg,zg];rfl
  rintro ys H8 ⟨s8,rfl⟩ p8 hp8;rw [take_of_length_le (by omega)];refine ⟨_,.of Ja,?_⟩;rw [J8i];have s79:=s8.new hp8 (HO.lst (((drN m G m).map Arc.u).map V.int));generalize upd H8 p8 (HO.lst (((drN m G m).map Arc.u).map V.int))=H9 at *;have s09:=(s03.trans s37).trans s79;have g19:=s79 _ _ (s37 _ _ g13);have g49:=s79 _ _ g57;have g69:=s79 _ _ g7;have A49:=A57.mono s79;have A69:=A7.mono s79;have A09:=N.arcs.mono s09;have g09:=s09 _ _ N.la;clear s79 s37 s57 g57 g7 A57 A7 A5 g5 s5 hp8 s8 g3 g13 s03 atG lG;have fin:∀ (H':Hp) (t pl:Addr) (g:Bool) (zs:List Int),Same H9 H'->H' t=some (.tup [.str (fcS g),.ref pl])->H9 pl=none->H' pl=some (.lst (zs.map V.int))->FcR m as g zs->Q (.ref t) H':=fun H' t pl g zs s ht hp hl R=>k H' t pl g zs (s09.trans s) ht (s09.free hp) hl R;clear k;subst hB;generalize hB:JI (J17 _ _ _) _=B;walk_at "dl";have l0:=hxl;refine ⟨la,p4,_,_,rfl,rfl,g09,g49,Jc (by omega),fun q1 hq1=>?_⟩;have u1:=Same.upd_new hq1 (HO.lst (xs++zs1));have k1:upd H9 q1 (HO.lst (xs++zs1)) q1=some (.lst (xs++zs1)):=Ja;generalize upd H9 q1 (HO.lst (xs++zs1))=H10 at *;refine ⟨q1,p6,_,_,rfl,rfl,k1,u1 _ _ g69,by rw [y6];exact Jc (by omega),fun q2 hq2=>?_⟩;have u2:=u1.new hq2 (HO.lst (xs++zs1++zs2));have k2:upd H10 q2 (HO.lst (xs++zs1++zs2)) q2=some (.lst (xs++zs1++zs2)):=Ja;generalize upd H10 q2 (HO.lst (xs++zs1++zs2))=H11 at *;refine ⟨Jc (by decide),fun q3 hq3=>?_⟩;have u3:=Same.upd_new hq3 (HO.lst [V.int 0]);have k3:upd H11 q3 (HO.lst [V.int 0]) q3=some (.lst [V.int 0]):=Ja;have v3:=u2.trans u3;generalize upd H11 q3 (HO.lst [V.int 0])=H12 at *;refine ⟨p4,p6,_,_,rfl,rfl,v3 _ _ g49,v3 _ _ g69,Jc (by omega),fun q4 hq4=>?_⟩;have u4:=Same.upd_new hq4 (HO.lst (zs1++zs2));have k4:upd H12 q4 (HO.lst (zs1++zs2)) q4=some (.lst (zs1++zs2)):=Ja;have v4:=v3.trans u4;generalize upd H12 q4 (HO.lst (zs1++zs2))=H13 at *;have l12:(zs1++zs2).length=(drN m G m).length+(gvN m G m).length:=by rw [y6];omega
  refine ⟨q4,rfl,_,.inl (.of k4),q3,((zs1++zs2).length:Nat),[V.int 0],rfl,rfl,u4 _ _ k3,by omega,by omega,by rw [Int.toNat_natCast];exact Jc (by simp;omega),fun q5 hq5=>?_⟩;rw [Int.toNat_natCast,J6o];have u5:=Same.upd_new hq5 (HO.lst ((List.replicate (zs1++zs2).length (0:Int)).map V.int));have k5:upd H13 q5 (HO.lst ((List.replicate (zs1++zs2).length (0:Int)).map V.int)) q5=some (.lst ((List.replicate (zs1++zs2).length (0:Int)).map V.int)):=Ja;have v5:=v4.trans u5;generalize upd H13 q5 (HO.lst ((List.replicate (zs1++zs2).length (0:Int)).map V.int))=H14 at *;refine ⟨p1,q5,_,_,rfl,rfl,v5 _ _ g19,k5,by rw [yW,yW,zq,ll];exact Jc (by omega),fun q6 hq6=>?_⟩;rw [<- zg];generalize hn0:(zs1++zs2).length=n0 at *;have u6:=Same.upd_new hq6 (HO.lst ((low as++List.replicate n0 0).map V.int));have k6:upd H14 q6 (HO.lst ((low as++List.replicate n0 0).map V.int)) q6=some (.lst ((low as++List.replicate n0 0).map V.int)):=Ja;have v6:=v5.trans u6;have k26:=u6 _ _ (u5 _ _ (u4 _ _ (u3 _ _ k2)));generalize upd H14 q6 (HO.lst ((low as++List.replicate n0 0).map V.int))=H15 at *;have AW:ArcsV H15 (xs++zs1++zs2) (J75 m G as):=All2.append (All2.append (A09.mono v6) (A49.mono v6)) (A69.mono v6);clear u1 u2 u3 u4 u5 u6 k1 k2 k3 k4 k5 v3 v4 v5 hq1 hq2 hq3 hq4 hq5 hq6 A49 A69 A09 g49 g69;intro x dx hx hdx hne;have u7:=(Same.upd_new hdx (HO.own x)).new (show upd H15 dx (HO.own x) x=none by rw [Jf (Ne.symm hne)];exact hx) (HO.ins (f 10) dx []);have hwl:(J75 m G as).length=as.length+n0:=by unfold J75;rw [y6,y6];omega
  have hinW:∀ A∈J75 m G as,InN (m+2) A:=fun A hA=>by
   rcases zh.mp hA with hA | hA
   ·rcases zh.mp hA with hA | hA
    ·obtain ⟨a0,a1,b0,b1⟩:=hin A hA
     exact ⟨a0,by omega,b0,by omega⟩
    ·exact (dr_in (yJ _) A hA).1
   ·exact (gv_in (yJ _) A hA).1
  have hbW:Bnd (J75 m G as) (low as++List.replicate n0 0):=by
   refine ⟨by rw [hwl,y6,zq,ll],fun i A y hA hy=>?_⟩;have hi:=(yV.mp hA).1;unfold J75 at hA;rw [zp] at hA;by_cases c:i<as.length
   ·rw [zn c] at hA
    rw [zn (by omega)] at hy;unfold low at hy;rw [ze,hA] at hy;cases hy;exact ⟨Int.le_refl _,(N.ok A (y4 hA)).hi⟩
   ·rw [zm (by omega)] at hA hy
    rw [List.getElem?_replicate,yI (by omega)] at hy;cases hy;rcases zh.mp (y4 hA) with hA | hA
    ·have:=(dr_in (yJ _) A hA).2
     omega
    ·have:=(gv_in (yJ _) A hA).2
     omega
  have due0:0<=J3D (fun v=>J4U (G v)) m:=by
   have:=J7L (F:=fun _=>0) (G:=fun v=>J4U (G v)) m fun v _=>by
    show (0:Int)<=J4U (G v);unfold J4U
    split<;>omega
   rw [J6d m fun _ _=>rfl] at this;exact this
  refine ⟨x,dx,q2,q6,m+2,xs++zs1++zs2,J75 m G as,low as++List.replicate n0 0,by simp,Ja,by omega,u7 _ _ k26,AW.mono u7,by omega,hinW,u7 _ _ k6,by rw [hwl,y6,zq,ll],fun H16 lb B16 hlb S16=>⟨rfl,?_⟩⟩;have s16:Same H9 H16:=fun b o hbo=>by
   have h5:=v6 _ _ hbo;exact B16 b o (fun e=>by subst e;rw [hx] at h5;cases h5) (u7 _ _ h5)
  have fl0:H9 lb=none:=v6.free (u7.free hlb);generalize hdue:J3D (fun v=>J4U (G v)) m=due at *;clear B16 u7 k6 k26 AW hx hdx hne v6 hlb;subst hB;walk_at "dl";obtain ⟨dx0,la',ls',xs',sa',hx0,_⟩:=S16.ex;refine ⟨dx0,_,hx0,rfl,x,lb,m,m+1,m+2,due,_,_,rfl,S16,hbW,by omega,by omega,by omega,due0,fun H17 fl2 d B17 S17 P17 d0 dl hor=>⟨rfl,?_⟩⟩;have s17:Same H9 H17:=fun b o e=>B17 b o (fun z=>by subst z;rw [fl0] at e;cases e) (s16 _ _ e);obtain ⟨dx3,la3,ls3,xs3,sa3,hx3,_,_,hb3,_⟩:=S17.ex;have hl2:=S17.len;by_cases c0:V.int d=V.int due
  ·rw [yI c0]
   refine ⟨_,_,_,hx3,T.we.cls,T.wp,_,rfl,_,.inl (.of (s17 _ _ g09)),lb,rfl,_,.of hb3,fun p hp=>⟨Jc (by decide),fun t ht=>?_⟩⟩;rw [hxl,J3o (by rw [yW];omega),<- map_take] at *;refine fin _ t p true (fl2.take as.length) ((s17.new hp _).new ht _) Ja (s17.free hp) (Same.upd_new ht _ _ _ Ja) (show (fl2.take as.length).length<=300 by rw [y7];omega)
  ·rw [yH c0]
   refine ⟨dx3,_,hx3,rfl,x,m,m+2,_,_,rfl,S17.stream,by omega,fun H18 pd kvs es s18 hpd he hcm=>⟨pd,rfl,kvs,hpd,_,J5i he,?_,fun p5 ms hp5 hperm hsort=>?_⟩⟩
   ·have h1:=hcm.toCInv.len
    rw [he.1];omega
   ·obtain ⟨ns,e1,e2,e3⟩:=J6k hperm hsort hcm.nd
    rw [e1];have ln:ns.length<=m+2:=by rw [e2.length_eq];have h1:=hcm.toCInv.len;unfold Jr;rw [yW];omega
    have s19:=(s17.trans s18).new hp5 (HO.lst (ns.map J0T));have g20:upd H18 p5 (HO.lst (ns.map J0T)) p5=some (.lst (ns.map J0T)):=Ja;generalize upd H18 p5 (HO.lst (ns.map J0T))=H19 at *;refine ⟨⟨_,.of g20⟩,?_⟩;refine Jx (xs:=ns.map J0T) Ju (by rw [yW];exact Jc (by omega)) (fun i ys H'=>H'=H19/\ys=((ns.take i).filter (·<m)).map J0T) ⟨rfl,rfl⟩ (fun _ _ _ _ q=>by rw [q.1];exact .of g20) (fun i ys H' q=>by rw [q.2,yW];exact yR (length_filter_le _ _) (by rw [y7];omega)) ?_ ?_
    ·rintro i y ys H20 hy ⟨rfl,rfl⟩
     rw [ze] at hy;obtain ⟨n,hn,rfl⟩:=Option.map_eq_some_iff.mp hy;unfold J0T;walk_at "dl";rw [take_succ,hn,filter_append,zg];by_cases c:n<m
     ·rw [yI (by omega)]
      refine ⟨⟨_,rfl⟩,?_⟩;simp [c,J0T]
     ·rw [yH (by omega)]
      refine ⟨⟨_,rfl⟩,?_⟩;simp [c]
    ·rintro ys H20 ⟨rfl,rfl⟩ p6' hp6'
     rw [yW,take_of_length_le (yJ _),J8H];refine ⟨Jc (by decide),fun t ht=>?_⟩;refine fin _ t p6' false (J6w (ns.filter (·<m))) ((s19.new hp6' _).new ht _) Ja (s19.free hp6') (Same.upd_new ht _ _ _ Ja) (show (J6w (ns.filter (·<m))).length<=300 by unfold J6w;rw [yW];exact yR (length_filter_le _ _) (by omega))
abbrev sm (zs:List Int):Int:=zs.foldl (·+·) 0
theorem J9m:∀ (zs:List Int) (a:Int),zs.foldl (·+·) a=a+sm zs
 | [],a=>by simp [sm]
 | z::zs,a=>by
   show zs.foldl (·+·) (a+z)=a+zs.foldl (·+·) (0+z);rw [J9m zs (a+z),J9m zs (0+z)];omega
theorem J3N (z:Int)(zs:List Int):sm (z::zs)=z+sm zs:=by
 show zs.foldl (·+·) (0+z)=_;rw [J9m];omega
theorem J8w:∀ (xs ys:List Int),sm (xs++ys)=sm xs+sm ys
 | [],ys=>by simp [sm]
 | x::xs,ys=>by rw [cons_append,J3N,J3N,J8w xs ys];omega
theorem J1E:∀ {zs:List Int},(∀ z∈zs,0<=z)->0<=sm zs
 | [],_=>by simp [sm]
 | z::zs,h=>by
   have:=h z y9;have:=J1E (zs:=zs) fun y hy=>h y (y8 _ hy);rw [J3N];omega
def J08 (g:List (List Int))(j:Nat):List Int:=g.map fun r=>r.getD j 0
def J42 (K:Frag):Sp:=fun vs H Q _=>∃ (lg:Addr) (xs:List V) (g:List (List Int)) (R C:Nat),vs=[.ref lg]/\H lg=some (.lst xs)/\GridV H xs g/\GOk g R C/\R<=100/\C<=100 /\
 ∀ H' p,Same H H'->H p=none->H' p=some (.lst (((List.range (if R=0 then 0 else C)).map fun j=>sm (J08 g j)).map V.int))->Q (.ref p) H'
theorem ok_column_sums (T:Txt K mg f fd):FnOk P w K mg base CX0 1 (f 13) (fd 13) ["grid"] (J42 K):=by
 walk_at "ok wu J27"
 ·obtain ⟨lg,xs,g,R,C,rfl,_⟩:=h
  rfl
 ·obtain ⟨lg,xs,g,R,C,rfl,hlg,hg,ok,hR,hC,k⟩:=h
  refine ⟨_,(Jd (psl 1 J27.nd (J4l (J1F (pvc 0) (fun _=>rfl)) (JC (J0x rfl) T.wa J00 rfl (by decide) (by decide) rfl (pal rfl (JD (J0c rfl) (pvc 0) Je (fun _ _=>rfl)) Jb)) Je))
   (Jh (Jy (J9Q ["at"] ["grid","width"] rfl (show CompScC _ (Jg J0D) ["grid","width"] ["grid","width"] from J7A (by decide +kernel)) (J0u rfl T.wj (pal rfl (pvl 1) Jb)) (fun _ _ _ _ _=>(pgc 0 (show (["at","grid","width"]:List Str).Nodup by decide +kernel))) (fun _ _ _ _ _=>JN) (fun _ _ _ _ _=>(JC (J1m rfl rfl) T.wk J1p rfl (by decide) (by decide) rfl (pal rfl (JW ["row"] ["at","grid","width"] rfl (Ja4 (osc:=Jg J0D) (N:=["at","grid","width"]) rfl rfl (Jp (by decide +kernel))) (J0d (K:=K) rfl (pvc 1)) (fun _ _ _ _ _=>(pgl 0 (show (["row","at","grid","width"]:List Str).Nodup by decide +kernel))) (fun _ _ _ _ _=>JN) (fun _ _ _ _ _=>(JD (J0c rfl) (pvl 0) (pvc 1) (fun _ _=>rfl)))) Jb))))))),?_⟩
  generalize hB:J2x _=B;walk_at "dl";have hgl:=hg.1;have hrl:=ok.rows;refine ⟨!xs.isEmpty,.inl ⟨xs,.of hlg,rfl⟩,?_⟩;have fin:∀ n:Nat,n<=100->(n=if R=0 then 0 else C)->B { nx:=fun _ H'=>Q .non H',rt:=Q } [some (V.ref lg),some (V.int n)] H:=by
   intro n hn en;subst hB;walk_at "dl";refine ⟨by omega,by omega,?_⟩;rw [Int.toNat_natCast];refine Jx J0e (by rw [Jv];exact Jc (by omega)) (fun i zs H'=>Same H H'/\zs=((List.range i).map fun j=>sm (J08 g j)).map V.int) ⟨Same.refl _,rfl⟩ (fun _ _ _ _ _=>trivial) (fun i zs H' q=>by rw [q.2];simp) ?_ ?_
   ·rintro i x zs H1 hx ⟨s1,rfl⟩
    obtain ⟨hi,rfl⟩:=J0r hx;have hiC:i<C:=by split at en<;>omega
    walk_at "dl";refine ⟨⟨_,.of (s1 _ _ hlg)⟩,?_⟩;refine Jx Ju (by rw [hgl];exact Jc (by omega)) (fun m ys H'=>Same H1 H'/\ys=((g.take m).map fun r=>r.getD i 0).map V.int) ⟨Same.refl _,rfl⟩ (fun _ _ _ _ q=>.of (q.1 _ _ (s1 _ _ hlg))) (fun m ys H' q=>by rw [q.2];simp;omega) ?_ ?_
    ·rintro m y ys H2 hy ⟨s2,rfl⟩
     obtain ⟨r,hr1,pr,rfl,hpr⟩:=All2.at hg hy;have hrl2:=ok.cols r (y4 hr1);have er:r[i]?=some (r.getD i 0):=by
      have:i<r.length:=by omega
      rw [yZ,yU this];rfl
     walk_at "dl";refine ⟨pr,_,_,V.int (r.getD i 0),rfl,rfl,.of (s2 _ _ (s1 _ _ hpr)),?_,⟨_,rfl⟩,s2,?_⟩
     ·rw [Int.zero_add];exact Jn (by rw [ze,er];rfl)
     ·rw [take_succ,hr1,zg,zg];rfl
    ·rintro ys H2 ⟨s2,rfl⟩ D hD
     rw [hgl,zf];refine ⟨_,.of Ja,⟨_,rfl⟩,(s1.trans s2).new hD _,?_⟩;rw [range_succ,zg,zg];rfl
   ·rintro zs H1 ⟨s1,rfl⟩ D hD
    rw [Jv,en] at *;exact k _ D (s1.new hD _) (s1.free hD) Ja
  cases xs with
  | nil =>
    have h0:R=0:=by rw [<- hrl,<- hgl];rfl
    rw [yH (by simp)];exact fin 0 (by omega) (by rw [yI h0])
  | cons x0 xs0 =>
    obtain ⟨r0,hr0,p0,rfl,hp0⟩:=All2.at hg (i:=0) (x:=x0) rfl;have hR0:R≠0:=by rw [<- hrl,<- hgl];simp
    have l0:=ok.cols r0 (y4 hr0);rw [yI (by simp)];refine ⟨lg,_,_,_,rfl,rfl,.of hlg,Jn (j:=0) rfl,p0,rfl,_,.inl (.of hp0),?_⟩;rw [yW,l0];exact fin C hC (by rw [yH hR0])
theorem rise_eq:∀ {a b:List Int},a.Pairwise (·<·)->b.Pairwise (·<·)->(∀ k,k∈a↔k∈b)->a=b
 | [],[],_,_,_=>rfl
 | [],y::b,_,_,h=>absurd ((h y).mpr y9) (by simp)
 | x::a,[],_,_,h=>absurd ((h x).mp y9) (by simp)
 | x :: a,y::b,ha,hb,h=>by
   obtain ⟨a1,a2⟩:=pairwise_cons.mp ha;obtain ⟨b1,b2⟩:=pairwise_cons.mp hb;have e:x=y:=by
    rcases zc.mp ((h x).mp y9) with z | z
    ·exact z
    ·rcases zc.mp ((h y).mpr y9) with w | w
     ·exact w.symm
     ·have:=b1 x z
      have:=a1 y w;omega
   subst e;rw [rise_eq a2 b2 fun k=>⟨fun hk=>?_,fun hk=>?_⟩]
   ·rcases zc.mp ((h k).mp (y8 _ hk)) with z | z
    ·have:=a1 k hk;omega
    ·exact z
   ·rcases zc.mp ((h k).mpr (y8 _ hk)) with z | z
    ·have:=b1 k hk;omega
    ·exact z
def J0B (n:Nat)(r:List Int):Prop:=r≠[]/\r.Pairwise (·<·)/\∀ z∈r,0<=z/\z<(n:Int)
def J43 (K:Frag)(f:Nat->Addr):Sp:=fun vs H Q E=>∃ (p:Addr) (r:List Int) (n:Nat),vs=[.ref p,.int n]/\H p=some (.lst (r.map V.int))/\r.length<=1000/\(J0B n r->∀ H',Same H H'->Q (.bl true) H')/\(¬ J0B n r->∀ H',Same H H'->E (.ref (f 5)) none H')
theorem J4n (T:Txt K mg f fd):FnOk P w K mg base (CXE P w) 1 (f 16) (fd 16) ["group","many"] (J43 K f):=by
 refine T.wI.F.okX J49 (fun vs H Q E h=>?_) (fun cdv A outer s H vs Q E hr h=>?_)
 ·obtain ⟨p,r,n,rfl,_⟩:=h
  rfl
 ·obtain ⟨p,r,n,rfl,hp,hl,k1,k2⟩:=h
  refine ⟨_,(Jd (JY (J9E (J1F (pvl 0) (fun _=>rfl)))
   (Jh (J1G J0Z rfl T.wf.x rfl T.wf.m (by decide) rfl (pal rfl Jz Jb)))
   Js)
   (Jd (JY (Jj (J87 rfl hr.units) (pvl 0) (J6s rfl rfl T.wo T.yy rfl rfl rfl (pvl 0)) (Jo _))
   (Jh (J1G J0Z rfl T.wf.x rfl T.wf.m (by decide) rfl (pal rfl Jz Jb)))
   Js)
   (Jd (JY (PW.pt (J6r (Jj J4m (JD (J0c rfl) (pvl 0) Je (fun _ _=>rfl)) Je (Jo _)) (J4f (Jj Jcz (JD (J0c rfl) (pvl 0) (J3v J23 Je) (fun _ _=>rfl)) (pvl 1) (Jo _)))))
   (Jh (J1G J0Z rfl T.wf.x rfl T.wf.m (by decide) rfl (pal rfl Jz Jb)))
   Js)
   (Jh (Jy J2B))))),?_⟩
  walk_at "dl";have no:∀ G,Same H G->¬ J0B n r->(1<=sizeLine/\E (Value.ref (f 5)) none G):=fun G s hn=>⟨Jc (by decide),k2 hn G s⟩;refine ⟨!(r.map V.int).isEmpty,.inl ⟨_,.of hp,rfl⟩,?_⟩;rcases r with _ | ⟨a,r0⟩
  ·rw [yI (by simp)]
   exact no H (Same.refl _) fun z=>z.1 rfl
  rw [yH (by simp)];refine ⟨a::r0,.of hp,hl,fun D ms hD hms hmem _=>?_⟩;have u1:=Same.upd_new hD (HO.lst (ms.map V.int));have g1:upd H D (HO.lst (ms.map V.int)) D=some (.lst (ms.map V.int)):=Ja;generalize upd H D (HO.lst (ms.map V.int))=H1 at *;refine Jce (u1 _ _ hp) g1 ⟨_,rfl,?_⟩;by_cases c:¬ a::r0=ms
  ·rw [yI (by simp [c])]
   exact no H1 u1 fun z=>c (rise_eq z.2.1 hms fun k=>(hmem k).symm)
  replace c:=Decidable.not_not.mp c
  rw [yH (by simp [c])];have hw:(a::r0).Pairwise (·<·):=by rw [c];exact hms
  refine ⟨p,_,_,_,rfl,rfl,.of (u1 _ _ hp),Jn (j:=0) rfl,a,rfl,?_⟩;by_cases c1:a<0
  ·rw [yI c1]
   exact no H1 u1 fun z=>by have:=(z.2.2 a y9).1;omega
  rw [yH c1];obtain ⟨ys,b,e⟩:∃ ys b,a::r0=ys++[b]:=⟨_,_,(dropLast_concat_getLast (l:=a::r0) (by simp)).symm⟩;refine ⟨p,_,_,.int b,rfl,rfl,.of (u1 _ _ hp),?_,b,rfl,?_⟩
  ·rw [e,zg]
   exact J73 _ _
  by_cases c2:(n:Int)<=b
  ·rw [yI c2]
   exact no H1 u1 fun z=>by have:=(z.2.2 b (by rw [e];simp)).2;omega
  rw [yH c2];refine k1 ⟨by simp,hw,fun z hz=>⟨?_,?_⟩⟩ H1 u1
  ·rcases zc.mp hz with rfl | hz
   ·omega
   ·have:=(pairwise_cons.mp hw).1 z hz;omega
  ·rw [e] at hz hw
   rcases zh.mp hz with hz | hz
   ·have:=(pairwise_append.mp hw).2.2 z hz b (by simp);omega
   ·rw [yX.mp hz];omega
theorem intIn_of {K:Frag}{i:Int}(ha:H a=some (.lst (zs.map V.int)))(q:Q (.bl (if neg then !decide (i∈zs) else decide (i∈zs))) H):JbI K neg (.int i) (.ref a) H Q:=by
 obtain ⟨r1,r2,r3⟩:=J1d (K:=K) (H:=H) zs;refine ⟨.int i,zs.map .int,by simp [Rep],by rw [Rep];exact ⟨a,_,rfl,.of ha,r1⟩,by simp [SeqAt.shaped,PyData.canLay0,PyData.depth],?_,?_⟩
 ·unfold SeqAt.shaped
  simp only [PyData.canLay0,PyData.depth,r2,Bool.true_and];exact yL (by omega)
 ·have e:(zs.map PyData.int).any (fun e=>PyData.eqv e (.int i))=decide (i∈zs):=by
   rw [any_map,Bool.eq_iff_iff,any_eq_true,decide_eq_true_iff];constructor
   ·rintro ⟨z,hz,e⟩
    have e':z=i:=by simpa [PyData.eqv] using e
    exact e' ▸ hz
   ·intro h
    exact ⟨i,h,by simp [PyData.eqv]⟩
  rw [e];exact q
def J18 (x y:List Int):List Int:=x.filter fun z=>decide (z∈y)
def J7F (x y:List Int):Prop:=J18 x y=[]\/x.length<=(J18 x y).length\/y.length<=(J18 x y).length
def J4Q (K:Frag)(f:Nat->Addr):Sp:=fun vs H Q E=>∃ (p q:Addr) (x y:List Int),vs=[.ref p,.ref q]/\H p=some (.lst (x.map V.int))/\H q=some (.lst (y.map V.int))/\x.length<=1000/\y.length<=1000/\(J7F x y->∀ H',Same H H'->Q (.bl true) H')/\(¬ J7F x y->∀ H',Same H H'->E (.ref (f 5)) none H')
theorem ok_asked_pair (T:Txt K mg f fd):FnOk P w K mg base (CXE P w) 1 (f 17) (fd 17) ["one","other"] (J4Q K f):=by
 refine T.wJ.F.okX J2z (fun vs H Q E h=>?_) (fun cdv A outer s H vs Q E hr h=>?_)
 ·obtain ⟨p,q,x,y,rfl,_⟩:=h
  rfl
 ·obtain ⟨p,q,x,y,rfl,hp,hq,hx,hy,k1,k2⟩:=h
  refine ⟨_,(Jd (J1w ["place"] ["one","other","shared"] rfl (show CompSc _ (Jg J1a) ["one","other","shared"] ["one","other","shared"] from Jp (by decide +kernel)) J2z.nd (i:=2) rfl rfl (J0d rfl (pvl 0)) (fun _ _ _ _ _=>(pgl 0 (show (["place","one","other","shared"]:List Str).Nodup by decide +kernel))) (fun _ _ _ _ _=>(J2p (Jj (Jbr rfl hr.units) (pvl 0) (pvc 2) rfl))) (fun _ _ _ _ _=>(pvl 0)))
   (Jd (JY (PW.pt (J29 (J1F (pvl 2) (fun _=>rfl)) (J1v (Jj J4m (JC (J0x rfl) T.wa J00 rfl (by decide) (by decide) rfl (pal rfl (pvl 2) Jb)) (JC (J8W rfl) T.yd Jat rfl (by decide) (by decide) rfl (pal rfl (JC (J0x rfl) T.wa J00 rfl (by decide) (by decide) rfl (pal rfl (pvl 0) Jb)) (pal rfl (JC (J0x rfl) T.wa J00 rfl (by decide) (by decide) rfl (pal rfl (pvc 1) Jb)) Jb))) (Jo _)))))
   (Jh (J1G J0Z rfl T.wf.x rfl T.wf.m (by decide) rfl (pal rfl Jz Jb)))
   Js)
   (Jh (Jy J2B)))),?_⟩
  generalize hB:JI (J17 _ _ _) _=B;walk_at "dl";have hm:∀ zs:List Int,(zs.map V.int).length=zs.length:=fun zs=>yW ..;refine ⟨⟨_,.of hp⟩,?_⟩;refine Jx (xs:=x.map V.int) Ju (by rw [hm];exact Jc (by omega)) (fun i ys H'=>H'=H/\ys=(J18 (x.take i) y).map V.int) ⟨rfl,rfl⟩ (fun _ _ _ _ q=>by rw [q.1];exact .of hp) (fun i ys H' q=>by rw [q.2,hm];unfold J18;exact yR (length_filter_le _ _) (by rw [y7];omega)) ?_ ?_
  ·rintro i v ys H1 hv ⟨rfl,rfl⟩
   rw [ze] at hv;obtain ⟨z,hz,rfl⟩:=Option.map_eq_some_iff.mp hv;walk_at "dl";refine intIn_of hq ⟨_,rfl,?_⟩;unfold J18;rw [take_succ,hz,filter_append,zg];by_cases c:z∈y
   ·rw [yI (by simp [c])]
    refine ⟨⟨_,rfl⟩,rfl,?_⟩;simp [c]
   ·rw [yH (by simp [c])]
    refine ⟨⟨_,rfl⟩,rfl,?_⟩;simp [c]
  ·rintro ys H1 ⟨rfl,rfl⟩ D hD
   rw [hm,zf];have u1:=Same.upd_new hD (HO.lst ((J18 x y).map V.int));have g1:upd H1 D (HO.lst ((J18 x y).map V.int)) D=some (.lst ((J18 x y).map V.int)):=Ja;generalize upd H1 D (HO.lst ((J18 x y).map V.int))=H2 at *;subst hB;walk_at "dl";refine ⟨!((J18 x y).map V.int).isEmpty,.inl ⟨_,.of g1,rfl⟩,?_⟩;by_cases c0:J18 x y=[]
   ·rw [yH (by simp [c0])]
    exact k1 (.inl c0) H2 u1
   rw [yI (by simp [c0])];refine ⟨_,.inl (.of g1),_,.inl (.of (u1 _ _ hp)),_,.inl (.of (u1 _ _ hq)),?_⟩;rw [hm,hm,hm];by_cases c1:x.length<=(J18 x y).length\/y.length<=(J18 x y).length
   ·rw [yH (by split<;>omega)]
    exact k1 (.inr c1) H2 u1
   ·rw [yI (by split<;>omega)]
    exact ⟨Jc (by decide),k2 (fun z=>z.elim c0 c1) H2 u1⟩
def J2P (n:Nat)(gs:List (List Int)):Prop:=gs.length<=8/\(∀ r∈gs,J0B n r)/\gs.Pairwise fun a b=>J7F b a
def J3I (K:Frag)(f:Nat->Addr):Sp:=fun vs H Q E=>∃ (l:Addr) (xs:List V) (gs:List (List Int)) (n:Nat),vs=[.ref l,.int n]/\H l=some (.lst xs)/\GridV H xs gs/\gs.length<=1000/\(∀ r∈gs,r.length<=1000)/\(J2P n gs->∀ H',Same H H'->Q (.bl true) H')/\(¬ J2P n gs->∀ H',Same H H'->E (.ref (f 5)) none H')
theorem ok_asked_groups (T:Txt K mg f fd):FnOk P w K mg base (CXE P w) 2 (f 18) (fd 18) ["groups","many"] (J3I K f):=by
 refine T.wv.F.okX J0F (fun vs H Q E h=>?_) (fun cdv A outer s H vs Q E hr h=>?_)
 ·obtain ⟨l,xs,gs,n,rfl,_⟩:=h
  rfl
 ·obtain ⟨l,xs,gs,n,rfl,hl,hg,h1000,hr1000,k1,k2⟩:=h
  refine ⟨_,(Jd (JY (Jj J30 (JC (J0x rfl) T.wa J00 rfl (by decide) (by decide) rfl (pal rfl (pvl 0) Jb)) (pgi T.yA) (Jo _))
   (Jh (J1G J0Z rfl T.wf.x rfl T.wf.m (by decide) rfl (pal rfl Jz Jb)))
   Js)
   (Jd (J0z PassesOwn.leaving rfl (J1c rfl T.wm (pal rfl (pvl 0) Jb) rfl) (J1x rfl rfl (Jq (pgl 2 J0F.nd) (Jq (pgl 3 J0F.nd) J0o)))
   (Jd (JS (J2Z J0Z T.wI (J4n T) (hr.mono (by decide)) rfl (by decide) rfl (pal rfl (pvl 3) (pal rfl (pvl 1) Jb))))
   (Jh (J0z PassesOwn.leaving rfl (J0d rfl (J0h (J2e rfl) (pvl 0) J0O (J0t (pvl 2)))) (pgl 4 J0F.nd)
   (Jh (JS (J2Z J0Z T.wJ (ok_asked_pair T) (hr.mono (by decide)) rfl (by decide) rfl (pal rfl (pvl 3) (pal rfl (pvl 4) Jb)))))))))
   (Jh (Jy J2B)))),?_⟩
  walk_at "dl";have hgl:=hg.1;refine ⟨_,.inl (.of hl),?_⟩;by_cases c1:8<gs.length
  ·rw [yI (by omega)]
   exact ⟨Jc (by decide),k2 (fun z=>by have:=z.1;omega) H (Same.refl _)⟩
  rw [yH (by omega)];refine J0A ?_;unfold J5d;walk_at "dl";refine ⟨⟨xs,.of hl⟩,ForW.enum (xs:=xs) (fun j σ H'=>(∃ v2 v3 v4,σ=[some (V.ref l),some (V.int (n:Int)),v2,v3,v4])/\Same H H'/\(∀ r∈gs.take j,J0B n r)/\(gs.take j).Pairwise fun a b=>J7F b a) ⟨⟨none,none,none,rfl⟩,Same.refl _,by simp,by simp⟩ (fun _ _ _ q=>q.2.1.seq (.of hl)) ?_ ?_⟩
  ·rintro j x σ H1 p hx ⟨⟨v2,v3,v4,rfl⟩,s1,hA,hP⟩ hp
   have s2:=s1.new hp (HO.tup [V.int (j:Int),x]);refine ⟨p,_,rfl,.of Ja,rfl,?_⟩;generalize upd H1 p (HO.tup [V.int (j:Int),x])=H2 at *;obtain ⟨r,hr,pr,rfl,hpr⟩:=All2.at hg hx;simp only [J0y,J1X,JK];walk_at "dl";have hmem:=y4 hr;have hj:=(yV.mp hr).1;refine ⟨pr,r,n,rfl,s2 _ _ hpr,hr1000 r hmem,fun ok H3 s3=>?_,fun bad H3 s3=>k2 (fun z=>bad (z.2.1 r hmem)) H3 (s2.trans s3)⟩;have S3:=s2.trans s3;refine J0A ?_;walk_at "dl";refine ⟨xs,.of (S3 _ _ hl),fun p2 hp2=>?_⟩;rw [J3o (by omega)];have u4:=S3.new hp2 (HO.lst (xs.take j));have g4:upd H3 p2 (HO.lst (xs.take j)) p2=some (.lst (xs.take j)):=Ja;generalize upd H3 p2 (HO.lst (xs.take j))=H4 at *;refine ⟨⟨_,.of g4⟩,?_⟩;have hgt:=J3r hg j;have hxl:(xs.take j).length=j:=by rw [y7];omega
   refine ForW.of (Ju (xs:=xs.take j)) (fun i σ H'=>(∃ v4,σ=[some (V.ref l),some (V.int (n:Int)),some (V.int (j:Int)),some (V.ref pr),v4])/\Same H4 H'/\∀ y∈(gs.take j).take i,J7F r y) ⟨⟨_,rfl⟩,Same.refl _,by simp⟩ (fun _ _ _ _ q=>.of (q.2.1 _ _ g4)) ?_ ?_
   ·rintro i y σ H5 hy ⟨⟨v4',rfl⟩,s5,hq⟩
    obtain ⟨ry,hry,py,rfl,hpy⟩:=All2.at hgt hy;have hm2:ry∈gs.take j:=y4 hry;have S5:=u4.trans s5;walk_at "dl";refine ⟨pr,py,r,ry,rfl,S5 _ _ hpr,S5 _ _ hpy,hr1000 r hmem,hr1000 ry (mem_of_mem_take hm2),fun okp H6 s6=>⟨⟨_,rfl⟩,s5.trans s6,fun z hz=>?_⟩,fun bad H6 s6=>k2 (fun z=>bad ?_) H6 (S5.trans s6)⟩
    ·rw [take_add_one,hry] at hz
     rcases zh.mp hz with hz | hz
     ·exact hq z hz
     ·cases yX.mp hz
      exact okp
    ·obtain ⟨e1,e2⟩:=yV.mp hr
     have hpw:=z.2.2;rw [<- take_append_drop j gs,pairwise_append] at hpw;refine hpw.2.2 ry hm2 r ?_;rw [drop_eq_getElem_cons e1,e2];exact y9
   ·rintro σ H5 ⟨⟨v4',rfl⟩,s5,hq⟩
    rw [hxl,take_take,Nat.min_self] at hq;refine ⟨⟨_,_,_,rfl⟩,u4.trans s5,fun z hz=>?_,?_⟩
    ·rw [take_add_one,hr] at hz
     rcases zh.mp hz with hz | hz
     ·exact hA z hz
     ·cases yX.mp hz
      exact ok
    ·rw [take_add_one,hr]
     refine pairwise_append.mpr ⟨hP,pairwise_singleton _ _,fun a ha b hb=>?_⟩;cases yX.mp hb;exact hq a ha
  ·rintro σ H1 ⟨⟨v2,v3,v4,rfl⟩,s1,hA,hP⟩
   rw [hgl,zf] at hA hP;walk_at "dl";exact k1 ⟨by omega,hA,hP⟩ H1 s1
theorem Ja1 (hg:GridV H xs gs):∀ (i:Nat) x k,xs[i]?=some x->(gs.map fun r=>(r.length:Int))[i]?=some k->Jco H x k:=fun i x k hx hk=>by
 obtain ⟨r,hr,p,rfl,hp⟩:=All2.at hg hx;rw [ze,hr] at hk;cases hk;exact ⟨p,_,rfl,hp,by rw [yW]⟩
def J7E (gs ws:List (List Int)):Prop:=ws.Perm gs/\ws.Pairwise fun a b=>b.length<=a.length
theorem perm_map {α β:Type}{f:α->β}{ps M:List β}(h:ps.Perm M):∀ {L:List α},M=L.map f->∃ L':List α,L'.Perm L/\ps=L'.map f:=by
 induction h with
 | nil=>intro L e;exact ⟨[],by rw [map_eq_nil_iff.mp e.symm],rfl⟩
 | cons x _ ih =>
   intro L e;cases L with
   | nil=>cases e
   | cons a L =>
     rw [zd] at e;injection e with e1 e2
     obtain ⟨L',h1,h2⟩:=ih e2;exact ⟨a::L',h1.cons a,by rw [zd,e1,h2]⟩
 | swap x y l =>
   intro L e;cases L with
   | nil=>cases e
   | cons a L =>
     cases L with
     | nil=>injection e with _ e;cases e
     | cons b L =>
       rw [zd,zd] at e;injection e with e1 e
       injection e with e2 e3
       exact ⟨b::a::L,List.Perm.swap a b L,by rw [zd,zd,e1,e2,e3]⟩
 | trans _ _ ih1 ih2 =>
   intro L e;obtain ⟨L1,h1,h2⟩:=ih2 e;obtain ⟨Mz,h3,h4⟩:=ih1 h2;exact ⟨Mz,h3.trans h1,h4⟩
theorem Jay (hg:GridV H xs gs)(h:Jck (gs.map fun r=>(r.length:Int)) xs out):∃ ws,GridV H out ws/\J7E gs ws:=by
 obtain ⟨ps,hp,rfl,hw⟩:=h;obtain ⟨L,h1,rfl⟩:=perm_map (f:=fun p:List Int×V=>((p.1.length:Int),p.2)) (L:=gs.zip xs) hp (by rw [zip_map_left];rfl);refine ⟨L.map Prod.fst,⟨by simp,fun i x r hx hr=>?_⟩,?_,?_⟩
 ·rw [map_map,ze] at hx
  rw [ze] at hr;obtain ⟨p,hp1,rfl⟩:=Option.map_eq_some_iff.mp hx;rw [hp1] at hr;cases hr;obtain ⟨j,hj⟩:=zk.mp (h1.mem_iff.mp (y4 hp1));obtain ⟨e1,e2⟩:=List.getElem?_zip_eq_some.mp hj;exact hg.2 j _ _ e2 e1
 ·have:=h1.map Prod.fst
  rw [map_fst_zip (Nat.le_of_eq hg.1.symm)] at this;exact this
 ·rw [pairwise_map] at hw ⊢
  exact hw.imp fun h=>by simpa using h
def J3E (K:Frag):Sp:=fun vs H Q _=>∃ (l:Addr) (xs:List V) (gs:List (List Int)),vs=[.ref l]/\H l=some (.lst xs)/\GridV H xs gs/\gs.length<64/\∀ H' D out ws,Same H H'->H' D=some (.lst out)->GridV H' out ws->J7E gs ws->Q (.ref D) H'
theorem J20 (T:Txt K mg f fd):FnOk P w K mg base CX0 1 (f 19) (fd 19) ["groups"] (J3E K):=by
 walk_at "ok ww J3K"
 ·obtain ⟨l,xs,gs,rfl,_⟩:=h
  rfl
 ·obtain ⟨l,xs,gs,rfl,hl,hg,h64,k⟩:=h
  refine ⟨_,(Jh (Jy (J9O rfl rfl rfl T.wo rfl T.wa rfl (pal rfl (pvl 0) Jb)))),?_⟩;walk_at "dl";have hgl:=hg.1;refine ⟨xs,.of hl,by omega,gs.map fun r=>(r.length:Int),by rw [yW,hgl],Ja1 hg,fun D out hD ho=>?_⟩;obtain ⟨ws,h1,h2⟩:=Jay hg ho;exact k _ D out ws (Same.upd_new hD _) Ja (h1.mono (Same.upd_new hD _)) h2
def clo (gs:List (List Int)):Nat->Int->Option Nat
 | 0,_=>none
 | n+1,z=>if z∈gs.getD n [] then some n else clo gs n z
def Jaq (o:Option Nat):V:=match o with
 | none=>.non
 | some n=>.int n
def J1K (gs:List (List Int))(n:Nat)(z:Int):List Nat:=(List.range n).filter fun i=>decide (z∈gs.getD i [])
theorem J5e (gs:List (List Int))(z:Int):∀ n,(J1K gs n z=[]/\clo gs n z=none)\/∃ ys m,J1K gs n z=ys++[m]/\clo gs n z=some m
 | 0=>.inl ⟨rfl,rfl⟩
 | n + 1=>by
   have e:J1K gs (n+1) z=J1K gs n z++(if z∈gs.getD n [] then [n] else []):=by
    unfold J1K;rw [range_succ,filter_append];by_cases c:z∈gs.getD n []
    ·rw [yI c,filter_cons,yI (yL c)];rfl
    ·rw [yH c,filter_cons,yH fun h=>c (of_decide_eq_true h)];rfl
   unfold clo;rw [e];by_cases c:z∈gs.getD n []
   ·rw [yI c,yI c]
    exact .inr ⟨_,n,rfl,rfl⟩
   ·rw [yH c,yH c,append_nil]
    exact J5e gs z n
def J7d (K:Frag):Sp:=fun vs H Q _=>∃ (l:Addr) (xs:List V) (gs:List (List Int)) (n:Nat) (z:Int),vs=[.ref l,.int n,.int z]/\H l=some (.lst xs)/\GridV H xs gs/\n<=gs.length/\gs.length<=1000/\∀ H',Same H H'->Q (Jaq (clo gs n z)) H'
theorem ok_closest (T:Txt K mg f fd):FnOk P w K mg base CX0 1 (f 20) (fd 20) ["groups","upto","place"] (J7d K):=by
 walk_at "ok wx J48"
 ·obtain ⟨l,xs,gs,n,z,rfl,_⟩:=h
  rfl
 ·obtain ⟨l,xs,gs,n,z,rfl,hl,hg,hn,h1000,k⟩:=h
  refine ⟨_,(Jd (J1w ["at"] ["groups","upto","place","held"] rfl (show CompSc _ (Jg J2n) ["groups","upto","place","held"] ["groups","upto","place","held"] from Jp (by decide +kernel)) J48.nd (i:=3) rfl rfl (J0u rfl T.wj (pal rfl (pvl 1) Jb)) (fun _ _ _ _ _=>(pgl 0 (show (["at","groups","upto","place","held"]:List Str).Nodup by decide +kernel))) (fun _ _ _ _ _=>(J2p (Jj (Jbr rfl hr.units) (pvc 3) (JD (J0c rfl) (pvc 1) (pvl 0) (fun _ _=>rfl)) rfl))) (fun _ _ _ _ _=>(pvl 0)))
   (Jh (Jy (J4l (J1F (pvl 3) (fun _=>rfl)) (JD (J0c rfl) (pvl 3) (J3v J23 Je) (fun _ _=>rfl)) J4k)))),?_⟩
  generalize hB:J2x _=B;walk_at "dl";have hgl:=hg.1;refine ⟨by omega,by omega,?_⟩;rw [Int.toNat_natCast];refine Jx J0e (by rw [Jv];exact Jc (by omega)) (fun i ys H'=>H'=H/\ys=(J1K gs i z).map J0T) ⟨rfl,rfl⟩ (fun _ _ _ _ _=>trivial) (fun i ys H' q=>by rw [q.2,yW];unfold J1K;exact yR (length_filter_le _ _) (by simp)) ?_ ?_
  ·rintro i x ys H1 hx ⟨rfl,rfl⟩
   obtain ⟨hi,rfl⟩:=J0r hx;obtain ⟨v,hv⟩:∃ v,xs[i]?=some v:=⟨_,yU (by omega)⟩;obtain ⟨r,hr,pr,rfl,hpr⟩:=All2.at hg hv;have er:gs.getD i []=r:=by rw [yZ,hr];rfl
   walk_at "dl";rw [Int.zero_add];refine ⟨l,_,_,_,rfl,rfl,.of hl,Jn hv,?_⟩;refine intIn_of hpr ⟨_,rfl,?_⟩;unfold J1K;rw [range_succ,filter_append,zg];by_cases c:z∈r
   ·rw [yI (by simp [c])]
    refine ⟨⟨_,rfl⟩,rfl,?_⟩;rw [filter_cons,yI (yL (by rw [er];exact c))];rfl
   ·rw [yH (by simp [c])]
    refine ⟨⟨_,rfl⟩,rfl,?_⟩;rw [filter_cons,yH fun h=>c (by have:=of_decide_eq_true h;rw [er] at this;exact this),filter_nil,map_nil,append_nil]
  ·rintro ys H1 ⟨rfl,rfl⟩ D hD
   rw [Jv];have u1:=Same.upd_new hD (HO.lst ((J1K gs n z).map J0T));have g1:upd H1 D (HO.lst ((J1K gs n z).map J0T)) D=some (.lst ((J1K gs n z).map J0T)):=Ja;generalize upd H1 D (HO.lst ((J1K gs n z).map J0T))=H2 at *;subst hB;walk_at "dl";refine ⟨!((J1K gs n z).map J0T).isEmpty,.inl ⟨_,.of g1,rfl⟩,?_⟩;rcases J5e gs z n with ⟨e1,e2⟩ | ⟨ys,m,e1,e2⟩
   ·rw [e1]
    rw [e2] at k;exact k H2 u1
   ·rw [e1,zg] at g1 ⊢
    rw [e2] at k;rw [yI (by simp)];exact ⟨D,_,_,_,rfl,rfl,.of g1,J73 _ _,k H2 u1⟩
def kS (z:Str):JT:=.inl (some (.inr z))
def kN (o:Option Nat):JT:=.inl (o.map fun n=>.inl (n:Int))
def plK (sd:JT)(n:Nat):NPK:=[sd,kS "place",kN (some n)]
def grK (sd:JT)(o:Option Nat):NPK:=[sd,kS "group",kN o]
structure Lk where
 s:NPK
 g:NPK
 n:Int
def LkAt (H:Hp)(x:V)(L:Lk):Prop:=∃ p a b,x=.ref p/\H p=some (.tup [.ref a,.ref b,.int L.n])/\NKeyAt H a L.s/\NKeyAt H b L.g
theorem LkAt.mono {x:V}{L:Lk}(s:Same H H')(h:LkAt H x L):LkAt H' x L:=by
 obtain ⟨p,a,b,e,h1,h2,h3⟩:=h;exact ⟨p,a,b,e,s _ _ h1,h2.mono fun c ys z=>s _ _ z,h3.mono fun c ys z=>s _ _ z⟩
abbrev J3C (H H':Hp):Prop:=∀ c ys,H c=some (.tup ys)->H' c=some (.tup ys)
theorem LkAt.monoT {x:V}{L:Lk}(t:J3C H H')(h:LkAt H x L):LkAt H' x L:=by
 obtain ⟨p,a,b,e,h1,h2,h3⟩:=h;exact ⟨p,a,b,e,t _ _ h1,h2.mono t,h3.mono t⟩
theorem J77 {o:HO}(h:H D=some (.lst xs)):J3C H (upd H D o):=fun c ys z=>by
 rw [Jf fun e=>by subst e;rw [h] at z;cases z];exact z
theorem J1P (s:Same H H'):J3C H H':=fun _ _ z=>s _ _ z
def LksV (H:Hp)(xs:List V)(ls:List Lk):Prop:=All2 (LkAt H) xs ls
theorem LksV.mono {ls:List Lk}(s:Same H H')(h:LksV H xs ls):LksV H' xs ls:=All2.mono h fun _ _=>LkAt.mono s
theorem Jc0 (o:Option Nat):nV (o.map fun n=>.inl (n:Int))=Jaq o:=by cases o<;>rfl
theorem JcD {sd:JT}{z:Str}{o:Option Nat}(h:H p=some (.tup [v,.str z,Jaq o]))(m:MAt H v sd):NKeyAt H p [sd,kS z,kN o] :=
 ⟨_,h,.cons m (.cons rfl (.cons (Jc0 o).symm .nil))⟩
theorem J1I {sd:JT}(s:Same H H')(m:MAt H v sd):MAt H' v sd:=MAt.mono (fun c ys z=>s _ _ z) m
theorem LksV.monoT {ls:List Lk}(t:J3C H H')(h:LksV H xs ls):LksV H' xs ls:=All2.mono h fun _ _=>LkAt.monoT t
structure Lst (H H':Hp)(D:Addr)(ls:List Lk):Prop where
 ex:∃ out,H' D=some (.lst out)/\LksV H' out ls
 same:Same H H'
 fr:H D=none
theorem Lst.keep {ls:List Lk}(h:Lst H H1 D ls)(s:Same H1 H2):Lst H H2 D ls:=by
 obtain ⟨⟨out,h1,h2⟩,h3,h4⟩:=h;exact ⟨⟨out,s _ _ h1,h2.mono s⟩,h3.trans s,h4⟩
theorem Lst.add {ls:List Lk}{x:V}{L:Lk}(h:Lst H H1 D ls)(s:Same H1 H2)(h1:H1 D=some (.lst out))(hx:LkAt H2 x L):Lst H (upd H2 D (.lst (out++[x]))) D (ls++[L]):=by
 obtain ⟨⟨out',g1,g2⟩,g3,g4⟩:=h;rw [h1] at g1;cases g1;have t:J3C H2 (upd H2 D (.lst (out++[x]))):=J77 (s _ _ h1);exact ⟨⟨_,Ja,All2.snoc ((g2.mono s).monoT t) (hx.monoT t)⟩,(g3.trans s).set g4 _,g4⟩
theorem J32 {Ha:Hp}{pa pb pt:Addr}{ls:List Lk}{va vb vx vy:V}{sa sb:JT}{za zb:Str}{oa ob:Option Nat}{n:Int}(L:Lst H H1 D ls)(ho:H1 D=some (.lst out))(hl:ls.length<=1000)(sA:Same H1 Ha)(ga:Ha pa=some (.tup [va,.str za,vx]))(ea:vx=Jaq oa)(ma:MAt Ha va sa)
 (hpb:Ha pb=none) (eb:vy=Jaq ob) (mb:MAt Ha vb sb) (hpt:upd Ha pb (.tup [vb,.str zb,vy]) pt=none)
 (q:∀ H',Lst H H' D (ls++[⟨[sa,kS za,kN oa],[sb,kS zb,kN ob],n⟩])->SameBut D H1 H'->Q .non H'):J7X (.ref D) [.ref pt] (upd (upd Ha pb (.tup [vb,.str zb,vy])) pt (.tup [.ref pa,.ref pb,.int n])) Q:=by
 have u1:=Same.upd_new hpb (HO.tup [vb,.str zb,vy]);have g1:upd Ha pb (HO.tup [vb,.str zb,vy]) pb=some (.tup [vb,.str zb,vy]):=Ja;generalize upd Ha pb (HO.tup [vb,.str zb,vy])=Hb at *;have u2:=u1.new hpt (HO.tup [.ref pa,.ref pb,.int n]);have u2':=Same.upd_new hpt (HO.tup [.ref pa,.ref pb,.int n]);have g2:upd Hb pt (HO.tup [.ref pa,.ref pb,.int n]) pt=some (.tup [.ref pa,.ref pb,.int n]):=Ja;generalize upd Hb pt (HO.tup [.ref pa,.ref pb,.int n])=Hc at *;subst ea eb;have hol:out.length=ls.length:=by
  obtain ⟨o',h1,h2⟩:=L.ex;rw [ho] at h1;cases h1;exact h2.1
 exact ⟨D,out,_,rfl,rfl,(sA.trans u2) _ _ ho,by have:=Jc (n:=2000) (by decide);omega,q _ (L.add (sA.trans u2) ho ⟨pt,pa,pb,rfl,g2,JcD (u2 _ _ ga) (J1I u2 ma),JcD (u2' _ _ g1) (J1I u2 mb)⟩) (SameBut.at fun b o _ z=>(sA.trans u2) _ _ z)⟩
def upP (sd:JT)(gs:List (List Int))(sums:List Int)(n:Nat):List Lk:=(List.range n).map fun i=>⟨plK sd i,grK sd (clo gs gs.length i),sums.getD i 0⟩
def upG (sd:JT)(gs:List (List Int))(sums:List Int)(n:Nat):List Lk:=(List.range n).map fun i=>⟨grK sd (some i),grK sd (clo gs i ((gs.getD i []).getD 0 0)),sm ((gs.getD i []).map fun z=>sums.getD z.toNat 0)⟩
def upL (sd:JT)(gs:List (List Int))(sums:List Int):List Lk:=upP sd gs sums sums.length++upG sd gs sums gs.length
def J6f (K:Frag):Sp:=fun vs H Q _=>∃ (v:V) (sd:JT) (lg ls:Addr) (xs:List V) (gs:List (List Int)) (sums:List Int),vs=[v,.ref lg,.ref ls]/\MAt H v sd/\H lg=some (.lst xs)/\GridV H xs gs/\H ls=some (.lst (sums.map V.int))/\gs.length<=8/\sums.length<=100/\(∀ r∈gs,J0B sums.length r)/\(∀ r∈gs,r.length<=100) /\
 ∀ H' D out,Same H H'->H D=none->H' D=some (.lst out)->LksV H' out (upL sd gs sums)->Q (.ref D) H'
theorem ok_links_up (T:Txt K mg f fd):FnOk P w K mg base CX0 2 (f 21) (fd 21) ["side","groups","sums"] (J6f K):=by
 walk_at "ok wz J0p"
 ·obtain ⟨v,sd,lg,ls,xs,gs,sums,rfl,_⟩:=h
  rfl
 ·obtain ⟨v,sd,lg,ls,xs,gs,sums,rfl,hm,hl,hg,hs,hg8,hs1,hok,hr1,k⟩:=h
  refine ⟨_,(Jd (psl 3 J0p.nd (JL Jb))
   (Jd (J0z PassesOwn.never rfl (J1c rfl T.wm (pal rfl (pvc 2) Jb) rfl) (J1x rfl rfl (Jq (pgl 4 J0p.nd) (Jq (pgl 5 J0p.nd) J0o)))
   (Jh (JS (J1n rfl zx PySem.F.slot_list_append PySem.F.type_list_append J0b rfl rfl rfl rfl (pvl 3) (pal rfl (Jt (pal rfl (Jt (pal rfl (pvl 0) (pal rfl Jz (pal rfl (pvl 4) Jb)))) (pal rfl (Jt (pal rfl (pvl 0) (pal rfl Jz (pal rfl (Jk T.wx (ok_closest T) (hr.mono (by decide)) rfl (by decide) rfl (pal rfl (pvl 1) (pal rfl (JC (J0x rfl) T.wa J00 rfl (by decide) (by decide) rfl (pal rfl (pvl 1) Jb)) (pal rfl (pvl 4) Jb)))) Jb)))) (pal rfl (pvl 5) Jb)))) Jb)))))
   (Jd (J0z PassesOwn.never rfl (J1c rfl T.wm (pal rfl (pvl 1) Jb) rfl) (J1x rfl rfl (Jq (pgl 4 J0p.nd) (Jq (pgl 6 J0p.nd) J0o)))
   (Jd (psl 5 J0p.nd (JC (J1m rfl rfl) T.wk J1p rfl (by decide) (by decide) rfl (pal rfl (JW ["place"] ["side","groups","sums","told","at","number","group"] rfl (show CompSc _ (Jg J1Q) ["side","groups","sums","told","at","number","group"] ["side","groups","sums","told","at","number","group"] from Jp (by decide +kernel)) (J0d rfl (pvl 6)) (fun _ _ _ _ _=>(pgl 0 (show (["place","side","groups","sums","told","at","number","group"]:List Str).Nodup by decide +kernel))) (fun _ _ _ _ _=>JN) (fun _ _ _ _ _=>(JD (J0c rfl) (pvc 3) (pvl 0) (fun _ _=>rfl)))) Jb)))
   (Jh (JS (J1n rfl zx PySem.F.slot_list_append PySem.F.type_list_append J0b rfl rfl rfl rfl (pvl 3) (pal rfl (Jt (pal rfl (Jt (pal rfl (pvl 0) (pal rfl Jz (pal rfl (pvl 4) Jb)))) (pal rfl (Jt (pal rfl (pvl 0) (pal rfl Jz (pal rfl (Jk T.wx (ok_closest T) (hr.mono (by decide)) rfl (by decide) rfl (pal rfl (pvl 1) (pal rfl (pvl 4) (pal rfl (JD (J0c rfl) (pvl 6) Je (fun _ _=>rfl)) Jb)))) Jb)))) (pal rfl (pvl 5) Jb)))) Jb))))))
   (Jh (Jy (pvl 3)))))),?_⟩
  generalize hB3:J2x _=B3;generalize hB2:JI (J4O _ _ _) B3=B2;generalize hB1:JI (J4O _ _ _) B2=B1;walk_at "dl";refine ⟨yQ _,fun D hD=>?_⟩;have hgl:=hg.1;have L0:Lst H (upd H D (HO.lst [])) D []:=⟨⟨[],Ja,All2.nil⟩,Same.upd_new hD _,hD⟩;generalize upd H D (HO.lst [])=H1 at *;have hsl:(sums.map V.int).length=sums.length:=yW ..;subst hB1;walk_at "dl";refine J0A ?_;unfold J5d;walk_at "dl";refine ⟨⟨_,.of (L0.same _ _ hs)⟩,ForW.enum (xs:=sums.map V.int) (fun j σ H'=>(∃ v4 v5,σ=[some v,some (V.ref lg),some (V.ref ls),some (V.ref D),v4,v5,none])/\Lst H H' D (upP sd gs sums j)) ⟨⟨none,none,rfl⟩,L0⟩ (fun _ _ _ q=>.of (q.2.same _ _ hs)) ?_ ?_⟩
  ·rintro j x σ H2 p hx ⟨⟨v4,v5,rfl⟩,Mz⟩ hp
   rw [ze] at hx;obtain ⟨z,hz,rfl⟩:=Option.map_eq_some_iff.mp hx;have hzD:sums.getD j 0=z:=by rw [yZ,hz];rfl
   have u2:=Same.upd_new hp (HO.tup [V.int (j:Int),V.int z]);refine ⟨p,_,rfl,.of Ja,rfl,?_⟩;obtain ⟨out,ho,_⟩:=Mz.ex;generalize upd H2 p (HO.tup [V.int (j:Int),V.int z])=H3 at *;simp only [J0y,J1X,JK];walk_at "dl";have S3:=Mz.same.trans u2;refine ⟨.inl ⟨rfl,_,.of (u2 _ _ ho)⟩,Jc (by decide),fun pa hpa=>?_⟩;have u4:=Same.upd_new hpa (HO.tup [v,V.str (Str.ofString "place"),V.int (j:Int)]);have g4:upd H3 pa (HO.tup [v,V.str (Str.ofString "place"),V.int (j:Int)]) pa=some (.tup [v,V.str (Str.ofString "place"),V.int (j:Int)]):=Ja;generalize upd H3 pa (HO.tup [v,V.str (Str.ofString "place"),V.int (j:Int)])=H4 at *;have S4:=S3.trans u4;refine ⟨xs,.inl (.of (S4 _ _ hl)),lg,xs,gs,gs.length,(j:Int),by rw [hgl],S4 _ _ hl,hg.mono S4,yJ _,by omega,fun H5 s5=>⟨Jc (by decide),fun pb hpb=>⟨Jc (by decide),fun pt hpt=>?_⟩⟩⟩;have ll:(upP sd gs sums j).length=j:=by unfold upP;rw [yW,zo]
   have hj:j<sums.length:=(yV.mp hz).1;refine J32 Mz ho (by omega) ((u2.trans u4).trans s5) (s5 _ _ g4) (oa:=some j) rfl (J1I (S4.trans s5) hm) hpb rfl (J1I (S4.trans s5) hm) hpt fun H6 L6 _=>⟨⟨_,rfl⟩,?_⟩;have e:upP sd gs sums (j+1)=upP sd gs sums j++[⟨plK sd j,grK sd (clo gs gs.length j),z⟩]:=by unfold upP;rw [range_succ,zg];simp only [zd,map_nil,hzD]
   rw [e];exact L6
  ·rintro σ H2 ⟨⟨v4,v5,rfl⟩,Mz⟩
   rw [hsl] at Mz;subst hB2;walk_at "dl";refine J0A ?_;unfold J5d;walk_at "dl";refine ⟨⟨_,.of (Mz.same _ _ hl)⟩,ForW.enum (xs:=xs) (fun j σ H'=>(∃ v4 v5 v6,σ=[some v,some (V.ref lg),some (V.ref ls),some (V.ref D),v4,v5,v6])/\Lst H H' D (upP sd gs sums sums.length++upG sd gs sums j)) ⟨⟨v4,v5,none,rfl⟩,by unfold upG;simpa using Mz⟩ (fun _ _ _ q=>.of (q.2.same _ _ hl)) ?_ ?_⟩
   ·rintro j x σ H3 p hx ⟨⟨v4',v5',v6,rfl⟩,L3⟩ hp
    obtain ⟨r,hr,pr,rfl,hpr⟩:=All2.at hg hx;have erD:gs.getD j []=r:=by rw [yZ,hr];rfl
    have u2:=Same.upd_new hp (HO.tup [V.int (j:Int),V.ref pr]);refine ⟨p,_,rfl,.of Ja,rfl,?_⟩;obtain ⟨out,ho,_⟩:=L3.ex;generalize upd H3 p (HO.tup [V.int (j:Int),V.ref pr])=H4 at *;have S4:=L3.same.trans u2;have hmem:=y4 hr;simp only [J0y,J1X,JK];generalize hB4:J2V _=B4;walk_at "dl";have hrl:=hr1 r hmem;have hrm:(r.map V.int).length=r.length:=yW ..;refine ⟨⟨_,.of (S4 _ _ hpr)⟩,?_⟩;refine Jx (xs:=r.map V.int) Ju (by rw [hrm];exact Jc (by omega)) (fun i ys H'=>H'=H4/\ys=((r.take i).map fun z=>sums.getD z.toNat 0).map V.int) ⟨rfl,rfl⟩ (fun _ _ _ _ q=>by rw [q.1];exact .of (S4 _ _ hpr)) (fun i ys H' q=>by rw [q.2];simp;omega) ?_ ?_
    ·rintro i y ys H5 hy ⟨rfl,rfl⟩
     rw [ze] at hy;obtain ⟨z,hz,rfl⟩:=Option.map_eq_some_iff.mp hy;have hzr:=(hok r hmem).2.2 z (y4 hz);obtain ⟨t,rfl⟩:∃ t:Nat,z=(t:Int):=⟨z.toNat,by omega⟩;have ht:t<sums.length:=by omega
     walk_at "dl";refine ⟨ls,_,_,V.int (sums.getD t 0),rfl,rfl,.of (S4 _ _ hs),Jn (by rw [ze,yZ,yU ht];rfl),⟨_,rfl⟩,rfl,?_⟩;rw [take_succ,hz,zg,zg];rfl
    ·rintro ys H5 ⟨rfl,rfl⟩ D2 hD2
     rw [hrm,zf];refine ⟨_,.of Ja,?_⟩;have u5:=Same.upd_new hD2 (HO.lst ((r.map fun z=>sums.getD z.toNat 0).map V.int));generalize upd H5 D2 (HO.lst ((r.map fun z=>sums.getD z.toNat 0).map V.int))=H6 at *;have S6:=S4.trans u5;have u6:=u2.trans u5;obtain ⟨z0,r0,e0⟩:∃ z0 r0,r=z0::r0:=by
      cases r with
      | nil=>exact absurd rfl (hok [] hmem).1
      | cons z0 r0=>exact ⟨z0,r0,rfl⟩
     subst hB4;walk_at "dl";refine ⟨.inl ⟨rfl,_,.of (u6 _ _ ho)⟩,Jc (by decide),fun pa hpa=>?_⟩;have u7:=Same.upd_new hpa (HO.tup [v,V.str (Str.ofString "group"),V.int (j:Int)]);have g7:upd H6 pa (HO.tup [v,V.str (Str.ofString "group"),V.int (j:Int)]) pa=some (.tup [v,V.str (Str.ofString "group"),V.int (j:Int)]):=Ja;generalize upd H6 pa (HO.tup [v,V.str (Str.ofString "group"),V.int (j:Int)])=H7 at *;have S7:=S6.trans u7;have hj:j<gs.length:=(yV.mp hr).1;refine ⟨pr,_,_,V.int z0,rfl,rfl,.of (S7 _ _ hpr),by rw [e0];exact Jn (j:=0) rfl,lg,xs,gs,j,z0,rfl,S7 _ _ hl,hg.mono S7,by omega,by omega,fun H8 s8=>⟨Jc (by decide),fun pb hpb=>⟨Jc (by decide),fun pt hpt=>?_⟩⟩⟩;have ll:(upP sd gs sums sums.length++upG sd gs sums j).length=sums.length+j:=by unfold upP upG;rw [y6,yW,zo,yW,zo]
     refine J32 L3 ho (by omega) ((u6.trans u7).trans s8) (s8 _ _ g7) (oa:=some j) rfl (J1I (S7.trans s8) hm) hpb rfl (J1I (S7.trans s8) hm) hpt fun H9 L9 _=>⟨⟨_,rfl⟩,?_⟩;have e:upG sd gs sums (j+1)=upG sd gs sums j++[⟨grK sd (some j),grK sd (clo gs j z0),sm (r.map fun z=>sums.getD z.toNat 0)⟩]:=by
      unfold upG;rw [range_succ,zg];simp only [zd,map_nil,erD];rw [show r.getD 0 0=z0 by rw [e0];rfl]
     rw [e,<- zp];exact L9
   ·rintro σ H3 ⟨⟨v4',v5',v6,rfl⟩,L3⟩
    rw [hgl] at L3;subst hB3;walk_at "dl";obtain ⟨out,h1,h2⟩:=L3.ex;exact k H3 D out L3.same hD h1 h2
def J2h (L:Lk):Lk:=⟨L.g,L.s,L.n⟩
def J4P (K:Frag):Sp:=fun vs H Q _=>∃ (v:V) (sd:JT) (lg ls:Addr) (xs:List V) (gs:List (List Int)) (sums:List Int),vs=[v,.ref lg,.ref ls]/\MAt H v sd/\H lg=some (.lst xs)/\GridV H xs gs/\H ls=some (.lst (sums.map V.int))/\gs.length<=8/\sums.length<=100/\(∀ r∈gs,J0B sums.length r)/\(∀ r∈gs,r.length<=100) /\
 ∀ H' D out,Same H H'->H D=none->H' D=some (.lst out)->LksV H' out ((upL sd gs sums).map J2h)->Q (.ref D) H'
theorem J1O (sd:JT)(gs:List (List Int))(sums:List Int):(upL sd gs sums).length=sums.length+gs.length:=by unfold upL upP upG;rw [y6,yW,zo,yW,zo]
theorem J2C (T:Txt K mg f fd):FnOk P w K mg base CX0 3 (f 22) (fd 22) ["side","groups","sums"] (J4P K):=by
 walk_at "ok wA J4T"
 ·obtain ⟨v,sd,lg,ls,xs,gs,sums,rfl,_⟩:=h
  rfl
 ·obtain ⟨v,sd,lg,ls,xs,gs,sums,rfl,hm,hl,hg,hs,hg8,hs1,hok,hr1,k⟩:=h
  refine ⟨_,(Jh (Jy (JW ["below","above","number"] ["side","groups","sums"] rfl (show CompSc _ (Jg J19) ["side","groups","sums"] ["side","groups","sums"] from Jp (by decide +kernel)) (J0d rfl (Jk T.wz (ok_links_up T) (hr.mono (by decide)) rfl (by decide) rfl (pal rfl (pvl 0) (pal rfl (pvl 1) (pal rfl (pvl 2) Jb))))) (fun _ _ _ _ _=>(JcX K 0 1 2 (show (["below","above","number","side","groups","sums"]:List Str).Nodup by decide +kernel))) (fun _ _ _ _ _=>JN) (fun _ _ _ _ _=>(Jt (pal rfl (pvl 1) (pal rfl (pvl 0) (pal rfl (pvl 2) Jb)))))))),?_⟩;walk_at "dl";refine ⟨v,sd,lg,ls,xs,gs,sums,rfl,hm,hl,hg,hs,hg8,hs1,hok,hr1,fun H1 D out s1 hD h1 h2=>?_⟩;have ul:=J1O sd gs sums;have hol:=h2.1;refine ⟨D,rfl,⟨_,.of h1⟩,?_⟩;have tkl:∀ i,(((upL sd gs sums).take i).map J2h).length<=i:=fun i=>by rw [yW,y7];omega
  refine J4G Ju (by rw [hol,ul];exact Jc (by omega)) (fun i ys σ H'=>(∃ o0 o1 o2,σ=[o0,o1,o2,some v,some (V.ref lg),some (V.ref ls)])/\Same H1 H'/\LksV H' ys (((upL sd gs sums).take i).map J2h)) ⟨⟨none,none,none,rfl⟩,Same.refl _,All2.nil⟩ (fun i ys σ H' q=>⟨.of (q.2.1 _ _ h1),by rw [q.2.2.1];exact tkl i⟩) ?_ ?_
  ·rintro i x ys σ H2 hx ⟨⟨o0,o1,o2,rfl⟩,s2,A2⟩
   obtain ⟨L,hL,p,a,b,rfl,hp,ka,kb⟩:=All2.at h2 hx;refine ⟨p,_,rfl,.of (s2 _ _ hp),rfl,?_⟩;simp only [J0y,J1X,JK];walk_at "dl";refine ⟨Jc (by decide),fun q hq=>⟨⟨_,rfl⟩,s2.new hq _,?_⟩⟩;have u3:=s2.new hq (HO.tup [V.ref b,V.ref a,V.int L.n]);rw [take_add_one,hL,zg];exact All2.snoc (A2.mono (Same.upd_new hq _)) ⟨q,b,a,rfl,Ja,kb.mono (J1P u3),ka.mono (J1P u3)⟩
  ·rintro ys σ H2 ⟨_,s2,A2⟩ D2 hD2
   rw [hol,zf] at A2;exact k _ D2 ys ((s1.trans s2).new hD2 _) ((s1.trans s2).free hD2) Ja (A2.mono (Same.upd_new hD2 _))
def J4H (c:Nat):JT:=.inr [some (.inr "column"),some (.inl (c:Int))]
def J2A:JT:=kS "rows"
def J2j:JT:=kS "columns"
theorem J5O {c:Nat}(h:H p=some (.tup [.str (Str.ofString "column"),.int (c:Int)])):MAt H (.ref p) (J4H c):=⟨p,rfl,h⟩
def J4K (r:List Int)(i m:Nat):List Lk:=(List.range m).map fun c=>⟨plK (J4H c) i,plK J2A i,r.getD c 0⟩
def J2O (g:List (List Int))(C n:Nat):List Lk:=(List.range n).flatMap fun i=>J4K (g.getD i []) i C
def J5z (K:Frag):Sp:=fun vs H Q _=>∃ (lg:Addr) (xs:List V) (g:List (List Int)) (R C:Nat),vs=[.ref lg]/\H lg=some (.lst xs)/\GridV H xs g/\GOk g R C/\R<=5/\C<=5 /\
 ∀ H' D out,Same H H'->H D=none->H' D=some (.lst out)->LksV H' out (J2O g C R)->Q (.ref D) H'
theorem J3T (g:List (List Int))(C:Nat):∀ n,(J2O g C n).length=n * C
 | 0=>by simp [J2O]
 | n+1=>by
   have:=J3T g C n;unfold J2O at *;rw [range_succ,flatMap_append,y6,this];simp [J4K,Nat.succ_mul]
theorem ok_box_links (T:Txt K mg f fd):FnOk P w K mg base CX0 1 (f 23) (fd 23) ["grid"] (J5z K):=by
 walk_at "ok wK J0s"
 ·obtain ⟨lg,xs,g,R,C,rfl,_⟩:=h
  rfl
 ·obtain ⟨lg,xs,g,R,C,rfl,hl,hg,ok,hR,hC,k⟩:=h
  refine ⟨_,(Jd (psl 1 J0s.nd (JL Jb))
   (Jd (J0z PassesOwn.never rfl (J1c rfl T.wm (pal rfl (pvl 0) Jb) rfl) (J1x rfl rfl (Jq (pgl 2 J0s.nd) (Jq (pgl 3 J0s.nd) J0o)))
   (Jh (J0z PassesOwn.never rfl (J1c rfl T.wm (pal rfl (pvl 3) Jb) rfl) (J1x rfl rfl (Jq (pgl 4 J0s.nd) (Jq (pgl 5 J0s.nd) J0o)))
   (Jh (JS (J1n rfl zx PySem.F.slot_list_append PySem.F.type_list_append J0b rfl rfl rfl rfl (pvl 1) (pal rfl (Jt (pal rfl (Jt (pal rfl (Jt (pal rfl Jz (pal rfl (pvl 4) Jb))) (pal rfl Jz (pal rfl (pvl 2) Jb)))) (pal rfl (Jt (pal rfl Jz (pal rfl Jz (pal rfl (pvl 2) Jb)))) (pal rfl (pvl 5) Jb)))) Jb)))))))
   (Jh (Jy (pvl 1))))),?_⟩
  generalize hB2:J2x _=B2;generalize hB1:JI (J4O _ _ _) B2=B1;walk_at "dl";refine ⟨yQ _,fun D hD=>?_⟩;have hgl:=hg.1;have hrl:=ok.rows;have L0:Lst H (upd H D (HO.lst [])) D []:=⟨⟨[],Ja,All2.nil⟩,Same.upd_new hD _,hD⟩;generalize upd H D (HO.lst [])=H1 at *;subst hB1;walk_at "dl";refine J0A ?_;unfold J5d;walk_at "dl";refine ⟨⟨_,.of (L0.same _ _ hl)⟩,ForW.enum (xs:=xs) (fun j σ H'=>(∃ v2 v3 v4 v5,σ=[some (V.ref lg),some (V.ref D),v2,v3,v4,v5])/\Lst H H' D (J2O g C j)) ⟨⟨none,none,none,none,rfl⟩,L0⟩ (fun _ _ _ q=>.of (q.2.same _ _ hl)) ?_ ?_⟩
  ·rintro j x σ H2 p hx ⟨⟨v2,v3,v4,v5,rfl⟩,Mz⟩ hp
   obtain ⟨r,hr,pr,rfl,hpr⟩:=All2.at hg hx;have erD:g.getD j []=r:=by rw [yZ,hr];rfl
   have hrc:=ok.cols r (y4 hr);have hj:j<R:=by rw [<- hrl];exact (yV.mp hr).1
   have bl:=J3T g C j;have hjc:j * C<=25:=yR (Nat.mul_le_mul (show j<=5 by omega) hC) (by decide);have u2:=Same.upd_new hp (HO.tup [V.int (j:Int),V.ref pr]);refine ⟨p,_,rfl,.of Ja,rfl,?_⟩
   replace Mz:=Mz.keep u2
   generalize upd H2 p (HO.tup [V.int (j:Int),V.ref pr])=H3 at *;simp only [J0y,J1X,JK];walk_at "dl";refine J0A ?_;walk_at "dl";have hrm:(r.map V.int).length=C:=by rw [yW];exact hrc
   refine ⟨⟨_,.of (Mz.same _ _ hpr)⟩,ForW.enum (xs:=r.map V.int) (fun m σ H'=>(∃ v4 v5,σ=[some (V.ref lg),some (V.ref D),some (V.int (j:Int)),some (V.ref pr),v4,v5])/\Lst H H' D (J2O g C j++J4K r j m)) ⟨⟨v4,v5,rfl⟩,by unfold J4K;simpa using Mz⟩ (fun _ _ _ q=>.of (q.2.same _ _ hpr)) ?_ ?_⟩
   ·rintro m y σ H4 q hy ⟨⟨v4',v5',rfl⟩,L4⟩ hq
    rw [ze] at hy;obtain ⟨z,hz,rfl⟩:=Option.map_eq_some_iff.mp hy;have hm:m<C:=by rw [<- hrc];exact (yV.mp hz).1
    have hzD:r.getD m 0=z:=by rw [yZ,hz];rfl
    have u5:=Same.upd_new hq (HO.tup [V.int (m:Int),V.int z]);refine ⟨q,_,rfl,.of Ja,rfl,?_⟩;obtain ⟨out,ho,_⟩:=L4.ex;generalize upd H4 q (HO.tup [V.int (m:Int),V.int z])=H5 at *;simp only [J0y,J1X,JK];walk_at "dl";refine ⟨.inl ⟨rfl,_,.of (u5 _ _ ho)⟩,Jc (by decide),fun pc hpc=>?_⟩;have u6:=Same.upd_new hpc (HO.tup [V.str (Str.ofString "column"),V.int (m:Int)]);have g6:upd H5 pc (HO.tup [V.str (Str.ofString "column"),V.int (m:Int)]) pc=some (.tup [V.str (Str.ofString "column"),V.int (m:Int)]):=Ja;generalize upd H5 pc (HO.tup [V.str (Str.ofString "column"),V.int (m:Int)])=H6 at *;refine ⟨Jc (by decide),fun pa hpa=>?_⟩;have u7:=Same.upd_new hpa (HO.tup [V.ref pc,V.str (Str.ofString "place"),V.int (j:Int)]);have g7:upd H6 pa (HO.tup [V.ref pc,V.str (Str.ofString "place"),V.int (j:Int)]) pa=some (.tup [V.ref pc,V.str (Str.ofString "place"),V.int (j:Int)]):=Ja;generalize upd H6 pa (HO.tup [V.ref pc,V.str (Str.ofString "place"),V.int (j:Int)])=H7 at *;refine ⟨Jc (by decide),fun pb hpb=>⟨Jc (by decide),fun pt hpt=>?_⟩⟩;have ll:(J2O g C j++J4K r j m).length=j * C+m:=by rw [y6,bl];simp [J4K]
    refine J32 L4 ho (by omega) ((u5.trans u6).trans u7) g7 (oa:=some j) rfl (J5O (u7 _ _ g6)) hpb (ob:=some j) rfl (show MAt _ (.str (Str.ofString "rows")) J2A from rfl) hpt fun H8 L8 _=>⟨⟨_,rfl⟩,?_⟩;have e:J4K r j (m+1)=J4K r j m++[⟨plK (J4H m) j,plK J2A j,z⟩]:=by unfold J4K;rw [range_succ,zg];simp only [zd,map_nil,hzD]
    rw [e,<- zp];exact L8
   ·rintro σ H4 ⟨⟨v4',v5',rfl⟩,L4⟩
    rw [hrm] at L4;refine ⟨⟨_,_,_,_,rfl⟩,?_⟩;have e:J2O g C (j+1)=J2O g C j++J4K r j C:=by unfold J2O;rw [range_succ,flatMap_append];simp only [flatMap_cons,flatMap_nil,append_nil,erD]
    rw [e];exact L4
  ·rintro σ H2 ⟨⟨v2,v3,v4,v5,rfl⟩,Mz⟩
   rw [hgl,hrl] at Mz;subst hB2;walk_at "dl";obtain ⟨out,h1,h2⟩:=Mz.ex;exact k H2 D out Mz.same hD h1 h2
theorem Lst.cat {ls ms:List Lk}(h:Lst H H1 D ls)(s:Same H1 H2)(h1:H1 D=some (.lst out))(hy:LksV H2 ys ms):Lst H (upd H2 D (.lst (out++ys))) D (ls++ms):=by
 obtain ⟨⟨out',g1,g2⟩,g3,g4⟩:=h;rw [h1] at g1;cases g1;have t:J3C H2 (upd H2 D (.lst (out++ys))):=J77 (s _ _ h1);exact ⟨⟨_,Ja,All2.append ((g2.mono s).monoT t) (hy.monoT t)⟩,(g3.trans s).set g4 _,g4⟩
def J8U (g gs:List (List Int))(c:Nat):List Lk:=[⟨plK J2j c,grK (J4H c) none,sm (J08 g c)⟩]++(upL (J4H c) gs (J08 g c)).map J2h
def J3q (g gs:List (List Int))(n:Nat):List Lk:=(List.range n).flatMap fun c=>J8U g gs c
theorem J6V (g gs:List (List Int))(n:Nat):J3q g gs (n+1)=J3q g gs n++J8U g gs n:=by unfold J3q;rw [range_succ,flatMap_append];simp only [flatMap_cons,flatMap_nil,append_nil]
theorem Jao (g gs:List (List Int))(c:Nat):(J8U g gs c).length=1+(g.length+gs.length):=by unfold J8U;rw [y6,yW,J1O];unfold J08;simp
theorem J3S (g gs:List (List Int)):∀ n,(J3q g gs n).length=n * (1+(g.length+gs.length))
 | 0=>by simp [J3q]
 | n+1=>by rw [J6V,y6,J3S g gs n,Jao,Nat.succ_mul]
def J3H (K:Frag):Sp:=fun vs H Q _=>∃ (lg lr:Addr) (xs ys:List V) (g gs:List (List Int)) (R C:Nat),vs=[.ref lg,.ref lr]/\H lg=some (.lst xs)/\GridV H xs g/\GOk g R C/\1<=R/\R<=5/\C<=5/\H lr=some (.lst ys)/\GridV H ys gs/\gs.length<=8/\(∀ r∈gs,J0B R r)/\(∀ r∈gs,r.length<=100) /\
 ∀ H' D out,Same H H'->H D=none->H' D=some (.lst out)->LksV H' out (J3q g gs C)->Q (.ref D) H'
theorem ok_column_links (T:Txt K mg f fd):FnOk P w K mg base CX0 4 (f 24) (fd 24) ["grid","row_groups"] (J3H K):=by
 walk_at "ok wL J0g"
 ·obtain ⟨lg,lr,xs,ys,g,gs,R,C,rfl,_⟩:=h
  rfl
 ·obtain ⟨lg,lr,xs,ys,g,gs,R,C,rfl,hl,hg,ok,hR1,hR,hC,hlr,hgs,hg8,hgok,hgl100,k⟩:=h
  refine ⟨_,(Jd (psl 2 J0g.nd (JL Jb))
   (Jd (J0z PassesOwn.never rfl (J1c rfl T.wm (pal rfl (Jk T.wu (ok_column_sums T) (hr.mono (by decide)) rfl (by decide) rfl (pal rfl (pvl 0) Jb)) Jb) rfl) (J1x rfl rfl (Jq (pgc 3 J0g.nd) (Jq (pgl 4 J0g.nd) J0o)))
   (Jd (JS (J1n rfl zx PySem.F.slot_list_append PySem.F.type_list_append J0b rfl rfl rfl rfl (pvl 2) (pal rfl (Jt (pal rfl (Jt (pal rfl Jz (pal rfl Jz (pal rfl (pvc 3) Jb)))) (pal rfl (Jt (pal rfl (Jt (pal rfl Jz (pal rfl (pvc 3) Jb))) (pal rfl Jz (pal rfl J4k Jb)))) (pal rfl (pvl 4) Jb)))) Jb)))
   (Jh (ps_aug J0g.nd (i:=2) rfl (.inl rfl) (Jk T.wA (J2C T) (hr.mono (by decide)) rfl (by decide) rfl (pal rfl (Jt (pal rfl Jz (pal rfl (pvc 3) Jb))) (pal rfl (pvl 1) (pal rfl (JW ["row"] ["grid","row_groups","told","column","number"] rfl (show CompSc _ (Jg J0N) ["grid","row_groups","told","column","number"] ["grid","row_groups","told","column","number"] from Jp (by decide +kernel)) (J0d rfl (pvl 0)) (fun _ _ _ _ _=>(pgl 0 (show (["row","grid","row_groups","told","column","number"]:List Str).Nodup by decide +kernel))) (fun _ _ _ _ _=>JN) (fun _ _ _ _ _=>(JD (J0c rfl) (pvl 0) (pvc 4) (fun _ _=>rfl)))) Jb)))) J5R))))
   (Jh (Jy (pvl 2))))),?_⟩
  generalize hB2:J2x _=B2;generalize hB1:JI (J4O _ _ _) B2=B1;walk_at "dl";refine ⟨yQ _,fun D hD=>?_⟩;have hgl:=hg.1;have hrl:=ok.rows;have L0:Lst H (upd H D (HO.lst [])) D []:=⟨⟨[],Ja,All2.nil⟩,Same.upd_new hD _,hD⟩;generalize upd H D (HO.lst [])=H1 at *;subst hB1;walk_at "dl";refine J0A ?_;walk_at "dl";refine ⟨lg,xs,g,R,C,rfl,L0.same _ _ hl,hg.mono L0.same,ok,by omega,by omega,fun H2 ps s2 hfr hps=>?_⟩;have nps:ps≠D:=fun e=>by
   obtain ⟨o,z,_⟩:=L0.ex;rw [e,z] at hfr;cases hfr
  rw [yH (by omega)] at hps
  replace L0:=L0.keep s2
  walk_at "dl";refine ⟨⟨_,.of hps⟩,ForW.enum (xs:=((List.range C).map fun j=>sm (J08 g j)).map V.int) (fun j σ H'=>(∃ v3 v4,σ=[some (V.ref lg),some (V.ref lr),some (V.ref D),v3,v4])/\Lst H H' D (J3q g gs j)/\H' ps=some (.lst (((List.range C).map fun j=>sm (J08 g j)).map V.int))) ⟨⟨none,none,rfl⟩,L0,hps⟩ (fun _ _ _ q=>.of q.2.2) ?_ ?_⟩
  ·rintro j x σ H3 p hx ⟨⟨v3,v4,rfl⟩,L3,hp3⟩ hp
   rw [ze,ze] at hx;obtain ⟨z,hz,rfl⟩:=Option.map_eq_some_iff.mp hx;obtain ⟨j',hj',rfl⟩:=Option.map_eq_some_iff.mp hz;have hj:j<C:=by have:=(yV.mp hj').1;simpa using this
   rw [List.getElem?_range hj] at hj';cases hj';have u4:=Same.upd_new hp (HO.tup [V.int (j:Int),V.int (sm (J08 g j))]);refine ⟨p,_,rfl,.of Ja,rfl,?_⟩;obtain ⟨out,ho,_⟩:=L3.ex;generalize upd H3 p (HO.tup [V.int (j:Int),V.int (sm (J08 g j))])=H4 at *;simp only [J0y,J1X,JK];generalize hB3:J9i _ _ _=B3;walk_at "dl";refine ⟨.inl ⟨rfl,_,.of (u4 _ _ ho)⟩,Jc (by decide),fun pa hpa=>?_⟩;have u5:=Same.upd_new hpa (HO.tup [V.str (Str.ofString "columns"),V.str (Str.ofString "place"),V.int (j:Int)]);have g5:upd H4 pa (HO.tup [V.str (Str.ofString "columns"),V.str (Str.ofString "place"),V.int (j:Int)]) pa=some (.tup [V.str (Str.ofString "columns"),V.str (Str.ofString "place"),V.int (j:Int)]):=Ja;generalize upd H4 pa (HO.tup [V.str (Str.ofString "columns"),V.str (Str.ofString "place"),V.int (j:Int)])=H5 at *;refine ⟨Jc (by decide),fun pc hpc=>?_⟩;have u6:=Same.upd_new hpc (HO.tup [V.str (Str.ofString "column"),V.int (j:Int)]);have g6:upd H5 pc (HO.tup [V.str (Str.ofString "column"),V.int (j:Int)]) pc=some (.tup [V.str (Str.ofString "column"),V.int (j:Int)]):=Ja;generalize upd H5 pc (HO.tup [V.str (Str.ofString "column"),V.int (j:Int)])=H6 at *;refine ⟨Jc (by decide),fun pb hpb=>⟨Jc (by decide),fun pt hpt=>?_⟩⟩;have cl:=J3S g gs j;have cm:j * (1+(g.length+gs.length))<=100:=yR (Nat.mul_le_mul (show j<=5 by omega) (show 1+(g.length+gs.length)<=14 by omega)) (by decide);refine J32 L3 ho (by omega) ((u4.trans u5).trans u6) (u6 _ _ g5) (oa:=some j) rfl (show MAt _ (.str (Str.ofString "columns")) J2j from rfl) hpb (ob:=none) rfl (J5O g6) hpt fun H7 L7 B7=>?_;have hp7:=B7 _ _ nps hp3;obtain ⟨out7,ho7,_⟩:=L7.ex;subst hB3;walk_at "dl";refine ⟨Jc (by decide),fun pd hpd=>?_⟩;have u8:=Same.upd_new hpd (HO.tup [V.str (Str.ofString "column"),V.int (j:Int)]);have g8:upd H7 pd (HO.tup [V.str (Str.ofString "column"),V.int (j:Int)]) pd=some (.tup [V.str (Str.ofString "column"),V.int (j:Int)]):=Ja;generalize upd H7 pd (HO.tup [V.str (Str.ofString "column"),V.int (j:Int)])=H8 at *;have S8:=L7.same.trans u8;refine ⟨⟨_,.of (S8 _ _ hl)⟩,?_⟩;refine Jx (xs:=xs) Ju (by rw [hgl];exact Jc (by omega)) (fun i ys H'=>H'=H8/\ys=((J08 g j).take i).map V.int) ⟨rfl,rfl⟩ (fun _ _ _ _ q=>by rw [q.1];exact .of (S8 _ _ hl)) (fun i ys H' q=>by rw [q.2];simp;omega) ?_ ?_
   ·rintro i x ys H9 hx ⟨rfl,rfl⟩
    obtain ⟨r,hr,pr,rfl,hpr⟩:=All2.at hg hx;have hrc:=ok.cols r (y4 hr);walk_at "dl";refine ⟨pr,_,_,V.int (r.getD j 0),rfl,rfl,.of (S8 _ _ hpr),Jn (by rw [ze,yZ,yU (by omega)];rfl),⟨_,rfl⟩,rfl,?_⟩;have ec:(J08 g j)[i]?=some (r.getD j 0):=by unfold J08;rw [ze,hr];rfl
    rw [take_add_one,ec,zg];rfl
   ·rintro zs H9 ⟨rfl,rfl⟩ D2 hD2
    have ecl:(J08 g j).length=R:=by unfold J08;rw [yW,hrl]
    rw [hgl,hrl,<- ecl,zf];have u9:=Same.upd_new hD2 (HO.lst ((J08 g j).map V.int));have g9:upd H9 D2 (HO.lst ((J08 g j).map V.int)) D2=some (.lst ((J08 g j).map V.int)):=Ja;generalize upd H9 D2 (HO.lst ((J08 g j).map V.int))=H10 at *;have S10:=S8.trans u9;refine ⟨V.ref pd,J4H j,lr,D2,_,gs,J08 g j,rfl,J5O (u9 _ _ g8),S10 _ _ hlr,hgs.mono S10,g9,hg8,by omega,by rw [ecl];exact hgok,hgl100,fun H11 D3 out3 s11 hD3 h3 hL3=>?_⟩;have u11:=(u8.trans u9).trans s11;have hol3:=hL3.1;rw [yW,J1O,ecl] at hol3;have hol7:out7.length=(J3q g gs j).length+1:=by
     obtain ⟨o',h1,h2⟩:=L7.ex;rw [ho7] at h1;cases h1;rw [h2.1,y6];rfl
    refine ⟨D,D3,out7,out3,rfl,rfl,u11 _ _ ho7,h3,by have:=Jc (n:=2000) (by decide);omega,rfl,⟨_,rfl⟩,?_,?_⟩
    ·rw [J6V]
     unfold J8U;rw [<- zp];exact L7.cat u11 ho7 hL3
    ·rw [Jf nps]
     exact u11 _ _ hp7
  ·rintro σ H3 ⟨⟨v3,v4,rfl⟩,L3,_⟩
   rw [yW,yW,zo] at L3;subst hB2;walk_at "dl";obtain ⟨out,h1,h2⟩:=L3.ex;exact k H3 D out L3.same hD h1 h2
def J37 (g:List (List Int))(C:Nat):List Int:=(List.range C).map fun j=>sm (J08 g j)
def J91 (g rgs cgs:List (List Int))(R C:Nat):List Lk:=((J2O g C R++J3q g rgs C)++(upL J2j cgs (J37 g C)).map J2h)++upL J2A rgs (g.map sm)++[⟨grK J2A none,grK J2j none,sm (g.map sm)⟩]
def J5A (K:Frag):Sp:=fun vs H Q _=>∃ (lg lr lc:Addr) (xs ys zs:List V) (g rgs cgs:List (List Int)) (R C:Nat),vs=[.ref lg,.ref lr,.ref lc]/\H lg=some (.lst xs)/\GridV H xs g/\GOk g R C/\1<=R/\R<=5/\C<=5/\H lr=some (.lst ys)/\GridV H ys rgs/\rgs.length<=8/\(∀ r∈rgs,J0B R r)/\(∀ r∈rgs,r.length<=100)/\H lc=some (.lst zs)/\GridV H zs cgs/\cgs.length<=8/\(∀ r∈cgs,J0B C r)/\(∀ r∈cgs,r.length<=100) /\
 ∀ H' D out,Same H H'->H' D=some (.lst out)->LksV H' out (J91 g rgs cgs R C)->Q (.ref D) H'
theorem ok_all_links (T:Txt K mg f fd):FnOk P w K mg base CX0 5 (f 25) (fd 25) ["grid","row_groups","column_groups"] (J5A K):=by
 walk_at "ok wM J0M"
 ·obtain ⟨lg,lr,lc,xs,ys,zs,g,rgs,cgs,R,C,rfl,_⟩:=h
  rfl
 ·obtain ⟨lg,lr,lc,xs,ys,zs,g,rgs,cgs,R,C,rfl,hl,hg,ok,hR1,hR,hC,hlr,hrg,hr8,hrok,hr100,hlc,hcg,hc8,hcok,hc100,k⟩:=h
  refine ⟨_,(Jd (J1w ["row"] ["grid","row_groups","column_groups","row_sums","told"] rfl (show CompSc _ (Jg J1u) ["grid","row_groups","column_groups","row_sums","told"] ["grid","row_groups","column_groups","row_sums","told"] from Jp (by decide +kernel)) J0M.nd (i:=3) rfl rfl (J0d rfl (pvl 0)) (fun _ _ _ _ _=>(pgl 0 (show (["row","grid","row_groups","column_groups","row_sums","told"]:List Str).Nodup by decide +kernel))) (fun _ _ _ _ _=>JN) (fun _ _ _ _ _=>(JC (J1m rfl rfl) T.wk J1p rfl (by decide) (by decide) rfl (pal rfl (pvl 0) Jb))))
   (Jd (psl 4 J0M.nd (Jm J0X (Jk T.wK (ok_box_links T) (hr.mono (by decide)) rfl (by decide) rfl (pal rfl (pvl 0) Jb)) (Jk T.wL (ok_column_links T) (hr.mono (by decide)) rfl (by decide) rfl (pal rfl (pvl 0) (pal rfl (pvl 1) Jb)))))
   (Jd (ps_aug J0M.nd (i:=4) rfl (.inl rfl) (Jk T.wA (J2C T) (hr.mono (by decide)) rfl (by decide) rfl (pal rfl Jz (pal rfl (pvl 2) (pal rfl (Jk T.wu (ok_column_sums T) (hr.mono (by decide)) rfl (by decide) rfl (pal rfl (pvl 0) Jb)) Jb)))) J5R)
   (Jd (ps_aug J0M.nd (i:=4) rfl (.inl rfl) (Jk T.wz (ok_links_up T) (hr.mono (by decide)) rfl (by decide) rfl (pal rfl Jz (pal rfl (pvl 1) (pal rfl (pvl 3) Jb)))) J5R)
   (Jd (JS (J1n rfl zx PySem.F.slot_list_append PySem.F.type_list_append J0b rfl rfl rfl rfl (pvl 4) (pal rfl (Jt (pal rfl (Jt (pal rfl Jz (pal rfl Jz (pal rfl J4k Jb)))) (pal rfl (Jt (pal rfl Jz (pal rfl Jz (pal rfl J4k Jb)))) (pal rfl (JC (J1m rfl rfl) T.wk J1p rfl (by decide) (by decide) rfl (pal rfl (pvl 3) Jb)) Jb)))) Jb)))
   (Jh (Jy (pvl 4)))))))),?_⟩
  generalize hB4:JI (J2V _) _=B4;generalize hB3:JI (J9i _ _ _) B4=B3;generalize hB2:JI (J9i _ _ _) B3=B2;generalize hB1:JI (J14 _ _) B2=B1;walk_at "dl";have hgl:=hg.1;have hrl:=ok.rows;have hgsm:(g.map sm).length=R:=by rw [yW,hrl]
  refine ⟨⟨_,.of hl⟩,?_⟩;refine Jx (xs:=xs) Ju (by rw [hgl];exact Jc (by omega)) (fun i ys H'=>H'=H/\ys=((g.map sm).take i).map V.int) ⟨rfl,rfl⟩ (fun _ _ _ _ q=>by rw [q.1];exact .of hl) (fun i ys H' q=>by rw [q.2];simp;omega) ?_ ?_
  ·rintro i x ys H1 hx ⟨rfl,rfl⟩
   obtain ⟨r,hr,pr,rfl,hpr⟩:=All2.at hg hx;walk_at "dl";refine ⟨r,.of hpr,⟨_,rfl⟩,?_⟩;rw [take_add_one,ze,hr,zg];rfl
  ·rintro zs0 H1 ⟨rfl,rfl⟩ p1 hp1
   rw [hgl,hrl,<- hgsm,zf];have u1:=Same.upd_new hp1 (HO.lst ((g.map sm).map V.int));have g1:upd H1 p1 (HO.lst ((g.map sm).map V.int)) p1=some (.lst ((g.map sm).map V.int)):=Ja;generalize upd H1 p1 (HO.lst ((g.map sm).map V.int))=H2 at *;subst hB1;walk_at "dl";refine ⟨lg,xs,g,R,C,rfl,u1 _ _ hl,hg.mono u1,ok,hR,hC,fun H3 D3 o3 s3 f3 h3 L3=>?_⟩;have S3:=u1.trans s3;refine ⟨lg,lr,xs,_,g,rgs,R,C,rfl,S3 _ _ hl,hg.mono S3,ok,hR1,hR,hC,S3 _ _ hlr,hrg.mono S3,hr8,hrok,hr100,fun H4 D4 o4 s4 f4 h4 L4=>?_⟩;have S4:=S3.trans s4;have bl:=J3T g C R;have cl:=J3S g rgs C;have hRC:R * C<=25:=yR (Nat.mul_le_mul hR hC) (by decide);have hCc:C * (1+(g.length+rgs.length))<=100:=yR (Nat.mul_le_mul hC (show 1+(g.length+rgs.length)<=14 by omega)) (by decide);have ol3:=L3.1;have ol4:=L4.1;have sl:=Jc (n:=2000) (by decide);refine ⟨D3,D4,o3,o4,rfl,rfl,s4 _ _ h3,h4,by omega,fun D hD=>?_⟩;have Hn:H1 D=none:=S4.free hD;have L5:Lst H1 (upd H4 D (HO.lst (o3++o4))) D (J2O g C R++J3q g rgs C):=⟨⟨_,Ja,All2.append (L3.mono (s4.trans (Same.upd_new hD _))) (L4.mono (Same.upd_new hD _))⟩,S4.new hD _,Hn⟩;have g5:upd H4 D (HO.lst (o3++o4)) p1=some (.lst ((g.map sm).map V.int)):=(Same.upd_new hD _) _ _ ((s3.trans s4) _ _ g1);have n1:p1≠D:=fun e=>by rw [<- e] at hD;rw [(s3.trans s4) _ _ g1] at hD;cases hD
   have d5:upd H4 D (HO.lst (o3++o4)) D=some (.lst (o3++o4)):=Ja;generalize upd H4 D (HO.lst (o3++o4))=H5 at *;subst hB2;walk_at "dl";have S5:=L5.same;refine ⟨lg,xs,g,R,C,rfl,S5 _ _ hl,hg.mono S5,ok,by omega,by omega,fun H6 ps s6 _ hps=>?_⟩;rw [yH (by omega)] at hps;have S6:=S5.trans s6;have cln:(J37 g C).length=C:=by unfold J37;rw [yW,zo]
   refine ⟨V.str (Str.ofString "columns"),J2j,lc,ps,_,cgs,J37 g C,rfl,rfl,S6 _ _ hlc,hcg.mono S6,hps,hc8,by omega,by rw [cln];exact hcok,hc100,fun H7 D7 o7 s7 _ h7 L7=>?_⟩;have u7:=s6.trans s7;have ol7:=L7.1;rw [yW,J1O,cln] at ol7;refine ⟨D,D7,o3++o4,o7,rfl,rfl,u7 _ _ d5,h7,by rw [y6];omega,?_⟩;have L8:=L5.cat u7 d5 L7;have g8:upd H7 D (HO.lst (o3++o4++o7)) p1=some (.lst ((g.map sm).map V.int)):=by rw [Jf n1];exact u7 _ _ g5
   have d8:upd H7 D (HO.lst (o3++o4++o7)) D=some (.lst (o3++o4++o7)):=Ja;generalize upd H7 D (HO.lst (o3++o4++o7))=H8 at *;subst hB3;walk_at "dl";have S8:=L8.same;refine ⟨V.str (Str.ofString "rows"),J2A,lr,p1,_,rgs,g.map sm,rfl,rfl,S8 _ _ hlr,hrg.mono S8,g8,hr8,by omega,by rw [hgsm];exact hrok,hr100,fun H9 D9 o9 s9 _ h9 L9=>?_⟩;have ol9:=L9.1;rw [J1O,hgsm] at ol9;refine ⟨D,D9,_,o9,rfl,rfl,s9 _ _ d8,h9,by rw [y6,y6];omega,?_⟩;have L10:=L8.cat s9 d8 L9;have g10:upd H9 D (HO.lst (o3++o4++o7++o9)) p1=some (.lst ((g.map sm).map V.int)):=by rw [Jf n1];exact s9 _ _ g8
   have d10:upd H9 D (HO.lst (o3++o4++o7++o9)) D=some (.lst (o3++o4++o7++o9)):=Ja;generalize upd H9 D (HO.lst (o3++o4++o7++o9))=H10 at *;subst hB4;walk_at "dl";refine ⟨.inl ⟨rfl,_,.of d10⟩,Jc (by decide),fun pa hpa=>?_⟩;have u11:=Same.upd_new hpa (HO.tup [V.str (Str.ofString "rows"),V.str (Str.ofString "group"),V.non]);have g11:upd H10 pa (HO.tup [V.str (Str.ofString "rows"),V.str (Str.ofString "group"),V.non]) pa=some (.tup [V.str (Str.ofString "rows"),V.str (Str.ofString "group"),V.non]):=Ja;generalize upd H10 pa (HO.tup [V.str (Str.ofString "rows"),V.str (Str.ofString "group"),V.non])=H11 at *;refine ⟨Jc (by decide),fun pb hpb=>⟨g.map sm,.of ((u11.new hpb _) _ _ g10),Jc (by decide),fun pt hpt=>?_⟩⟩;refine J32 L10 d10 ?_ u11 g11 (oa:=none) rfl (show MAt _ (.str (Str.ofString "rows")) J2A from rfl) hpb (ob:=none) rfl (show MAt _ (.str (Str.ofString "columns")) J2j from rfl) hpt fun H12 L12 _=>?_
   ·rw [y6,y6,y6,yW,J1O,J1O,cln,hgsm,bl,cl]
    omega
   ·obtain ⟨out,h1,h2⟩:=L12.ex
    exact k H12 D out L12.same h1 h2
def J3n (ks:List NPK):List (NPK×V):=ks.zipIdx.map fun p=>(p.1,V.int (p.2:Int))
theorem J3Q (ks:List NPK):(J3n ks).length=ks.length:=by unfold J3n;rw [yW,length_zipIdx]
theorem Ja5 (ks:List NPK)(k:NPK):J3n (ks++[k])=J3n ks++[(k,V.int (ks.length:Int))]:=by unfold J3n;rw [zipIdx_append,zg];simp
def ixK (k:NPK):List NPK->Option Nat
 | []=>none
 | a::ks=>if a=k then some 0 else (ixK k ks).map (·+1)
theorem J6I (k:NPK):∀ (ks:List NPK) (m:Nat),((ks.zipIdx m).map fun p=>(p.1,V.int (p.2:Int))).find? (fun x=>decide (x.1=k))=(ixK k ks).map fun i=>(k,V.int ((i+m:Nat):Int))
 | [],m=>rfl
 | a :: ks,m=>by
   rw [zipIdx_cons,zd,List.find?_cons];unfold ixK;by_cases c:a=k
   ·subst c
    rw [yI rfl];simp
   ·rw [yM (show ¬ ((a,m).1=k) from c),yH c]
    show List.find? _ _=_;rw [J6I k ks (m+1),Option.map_map];congr 1;funext i;show (k,V.int ((i+(m+1):Nat):Int))=(k,V.int ((i+1+m:Nat):Int));rw [show i+(m+1)=i+1+m by omega]
theorem J8c (ks:List NPK)(k:NPK):J0I (J3n ks) k=(ixK k ks).map fun (i:Nat)=>V.int (i:Int):=by
 unfold J0I J3n;rw [J6I k ks 0,Option.map_map];rfl
theorem J34 {k:NPK}:∀ {ks:List NPK} {i:Nat},ixK k ks=some i->ks[i]?=some k
 | [],i,h=>by cases h
 | a :: ks,i,h=>by
   unfold ixK at h;by_cases c:a=k
   ·rw [yI c] at h
    cases h;rw [c];rfl
   ·rw [yH c] at h
    obtain ⟨j,hj,rfl⟩:=Option.map_eq_some_iff.mp h;show ks[j]?=some k;exact J34 hj
theorem J5Q {k:NPK}:∀ {ks:List NPK},ixK k ks=none->k∉ks
 | [],_=>by simp
 | a :: ks,h=>by
   unfold ixK at h;by_cases c:a=k
   ·rw [yI c] at h;cases h
   ·rw [yH c,Option.map_eq_none_iff] at h
    intro z;rcases zc.mp z with z | z
    ·exact c z.symm
    ·exact J5Q h z
theorem J9B {kvs:List (NPK×V)}{k:NPK}(h:J0I kvs k=none):J1b kvs k v=kvs++[(k,v)]:=by
 unfold J1b;rw [yH];intro z;rw [any_eq_true] at z;obtain ⟨x,hx,hd⟩:=z;unfold J0I at h;rw [Option.map_eq_none_iff,List.find?_eq_none] at h;exact h x hx hd
def J6e (P:Program)(w:World)(K:Frag):Sp:=fun vs H Q _=>∃ (l:Addr) (xs:List V) (ls:List Lk),vs=[.ref l]/\H l=some (.lst xs)/\LksV H xs ls/\ls.length<=1000 /\
 ∀ H' a ks,Same H H'->ND P w H' a (J3n ks)->ks.Nodup->(∀ L∈ls,L.s∈ks)->(∀ k∈ks,∃ L∈ls,k=L.s)->ks.length<=ls.length->Q (.ref a) H'
theorem ok_nodes_of (T:Txt K mg f fd):FnOk P w K mg base CX0 1 (f 26) (fd 26) ["links"] (J6e P w K):=by
 walk_at "ok wN J15"
 ·obtain ⟨l,xs,ls,rfl,_⟩:=h
  rfl
 ·obtain ⟨l,xs,ls,rfl,hl,hL,h1000,k⟩:=h
  refine ⟨_,(Jd (psl 1 J15.nd J9P)
   (Jd (J0z PassesOwn.never rfl (J0d rfl (pvl 0)) (J1x rfl rfl (Jq (pgl 2 J15.nd) (Jq (pgl 3 J15.nd) (Jq (pgl 4 J15.nd) J0o))))
   (Jh (JS (J7k hr.units (pvl 1) (pvl 2) (JC J5m T.wa J00 rfl (by decide) (by decide) rfl (pal rfl (pvl 1) Jb)) ⟨rfl,rfl,rfl,rfl⟩))))
   (Jh (Jy (pvl 1))))),?_⟩
  generalize hB2:J2x _=B2;generalize hB1:JI (J4O _ _ _) B2=B1;walk_at "dl";have hxl:=hL.1;intro a ds ha hN;have u1:=Same.upd_new ha (dN P w a ds);generalize upd H a (dN P w a ds)=H1 at *;subst hB1;walk_at "dl";refine J0A ?_;walk_at "dl";refine ⟨⟨_,.of (u1 _ _ hl)⟩,?_⟩;refine ForW.of (Ju (xs:=xs)) (fun i σ H'=>(∃ v2 v3 v4,σ=[some (V.ref l),some (V.ref a),v2,v3,v4])/\Same H H'/\∃ ks,ND P w H' a (J3n ks)/\ks.Nodup/\(∀ L∈ls.take i,L.s∈ks)/\(∀ k∈ks,∃ L∈ls,k=L.s)/\ks.length<=i) ⟨⟨none,none,none,rfl⟩,u1,[],hN,nodup_nil,by simp,by simp,yJ _⟩ (fun _ _ _ _ q=>.of (q.2.1 _ _ hl)) ?_ ?_
  ·rintro i x σ H2 hx ⟨⟨v2,v3,v4,rfl⟩,s2,ks,N2,nd,h1,h2,h3⟩
   obtain ⟨L,hLi,p,sa,sb,rfl,hp,ka,kb⟩:=All2.at hL hx;have hi:=(yV.mp hLi).1;refine ⟨p,_,rfl,.of (s2 _ _ hp),rfl,?_⟩;simp only [J0y,J1X,JK];walk_at "dl";have sz:(J3n ks).length<=sizeLine:=by rw [J3Q];exact Jc (by omega)
   have hv:=J8c ks L.s;refine ⟨⟨_,N2⟩,_,N2,sz,_,N2,L.s,ka.mono (J1P s2),sz,fun v hv2=>⟨⟨_,rfl⟩,s2,ks,N2,nd,fun L' hL'=>?_,h2,by omega⟩,fun hn ds2 N3=>⟨⟨_,rfl⟩,s2.set ha _,ks++[L.s],?_,?_,fun L' hL'=>?_,fun k' hk'=>?_,by rw [y6];exact Nat.succ_le_succ h3⟩⟩
   ·rw [take_add_one,hLi] at hL'
    rcases zh.mp hL' with hL' | hL'
    ·exact h1 L' hL'
    ·cases yX.mp hL'
     cases c:ixK L.s ks with
     | none=>rw [hv,c] at hv2;cases hv2
     | some j=>exact y4 (J34 c)
   ·rw [Ja5,<- J9B hn,<- J3Q]
    exact N3
   ·refine nodup_append.mpr ⟨nd,by simp,fun x hx y hy e=>?_⟩
    cases yX.mp hy;subst e;cases c:ixK L.s ks with
    | none=>exact J5Q c hx
    | some j=>rw [hv,c] at hn;cases hn
   ·rw [take_add_one,hLi] at hL'
    rcases zh.mp hL' with hL' | hL'
    ·exact zj _ (h1 L' hL')
    ·cases yX.mp hL'
     exact zi _ (by simp)
   ·rcases zh.mp hk' with hk' | hk'
    ·exact h2 k' hk'
    ·exact ⟨L,y4 hLi,yX.mp hk'⟩
  ·rintro σ H2 ⟨⟨v2,v3,v4,rfl⟩,s2,ks,N2,nd,h1,h2,h3⟩
   rw [hxl,zf] at h1;subst hB2;walk_at "dl";exact k H2 a ks s2 N2 nd h1 h2 (by omega)
structure LksOk (ls:List Lk):Prop where
 go:∀ L∈ls,∃ L'∈ls,L'.s=L.g
 ne:∀ L∈ls,L.s≠L.g
 nn:∀ L∈ls,0<=L.n/\L.n<=100000
 len:ls.length<=120
 one:ls≠[]
def ixI (ks:List NPK)(k:NPK):Int:=((ixK k ks).getD 0:Nat)
def J90 (ks:List NPK)(many whole:Int)(L:Lk):Arc:=⟨ixI ks L.s,ixI ks L.g,L.n * many / whole,-(-L.n * many / whole)⟩
theorem Jbc {as:List Arc}(t:J3C H H')(h:ArcsV H xs as):ArcsV H' xs as:=All2.mono h fun _ _ ⟨p,e,g⟩=>⟨p,e,t _ _ g⟩
theorem J7q {ks:List NPK}{k:NPK}(h:k∈ks):∃ i,ixK k ks=some i/\i<ks.length:=by
 cases c:ixK k ks with
 | none=>exact absurd h (J5Q c)
 | some i=>exact ⟨i,rfl,(yV.mp (J34 c)).1⟩
theorem J8a {ks:List NPK}{k:NPK}(h:k∈ks):J0I (J3n ks) k=some (V.int (ixI ks k)):=by
 obtain ⟨i,e,_⟩:=J7q h;rw [J8c,e];unfold ixI;rw [e];rfl
def J3F (K:Frag)(f:Nat->Addr):Sp:=fun vs H Q _=>∃ (l:Addr) (xs:List V) (ls:List Lk) (many whole:Int),vs=[.ref l,.int many,.int whole]/\H l=some (.lst xs)/\LksV H xs ls/\LksOk ls/\0<=many/\many<=1000/\0<whole/\whole<=100000 /\
 ∀ (H':Hp) (pl:Addr) (zs:List Int),Same H H'->H' pl=some (.lst (zs.map V.int))->zs.length<=300->Q (.ref pl) H'
theorem ok_rounded_flow (T:Txt K mg f fd):FnOk P w K mg base CX0 6 (f 27) (fd 27) ["links","many","whole"] (J3F K f):=by
 walk_at "ok wO J07"
 ·obtain ⟨l,xs,ls,many,whole,rfl,_⟩:=h
  rfl
 ·obtain ⟨l,xs,ls,many,whole,rfl,hl,hL,ok,hm0,hm1,hw0,hw1,k⟩:=h
  refine ⟨_,(Jd (psl 3 J07.nd (Jk T.wN (ok_nodes_of T) (hr.mono (by decide)) rfl (by decide) rfl (pal rfl (pvl 0) Jb)))
   (Jd (psl 4 J07.nd (JL Jb))
   (Jd (J0z PassesOwn.never rfl (J0d rfl (pvl 0)) (J1x rfl rfl (Jq (pgl 5 J07.nd) (Jq (pgl 6 J07.nd) (Jq (pgl 7 J07.nd) J0o))))
   (Jh (JS (J1n rfl zx PySem.F.slot_list_append PySem.F.type_list_append J0b rfl rfl rfl rfl (pvl 4) (pal rfl (Jt (pal rfl (J81 hr.units (pvl 3) (pvl 5) (fun _ _=>rfl)) (pal rfl (J81 hr.units (pvl 3) (pvl 6) (fun _ _=>rfl)) (pal rfl (Jm J5J (Jm J0W (pvl 7) (pvl 1)) (pvl 2)) (pal rfl (J3v J23 (Jm J5J (Jm J0W (J3v J23 (pvl 7)) (pvl 1)) (pvl 2))) Jb))))) Jb)))))
   (Jh (Jy (JD (J0V rfl) (Jk T.wH (ok_flow_or_cut T) (hr.mono (by decide)) rfl (by decide) rfl (pal rfl (JC J5m T.wa J00 rfl (by decide) (by decide) rfl (pal rfl (pvl 3) Jb)) (pal rfl (pvl 4) Jb))) Je (fun _ _=>rfl))))))),?_⟩
  generalize hB3:J2x _=B3;generalize hB2:JI (J4O _ _ _) B3=B2;generalize hB1:JI (J14 _ _) B2=B1;walk_at "dl";have hxl:=hL.1;have hll:=ok.len;refine ⟨l,xs,ls,rfl,hl,hL,by omega,fun H1 a ks s1 N1 nd hs1 hs2 hkl=>?_⟩;subst hB1;walk_at "dl";refine ⟨yQ _,fun D hD=>?_⟩;obtain ⟨ds,hda,_⟩:=N1.2;have hDa:a≠D:=fun e=>by rw [e,hD] at hda;cases hda
  have u2:=Same.upd_new hD (HO.lst []);have d2:upd H1 D (HO.lst []) D=some (.lst []):=Ja;generalize upd H1 D (HO.lst [])=H2 at *;subst hB2;walk_at "dl";refine J0A ?_;walk_at "dl";refine ⟨⟨_,.of (u2 _ _ (s1 _ _ hl))⟩,?_⟩;refine ForW.of (Ju (xs:=xs)) (fun i σ H'=>(∃ v5 v6 v7,σ=[some (V.ref l),some (V.int many),some (V.int whole),some (V.ref a),some (V.ref D),v5,v6,v7])/\Same H1 H'/\∃ out,H' D=some (.lst out)/\ArcsV H' out ((ls.take i).map (J90 ks many whole))) ⟨⟨none,none,none,rfl⟩,u2,[],d2,All2.nil⟩ (fun _ _ _ _ q=>.of (q.2.1 _ _ (s1 _ _ hl))) ?_ ?_
  ·rintro i x σ H3 hx ⟨⟨v5,v6,v7,rfl⟩,s3,out,ho,hA⟩
   obtain ⟨L,hLi,p,sa,sb,rfl,hp,ka,kb⟩:=All2.at hL hx;have S3:=s1.trans s3;refine ⟨p,_,rfl,.of (S3 _ _ hp),rfl,?_⟩;simp only [J0y,J1X,JK];walk_at "dl";have hmem:=y4 hLi;obtain ⟨L',hL',eg⟩:=ok.go L hmem;have N3:ND P w H3 a (J3n ks):=N1.mono (J1P s3) ((s3 _ _ hda).trans hda.symm);have nb:=ok.nn L hmem;have hi:=(yV.mp hLi).1;have hol:out.length=i:=by rw [hA.1,yW,y7];omega
   have mb:L.n * many<=100000 * 1000:=Int.mul_le_mul nb.2 hm1 hm0 (by decide);have mb0:0<=L.n * many:=Int.mul_nonneg nb.1 hm0;have en:-L.n * many=-(L.n * many):=Int.neg_mul ..;refine ⟨.inl ⟨rfl,_,.of ho⟩,_,N3,_,ka.mono (J1P S3),_,J8a (hs1 L hmem),_,N3,_,kb.mono (J1P S3),_,J8a (eg ▸ hs1 L' hL'),?_,?_,?_,?_,Jc (by decide),fun q hq=>?_⟩
   ·exact .inr ⟨by omega,by omega⟩
   ·exact ⟨hw0,by omega⟩
   ·exact .inr ⟨by omega,by omega⟩
   ·exact ⟨hw0,by omega⟩
   ·have u4:=Same.upd_new hq (HO.tup (J90 ks many whole L).vs)
    refine ⟨D,out,_,rfl,rfl,(Same.upd_new hq _) _ _ ho,by have:=Jc (n:=2000) (by decide);omega,⟨_,rfl⟩,(s3.new hq _).set hD _,_,Ja,?_⟩;have t:∀ o,J3C (upd H3 q (HO.tup (J90 ks many whole L).vs)) (upd (upd H3 q (HO.tup (J90 ks many whole L).vs)) D o):=fun o=>J77 (u4 _ _ ho);rw [take_add_one,hLi,zg];exact All2.snoc (Jbc (t _) (hA.mono u4)) ⟨q,rfl,t _ _ _ Ja⟩
  ·rintro σ H3 ⟨⟨v5,v6,v7,rfl⟩,s3,out,ho,hA⟩
   rw [hxl,zf] at hA;subst hB3;walk_at "dl";have N3:ND P w H3 a (J3n ks):=N1.mono (J1P s3) ((s3 _ _ hda).trans hda.symm);have k1:1<=ks.length:=by
    obtain ⟨L,hLm⟩:∃ L,L∈ls:=exists_mem_of_ne_nil _ ok.one;exact length_pos_of_mem (hs1 L hLm)
   refine ⟨_,N3,by rw [J3Q];exact Jc (by omega),ks.length,D,out,_,by rw [J3Q],⟨ho,hA,k1,by omega,by rw [yW];omega,fun A hA'=>?_⟩,fun H4 t pl g zs s4 ht hpl hz hF=>?_⟩
   ·obtain ⟨L,hLm,rfl⟩:=zl.mp hA'
    obtain ⟨L',hL',eg⟩:=ok.go L hLm;have nb:=ok.nn L hLm;obtain ⟨i,e1,e2⟩:=J7q (hs1 L hLm);obtain ⟨j,e3,e4⟩:=J7q (eg ▸ hs1 L' hL');have ei:(J90 ks many whole L).a=(i:Int):=by show ixI ks L.s=_;unfold ixI;rw [e1];rfl
    have ej:(J90 ks many whole L).b=(j:Int):=by show ixI ks L.g=_;unfold ixI;rw [e3];rfl
    have mb0:0<=L.n * many:=Int.mul_nonneg nb.1 hm0;refine ⟨⟨by omega,by omega,by omega,by omega⟩,fun e=>?_,?_,?_⟩
    ·rw [ei,ej] at e
     have:i=j:=by omega
     subst this;exact ok.ne L hLm (yN ((J34 e1).symm.trans (J34 e3)))
    ·exact Int.ediv_nonneg mb0 (by omega)
    ·show L.n * many / whole<=-(-L.n * many / whole)
     have h1:=Int.ediv_mul_le (L.n * many) (show whole≠0 by omega);have h2:=Int.ediv_mul_le (-L.n * many) (show whole≠0 by omega);rw [Int.neg_mul] at h2 ⊢;have h3:(L.n * many / whole+-(L.n * many) / whole) * whole<=0:=by rw [Int.add_mul];omega
     have h4:L.n * many / whole+-(L.n * many) / whole<=0:=by
      by_cases c:0<L.n * many / whole+-(L.n * many) / whole
      ·have:=Int.mul_pos c hw0;omega
      ·omega
     omega
   ·exact ⟨t,_,_,_,rfl,rfl,.of ht,Jn (j:=1) rfl,k H4 pl zs (s1.trans (s3.trans s4)) hz hF⟩
structure Chn (n:Nat)(gs:List (List Int)):Prop where
 len:gs.length<=4
 ok:∀ r∈gs,J0B n r
 ch:∀ a∈gs,∀ b∈gs,(∀ z∈a,z∈b)\/∀ z∈b,z∈a
theorem J6n {n:Int}:∀ {r:List Int} {lo:Int},r.Pairwise (·<·)->(∀ z∈r,lo<=z/\z<n)->lo<=n->(r.length:Int)<=n - lo
 | [],lo,_,_,h=>by simp;omega
 | a::t,lo,hp,hb,_=>by
   obtain ⟨h1,h2⟩:=pairwise_cons.mp hp;have ha:=hb a y9;have:=J6n (n:=n) (lo:=a+1) h2 (fun z hz=>⟨by have:=h1 z hz;omega,(hb z (y8 _ hz)).2⟩) (by omega);rw [length_cons];omega
theorem J4A (h:J0B n r):r.length<=n:=by
 have:=J6n (n:=(n:Int)) (lo:=0) h.2.1 h.2.2 (by omega);omega
theorem J6l (hx:x.Pairwise (·<·))(hy:y.Pairwise (·<·))(h:∀ z∈y,z∈x):J18 x y=y :=
 rise_eq (hx.filter _) hy fun k=>by
  unfold J18;rw [mem_filter,decide_eq_true_iff];exact ⟨fun z=>z.2,fun z=>⟨h k z,z⟩⟩
theorem J9o (h:∀ z∈x,z∈y):J18 x y=x:=by
 unfold J18;exact filter_eq_self.mpr fun z hz=>yL (h z hz)
theorem J60 (h:Chn n gs):J2P n gs:=by
 refine ⟨by have:=h.len;omega,h.ok,pairwise_iff_getElem.mpr fun i j hi hj _=>?_⟩;have hi':=getElem_mem hi;have hj':=getElem_mem hj;rcases h.ch _ hj' _ hi' with c | c
 ·exact .inr (.inl (by rw [J9o c];exact yJ _))
 ·exact .inr (.inr (by rw [J6l (h.ok _ hj').2.1 (h.ok _ hi').2.1 c];exact yJ _))
structure Dn (n:Nat)(ws:List (List Int)):Prop where
 len:ws.length<=4
 ok:∀ i,i<ws.length->J0B n (ws.getD i [])
 sub:∀ i,i+1<ws.length->∀ z∈ws.getD (i+1) [],z∈ws.getD i []
theorem Jbt (h:Chn n gs)(w:J7E gs ws):Dn n ws:=by
 have gd:∀ i (hi:i<ws.length),ws.getD i []=ws[i]:=fun i hi=>by rw [yZ,yU hi];rfl
 have gm:∀ i (hi:i<ws.length),ws[i]∈gs:=fun i hi=>w.1.mem_iff.mp (getElem_mem hi);refine ⟨by rw [w.1.length_eq];exact h.len,fun i hi=>by rw [gd i hi];exact h.ok _ (gm i hi),fun i hi z hz=>?_⟩;have hi0:i<ws.length:=by omega
 rw [gd _ hi] at hz;rw [gd _ hi0];rcases h.ch _ (gm _ hi) _ (gm _ hi0) with c | c
 ·exact c z hz
 ·have o1:=(h.ok _ (gm _ hi)).2.1
  have o0:=(h.ok _ (gm _ hi0)).2.1;have e:=J6l o1 o0 c;have hl:=pairwise_iff_getElem.mp w.2 i (i+1) hi0 hi (by omega);have e2:J18 ws[i+1] ws[i]=ws[i+1]:=by
   refine List.Sublist.eq_of_length_le filter_sublist ?_;show ws[i+1].length<=(J18 ws[i+1] ws[i]).length;rw [e];exact hl
  rw [<- e,e2];exact hz
theorem J5Z {gs:List (List Int)}{z:Int}:∀ {n m:Nat},clo gs n z=some m->m<n
 | 0,m,h=>by cases h
 | n+1,m,h=>by
   unfold clo at h
   split at h
   ·cases h;omega
   ·have:=J5Z h;omega
theorem Jap (h:z∈gs.getD n []):clo gs (n+1) z=some n:=by
 unfold clo;rw [yI h]
theorem J8e (h:J0B n r):r.getD 0 0∈r/\0<=r.getD 0 0/\r.getD 0 0<n:=by
 obtain ⟨h0,_,h2⟩:=h;cases r with
 | nil=>exact absurd rfl h0
 | cons a t=>exact ⟨y9,h2 a y9⟩
theorem J5M {sd:JT}(h:i<sums.length):(⟨plK sd i,grK sd (clo gs gs.length i),sums.getD i 0⟩:Lk)∈upL sd gs sums :=
 zj _ (zl.mpr ⟨i,mem_range.mpr h,rfl⟩)
theorem J5N {sd:JT}(h:i<gs.length):(⟨grK sd (some i),grK sd (clo gs i ((gs.getD i []).getD 0 0)),sm ((gs.getD i []).map fun z=>sums.getD z.toNat 0)⟩:Lk)∈upL sd gs sums :=
 zi _ (zl.mpr ⟨i,mem_range.mpr h,rfl⟩)
theorem J2T {sd:JT}{L:Lk}(h:L∈upL sd gs sums):(∃ i,i<sums.length/\L=⟨plK sd i,grK sd (clo gs gs.length i),sums.getD i 0⟩)\/∃ i,i<gs.length/\L=⟨grK sd (some i),grK sd (clo gs i ((gs.getD i []).getD 0 0)),sm ((gs.getD i []).map fun z=>sums.getD z.toNat 0)⟩:=by
 rcases zh.mp h with h | h
 ·obtain ⟨i,hi,rfl⟩:=zl.mp h
  exact .inl ⟨i,mem_range.mp hi,rfl⟩
 ·obtain ⟨i,hi,rfl⟩:=zl.mp h
  exact .inr ⟨i,mem_range.mp hi,rfl⟩
theorem Jaz {sd:JT}{L:Lk}(h:L∈upL sd gs sums):∃ o,L.g=grK sd o/\∀ m,o=some m->m<gs.length:=by
 rcases J2T h with ⟨i,hi,rfl⟩ | ⟨i,hi,rfl⟩
 ·exact ⟨_,rfl,fun m e=>J5Z e⟩
 ·exact ⟨_,rfl,fun m e=>by have:=J5Z e;omega⟩
theorem J2S {sd:JT}(d:Dn sums.length ws)(h1:1<=sums.length)(o:Option Nat)(ho:∀ m,o=some m->m<ws.length):∃ L∈upL sd ws sums,L.g=grK sd o:=by
 cases o with
 | none =>
   cases ws with
   | nil=>exact ⟨_,J5M (i:=0) (by omega),rfl⟩
   | cons a t=>exact ⟨_,J5N (i:=0) (by simp),rfl⟩
 | some m =>
   have hm:=ho m rfl;by_cases c:m+1<ws.length
   ·refine ⟨_,J5N c,?_⟩
    show grK sd (clo ws (m+1) _)=_;rw [Jap (d.sub m c _ (J8e (d.ok (m+1) c)).1)]
   ·obtain ⟨g1,g2,g3⟩:=J8e (d.ok m hm)
    refine ⟨_,J5M (i:=((ws.getD m []).getD 0 0).toNat) (by omega),?_⟩;show grK sd (clo ws ws.length _)=_;rw [Int.toNat_of_nonneg g2,show ws.length=m+1 by omega,Jap g1]
theorem J69 {sd:JT}{L:Lk}(h:L∈upL sd gs sums):(∃ i,i<sums.length/\L.s=plK sd i)\/∃ m,m<gs.length/\L.s=grK sd (some m):=by
 rcases J2T h with ⟨i,hi,rfl⟩ | ⟨i,hi,rfl⟩
 ·exact .inl ⟨i,hi,rfl⟩
 ·exact .inr ⟨i,hi,rfl⟩
theorem Jc7 {a b:Option Nat}(h:kN a=kN b):a=b:=by
 unfold kN at h;injection h with h
 cases a<;>cases b<;>simp at h ⊢
 omega
theorem Jbo {sd sd':JT}{o:Option Nat}:plK sd i≠grK sd' o:=fun h=>by
 unfold plK grK at h;injection h with _ h
 injection h with h _
 exact absurd h (by decide)
theorem J94 {sd:JT}{L:Lk}(h:L∈upL sd gs sums):L.s≠L.g:=by
 rcases J2T h with ⟨i,hi,rfl⟩ | ⟨i,hi,rfl⟩
 ·exact Jbo
 ·intro e
  unfold grK at e;injection e with _ e
  injection e with _ e
  injection e with e _
  have:=J5Z (Jc7 e).symm;omega
theorem J9n {b:Int}(hb:0<=b):∀ {zs:List Int},(∀ z∈zs,z<=b)->sm zs<=zs.length * b
 | [],_=>by simp [sm]
 | z::zs,h=>by
   rw [J3N];have h1:=h z y9;have h2:=J9n hb (zs:=zs) fun y hy=>h y (y8 _ hy);rw [length_cons,show ((zs.length+1:Nat):Int) * b=zs.length * b+b by rw [show ((zs.length+1:Nat):Int)=(zs.length:Int)+1 by omega,Int.add_mul,Int.one_mul]];omega
theorem J7P {b:Int}(hb:0<=b)(hn:zs.length<=n)(h:∀ z∈zs,z<=b):sm zs<=n * b :=
 Int.le_trans (J9n hb h) (Int.mul_le_mul_of_nonneg_right (by omega) hb)
theorem J2g {b:Int}(hb:0<=b)(h:∀ z∈zs,0<=z/\z<=b)(i:Nat):0<=zs.getD i 0/\zs.getD i 0<=b:=by
 rw [yZ];cases c:zs[i]? with
 | none=>exact ⟨by simp,hb⟩
 | some z=>exact h z (y4 c)
theorem up_nn {sd:JT}(d:Dn sums.length ws)(h5:sums.length<=5)(hs:∀ z∈sums,0<=z/\z<=500){L:Lk}(h:L∈upL sd ws sums):0<=L.n/\L.n<=100000:=by
 rcases J2T h with ⟨i,hi,rfl⟩ | ⟨i,hi,rfl⟩
 ·have:=J2g (by decide) hs i
  exact ⟨this.1,by show sums.getD i 0<=100000;omega⟩
 ·have gl:=J4A (d.ok i hi)
  refine ⟨J1E fun z hz=>?_,?_⟩
  ·obtain ⟨y,_,rfl⟩:=zl.mp hz
   exact (J2g (by decide) hs _).1
  ·have:=J7P (b:=500) (n:=5) (by decide) (zs:=(ws.getD i []).map fun z=>sums.getD z.toNat 0) (by rw [yW];omega) fun z hz=>by
    obtain ⟨y,_,rfl⟩:=zl.mp hz;exact (J2g (by decide) hs _).2
   show sm _<=100000;omega
theorem J7T (ok:GOk g R C)(hC:C<=5)(hb:∀ r∈g,∀ x∈r,x<=100):∀ z∈g.map sm,0<=z/\z<=500:=fun z hz=>by
 obtain ⟨r,hr,rfl⟩:=zl.mp hz;exact ⟨J1E (ok.pos r hr),J7P (n:=5) (b:=100) (by decide) (by rw [ok.cols r hr];exact hC) (hb r hr)⟩
theorem J66 (ok:GOk g R C)(hR:R<=5)(hC:C<=5)(hb:∀ r∈g,∀ x∈r,x<=100):0<=sm (g.map sm)/\sm (g.map sm)<=100000:=by
 have h:=J7T ok hC hb;have:=J7P (n:=5) (b:=500) (by decide) (zs:=g.map sm) (by rw [yW,ok.rows];exact hR) fun z hz=>(h z hz).2;exact ⟨J1E fun z hz=>(h z hz).1,by omega⟩
theorem J5l (ok:GOk g R C)(hb:∀ r∈g,∀ x∈r,x<=100)(c:Nat):∀ z∈J08 g c,0<=z/\z<=100:=fun z hz=>by
 obtain ⟨r,hr,rfl⟩:=zl.mp hz;exact J2g (by decide) (fun x hx=>⟨ok.pos r hr x hx,hb r hr x hx⟩) c
theorem Jal (ok:GOk g R C)(hR:R<=5)(hb:∀ r∈g,∀ x∈r,x<=100):∀ z∈J37 g C,0<=z/\z<=500:=fun z hz=>by
 obtain ⟨c,hc,rfl⟩:=zl.mp hz;have h:=J5l ok hb c;exact ⟨J1E fun y hy=>(h y hy).1,J7P (n:=5) (b:=100) (by decide) (by unfold J08;rw [yW,ok.rows];exact hR) fun y hy=>(h y hy).2⟩
theorem J0G {wr wc:List (List Int)}{L:Lk}:L∈J91 g wr wc R C↔(L∈J2O g C R\/L∈J3q g wr C\/L∈(upL J2j wc (J37 g C)).map J2h\/L∈upL J2A wr (g.map sm)\/L=⟨grK J2A none,grK J2j none,sm (g.map sm)⟩):=by
 unfold J91;simp only [zh,yX,or_assoc]
theorem J3P {L:Lk}:L∈J2O g C R↔∃ i,i<R/\∃ c,c<C/\L=⟨plK (J4H c) i,plK J2A i,(g.getD i []).getD c 0⟩:=by
 unfold J2O J4K;simp only [mem_flatMap,mem_range,zl];constructor
 ·rintro ⟨i,hi,c,hc,rfl⟩;exact ⟨i,hi,c,hc,rfl⟩
 ·rintro ⟨i,hi,c,hc,rfl⟩;exact ⟨i,hi,c,hc,rfl⟩
theorem J2r {L:Lk}:L∈J3q g gs C↔∃ c,c<C/\(L=⟨plK J2j c,grK (J4H c) none,sm (J08 g c)⟩\/∃ M∈upL (J4H c) gs (J08 g c),L=J2h M):=by
 unfold J3q J8U;simp only [mem_flatMap,mem_range,zh,yX,zl];constructor
 ·rintro ⟨c,hc,h | ⟨M,hM,rfl⟩⟩
  ·exact ⟨c,hc,.inl h⟩
  ·exact ⟨c,hc,.inr ⟨M,hM,rfl⟩⟩
 ·rintro ⟨c,hc,h | ⟨M,hM,rfl⟩⟩
  ·exact ⟨c,hc,.inl h⟩
  ·exact ⟨c,hc,.inr ⟨M,hM,rfl⟩⟩
theorem links_ok {rgs cgs wr wc:List (List Int)}(ok:GOk g R C)(hR1:1<=R)(hR:R<=5)(hC1:1<=C)(hC:C<=5)(hb:∀ r∈g,∀ x∈r,x<=100)(h1:Chn R rgs)(h2:Chn C cgs)(w1:J7E rgs wr)(w2:J7E cgs wc):LksOk (J91 g wr wc R C):=by
 have d1:=Jbt h1 w1;have d2:=Jbt h2 w2;have hrl:=ok.rows;have lg:(g.map sm).length=R:=by rw [yW,hrl]
 have lc:(J37 g C).length=C:=by unfold J37;rw [yW,zo]
 have lo:∀ c,(J08 g c).length=R:=fun c=>by unfold J08;rw [yW,hrl]
 have D1:Dn (g.map sm).length wr:=by rw [lg];exact d1
 have D2:Dn (J37 g C).length wc:=by rw [lc];exact d2
 have D3:∀ c,Dn (J08 g c).length wr:=fun c=>by rw [lo];exact d1
 have l1:=d1.len;have l2:=d2.len;refine ⟨fun L hL=>?_,fun L hL=>?_,fun L hL=>?_,?_,?_⟩
 ·rcases J0G.mp hL with h | h | h | h | h
  ·obtain ⟨i,hi,c,hc,rfl⟩:=J3P.mp h
   exact ⟨_,J0G.mpr (.inr (.inr (.inr (.inl (J5M (i:=i) (by omega)))))),rfl⟩
  ·obtain ⟨c,hc,h⟩:=J2r.mp h
   rcases h with rfl | ⟨M,hM,rfl⟩
   ·obtain ⟨M,hM,e⟩:=J2S (sd:=J4H c) (D3 c) (by rw [lo];exact hR1) none (fun m z=>by cases z)
    exact ⟨J2h M,J0G.mpr (.inr (.inl (J2r.mpr ⟨c,hc,.inr ⟨M,hM,rfl⟩⟩))),e⟩
   ·rcases J69 hM with ⟨i,hi,e⟩ | ⟨m,hm,e⟩
    ·rw [lo] at hi
     exact ⟨_,J0G.mpr (.inl (J3P.mpr ⟨i,hi,c,hc,rfl⟩)),e.symm⟩
    ·obtain ⟨M',hM',e'⟩:=J2S (sd:=J4H c) (D3 c) (by rw [lo];exact hR1) (some m) (fun m' z=>by cases z;exact hm)
     exact ⟨J2h M',J0G.mpr (.inr (.inl (J2r.mpr ⟨c,hc,.inr ⟨M',hM',rfl⟩⟩))),e'.trans e.symm⟩
  ·obtain ⟨M,hM,rfl⟩:=zl.mp h
   rcases J69 hM with ⟨i,hi,e⟩ | ⟨m,hm,e⟩
   ·rw [lc] at hi
    exact ⟨_,J0G.mpr (.inr (.inl (J2r.mpr ⟨i,hi,.inl rfl⟩))),e.symm⟩
   ·obtain ⟨M',hM',e'⟩:=J2S (sd:=J2j) D2 (by rw [lc];exact hC1) (some m) (fun m' z=>by cases z;exact hm)
    exact ⟨J2h M',J0G.mpr (.inr (.inr (.inl (zl.mpr ⟨M',hM',rfl⟩)))),e'.trans e.symm⟩
  ·obtain ⟨o,e,ho⟩:=Jaz h
   cases o with
   | none=>exact ⟨_,J0G.mpr (.inr (.inr (.inr (.inr rfl)))),e.symm⟩
   | some m=>exact ⟨_,J0G.mpr (.inr (.inr (.inr (.inl (J5N (ho m rfl)))))),e.symm⟩
  ·subst h
   obtain ⟨M',hM',e'⟩:=J2S (sd:=J2j) D2 (by rw [lc];exact hC1) none (fun m' z=>by cases z);exact ⟨J2h M',J0G.mpr (.inr (.inr (.inl (zl.mpr ⟨M',hM',rfl⟩)))),e'⟩
 ·rcases J0G.mp hL with h | h | h | h | h
  ·obtain ⟨i,hi,c,hc,rfl⟩:=J3P.mp h
   intro e;unfold plK at e;injection e with e _
   cases e
  ·obtain ⟨c,hc,h⟩:=J2r.mp h
   rcases h with rfl | ⟨M,hM,rfl⟩
   ·exact Jbo
   ·exact fun e=>J94 hM e.symm
  ·obtain ⟨M,hM,rfl⟩:=zl.mp h
   exact fun e=>J94 hM e.symm
  ·exact J94 h
  ·subst h
   intro e;unfold grK at e;injection e with e _
   exact absurd e (by decide)
 ·rcases J0G.mp hL with h | h | h | h | h
  ·obtain ⟨i,hi,c,hc,rfl⟩:=J3P.mp h
   have:∀ x∈g.getD i [],0<=x/\x<=100:=fun x hx=>by
    rw [yZ,yU (by omega)] at hx;exact ⟨ok.pos _ (getElem_mem _) x hx,hb _ (getElem_mem _) x hx⟩
   have:=J2g (by decide) this c;exact ⟨this.1,by show (g.getD i []).getD c 0<=100000;omega⟩
  ·obtain ⟨c,hc,h⟩:=J2r.mp h
   have hcb:=J5l ok hb c;rcases h with rfl | ⟨M,hM,rfl⟩
   ·have:=Jal ok hR hb (sm (J08 g c)) (zl.mpr ⟨c,mem_range.mpr hc,rfl⟩)
    exact ⟨this.1,by show sm (J08 g c)<=100000;omega⟩
   ·have:=up_nn (D3 c) (by rw [lo];exact hR) (fun z hz=>⟨(hcb z hz).1,by have:=(hcb z hz).2;omega⟩) hM
    exact this
  ·obtain ⟨M,hM,rfl⟩:=zl.mp h
   have:=up_nn D2 (by rw [lc];exact hC) (Jal ok hR hb) hM;exact this
  ·exact up_nn D1 (by rw [lg];exact hR) (J7T ok hC hb) h
  ·subst h
   exact J66 ok hR hC hb
 ·unfold J91
  rw [y6,y6,y6,y6,yW,J1O,J1O,lc,lg,J3T,J3S,hrl,length_singleton];have e1:R * C<=5 * 5:=Nat.mul_le_mul hR hC;have e2:C * (1+(R+wr.length))<=5 * 10:=Nat.mul_le_mul hC (by omega);omega
 ·unfold J91
  simp
structure PtI (H:Hp)(lg lr lc:Addr)(xs ys zs:List V)(g rgs cgs:List (List Int))(R C:Nat):Prop where
 hg:H lg=some (.lst xs)
 gr:GridV H xs g
 ok:GOk g R C
 r1:1<=R
 r5:R<=5
 c1:1<=C
 c5:C<=5
 b:∀ r∈g,∀ x∈r,x<=100
 hr:H lr=some (.lst ys)
 rg:GridV H ys rgs
 rl:rgs.length<=1000
 rr:∀ r∈rgs,r.length<=1000
 hc:H lc=some (.lst zs)
 cg:GridV H zs cgs
 cl:cgs.length<=1000
 cr:∀ r∈cgs,r.length<=1000
theorem PtI.mono {lg lr lc:Addr}{zs:List V}{rgs cgs:List (List Int)}(s:Same H H')(h:PtI H lg lr lc xs ys zs g rgs cgs R C):PtI H' lg lr lc xs ys zs g rgs cgs R C :=
 ⟨s _ _ h.hg,h.gr.mono s,h.ok,h.r1,h.r5,h.c1,h.c5,h.b,s _ _ h.hr,h.rg.mono s,h.rl,h.rr,s _ _ h.hc,h.cg.mono s,h.cl,h.cr⟩
def J9k (K:Frag)(f:Nat->Addr):Sp:=fun vs H Q E=>∃ (lg lr lc:Addr) (xs ys zs:List V) (g rgs cgs:List (List Int)) (R C:Nat) (many:Int),vs=[.ref lg,.int many,.ref lr,.ref lc]/\PtI H lg lr lc xs ys zs g rgs cgs R C/\0<=many/\many<=1000 /\
 ((Chn R rgs/\Chn C cgs)\/¬ (J2P R rgs/\J2P C cgs)) /\
 (sm (g.map sm)=0->∀ H',Same H H'->E (.ref (f 4)) none H')/\(sm (g.map sm)≠0->Chn R rgs/\Chn C cgs->∀ H' v,Same H H'->Q v H')/\(sm (g.map sm)≠0->¬ (J2P R rgs/\J2P C cgs)->∀ H',Same H H'->E (.ref (f 5)) none H')
theorem ok_parts (T:Txt K mg f fd):FnOk P w K mg base (CXE P w) 7 (f 28) (fd 28) ["grid","many","row_groups","column_groups"] (J9k K f):=by
 refine T.wP.F.okX J26 (fun vs H Q E h=>?_) (fun cdv A outer s H vs Q E hr h=>?_)
 ·obtain ⟨lg,lr,lc,xs,ys,zs,g,rgs,cgs,R,C,many,rfl,_⟩:=h
  rfl
 ·obtain ⟨lg,lr,lc,xs,ys,zs,g,rgs,cgs,R,C,many,rfl,I,hm0,hm1,hor,k0,k1,k2⟩:=h
  refine ⟨_,(Jd (psl 4 J26.nd (JC (J1m rfl rfl) T.wk J1p rfl (by decide) (by decide) rfl (pal rfl (JW ["row"] ["grid","many","row_groups","column_groups","whole","width","links","flow"] rfl (show CompSc _ (Jg J2X) ["grid","many","row_groups","column_groups","whole","width","links","flow"] ["grid","many","row_groups","column_groups","whole","width","links","flow"] from Jp (by decide +kernel)) (J0d rfl (pvl 0)) (fun _ _ _ _ _=>(pgl 0 (show (["row","grid","many","row_groups","column_groups","whole","width","links","flow"]:List Str).Nodup by decide +kernel))) (fun _ _ _ _ _=>JN) (fun _ _ _ _ _=>(JC (J1m rfl rfl) T.wk J1p rfl (by decide) (by decide) rfl (pal rfl (pvl 0) Jb)))) Jb)))
   (Jd (JY (Jj J0E (pvl 4) Je (Jo _))
   (Jh (J1G J0Z rfl T.wl.x rfl T.wl.m (by decide) rfl (pal rfl Jz Jb)))
   Js)
   (Jd (psc 5 J26.nd (JC (J0x rfl) T.wa J00 rfl (by decide) (by decide) rfl (pal rfl (JD (J0c rfl) (pvl 0) Je (fun _ _=>rfl)) Jb)))
   (Jd (JS (J2Z J0Z T.wv (ok_asked_groups T) (hr.mono (by decide)) rfl (by decide) rfl (pal rfl (pvl 2) (pal rfl (JC (J0x rfl) T.wa J00 rfl (by decide) (by decide) rfl (pal rfl (pvl 0) Jb)) Jb))))
   (Jd (JS (J2Z J0Z T.wv (ok_asked_groups T) (hr.mono (by decide)) rfl (by decide) rfl (pal rfl (pvl 3) (pal rfl (pvc 5) Jb))))
   (Jd (psl 6 J26.nd (Jk T.wM (ok_all_links T) (hr.mono (by decide)) rfl (by decide) rfl (pal rfl (pvl 0) (pal rfl (Jk T.ww (J20 T) (hr.mono (by decide)) rfl (by decide) rfl (pal rfl (pvl 2) Jb)) (pal rfl (Jk T.ww (J20 T) (hr.mono (by decide)) rfl (by decide) rfl (pal rfl (pvl 3) Jb)) Jb)))))
   (Jd (psc 7 J26.nd (Jk T.wO (ok_rounded_flow T) (hr.mono (by decide)) rfl (by decide) rfl (pal rfl (pvl 6) (pal rfl (pvl 1) (pal rfl (pvl 4) Jb)))))
   (Jh (Jy (JW ["at"] ["grid","many","row_groups","column_groups","whole","width","links","flow"] rfl (show CompSc _ (Jg J2X) ["grid","many","row_groups","column_groups","whole","width","links","flow"] ["grid","many","row_groups","column_groups","whole","width","links","flow"] from Jp (by decide +kernel)) (J0u rfl T.wj (pal rfl (JC (J0x rfl) T.wa J00 rfl (by decide) (by decide) rfl (pal rfl (pvl 0) Jb)) Jb)) (fun _ _ _ _ _=>(pgl 0 (show (["at","grid","many","row_groups","column_groups","whole","width","links","flow"]:List Str).Nodup by decide +kernel))) (fun _ _ _ _ _=>JN) (fun _ _ _ _ _=>(J0h (J2e rfl) (pvc 8) (J0t (Jm J0W (pvl 0) (pvc 6))) (J0t (Jm J0W (Jm JO (pvl 0) Je) (pvc 6))))))))))))))),?_⟩
  generalize hB5:J2x _=B5;generalize hB4:JI (J14 _ _) B5=B4;generalize hB3:JI (J14 _ _) B4=B3;generalize hB2:JI (J2V _) B3=B2;generalize hB1:JI (J17 _ _ _) _=B1;walk_at "dl";have hgl:=I.gr.1;have hrl:=I.ok.rows;have hR:=I.r5;have hC:=I.c5;have hR1:=I.r1;have hC1:=I.c1;have hgsm:(g.map sm).length=R:=by rw [yW,hrl]
  have hwb:=J66 I.ok hR hC I.b;refine ⟨⟨_,.of I.hg⟩,?_⟩;refine Jx (xs:=xs) Ju (by rw [hgl];exact Jc (by omega)) (fun i ys H'=>H'=H/\ys=((g.map sm).take i).map V.int) ⟨rfl,rfl⟩ (fun _ _ _ _ q=>by rw [q.1];exact .of I.hg) (fun i ys H' q=>by rw [q.2];simp;omega) ?_ ?_
  ·rintro i x ys H1 hx ⟨rfl,rfl⟩
   obtain ⟨r,hr,pr,rfl,hpr⟩:=All2.at I.gr hx;walk_at "dl";refine ⟨r,.of hpr,⟨_,rfl⟩,?_⟩;rw [take_add_one,ze,hr,zg];rfl
  ·rintro zs0 H1 ⟨rfl,rfl⟩ p1 hp1
   rw [hgl,hrl,<- hgsm,zf];refine ⟨g.map sm,.of Ja,?_⟩;have s1:=Same.upd_new hp1 (HO.lst ((g.map sm).map V.int));generalize upd H1 p1 (HO.lst ((g.map sm).map V.int))=H2 at *;have I2:=I.mono s1;subst hB1;walk_at "dl";by_cases c0:sm (g.map sm)=0
   ·rw [yI c0]
    exact ⟨Jc (by decide),k0 c0 H2 s1⟩
   rw [yH c0]
   replace k1:=k1 c0
   replace k2:=k2 c0
   obtain ⟨x0,hx0⟩:∃ x0,xs[0]?=some x0:=⟨_,yU (by omega)⟩;obtain ⟨r0,hr0,q0,rfl,hq0⟩:=All2.at I2.gr hx0;have hrc:=I.ok.cols r0 (y4 hr0);refine ⟨lg,_,_,_,rfl,rfl,.of I2.hg,Jn (j:=0) hx0,q0,rfl,_,.inl (.of hq0),_,.inl (.of I2.hg),?_⟩;rw [yW,hrc];have hxR:xs.length=R:=by rw [hgl,hrl]
   refine ⟨lr,ys,rgs,R,by rw [hxR],I2.hr,I2.rg,I.rl,I.rr,fun o1 H3 s3=>?_,fun bad H3 s3=>k2 (fun z=>bad z.1) H3 (s1.trans s3)⟩;have S3:=s1.trans s3;have I3:=I.mono S3;subst hB2;walk_at "dl";refine ⟨lc,zs,cgs,C,rfl,I3.hc,I3.cg,I.cl,I.cr,fun o2 H4 s4=>?_,fun bad H4 s4=>k2 (fun z=>bad z.2) H4 (S3.trans s4)⟩;have S4:=S3.trans s4;have I4:=I.mono S4;obtain ⟨h1,h2⟩:=hor.resolve_right fun z=>z ⟨o1,o2⟩
   replace k1:=k1 ⟨h1,h2⟩
   subst hB3;walk_at "dl";have l1:=h1.len;have l2:=h2.len;refine ⟨lr,ys,rgs,rfl,I4.hr,I4.rg,by omega,fun H5 D5 o5 wr s5 h5 G5 W5=>?_⟩;have I5:=I4.mono s5;refine ⟨lc,zs,cgs,rfl,I5.hc,I5.cg,by omega,fun H6 D6 o6 wc s6 h6 G6 W6=>?_⟩;have I6:=I5.mono s6;have lw1:wr.length<=4:=by rw [W5.1.length_eq];exact l1
   have lw2:wc.length<=4:=by rw [W6.1.length_eq];exact l2
   have g1:∀ r∈wr,J0B R r:=fun r hr=>h1.ok r (W5.1.mem_iff.mp hr);have g2:∀ r∈wc,J0B C r:=fun r hr=>h2.ok r (W6.1.mem_iff.mp hr);refine ⟨lg,D5,D6,xs,o5,o6,g,wr,wc,R,C,rfl,I6.hg,I6.gr,I.ok,hR1,hR,hC,s6 _ _ h5,G5.mono s6,by omega,g1,fun r hr=>by have:=J4A (g1 r hr);omega,h6,G6,by omega,g2,fun r hr=>by have:=J4A (g2 r hr);omega,fun H7 D7 o7 s7 h7 L7=>?_⟩;have S7:=((S4.trans s5).trans s6).trans s7;subst hB4;walk_at "dl";refine ⟨D7,o7,_,many,_,rfl,h7,L7,links_ok I.ok hR1 hR hC1 hC I.b h1 h2 W5 W6,hm0,hm1,show 0<sm (g.map sm) by omega,hwb.2,fun H8 pl fl s8 hpl hfl=>?_⟩;have S8:=S7.trans s8;subst hB5;walk_at "dl";refine ⟨xs,.inl (.of (S8 _ _ I.hg)),by omega,by omega,?_⟩;rw [Int.toNat_natCast];refine Jx J0e (by rw [Jv];exact Jc (by omega)) (fun i ys H'=>Same H8 H'/\ys.length=i) ⟨Same.refl _,rfl⟩ (fun _ _ _ _ _=>trivial) (fun i ys H' q=>Nat.le_of_eq q.2) ?_ ?_
   ·rintro i x ys H9 hx ⟨s9,hy⟩
    obtain ⟨hi,rfl⟩:=J0r hx;walk_at "dl";exact ⟨.inr ⟨by omega,by omega⟩,.inr ⟨by omega,by omega⟩,_,.of (s9 _ _ hpl),fun p hp=>⟨⟨_,rfl⟩,s9.new hp _,by simp [hy]⟩⟩
   ·rintro ys H9 ⟨s9,hy⟩ D9 hD9
    exact k1 _ _ ((S8.trans s9).new hD9 _)
def J8v (K:Frag):Sp:=fun vs H Q _=>∃ (a:Addr) (ns:List Int) (k m:Int),vs=[.ref a,.int k,.int m]/\SqL K H a (ns.map V.int)/\0<=k/\k<1000000/\0<m/\∀ v,0<=v->v<m->Q (.int v) H
theorem ok_l_draw (T:Txt K mg f fd):FnOk P w K mg base CX0 1 (f 30) (fd 30) ["_law_script","_law_k","_law_many"] (J8v K):=by
 walk_at "ok wb J3e"
 ·obtain ⟨a,ns,k,m,rfl,_⟩:=h
  rfl
 ·obtain ⟨a,ns,i,m,rfl,hs,h0,h1,hm,k⟩:=h
  refine ⟨_,(Jd (JY (Jj J4m (pvl 1) (JC (J0x rfl) T.wa J00 rfl (by decide) (by decide) rfl (pal rfl (pvl 0) Jb)) (Jo _))
   (Jh (Jy (Jm J2L (JD (J0c rfl) (pvl 0) (pvl 1) (fun _ _=>rfl)) (pvl 2))))
   Js)
   (Jd (psl 3 J3e.nd (Jm JO (Jm J0W (pvl 1) (pvl 1)) Je))
   (Jd (JY (Jj J30 (JC (J0x rfl) T.wa J00 rfl (by decide) (by decide) rfl (pal rfl (pvl 0) Jb)) Je (Jo _))
   (Jh (psl 3 J3e.nd (Jm JO (pvl 3) (Jm J2L (JD (J0c rfl) (pvl 0) (Jm J2L (pvl 1) (JC (J0x rfl) T.wa J00 rfl (by decide) (by decide) rfl (pal rfl (pvl 0) Jb))) (fun _ _=>rfl)) Je))))
   Js)
   (Jh (Jy (Jm J2L (Jm J2L (Jm J0W (Jm JO (Jm J2L (Jm J0W (pvl 3) Je) Je) Je) Je) Je) (pvl 2))))))),?_⟩
  ((try dsimp only [J4D,L2.Cx.inTry,L2.Cx.inHand]);simp only [J5E,J9c,J9z,J3Z,J7b,J79,L2.start,JI,J9b,J17,J2x,J14,J2V,JK,J6b,tC,tOp,tUn,J7K,tCB,J53,J9a,J98,tB,Jbx,JbB,tOr,J9j,tIf,Jby,Jbw,tBM,rI,rI0,rU,rEq,rNe,J7R,J7S,J7Q,J6c,J8d,Ja6,JaB,J9y,J3O,J9e,J3Y,tSl,J99,J5u,JaL,J7c,J7a,JaD,tAs,JbX,Jbj,JaM,Jbz,JbF,J9d,J5F,J7W,JbA,J5v,J9f,J9r,J9h,ipI,Jb5,Jca,zd,map_nil,cons_append,nil_append,length_cons,length_nil,List.getElem?_cons_zero,List.getElem?_cons_succ,Option.some.injEq,exists_eq_left',exists_eq_left,set_cons_zero,set_cons_succ,List.cons.injEq,and_true,true_and,V.int.injEq,V.str.injEq,V.bl.injEq,V.ref.injEq,V.ty.injEq,exists_and_left,exists_and_right,append_nil,reduceCtorEq,false_and,and_false,exists_false,or_false,false_or,decide_true,decide_false,Bool.not_true,Bool.not_false,if_true,if_false,Bool.false_eq_true,ite_true,ite_false,and_assoc,Nat.reduceAdd,Nat.reduceSub,replicate_succ,replicate_zero,Nat.zero_add,Nat.add_zero,Nat.sub_self])
  have cm:∀ x:Int,0<=x % m/\x % m<m:=fun x=>⟨Int.emod_nonneg _ (by omega),Int.emod_lt_of_pos _ hm⟩;have fin:∀ x:Int,Q (V.int (x % m)) H:=fun x=>k _ (cm x).1 (cm x).2;refine ⟨_,.inl hs,?_⟩;rw [yW];by_cases c:i<(ns.length:Int)
  ·rw [yI (yL c)]
   obtain ⟨j,rfl⟩:∃ j:Nat,i=(j:Int):=⟨i.toNat,by omega⟩;have hj:j<ns.length:=by omega
   exact ⟨a,_,_,.int ns[j],rfl,rfl,hs,Jn (by rw [ze,yU hj];rfl),_,rfl,hm,fin _⟩
  ·rw [yH (by simpa using c)]
   refine ⟨.inl ⟨by omega,by omega⟩,_,.inl hs,?_⟩;rw [yW];have c48:∀ x:Int,CMul x 48271:=fun x=>.inr ⟨by decide,by decide⟩;have c40:∀ x:Int,CMul x 40692:=fun x=>.inr ⟨by decide,by decide⟩;by_cases c0:(0:Int)<(ns.length:Int)
   ·rw [yI (yL c0)]
    refine ⟨_,.inl hs,?_⟩;rw [yW];refine ⟨c0,?_⟩;have b1:=Int.emod_nonneg i (show (ns.length:Int)≠0 by omega);have b2:=Int.emod_lt_of_pos i c0;obtain ⟨j,hj'⟩:∃ j:Nat,i % (ns.length:Int)=(j:Int):=⟨(i % (ns.length:Int)).toNat,by omega⟩;rw [hj'] at b2 ⊢;have hj:j<ns.length:=by omega
    exact ⟨a,_,_,.int ns[j],rfl,rfl,hs,Jn (by rw [ze,yU hj];rfl),_,rfl,by decide,c48 _,by decide,c40 _,by decide,hm,fin _⟩
   ·rw [yH (by simpa using c0)]
    exact ⟨c48 _,by decide,c40 _,by decide,hm,fin _⟩
structure GridN (H:Hp)(a:Addr)(ps:List Addr)(g:List (List Int)):Prop where
 at_:H a=some (.lst (ps.map V.ref))
 nd:ps.Nodup
 len:ps.length=g.length
 row:∀ (n:Nat) p r,ps[n]?=some p->g[n]?=some r->H p=some (.lst (r.map V.int))
structure DOk (g:List (List Int))(R C:Nat):Prop where
 rows:g.length=R
 cols:∀ r∈g,r.length=C
def Jac (g:List (List Int))(b:Box)(n:Int):List (List Int):=g.set b.1 ((g.getD b.1 []).set b.2 n)
theorem GridN.keep (h:GridN H a ps g)(s:Same H H'):GridN H' a ps g:=⟨s _ _ h.at_,h.nd,h.len,fun n p r hp hr=>s _ _ (h.row n p r hp hr)⟩
theorem GridN.ne (h:GridN H a ps g)(hp:ps[n]?=some p):p≠a:=fun e=>by
 subst e;have hn:n<g.length:=by rw [<- h.len];exact (yV.mp hp).1
 have h1:=h.row n p _ hp (yU hn);rw [h.at_] at h1;have e2:ps.map V.ref=(g[n]).map V.int:=by injection h1 with h1;injection h1
 have h0:0<ps.length:=Nat.lt_of_le_of_lt (yQ _) (yV.mp hp).1;cases hps:ps with
 | nil=>rw [hps] at h0;simp at h0
 | cons x xs =>
   rw [hps] at e2;cases hg:g[n] with
   | nil=>rw [hg] at e2;simp at e2
   | cons y ys=>rw [hg] at e2;simp at e2
theorem DOk.set (h:DOk g R C){b:Box}(hi:InG R C b)(n:Int):DOk (Jac g b n) R C:=by
 unfold Jac;have h1:b.1<g.length:=by rw [h.rows];exact hi.1
 refine ⟨by rw [length_set];exact h.rows,fun r hr=>?_⟩;rcases mem_or_eq_of_mem_set hr with e | e
 ·exact h.cols r e
 ·rw [e,length_set,yZ,yU h1]
  exact h.cols _ (getElem_mem h1)
theorem GridN.put (h:GridN H a ps g)(d:DOk g R C){b:Box}(hi:InG R C b)(n:Int) :
 ∃ (p:Addr) (r:List Int),ps[b.1]?=some p/\H p=some (.lst (r.map V.int))/\b.2<r.length/\GridN (upd H p (.lst ((r.map V.int).set b.2 (.int n)))) a ps (Jac g b n):=by
 have h1:b.1<g.length:=by rw [d.rows];exact hi.1
 have h2:b.1<ps.length:=by rw [h.len];exact h1
 have ep:=yU h2;have er:=yU h1;have hrow:=h.row b.1 _ _ ep er;have hl:b.2<(g[b.1]).length:=by rw [d.cols _ (getElem_mem h1)];exact hi.2
 refine ⟨_,_,ep,hrow,hl,⟨?_,h.nd,?_,fun m q r hq hr=>?_⟩⟩
 ·rw [Jf (Ne.symm (h.ne ep))];exact h.at_
 ·unfold Jac;rw [length_set];exact h.len
 ·unfold Jac at hr
  by_cases e:m=b.1
  ·subst e
   rw [ep] at hq;cases hq;rw [List.getElem?_set_self h1] at hr;cases hr;rw [Ja,yZ,er,<- map_set];rfl
  ·rw [List.getElem?_set_ne (Ne.symm e)] at hr
   have:q≠ps[b.1]:=fun z=>by
    rw [<- z] at ep;exact e ((List.getElem?_inj (yV.mp hq).1 h.nd).mp (hq.trans ep.symm))
   rw [Jf this];exact h.row m q r hq hr
theorem GridN.at_row (h:GridN H a ps g)(hq:q∈ps):∃ r∈g,H q=some (.lst (r.map V.int)):=by
 obtain ⟨m,hm⟩:=zk.mp hq;have hl:m<g.length:=by rw [<- h.len];exact (yV.mp hm).1
 exact ⟨_,getElem_mem hl,h.row m q _ hm (yU hl)⟩
theorem GridN.rowsV (h:GridN H a ps g):GridV H (ps.map V.ref) g:=by
 refine ⟨by rw [yW];exact h.len,fun i x r hx hr=>?_⟩;rw [ze] at hx;obtain ⟨p,hp,rfl⟩:=Option.map_eq_some_iff.mp hx;exact ⟨p,rfl,h.row i p r hp hr⟩
def J06 (g:List (List Int)):List PyData:=g.map fun r=>.list (r.map .int)
theorem JX {H:Hp}:∀ {xs:List V} {g:List (List Int)},GridV H xs g->Reps K H (J06 g) xs/\PyData.canLayAll0 (J06 g)=true/\PyData.depthAll (J06 g)<=1/\PyData.eqvAll (J06 g) (J06 g)=true
 | [],[],_=>by simp [J06,Reps,PyData.canLayAll0,PyData.depthAll,PyData.eqvAll]
 | [],_::_,h=>by have:=h.1;simp at this
 | _::_,[],h=>by have:=h.1;simp at this
 | x :: xs,r::g,h=>by
   obtain ⟨⟨p,rfl,hp⟩,h2⟩:=All2.tail h;obtain ⟨r1,r2,r3,r4⟩:=JX h2;obtain ⟨i1,i2,i3⟩:=J1d (K:=K) (H:=H) r;unfold J06 at *;refine ⟨?_,?_,?_,?_⟩
   ·rw [zd,Reps]
    exact ⟨_,_,rfl,by rw [Rep];exact ⟨p,_,rfl,.of hp,i1⟩,r1⟩
   ·simp only [zd,PyData.canLayAll0,PyData.canLay0,i2,r2,Bool.and_self]
   ·simp only [zd,PyData.depthAll,PyData.depth,i3]
    omega
   ·rw [zd,PyData.eqvAll,PyData.eqv,J4y,r4]
    simp
theorem GridN.addR (h:GridN H a ps g)(hq:H q=none):GridN (upd (upd H q (.lst (r.map V.int))) a (.lst (ps.map V.ref++[.ref q]))) a (ps++[q]) (g++[r]):=by
 have nq:q∉ps:=fun z=>by
  obtain ⟨r,_,e⟩:=h.at_row z;rw [hq] at e;cases e
 have na:q≠a:=fun e=>by have:=h.at_;rw [<- e,hq] at this;cases this
 refine ⟨by rw [Ja,zg];rfl,?_,by simp [h.len],fun n p r' hp hr=>?_⟩
 ·refine nodup_append.mpr ⟨h.nd,by simp,fun x hx y hy e=>?_⟩
  rw [yX.mp hy] at e;exact nq (e ▸ hx)
 ·by_cases c:n<ps.length
  ·rw [zn c] at hp
   rw [zn (by rw [<- h.len];exact c)] at hr;have h1:=h.row n p r' hp hr;rw [Jf (h.ne hp),Jf (Ji h1 hq)];exact h1
  ·have e1:n=ps.length:=by
    have:=(yV.mp hp).1;rw [y6,length_singleton] at this;omega
   subst e1;rw [zm (yJ _),Nat.sub_self] at hp;rw [h.len,zm (yJ _),Nat.sub_self] at hr;simp at hp hr;subst hp hr;rw [Jf na,Ja]
def GB (g:List (List Int)):Prop:=∀ r∈g,∀ x∈r,x<=100
def J8u (K:Frag):Sp:=fun vs H Q _=>∃ (a:Addr) (ns:List Int) (R C:Nat),vs=[.ref a,.int R,.int C]/\SqL K H a (ns.map V.int)/\1<=R/\R<=5/\1<=C/\C<=5 /\
 ∀ H' D xs g,Same H H'->H' D=some (.lst xs)->GridV H' xs g->GOk g R C->GB g->Q (.ref D) H'
theorem ok_l_grid (T:Txt K mg f fd):FnOk P w K mg base CX0 2 (f 31) (fd 31) ["_law_script","_law_rows","_law_columns"] (J8u K):=by
 walk_at "ok wQ J2m"
 ·obtain ⟨a,ns,R,C,rfl,_⟩:=h
  rfl
 ·obtain ⟨a,ns,R,C,rfl,hs,hR1,hR,hC1,hC,k⟩:=h
  refine ⟨_,(Jd (psl 3 J2m.nd (JL Jb))
   (Jd (J0z PassesOwn.never rfl (J0u rfl T.wj (pal rfl (pvl 1) Jb)) (pgc 4 J2m.nd)
   (Jh (JS (J1n rfl zx PySem.F.slot_list_append PySem.F.type_list_append J0b rfl rfl rfl rfl (pvl 3) (pal rfl (JW ["_law_column"] ["_law_script","_law_rows","_law_columns","_law_grid_here","_law_row"] rfl (show CompSc _ (Jg J1h) ["_law_script","_law_rows","_law_columns","_law_grid_here","_law_row"] ["_law_script","_law_rows","_law_columns","_law_grid_here","_law_row"] from Jp (by decide +kernel)) (J0u rfl T.wj (pal rfl (pvc 2) Jb)) (fun _ _ _ _ _=>(pgl 0 (show (["_law_column","_law_script","_law_rows","_law_columns","_law_grid_here","_law_row"]:List Str).Nodup by decide +kernel))) (fun _ _ _ _ _=>JN) (fun _ _ _ _ _=>(Jk T.wb (ok_l_draw T) (hr.mono (by decide)) rfl (by decide) rfl (pal rfl (pvc 1) (pal rfl (Jm JO (Jm JO Je (Jm J0W (pvc 5) (pvc 3))) (pvl 0)) (pal rfl Je Jb)))))) Jb)))))
   (Jd (JY (Jj J0E (JC (J1m rfl rfl) T.wk J1p rfl (by decide) (by decide) rfl (pal rfl (JW ["_law_row"] ["_law_script","_law_rows","_law_columns","_law_grid_here","#4"] rfl (show CompSc _ (Jg J1h) ["_law_script","_law_rows","_law_columns","_law_grid_here","_law_row"] ["_law_script","_law_rows","_law_columns","_law_grid_here","#4"] from Jp (by decide +kernel)) (J0d rfl (pvl 3)) (fun _ _ _ _ _=>(pgl 0 (show (["_law_row","_law_script","_law_rows","_law_columns","_law_grid_here","#4"]:List Str).Nodup by decide +kernel))) (fun _ _ _ _ _=>JN) (fun _ _ _ _ _=>(JC (J1m rfl rfl) T.wk J1p rfl (by decide) (by decide) rfl (pal rfl (pvl 0) Jb)))) Jb)) Je (Jo _))
   (Jh (J9I Je (J9M (JD (J0c rfl) (pvl 3) Je (fun _ _=>rfl)) Je J25)))
   Js)
   (Jd (JY (Jj J0E (Jk T.wb (ok_l_draw T) (hr.mono (by decide)) rfl (by decide) rfl (pal rfl (pvc 0) (pal rfl Je (pal rfl Je Jb)))) Je (Jo _))
   (Jh (J1w ["_law_row"] ["_law_script","_law_rows","_law_columns","_law_grid_here","#4"] rfl (show CompSc _ (Jg J1h) ["_law_script","_law_rows","_law_columns","_law_grid_here","_law_row"] ["_law_script","_law_rows","_law_columns","_law_grid_here","#4"] from Jp (by decide +kernel)) J2m.nd (i:=3) rfl rfl (J0d rfl (pvl 3)) (fun _ _ _ _ _=>(pgl 0 (show (["_law_row","_law_script","_law_rows","_law_columns","_law_grid_here","#4"]:List Str).Nodup by decide +kernel))) (fun _ _ _ _ _=>JN) (fun _ _ _ _ _=>(JW ["_law_number"] ["_law_row","_law_script","_law_rows","_law_columns","_law_grid_here","#5"] rfl (Ja3 (osc:=Jg J1h) (N:=["_law_row","_law_script","_law_rows","_law_columns","_law_grid_here","#4"]) rfl rfl (Jp (by decide +kernel))) (J0d (K:=K) rfl (pvl 0)) (fun _ _ _ _ _=>(pgl 0 (show (["_law_number","_law_row","_law_script","_law_rows","_law_columns","_law_grid_here","#5"]:List Str).Nodup by decide +kernel))) (fun _ _ _ _ _=>JN) (fun _ _ _ _ _=>Je)))))
   Js)
   (Jh (Jy (pvl 3))))))),?_⟩
  generalize hB3:JI (J17 _ _ _) (J2x _)=B3;generalize hB2:JI (J17 _ _ _) B3=B2;generalize hB1:JI (J4O _ _ _) B2=B1;walk_at "dl";refine ⟨yQ _,fun p hp=>?_⟩;have s1:=Same.upd_new hp (HO.lst []);have G1:GridN (upd H p (HO.lst [])) p [] []:=⟨Ja,nodup_nil,rfl,fun n p r h=>by simp at h⟩;generalize upd H p (HO.lst [])=H1 at *;subst hB1;walk_at "dl";refine J0A ?_;walk_at "dl";refine ⟨by omega,by omega,?_⟩;rw [Int.toNat_natCast];refine ForW.of J0e (fun i σ H'=>(∃ v4,σ=[some (V.ref a),some (V.int (R:Int)),some (V.int (C:Int)),some (V.ref p),v4])/\Same H H'/\∃ ps g,GridN H' p ps g/\GOk g i C/\GB g/\∀ q∈ps,H q=none) ⟨⟨none,rfl⟩,s1,[],[],G1,⟨rfl,(fun _ z=>nomatch z),fun _ z=>nomatch z⟩,(fun _ z=>nomatch z),fun _ z=>nomatch z⟩ (fun _ _ _ _ _=>trivial) ?_ ?_
  ·rintro i x σ H2 hx ⟨⟨v4,rfl⟩,s2,ps,g,G2,ok2,b2,f2⟩
   obtain ⟨hi,rfl⟩:=J0r hx;walk_at "dl";refine ⟨.inl ⟨rfl,_,.of G2.at_⟩,by omega,by omega,?_⟩;rw [Int.toNat_natCast];have lic:i * C<=5 * 5:=Nat.mul_le_mul (by omega) hC;have eic:(0+(i:Int)) * (C:Int)=((i * C:Nat):Int):=by rw [Int.zero_add];exact (Int.natCast_mul i C).symm
   have hl2:=G2.len;have hr2:=ok2.rows;refine Jx J0e (by rw [Jv];exact Jc (by omega)) (fun j ys H'=>H'=H2/\∃ r:List Int,ys=r.map V.int/\r.length=j/\∀ x∈r,0<=x/\x<=100) ⟨rfl,[],rfl,rfl,fun _ z=>nomatch z⟩ (fun _ _ _ _ _=>trivial) (fun j ys H' q=>by obtain ⟨_,r,rfl,hl,_⟩:=q;rw [yW];omega) ?_ ?_
   ·rintro j x ys H3 hx ⟨rfl,r,rfl,hl,hb⟩
    obtain ⟨hj,rfl⟩:=J0r hx;walk_at "dl";refine ⟨.inr ⟨by omega,by omega⟩,a,ns,_,_,rfl,s2.seq hs,by rw [eic];omega,by rw [eic];omega,by decide,fun v v0 v1=>⟨⟨_,rfl⟩,rfl,r++[v],by rw [zg];rfl,by rw [y6,hl];rfl,fun y hy=>?_⟩⟩;rcases zh.mp hy with hy | hy
    ·exact hb y hy
    ·rw [yX.mp hy];omega
   ·rintro ys H3 ⟨rfl,r,rfl,hl,hb⟩ q hq
    rw [Jv] at hl;refine ⟨p,_,_,rfl,rfl,(Same.upd_new hq _) _ _ G2.at_,by rw [yW];have:=Jc (n:=2000) (by decide);omega,⟨_,rfl⟩,(s2.new hq _).set hp _,ps++[q],g++[r],G2.addR hq,⟨by rw [y6,hr2];rfl,fun r' hr'=>?_,fun r' hr'=>?_⟩,fun r' hr'=>?_,fun q' hq'=>?_⟩
    ·rcases zh.mp hr' with e | e
     ·exact ok2.cols r' e
     ·rw [yX.mp e];exact hl
    ·rcases zh.mp hr' with e | e
     ·exact ok2.pos r' e
     ·rw [yX.mp e];exact fun x hx=>(hb x hx).1
    ·rcases zh.mp hr' with e | e
     ·exact b2 r' e
     ·rw [yX.mp e];exact fun x hx=>(hb x hx).2
    ·rcases zh.mp hq' with e | e
     ·exact f2 q' e
     ·rw [yX.mp e];exact s2.free hq
  ·rintro σ H2 ⟨⟨v4,rfl⟩,s2,ps,g,G2,ok2,b2,f2⟩
   rw [Jv] at ok2;have hl2:=G2.len;have hr2:=ok2.rows;have hpl:(ps.map V.ref).length=R:=by rw [yW,hl2,hr2]
   have fin:∀ (H':Hp) (g':List (List Int)),Same H H'->GridN H' p ps g'->GOk g' R C->GB g'->B3 { nx:=fun x H'=>Q V.non H',rt:=Q } [some (V.ref a),some (V.int (R:Int)),some (V.int (C:Int)),some (V.ref p),v4] H':=fun H' g' s' G' ok' b'=>by
    subst hB3;generalize hB4:J2x _=B4;walk_at "dl";refine ⟨a,ns,_,_,rfl,s'.seq hs,by decide,by decide,by decide,fun v v0 v1=>⟨rfl,?_⟩⟩
    split
    ·refine ⟨⟨_,.of G'.at_⟩,?_⟩
     have hpl':(ps.map V.ref).length=R:=hpl;refine Jx (xs:=ps.map V.ref) Ju (by rw [hpl];exact Jc (by omega)) (fun i ys H''=>Same H' H''/\GridV H'' ys (List.replicate i (List.replicate C (0:Int)))) ⟨Same.refl _,All2.nil⟩ (fun _ _ _ _ q=>.of (q.1 _ _ G'.at_)) (fun i ys H'' q=>by rw [q.2.1,zq];exact yJ _) ?_ ?_
     ·rintro i x ys H5 hx ⟨s5,hV⟩
      obtain ⟨r,hr,pr,rfl,hpr⟩:=All2.at G'.rowsV hx;have hrc:=ok'.cols r (y4 hr);walk_at "dl";have hpr5:=s5 _ _ hpr;have hrm:(r.map V.int).length=C:=by rw [yW];exact hrc
      refine ⟨⟨_,.of hpr5⟩,?_⟩;refine Jx (xs:=r.map V.int) Ju (by rw [hrm];exact Jc (by omega)) (fun j zs H''=>H''=H5/\zs=(List.replicate j (0:Int)).map V.int) ⟨rfl,rfl⟩ (fun _ _ _ _ q=>by rw [q.1];exact .of hpr5) (fun j zs H'' q=>by rw [q.2,yW,zq];exact yJ _) ?_ ?_
      ·rintro j y zs H6 hy ⟨rfl,rfl⟩
       rw [ze] at hy;obtain ⟨z,hz,rfl⟩:=Option.map_eq_some_iff.mp hy;walk_at "dl";refine ⟨⟨_,rfl⟩,?_⟩;rw [<- zd,<- replicate_succ,replicate_succ',zg];rfl
      ·rintro zs H6 ⟨rfl,rfl⟩ D hD
       rw [hrm];refine ⟨⟨_,rfl⟩,s5.new hD _,?_⟩;rw [<- replicate_succ,replicate_succ'];exact All2.snoc (hV.mono (Same.upd_new hD _)) ⟨D,rfl,Ja⟩
     ·rintro ys H5 ⟨s5,hV⟩ D hD
      rw [hpl] at hV;subst hB4;walk_at "dl";refine k _ D ys _ ((s'.trans s5).new hD _) Ja (hV.mono (Same.upd_new hD _)) ⟨by rw [zq],fun r hr=>?_,fun r hr x hx=>?_⟩ fun r hr x hx=>?_
      ·rw [eq_of_mem_replicate hr,zq]
      ·rw [eq_of_mem_replicate hr] at hx
       rw [eq_of_mem_replicate hx];exact Int.le_refl _
      ·rw [eq_of_mem_replicate hr] at hx
       rw [eq_of_mem_replicate hx];decide
    ·subst hB4
     walk_at "dl";exact k H' p _ g' s' G'.at_ G'.rowsV ok' b'
   subst hB2;walk_at "dl";refine ⟨⟨_,.of G2.at_⟩,?_⟩;refine Jx (xs:=ps.map V.ref) Ju (by rw [hpl];exact Jc (by omega)) (fun i ys H'=>H'=H2/\ys=((g.map sm).take i).map V.int) ⟨rfl,rfl⟩ (fun _ _ _ _ q=>by rw [q.1];exact .of G2.at_) (fun i ys H' q=>by rw [q.2];simp;omega) ?_ ?_
   ·rintro i x ys H3 hx ⟨rfl,rfl⟩
    obtain ⟨r,hr,pr,rfl,hpr⟩:=All2.at G2.rowsV hx;walk_at "dl";refine ⟨r,.of hpr,⟨_,rfl⟩,?_⟩;rw [take_add_one,ze,hr,zg];rfl
   ·rintro ys H3 ⟨rfl,rfl⟩ p1 hp1
    have et:(g.map sm).take (ps.map V.ref).length=g.map sm:=take_of_length_le (by rw [hpl,yW,hr2];exact yJ _);rw [et];refine ⟨g.map sm,.of Ja,?_⟩;have u1:=Same.upd_new hp1 (HO.lst ((g.map sm).map V.int));generalize upd H3 p1 (HO.lst ((g.map sm).map V.int))=H4 at *;have G4:=G2.keep u1;have s4:=s2.trans u1;by_cases c:List.foldl (fun x1 x2=>x1+x2) 0 (g.map sm)=0
    ·rw [yI c]
     obtain ⟨pr,r,h1,h2,h3,G5⟩:=G4.put (R:=R) (C:=C) (b:=(0,0)) ⟨hr2,ok2.cols⟩ ⟨by omega,by omega⟩ 1;have fr:=f2 pr (y4 h1);refine ⟨p,_,_,_,rfl,rfl,.of G4.at_,Jn (j:=0) (by rw [ze,h1];rfl),pr,_,0,0,rfl,rfl,h2,by rw [yW];exact J35 h3,fin _ _ (s4.set fr _) G5 ?_ ?_⟩
     ·have hs1:=DOk.set (R:=R) (C:=C) (b:=(0,0)) ⟨hr2,ok2.cols⟩ ⟨by omega,by omega⟩ 1
      refine ⟨hs1.rows,hs1.cols,fun r' hr' x hx=>?_⟩;rcases mem_or_eq_of_mem_set hr' with e | e
      ·exact ok2.pos r' e x hx
      ·rw [e] at hx
       rcases mem_or_eq_of_mem_set hx with e | e
       ·rw [yZ,yU (show (0,0).1<g.length by show 0<g.length;omega)] at e
        exact ok2.pos _ (getElem_mem _) x e
       ·omega
     ·intro r' hr' x hx
      rcases mem_or_eq_of_mem_set hr' with e | e
      ·exact b2 r' e x hx
      ·rw [e] at hx
       rcases mem_or_eq_of_mem_set hx with e | e
       ·rw [yZ,yU (show (0,0).1<g.length by show 0<g.length;omega)] at e
        exact b2 _ (getElem_mem _) x e
       ·omega
    ·rw [yH c]
     exact fin H4 g s4 G4 ok2 b2
def upI (n:Nat):List Int:=(List.range n).map fun (i:Nat)=>(i:Int)
theorem Jcq (h:1<=n):J0B n (upI n):=by
 unfold upI;refine ⟨fun e=>?_,?_,fun z hz=>?_⟩
 ·have:=congrArg List.length e
  simp at this;omega
 ·rw [pairwise_map]
  exact pairwise_lt_range.imp fun h=>by omega
 ·obtain ⟨i,hi,rfl⟩:=zl.mp hz
  have:=mem_range.mp hi;omega
theorem J5h {α β:Type}(f:α->β):∀ (xs:List α) (i:Nat),(xs.map f).eraseIdx i=(xs.eraseIdx i).map f
 | [],i=>rfl
 | x::xs,0=>rfl
 | x::xs,i+1=>by
   show f x::(xs.map f).eraseIdx i=f x::(xs.eraseIdx i).map f;rw [J5h f xs i]
theorem Ja9 (h:J0B n r)(h2:2<=r.length):J0B n (r.eraseIdx i):=by
 refine ⟨fun e=>?_,h.2.1.sublist (eraseIdx_sublist r i),fun z hz=>h.2.2 z ((eraseIdx_sublist r i).subset hz)⟩;have:=congrArg List.length e;rw [length_eraseIdx] at this;simp at this
 split at this<;>omega
structure GpI (n m:Nat)(gs:List (List Int))(cur:List Int):Prop where
 len:gs.length=m
 ok:∀ r∈gs,J0B n r
 ch:∀ a∈gs,∀ b∈gs,(∀ z∈a,z∈b)\/∀ z∈b,z∈a
 co:J0B n cur
 sub:∀ r∈gs,∀ z∈cur,z∈r
theorem J2t {o:HO}(h:GridV H xs gs)(n:∀ x∈xs,x≠V.ref D):GridV (upd H D o) xs gs :=
 ⟨h.1,fun i x r hx hr=>by
  obtain ⟨p,e,g⟩:=h.2 i x r hx hr;exact ⟨p,e,by rw [Jf fun z=>n x (y4 hx) (by rw [e,z])];exact g⟩⟩
theorem J0Q {α:Type}{xs:List α}{k:Nat}{y x:α}(h:x∈xs.take k++y::xs.drop k):x=y\/x∈xs:=by
 rcases zh.mp h with h | h
 ·exact .inr (mem_of_mem_take h)
 ·rcases zc.mp h with h | h
  ·exact .inl h
  ·exact .inr (mem_of_mem_drop h)
theorem J2u {k:Nat}{x:V}(h:GridV H xs gs)(hx:RowAt H x r):GridV H (xs.take k++x::xs.drop k) (gs.take k++r::gs.drop k):=by
 have h1:GridV H (xs.take k) (gs.take k):=J3r h k;have h2:GridV H (xs.drop k) (gs.drop k):=J92 h k;have h3:=All2.append (All2.snoc h1 hx) h2;rw [zp,zp] at h3;exact h3
structure GpS (H H':Hp)(D S:Addr)(gs:List (List Int))(cur:List Int):Prop where
 same:Same H H'
 d:∃ xs,H' D=some (.lst xs)/\GridV H' xs gs/\∀ x∈xs,x≠V.ref D/\x≠V.ref S
 s:H' S=some (.lst (cur.map V.int))
def J6h (K:Frag):Sp:=fun vs H Q _=>∃ (a:Addr) (ns:List Int) (at_ n:Nat),vs=[.ref a,.int at_,.int n]/\SqL K H a (ns.map V.int)/\at_<=100/\1<=n/\n<=5 /\
 ∀ H' D xs gs,Same H H'->H' D=some (.lst xs)->GridV H' xs gs->Chn n gs->Q (.ref D) H'
theorem ok_l_groups (T:Txt K mg f fd):FnOk P w K mg base CX0 2 (f 32) (fd 32) ["_law_script","_law_at","_law_size"] (J6h K):=by
 walk_at "ok wB J1s"
 ·obtain ⟨a,ns,at_,n,rfl,_⟩:=h
  rfl
 ·obtain ⟨a,ns,at_,n,rfl,hs,hat,hn1,hn,k⟩:=h
  refine ⟨_,(Jd (psl 3 J1s.nd (JL Jb))
   (Jd (psl 4 J1s.nd (J0P (J38 rfl) T.wg J0S rfl (by decide) (by decide) rfl (pal rfl (J0P J6X T.wj J6Y rfl (by decide) (by decide) rfl (pal rfl (pvl 2) Jb)) Jb)))
   (Jd (J0z PassesOwn.never rfl (J0u rfl T.wj (pal rfl (Jk T.wb (ok_l_draw T) (hr.mono (by decide)) rfl (by decide) rfl (pal rfl (pvl 0) (pal rfl (pvl 1) (pal rfl Je Jb)))) Jb)) (pgl 5 J1s.nd)
   (Jd (JS (J1n rfl zx PySem.F.slot_list_insert PySem.F.type_list_insert J3i rfl rfl rfl rfl (pvl 3) (pal rfl (Jk T.wb (ok_l_draw T) (hr.mono (by decide)) rfl (by decide) rfl (pal rfl (pvl 0) (pal rfl (Jm JO (Jm JO (pvl 1) Je) (Jm J0W Je (pvl 5))) (pal rfl (Jm JO (JC (J0x rfl) T.wa J00 rfl (by decide) (by decide) rfl (pal rfl (pvl 3) Jb)) Je) Jb)))) (pal rfl (J0P (J1V rfl) T.wg J0S rfl (by decide) (by decide) rfl (pal rfl (pvl 4) Jb)) Jb))))
   (Jh (JY (PW.pt (J29 (Jj J30 (JC (J0x rfl) T.wa J00 rfl (by decide) (by decide) rfl (pal rfl (pvl 4) Jb)) Je (Jo _)) (J1v (Jj J30 (Jk T.wb (ok_l_draw T) (hr.mono (by decide)) rfl (by decide) rfl (pal rfl (pvl 0) (pal rfl (Jm JO (Jm JO (pvl 1) Je) (Jm J0W Je (pvl 5))) (pal rfl Je Jb)))) Je (Jo _)))))
   (Jh (JS (J1n rfl zx PySem.F.slot_list_pop PySem.F.type_list_pop J9X rfl rfl rfl rfl (pvl 4) (pal rfl (Jm J5J (Jk T.wb (ok_l_draw T) (hr.mono (by decide)) rfl (by decide) rfl (pal rfl (pvl 0) (pal rfl (Jm JO (Jm JO (pvl 1) Je) (Jm J0W Je (pvl 5))) (pal rfl (Jm J0W Je (JC (J0x rfl) T.wa J00 rfl (by decide) (by decide) rfl (pal rfl (pvl 4) Jb))) Jb)))) Je) Jb))))
   Js))))
   (Jh (Jy (pvl 3)))))),?_⟩
  generalize hB3:J2x _=B3;generalize hB2:JI (J4O _ _ _) B3=B2;generalize hB1:JI (J14 _ _) B2=B1;walk_at "dl";refine ⟨yQ _,fun D hD=>?_⟩;have s1:=Same.upd_new hD (HO.lst []);have d1:upd H D (HO.lst []) D=some (.lst []):=Ja;generalize upd H D (HO.lst [])=H1 at *;subst hB1;walk_at "dl";refine ⟨n,rfl,by omega,by omega,fun p hp=>⟨p,n,rfl,Ja,by omega,fun S hS=>?_⟩⟩;have s2:=(Same.upd_new hp (HO.rng 0 (n:Int))).new hS (HO.lst ((List.range n).map fun (i:Nat)=>V.int (i:Int)));have hS1:H S=none:=(s1.trans (Same.upd_new hp _)).free hS;have nDS:D≠S:=fun e=>by rw [<- e,(Same.upd_new hp _) _ _ d1] at hS;cases hS
  have eU:((List.range n).map fun (i:Nat)=>V.int (i:Int))=(upI n).map V.int:=by unfold upI;rw [map_map];rfl
  rw [eU] at s2 ⊢;have G0:GpS H (upd (upd H1 p (HO.rng 0 (n:Int))) S (HO.lst ((upI n).map V.int))) D S [] (upI n):=⟨s1.trans s2,⟨[],s2 _ _ d1,All2.nil,fun _ z=>nomatch z⟩,Ja⟩;generalize upd (upd H1 p (HO.rng 0 (n:Int))) S (HO.lst ((upI n).map V.int))=H2 at *;subst hB2;walk_at "dl";refine J0A ?_;walk_at "dl";refine ⟨a,ns,_,_,rfl,G0.same.seq hs,by omega,by omega,by decide,fun v v0 v1=>?_⟩;obtain ⟨t,rfl⟩:∃ t:Nat,v=(t:Int):=⟨v.toNat,by omega⟩;refine ⟨_,rfl,by omega,by omega,?_⟩;rw [Int.toNat_natCast];refine ForW.of J0e (fun i σ H'=>(∃ v5,σ=[some (V.ref a),some (V.int (at_:Int)),some (V.int (n:Int)),some (V.ref D),some (V.ref S),v5])/\∃ gs cur,GpS H H' D S gs cur/\GpI n i gs cur) ⟨⟨none,rfl⟩,[],upI n,G0,⟨rfl,(fun _ z=>nomatch z),(fun _ z=>nomatch z),Jcq hn1,fun _ z=>nomatch z⟩⟩ (fun _ _ _ _ _=>trivial) ?_ ?_
  ·rintro i x σ H3 hx ⟨⟨v5,rfl⟩,gs,cur,S3,I3⟩
   obtain ⟨hi,rfl⟩:=J0r hx;obtain ⟨xs,hd,hV,hne⟩:=S3.d;have hxl:=hV.1;have hgl:=I3.len;have hcl:=J4A I3.co;have hs3:=S3.same.seq hs;generalize hB4:J17 _ _ _=B4;walk_at "dl";refine ⟨.inl ⟨rfl,_,.of hd⟩,.inl ⟨by decide,by decide⟩,_,.inl (.of hd),a,ns,_,_,rfl,hs3,by omega,by omega,by omega,fun u u0 u1=>?_⟩;obtain ⟨q,rfl⟩:∃ q:Nat,u=(q:Int):=⟨u.toNat,by omega⟩;refine ⟨_,.inl (.of S3.s),fun l hl=>⟨D,xs,q,V.ref l,rfl,rfl,(Same.upd_new hl _) _ _ hd,by omega,by omega,?_⟩⟩;have u4:=Same.upd_new hl (HO.lst (cur.map V.int));have nlD:l≠D:=fun e=>by rw [e,hd] at hl;cases hl
   have nlS:l≠S:=fun e=>by rw [e,S3.s] at hl;cases hl
   have hne':∀ x∈xs.take q++V.ref l::xs.drop q,x≠V.ref D/\x≠V.ref S:=fun x hx=>by
    rcases J0Q hx with rfl | hx
    ·exact ⟨fun e=>nlD (by injection e),fun e=>nlS (by injection e)⟩
    ·exact hne x hx
   have hV4:GridV (upd H3 l (HO.lst (cur.map V.int))) (xs.take q++V.ref l::xs.drop q) (gs.take q++cur::gs.drop q):=J2u (hV.mono u4) ⟨l,rfl,Ja⟩;have S4:GpS H (upd (upd H3 l (HO.lst (cur.map V.int))) D (HO.lst (xs.take q++V.ref l::xs.drop q))) D S (gs.take q++cur::gs.drop q) cur:=⟨(S3.same.trans u4).set hD _,⟨_,Ja,J2t hV4 fun x hx=>(hne' x hx).1,hne'⟩,by rw [Jf nDS.symm];exact u4 _ _ S3.s⟩;have I4:GpI n (i+1) (gs.take q++cur::gs.drop q) cur:=by
    refine ⟨?_,fun r hr=>?_,fun x hx y hy=>?_,I3.co,fun r hr z hz=>?_⟩
    ·rw [y6,length_cons,y7,length_drop];omega
    ·rcases J0Q hr with rfl | hr
     ·exact I3.co
     ·exact I3.ok r hr
    ·rcases J0Q hx with ex | hx2
     ·rw [ex]
      rcases J0Q hy with ey | hy2
      ·rw [ey];exact .inl fun z hz=>hz
      ·exact .inl fun z hz=>I3.sub y hy2 z hz
     ·rcases J0Q hy with ey | hy2
      ·rw [ey];exact .inr fun z hz=>I3.sub x hx2 z hz
      ·exact I3.ch x hx2 y hy2
    ·rcases J0Q hr with rfl | hr
     ·exact hz
     ·exact I3.sub r hr z hz
   generalize upd (upd H3 l (HO.lst (cur.map V.int))) D (HO.lst (xs.take q++V.ref l::xs.drop q))=H4 at *;generalize gs.take q++cur::gs.drop q=gs' at *;have hs4:=S4.same.seq hs;have hcm:(cur.map V.int).length=cur.length:=yW ..;subst hB4;walk_at "dl";refine ⟨_,.inl (.of S4.s),?_⟩;rw [hcm];by_cases c1:1<(cur.length:Int)
   ·rw [yI c1]
    refine ⟨.inl ⟨by decide,by decide⟩,a,ns,_,_,rfl,hs4,by omega,by omega,by decide,fun y y0 y1=>⟨y,rfl,?_⟩⟩;by_cases c2:0<y
    ·rw [yI c2]
     refine ⟨.inl ⟨rfl,_,.of S4.s⟩,.inl ⟨by decide,by decide⟩,_,.inl (.of S4.s),.inl ⟨by decide,by decide⟩,a,ns,_,_,rfl,hs4,by omega,by omega,by omega,fun z z0 z1=>⟨z,rfl,⟨by decide,by decide⟩,?_⟩⟩;rw [hcm] at z1;obtain ⟨e,he⟩:∃ e:Nat,z / 3=(e:Int):=⟨(z / 3).toNat,by omega⟩;have hel:e<cur.length:=by omega
     rw [he];refine ⟨S,_,_,e,V.int cur[e],rfl,rfl,S4.s,by omega,by omega,?_,by rw [ze,yU hel];rfl,⟨_,rfl⟩,gs',cur.eraseIdx e,?_,?_⟩
     ·exact seqIndex_of (by omega) (by rw [hcm];omega)
     ·obtain ⟨xs',hd',hV',hne2⟩:=S4.d
      exact ⟨S4.same.set hS1 _,⟨xs',by rw [Jf nDS];exact hd',J2t hV' fun x hx=>(hne2 x hx).2,hne2⟩,by rw [Ja,J5h]⟩
     ·exact ⟨I4.len,I4.ok,I4.ch,Ja9 I4.co (by omega),fun r hr w hw=>I4.sub r hr w ((eraseIdx_sublist cur e).subset hw)⟩
    ·rw [yH c2]
     exact ⟨⟨_,rfl⟩,gs',cur,S4,I4⟩
   ·rw [yH c1]
    exact ⟨⟨_,rfl⟩,gs',cur,S4,I4⟩
  ·rintro σ H3 ⟨⟨v5,rfl⟩,gs,cur,S3,I3⟩
   rw [Jv] at I3;obtain ⟨xs,hd,hV,hne⟩:=S3.d;have:=I3.len;subst hB3;walk_at "dl";exact k H3 D xs gs S3.same hd hV ⟨by omega,I3.ok,I3.ch⟩
theorem J2R (n:Nat):(upI n).length=n:=by unfold upI;rw [yW,zo]
theorem Jbh (hi:i<n):(upI n)[i]?=some (i:Int):=by unfold upI;rw [ze,List.getElem?_range hi];rfl
theorem J9U {K:Frag}{S:Addr}{t:Nat}(g2:H2 S=some (.lst ((upI n).map V.int)))(ht:t<n)(hn:n<=5)
 (k:∀ (H':Hp) (D:Addr) (r:List Int),Same H2 H'->H' D=some (.lst (r.map V.int))->r.length<=1000->¬ J0B n r->Q (.ref D) H') :
 ∃ x,SqL K H2 S x/\∀ p,H2 p=none->∃ x_1,SqL K (upd H2 p (HO.lst (J2i x none (some ((t:Int)+1))))) S x_1/\∀ p_1,upd H2 p (HO.lst (J2i x none (some ((t:Int)+1)))) p_1=none ->
   Jcx (V.ref p) (V.ref p_1) (upd (upd H2 p (HO.lst (J2i x none (some ((t:Int)+1))))) p_1 (HO.lst (J2i x_1 (some (t:Int)) none))) Q:=by
 have um:((upI n).map V.int).length=n:=by rw [yW,J2R]
 refine ⟨_,.of g2,fun p hp=>?_⟩;have e1:J2i ((upI n).map V.int) none (some ((t:Int)+1))=((upI n).take (t+1)).map V.int:=by
  rw [show ((t:Int)+1)=((t+1:Nat):Int) by omega,J3o (by rw [um];omega),map_take]
 rw [e1];have u1:=Same.upd_new hp (HO.lst (((upI n).take (t+1)).map V.int));have d1:upd H2 p (HO.lst (((upI n).take (t+1)).map V.int)) p=some (.lst (((upI n).take (t+1)).map V.int)):=Ja;generalize upd H2 p (HO.lst (((upI n).take (t+1)).map V.int))=H3 at *;refine ⟨_,.of (u1 _ _ g2),fun q hq=>?_⟩;have e2:J2i ((upI n).map V.int) (some (t:Int)) none=((upI n).drop t).map V.int:=by rw [J7z (by rw [um];omega),map_drop]
 rw [e2];have u2:=u1.new hq (HO.lst (((upI n).drop t).map V.int));have d2:upd H3 q (HO.lst (((upI n).drop t).map V.int)) q=some (.lst (((upI n).drop t).map V.int)):=Ja;have d1':=(Same.upd_new hq (HO.lst (((upI n).drop t).map V.int))) _ _ d1;generalize upd H3 q (HO.lst (((upI n).drop t).map V.int))=H4 at *;refine ⟨p,q,_,_,rfl,rfl,d1',d2,?_,fun D hD=>?_⟩
 ·rw [yW,yW,y7,length_drop,J2R]
  exact Jc (by omega)
 ·rw [<- zg]
  refine k _ D _ (u2.new hD _) Ja ?_ fun z=>?_
  ·rw [y6,y7,length_drop,J2R];omega
  ·have:=(pairwise_append.mp z.2.1).2.2 (t:Int) (y4 (i:=t) (by rw [List.getElem?_take,yI (by omega),Jbh ht])) (t:Int) (y4 (i:=0) (by rw [List.getElem?_drop,Nat.add_zero,Jbh ht]))
   omega
def J3G (K:Frag):Sp:=fun vs H Q _=>∃ (a:Addr) (ns:List Int) (n:Nat),vs=[.ref a,.int n]/\SqL K H a (ns.map V.int)/\1<=n/\n<=5 /\
 ∀ (H':Hp) (D:Addr) (r:List Int),Same H H'->H' D=some (.lst (r.map V.int))->r.length<=1000->¬ J0B n r->Q (.ref D) H'
theorem ok_l_not_rising (T:Txt K mg f fd):FnOk P w K mg base CX0 2 (f 34) (fd 34) ["_law_script","_law_size"] (J3G K):=by
 walk_at "ok wT J16"
 ·obtain ⟨a,ns,n,rfl,_⟩:=h
  rfl
 ·obtain ⟨a,ns,n,rfl,hs,hn1,hn,k⟩:=h
  refine ⟨_,(Jd (psl 2 J16.nd (J0P (J38 rfl) T.wg J0S rfl (by decide) (by decide) rfl (pal rfl (J0P J6X T.wj J6Y rfl (by decide) (by decide) rfl (pal rfl (pvl 1) Jb)) Jb)))
   (Jd (psl 3 J16.nd (Jk T.wb (ok_l_draw T) (hr.mono (by decide)) rfl (by decide) rfl (pal rfl (pvl 0) (pal rfl Je (pal rfl (pvl 1) Jb)))))
   (Jd (JY (PW.pt (J29 (Jj J4m (Jm JO (pvl 3) Je) (pvl 1) (Jo _)) (J1v (Jj J0E (Jk T.wb (ok_l_draw T) (hr.mono (by decide)) rfl (by decide) rfl (pal rfl (pvl 0) (pal rfl Je (pal rfl Je Jb)))) Je (Jo _)))))
   (Jh (Jy (Jm J0X (Jm J0X (J0h (J2e rfl) (pvl 2) J0O (J0t (pvl 3))) (JL (pal rfl (JD (J0c rfl) (pvl 2) (Jm JO (pvl 3) Je) (fun _ _=>rfl)) (pal rfl (JD (J0c rfl) (pvl 2) (pvl 3) (fun _ _=>rfl)) Jb)))) (J0h (J2e rfl) (pvl 2) (J0t (Jm JO (pvl 3) Je)) J0O))))
   Js)
   (Jh (Jy (Jm J0X (J0h (J2e rfl) (pvl 2) J0O (J0t (Jm JO (pvl 3) Je))) (J0h (J2e rfl) (pvl 2) (J0t (pvl 3)) J0O))))))),?_⟩
  generalize hB2:JI (J17 _ _ _) _=B2;generalize hB1:JI (J14 _ _) B2=B1;walk_at "dl";refine ⟨n,rfl,by omega,by omega,fun p hp=>⟨p,n,rfl,Ja,by omega,fun S hS=>?_⟩⟩;have s2:=(Same.upd_new hp (HO.rng 0 (n:Int))).new hS (HO.lst ((List.range n).map fun (i:Nat)=>V.int (i:Int)));have eU:((List.range n).map fun (i:Nat)=>V.int (i:Int))=(upI n).map V.int:=by unfold upI;rw [map_map];rfl
  rw [eU] at s2 ⊢;have g2:upd (upd H p (HO.rng 0 (n:Int))) S (HO.lst ((upI n).map V.int)) S=some (.lst ((upI n).map V.int)):=Ja;generalize upd (upd H p (HO.rng 0 (n:Int))) S (HO.lst ((upI n).map V.int))=H2 at *;subst hB1;walk_at "dl";refine ⟨a,ns,_,_,rfl,s2.seq hs,by decide,by decide,by omega,fun v v0 v1=>?_⟩;obtain ⟨t,rfl⟩:∃ t:Nat,v=(t:Int):=⟨v.toNat,by omega⟩;have ul:(upI n).length=n:=by unfold upI;rw [yW,zo]
  have um:((upI n).map V.int).length=n:=by rw [yW,ul]
  have ug:∀ i,i<n->(upI n)[i]?=some (i:Int):=fun i hi=>by unfold upI;rw [ze,List.getElem?_range hi];rfl
  subst hB2;walk_at "dl";have ht:t<n:=by omega
  have k2:=fun (H':Hp) (D:Addr) (r:List Int) (s':Same H2 H')=>k H' D r (s2.trans s');by_cases c:(t:Int)+1<n
  ·rw [yI c]
   refine ⟨a,ns,_,_,rfl,s2.seq hs,by decide,by decide,by decide,fun v v0 v1=>⟨rfl,?_⟩⟩
   split
   ·refine ⟨_,.of g2,fun q hq=>?_⟩
    rw [J3o (by rw [um];omega),<- map_take];have u3:=Same.upd_new hq (HO.lst (((upI n).take t).map V.int));have d3:upd H2 q (HO.lst (((upI n).take t).map V.int)) q=some (.lst (((upI n).take t).map V.int)):=Ja;generalize upd H2 q (HO.lst (((upI n).take t).map V.int))=H3 at *;refine ⟨S,_,_,V.int ((t:Int)+1),rfl,rfl,.of (u3 _ _ g2),by rw [show ((t:Int)+1)=((t+1:Nat):Int) by omega];exact Jn (by rw [ze,ug _ (by omega)];rfl),S,_,_,V.int (t:Int),rfl,rfl,.of (u3 _ _ g2),Jn (by rw [ze,ug _ ht];rfl),Jc (by decide),fun q2 hq2=>?_⟩;have u4:=u3.new hq2 (HO.lst [V.int ((t:Int)+1),V.int (t:Int)]);have d4:upd H3 q2 (HO.lst [V.int ((t:Int)+1),V.int (t:Int)]) q2=some (.lst [V.int ((t:Int)+1),V.int (t:Int)]):=Ja;have d34:=(Same.upd_new hq2 (HO.lst [V.int ((t:Int)+1),V.int (t:Int)])) _ _ d3;generalize upd H3 q2 (HO.lst [V.int ((t:Int)+1),V.int (t:Int)])=H4 at *;refine ⟨q,q2,_,_,rfl,rfl,d34,d4,?_,fun q3 hq3=>?_⟩
    ·rw [yW,y7,ul];exact Jc (by simp;omega)
    have u5:=u4.new hq3 (HO.lst (((upI n).take t).map V.int++[V.int ((t:Int)+1),V.int (t:Int)]));have d5:upd H4 q3 (HO.lst (((upI n).take t).map V.int++[V.int ((t:Int)+1),V.int (t:Int)])) q3=some (.lst (((upI n).take t++[(t:Int)+1,(t:Int)]).map V.int)):=by rw [Ja,zg];rfl
    generalize upd H4 q3 (HO.lst (((upI n).take t).map V.int++[V.int ((t:Int)+1),V.int (t:Int)]))=H5 at *;refine ⟨_,.of (u5 _ _ g2),fun q4 hq4=>?_⟩;rw [show ((t:Int)+2)=((t+2:Nat):Int) by omega,J7z (by rw [um];omega),<- map_drop];have u6:=u5.new hq4 (HO.lst (((upI n).drop (t+2)).map V.int));have d6:upd H5 q4 (HO.lst (((upI n).drop (t+2)).map V.int)) q4=some (.lst (((upI n).drop (t+2)).map V.int)):=Ja;have d56:=(Same.upd_new hq4 (HO.lst (((upI n).drop (t+2)).map V.int))) _ _ d5;generalize upd H5 q4 (HO.lst (((upI n).drop (t+2)).map V.int))=H6 at *;refine ⟨q3,q4,_,_,rfl,rfl,d56,d6,?_,fun D hD=>?_⟩
    ·rw [yW,yW,y6,y7,length_drop,ul];exact Jc (by simp;omega)
    ·rw [<- zg]
     refine k2 _ D _ (u6.new hD _) Ja ?_ fun z=>?_
     ·rw [y6,y6,y7,length_drop,ul];simp;omega
     ·have:=(pairwise_append.mp (pairwise_append.mp z.2.1).1).2.1
      rw [pairwise_cons] at this;have:=this.1 (t:Int) (by simp);omega
   ·exact J9U g2 ht hn k2
  ·rw [yH c]
   exact J9U g2 ht hn k2
def J1l (n:Nat)(x y:Int)(i:Nat):List Int:=(upI i).filter fun z=>decide (z≠x)&&decide (z≠y)
structure BadG (H H':Hp)(D:Addr)(n:Nat)(gs:List (List Int)):Prop where
 same:Same H H'
 d:∃ xs,H' D=some (.lst xs)/\GridV H' xs gs
 len:gs.length<=100
 rows:∀ r∈gs,r.length<=1000
 bad:¬ J2P n gs
theorem J9A {α:Type}{R:α->α->Prop}:∀ {l:List α} {x y:α},l.Pairwise R->x∈l->y∈l->x≠y->R x y\/R y x
 | [],_,_,_,h,_,_=>nomatch h
 | a :: l,x,y,hp,hx,hy,hn=>by
   obtain ⟨h1,h2⟩:=pairwise_cons.mp hp;rcases zc.mp hx with ex | hx2
   ·rcases zc.mp hy with ey | hy2
    ·exact absurd (ex.trans ey.symm) hn
    ·exact .inl (ex ▸ h1 y hy2)
   ·rcases zc.mp hy with ey | hy2
    ·exact .inr (ey ▸ h1 x hx2)
    ·exact J9A h2 hx2 hy2 hn
theorem JcK {p0 p1 M:List Int}{x y:Int}(h0:p0.Perm [x,y])(h1:p1.Perm (x::M))(hxy:x≠y)(hM:∀ z∈M,z≠x/\z≠y)(hne:M≠[]):p0≠p1/\¬ J7F p0 p1/\¬ J7F p1 p0:=by
 have my:y∉p1:=fun z=>by
  rcases zc.mp (h1.mem_iff.mp z) with e | e
  ·exact hxy e.symm
  ·exact (hM y e).2 rfl
 have mx1:x∈p1:=h1.mem_iff.mpr y9;have mx0:x∈p0:=h0.mem_iff.mpr y9;have l0:p0.length=2:=h0.length_eq;have l1:2<=p1.length:=by
  rw [h1.length_eq,length_cons];have:=length_pos_iff.mpr hne;omega
 have s0:(J18 p0 p1).length=1:=by
  have:=(h0.filter fun z=>decide (z∈p1)).length_eq;unfold J18;rw [this,filter_cons,yI (yL mx1),filter_cons,yH fun h=>my (of_decide_eq_true h)];rfl
 have s1:(J18 p1 p0).length=1:=by
  have:=(h1.filter fun z=>decide (z∈p0)).length_eq;unfold J18;have e:M.filter (fun z=>decide (z∈p0))=[]:=filter_eq_nil_iff.mpr fun z hz h=>by
   have hm:=h0.mem_iff.mp (of_decide_eq_true h);rcases zc.mp hm with e | e
   ·exact (hM z hz).1 e
   ·exact (hM z hz).2 (yX.mp e)
  rw [this,filter_cons,yI (yL mx0),e];rfl
 refine ⟨fun e=>my (e ▸ h0.mem_iff.mpr (by simp)),fun h=>?_,fun h=>?_⟩
 ·rcases h with h | h | h
  ·rw [h] at s0;cases s0
  ·omega
  ·omega
 ·rcases h with h | h | h
  ·rw [h] at s1;cases s1
  ·omega
  ·omega
theorem Jc1 :z∈upI n↔0<=z/\z<n:=by
 unfold upI;rw [zl];constructor
 ·rintro ⟨i,hi,rfl⟩
  have:=mem_range.mp hi;omega
 ·intro h
  exact ⟨z.toNat,mem_range.mpr (by omega),by omega⟩
theorem J95 (n:Nat):upI (n+1)=upI n++[(n:Int)]:=by unfold upI;rw [range_succ,zg];rfl
def J5y (K:Frag):Sp:=fun vs H Q _=>∃ (a lg:Addr) (ns:List Int) (xs:List V) (gs:List (List Int)) (n:Nat),vs=[.ref a,.ref lg,.int n]/\SqL K H a (ns.map V.int)/\H lg=some (.lst xs)/\GridV H xs gs/\gs.length<=10/\(∀ r∈gs,r.length<=10)/\3<=n/\n<=5 /\
 ∀ H' D gs',BadG H H' D n gs'->Q (.ref D) H'
theorem ok_l_cutting (T:Txt K mg f fd):FnOk P w K mg base CX0 2 (f 33) (fd 33) ["_law_script","_law_groups_here","_law_size"] (J5y K):=by
 walk_at "ok wR J0f"
 ·obtain ⟨a,lg,ns,xs,gs,n,rfl,_⟩:=h
  rfl
 ·obtain ⟨a,lg,ns,xs,gs,n,rfl,hs,hl,hg,hg10,hr10,hn3,hn5,k⟩:=h
  refine ⟨_,(Jd (psc 3 J0f.nd (Jk T.wb (ok_l_draw T) (hr.mono (by decide)) rfl (by decide) rfl (pal rfl (pvl 0) (pal rfl Je (pal rfl (pvl 2) Jb)))))
   (Jd (psc 4 J0f.nd (Jm J2L (Jm JO (Jm JO (pvc 3) Je) (Jk T.wb (ok_l_draw T) (hr.mono (by decide)) rfl (by decide) rfl (pal rfl (pvl 0) (pal rfl Je (pal rfl (Jm J2K (pvl 2) Je) Jb))))) (pvl 2)))
   (Jd (J1w ["_law_place"] ["_law_script","_law_groups_here","_law_size","_law_shared","_law_one","_law_left","_law_other","_law_pair"] rfl (show CompSc _ (Jg J1t) ["_law_script","_law_groups_here","_law_size","_law_shared","_law_one","_law_left","_law_other","_law_pair"] ["_law_script","_law_groups_here","_law_size","_law_shared","_law_one","_law_left","_law_other","_law_pair"] from Jp (by decide +kernel)) J0f.nd (i:=5) rfl rfl (J0u rfl T.wj (pal rfl (pvl 2) Jb)) (fun _ _ _ _ _=>(pgl 0 (show (["_law_place","_law_script","_law_groups_here","_law_size","_law_shared","_law_one","_law_left","_law_other","_law_pair"]:List Str).Nodup by decide +kernel))) (fun _ _ _ _ _=>(J2p (PW.pt (J29 (Jj J3x (pvl 0) (pvc 4) (Jo _)) (J1v (Jj J3x (pvl 0) (pvc 5) (Jo _))))))) (fun _ _ _ _ _=>(pvl 0)))
   (Jd (psl 6 J0f.nd (JD (J0c rfl) (pvl 5) (Jk T.wb (ok_l_draw T) (hr.mono (by decide)) rfl (by decide) rfl (pal rfl (pvl 0) (pal rfl Je (pal rfl (JC (J0x rfl) T.wa J00 rfl (by decide) (by decide) rfl (pal rfl (pvl 5) Jb)) Jb)))) (fun _ _=>rfl)))
   (Jd (psl 7 J0f.nd (JL (pal rfl (JC (J5P rfl rfl) T.wo J2w rfl (by decide) (by decide) rfl (pal rfl (JL (pal rfl (pvc 3) (pal rfl (pvc 4) Jb))) Jb)) (pal rfl (JC (J5P rfl rfl) T.wo J2w rfl (by decide) (by decide) rfl (pal rfl (JL (pal rfl (pvc 3) (pal rfl (pvl 6) Jb))) Jb)) Jb))))
   (Jd (JY (PW.pt (J29 (Jj J0E (Jk T.wb (ok_l_draw T) (hr.mono (by decide)) rfl (by decide) rfl (pal rfl (pvl 0) (pal rfl Je (pal rfl Je Jb)))) Je (Jo _)) (J1v (Jj J30 (JC (J0x rfl) T.wa J00 rfl (by decide) (by decide) rfl (pal rfl (pvl 5) Jb)) Je (Jo _)))))
   (Jh (J9I (JC (J5P rfl rfl) T.wo J2w rfl (by decide) (by decide) rfl (pal rfl (Jm J0X (JL (pal rfl (pvc 3) Jb)) (pvl 5)) Jb)) (J9M (pvl 7) Je J25)))
   Js)
   (Jd (psl 1 J0f.nd (J0P (J1V rfl) T.wg J0S rfl (by decide) (by decide) rfl (pal rfl (pvl 1) Jb)))
   (Jd (JS (J1n rfl zx PySem.F.slot_list_insert PySem.F.type_list_insert J3i rfl rfl rfl rfl (pvl 1) (pal rfl (Jk T.wb (ok_l_draw T) (hr.mono (by decide)) rfl (by decide) rfl (pal rfl (pvl 0) (pal rfl Je (pal rfl (Jm JO (JC (J0x rfl) T.wa J00 rfl (by decide) (by decide) rfl (pal rfl (pvl 1) Jb)) Je) Jb)))) (pal rfl (JD (J0c rfl) (pvl 7) Je (fun _ _=>rfl)) Jb))))
   (Jd (JS (J1n rfl zx PySem.F.slot_list_insert PySem.F.type_list_insert J3i rfl rfl rfl rfl (pvl 1) (pal rfl (Jk T.wb (ok_l_draw T) (hr.mono (by decide)) rfl (by decide) rfl (pal rfl (pvl 0) (pal rfl Je (pal rfl (Jm JO (JC (J0x rfl) T.wa J00 rfl (by decide) (by decide) rfl (pal rfl (pvl 1) Jb)) Je) Jb)))) (pal rfl (JD (J0c rfl) (pvl 7) Je (fun _ _=>rfl)) Jb))))
   (Jh (Jy (pvl 1)))))))))))),?_⟩
  generalize hB6:JI (J2V _) (JI (J2V _) _)=B6;generalize hB5:JI (J14 _ _) B6=B5;generalize hB4:JI (J17 _ _ _) B5=B4;generalize hB3:JI (J14 _ _) B4=B3;generalize hB2:JI (J14 _ _) B3=B2;walk_at "dl";refine ⟨a,ns,_,_,rfl,hs,by decide,by decide,by omega,fun x x0 x1=>⟨x,rfl,a,ns,_,_,rfl,hs,by decide,by decide,by omega,fun d d0 d1=>⟨d,rfl,by omega,by omega,by omega,?_⟩⟩⟩;obtain ⟨y,hy⟩:∃ y,(x+1+d) % (n:Int)=y:=⟨_,rfl⟩;have hxy:x≠y:=by
   rcases (by omega:n=3\/n=4\/n=5) with rfl | rfl | rfl<;>omega
  have hy0:0<=y/\y<n:=by
   rcases (by omega:n=3\/n=4\/n=5) with rfl | rfl | rfl<;>omega
  rw [hy];clear hy;rw [Int.toNat_natCast];refine Jx J0e (by rw [Jv];exact Jc (by omega)) (fun i ys H'=>H'=H/\ys=(J1l n x y i).map V.int) ⟨rfl,rfl⟩ (fun _ _ _ _ _=>trivial) (fun i ys H' q=>by rw [q.2,yW];unfold J1l;exact yR (length_filter_le _ _) (by rw [J2R];exact yJ _)) ?_ ?_
  ·rintro i v ys H1 hv ⟨rfl,rfl⟩
   obtain ⟨hi,rfl⟩:=J0r hv;walk_at "dl";rw [Int.zero_add];have e:J1l n x y (i+1)=J1l n x y i++(if (i:Int)≠x/\(i:Int)≠y then [(i:Int)] else []):=by
    unfold J1l;rw [J95,filter_append];congr 1;by_cases c:(i:Int)≠x/\(i:Int)≠y
    ·rw [yI c];simp [c.1,c.2]
    ·rw [yH c]
     by_cases c1:(i:Int)=x
     ·simp [c1]
     ·have c2:(i:Int)=y:=Decidable.not_not.mp fun z=>c ⟨c1,z⟩
      simp [c2]
   rw [e];by_cases c1:(i:Int)=x
   ·rw [yH (by simp [c1])]
    exact ⟨⟨_,rfl⟩,by simp [c1]⟩
   ·rw [yI (by simp [c1])]
    by_cases c2:(i:Int)=y
    ·rw [yH (by simp [c2])]
     exact ⟨⟨_,rfl⟩,by simp [c2]⟩
    ·rw [yI (by simp [c2])]
     exact ⟨⟨_,rfl⟩,by simp [c1,c2]⟩
  ·rintro ys H1 ⟨rfl,rfl⟩ D hD
   rw [Jv];have u1:=Same.upd_new hD (HO.lst ((J1l n x y n).map V.int));have d1:upd H1 D (HO.lst ((J1l n x y n).map V.int)) D=some (.lst ((J1l n x y n).map V.int)):=Ja;generalize upd H1 D (HO.lst ((J1l n x y n).map V.int))=H2 at *;have hLm:∀ z,z∈J1l n x y n↔(0<=z/\z<n)/\z≠x/\z≠y:=fun z=>by unfold J1l;rw [mem_filter,Jc1];simp
   have hLl:(J1l n x y n).length<=5:=by unfold J1l;exact yR (length_filter_le _ _) (by rw [J2R];omega)
   have hL1:1<=(J1l n x y n).length:=by
    obtain ⟨z,hz⟩:∃ z:Int,0<=z/\z<3/\z≠x/\z≠y:=by
     by_cases c0:x≠0/\y≠0
     ·exact ⟨0,by omega⟩
     ·by_cases c1:x≠1/\y≠1
      ·exact ⟨1,by omega⟩
      ·exact ⟨2,by omega⟩
    exact length_pos_of_mem ((hLm z).mpr ⟨⟨hz.1,by omega⟩,hz.2.2⟩)
   generalize J1l n x y n=L at *;have hLv:(L.map V.int).length=L.length:=yW ..;subst hB2;walk_at "dl";refine ⟨_,.inl (.of d1),a,ns,_,_,rfl,u1.seq hs,by decide,by decide,by rw [hLv];omega,fun e e0 e1=>?_⟩;rw [hLv] at e1;obtain ⟨t,rfl⟩:∃ t:Nat,e=(t:Int):=⟨e.toNat,by omega⟩;have ht:t<L.length:=by omega
   refine ⟨D,_,_,V.int L[t],rfl,rfl,.of d1,Jn (by rw [ze,yU ht];rfl),?_⟩;have ho:=(hLm L[t]).mp (getElem_mem ht);generalize L[t]=o at *;subst hB3;walk_at "dl";refine ⟨Jc (by decide),fun q1 hq1=>⟨[x,y],.of Ja,by simp,fun s1 p0 hs1 hp0 _=>⟨Jc (by decide),fun q2 hq2=>⟨[x,o],.of Ja,by simp,fun s2 p1 hs2 hp1 _=>⟨Jc (by decide),fun pr hpr=>?_⟩⟩⟩⟩⟩;have v1:=u1.new hq1 (HO.lst [V.int x,V.int y]);have v2:=v1.new hs1 (HO.lst (p0.map V.int));have g2:upd (upd H2 q1 (HO.lst [V.int x,V.int y])) s1 (HO.lst (p0.map V.int)) s1=some (.lst (p0.map V.int)):=Ja;have dd2:=(Same.upd_new hs1 (HO.lst (p0.map V.int))) _ _ ((Same.upd_new hq1 (HO.lst [V.int x,V.int y])) _ _ d1);generalize upd (upd H2 q1 (HO.lst [V.int x,V.int y])) s1 (HO.lst (p0.map V.int))=H3 at *;have w3:=Same.upd_new hq2 (HO.lst [V.int x,V.int o]);generalize upd H3 q2 (HO.lst [V.int x,V.int o])=H4 at *;have w4:=w3.new hs2 (HO.lst (p1.map V.int));have g4:upd H4 s2 (HO.lst (p1.map V.int)) s2=some (.lst (p1.map V.int)):=Ja;generalize upd H4 s2 (HO.lst (p1.map V.int))=H5 at *;have w5:=w4.new hpr (HO.lst [V.ref s1,V.ref s2]);have g5:upd H5 pr (HO.lst [V.ref s1,V.ref s2]) pr=some (.lst [V.ref s1,V.ref s2]):=Ja;have g45:=(Same.upd_new hpr (HO.lst [V.ref s1,V.ref s2])) _ _ g4;have fpr:H1 pr=none:=(v2.trans w4).free hpr;have npr:s1≠pr:=fun e=>by rw [<- e,w4 _ _ g2] at hpr;cases hpr
   generalize upd H5 pr (HO.lst [V.ref s1,V.ref s2])=H6 at *;have S6:=v2.trans w5;have gs1:=w5 _ _ g2;have gD:=w5 _ _ dd2;have fin:∀ (H':Hp) (s2':Addr) (p1' M:List Int),Same H1 H'->H' pr=some (.lst [V.ref s1,V.ref s2'])->H' s1=some (.lst (p0.map V.int))->H' s2'=some (.lst (p1'.map V.int))->p1'.Perm (x::M)->(∀ z∈M,z≠x/\z≠y)->M≠[]->M.length<=5 ->
    B5 { nx:=fun x H'=>Q V.non H',rt:=Q } [some (V.ref a),some (V.ref lg),some (V.int (n:Int)),some (V.int x),some (V.int y),some (V.ref D),some (V.int o),some (V.ref pr)] H':=by
    intro H' s2' p1' M s' hp h1 h2 hpm hM hMn hM5;subst hB5;walk_at "dl";refine ⟨xs,.inl (.of (s' _ _ hl)),fun E hE=>?_⟩;have x1:=s'.new hE (HO.lst xs);have y1:=Same.upd_new hE (HO.lst xs);have e1:upd H' E (HO.lst xs) E=some (.lst xs):=Ja;have nx:∀ v∈xs,v≠V.ref E:=fun v hv e=>by
     obtain ⟨j,hj⟩:=zk.mp hv;obtain ⟨r,_,p,ep,hp'⟩:=All2.at hg hj;rw [ep] at e;injection e with e
     rw [<- e,s' _ _ hp'] at hE;cases hE
    have n1:s1≠E:=fun e=>by rw [<- e,h1] at hE;cases hE
    have n2:s2'≠E:=fun e=>by rw [<- e,h2] at hE;cases hE
    have n3:pr≠E:=fun e=>by rw [<- e,hp] at hE;cases hE
    have fE:H1 E=none:=s'.free hE;have h1':=y1 _ _ h1;have h2':=y1 _ _ h2;have hp':=y1 _ _ hp;have V1:=hg.mono x1;generalize upd H' E (HO.lst xs)=G1 at *;have hxl:=hg.1;generalize hB7:JI (J2V _) (J2x _)=B7 at hB6;subst hB6;walk_at "dl";refine ⟨.inl ⟨rfl,_,.of e1⟩,_,.inl (.of e1),a,ns,_,_,rfl,x1.seq hs,by decide,by decide,by omega,fun u u0 u1'=>⟨pr,_,_,_,rfl,rfl,.of hp',Jn (j:=0) rfl,?_⟩⟩;obtain ⟨k0,rfl⟩:∃ k0:Nat,u=(k0:Int):=⟨u.toNat,by omega⟩;refine ⟨E,xs,k0,_,rfl,rfl,e1,by omega,by omega,?_⟩;have nx2:∀ v∈xs.take k0++V.ref s1::xs.drop k0,v≠V.ref E:=fun v hv=>by
     rcases J0Q hv with rfl | hv
     ·exact fun e=>n1 (by injection e)
     ·exact nx v hv
    have V2:GridV (upd G1 E (HO.lst (xs.take k0++V.ref s1::xs.drop k0))) (xs.take k0++V.ref s1::xs.drop k0) (gs.take k0++p0::gs.drop k0):=J2t (J2u V1 ⟨s1,rfl,h1'⟩) nx2;have e2:upd G1 E (HO.lst (xs.take k0++V.ref s1::xs.drop k0)) E=some (.lst (xs.take k0++V.ref s1::xs.drop k0)):=Ja;have x2:Same H1 (upd G1 E (HO.lst (xs.take k0++V.ref s1::xs.drop k0))):=x1.set fE _;have hp2:upd G1 E (HO.lst (xs.take k0++V.ref s1::xs.drop k0)) pr=some (.lst [V.ref s1,V.ref s2']):=by rw [Jf n3];exact hp'
    have h22:upd G1 E (HO.lst (xs.take k0++V.ref s1::xs.drop k0)) s2'=some (.lst (p1'.map V.int)):=by rw [Jf n2];exact h2'
    have hl2:(xs.take k0++V.ref s1::xs.drop k0).length=xs.length+1:=by rw [y6,length_cons,y7,length_drop];omega
    have hlg2:(gs.take k0++p0::gs.drop k0).length=gs.length+1:=by rw [y6,length_cons,y7,length_drop];omega
    have hm0:p0∈gs.take k0++p0::gs.drop k0:=by simp
    have hb2:∀ r∈gs.take k0++p0::gs.drop k0,r.length<=10:=fun r hr=>by
     rcases J0Q hr with rfl | hr
     ·rw [hp0.length_eq];simp
     ·exact hr10 r hr
    generalize upd G1 E (HO.lst (xs.take k0++V.ref s1::xs.drop k0))=G2 at *;generalize xs.take k0++V.ref s1::xs.drop k0=xs2 at *;generalize gs.take k0++p0::gs.drop k0=gs2 at *;subst hB7;walk_at "dl";refine ⟨.inl ⟨rfl,_,.of e2⟩,_,.inl (.of e2),a,ns,_,_,rfl,x2.seq hs,by decide,by decide,by omega,fun u u0 u1'=>⟨pr,_,_,_,rfl,rfl,.of hp2,Jn (j:=1) rfl,?_⟩⟩;obtain ⟨k1,rfl⟩:∃ k1:Nat,u=(k1:Int):=⟨u.toNat,by omega⟩;refine ⟨E,xs2,k1,_,rfl,rfl,e2,by omega,by omega,?_⟩;have nx3:∀ v∈xs2.take k1++V.ref s2'::xs2.drop k1,v≠V.ref E:=fun v hv=>by
     rcases J0Q hv with rfl | hv
     ·exact fun e=>n2 (by injection e)
     ·exact nx2 v hv
    refine k _ E (gs2.take k1++p1'::gs2.drop k1) ⟨x2.set fE _,⟨_,Ja,J2t (J2u V2 ⟨s2',rfl,h22⟩) nx3⟩,?_,fun r hr=>?_,fun z=>?_⟩
    ·rw [y6,length_cons,y7,length_drop];omega
    ·rcases J0Q hr with rfl | hr
     ·rw [hpm.length_eq,length_cons];omega
     ·have:=hb2 r hr;omega
    ·obtain ⟨c1,c2,c3⟩:=JcK hp0 hpm hxy hM hMn
     have m0:p0∈gs2.take k1++p1'::gs2.drop k1:=by
      rw [<- take_append_drop k1 gs2] at hm0;rcases zh.mp hm0 with h | h
      ·exact zj _ h
      ·exact zi _ (y8 _ h)
     rcases J9A z.2.2 m0 (show p1'∈gs2.take k1++p1'::gs2.drop k1 by simp) c1 with h | h
     ·exact c3 h
     ·exact c2 h
   have oth:B5 { nx:=fun x H'=>Q V.non H',rt:=Q } [some (V.ref a),some (V.ref lg),some (V.int (n:Int)),some (V.int x),some (V.int y),some (V.ref D),some (V.int o),some (V.ref pr)] H6:=fin H6 s2 p1 [o] S6 g5 gs1 g45 hp1 (fun z hz=>by rw [yX.mp hz];exact ho.2) (by simp) (by simp);subst hB4;walk_at "dl";refine ⟨a,ns,_,_,rfl,S6.seq hs,by decide,by decide,by decide,fun v v0 v1=>⟨rfl,?_⟩⟩
   split
   ·refine ⟨_,.inl (.of gD),?_⟩
    split
    ·refine ⟨Jc (by decide),fun q3 hq3=>⟨q3,D,[V.int x],_,rfl,rfl,Ja,(Same.upd_new hq3 _) _ _ gD,by rw [hLv];exact Jc (by simp;omega),fun q4 hq4=>⟨q4,rfl,x::L,.of (by rw [Ja];rfl),by rw [length_cons];omega,fun s3 p3 hs3 hp3 _=>?_⟩⟩⟩
     have z2:=(Same.upd_new hq3 (HO.lst [V.int x])).new hq4 (HO.lst ([V.int x]++List.map V.int L));generalize upd (upd H6 q3 (HO.lst [V.int x])) q4 (HO.lst ([V.int x]++List.map V.int L))=H7 at *;have z3:=z2.new hs3 (HO.lst (p3.map V.int));have g3:upd H7 s3 (HO.lst (p3.map V.int)) s3=some (.lst (p3.map V.int)):=Ja;have n3:s3≠pr:=fun e=>by rw [e,z2 _ _ g5] at hs3;cases hs3
     generalize upd H7 s3 (HO.lst (p3.map V.int))=H8 at *;refine ⟨pr,_,1,1,rfl,rfl,z3 _ _ g5,J35 (n:=2) (j:=1) (by decide),fin _ s3 p3 L ((S6.trans z3).set fpr _) Ja (by rw [Jf npr];exact z3 _ _ gs1) (by rw [Jf n3];exact g3) hp3 (fun z hz=>((hLm z).mp hz).2) (fun e=>by rw [e] at hL1;simp at hL1) hLl⟩
    ·exact oth
   ·exact oth
theorem J6a {K:Frag}{r1 r2:List V}{j:Int}{P:VK}(hj:j=0\/j=1)(h:∀ H2 q r,Same H' H2->H2 q=some (.lst r)->(r=r1\/r=r2)->P (.ref q) H2) :
 1<=sizeLine/\∀ p,H' p=none->2<=sizeLine/\∀ p_1,upd H' p (.lst r1) p_1=none->2<=sizeLine/\∀ p_2,upd (upd H' p (.lst r1)) p_1 (.lst r2) p_2=none->JbH K (.ref p_2) (.int j) (upd (upd (upd H' p (.lst r1)) p_1 (.lst r2)) p_2 (.lst [.ref p,.ref p_1])) P:=by
 refine ⟨Jc (by decide),fun p hp=>⟨Jc (by decide),fun q hq=>⟨Jc (by decide),fun u hu=>?_⟩⟩⟩;have u2:=Same.upd_new hq (HO.lst r2);have u3:=Same.upd_new hu (HO.lst [V.ref p,V.ref q]);have S:=((Same.upd_new hp (HO.lst r1)).trans u2).trans u3;rcases hj with rfl | rfl
 ·exact ⟨u,_,_,V.ref p,rfl,rfl,.of Ja,Jn (j:=0) rfl,h _ p r1 S ((u2.trans u3) _ _ Ja) (.inl rfl)⟩
 ·exact ⟨u,_,_,V.ref q,rfl,rfl,.of Ja,Jn (j:=1) rfl,h _ q r2 S (u3 _ _ Ja) (.inr rfl)⟩
theorem J4p (h:z∈r)(hz:z<0\/(n:Int)<=z):¬ J0B n r:=fun g=>by have:=g.2.2 z h;omega
def J6g (K:Frag):Sp:=fun vs H Q _=>∃ (a lg:Addr) (ns:List Int) (xs:List V) (gs:List (List Int)) (n:Nat),vs=[.ref a,.ref lg,.int n]/\SqL K H a (ns.map V.int)/\H lg=some (.lst xs)/\GridV H xs gs/\gs.length<=4/\(∀ r∈gs,r.length<=10)/\1<=n/\n<=5 /\
 ∀ H' D gs',BadG H H' D n gs'->Q (.ref D) H'
theorem ok_l_spoilt (T:Txt K mg f fd):FnOk P w K mg base CX0 3 (f 35) (fd 35) ["_law_script","_law_groups_here","_law_size"] (J6g K):=by
 walk_at "ok wC JU"
 ·obtain ⟨a,lg,ns,xs,gs,n,rfl,_⟩:=h
  rfl
 ·obtain ⟨a,lg,ns,xs,gs,n,rfl,hs,hl,hg,hg4,hr10,hn1,hn5,k⟩:=h
  refine ⟨_,(Jd (psl 3 JU.nd (Jk T.wb (ok_l_draw T) (hr.mono (by decide)) rfl (by decide) rfl (pal rfl (pvl 0) (pal rfl Je (pal rfl Je Jb)))))
   (Jd (psl 4 JU.nd (Jk T.wb (ok_l_draw T) (hr.mono (by decide)) rfl (by decide) rfl (pal rfl (pvl 0) (pal rfl Je (pal rfl (Jm JO (JC (J0x rfl) T.wa J00 rfl (by decide) (by decide) rfl (pal rfl (pvl 1) Jb)) Je) Jb)))))
   (Jd (psc 5 JU.nd (Jk T.wb (ok_l_draw T) (hr.mono (by decide)) rfl (by decide) rfl (pal rfl (pvl 0) (pal rfl Je (pal rfl (pvl 2) Jb)))))
   (Jd (psl 6 JU.nd (JL Jb))
   (Jd (JY (Jj J0E (pvl 3) Je (Jo _))
   (Jh (psl 6 JU.nd (JL (pal rfl (pvc 5) (pal rfl (pvc 5) Jb)))))
   Js)
   (Jd (JY (Jj J0E (pvl 3) Je (Jo _))
   (Jh (psl 6 JU.nd (J0h (J2e rfl) (JL (pal rfl (Jm J2K (pvl 2) Je) (pal rfl Je (pal rfl Je Jb)))) J0O (J0t (Jm JO Je (J0P J8Y T.yx Jcg rfl (by decide) (by decide) rfl (pal rfl (J5I J0E (pvl 2) Je (Jo _)) Jb)))))))
   Js)
   (Jd (JY (PW.pt (J6r (Jj J0E (pvl 3) Je (Jo _)) (J4f (Jj J0E (pvl 3) Je (Jo _)))))
   (Jh (psl 6 JU.nd (JD (J0c rfl) (JL (pal rfl (JL (pal rfl (J3v J23 Je) Jb)) (pal rfl (JL (pal rfl (J3v J23 Je) (pal rfl (pvc 5) Jb))) Jb))) (Jm J2K (pvl 3) Je) (fun _ _=>rfl))))
   Js)
   (Jd (JY (PW.pt (J6r (Jj J0E (pvl 3) Je (Jo _)) (J4f (Jj J0E (pvl 3) Je (Jo _)))))
   (Jh (psl 6 JU.nd (JD (J0c rfl) (JL (pal rfl (JL (pal rfl (pvl 2) Jb)) (pal rfl (JL (pal rfl (pvc 5) (pal rfl (pvl 2) Jb))) Jb))) (Jm J2K (pvl 3) Je) (fun _ _=>rfl))))
   Js)
   (Jd (JY (Jj J0E (pvl 3) Je (Jo _))
   (Jh (psl 6 JU.nd (JL (pal rfl (pvc 5) (pal rfl (Jm JO (Jm JbS Je Je) (pvl 2)) Jb)))))
   Js)
   (Jd (JY (PW.pt (J29 (Jj J30 (pvl 3) Je (Jo _)) (J1v (Jj J30 (pvl 2) Je (Jo _)))))
   (Jh (Jy (Jk T.wR (ok_l_cutting T) (hr.mono (by decide)) rfl (by decide) rfl (pal rfl (pvl 0) (pal rfl (pvl 1) (pal rfl (pvl 2) Jb))))))
   Js)
   (Jd (JY (Jj J0E (pvl 3) Je (Jo _))
   (Jh (psl 6 JU.nd (Jk T.wT (ok_l_not_rising T) (hr.mono (by decide)) rfl (by decide) rfl (pal rfl (pvl 0) (pal rfl (pvl 2) Jb)))))
   Js)
   (Jd (JY (Jj J0E (pvl 3) Je (Jo _))
   (Jh (Jy (J0h (J2e rfl) (Jm J0X (pvl 1) (JW ["_law_k"] ["_law_script","_law_groups_here","_law_size","_law_way","_law_at","_law_place","_law_bad"] rfl (show CompSc _ (Jg J1R) ["_law_script","_law_groups_here","_law_size","_law_way","_law_at","_law_place","_law_bad"] ["_law_script","_law_groups_here","_law_size","_law_way","_law_at","_law_place","_law_bad"] from Jp (by decide +kernel)) (J0u rfl T.wj (pal rfl Je Jb)) (fun _ _ _ _ _=>(pgl 0 (show (["_law_k","_law_script","_law_groups_here","_law_size","_law_way","_law_at","_law_place","_law_bad"]:List Str).Nodup by decide +kernel))) (fun _ _ _ _ _=>JN) (fun _ _ _ _ _=>(JL (pal rfl (pvc 6) Jb))))) J0O (J0t Je))))
   Js)
   (Jh (Jy (Jm J0X (Jm J0X (J0h (J2e rfl) (pvl 1) J0O (J0t (pvl 4))) (JL (pal rfl (pvl 6) Jb))) (J0h (J2e rfl) (pvl 1) (J0t (pvl 4)) J0O)))))))))))))))),?_⟩
  have hxl:=hg.1;generalize hBr:J2x (tOp _ _ _)=Br;generalize hB9:JI (J17 _ _ _) Br=B9;generalize hB8:JI (J17 _ _ _) B9=B8;generalize hB7:JI (J17 _ _ _) B8=B7;generalize hB6:JI (J17 _ _ _) B7=B6;generalize hB5:JI (J17 _ _ _) B6=B5;generalize hB4:JI (J17 _ _ _) B5=B4;generalize hB3:JI (J17 _ _ _) B4=B3;generalize hB2:JI (J17 _ _ _) B3=B2;generalize hB1:JI (J14 _ _) B2=B1;walk_at "dl";refine ⟨a,ns,_,_,rfl,hs,by decide,by decide,by decide,fun wy w0 w1=>⟨xs,.inl (.of hl),a,ns,_,_,rfl,hs,by decide,by decide,by omega,fun t' t0 t1=>⟨a,ns,_,_,rfl,hs,by decide,by decide,by omega,fun pc c0 c1=>?_⟩⟩⟩;obtain ⟨t,rfl⟩:∃ t:Nat,t'=(t:Int):=⟨t'.toNat,by omega⟩;have ht:t<=xs.length:=by omega
  have Fr:∀ (H':Hp) (b:Addr) (r:List Int),Same H H'->H' b=some (.lst (r.map V.int))->r.length<=1000->¬ J0B n r->Br { nx:=fun x H'=>Q V.non H',rt:=Q } [some (V.ref a),some (V.ref lg),some (V.int (n:Int)),some (V.int wy),some (V.int (t:Int)),some (V.int pc),some (V.ref b)] H':=by
   intro H' b r s' hb hrl hbad;subst hBr;walk_at "dl";refine ⟨xs,.of (s' _ _ hl),fun p1 hp1=>?_⟩;rw [J3o ht];have u1:=Same.upd_new hp1 (HO.lst (xs.take t));have d1:upd H' p1 (HO.lst (xs.take t)) p1=some (.lst (xs.take t)):=Ja;generalize upd H' p1 (HO.lst (xs.take t))=H2 at *;refine ⟨Jc (by decide),fun p2 hp2=>?_⟩;have u2:=Same.upd_new hp2 (HO.lst [V.ref b]);have d2:upd H2 p2 (HO.lst [V.ref b]) p2=some (.lst [V.ref b]):=Ja;generalize upd H2 p2 (HO.lst [V.ref b])=H3 at *;refine ⟨p1,p2,_,_,rfl,rfl,u2 _ _ d1,d2,by rw [y7];exact Jc (by simp;omega),fun p3 hp3=>?_⟩;have u3:=Same.upd_new hp3 (HO.lst (xs.take t++[V.ref b]));have d3:upd H3 p3 (HO.lst (xs.take t++[V.ref b])) p3=some (.lst (xs.take t++[V.ref b])):=Ja;generalize upd H3 p3 (HO.lst (xs.take t++[V.ref b]))=H4 at *;have S4:=((s'.trans u1).trans u2).trans u3;refine ⟨xs,.of (S4 _ _ hl),fun p4 hp4=>?_⟩;rw [J7z ht];have u4:=Same.upd_new hp4 (HO.lst (xs.drop t));have d4:upd H4 p4 (HO.lst (xs.drop t)) p4=some (.lst (xs.drop t)):=Ja;generalize upd H4 p4 (HO.lst (xs.drop t))=H5 at *;refine ⟨p3,p4,_,_,rfl,rfl,u4 _ _ d3,d4,by rw [y6,y7,length_drop];exact Jc (by simp;omega),fun D hD=>?_⟩;have u5:=Same.upd_new hD (HO.lst (xs.take t++[V.ref b]++xs.drop t));have S5:=(S4.trans u4).trans u5;have hb5:=((((u1.trans u2).trans u3).trans u4).trans u5) _ _ hb;have eq1:xs.take t++[V.ref b]++xs.drop t=xs.take t++V.ref b::xs.drop t:=by simp
   rw [eq1] at u5 S5 hb5 ⊢;refine k _ D (gs.take t++r::gs.drop t) ⟨S5,⟨_,Ja,J2u (hg.mono S5) ⟨b,rfl,hb5⟩⟩,?_,fun r' hr'=>?_,fun z=>hbad (z.2.1 r (by simp))⟩
   ·rw [y6,length_cons,y7,length_drop];omega
   ·rcases J0Q hr' with rfl | hr'
    ·exact hrl
    ·have:=hr10 r' hr';omega
  clear hBr
  have F9 : ∀ (H':Hp) (b:Addr) (r:List Int),Same H H'->H' b=some (.lst (r.map V.int))->r.length<=1000->¬ J0B n r->B9 { nx:=fun x H'=>Q V.non H',rt:=Q } [some (V.ref a),some (V.ref lg),some (V.int (n:Int)),some (V.int wy),some (V.int (t:Int)),some (V.int pc),some (V.ref b)] H':=by
   intro H' b r s' hb hrl hbad;subst hB9;walk_at "dl"
   split
   ·refine ⟨by decide,by decide,?_⟩
    refine Jx J0e (by rw [Jv];exact Jc (by decide)) (fun i ys H''=>Same H' H''/\GridV H'' ys (List.replicate i [pc])) ⟨Same.refl _,All2.nil⟩ (fun _ _ _ _ _=>trivial) (fun i ys H'' q=>by rw [q.2.1,zq];exact yJ _) ?_ ?_
    ·rintro i x ys H2 hx ⟨s2,V2⟩
     obtain ⟨hi,rfl⟩:=J0r hx;walk_at "dl";refine ⟨Jc (by decide),fun q hq=>⟨⟨_,rfl⟩,s2.new hq _,?_⟩⟩;rw [<- replicate_succ,replicate_succ'];exact All2.snoc (V2.mono (Same.upd_new hq _)) ⟨q,rfl,Ja⟩
    ·rintro ys H2 ⟨s2,V2⟩ D hD
     rw [Jv] at V2;have hyl:=V2.1;have u1:=Same.upd_new hD (HO.lst ys);have d1:upd H2 D (HO.lst ys) D=some (.lst ys):=Ja;generalize upd H2 D (HO.lst ys)=H3 at *;have S3:=(s'.trans s2).trans u1;refine ⟨lg,D,xs,ys,rfl,rfl,S3 _ _ hl,d1,by rw [hyl];exact Jc (by simp;omega),fun E hE=>⟨E,rfl,xs++ys,.of Ja,fun F hF=>?_⟩⟩;have u2:=Same.upd_new hE (HO.lst (xs++ys));generalize upd H3 E (HO.lst (xs++ys))=H4 at *;have u3:=u2.new hF (HO.lst ((xs++ys).take 9));rw [show (9:Int)=((9:Nat):Int) from rfl,J3o (by rw [y6,hyl];simp)];have GV:GridV (upd H4 F (HO.lst ((xs++ys).take 9))) ((xs++ys).take 9) ((gs++List.replicate (Int.toNat 9) [pc]).take 9):=J3r (All2.append (hg.mono (S3.trans u3)) (V2.mono (u1.trans u3))) 9;have gl:((gs++List.replicate (Int.toNat 9) [pc]).take 9).length=9:=by rw [y7,y6,zq];exact Nat.min_eq_left (by show 9<=gs.length+9;omega)
     refine k _ F _ ⟨S3.trans u3,⟨_,Ja,GV⟩,by rw [gl];decide,fun r' hr'=>?_,fun z=>?_⟩
     ·rcases zh.mp (mem_of_mem_take hr') with h | h
      ·have:=hr10 r' h;omega
      ·rw [eq_of_mem_replicate h];simp
     ·have:=z.1
      rw [gl] at this;exact absurd this (by decide)
   ·exact Fr H' b r s' hb hrl hbad
  clear hB9 Fr;have F8:∀ (H':Hp) (b:Addr) (r:List Int),Same H H'->H' b=some (.lst (r.map V.int))->r.length<=1000->¬ J0B n r->B8 { nx:=fun x H'=>Q V.non H',rt:=Q } [some (V.ref a),some (V.ref lg),some (V.int (n:Int)),some (V.int wy),some (V.int (t:Int)),some (V.int pc),some (V.ref b)] H':=by
   intro H' b r s' hb hrl hbad;subst hB8;walk_at "dl"
   split
   ·exact ⟨a,ns,n,rfl,s'.seq hs,hn1,hn5,fun H2 D r2 s2 h2 l2 bad2=>F9 H2 D r2 (s'.trans s2) h2 l2 bad2⟩
   ·exact F9 H' b r s' hb hrl hbad
  clear hB8 F9;have F7:∀ (H':Hp) (b:Addr) (r:List Int),Same H H'->H' b=some (.lst (r.map V.int))->r.length<=1000->¬ J0B n r->B7 { nx:=fun x H'=>Q V.non H',rt:=Q } [some (V.ref a),some (V.ref lg),some (V.int (n:Int)),some (V.int wy),some (V.int (t:Int)),some (V.int pc),some (V.ref b)] H':=by
   intro H' b r s' hb hrl hbad;subst hB7;walk_at "dl"
   split
   ·split
    ·exact ⟨a,lg,ns,xs,gs,n,rfl,s'.seq hs,s' _ _ hl,hg.mono s',by omega,hr10,by omega,hn5,fun H2 D gs2 B2=>k H2 D gs2 ⟨s'.trans B2.same,B2.d,B2.len,B2.rows,B2.bad⟩⟩
    ·exact F8 H' b r s' hb hrl hbad
   ·exact F8 H' b r s' hb hrl hbad
  clear hB7 F8;have F6:∀ (H':Hp) (b:Addr) (r:List Int),Same H H'->H' b=some (.lst (r.map V.int))->r.length<=1000->¬ J0B n r->B6 { nx:=fun x H'=>Q V.non H',rt:=Q } [some (V.ref a),some (V.ref lg),some (V.int (n:Int)),some (V.int wy),some (V.int (t:Int)),some (V.int pc),some (V.ref b)] H':=by
   intro H' b r s' hb hrl hbad;subst hB6;walk_at "dl"
   split
   ·refine ⟨⟨by decide,by decide,by decide⟩,Jc (by decide),fun q hq=>F7 _ q [pc,10 ^ Int.toNat 30+(n:Int)] (s'.new hq _) Ja (by simp) (J4p (z:=10 ^ Int.toNat 30+(n:Int)) (by simp) (.inr ?_))⟩
    have:(0:Int)<=10 ^ Int.toNat 30:=by decide
    omega
   ·exact F7 H' b r s' hb hrl hbad
  clear hB6 F7;have F5:∀ (H':Hp) (b:Addr) (r:List Int),Same H H'->H' b=some (.lst (r.map V.int))->r.length<=1000->¬ J0B n r->B5 { nx:=fun x H'=>Q V.non H',rt:=Q } [some (V.ref a),some (V.ref lg),some (V.int (n:Int)),some (V.int wy),some (V.int (t:Int)),some (V.int pc),some (V.ref b)] H':=by
   intro H' b r s' hb hrl hbad;subst hB5;walk_at "dl";have pk:∀ j:Int,j=0\/j=1->_:=fun j hj=>J6a (K:=K) (H':=H') (r1:=[V.int (n:Int)]) (r2:=[V.int pc,V.int (n:Int)]) (j:=j) (P:=fun x H1=>B6 { nx:=fun x H'=>Q V.non H',rt:=Q } [some (V.ref a),some (V.ref lg),some (V.int (n:Int)),some (V.int wy),some (V.int (t:Int)),some (V.int pc),some x] H1) hj fun H2 q r2 s2 h2 e=>by
    rcases e with rfl | rfl
    ·exact F6 H2 q [(n:Int)] (s'.trans s2) h2 (by simp) (J4p (z:=(n:Int)) (by simp) (.inr (Int.le_refl _)))
    ·exact F6 H2 q [pc,(n:Int)] (s'.trans s2) h2 (by simp) (J4p (z:=(n:Int)) (by simp) (.inr (Int.le_refl _)))
   split
   ·exact pk _ (by omega)
   ·split
    ·exact pk _ (by omega)
    ·exact F6 H' b r s' hb hrl hbad
  clear hB5 F6;have F4:∀ (H':Hp) (b:Addr) (r:List Int),Same H H'->H' b=some (.lst (r.map V.int))->r.length<=1000->¬ J0B n r->B4 { nx:=fun x H'=>Q V.non H',rt:=Q } [some (V.ref a),some (V.ref lg),some (V.int (n:Int)),some (V.int wy),some (V.int (t:Int)),some (V.int pc),some (V.ref b)] H':=by
   intro H' b r s' hb hrl hbad;subst hB4;walk_at "dl";have pk:∀ j:Int,j=0\/j=1->_:=fun j hj=>J6a (K:=K) (H':=H') (r1:=[V.int (-1)]) (r2:=[V.int (-1),V.int pc]) (j:=j) (P:=fun x H1=>B5 { nx:=fun x H'=>Q V.non H',rt:=Q } [some (V.ref a),some (V.ref lg),some (V.int (n:Int)),some (V.int wy),some (V.int (t:Int)),some (V.int pc),some x] H1) hj fun H2 q r2 s2 h2 e=>by
    rcases e with rfl | rfl
    ·exact F5 H2 q [-1] (s'.trans s2) h2 (by simp) (J4p (z:=-1) (by simp) (.inl (by decide)))
    ·exact F5 H2 q [-1,pc] (s'.trans s2) h2 (by simp) (J4p (z:=-1) (by simp) (.inl (by decide)))
   split
   ·exact pk _ (by omega)
   ·split
    ·exact pk _ (by omega)
    ·exact F5 H' b r s' hb hrl hbad
  clear hB4 F5;have F3:∀ (H':Hp) (b:Addr) (r:List Int),Same H H'->H' b=some (.lst (r.map V.int))->r.length<=1000->¬ J0B n r->B3 { nx:=fun x H'=>Q V.non H',rt:=Q } [some (V.ref a),some (V.ref lg),some (V.int (n:Int)),some (V.int wy),some (V.int (t:Int)),some (V.int pc),some (V.ref b)] H':=by
   intro H' b r s' hb hrl hbad;subst hB3;walk_at "dl"
   split
   ·refine ⟨Jc (by decide),fun p1 hp1=>⟨_,.of Ja,fun p2 hp2=>?_⟩⟩
    have S:=(s'.new hp1 (HO.lst [V.int ((n:Int) - 1),V.int 0,V.int 0]));generalize upd H' p1 (HO.lst [V.int ((n:Int) - 1),V.int 0,V.int 0])=H2 at *;by_cases c:(n:Int)=1
    ·rw [yI c]
     refine F4 _ p2 [(n:Int) - 1,0,0] (S.new hp2 _) (by rw [Ja];rfl) (by simp) fun z=>?_;have:=(pairwise_cons.mp z.2.1).1 0 (by simp);omega
    ·rw [yH c]
     refine F4 _ p2 [(n:Int) - 1,0] (S.new hp2 _) (by rw [Ja];rfl) (by simp) fun z=>?_;have:=(pairwise_cons.mp z.2.1).1 0 (by simp);omega
   ·exact F4 H' b r s' hb hrl hbad
  clear hB3 F4;have F2:∀ (H':Hp) (b:Addr) (r:List Int),Same H H'->H' b=some (.lst (r.map V.int))->r.length<=1000->¬ J0B n r->B2 { nx:=fun x H'=>Q V.non H',rt:=Q } [some (V.ref a),some (V.ref lg),some (V.int (n:Int)),some (V.int wy),some (V.int (t:Int)),some (V.int pc),some (V.ref b)] H':=by
   intro H' b r s' hb hrl hbad;subst hB2;walk_at "dl"
   split
   ·refine ⟨Jc (by decide),fun q hq=>F3 _ q [pc,pc] (s'.new hq _) Ja (by simp) fun z=>?_⟩
    have:=(pairwise_cons.mp z.2.1).1 pc (by simp);omega
   ·exact F3 H' b r s' hb hrl hbad
  clear hB2 F3;subst hB1;walk_at "dl";exact ⟨yQ _,fun q hq=>F2 _ q [] (Same.upd_new hq _) Ja (by simp) fun z=>z.1 rfl⟩
def wS (z0 bad:Bool):Str:=if z0 then "whole" else if bad then "groups" else "told"
def J55 (K:Frag)(f:Nat->Addr):Sp:=fun vs H Q _=>∃ (lg lr lc:Addr) (xs ys zs:List V) (g rgs cgs:List (List Int)) (R C:Nat) (many:Int) (bad:Bool),vs=[.ref lg,.int many,.ref lr,.ref lc]/\PtI H lg lr lc xs ys zs g rgs cgs R C/\0<=many/\many<=1000 /\
 (if bad then ¬ (J2P R rgs/\J2P C cgs) else Chn R rgs/\Chn C cgs)/\∀ H',Same H H'->Q (.str (wS (decide (sm (g.map sm)=0)) bad)) H'
theorem ok_l_told (T:Txt K mg f fd):FnOk P w K mg base CX0 8 (f 36) (fd 36) ["_law_grid_here","_law_many","_law_by_rows","_law_by_columns"] (J55 K f):=by
 walk_at "ok wq J0j"
 ·obtain ⟨lg,lr,lc,xs,ys,zs,g,rgs,cgs,R,C,many,bad,rfl,_⟩:=h
  rfl
 ·obtain ⟨lg,lr,lc,xs,ys,zs,g,rgs,cgs,R,C,many,bad,rfl,I,hm0,hm1,hb,k⟩:=h
  refine ⟨_,(Jd (psl 4 J0j.nd Jz)
   (Jd (psl 5 J0j.nd (Jt Jb))
   (Jd (ps_try rfl rfl (fun _ _ _=>(Jh (JS (J2Z (J96 rfl) T.wP (ok_parts T) (hr.mono (by decide)) rfl (by decide) rfl (pal rfl (pvl 0) (pal rfl (pvl 1) (pal rfl (pvl 2) (pal rfl (pvl 3) Jb))))))))
   (ph_as rfl T.wf.m T.wf.x (by decide) J0j.nd (i:=6) rfl rfl (fun _=>(Jd (psl 4 J0j.nd Jz)
   (Jh (psl 5 J0j.nd (Jt (pal rfl (JC (J88 rfl) T.wn J0k rfl (by decide) (by decide) rfl (pal rfl (pvl 6) (pal rfl (J5H T.wY.m rfl (by decide)) Jb))) (pal rfl (JC (J88 rfl) T.wn J0k rfl (by decide) (by decide) rfl (pal rfl (pvl 6) (pal rfl (pty T.yc J2G) Jb))) (pal rfl (JC (Ja2 rfl) T.wn J0k rfl (by decide) (by decide) rfl (pal rfl (pvl 6) (pal rfl (Jt (pal rfl (J5H T.wl.m rfl (by decide)) (pal rfl (J5H T.wZ.m rfl (by decide)) (pal rfl (J5H T.w6.m rfl (by decide)) (pal rfl (J5H T.w8.m rfl (by decide)) Jb))))) Jb))) Jb))))))))
   (ph_as rfl T.wl.m T.wl.x (by decide) J0j.nd (i:=6) rfl rfl (fun _=>(Jd (psl 4 J0j.nd Jz)
   (Jh (psl 5 J0j.nd (Jt (pal rfl (JC (J88 rfl) T.wn J0k rfl (by decide) (by decide) rfl (pal rfl (pvl 6) (pal rfl (J5H T.wY.m rfl (by decide)) Jb))) (pal rfl (JC (J88 rfl) T.wn J0k rfl (by decide) (by decide) rfl (pal rfl (pvl 6) (pal rfl (pty T.yc J2G) Jb))) (pal rfl (JC (Ja2 rfl) T.wn J0k rfl (by decide) (by decide) rfl (pal rfl (pvl 6) (pal rfl (Jt (pal rfl (J5H T.wZ.m rfl (by decide)) (pal rfl (J5H T.w6.m rfl (by decide)) (pal rfl (J5H T.w8.m rfl (by decide)) Jb)))) Jb))) Jb))))))))
   JbL)))
   (Jd (JY (PW.pt (J29 (Jj J3x (pvl 4) Jz (Jo _)) (J1v (Jj (J87 rfl hr.units) (pvl 5) (Jt (pal rfl J2B (pal rfl J2B (pal rfl J2B Jb)))) (Jo _)))))
   (Jh (psl 4 J0j.nd Jz))
   Js)
   (Jh (Jy (pvl 4))))))),?_⟩
  generalize hB3:JI (J17 _ _ _) _=B3;generalize hB2:JI (JaD _ _) B3=B2;walk_at "dl";refine ⟨yQ _,fun p0 hp0=>?_⟩;have u0:=Same.upd_new hp0 (HO.tup []);have d0:upd H p0 (HO.tup []) p0=some (.tup []):=Ja;generalize upd H p0 (HO.tup [])=H0 at *;subst hB2;walk_at "dl";have hor:(Chn R rgs/\Chn C cgs)\/¬ (J2P R rgs/\J2P C cgs):=by
   cases bad
   ·exact .inl hb
   ·exact .inr hb
  have rep:∀ (G:Hp) c,G c=some (HO.tup [V.bl true,V.bl true,V.bl false])->Rep K G (.tuple [.bool true,.bool true,.bool false]) (.ref c):=fun G c hc=>by
   simp only [Rep];exact ⟨c,_,rfl,.of hc,by simp [Reps,Rep]⟩
  have fin:∀ (H':Hp) (q:Addr) (wd:Str),Same H H'->H' q=some (.tup [V.bl true,V.bl true,V.bl false])->wd≠Str.ofString "told"->(∀ G,Same H G->Q (.str wd) G) ->
   B3 { nx:=fun x H'=>Q V.non H',rt:=Q } [some (V.ref lg),some (V.int many),some (V.ref lr),some (V.ref lc),some (V.str wd),some (V.ref q),none] H':=by
   intro H' q wd s' hq hw kk;subst hB3;walk_at "dl";rw [yI (by simp [hw])];refine ⟨Jc (by decide),fun r hr=>?_⟩;have sh:SeqAt.shaped (.tuple [.bool true,.bool true,.bool false])=true:=by decide
   refine ⟨_,_,rep _ q ((Same.upd_new hr _) _ _ hq),rep _ r Ja,sh,sh,?_⟩;have e:PyData.eqv (.tuple [.bool true,.bool true,.bool false]) (.tuple [.bool true,.bool true,.bool false])=true:=by decide
   rw [e];exact ⟨false,rfl,kk _ (s'.new hr _)⟩
  refine ⟨xs,ys,zs,g,rgs,cgs,R,C,I.mono u0,hm0,hm1,hor,fun c H1 s1=>⟨f 4,rfl,⟨_,T.wl.x⟩,?_⟩,fun c hc H1 v s1=>?_,fun c hc H1 s1=>⟨f 5,rfl,⟨_,T.wf.x⟩,?_⟩⟩
  ·rw [yH (by rw [T.yu];decide)]
   refine ⟨f 4,rfl,⟨_,T.wl.x⟩,?_⟩;rw [yI T.yt];intro x hx;have u7:=(u0.trans s1).new hx (ExO x (Value.ref (f 4)) none);have xo:upd H1 x (ExO x (Value.ref (f 4)) none) x=some (ExO x (.ref (f 4)) none):=Ja;generalize upd H1 x (ExO x (Value.ref (f 4)) none)=H2 at *;refine ⟨x,f 4,none,xo,.inl rfl,T.wl.xc,rfl,_,T.yo,x,f 4,none,xo,.inl rfl,T.wl.xc,rfl,_,T.yw,Jc (by decide),fun p hp=>?_⟩;have u8:=u7.new hp (HO.tup [V.ref (f 2),V.ref (f 3),V.ref (f 6)]);have xo8:=(Same.upd_new hp (HO.tup [V.ref (f 2),V.ref (f 3),V.ref (f 6)])) _ _ xo;have gp:upd H2 p (HO.tup [V.ref (f 2),V.ref (f 3),V.ref (f 6)]) p=some (HO.tup ([f 2,f 3,f 6].map V.ref)):=Ja;generalize upd H2 p (HO.tup [V.ref (f 2),V.ref (f 3),V.ref (f 6)])=H3 at *;refine ⟨x,p,f 4,none,false,[f 2,f 3,f 6],rfl,xo8,.inl rfl,T.wl.xc,.of gp,?_,Jc (by decide),fun q hq=>fin _ q _ (u8.new hq _) Ja (by decide) fun G hG=>?_⟩
   ·simp only [zd,map_nil,PySem.W.kitAny,T.yq,T.yr,T.yv]
   ·have:=k G hG
    rw [yL c] at this;exact this
  ·have hb0:bad=false:=by
    cases bad
    ·rfl
    ·exact absurd ⟨J60 hc.1,J60 hc.2⟩ hb
   subst hb0;subst hB3;walk_at "dl";have:=k H1 (u0.trans s1);rw [yM c] at this;exact this
  ·have hb1:bad=true:=by
    cases bad
    ·exact absurd ⟨J60 hb.1,J60 hb.2⟩ hc
    ·rfl
   subst hb1;rw [yI T.yk];intro x hx;have u7:=(u0.trans s1).new hx (ExO x (Value.ref (f 5)) none);have xo:upd H1 x (ExO x (Value.ref (f 5)) none) x=some (ExO x (.ref (f 5)) none):=Ja;generalize upd H1 x (ExO x (Value.ref (f 5)) none)=H2 at *;refine ⟨x,f 5,none,xo,.inl rfl,T.wf.xc,rfl,_,T.yg,x,f 5,none,xo,.inl rfl,T.wf.xc,rfl,_,T.ym,Jc (by decide),fun p hp=>?_⟩;have u8:=u7.new hp (HO.tup [V.ref (f 4),V.ref (f 2),V.ref (f 3),V.ref (f 6)]);have xo8:=(Same.upd_new hp (HO.tup [V.ref (f 4),V.ref (f 2),V.ref (f 3),V.ref (f 6)])) _ _ xo;have gp:upd H2 p (HO.tup [V.ref (f 4),V.ref (f 2),V.ref (f 3),V.ref (f 6)]) p=some (HO.tup ([f 4,f 2,f 3,f 6].map V.ref)):=Ja;generalize upd H2 p (HO.tup [V.ref (f 4),V.ref (f 2),V.ref (f 3),V.ref (f 6)])=H3 at *;refine ⟨x,p,f 5,none,false,[f 4,f 2,f 3,f 6],rfl,xo8,.inl rfl,T.wf.xc,.of gp,?_,Jc (by decide),fun q hq=>fin _ q _ (u8.new hq _) Ja (by decide) fun G hG=>?_⟩
   ·simp only [zd,map_nil,PySem.W.kitAny,T.yj,T.yh,T.yi,T.yl]
   ·have:=k G hG
    rw [yM c] at this;exact this
theorem J4z {c:Addr}{zs:List V}{g3:List (List Int)}(ht:H t=some (.tup [.ref a,.ref b,.ref c]))(ha:H a=some (.lst xs))(hg1:GridV H xs g1)(hb:H b=some (.lst ys))(hg2:GridV H ys g2)(hc:H c=some (.lst zs))(hg3:GridV H zs g3) :
 Rep K H (.tuple [.list (J06 g1),.list (J06 g2),.list (J06 g3)]) (.ref t):=by
 rw [Rep];refine ⟨t,_,rfl,.of ht,?_⟩;rw [Reps];refine ⟨_,_,rfl,by rw [Rep];exact ⟨a,_,rfl,.of ha,(JX (K:=K) hg1).1⟩,?_⟩;rw [Reps];refine ⟨_,_,rfl,by rw [Rep];exact ⟨b,_,rfl,.of hb,(JX (K:=K) hg2).1⟩,?_⟩;rw [Reps];exact ⟨_,_,rfl,by rw [Rep];exact ⟨c,_,rfl,.of hc,(JX (K:=K) hg3).1⟩,by rw [Reps]⟩
theorem J6t (ht:H t=some (.tup [.ref a,.ref b]))(ha:H a=some (.lst xs))(hg1:GridV H xs g1)(hb:H b=some (.lst ys))(hg2:GridV H ys g2) :
 Rep K H (.tuple [.list (J06 g1),.list (J06 g2)]) (.ref t):=by
 rw [Rep];refine ⟨t,_,rfl,.of ht,?_⟩;rw [Reps];refine ⟨_,_,rfl,by rw [Rep];exact ⟨a,_,rfl,.of ha,(JX (K:=K) hg1).1⟩,?_⟩;rw [Reps];exact ⟨_,_,rfl,by rw [Rep];exact ⟨b,_,rfl,.of hb,(JX (K:=K) hg2).1⟩,by rw [Reps]⟩
theorem JaX {K:Frag}{u c d:Addr}{zs ws:List V}(ht:H t=some (.tup [.ref a,.ref b]))(ha:H a=some (.lst xs))(h1:GridV H xs g1)(hb:H b=some (.lst ys))(h2:GridV H ys g2)
 (hu:H u=some (.tup [.ref c,.ref d])) (hc:H c=some (.lst zs)) (h3:GridV H zs g1) (hd:H d=some (.lst ws)) (h4:GridV H ws g2) (q:Q (.bl (!neg)) H):J7f K neg (.ref t) (.ref u) H Q:=by
 obtain ⟨_,r2,r3,r4⟩:=JX (K:=K) h1;obtain ⟨_,r5,r6,r7⟩:=JX (K:=K) h2;have sh:SeqAt.shaped (.tuple [.list (J06 g1),.list (J06 g2)])=true:=by
  simp only [SeqAt.shaped,PyData.canLay0,PyData.canLayAll0,PyData.depth,PyData.depthAll,r2,r5,Bool.true_and,Bool.and_true];exact yL (by omega)
 refine ⟨_,_,J6t ht ha h1 hb h2,J6t hu hc h3 hd h4,sh,sh,?_⟩;have e:PyData.eqv (.tuple [.list (J06 g1),.list (J06 g2)]) (.tuple [.list (J06 g1),.list (J06 g2)])=true:=by
  simp only [PyData.eqv,PyData.eqvAll,r4,r7,Bool.and_true]
 rw [e];cases neg<;>exact q
theorem J1N {K:Frag}{l:Addr}{σ:St}{fin:List V->Hp->Prop}(hl:H l=some (.lst xs))(hg:GridV H xs g)(hz:xs.length<=1000)(h:∀ ys H',Same H H'->GridV H' ys g->fin ys H') :
 J4M (Itl K l) (JK 0) JaB (tCB (J3O K) (J53 (J6b 0) J9a)) fin (none::σ) H:=by
 have hgl:=hg.1;refine Jx (σ:=σ) (xs:=xs) Ju (Jc (by omega)) (fun i ys H'=>Same H H'/\GridV H' ys (g.take i)) ⟨Same.refl _,All2.nil⟩ (fun _ _ _ _ q=>.of (q.1 _ _ hl)) (fun i ys H' q=>by rw [q.2.1,y7];omega) ?_ ?_
 ·rintro i x ys H1 hx ⟨s1,V1⟩
  obtain ⟨r,hr,p,rfl,hp⟩:=All2.at hg hx;walk_at "dl";refine ⟨_,.inl (.of (s1 _ _ hp)),fun q hq=>⟨⟨_,rfl⟩,s1.new hq _,?_⟩⟩;rw [take_add_one,hr];exact All2.snoc (V1.mono (Same.upd_new hq _)) ⟨q,rfl,Ja⟩
 ·rintro ys H1 ⟨s1,V1⟩
  rw [hgl,zf] at V1;exact h ys H1 s1 V1
def J5x (K:Frag):Sp:=fun vs H Q _=>∃ (a:Addr) (ns:List Int),vs=[.ref a]/\SqL K H a (ns.map V.int)/\ns.length<=63/\∀ H',Q (.bl true) H'
theorem ok_law (T:Txt K mg f fd):FnOk P w K mg base CX0 9 (f 37) (fd 37) ["_law_script"] (J5x K):=by
 walk_at "ok wU J0q"
 ·obtain ⟨a,ns,rfl,_⟩:=h
  rfl
 ·obtain ⟨a,ns,rfl,hs,_,k⟩:=h
  refine ⟨_,(Jd (psl 1 J0q.nd (Jm JO Je (Jk T.wb (ok_l_draw T) (hr.mono (by decide)) rfl (by decide) rfl (pal rfl (pvl 0) (pal rfl Je (pal rfl Je Jb))))))
   (Jd (psl 2 J0q.nd (Jm JO Je (Jk T.wb (ok_l_draw T) (hr.mono (by decide)) rfl (by decide) rfl (pal rfl (pvl 0) (pal rfl Je (pal rfl Je Jb))))))
   (Jd (psl 3 J0q.nd (Jk T.wQ (ok_l_grid T) (hr.mono (by decide)) rfl (by decide) rfl (pal rfl (pvl 0) (pal rfl (pvl 1) (pal rfl (pvl 2) Jb)))))
   (Jd (psl 4 J0q.nd Jz)
   (Jd (JY (Jj J0E (JC (J1m rfl rfl) T.wk J1p rfl (by decide) (by decide) rfl (pal rfl (JW ["_law_row"] ["_law_script","_law_rows","_law_columns","_law_grid_here","_law_good","_law_by_rows","_law_by_columns","_law_many","_law_kept","_law_side","_law_spoilt_here","_law_due","_law_handed"] rfl (show CompSc _ (Jg s_law) ["_law_script","_law_rows","_law_columns","_law_grid_here","_law_good","_law_by_rows","_law_by_columns","_law_many","_law_kept","_law_side","_law_spoilt_here","_law_due","_law_handed"] ["_law_script","_law_rows","_law_columns","_law_grid_here","_law_good","_law_by_rows","_law_by_columns","_law_many","_law_kept","_law_side","_law_spoilt_here","_law_due","_law_handed"] from Jp (by decide +kernel)) (J0d rfl (pvl 3)) (fun _ _ _ _ _=>(pgl 0 (show (["_law_row","_law_script","_law_rows","_law_columns","_law_grid_here","_law_good","_law_by_rows","_law_by_columns","_law_many","_law_kept","_law_side","_law_spoilt_here","_law_due","_law_handed"]:List Str).Nodup by decide +kernel))) (fun _ _ _ _ _=>JN) (fun _ _ _ _ _=>(JC (J1m rfl rfl) T.wk J1p rfl (by decide) (by decide) rfl (pal rfl (pvl 0) Jb)))) Jb)) Je (Jo _))
   (Jh (psl 4 J0q.nd Jz))
   Js)
   (Jd (psl 5 J0q.nd (Jk T.wB (ok_l_groups T) (hr.mono (by decide)) rfl (by decide) rfl (pal rfl (pvl 0) (pal rfl Je (pal rfl (pvl 1) Jb)))))
   (Jd (psl 6 J0q.nd (Jk T.wB (ok_l_groups T) (hr.mono (by decide)) rfl (by decide) rfl (pal rfl (pvl 0) (pal rfl Je (pal rfl (pvl 2) Jb)))))
   (Jd (psl 7 J0q.nd (Jk T.wb (ok_l_draw T) (hr.mono (by decide)) rfl (by decide) rfl (pal rfl (pvl 0) (pal rfl Je (pal rfl Je Jb)))))
   (Jd (psl 8 J0q.nd (Jt (pal rfl (JW ["_law_row"] ["_law_script","_law_rows","_law_columns","_law_grid_here","_law_good","_law_by_rows","_law_by_columns","_law_many","_law_kept","_law_side","_law_spoilt_here","_law_due","_law_handed"] rfl (show CompSc _ (Jg s_law) ["_law_script","_law_rows","_law_columns","_law_grid_here","_law_good","_law_by_rows","_law_by_columns","_law_many","_law_kept","_law_side","_law_spoilt_here","_law_due","_law_handed"] ["_law_script","_law_rows","_law_columns","_law_grid_here","_law_good","_law_by_rows","_law_by_columns","_law_many","_law_kept","_law_side","_law_spoilt_here","_law_due","_law_handed"] from Jp (by decide +kernel)) (J0d rfl (pvl 3)) (fun _ _ _ _ _=>(pgl 0 (show (["_law_row","_law_script","_law_rows","_law_columns","_law_grid_here","_law_good","_law_by_rows","_law_by_columns","_law_many","_law_kept","_law_side","_law_spoilt_here","_law_due","_law_handed"]:List Str).Nodup by decide +kernel))) (fun _ _ _ _ _=>JN) (fun _ _ _ _ _=>(J0P (J1V rfl) T.wg J0S rfl (by decide) (by decide) rfl (pal rfl (pvl 0) Jb)))) (pal rfl (JW ["_law_group"] ["_law_script","_law_rows","_law_columns","_law_grid_here","_law_good","_law_by_rows","_law_by_columns","_law_many","_law_kept","_law_side","_law_spoilt_here","_law_due","_law_handed"] rfl (show CompSc _ (Jg s_law) ["_law_script","_law_rows","_law_columns","_law_grid_here","_law_good","_law_by_rows","_law_by_columns","_law_many","_law_kept","_law_side","_law_spoilt_here","_law_due","_law_handed"] ["_law_script","_law_rows","_law_columns","_law_grid_here","_law_good","_law_by_rows","_law_by_columns","_law_many","_law_kept","_law_side","_law_spoilt_here","_law_due","_law_handed"] from Jp (by decide +kernel)) (J0d rfl (pvl 5)) (fun _ _ _ _ _=>(pgl 0 (show (["_law_group","_law_script","_law_rows","_law_columns","_law_grid_here","_law_good","_law_by_rows","_law_by_columns","_law_many","_law_kept","_law_side","_law_spoilt_here","_law_due","_law_handed"]:List Str).Nodup by decide +kernel))) (fun _ _ _ _ _=>JN) (fun _ _ _ _ _=>(J0P (J1V rfl) T.wg J0S rfl (by decide) (by decide) rfl (pal rfl (pvl 0) Jb)))) (pal rfl (JW ["_law_group"] ["_law_script","_law_rows","_law_columns","_law_grid_here","_law_good","_law_by_rows","_law_by_columns","_law_many","_law_kept","_law_side","_law_spoilt_here","_law_due","_law_handed"] rfl (show CompSc _ (Jg s_law) ["_law_script","_law_rows","_law_columns","_law_grid_here","_law_good","_law_by_rows","_law_by_columns","_law_many","_law_kept","_law_side","_law_spoilt_here","_law_due","_law_handed"] ["_law_script","_law_rows","_law_columns","_law_grid_here","_law_good","_law_by_rows","_law_by_columns","_law_many","_law_kept","_law_side","_law_spoilt_here","_law_due","_law_handed"] from Jp (by decide +kernel)) (J0d rfl (pvl 6)) (fun _ _ _ _ _=>(pgl 0 (show (["_law_group","_law_script","_law_rows","_law_columns","_law_grid_here","_law_good","_law_by_rows","_law_by_columns","_law_many","_law_kept","_law_side","_law_spoilt_here","_law_due","_law_handed"]:List Str).Nodup by decide +kernel))) (fun _ _ _ _ _=>JN) (fun _ _ _ _ _=>(J0P (J1V rfl) T.wg J0S rfl (by decide) (by decide) rfl (pal rfl (pvl 0) Jb)))) Jb)))))
   (Jd (JY (PW.pt (J6r (Jj J3x (Jk T.wq (ok_l_told T) (hr.mono (by decide)) rfl (by decide) rfl (pal rfl (pvl 3) (pal rfl (pvl 7) (pal rfl (pvl 5) (pal rfl (pvl 6) Jb))))) (pvl 4) (Jo _)) (J4f (Jj (J87 rfl hr.units) (Jt (pal rfl (pvl 3) (pal rfl (pvl 5) (pal rfl (pvl 6) Jb)))) (pvl 8) (Jo _)))))
   (Jh (Jy J2B))
   Js)
   (Jd (psl 9 J0q.nd (Jk T.wb (ok_l_draw T) (hr.mono (by decide)) rfl (by decide) rfl (pal rfl (pvl 0) (pal rfl Je (pal rfl Je Jb)))))
   (Jd (JY (Jj J0E (pvl 9) Je (Jo _))
   (Jh (Jy J2B))
   Js)
   (Jd (psl 10 J0q.nd (Jt (pal rfl (pvl 5) (pal rfl (pvl 6) Jb))))
   (Jd (JY (Jj J3x (pvl 9) Je (Jo _))
   (Jh (psl 10 J0q.nd (Jt (pal rfl (Jk T.wC (ok_l_spoilt T) (hr.mono (by decide)) rfl (by decide) rfl (pal rfl (pvl 0) (pal rfl (pvl 5) (pal rfl (pvl 1) Jb)))) (pal rfl (JD (J0V rfl) (pvl 10) Je (fun _ _=>rfl)) Jb)))))
   Js)
   (Jd (JY (Jj J3x (pvl 9) Je (Jo _))
   (Jh (psl 10 J0q.nd (Jt (pal rfl (JD (J0V rfl) (pvl 10) Je (fun _ _=>rfl)) (pal rfl (Jk T.wC (ok_l_spoilt T) (hr.mono (by decide)) rfl (by decide) rfl (pal rfl (pvl 0) (pal rfl (pvl 6) (pal rfl (pvl 2) Jb)))) Jb)))))
   Js)
   (Jd (psl 11 J0q.nd Jz)
   (Jd (JY (Jj J0E (pvl 4) Jz (Jo _))
   (Jh (psl 11 J0q.nd Jz))
   Js)
   (Jd (psl 12 J0q.nd (Jt (pal rfl (JW ["_law_group"] ["_law_script","_law_rows","_law_columns","_law_grid_here","_law_good","_law_by_rows","_law_by_columns","_law_many","_law_kept","_law_side","_law_spoilt_here","_law_due","_law_handed"] rfl (show CompSc _ (Jg s_law) ["_law_script","_law_rows","_law_columns","_law_grid_here","_law_good","_law_by_rows","_law_by_columns","_law_many","_law_kept","_law_side","_law_spoilt_here","_law_due","_law_handed"] ["_law_script","_law_rows","_law_columns","_law_grid_here","_law_good","_law_by_rows","_law_by_columns","_law_many","_law_kept","_law_side","_law_spoilt_here","_law_due","_law_handed"] from Jp (by decide +kernel)) (J0d rfl (JD (J0V rfl) (pvl 10) Je (fun _ _=>rfl))) (fun _ _ _ _ _=>(pgl 0 (show (["_law_group","_law_script","_law_rows","_law_columns","_law_grid_here","_law_good","_law_by_rows","_law_by_columns","_law_many","_law_kept","_law_side","_law_spoilt_here","_law_due","_law_handed"]:List Str).Nodup by decide +kernel))) (fun _ _ _ _ _=>JN) (fun _ _ _ _ _=>(J0P (J1V rfl) T.wg J0S rfl (by decide) (by decide) rfl (pal rfl (pvl 0) Jb)))) (pal rfl (JW ["_law_group"] ["_law_script","_law_rows","_law_columns","_law_grid_here","_law_good","_law_by_rows","_law_by_columns","_law_many","_law_kept","_law_side","_law_spoilt_here","_law_due","_law_handed"] rfl (show CompSc _ (Jg s_law) ["_law_script","_law_rows","_law_columns","_law_grid_here","_law_good","_law_by_rows","_law_by_columns","_law_many","_law_kept","_law_side","_law_spoilt_here","_law_due","_law_handed"] ["_law_script","_law_rows","_law_columns","_law_grid_here","_law_good","_law_by_rows","_law_by_columns","_law_many","_law_kept","_law_side","_law_spoilt_here","_law_due","_law_handed"] from Jp (by decide +kernel)) (J0d rfl (JD (J0V rfl) (pvl 10) Je (fun _ _=>rfl))) (fun _ _ _ _ _=>(pgl 0 (show (["_law_group","_law_script","_law_rows","_law_columns","_law_grid_here","_law_good","_law_by_rows","_law_by_columns","_law_many","_law_kept","_law_side","_law_spoilt_here","_law_due","_law_handed"]:List Str).Nodup by decide +kernel))) (fun _ _ _ _ _=>JN) (fun _ _ _ _ _=>(J0P (J1V rfl) T.wg J0S rfl (by decide) (by decide) rfl (pal rfl (pvl 0) Jb)))) Jb))))
   (Jd (JY (PW.pt (J6r (Jj J3x (Jk T.wq (ok_l_told T) (hr.mono (by decide)) rfl (by decide) rfl (pal rfl (pvl 3) (pal rfl (pvl 7) (pal rfl (JD (J0V rfl) (pvl 12) Je (fun _ _=>rfl)) (pal rfl (JD (J0V rfl) (pvl 12) Je (fun _ _=>rfl)) Jb))))) (pvl 11) (Jo _)) (J4f (Jj (J87 rfl hr.units) (pvl 12) (pvl 10) (Jo _)))))
   (Jh (Jy J2B))
   Js)
   (Jh (Jy (JbP (J5I J0E (Jk T.wq (ok_l_told T) (hr.mono (by decide)) rfl (by decide) rfl (pal rfl (pvl 3) (pal rfl (pvl 7) (pal rfl (pvl 5) (pal rfl (pvl 6) Jb))))) (pvl 4) (Jo _)) (JbO (J5I (JcG rfl hr.units) (Jt (pal rfl (pvl 3) (pal rfl (pvl 5) (pal rfl (pvl 6) Jb)))) (pvl 8) (Jo _))))))))))))))))))))))))),?_⟩
  generalize hB5:JI (J17 _ _ _) (JI (J14 _ (JK 5)) _)=B5;walk_at "dl";refine ⟨a,ns,_,_,rfl,hs,by decide,by decide,by decide,fun r' r0 r1=>⟨r',rfl,a,ns,_,_,rfl,hs,by decide,by decide,by decide,fun c' c0 c1=>?_⟩⟩;obtain ⟨R,hR⟩:∃ R:Nat,1+r'=(R:Int):=⟨(1+r').toNat,by omega⟩;obtain ⟨C,hC⟩:∃ C:Nat,1+c'=(C:Int):=⟨(1+c').toNat,by omega⟩;refine ⟨_,rfl,?_⟩;rw [hR,hC];refine ⟨a,ns,R,C,rfl,hs,by omega,by omega,by omega,by omega,fun H1 lg xs g s1 h1 V1 ok1 b1=>?_⟩;have hR1:1<=R/\R<=5:=by omega
  have hC1:1<=C/\C<=5:=by omega
  clear hR hC;have hgl:=V1.1;have hrl:=ok1.rows;obtain ⟨gd,hgd⟩:∃ gd:Str,wS (decide (sm (g.map sm)=0)) false=gd:=⟨_,rfl⟩;generalize hB6:JI (J14 _ (JK 5)) _=B6 at hB5;have F6:∀ H',Same H1 H'->B6 { nx:=fun x H'=>Q V.non H',rt:=Q } [some (V.ref a),some (V.int (R:Int)),some (V.int (C:Int)),some (V.ref lg),some (V.str gd),none,none,none,none,none,none,none,none] H':=by
   intro H2 s2;clear hB5;generalize hB9:JI (J14 _ (JK 8)) _=B9 at hB6;subst hB6;walk_at "dl";have S2:=s1.trans s2;refine ⟨a,ns,10,R,rfl,S2.seq hs,by decide,hR1.1,hR1.2,fun H3 lr ys rgs s3 h3 V3 K3=>⟨a,ns,20,C,rfl,(S2.trans s3).seq hs,by decide,hC1.1,hC1.2,fun H4 lc zs cgs s4 h4 V4 K4=>⟨a,ns,_,_,rfl,((S2.trans s3).trans s4).seq hs,by decide,by decide,by decide,fun many m0 m1=>?_⟩⟩⟩;have S4:=(s2.trans s3).trans s4;have gl10:∀ {m:Nat} {gs:List (List Int)},m<=5->Chn m gs->∀ r∈gs,r.length<=10:=fun hm hc r hr=>by have:=J4A (hc.ok r hr);omega
   have kl:=K3.len;have kl2:=K4.len;have I4:PtI H4 lg lr lc xs ys zs g rgs cgs R C:=⟨S4 _ _ h1,V1.mono S4,ok1,hR1.1,hR1.2,hC1.1,hC1.2,b1,s4 _ _ h3,V3.mono s4,by omega,fun r hr=>by have:=gl10 hR1.2 K3 r hr;omega,h4,V4,by omega,fun r hr=>by have:=gl10 hC1.2 K4 r hr;omega⟩;have hs4:=(s1.trans S4).seq hs;have hxl:=V1.1;have hyl:=V3.1;have hzl:=V4.1;clear s2 s3 s4 S2 S4 h3 V3 h4 V4 h1 V1 s1 hs;generalize hB10:JI (J17 _ _ _) (JI (J14 _ (JK 9)) _)=B10 at hB9;subst hB9;walk_at "dl";refine ⟨⟨_,.of I4.hg⟩,J1N I4.hg I4.gr (by omega) fun y1 G1 t1 W1 D1 hD1=>?_⟩;have w1:=t1.new hD1 (HO.lst y1);have e1:upd G1 D1 (HO.lst y1) D1=some (.lst y1):=Ja;have X1:=W1.mono (Same.upd_new hD1 (HO.lst y1));generalize upd G1 D1 (HO.lst y1)=G2 at *;refine ⟨⟨_,.of (w1 _ _ I4.hr)⟩,J1N (w1 _ _ I4.hr) (I4.rg.mono w1) (by omega) fun y2 G3 t2 W2 D2 hD2=>?_⟩;have w2:=t2.new hD2 (HO.lst y2);have e2:upd G3 D2 (HO.lst y2) D2=some (.lst y2):=Ja;have X2:=W2.mono (Same.upd_new hD2 (HO.lst y2));generalize upd G3 D2 (HO.lst y2)=G4 at *;have w12:=w1.trans w2;refine ⟨⟨_,.of (w12 _ _ I4.hc)⟩,J1N (w12 _ _ I4.hc) (I4.cg.mono w12) (by omega) fun y3 G5 t3 W3 D3 hD3=>?_⟩;have w3:=t3.new hD3 (HO.lst y3);have e3:upd G5 D3 (HO.lst y3) D3=some (.lst y3):=Ja;have X3:=W3.mono (Same.upd_new hD3 (HO.lst y3));generalize upd G5 D3 (HO.lst y3)=G6 at *;refine ⟨Jc (by decide),fun kp hkp=>?_⟩;have w4:=Same.upd_new hkp (HO.tup [V.ref D1,V.ref D2,V.ref D3]);have e4:upd G6 kp (HO.tup [V.ref D1,V.ref D2,V.ref D3]) kp=some (.tup [V.ref D1,V.ref D2,V.ref D3]):=Ja;generalize upd G6 kp (HO.tup [V.ref D1,V.ref D2,V.ref D3])=G7 at *;have I7:=I4.mono (w12.trans (w3.trans w4));have hs7:=(w12.trans (w3.trans w4)).seq hs4;have kept:∀ H',Same G7 H'->Rep K H' (.tuple [.list (J06 g),.list (J06 rgs),.list (J06 cgs)]) (.ref kp):=fun H' s'=>by
    have q2:=(w3.trans w4).trans s';have q3:=w4.trans s';exact J4z (s' _ _ e4) ((w2.trans q2) _ _ e1) (X1.mono (w2.trans q2)) (q2 _ _ e2) (X2.mono q2) (q3 _ _ e3) (X3.mono q3)
   have same3:∀ (H':Hp) (t:Addr),Same G7 H'->H' t=some (.tup [.ref lg,.ref lr,.ref lc])->∀ neg (Q':VK),Q' (.bl (!neg)) H'->J7f K neg (.ref t) (.ref kp) H' Q':=fun H' t s' ht neg Q' q=>by
    have I':=I7.mono s';have sh:SeqAt.shaped (.tuple [.list (J06 g),.list (J06 rgs),.list (J06 cgs)])=true:=by
     obtain ⟨_,r2,r3,_⟩:=JX (K:=K) I'.gr;obtain ⟨_,r5,r6,_⟩:=JX (K:=K) I'.rg;obtain ⟨_,r8,r9,_⟩:=JX (K:=K) I'.cg;simp only [SeqAt.shaped,PyData.canLay0,PyData.canLayAll0,PyData.depth,PyData.depthAll,r2,r5,r8,Bool.true_and,Bool.and_true];exact yL (by omega)
    refine ⟨_,_,J4z ht I'.hg I'.gr I'.hr I'.rg I'.hc I'.cg,kept H' s',sh,sh,?_⟩;have e:PyData.eqv (.tuple [.list (J06 g),.list (J06 rgs),.list (J06 cgs)]) (.tuple [.list (J06 g),.list (J06 rgs),.list (J06 cgs)])=true:=by
     obtain ⟨_,_,_,r4⟩:=JX (K:=K) I'.gr;obtain ⟨_,_,_,r7⟩:=JX (K:=K) I'.rg;obtain ⟨_,_,_,r10⟩:=JX (K:=K) I'.cg;simp only [PyData.eqv,PyData.eqvAll,r4,r7,r10,Bool.and_true]
    rw [e];cases neg<;>exact q
   clear kept e1 e2 e3 e4 X1 X2 X3 W1 W2 W3 w1 w2 w3 w4 w12 t1 t2 t3 hD1 hD2 hD3 hkp I4 hs4;have told7:∀ (H':Hp) (Q':VK),Same G7 H'->(∀ H2,Same G7 H2->Q' (.str gd) H2)->J55 K f [V.ref lg,V.int many,V.ref lr,V.ref lc] H' Q' E0:=fun H' Q' s' q=>⟨lg,lr,lc,xs,ys,zs,g,rgs,cgs,R,C,many,false,rfl,I7.mono s',m0,by omega,⟨K3,K4⟩,fun H2 s2=>by rw [hgd];exact q H2 (s'.trans s2)⟩;generalize hB11:JI (J14 _ (JK 9)) _=B11 at hB10;subst hB10;walk_at "dl";refine told7 G7 _ (Same.refl _) fun H8 s8=>⟨rfl,?_⟩;rw [yH (by simp)];refine ⟨Jc (by decide),fun t ht=>same3 _ t (s8.new ht _) Ja true _ ⟨false,rfl,?_⟩⟩;rw [yH (by decide)];have s9:=s8.new ht (HO.tup [V.ref lg,V.ref lr,V.ref lc]);generalize upd H8 t (HO.tup [V.ref lg,V.ref lr,V.ref lc])=H9 at *;clear ht s8;generalize hB13:JI (J14 _ (JK 10)) _=B13 at hB11;subst hB11;walk_at "dl";refine ⟨a,ns,_,_,rfl,s9.seq hs7,by decide,by decide,by decide,fun sd d0 d1=>⟨rfl,?_⟩⟩
   split
   ·exact k _
   generalize hB16:JI (J14 _ (JK 11)) _=B16 at hB13;have F16:∀ (H':Hp) (lr' lc' sp:Addr) (ys' zs':List V) (rgs' cgs':List (List Int)),Same G7 H'->H' sp=some (.tup [V.ref lr',V.ref lc'])->PtI H' lg lr' lc' xs ys' zs' g rgs' cgs' R C->¬ (J2P R rgs'/\J2P C cgs') ->
    B16 { nx:=fun x H'=>Q V.non H',rt:=Q } [some (V.ref a),some (V.int (R:Int)),some (V.int (C:Int)),some (V.ref lg),some (V.str gd),some (V.ref lr),some (V.ref lc),some (V.int many),some (V.ref kp),some (V.int sd),some (V.ref sp),none,none] H':=by
    intro H' lr' lc' sp ys' zs' rgs' cgs' s' hsp I' bad;clear hB13;generalize hB18:JI (J14 _ (JK 12)) _=B18 at hB16;obtain ⟨du,hdu⟩:∃ du:Str,wS (decide (sm (g.map sm)=0)) true=du:=⟨_,rfl⟩;have F18:B18 { nx:=fun x H'=>Q V.non H',rt:=Q } [some (V.ref a),some (V.int (R:Int)),some (V.int (C:Int)),some (V.ref lg),some (V.str gd),some (V.ref lr),some (V.ref lc),some (V.int many),some (V.ref kp),some (V.int sd),some (V.ref sp),some (V.str du),none] H':=by
     clear hB16;generalize hB19:JI (J17 _ _ _) _=B19 at hB18;subst hB18;walk_at "dl";have rl':=I'.rg.1;have cl':=I'.cg.1;have rll:=I'.rl;have cll:=I'.cl;refine ⟨sp,_,_,_,rfl,rfl,.of hsp,Jn (j:=0) rfl,lr',rfl,⟨_,.of I'.hr⟩,J1N I'.hr I'.rg (by omega) fun y1 G1 t1 W1 D1 hD1=>?_⟩;have w1:=t1.new hD1 (HO.lst y1);have e1:upd G1 D1 (HO.lst y1) D1=some (.lst y1):=Ja;have X1:=W1.mono (Same.upd_new hD1 (HO.lst y1));generalize upd G1 D1 (HO.lst y1)=G2 at *;refine ⟨sp,_,_,_,rfl,rfl,.of (w1 _ _ hsp),Jn (j:=1) rfl,lc',rfl,⟨_,.of (w1 _ _ I'.hc)⟩,J1N (w1 _ _ I'.hc) (I'.cg.mono w1) (by omega) fun y2 G3 t2 W2 D2 hD2=>?_⟩;have w2:=t2.new hD2 (HO.lst y2);have e2:upd G3 D2 (HO.lst y2) D2=some (.lst y2):=Ja;have X2:=W2.mono (Same.upd_new hD2 (HO.lst y2));generalize upd G3 D2 (HO.lst y2)=G4 at *;refine ⟨Jc (by decide),fun hd hhd=>?_⟩;have w3:=Same.upd_new hhd (HO.tup [V.ref D1,V.ref D2]);have e3:upd G4 hd (HO.tup [V.ref D1,V.ref D2]) hd=some (.tup [V.ref D1,V.ref D2]):=Ja;generalize upd G4 hd (HO.tup [V.ref D1,V.ref D2])=G5 at *;have q1:=w2.trans w3;have q0:=w1.trans q1;have I5:=I'.mono q0;have J5:PtI G5 lg D1 D2 xs y1 y2 g rgs' cgs' R C:=⟨I5.hg,I5.gr,I5.ok,I5.r1,I5.r5,I5.c1,I5.c5,I5.b,q1 _ _ e1,X1.mono q1,I5.rl,I5.rr,w3 _ _ e2,X2.mono w3,I5.cl,I5.cr⟩;have hsp5:=q0 _ _ hsp;have s5:=s'.trans q0;clear w1 w2 w3 q0 q1 t1 t2 W1 W2 X1 X2 e1 e2 hD1 hD2 hhd I' hsp s';subst hB19;walk_at "dl";refine ⟨hd,_,_,_,rfl,rfl,.of e3,Jn (j:=0) rfl,hd,_,_,_,rfl,rfl,.of e3,Jn (j:=1) rfl,lg,D1,D2,xs,y1,y2,g,rgs',cgs',R,C,many,true,rfl,J5,m0,by omega,bad,fun H6 s6=>?_⟩;rw [hdu];refine ⟨rfl,?_⟩;rw [yH (by simp)];have I6:=I5.mono s6;have J6:=J5.mono s6;refine JaX (s6 _ _ e3) J6.hr J6.rg J6.hc J6.cg (s6 _ _ hsp5) I6.hr I6.rg I6.hc I6.cg ⟨false,rfl,?_⟩;rw [yH (by decide)];refine told7 H6 _ (s5.trans s6) fun H7' s7=>⟨rfl,?_⟩;rw [yI rfl];exact ⟨Jc (by decide),fun t ht=>same3 _ t (s7.new ht _) Ja false _ (k _)⟩
    clear hB18;subst hB16;walk_at "dl";by_cases c:sm (g.map sm)=0
    ·rw [yL c] at hgd hdu
     subst hgd hdu;exact F18
    ·rw [yM c] at hgd hdu
     subst hgd hdu;exact F18
   clear hB16;generalize hB15:JI (J17 _ _ _) B16=B15 at hB13;have F15:∀ (H':Hp) (lr' sp:Addr) (ys':List V) (rgs':List (List Int)),Same G7 H'->H' sp=some (.tup [V.ref lr',V.ref lc])->PtI H' lg lr' lc xs ys' zs g rgs' cgs R C->(sd≠1->¬ J2P R rgs') ->
    B15 { nx:=fun x H'=>Q V.non H',rt:=Q } [some (V.ref a),some (V.int (R:Int)),some (V.int (C:Int)),some (V.ref lg),some (V.str gd),some (V.ref lr),some (V.ref lc),some (V.int many),some (V.ref kp),some (V.int sd),some (V.ref sp),none,none] H':=by
    intro H' lr' sp ys' rgs' s' hsp I' bad;clear hB13;subst hB15;walk_at "dl";by_cases c:sd=0
    ·rw [yH (by simp [c])]
     exact F16 H' lr' lc sp ys' zs rgs' cgs s' hsp I' fun z=>bad (by omega) z.1
    ·rw [yI (by simp [c])]
     refine ⟨sp,_,_,_,rfl,rfl,.of hsp,Jn (j:=0) rfl,a,lc,ns,zs,cgs,C,rfl,s'.seq hs7,I'.hc,I'.cg,by omega,gl10 hC1.2 K4,hC1.1,hC1.2,fun H2 D gs' B2=>⟨Jc (by decide),fun t ht=>?_⟩⟩;obtain ⟨zs',hd,hV⟩:=B2.d;have u1:=Same.upd_new ht (HO.tup [V.ref lr',V.ref D]);have I2:=I'.mono (B2.same.trans u1);refine F16 _ lr' D t ys' zs' rgs' gs' ((s'.trans B2.same).trans u1) Ja ⟨I2.hg,I2.gr,I2.ok,I2.r1,I2.r5,I2.c1,I2.c5,I2.b,I2.hr,I2.rg,I2.rl,I2.rr,u1 _ _ hd,hV.mono u1,by have:=B2.len;omega,B2.rows⟩ fun z=>B2.bad z.2
   clear hB15 F16;subst hB13;walk_at "dl";refine ⟨Jc (by decide),fun t ht=>?_⟩;have u1:=s9.new ht (HO.tup [V.ref lr,V.ref lc]);have d1:upd H9 t (HO.tup [V.ref lr,V.ref lc]) t=some (.tup [V.ref lr,V.ref lc]):=Ja;generalize upd H9 t (HO.tup [V.ref lr,V.ref lc])=H10 at *;have I10:=I7.mono u1;by_cases c:sd=1
   ·rw [yH (by simp [c])]
    exact F15 H10 lr t ys rgs u1 d1 I10 fun z=>absurd c z
   ·rw [yI (by simp [c])]
    refine ⟨a,lr,ns,ys,rgs,R,rfl,u1.seq hs7,I10.hr,I10.rg,by omega,gl10 hR1.2 K3,hR1.1,hR1.2,fun H2 D gs' B2=>⟨t,_,_,_,rfl,rfl,.of (B2.same _ _ d1),Jn (j:=1) rfl,Jc (by decide),fun t2 ht2=>?_⟩⟩;obtain ⟨ys',hd,hV⟩:=B2.d;have u2:=Same.upd_new ht2 (HO.tup [V.ref D,V.ref lc]);have I2:=I10.mono (B2.same.trans u2);exact F15 _ D t2 ys' gs' ((u1.trans B2.same).trans u2) Ja ⟨I2.hg,I2.gr,I2.ok,I2.r1,I2.r5,I2.c1,I2.c5,I2.b,u2 _ _ hd,hV.mono u2,by have:=B2.len;omega,B2.rows,I2.hc,I2.cg,I2.cl,I2.cr⟩ fun _=>B2.bad
  clear hB6;subst hB5;walk_at "dl";refine ⟨⟨_,.of h1⟩,?_⟩;refine Jx (xs:=xs) Ju (by rw [hgl];exact Jc (by omega)) (fun i ys H'=>H'=H1/\ys=((g.map sm).take i).map V.int) ⟨rfl,rfl⟩ (fun _ _ _ _ q=>by rw [q.1];exact .of h1) (fun i ys H' q=>by rw [q.2];simp;omega) ?_ ?_
  ·rintro i x ys H2 hx ⟨rfl,rfl⟩
   obtain ⟨r,hr,pr,rfl,hpr⟩:=All2.at V1 hx;walk_at "dl";refine ⟨r,.of hpr,⟨_,rfl⟩,?_⟩;rw [take_add_one,ze,hr,zg];rfl
  ·rintro zs0 H2 ⟨rfl,rfl⟩ p1 hp1
   have et:(g.map sm).take xs.length=g.map sm:=take_of_length_le (by rw [hgl,yW];exact yJ _);rw [et];refine ⟨g.map sm,.of Ja,?_⟩;have u1:=Same.upd_new hp1 (HO.lst ((g.map sm).map V.int));by_cases c:List.foldl (fun x1 x2=>x1+x2) 0 (g.map sm)=0
   ·rw [yI c]
    rw [yL (show sm (g.map sm)=0 from c)] at hgd;subst hgd;exact F6 _ u1
   ·rw [yH c]
    rw [yM (show ¬ sm (g.map sm)=0 from c)] at hgd;subst hgd;exact F6 _ u1
end
theorem walk {l:PySem.W.OpenLaw}{q:Program}{loose:List Str}{XP:(Str->Option Value)->Heap->Prop}{YP:World->Heap->Prop}{d:DefRec}{K:Params->Frag}(hn:l.most=some 63)(hdf:d.params.defaults=[])
 (hY:∀ (w:World) (h:Heap),YP w h->(K w.params).In h)
 (F:∀ (w:World) (mg:Str->Option Value) (fa:Addr) (h:Heap),(K w.params).In h->h.Ns mainGlobals mg->mg d.name=some (.ref fa) ->
  ∃ fd:FuncData,(∀ (s:Shared) (u:Value),BindsTo s fd ⟨[u],[]⟩ [("_law_script",u)])/\∀ base:Heap,(K w.params).In base->base.Ns mainGlobals mg->FnOk l.prog w (K w.params) mg base CX0 9 fa fd ["_law_script"] (J5x (K w.params))) :
 PySem.W.WalkO q loose XP YP l.row.toRowW d [] (fun f vs=>PySem.call f vs) :=
 L2.walk_of (n:=63) (k:=9) (x:="_law_script") (CX:=fun _=>CX0) (sp:=fun w=>J5x (K w.params)) hn (by decide) hdf ⟨rfl,by decide,by decide⟩ hY F (fun _ _ a ns hl _ hS=>⟨a,ns,rfl,hS,hl,fun _=>rfl⟩) fun _ _ _ _ _ z=>z
theorem all_mk {l:PySem.W.OpenLaw}{w:World}{K:Frag}{h:Heap}{mg:Str->Option Value}{fa:Addr}(X:K.In h)(G:h.Ns mainGlobals mg)(hfa:mg "law"=some (.ref fa))(T:∃ f fd,Txt K mg f fd/\f 37=f 37/\∃ kV dc pm an cd ct,fd 37=PySem.W.fnOf "law" "law" (J13 s_law) (J0H s_law) (Jg s_law) .none kV dc pm an cd ct) :
 ∃ fd:FuncData,(∀ (s:Shared) (v:Value),BindsTo s fd ⟨[v],[]⟩ [("_law_script",v)])/\∀ base:Heap,K.In base->base.Ns mainGlobals mg->FnOk l.prog w K mg base CX0 9 fa fd ["_law_script"] (J5x K):=by
 obtain ⟨f,fd,T,_,kV,dc,pm,an,cd,ct,e⟩:=T;have e2:=hfa.symm.trans T.wU.m;cases e2;exact ⟨fd 37,fun s v=>by rw [e];exact .of_eq rfl,fun base _ _=>ok_law T⟩
end NS
namespace PySem.W.Fast
def tw5411087700932235264:=0
def tw11912587965798826304:=0
def tw11417951155776734688:=0
def tw4408229359895844416:=0
def tw14780502368730406560:=0
def tw6738388934394714145:=0
def tw13276003158675342369:=0
def tw10934763308184378625:=0
def tw6836184507645436161:=0
def tw3021014584681645569:=0
def tw8387103311070797441:=0
def tw16216093214498826145:=0
def tw4312213821344523298:=0
def tw1721084725261559906:=0
def tw6792461578664913058:=0
def tw5219019967790115170:=0
def tw9059787944439323426:=0
def tw11449992580558396226:=0
def tw4489808820682851266:=0
def tw9676471554804981795:=0
def tw4553149886486786211:=0
def tw1216478880218318115:=0
def tw13120409767623715107:=0
def tw7661896137981456675:=0
def tw45743658633665891:=0
def tw4047879159363003747:=0
def tw17304942224284897667:=0
def tw13826589255174680067:=0
def tw12523269927468270083:=0
def tw16252232616293503619:=0
def tw11576419231635824259:=0
def tw16466041627526433507:=0
def tw4921719481029272451:=0
def tw12621798316206925795:=0
def tw17556562502678323204:=0
def tw17283017356460956804:=0
def tw6214237242947849604:=0
def tw2160805861285178788:=0
def tw4451978268747728580:=0
def tw7088942363529344772:=0
def tw3525074215199122565:=0
def tw4425770523600371045:=0
def tw12974269395348808037:=0
def tw17721549446830954885:=0
def tw5503340940561654373:=0
def tw13326571683420689061:=0
def tw10076451016953270181:=0
def tw17490085766229746694:=0
def tw4901998597812762118:=0
def tw998377567368093382:=0
def tw2898239990517330886:=0
def tw15267402520645412935:=0
def tw8266222903891081543:=0
def tw8187550027203958151:=0
def tw75237448321702375:=0
def tw9893280377051867911:=0
def tw4603161270767770728:=0
def tw14219535746967297224:=0
def tw5036370184497882408:=0
def tw6229167770074074440:=0
def tw18337330553296524553:=0
def tw14899604074608263465:=0
def tw188885340391158217:=0
def tw4270026418991808969:=0
def tw12868312366736510633:=0
def tw16843797972645952457:=0
def tw17920126033505859274:=0
def tw2389900468425319146:=0
def tw17452005333975422315:=0
def tw4389435500141022603:=0
def tw11905802534301827499:=0
def tw5952187616623565387:=0
def tw17018067141411211083:=0
def tw15031193438014717803:=0
def tw13219779324889941963:=0
def tw4061716580906245644:=0
def tw11975858784011069196:=0
def tw10755082604638627596:=0
def tw602417738070705036:=0
def tw17791860731435267501:=0
def tw13197289867329166829:=0
def tw10027647591106691693:=0
def tw11140274874072813:=0
def tw14954706087016467309:=0
def tw10766881916235457614:=0
def tw17011984981871058094:=0
def tw16014248694512187694:=0
def tw18302627297905104302:=0
def tw8629558052162369134:=0
def tw3413493416780184302:=0
def tw16044648944219641614:=0
def tw1958969916945487726:=0
def tw6240502350837217359:=0
def tw4696142071020716143:=0
def tw4448083368747763823:=0
def tw580418461245258863:=0
def tw5326897930206583951:=0
def tw14314596414874332463:=0
def tw1525369047002102095:=0
def tw9514041986069189039:=0
def tw5457368825956408815:=0
def tw16400583306533276303:=0
def tw6098322548020659023:=0
def tw7849302329858933615:=0
def tw16566416596592266416:=0
def tw13356073919933492592:=0
def tw18036524005796963760:=0
def tw4181521921648347632:=0
def tw1924818266530555440:=0
def tw1634878616288505392:=0
def tw15270987008898108048:=0
def tw711990918785858224:=0
def tw17415357825008713488:=0
def tw7631432699023060816:=0
def tw3484540458438299504:=0
def tw8429687186846277584:=0
def tw6271046120706071601:=0
def tw7481780047715644529:=0
def tw7719137661455143153:=0
def tw11448457179073811793:=0
def tw10559867249592751953:=0
def tw11675531723934694257:=0
def tw4336603306194291601:=0
def tw7946549187771778961:=0
def tw4288524392403563602:=0
def tw5815405722742786162:=0
def tw10905877815923544274:=0
def tw11046688808481884370:=0
def tw18177532743335333298:=0
def tw1445001301401681394:=0
def tw7114879614747555378:=0
def tw13079040213559902930:=0
def tw16655050949889580754:=0
def tw17267585492220411602:=0
def tw14753353553226720082:=0
def tw8121934951626793139:=0
def tw8692518444679636371:=0
def tw17885448225370810771:=0
def tw5609169239267635795:=0
def tw16884209261647518547:=0
def tw8338129130656637044:=0
def tw15458230297491033492:=0
def tw10779500960665736628:=0
def tw7302563434006078932:=0
def tw3758347587638974964:=0
def tw8793076329114091092:=0
def tw15308617043784246036:=0
def tw508683732221385524:=0
def tw7678989419781698805:=0
def tw1319181800346598709:=0
def tw5896426461035661653:=0
def tw17093280193552849269:=0
def tw5218556974258397877:=0
def tw13931454497336927029:=0
def tw1763509853166326741:=0
def tw6733044851895663734:=0
def tw68026185259268342:=0
def tw15511838937163815670:=0
def tw13495650596870823734:=0
def tw14789103944076271511:=0
def tw7996869931364162840:=0
def tw17946037872004331832:=0
def tw14579881410851802552:=0
def tw23984216097318488:=0
def tw15863219417666418584:=0
def tw17278715644095134009:=0
def tw10803525085947705689:=0
def tw16622721400955607513:=0
def tw10283053314899075833:=0
def tw15408435300944979002:=0
def tw7261571342825383034:=0
def tw1228010056819028122:=0
def tw3966611909161432378:=0
def tw6805473649115342202:=0
def tw3351132587434961338:=0
def tw8271198258579608090:=0
def tw9321772308868132506:=0
def tw3783361408346036922:=0
def tw8581349297834670010:=0
def tw8156244941542757659:=0
def tw11402925227979545915:=0
def tw10257631413820173691:=0
def tw9191298475888819963:=0
def tw11374120115334636315:=0
def tw2822773910874723259:=0
def tw10391850461375450428:=0
def tw4146419899174703420:=0
def tw3236912462529172860:=0
def tw11262060131037704572:=0
def tw4670894767761238428:=0
def tw823763164219941500:=0
def tw16708593252721510140:=0
def tw793237035018586940:=0
def tw12525441125262777212:=0
def tw309245203505097789:=0
def tw16453294169229740445:=0
def tw13587259472238928349:=0
def tw17205238851076383325:=0
def tw8556969823325844061:=0
def tw13687227456389224125:=0
def tw17368553090505988925:=0
def tw12563623821700067454:=0
def tw17218098111735734398:=0
def tw10689796686010469502:=0
def tw11831334017101256894:=0
def tw6348099808643977406:=0
def tw13374280695650189534:=0
def tw6972835924321407454:=0
def tw1767940673952699006:=0
def tw10921477188877544094:=0
def tw6302522345148867358:=0
def tw14937168834233773119:=0
def tw15560947158645456607:=0
def tw10488992166305527519:=0
def tw714205208641012511:=0
def tw11120999586298090631:=0
end PySem.W.Fast
open PySem PySem.W PyProof.Rows
set_option maxRecDepth 100000 in
set_option maxHeartbeats 0 in
theorem PySem.Challenge.cw_crosshall_k37_parts_refused_holds : PySem.Challenge.rw_crosshall_k37_parts_refused.Holds := by
 w_on;o_law;k_head;(case hw=>w_witness2)
 k_fill
 refine NS.walk (l:=PySem.Challenge.rw_crosshall_k37_parts_refused) rfl rfl (fun w h Y=>by first | exact PySem.W.kIn_of Y | exact PySem.W.km_in_of Y) ?F
 case F =>
  intro w mg fa h KX G hmg;refine NS.all_mk KX G hmg ?_
  suffices TT:∃ f fd,NS.Txt (L2.KOf KX) mg f fd/\f 37=f 37/\∃ kV dc pm an cd ct,fd 37=PySem.W.fnOf "law" "law" (L2.J13 NS.s_law) (L2.J0H NS.s_law) (L2.Jg NS.s_law) .none kV dc pm an cd ct from TT
  dsimp only [L2.KOf];obtain ⟨f,fd,T,_,z⟩:∃ f fd,NS.Txt _ mg f fd/\f 37=_/\∃ kV dc pm an cd ct,fd 37=PySem.W.fnOf "law" "law" (L2.J13 NS.s_law) (L2.J0H NS.s_law) (L2.Jg NS.s_law) .none kV dc pm an cd ct:=by
   refine' NS.txt_mk KX G ?a1 ?a2 ?a3 ?a4 ?a5 ?a6 ?a10 ?a8 ?l8 ?a11 ?l11 ?a13 ?l13 ?a16 ?l16 ?a17 ?l17 ?a18 ?l18 ?a19 ?l19 ?a20 ?l20 ?a21 ?l21 ?a22 ?l22 ?a23 ?l23 ?a24 ?l24 ?a25 ?l25 ?a26 ?l26 ?a27 ?l27 ?a28 ?l28 ?a30 ?l30 ?a31 ?l31 ?a32 ?l32 ?a33 ?l33 ?a34 ?l34 ?a35 ?l35 ?a36 ?l36 ?a37 ?l37 ?a11000 ?l11000 ?b11000 ?a11001 ?l11001 ?b11001 ?a11002 ?l11002 ?b11002 ?a11003 ?l11003 ?b11003 ?a11004 ?l11004 ?b11004 ?x_NoWhole_e ?x_NoWhole_kp ?x_NoWhole_ga ?x_NoWhole_gh ?x_NoWhole_ba ?x_NoWhole_ob ?x_NoWhole_hd ?x_NoWhole_cl ?x_NoWhole_cg ?x_NoWhole_ct ?x_NoWhole_sa ?x_NoGroups_e ?x_NoGroups_kp ?x_NoGroups_ga ?x_NoGroups_gh ?x_NoGroups_ba ?x_NoGroups_ob ?x_NoGroups_hd ?x_NoGroups_cl ?x_NoGroups_cg ?x_NoGroups_ct ?x_NoGroups_sa ?o_Stream_pg ?o_Stream_hd ?o_Stream_po ?o_Stream_sa ?o_Stream_ma ?o_Stream_kp ?v_na_Stream_arcs ?v_na_Stream_borne ?v_na_Stream_steps ?v_ki_NoGroups_CrossError ?v_ki_NoGroups_NoHead ?v_ki_NoGroups_NoNet ?v_su_NoGroups_NoWhole ?v_ki_NoGroups_NoWhole ?v_su_NoGroups_NoGroups ?v_ki_NoGroups_NoGroups ?v_ki_NoGroups_NoVeil ?v_kv_NoGroups ?v_ki_NoWhole_CrossError ?v_ki_NoWhole_NoHead ?v_ki_NoWhole_NoNet ?v_su_NoWhole_NoWhole ?v_ki_NoWhole_NoWhole ?v_su_NoWhole_NoGroups ?v_ki_NoWhole_NoGroups ?v_ki_NoWhole_NoVeil ?v_kv_NoWhole ?z_ValueError ?z_enumerate ?z_int ?z_isinstance ?z_len ?z_list ?z_min ?z_range ?z_set ?z_sorted ?z_sum ?z_zip ?y_MOST_GROUPS
   (case a1 | a2 | a3 | a4 | a5 | a6 | a10 | a8 | a11 | a13 | a16 | a17 | a18 | a19 | a20 | a21 | a22 | a23 | a24 | a25 | a26 | a27 | a28 | a30 | a31 | a32 | a33 | a34 | a35 | a36 | a37 | a11000 | b11000 | a11001 | b11001 | a11002 | b11002 | a11003 | b11003 | a11004 | b11004 | x_NoWhole_kp | x_NoWhole_ga | x_NoWhole_gh | x_NoWhole_ba | x_NoWhole_ob | x_NoWhole_hd | x_NoWhole_cl | x_NoWhole_cg | x_NoWhole_ct | x_NoWhole_sa | x_NoGroups_kp | x_NoGroups_ga | x_NoGroups_gh | x_NoGroups_ba | x_NoGroups_ob | x_NoGroups_hd | x_NoGroups_cl | x_NoGroups_cg | x_NoGroups_ct | x_NoGroups_sa | o_Stream_pg | o_Stream_hd | o_Stream_po | o_Stream_sa | o_Stream_ma | o_Stream_kp | v_na_Stream_arcs | v_na_Stream_borne | v_na_Stream_steps | z_ValueError | z_enumerate | z_int | z_isinstance | z_len | z_list | z_min | z_range | z_set | z_sorted | z_sum | z_zip | y_MOST_GROUPS=>k_is)
   (case l8 | l11 | l13 | l16 | l17 | l18 | l19 | l20 | l21 | l22 | l23 | l24 | l25 | l26 | l27 | l28 | l30 | l31 | l32 | l33 | l34 | l35 | l36 | l37 | l11000 | l11001 | l11002 | l11003 | l11004=>refine' L2.Jcb ?l ?c ?k;(case l=>k_is);(case c | k=>k_is))
   (case x_NoWhole_e | x_NoGroups_e=>kernel_rfl)
   (case v_ki_NoGroups_CrossError | v_ki_NoGroups_NoHead | v_ki_NoGroups_NoNet | v_su_NoGroups_NoWhole | v_ki_NoGroups_NoWhole | v_su_NoGroups_NoGroups | v_ki_NoGroups_NoGroups | v_ki_NoGroups_NoVeil | v_kv_NoGroups | v_ki_NoWhole_CrossError | v_ki_NoWhole_NoHead | v_ki_NoWhole_NoNet | v_su_NoWhole_NoWhole | v_ki_NoWhole_NoWhole | v_su_NoWhole_NoGroups | v_ki_NoWhole_NoGroups | v_ki_NoWhole_NoVeil | v_kv_NoWhole=>rfl)
  exact ⟨f,fd,T,rfl,z⟩